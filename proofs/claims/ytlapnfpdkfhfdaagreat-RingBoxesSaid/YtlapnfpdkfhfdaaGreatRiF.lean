/- Layer 19: find, Key, Box, Newest, Seqs of a ring. Condition: what is said of the ring. -/
import Derived.Test.YtlapnfpdkfhfdaaGreatRiM
import Derived.Test.YtlapnfpdkfhfdaaGreatClone
import Derived.Test.YtlapnfpdkfhfdaaGreatIntM
namespace Go.Proofs.YtlapnfpdkfhfdaaGreat
open Go.RowKit
set_option linter.unusedVariables false
set_option linter.unusedSimpArgs false

set_option maxRecDepth 100000 in
set_option maxHeartbeats 2000000 in
theorem find1_any (cs : List Value) (p q : Int) (b : Nat) (w : World) (h1 : cs[1]? = some (.int .i64 p)) (hq : w.cell? ⟨b, 0, none⟩ = some (.int .i64 q)) (v : Bool) (hv : (p == q) = v) :
    Calls Tryz.prog 42 #[.agg cs.toArray, .pointer (some ⟨b, 0, none⟩)] w fun e w' => e = .returned (.bool v) ∧ Below w.heap.size w w' := by
  have H1 := Lib.hid h1
  have HQ := Lib.hid hq
  clear h1 hq
  go_enter Tryz.func42, Tryz.ntmps42
  go_wp2_with (first
    | (refine wpList_boxB rfl 60 (.tmp 0) rfl cs rfl ?_; intro w1 g1 k1 hb1 hg1; have hc1 := (k1.cell 1).trans H1.out; have hc0 := (hb1.cell (p := ⟨b, 0, none⟩) (World.block_lt_of_cell? w _ HQ.out)).trans HQ.out; have HB1 := Lib.hid hb1; clear hb1 k1 hg1))
  go_ret
  exact ⟨rfl, HB1.out⟩
set_option maxRecDepth 100000 in
set_option maxHeartbeats 4000000 in
theorem index_any (base : Nat) (A : Option Addr) (c : Nat) (es : Ens) (b : Nat) (q : Int) (w : World) (h : GE w base A c es) (hn : es.length ≤ 1000) (hq : w.cell? ⟨b, 0, none⟩ = some (.int .i64 q)) :
    Calls Tryz.prog 41 #[.slice A es.length c, .func (.func 42) #[] #[.pointer (some ⟨b, 0, none⟩)]] w fun e w' => e = .returned (.int .i64 (idxR (rgE es) q)) ∧ Below w.heap.size w w' := by
  have H := Lib.hid h
  have HQ := Lib.hid hq
  obtain ⟨n, HN⟩ : ∃ n, Hid (es.length = n) := ⟨_, Lib.hid rfl⟩
  rw [HN.out] at hn ⊢
  clear h hq
  go_enter Tryz.func41, Tryz.ntmps41
  go_wp2_with fail
  go_loopw [8] (fun i wr => ∃ k : Nat, k ≤ n ∧ i = .int .i64 (k : Int) ∧ Hid (Below w.heap.size w wr ∧ ∀ j e, j < k → es[j]? = some e → e.2 ≠ q)) (fun i _ => n - (intOf i).toNat)
  case atStart => exact ⟨0, by omega, rfl, Lib.hid ⟨Below.refl _ _, fun j e hj => absurd hj (by omega)⟩⟩
  case round =>
    obtain ⟨k, hk, rfl, HK⟩ := hrel
    by_cases hlt : k < n
    · have HG := Lib.hid (H.out.step HK.out.1)
      obtain ⟨g, r, rfl, hg, hr, hl, hrg, _⟩ := HG.out.at_ (i := k) (by rw [HN.out]; exact hlt)
      rw [List.getElem?_map] at hr
      obtain ⟨e0, he0, rfl⟩ : ∃ e0, es[k]? = some e0 ∧ enR e0 = r := by
        rcases hh : es[k]? with _ | e0
        · rw [hh] at hr; cases hr
        · rw [hh] at hr; injection hr with hr; exact ⟨e0, rfl, hr⟩
      have HE := Lib.hid he0
      have HR := Lib.hid (And.intro hl hrg)
      obtain ⟨v, HV⟩ : ∃ v, Hid ((e0.2 == q) = v) := ⟨_, Lib.hid rfl⟩
      have HF := Lib.hid (find1_any (enR e0) e0.2 q b wr rfl (by exact (HK.out.1.cell (p := ⟨b, 0, none⟩) (World.block_lt_of_cell? w _ HQ.out)).trans HQ.out) v HV.out)
      clear he0 hr hl hrg hg
      go_wp2_with (first
        | (refine wpList_ldR rt_en rfl (.tmp 14) rfl g (k * 18) (by first | rfl | simp [Act.eval, Act.put]) (enR e0) HR.out.2 HR.out.1 ?_))
      refine HF.out.mono ?_
      rintro e w1 ⟨rfl, hb⟩
      have HB1 := Lib.hid (bel_next HK.out.1 hb)
      clear hb HF
      rcases v with _ | _
      · go_wp2_with fail
        go_roundw
        case rel => exact ⟨k + 1, by omega, by go_num, Lib.hid ⟨HB1.out, fun j e hj he => by
          rcases Nat.lt_or_ge j k with h | h
          · exact HK.out.2 j e h he
          · obtain rfl : j = k := by omega
            rw [HE.out] at he
            injection he with he
            subst he
            exact beq_eq_false_iff_ne.1 HV.out⟩⟩
        case measure => simp [intOf]; omega
      · go_wp2_with fail
        go_ret
        refine ⟨?_, HB1.out⟩
        have hf : findR (rgE es) q = some k := by
          unfold findR rgE
          rw [List.findIdx?_eq_some_iff_getElem]
          have hkl : k < es.length := by rw [HN.out]; exact hlt
          refine ⟨by rw [List.length_map]; exact hkl, ?_, fun j hj => ?_⟩
          · rw [List.getElem_map]
            have : es[k] = e0 := by have := HE.out; rw [List.getElem?_eq_getElem hkl] at this; injection this
            rw [this]; exact HV.out
          · rw [List.getElem_map]
            have := HK.out.2 j es[j] hj (List.getElem?_eq_getElem (by omega))
            simpa using this
        unfold idxR
        rw [hf]
        rfl
    · have hkn : k = n := by omega
      subst hkn
      go_wp2_with fail
      go_ret
      refine ⟨?_, HK.out.1⟩
      have hf : hasR (rgE es) q = false := by
        rw [has_noR]
        unfold seqsR rgE
        rw [List.map_map]
        intro hm
        obtain ⟨e0, he, e1⟩ := List.mem_map.1 hm
        obtain ⟨j, hj, hje⟩ := List.getElem_of_mem he
        exact HK.out.2 j e0 (by rw [← HN.out]; exact hj) (by rw [List.getElem?_eq_getElem hj, hje]) e1
      rw [idx_neg hf]
      rfl
set_option maxRecDepth 100000 in
set_option maxHeartbeats 2000000 in
theorem find_any (base : Nat) (x : Nat) (A : Option Addr) (c : Nat) (es : Ens) (N F : Nat) (q : Int) (w : World) (h : Rn base w x A c es N F) (hn : es.length ≤ 1000) :
    Calls Tryz.prog 24 #[.pointer (some ⟨x, 0, none⟩), .int .i64 q] w fun e w' => e = .returned (.int .i64 (idxR (rgE es) q)) ∧ Below w.heap.size w w' := by
  have hb1 := below_alloc w (.cells #[.int .i64 q] 3)
  have HI := Lib.hid (index_any base A c es w.heap.size q (w.alloc (.cells #[.int .i64 q] 3)) (h.grd.step hb1) hn (World.cell?_alloc_at _ _ _ _ rfl))
  have HB1 := Lib.hid hb1
  have hc0 : (w.alloc (.cells #[.int .i64 q] 3)).cell? ⟨x, 0, none⟩ = some (.slice A es.length c) := (hb1.cell (p := ⟨x, 0, none⟩) h.blk.lt).trans h.c0
  have hmf : ∀ (fn : Fn) (first cap : Array Value) (w : World), (Instr.makeFunc fn first cap).run Tryz.prog w = .ok (.func fn first cap) w := fun _ _ _ _ => rfl
  clear h hb1
  go_enter Tryz.func24, Tryz.ntmps24
  go_wp2_with fail
  refine HI.out.mono ?_
  rintro e w1 ⟨rfl, hb⟩
  have HB2 := Lib.hid (bel_next HB1.out hb)
  clear hb
  go_wp2_with fail
  go_ret
  exact ⟨rfl, HB2.out⟩
/-! Key, Box. -/
/-- A call that gives bytes and whether there were any. -/
def RetKy (l : List UInt8) (v : Bool) (w : World) (e : Ending) (w' : World) : Prop :=
  ∃ A c, e = .returned (.tuple #[.slice A l.length c, .bool v]) ∧ OwnB w' w.heap.size A l.length c l ∧ Below w.heap.size w w'
theorem rg_mem {es : Ens} {e : EB × Int} (h : e ∈ es) : (e.2, e.1.key) ∈ rgE es := List.mem_map.2 ⟨e, h, rfl⟩
theorem rg_at {es : Ens} {q : Int} (h : hasR (rgE es) q = true) : ∃ (i : Nat) (e : EB × Int), idxR (rgE es) q = (i : Int) ∧ i < es.length ∧ es[i]? = some e ∧ e.2 = q ∧ e.1.key = keyR (rgE es) q ∧ findR (rgE es) q = some i := by
  obtain ⟨i, r, hf, hr, hq, hl⟩ := has_someR h
  rw [rg_len] at hl
  have he : (rgE es)[i]? = some (es[i].2, es[i].1.key) := by unfold rgE; rw [List.getElem?_map, List.getElem?_eq_getElem hl]; rfl
  rw [hr] at he
  injection he with he
  refine ⟨i, es[i], by unfold idxR; rw [hf], hl, List.getElem?_eq_getElem hl, by rw [he] at hq; exact hq, ?_, hf⟩
  exact (key_atR (p := es[i].2) (k := es[i].1.key) hf (by rw [hr, he])).symm
set_option maxRecDepth 100000 in
set_option maxHeartbeats 4000000 in
theorem rkey_any (base : Nat) (x : Nat) (A : Option Addr) (c : Nat) (es : Ens) (N F : Nat) (q : Int) (w : World) (h : Rn base w x A c es N F) (hn : es.length ≤ 1000) :
    Calls Tryz.prog 9 #[.pointer (some ⟨x, 0, none⟩), .int .i64 q] w (RetKy (keyR (rgE es) q) (hasR (rgE es) q) w) := by
  have HI := Lib.hid (find_any base x A c es N F q w h hn)
  have H := Lib.hid h
  clear h
  cases hv : hasR (rgE es) q
  · rw [key_noneR hv]
    rw [idx_neg hv] at HI
    clear hv
    go_enter Tryz.func9, Tryz.ntmps9
    go_wp2_with fail
    refine HI.out.mono ?_
    rintro e w1 ⟨rfl, hb⟩
    have HB := Lib.hid hb
    clear hb
    go_wp2_with fail
    go_ret2
    exact ⟨none, 0, rfl, OwnB.nil_ _ _, HB.out⟩
  · obtain ⟨i, e0, hi, hl, he, _, hk, _⟩ := rg_at hv
    rw [hi] at HI
    rw [← hk]
    clear hv hi hk
    obtain ⟨n, HN⟩ : ∃ n, Hid (es.length = n) := ⟨_, Lib.hid rfl⟩
    have HE := Lib.hid he
    have HKL := Lib.hid (H.out.ok e0 (List.mem_of_getElem? he)).2.1
    have hlt : decide ((i : Int) < 0) = false := decide_eq_false (by omega)
    rw [HN.out] at hn hl
    clear he
    go_enter Tryz.func9, Tryz.ntmps9
    go_wp2_with fail
    refine HI.out.mono ?_
    rintro e w1 ⟨rfl, hb⟩
    have HB := Lib.hid hb
    have H1 := Lib.hid (H.out.step hb)
    clear hb
    have hc0 := H1.out.c0
    rw [HN.out] at hc0
    obtain ⟨g, e1, rfl, _, hg, he1, _, _, hrg, _, _⟩ := H1.out.at_ (i := i) (by rw [HN.out]; exact hl)
    rw [HE.out] at he1
    injection he1 with he1
    subst he1
    have HRB : Hid (RB w1 w1.heap.size (some ⟨g, i * 18 + 2, none⟩) 16 e0.1.key) := Lib.hid ⟨HKL.out, fun _ => ⟨g, i * 18 + 2, rfl, hg, fun j hj => by
      rw [Nat.add_assoc]
      refine hrg (2 + j) _ ?_
      unfold enR
      rw [show 2 + j = j + 1 + 1 by omega, List.getElem?_cons_succ, List.getElem?_cons_succ]
      simp [bvs, hj]⟩⟩
    clear hrg hg
    go_wp2_with fail
    refine (clone_any (some ⟨g, i * 18 + 2, none⟩) 16 16 w1.heap.size e0.1.key w1 (by exact HRB.out) (Nat.le_refl _) (by omega)).mono ?_
    rintro e w2 ⟨A2, c2, rfl, ho, hb2⟩
    have HO := Lib.hid (ho.base_le HB.out.size)
    have HB2 := Lib.hid (bel_next HB.out hb2)
    clear ho hb2
    go_wp2_with fail
    go_ret2
    exact ⟨A2, c2, by rw [HKL.out]; rfl, by rw [HKL.out]; exact HO.out, HB2.out⟩
set_option maxRecDepth 100000 in
set_option maxHeartbeats 4000000 in
theorem box_no (base : Nat) (x : Nat) (A : Option Addr) (c : Nat) (es : Ens) (N F : Nat) (q : Int) (w : World) (h : Rn base w x A c es N F) (hn : es.length ≤ 1000) (hv : hasR (rgE es) q = false) :
    Calls Tryz.prog 8 #[.pointer (some ⟨x, 0, none⟩), .int .i64 q] w fun e w' => e = .returned (.tuple #[.pointer none, .bool false]) ∧ Below w.heap.size w w' := by
  have HI := Lib.hid (find_any base x A c es N F q w h hn)
  rw [idx_neg hv] at HI
  clear hv h
  go_enter Tryz.func8, Tryz.ntmps8
  go_wp2_with fail
  refine HI.out.mono ?_
  rintro e w1 ⟨rfl, hb⟩
  have HB := Lib.hid hb
  clear hb
  go_wp2_with fail
  go_ret2
  exact ⟨rfl, HB.out⟩
set_option maxRecDepth 100000 in
set_option maxHeartbeats 4000000 in
theorem box_has (base : Nat) (x : Nat) (A : Option Addr) (c : Nat) (es : Ens) (N F : Nat) (q : Int) (w : World) (h : Rn base w x A c es N F) (hn : es.length ≤ 1000) (hv : hasR (rgE es) q = true) :
    ∃ (i : Nat) (e0 : EB × Int), es[i]? = some e0 ∧ findR (rgE es) q = some i ∧ e0.2 = q ∧ e0.1.key = keyR (rgE es) q ∧
    Calls Tryz.prog 8 #[.pointer (some ⟨x, 0, none⟩), .int .i64 q] w fun e w' => e = .returned (.tuple #[.pointer (some ⟨e0.1.x, 0, none⟩), .bool true]) ∧ Below w.heap.size w w' := by
  have HI := Lib.hid (find_any base x A c es N F q w h hn)
  have H := Lib.hid h
  clear h
  obtain ⟨i, e0, hi, hl, he, hq, hk, hf⟩ := rg_at hv
  rw [hi] at HI
  clear hv hi
  refine ⟨i, e0, he, hf, hq, hk, ?_⟩
  clear hq hk hf
  obtain ⟨n, HN⟩ : ∃ n, Hid (es.length = n) := ⟨_, Lib.hid rfl⟩
  have HE := Lib.hid he
  have hlt : decide ((i : Int) < 0) = false := decide_eq_false (by omega)
  rw [HN.out] at hn hl
  clear he
  go_enter Tryz.func8, Tryz.ntmps8
  go_wp2_with fail
  refine HI.out.mono ?_
  rintro e w1 ⟨rfl, hb⟩
  have HB := Lib.hid hb
  have H1 := Lib.hid (H.out.step hb)
  clear hb
  have hc0 := H1.out.c0
  rw [HN.out] at hc0
  obtain ⟨g, e1, rfl, _, hg, he1, _, _, _, hc1, _⟩ := H1.out.at_ (i := i) (by rw [HN.out]; exact hl)
  rw [HE.out] at he1
  injection he1 with he1
  subst he1
  clear hg
  go_wp2_with fail
  go_ret2
  exact ⟨rfl, HB.out⟩
/-! Newest. -/
set_option maxRecDepth 100000 in
set_option maxHeartbeats 4000000 in
theorem newest_any (base : Nat) (x : Nat) (A : Option Addr) (c : Nat) (es : Ens) (N F : Nat) (w : World) (h : Rn base w x A c es N F) (hn : es.length ≤ 1000) :
    Calls Tryz.prog 16 #[.pointer (some ⟨x, 0, none⟩)] w fun e w' => e = .returned (.tuple #[.int .i64 (newR (rgE es)).1, .bool (newR (rgE es)).2]) ∧ Below w.heap.size w w' := by
  have H := Lib.hid h
  rcases Nat.eq_zero_or_pos es.length with h0 | h0
  · obtain rfl : es = [] := List.eq_nil_of_length_eq_zero h0
    have hc0 := h.c0
    clear h h0 hn
    show Calls _ _ _ _ fun e w' => e = .returned (.tuple #[.int .i64 0, .bool false]) ∧ Below w.heap.size w w'
    go_enter Tryz.func16, Tryz.ntmps16
    go_wp2_with fail
    go_ret2
    exact ⟨rfl, Below.refl _ _⟩
  · obtain ⟨m, hm⟩ : ∃ m, es.length = m + 1 := ⟨es.length - 1, by omega⟩
    have hml : m < es.length := by omega
    obtain ⟨n, HN⟩ : ∃ n, Hid (es.length = n) := ⟨_, Lib.hid rfl⟩
    have hc0 := h.c0
    rw [HN.out] at hc0
    obtain ⟨g, e0, rfl, _, hg, he, _, _, _, _, hc1⟩ := h.at_ (i := m) hml
    have hnew : newR (rgE es) = (e0.2, true) := by
      have hl : 0 < (rgE es).length := by rw [rg_len]; exact h0
      rw [new_seqs hl]
      have : es[m] = e0 := by rw [List.getElem?_eq_getElem hml] at he; injection he
      simp [seqsR, rgE, hm, this]
    rw [hnew]
    have r1 : (n : Int) - 1 = (m : Int) := by have := HN.out; omega
    have hd : ((n : Int) == 0) = false := by rw [beq_eq_false_iff_ne]; have := HN.out; omega
    have hmn : m < n := by have := HN.out; omega
    rw [HN.out] at hn
    clear hg he hnew h hml hm h0
    go_enter Tryz.func16, Tryz.ntmps16
    go_wp2_with fail
    go_quiet (fail)
    go_wp2_with fail
    go_ret2
    exact ⟨rfl, below_drewN (Below.refl _ _) _⟩
end Go.Proofs.YtlapnfpdkfhfdaaGreat
