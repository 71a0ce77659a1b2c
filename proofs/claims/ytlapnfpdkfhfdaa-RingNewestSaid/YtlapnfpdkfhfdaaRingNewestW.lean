/- RingNewest's walk: the newest is the last one of all sequences, which are unlike; each has a key of sixteen bytes, and a box. Condition: the calls' keys can be read. -/
import Derived.Test.YtlapnfpdkfhfdaaRiW
namespace Go.Proofs.Ytlapnfpdkfhfdaa
open Go.RowKit
set_option linter.unusedVariables false
set_option linter.unusedSimpArgs false
attribute [local go_sem ↓] ex_ldCr
/-- Which numbers were seen. -/
def seenC (qs : List Int) : List Value := (List.range 128).map (fun (j : Nat) => Value.bool (decide ((j : Int) ∈ qs)))
theorem seen_nil : seenC [] = List.replicate 128 (.bool false) := by
  unfold seenC
  simp only [List.not_mem_nil, decide_false, List.map_const', List.length_range]
theorem seen_len (qs : List Int) : (seenC qs).length = 128 := by unfold seenC; rw [List.length_map, List.length_range]
theorem seen_at {qs : List Int} {m : Nat} (hm : m < 128) : (seenC qs)[m]? = some (.bool (decide ((m : Int) ∈ qs))) := by
  unfold seenC
  rw [List.getElem?_map, List.getElem?_range hm]
  rfl
theorem seen_set {qs : List Int} {m : Nat} (hm : m < 128) : (seenC qs).set m (.bool true) = seenC (qs ++ [(m : Int)]) := by
  apply List.ext_getElem?
  intro j
  by_cases hj : j < 128
  · rw [seen_at hj, List.getElem?_set]
    split
    · rename_i e
      subst e
      rw [if_pos (by rw [seen_len]; exact hm)]
      simp
    · rename_i e
      rw [seen_at hj]
      have : ¬ ((j : Int) = (m : Int)) := by omega
      simp [this]
  · rw [List.getElem?_eq_none (by rw [List.length_set, seen_len]; omega), List.getElem?_eq_none (by rw [seen_len]; omega)]
theorem rt_seen : RT 53 (List.replicate 128 (.bool false)) := ⟨row_of (by kernel_rfl), by kernel_rfl⟩
set_option maxRecDepth 100000 in
theorem built_seen : Try.prog.built 53 [] = some (List.replicate 128 (Value.bool false)).toArray := by kernel_rfl
theorem wpList_seen {w : World} {ops : Array Oper} {rest : List Oper} {o : Oper} {a : Act} {Q : Exit → Act → World → Prop} (hgd : o.guard = none) (hop : o.op = .build 53 #[]) (h : wpList Try.prog ops Q rest (a.put o.dst (.agg (List.replicate 128 (Value.bool false)).toArray)) w) : wpList Try.prog ops Q (o :: rest) a w := by
  refine wpList_plain hgd fun K hK => ?_
  unfold Oper.wp execOp
  simp only [hop, Sem.run_bind, run_build w _ #[] _ built_seen, Result.andThen_ok, List.map_toArray, List.map_nil]
  exact hK _ _ h
theorem nodup_at {l : List Int} (h : l.Nodup) {k : Nat} {q : Int} (hq : l[k]? = some q) : q ∉ l.take k := fun hm => by
  obtain ⟨hl, he⟩ := List.getElem?_eq_some_iff.1 hq
  obtain ⟨j, hj, e⟩ := List.getElem_of_mem hm
  rw [List.length_take] at hj
  rw [List.getElem_take] at e
  exact List.pairwise_iff_getElem.1 h j k (by omega) hl (by omega) (by rw [e, he])
attribute [local irreducible] seenC
set_option maxRecDepth 100000 in
set_option maxHeartbeats 16000000 in
theorem RingNewest_walk (A0 : Option Addr) (n0 c0 : Nat) (l0 : List Cr) (w : World) (h0 : CRs w w.heap.size A0 n0 l0) (m0 : n0 ≤ c0 ∧ c0 ≤ maxLen) :
    Calls Try.prog 5 #[.slice A0 n0 c0] w fun e w' => e = .returned (.bool true) ∧ Below w.heap.size w w' := by
  have H0 := Lib.hid h0
  have M0 := Lib.hid m0
  have hn0 : n0 ≤ 9223372036854775807 := by have := m0.1; have := m0.2; unfold maxLen at this; omega
  clear h0 m0
  go_enter Try.func5, Try.ntmps5
  go_wp2_with fail
  refine (alive19_any _).mono ?_
  rintro e w2 ⟨rfl, hb2⟩
  have HB2 : Hid (Below w.heap.size w w2) := Lib.hid (hb2)
  clear hb2
  go_wp2_with fail
  refine (great19_any A0 n0 c0 l0 w2 (by exact ⟨(H0.out.below HB2.out).1, fun k hk => ((H0.out.below HB2.out).2.1 k hk).more HB2.out.size, fun hn => by obtain ⟨b, o, a1, a2, a3⟩ := (H0.out.below HB2.out).2.2 hn; exact ⟨b, o, a1, Nat.lt_of_lt_of_le a2 HB2.out.size, a3⟩⟩) (Nat.le_trans M0.out.1 M0.out.2)).mono ?_
  rintro e w3 ⟨v1, rfl, rfl, hv1⟩
  rcases v1 with _ | _
  case true =>
    clear hv1
    go_wp2_with fail
    go_ret
    exact ⟨rfl, HB2.out⟩
  have HG1 := Lib.hid (hv1 rfl)
  clear hv1
  have HV0 : Hid (CRs w2 w2.heap.size A0 n0 l0) := Lib.hid ⟨(H0.out.below HB2.out).1, fun k hk => ((H0.out.below HB2.out).2.1 k hk).more HB2.out.size, fun hn => by obtain ⟨b, o, a1, a2, a3⟩ := (H0.out.below HB2.out).2.2 hn; exact ⟨b, o, a1, Nat.lt_of_lt_of_le a2 HB2.out.size, a3⟩⟩
  go_wp2_with fail
  refine (rnew_any w2).mono ?_
  rintro e w4 ⟨x, rfl, hb4, hr4⟩
  have HR4 : Hid (RG w2 x [] [] w4) := Lib.hid ⟨hb4, nil_okR, none, 0, [], hr4, rfl, fun g hg => by cases hg⟩
  clear hb4 hr4
  go_wp2_with fail
  go_loopw [4] (fun i wr => ∃ k : Nat, k ≤ n0 ∧ i = .int .i64 (k : Int) ∧ Hid (RG w2 x (upR l0 k) [] wr)) (fun i _ => n0 - (intOf i).toNat)
  case atStart => exact ⟨0, by omega, rfl, Lib.hid HR4.out⟩
  case round =>
    obtain ⟨k, hk, rfl, HK⟩ := hrel
    by_cases hlt : k < n0
    · obtain ⟨b, o, e0, rfl, he, hok, hrg, _⟩ := (HV0.out.below HK.out.1).at_ hlt
      have HE := Lib.hid (And.intro he (And.intro (HV0.out.2.1 e0 (List.mem_of_getElem? he)) (HG1.out.2 e0 (List.mem_of_getElem? he))))
      have HRG := Lib.hid hrg
      clear he hok hrg
      go_wp2_with (first
        | (refine wpList_boxB rfl 33 (.tmp 28) rfl [.slice none 0 0] rfl ?_; intro w5 y k5 hb5 hy5; have P5 := Lib.hid (HK.out.pr hb5 k5 hy5); have ql := ldCr_r (w := w5) (k := e0) (b := b) (o := o + k * 3) (fun j v hv => by have z := HRG.out j v hv; exact (hb5.cell (p := ⟨b, o + k * 3 + j, none⟩) (World.block_lt_of_cell? wr _ z)).trans z); clear k5 hb5 hy5))
      refine (do19_any w2 x y (upR l0 k) [] w5 (by exact P5.out) e0 (by exact HE.out.2.1) (by exact HE.out.2.2)).mono ?_
      rintro e w6 ⟨rfl, hp⟩
      have P6 : Hid (RG w2 x (upR l0 (k + 1)) [] w6) := Lib.hid (by rw [upR_next HE.out.1]; exact hp.rg)
      clear hp ql
      go_wp2_with fail
      go_roundw
      case rel => exact ⟨k + 1, by omega, by go_num, Lib.hid P6.out⟩
      case measure => simp [intOf]; omega
    · have hkn : k = n0 := by omega
      subst hkn
      obtain ⟨s, HS⟩ : ∃ s, Hid (upR l0 k = s) := ⟨_, Lib.hid rfl⟩
      have R7 : Hid (RG w2 x s [] wr) := Lib.hid (by rw [← HS.out]; exact HK.out)
      obtain ⟨n, HN⟩ : ∃ n, Hid (s.length = n) := ⟨_, Lib.hid rfl⟩
      have hn16 : n ≤ 16 := by rw [← HN.out]; exact R7.out.ok.n
      clear hlt
      go_wp2_with fail
      refine (rg_seqs w2 wr x s _ (by exact R7.out) n HN.out).mono ?_
      rintro e w8 ⟨L, f, rfl, ho, hb⟩
      have R8 := Lib.hid (R7.out.step hb)
      have O8 := Lib.hid ho
      clear ho hb
      obtain ⟨nq, nb, HNW⟩ : ∃ q b, Hid (newR s = (q, b)) := ⟨_, _, Lib.hid rfl⟩
      go_wp2_with fail
      refine (rg_new w2 w8 x s _ (by exact R8.out) nq nb HNW.out).mono ?_
      rintro e w9 ⟨rfl, hb⟩
      have R9 := Lib.hid (R8.out.step hb)
      have O9 := Lib.hid (O8.out.below hb)
      clear hb
      go_wp2_with (first
        | (refine wpList_seen rfl rfl ?_)
        | (refine wpList_newB rt_seen rfl rfl ?_; intro wa g8 ka hba hga; have KA := Lib.hid ka; have BA := Lib.hid (And.intro hba hga); clear ka hba hga)
        | (refine wpList_stB rt_seen rfl (.tmp 8) (.tmp 42) rfl g8 0 rfl (List.replicate 128 (.bool false)) (List.replicate 128 (.bool false)) rfl (fun v hv => by rw [List.eq_of_mem_replicate hv]; rfl) rfl KA.out (by decide) ?_; intro wb kb hob hsb; have KB : Hid (Blk 53 wb g8 (seenC [])) := Lib.hid (by rw [seen_nil]; have z := kb; rw [puts_all rfl] at z; exact z); have BB : Hid (Below w9.heap.size w9 wb) := Lib.hid (BA.out.1.trans (hob.below (fun j hj => by rw [List.mem_singleton.1 hj]; exact BA.out.2) BA.out.1.size)); clear kb hob hsb))
      obtain ⟨w10, e10⟩ : ∃ w10 : World, w10 = wb := ⟨_, rfl⟩
      subst e10
      go_loopw [9] (fun i wr => ∃ k : Nat, k ≤ n ∧ i = .int .i64 (k : Int) ∧ Hid (Below w9.heap.size w9 wr ∧ Blk 53 wr g8 (seenC ((seqsR s).take k)))) (fun i _ => n - (intOf i).toNat)
      case atStart => exact ⟨0, by omega, rfl, Lib.hid ⟨BB.out, KB.out⟩⟩
      case round =>
        obtain ⟨k2, hk2, rfl, HK2⟩ := hrel
        by_cases hlt2 : k2 < n
        · obtain ⟨gl, ol, rfl, _, q, hq, _, hcl⟩ := (O9.out.below HK2.out.1).zl.at_ hlt2
          have hrq := seqs_rng R7.out.ok q (List.mem_of_getElem? hq)
          obtain ⟨m, rfl⟩ : ∃ m : Nat, q = (m : Int) := ⟨q.toNat, by omega⟩
          have hm2 : m < 128 := by omega
          have HQ := Lib.hid hq
          have hseen : wr.cell? ⟨g8, m, none⟩ = some (.bool false) := by
            rw [HK2.out.2.cell, seen_at hm2, decide_eq_false (nodup_at R7.out.ok.u hq)]
          have hfz := HK2.out.2.free m
          have hhas : hasR s (m : Int) = true := has_iffR.2 (List.mem_of_getElem? hq)
          have HHAS := Lib.hid (And.intro hhas (key_lenR R7.out.ok hhas))
          have d1 : decide ((m : Int) < 0) = false := decide_eq_false (by omega)
          have d2 : decide ((m : Int) > 127) = false := decide_eq_false (by omega)
          clear hrq hhas
          go_wp2_with (first
            | (refine wpList_stC (ty := 4) (by kernel_rfl) rfl (.tmp 73) (.const (.bool true)) rfl g8 m (by first | rfl | simp [Act.eval, Act.put]) (.bool true) rfl rfl _ (by exact HK2.out.2) (by rw [seen_len]; exact hm2) ?_; intro W kW hoW hsW; have BW : Below w9.heap.size w9 W := HK2.out.1.trans (hoW.below (fun j hj => by rw [List.mem_singleton.1 hj]; exact BA.out.2) HK2.out.1.size); have HOW : Hid (Below w9.heap.size w9 W ∧ Blk 53 W g8 (seenC ((seqsR s).take (k2 + 1)))) := Lib.hid ⟨BW, by rw [List.take_add_one, HQ.out]; show Blk _ _ _ (seenC ((seqsR s).take k2 ++ [(m : Int)])); rw [← seen_set hm2]; exact kW⟩; have hclW : W.cell? ⟨gl, ol + k2, none⟩ = some (.int .i64 (m : Int)) := (by obtain ⟨gl', ol', e', _, q', hq', _, hc'⟩ := (O9.out.below BW).zl.at_ hlt2; injection e' with e'; injection e' with e1 e2; subst e1; subst e2; rw [HQ.out] at hq'; injection hq' with hq'; subst hq'; exact hc'); clear BW kW hoW hsW hseen hfz hcl))
          refine (rg_key w2 W x s [] (by exact R9.out.step HOW.out.1) (m : Int)).mono ?_
          rw [HHAS.out.1]
          intro e wc hr
          obtain ⟨Kc, kc, he, _, hb⟩ := hr
          rw [HHAS.out.2] at he
          subst he
          have BC := Lib.hid (bel_next HOW.out.1 hb)
          have KC := Lib.hid (HOW.out.2.step hb)
          have hclC := (hb.cell (p := ⟨gl, ol + k2, none⟩) (World.block_lt_of_cell? W _ hclW)).trans hclW
          clear hb hclW
          go_wp2_with fail
          obtain ⟨p, hbx⟩ := rg_box w2 wc x s [] (R9.out.step BC.out) (m : Int) HHAS.out.1
          refine hbx.mono ?_
          rintro e wd ⟨rfl, hb⟩
          have BD := Lib.hid (bel_next BC.out hb)
          have KD := Lib.hid (KC.out.step hb)
          clear hb hclC hbx
          go_wp2_with fail
          go_roundw
          case rel => exact ⟨k2 + 1, by omega, by go_num, Lib.hid ⟨BD.out, KD.out⟩⟩
          case measure => simp [intOf]; omega
        · have hkn : k2 = n := by omega
          subst hkn
          have hle : decide ((k2 : Int) ≤ 16) = true := decide_eq_true (by omega)
          rcases Nat.eq_zero_or_pos k2 with h0 | h0
          · subst h0
            have hnil : s = [] := List.eq_nil_of_length_eq_zero HN.out
            have hz : (nq, nb) = ((0 : Int), false) := by rw [← HNW.out, hnil]; rfl
            injection hz with hz1 hz2
            subst hz1; subst hz2
            clear hnil
            go_wp2_with fail
            go_ret
            exact ⟨rfl, bel_next HB2.out (bel_next R9.out.1 HK2.out.1)⟩
          · obtain ⟨m, HM⟩ : ∃ m, Hid (k2 = m + 1) := ⟨k2 - 1, Lib.hid (by omega)⟩
            have hmk : m < k2 := by have := HM.out; omega
            obtain ⟨gl, ol, rfl, _, q, hq, _, hcl⟩ := (O9.out.below HK2.out.1).zl.at_ hmk
            have hz : (nq, nb) = (q, true) := by
              rw [← HNW.out, new_seqs (by rw [HN.out]; exact h0)]
              obtain ⟨h1, h2⟩ := List.getElem?_eq_some_iff.1 hq
              have e2 : s.length - 1 = m := by rw [HN.out]; have := HM.out; omega
              simp only [e2, h2]
            injection hz with hz1 hz2
            subst hz1; subst hz2
            have r1 : (k2 : Int) - 1 = (m : Int) := by have := HM.out; omega
            have d2 : decide ((k2 : Int) > 0) = true := decide_eq_true (by omega)
            have hqq : (nq == nq) = true := by simp
            clear hq
            go_wp2_with fail
            go_ret
            exact ⟨rfl, bel_next HB2.out (bel_next R9.out.1 HK2.out.1)⟩
end Go.Proofs.Ytlapnfpdkfhfdaa
