/- Layer 19: the statements' Great, Do, Agree. Condition: what is said of the rings, the calls' keys can be read. -/
import Derived.Test.YtlapnfpdkfhfdaaGreatRiG
namespace Go.Proofs.YtlapnfpdkfhfdaaGreat
open Go.RowKit
set_option linter.unusedVariables false
set_option linter.unusedSimpArgs false
/-! Rows of calls. -/
def CRs (w : World) (B : Nat) (A : Option Addr) (n : Nat) (ks : List Cr) : Prop :=
  ks.length = n ∧ (∀ k ∈ ks, k.ok B w) ∧ (0 < n → ∃ b o, A = some ⟨b, o, none⟩ ∧ b < B ∧ ∀ (i : Nat) k, ks[i]? = some k → w.rangeAt b (o + i * 3) k.cells)
theorem Cr.ok.below {k : Cr} {B : Nat} {w w' : World} (h : k.ok B w) (hb : Below B w w') : k.ok B w' := ⟨h.1.below hb, h.2⟩
theorem Cr.ok.more {k : Cr} {B B' : Nat} {w : World} (h : k.ok B w) (hB : B ≤ B') : k.ok B' w := ⟨h.1.more hB, h.2⟩
section
variable {w w' : World} {B n : Nat} {A : Option Addr} {ks : List Cr}
theorem CRs.below (h : CRs w B A n ks) (hb : Below B w w') : CRs w' B A n ks :=
  ⟨h.1, fun k hk => (h.2.1 k hk).below hb, fun hn => by
    obtain ⟨b, o, e, hbb, hc⟩ := h.2.2 hn
    exact ⟨b, o, e, hbb, fun i p hp j v hv => (hb.cell (p := ⟨b, o + i * 3 + j, none⟩) hbb).trans (hc i p hp j v hv)⟩⟩
theorem CRs.at_ {i : Nat} (h : CRs w B A n ks) (hi : i < n) : ∃ b o k, A = some ⟨b, o, none⟩ ∧ ks[i]? = some k ∧ k.ok B w ∧ w.rangeAt b (o + i * 3) k.cells ∧ w.cell? ⟨b, o + i * 3 + 2, none⟩ = some (.slice k.A k.n k.c) := by
  obtain ⟨b, o, e, hb, hc⟩ := h.2.2 (by omega)
  have hl : i < ks.length := by rw [h.1]; exact hi
  exact ⟨b, o, ks[i], e, List.getElem?_eq_getElem hl, h.2.1 _ (List.getElem_mem hl), hc i _ (List.getElem?_eq_getElem hl), hc i _ (List.getElem?_eq_getElem hl) 2 _ rfl⟩
theorem CRs.lit (w : World) (k : Cr) (hk : k.ok w.heap.size w) (cs : Array Value) (hc : cs = k.cells.toArray) (T : TypeId) : CRs (w.alloc (.cells cs T)) (w.alloc (.cells cs T)).heap.size (some ⟨w.heap.size, 0, none⟩) 1 [k] := by
  subst hc
  have hb := below_alloc w (.cells k.cells.toArray T)
  refine ⟨rfl, fun j hj => by rw [List.mem_singleton.1 hj]; exact (hk.below hb).more hb.size, fun _ => ⟨w.heap.size, 0, rfl, by simp, fun i p hp j v hv => ?_⟩⟩
  have hi : i = 0 := by have := (List.getElem?_eq_some_iff.1 hp).1; simpa using this
  subst hi
  injection hp with hp
  subst hp
  simp only [Nat.zero_mul, Nat.zero_add]
  rw [cell_of_row _ w.heap.size j _ T (0, 0) (heap_alloc_new w _)]
  simpa using hv
end
set_option maxRecDepth 100000 in
set_option maxHeartbeats 4000000 in
theorem great19_any (A : Option Addr) (n c : Nat) (ks : List Cr) (w : World) (h : CRs w w.heap.size A n ks) (hn : n ≤ maxLen) :
    Calls Tryz.prog 5 #[.slice A n c] w fun e w' => ∃ v, e = .returned (.bool v) ∧ w = w' ∧ (v = false → n ≤ 60 ∧ ∀ k ∈ ks, k.n ≤ 100) := by
  have H := Lib.hid h
  clear h
  unfold maxLen at hn
  by_cases hg : (n : Int) > 60
  · have d1 : decide ((n : Int) > 60) = true := decide_eq_true hg
    go_enter Tryz.func5, Tryz.ntmps5
    go_wp2_with fail
    go_ret
    exact ⟨true, rfl, rfl, fun e => by cases e⟩
  have d1 : decide ((n : Int) > 60) = false := decide_eq_false hg
  have hn60 : n ≤ 60 := by omega
  clear hg hn
  go_enter Tryz.func5, Tryz.ntmps5
  go_wp2_with fail
  go_loopw [3] (fun i wr => ∃ k : Nat, k ≤ n ∧ i = .int .i64 (k : Int) ∧ w = wr ∧ Hid (∀ j e, j < k → ks[j]? = some e → e.n ≤ 100)) (fun i _ => n - (intOf i).toNat)
  case atStart => exact ⟨0, by omega, rfl, rfl, Lib.hid (fun j e hj => absurd hj (by omega))⟩
  case round =>
    obtain ⟨k, hk, rfl, rfl, HK⟩ := hrel
    by_cases hlt : k < n
    · obtain ⟨b, o, e0, rfl, he, hok, _, hc⟩ := H.out.at_ hlt
      have HE := Lib.hid (And.intro he hok)
      have hmx : e0.n ≤ 9223372036854775807 := by have h1 := hok.2.1; have h2 := hok.2.2; unfold maxLen at h2; omega
      clear he hok
      by_cases hq : (e0.n : Int) > 100
      · have d2 : decide ((e0.n : Int) > 100) = true := decide_eq_true hq
        clear hq
        go_wp2_with fail
        go_ret
        exact ⟨true, rfl, rfl, fun e => by cases e⟩
      · have d2 : decide ((e0.n : Int) > 100) = false := decide_eq_false hq
        have HQ := Lib.hid hq
        clear hq
        go_wp2_with fail
        go_roundw
        case rel => exact ⟨k + 1, by omega, by go_num, trivial, Lib.hid (fun j e hj he => by
          rcases Nat.lt_or_ge j k with h | h
          · exact HK.out j e h he
          · obtain rfl : j = k := by omega
            rw [HE.out.1] at he
            injection he with he
            subst he
            have := HQ.out
            omega)⟩
        case measure => simp [intOf]; omega
    · have hkn : k = n := by omega
      subst hkn
      go_wp2_with fail
      go_ret
      exact ⟨false, rfl, rfl, fun _ => ⟨hn60, fun k hk => by
        obtain ⟨j, hj, rfl⟩ := List.getElem_of_mem hk
        exact HK.out j ks[j] (by have := H.out.1; omega) (List.getElem?_eq_getElem hj)⟩⟩
theorem byte_up19 (x : UInt8) : ∃ y : UInt8, ((x.toNat : Int) + 1) % 256 = (y.toNat : Int) := ⟨UInt8.ofNat (x.toNat + 1), by simp⟩
/-- Do's answer: are theirs one? -/
def RetD19 (v : World) (x y : Nat) (s t : Rg) (k : Cr) (w : World) (e : Ending) (w' : World) : Prop := e = .returned (.bool ((doR s k).2 == (doR t k).2)) ∧ PR v x y (doR s k).1 (doR t k).1 [] w'
set_option maxRecDepth 100000 in
set_option maxHeartbeats 8000000 in
theorem do19_inst (v : World) (x y : Nat) (s t : Rg) (w : World) (h : PR v x y s t [] w) (k : Cr) (hk : k.ok v.heap.size v) (hn : k.n ≤ 100) (h0 : k.t = 0) :
    Calls Tryz.prog 7 #[.pointer (some ⟨x, 0, none⟩), .pointer (some ⟨y, 0, none⟩), k.val] w (RetD19 v x y s t k w) := by
  have HK := Lib.hid hk
  have HH := Lib.hid h
  have hklen := hk.1.len
  obtain ⟨kt, HT⟩ : ∃ z, Hid (k.t = z) := ⟨_, Lib.hid rfl⟩
  have HD : ∀ s, doR s k = instR s k.q k.key := fun s => by unfold doR; rw [if_pos h0]
  have d0 : ((kt : Int) == 0) = true := by rw [beq_iff_eq, ← HT.out]; exact h0
  unfold RetD19
  rw [HD, HD]
  clear h hk HD
  unfold Cr.val
  go_enter Tryz.func7, Tryz.ntmps7
  go_wp2_with (first
    | (refine wpList_boxB rfl 34 (.tmp 2) rfl k.cells rfl ?_; intro w1 bx k1 hb1 hbx; have c0 : w1.cell? ⟨bx, 0, none⟩ = some (.int .i64 k.t) := k1.cell 0; have cq : w1.cell? ⟨bx, 1, none⟩ = some (.int .i64 k.q) := k1.cell 1; have c2 : w1.cell? ⟨bx, 2, none⟩ = some (.slice k.A k.n k.c) := k1.cell 2; have K1 := Lib.hid k1; have P1 := Lib.hid (HH.out.fresh (w' := w1) [bx] (fun g hg => by rw [List.mem_singleton.1 hg]; exact ⟨hbx, k1.lt⟩) hb1); have HV : Hid (v.heap.size ≤ w1.heap.size) := Lib.hid (Nat.le_trans HH.out.bel.size hb1.size); clear k1 hb1 hbx))
  refine (copy_any k.A k.n k.c 0 k.key w1 (by exact HK.out.1.step P1.out.bel) (by omega)).mono ?_
  rintro e w2 ⟨A1, c1, rfl, ho, hb2⟩
  have P2 : Hid (PR v x y s t (blkO A1 ++ [bx]) w2) := Lib.hid (P1.out.fresh (blkO A1) (fun g hg => own_lt ho g hg) hb2)
  have O2 := Lib.hid ho
  have K2 := Lib.hid (K1.out.step hb2)
  have c0 : w2.cell? ⟨bx, 0, none⟩ = some (.int .i64 kt) := by rw [← HT.out]; exact K2.out.cell 0
  have cq : w2.cell? ⟨bx, 1, none⟩ = some (.int .i64 k.q) := K2.out.cell 1
  have c2 : w2.cell? ⟨bx, 2, none⟩ = some (.slice k.A k.n k.c) := K2.out.cell 2
  clear ho hb2 K1 P1
  go_wp2_with fail
  refine wp_region_held_drew (S := fun w' => w'.cell? ⟨bx, 1, none⟩ = some (.int .i64 k.q) ∧ w'.cell? ⟨bx, 2, none⟩ = some (.slice k.A k.n k.c)) (by kernel_rfl) ⟨cq, c2⟩ (fun hHeld => ?_)
  (try dsimp only at hHeld)
  refine wpAnyH_take (i := 0) (v := ?v0_1) rfl (by kernel_rfl) (by kernel_rfl) (by kernel_rfl) (fun _ _ _ h => h) (Or.inl ⟨by rfl, ?hy0_1⟩) hHeld ?_
  case hy0_1 => (intro w hSw; (try dsimp only at hSw); obtain ⟨hs1, hs2⟩ := hSw; (try simp only [List.getElem_toArray, List.getElem_cons_zero, List.getElem_cons_succ]); go_simp <;> with_reducible rfl)
  (try simp only [Act.put, List.getElem_toArray, List.getElem_cons_zero, List.getElem_cons_succ, List.setIfInBounds_toArray, List.set_cons_zero, List.set_cons_succ])
  refine wpAnyH_take (i := 1) (v := ?v1_2) rfl (by kernel_rfl) (by kernel_rfl) (by kernel_rfl) (fun _ _ _ h => h) (Or.inl ⟨by rfl, ?hy1_2⟩) hHeld ?_
  case hy1_2 => (intro w hSw; (try dsimp only at hSw); obtain ⟨hs1, hs2⟩ := hSw; (try simp only [List.getElem_toArray, List.getElem_cons_zero, List.getElem_cons_succ]); go_simp <;> with_reducible rfl)
  (try simp only [Act.put, List.getElem_toArray, List.getElem_cons_zero, List.getElem_cons_succ, List.setIfInBounds_toArray, List.set_cons_zero, List.set_cons_succ])
  refine wpAnyH_take (i := 2) (v := ?v2_3) rfl (by kernel_rfl) (by kernel_rfl) (by kernel_rfl) (fun _ _ _ h => h) (Or.inl ⟨by rfl, ?hy2_3⟩) hHeld ?_
  case hy2_3 => (intro w hSw; (try dsimp only at hSw); obtain ⟨hs1, hs2⟩ := hSw; (try simp only [List.getElem_toArray, List.getElem_cons_zero, List.getElem_cons_succ]); go_simp <;> with_reducible rfl)
  (try simp only [Act.put, List.getElem_toArray, List.getElem_cons_zero, List.getElem_cons_succ, List.setIfInBounds_toArray, List.set_cons_zero, List.set_cons_succ])
  refine wpAnyH_take (i := 3) (v := ?v3_4) rfl (by kernel_rfl) (by kernel_rfl) (by kernel_rfl) (fun _ _ _ h => h) (Or.inl ⟨by rfl, ?hy3_4⟩) hHeld ?_
  case hy3_4 => (intro w hSw; (try dsimp only at hSw); obtain ⟨hs1, hs2⟩ := hSw; (try simp only [List.getElem_toArray, List.getElem_cons_zero, List.getElem_cons_succ]); go_simp <;> with_reducible rfl)
  (try simp only [Act.put, List.getElem_toArray, List.getElem_cons_zero, List.getElem_cons_succ, List.setIfInBounds_toArray, List.set_cons_zero, List.set_cons_succ])
  refine wpAnyH_take (i := 5) (v := ?v5_5) rfl (by kernel_rfl) (by kernel_rfl) (by kernel_rfl) (fun _ _ _ h => h) (Or.inl ⟨by rfl, ?hy5_5⟩) hHeld ?_
  case hy5_5 => (intro w hSw; (try dsimp only at hSw); obtain ⟨hs1, hs2⟩ := hSw; (try simp only [List.getElem_toArray, List.getElem_cons_zero, List.getElem_cons_succ]); go_simp <;> with_reducible rfl)
  (try simp only [Act.put, List.getElem_toArray, List.getElem_cons_zero, List.getElem_cons_succ, List.setIfInBounds_toArray, List.set_cons_zero, List.set_cons_succ])
  refine wpAnyH_take (i := 6) (v := ?v6_6) rfl (by kernel_rfl) (by kernel_rfl) (by kernel_rfl) (fun _ _ _ h => h) (Or.inl ⟨by rfl, ?hy6_6⟩) hHeld ?_
  case hy6_6 => (intro w hSw; (try dsimp only at hSw); obtain ⟨hs1, hs2⟩ := hSw; (try simp only [List.getElem_toArray, List.getElem_cons_zero, List.getElem_cons_succ]); go_simp <;> with_reducible rfl)
  (try simp only [Act.put, List.getElem_toArray, List.getElem_cons_zero, List.getElem_cons_succ, List.setIfInBounds_toArray, List.set_cons_zero, List.set_cons_succ])
  refine wpAnyH_take (i := 7) (v := ?v7_7) rfl (by kernel_rfl) (by kernel_rfl) (by kernel_rfl) (fun _ _ _ h => h) (Or.inl ⟨by rfl, ?hy7_7⟩) hHeld ?_
  case hy7_7 => (intro w hSw; (try dsimp only at hSw); obtain ⟨hs1, hs2⟩ := hSw; (try simp only [List.getElem_toArray, List.getElem_cons_zero, List.getElem_cons_succ]); go_simp <;> with_reducible rfl)
  (try simp only [Act.put, List.getElem_toArray, List.getElem_cons_zero, List.getElem_cons_succ, List.setIfInBounds_toArray, List.set_cons_zero, List.set_cons_succ])
  refine wpAnyH_take (i := 8) (v := ?v8_8) rfl (by kernel_rfl) (by kernel_rfl) (by kernel_rfl) (fun _ _ _ h => h) (Or.inl ⟨by rfl, ?hy8_8⟩) hHeld ?_
  case hy8_8 => (intro w hSw; (try dsimp only at hSw); obtain ⟨hs1, hs2⟩ := hSw; (try simp only [List.getElem_toArray, List.getElem_cons_zero, List.getElem_cons_succ]); go_simp <;> with_reducible rfl)
  (try simp only [Act.put, List.getElem_toArray, List.getElem_cons_zero, List.getElem_cons_succ, List.setIfInBounds_toArray, List.set_cons_zero, List.set_cons_succ])
  refine wpAnyH_take (i := 9) (v := ?v9_9) rfl (by kernel_rfl) (by kernel_rfl) (by kernel_rfl) (fun _ _ _ h => h) (Or.inl ⟨by rfl, ?hy9_9⟩) hHeld ?_
  case hy9_9 => (intro w hSw; (try dsimp only at hSw); obtain ⟨hs1, hs2⟩ := hSw; (try simp only [List.getElem_toArray, List.getElem_cons_zero, List.getElem_cons_succ]); go_simp <;> with_reducible rfl)
  (try simp only [Act.put, List.getElem_toArray, List.getElem_cons_zero, List.getElem_cons_succ, List.setIfInBounds_toArray, List.set_cons_zero, List.set_cons_succ])
  refine wpAnyH_ready (rs := [4]) (by kernel_rfl) (by simp) ?_
  refine AllReadyH.cons rfl (fun K hK => ?_) AllReadyH.nil
  (try simp only [List.getElem_toArray, List.getElem_cons_zero, List.getElem_cons_succ])
  go_simp
  refine (pr_inst v x y (s) (t) _ w2.drew (by first | exact P2.out | exact P2.out.step ((Below.refl _ _).drew)) k.q A1 k.n c1 k.key (by first | exact O2.out.rb | exact (O2.out.below ((Below.refl _ _).drew)).rb) O2.out.cap.1).mono ?_
  rintro e w3 ⟨rfl, hp3, hk3⟩
  have P3 := Lib.hid hp3
  have K3 := Lib.hid (K2.out.kp hk3 (by simp))
  have O3 := Lib.hid (O2.out.kp hk3 (fun g hg => List.mem_append_left _ hg))
  clear hk3
  clear hp3
  (try go_wp2_with fail)
  refine hK.out _ _ ⟨K3.out.cell 1, K3.out.cell 2⟩ (fun hHeld => ?_)
  clear hK K
  (try simp only [Act.put, List.getElem_toArray, List.getElem_cons_zero, List.getElem_cons_succ, List.setIfInBounds_toArray, List.set_cons_zero, List.set_cons_succ])
  refine wpAnyH_ready (rs := [10]) (by kernel_rfl) (by simp) ?_
  refine AllReadyH.cons rfl (fun K hK => ?_) AllReadyH.nil
  (try simp only [List.getElem_toArray, List.getElem_cons_zero, List.getElem_cons_succ])
  go_simp
  refine (pr_rinst v x y ((instR s k.q k.key).1) (t) _ w3 (by first | exact P3.out | exact P3.out.step ((Below.refl _ _).drew)) k.q k.A k.n k.c k.key (by first | exact HK.out.1.step P3.out.bel | exact HK.out.1.step (P3.out.step ((Below.refl _ _).drew)).bel)).mono ?_
  rintro e w4 ⟨rfl, hp4, hk4⟩
  have P4 := Lib.hid hp4
  have K4 := Lib.hid (K3.out.kp hk4 (by simp))
  have O4 := Lib.hid (O3.out.kp hk4 (fun g hg => List.mem_append_left _ hg))
  clear hk4
  clear hp4
  (try go_wp2_with fail)
  refine hK.out _ _ ⟨K4.out.cell 1, K4.out.cell 2⟩ (fun hHeld => ?_)
  clear hK K
  (try simp only [Act.put, List.getElem_toArray, List.getElem_cons_zero, List.getElem_cons_succ, List.setIfInBounds_toArray, List.set_cons_zero, List.set_cons_succ])
  refine wpAnyH_take (i := 11) (v := ?v11_10) rfl (by kernel_rfl) (by kernel_rfl) (by kernel_rfl) (fun _ _ _ h => h) (Or.inl ⟨by rfl, ?hy11_10⟩) hHeld ?_
  case hy11_10 => (intro w hSw; (try dsimp only at hSw); (try simp only [List.getElem_toArray, List.getElem_cons_zero, List.getElem_cons_succ]); go_simp <;> with_reducible rfl)
  (try simp only [Act.put, List.getElem_toArray, List.getElem_cons_zero, List.getElem_cons_succ, List.setIfInBounds_toArray, List.set_cons_zero, List.set_cons_succ])
  refine wpAnyH_take (i := 12) (v := ?v12_11) rfl (by kernel_rfl) (by kernel_rfl) (by kernel_rfl) (fun _ _ _ h => h) (Or.inl ⟨by rfl, ?hy12_11⟩) hHeld ?_
  case hy12_11 => (intro w hSw; (try dsimp only at hSw); (try simp only [List.getElem_toArray, List.getElem_cons_zero, List.getElem_cons_succ]); go_simp <;> with_reducible rfl)
  (try simp only [Act.put, List.getElem_toArray, List.getElem_cons_zero, List.getElem_cons_succ, List.setIfInBounds_toArray, List.set_cons_zero, List.set_cons_succ])
  refine wpAnyH_done (by kernel_rfl) ?_ _
  have HZ := Lib.hid (And.intro P4.out O4.out)
  go_wp2_with fail
  go_loopw [9] (fun i wr => ∃ j : Nat, j ≤ k.n ∧ i = .int .i64 (j : Int) ∧ Hid (PR v x y ((instR s k.q k.key).1) ((instR t k.q k.key).1) (blkO A1 ++ [bx]) wr ∧ ∃ q, OwnB wr w1.heap.size A1 k.n c1 q)) (fun i _ => k.n - (intOf i).toNat)
  case atStart => exact ⟨0, by omega, rfl, Lib.hid ⟨HZ.out.1, _, HZ.out.2⟩⟩
  case round =>
    obtain ⟨j, hj, rfl, HK⟩ := hrel
    by_cases hlt : j < k.n
    · obtain ⟨hpr, q, hown⟩ := HK.out
      obtain ⟨gb, hgb, hgl, hgs⟩ := hown.form (by omega)
      subst hgb
      have hq : j < q.length := by rw [hown.len]; exact hlt
      obtain ⟨xb, hx⟩ : ∃ x, q[j]? = some x := ⟨_, List.getElem?_eq_getElem hq⟩
      have hc := hown.cellAt hx
      have hf := hown.freeAt j
      obtain ⟨yb, hy⟩ := byte_up19 xb
      have hx8 := xb.toNat_lt
      have HO := Lib.hid (And.intro hpr (And.intro hgl hown))
      clear hx hgl hown hq hpr hgs
      go_wp2_with fail
      go_roundw
      case rel => exact ⟨j + 1, by omega, by go_num, Lib.hid ⟨HO.out.1.poke (S := [gb]) ((Oth.refl [gb] wr).set (by simp) j _) (fun g hg => by rw [List.mem_singleton.1 hg]; simp [blkO]) (fun g hg => by rw [List.mem_singleton.1 hg]; exact Nat.le_trans HV.out HO.out.2.1), _, HO.out.2.2.stored j yb _ (by rw [bv])⟩⟩
      case measure => simp [intOf]; omega
    · go_wp2_with fail
      go_ret
      exact ⟨rfl, HK.out.1.less (fun g hg => by cases hg)⟩
set_option maxRecDepth 100000 in
set_option maxHeartbeats 8000000 in
theorem do19_ret (v : World) (x y : Nat) (s t : Rg) (w : World) (h : PR v x y s t [] w) (k : Cr) (hk : k.ok v.heap.size v) (hn : k.n ≤ 100) (h1 : k.t = 1) :
    Calls Tryz.prog 7 #[.pointer (some ⟨x, 0, none⟩), .pointer (some ⟨y, 0, none⟩), k.val] w (RetD19 v x y s t k w) := by
  have HK := Lib.hid hk
  have HH := Lib.hid h
  have hklen := hk.1.len
  obtain ⟨kt, HT⟩ : ∃ z, Hid (k.t = z) := ⟨_, Lib.hid rfl⟩
  have HD : ∀ s, doR s k = retR s k.q := fun s => by unfold doR; rw [if_neg (by omega), if_pos h1]
  have d0 : ((kt : Int) == 0) = false := by rw [beq_eq_false_iff_ne, ← HT.out]; omega
  have d1 : ((kt : Int) == 1) = true := by rw [beq_iff_eq, ← HT.out]; exact h1
  unfold RetD19
  rw [HD, HD]
  clear h hk HD
  unfold Cr.val
  go_enter Tryz.func7, Tryz.ntmps7
  go_wp2_with (first
    | (refine wpList_boxB rfl 34 (.tmp 2) rfl k.cells rfl ?_; intro w1 bx k1 hb1 hbx; have c0 : w1.cell? ⟨bx, 0, none⟩ = some (.int .i64 k.t) := k1.cell 0; have cq : w1.cell? ⟨bx, 1, none⟩ = some (.int .i64 k.q) := k1.cell 1; have c2 : w1.cell? ⟨bx, 2, none⟩ = some (.slice k.A k.n k.c) := k1.cell 2; have K1 := Lib.hid k1; have P1 := Lib.hid (HH.out.fresh (w' := w1) [bx] (fun g hg => by rw [List.mem_singleton.1 hg]; exact ⟨hbx, k1.lt⟩) hb1); have HV : Hid (v.heap.size ≤ w1.heap.size) := Lib.hid (Nat.le_trans HH.out.bel.size hb1.size); clear k1 hb1 hbx))
  refine (copy_any k.A k.n k.c 0 k.key w1 (by exact HK.out.1.step P1.out.bel) (by omega)).mono ?_
  rintro e w2 ⟨A1, c1, rfl, ho, hb2⟩
  have P2 : Hid (PR v x y s t (blkO A1 ++ [bx]) w2) := Lib.hid (P1.out.fresh (blkO A1) (fun g hg => own_lt ho g hg) hb2)
  have O2 := Lib.hid ho
  have K2 := Lib.hid (K1.out.step hb2)
  have c0 : w2.cell? ⟨bx, 0, none⟩ = some (.int .i64 kt) := by rw [← HT.out]; exact K2.out.cell 0
  have cq : w2.cell? ⟨bx, 1, none⟩ = some (.int .i64 k.q) := K2.out.cell 1
  have c2 : w2.cell? ⟨bx, 2, none⟩ = some (.slice k.A k.n k.c) := K2.out.cell 2
  clear ho hb2 K1 P1
  go_wp2_with fail
  refine wp_region_held_drew (S := fun w' => w'.cell? ⟨bx, 1, none⟩ = some (.int .i64 k.q) ∧ w'.cell? ⟨bx, 2, none⟩ = some (.slice k.A k.n k.c)) (by kernel_rfl) ⟨cq, c2⟩ (fun hHeld => ?_)
  (try dsimp only at hHeld)
  refine wpAnyH_take (i := 0) (v := ?v0_12) rfl (by kernel_rfl) (by kernel_rfl) (by kernel_rfl) (fun _ _ _ h => h) (Or.inl ⟨by rfl, ?hy0_12⟩) hHeld ?_
  case hy0_12 => (intro w hSw; (try dsimp only at hSw); obtain ⟨hs1, hs2⟩ := hSw; (try simp only [List.getElem_toArray, List.getElem_cons_zero, List.getElem_cons_succ]); go_simp <;> with_reducible rfl)
  (try simp only [Act.put, List.getElem_toArray, List.getElem_cons_zero, List.getElem_cons_succ, List.setIfInBounds_toArray, List.set_cons_zero, List.set_cons_succ])
  refine wpAnyH_take (i := 1) (v := ?v1_13) rfl (by kernel_rfl) (by kernel_rfl) (by kernel_rfl) (fun _ _ _ h => h) (Or.inl ⟨by rfl, ?hy1_13⟩) hHeld ?_
  case hy1_13 => (intro w hSw; (try dsimp only at hSw); obtain ⟨hs1, hs2⟩ := hSw; (try simp only [List.getElem_toArray, List.getElem_cons_zero, List.getElem_cons_succ]); go_simp <;> with_reducible rfl)
  (try simp only [Act.put, List.getElem_toArray, List.getElem_cons_zero, List.getElem_cons_succ, List.setIfInBounds_toArray, List.set_cons_zero, List.set_cons_succ])
  refine wpAnyH_take (i := 2) (v := ?v2_14) rfl (by kernel_rfl) (by kernel_rfl) (by kernel_rfl) (fun _ _ _ h => h) (Or.inl ⟨by rfl, ?hy2_14⟩) hHeld ?_
  case hy2_14 => (intro w hSw; (try dsimp only at hSw); obtain ⟨hs1, hs2⟩ := hSw; (try simp only [List.getElem_toArray, List.getElem_cons_zero, List.getElem_cons_succ]); go_simp <;> with_reducible rfl)
  (try simp only [Act.put, List.getElem_toArray, List.getElem_cons_zero, List.getElem_cons_succ, List.setIfInBounds_toArray, List.set_cons_zero, List.set_cons_succ])
  refine wpAnyH_take (i := 4) (v := ?v4_15) rfl (by kernel_rfl) (by kernel_rfl) (by kernel_rfl) (fun _ _ _ h => h) (Or.inl ⟨by rfl, ?hy4_15⟩) hHeld ?_
  case hy4_15 => (intro w hSw; (try dsimp only at hSw); obtain ⟨hs1, hs2⟩ := hSw; (try simp only [List.getElem_toArray, List.getElem_cons_zero, List.getElem_cons_succ]); go_simp <;> with_reducible rfl)
  (try simp only [Act.put, List.getElem_toArray, List.getElem_cons_zero, List.getElem_cons_succ, List.setIfInBounds_toArray, List.set_cons_zero, List.set_cons_succ])
  refine wpAnyH_take (i := 5) (v := ?v5_16) rfl (by kernel_rfl) (by kernel_rfl) (by kernel_rfl) (fun _ _ _ h => h) (Or.inl ⟨by rfl, ?hy5_16⟩) hHeld ?_
  case hy5_16 => (intro w hSw; (try dsimp only at hSw); obtain ⟨hs1, hs2⟩ := hSw; (try simp only [List.getElem_toArray, List.getElem_cons_zero, List.getElem_cons_succ]); go_simp <;> with_reducible rfl)
  (try simp only [Act.put, List.getElem_toArray, List.getElem_cons_zero, List.getElem_cons_succ, List.setIfInBounds_toArray, List.set_cons_zero, List.set_cons_succ])
  refine wpAnyH_take (i := 6) (v := ?v6_17) rfl (by kernel_rfl) (by kernel_rfl) (by kernel_rfl) (fun _ _ _ h => h) (Or.inl ⟨by rfl, ?hy6_17⟩) hHeld ?_
  case hy6_17 => (intro w hSw; (try dsimp only at hSw); obtain ⟨hs1, hs2⟩ := hSw; (try simp only [List.getElem_toArray, List.getElem_cons_zero, List.getElem_cons_succ]); go_simp <;> with_reducible rfl)
  (try simp only [Act.put, List.getElem_toArray, List.getElem_cons_zero, List.getElem_cons_succ, List.setIfInBounds_toArray, List.set_cons_zero, List.set_cons_succ])
  refine wpAnyH_ready (rs := [3]) (by kernel_rfl) (by simp) ?_
  refine AllReadyH.cons rfl (fun K hK => ?_) AllReadyH.nil
  (try simp only [List.getElem_toArray, List.getElem_cons_zero, List.getElem_cons_succ])
  go_simp
  refine (pr_ret v x y (s) (t) _ w2.drew (by first | exact P2.out | exact P2.out.step ((Below.refl _ _).drew)) k.q).mono ?_
  rintro e w3 ⟨rfl, hp3, hk3⟩
  have P3 := Lib.hid hp3
  have K3 := Lib.hid (K2.out.kp hk3 (by simp))
  have O3 := Lib.hid (O2.out.kp hk3 (fun g hg => List.mem_append_left _ hg))
  clear hk3
  clear hp3
  (try go_wp2_with fail)
  refine hK.out _ _ ⟨K3.out.cell 1, K3.out.cell 2⟩ (fun hHeld => ?_)
  clear hK K
  (try simp only [Act.put, List.getElem_toArray, List.getElem_cons_zero, List.getElem_cons_succ, List.setIfInBounds_toArray, List.set_cons_zero, List.set_cons_succ])
  refine wpAnyH_ready (rs := [7]) (by kernel_rfl) (by simp) ?_
  refine AllReadyH.cons rfl (fun K hK => ?_) AllReadyH.nil
  (try simp only [List.getElem_toArray, List.getElem_cons_zero, List.getElem_cons_succ])
  go_simp
  refine (pr_rret v x y ((retR s k.q).1) (t) _ w3 (by first | exact P3.out | exact P3.out.step ((Below.refl _ _).drew)) k.q).mono ?_
  rintro e w4 ⟨rfl, hp4, hk4⟩
  have P4 := Lib.hid hp4
  have K4 := Lib.hid (K3.out.kp hk4 (by simp))
  have O4 := Lib.hid (O3.out.kp hk4 (fun g hg => List.mem_append_left _ hg))
  clear hk4
  clear hp4
  (try go_wp2_with fail)
  refine hK.out _ _ ⟨K4.out.cell 1, K4.out.cell 2⟩ (fun hHeld => ?_)
  clear hK K
  (try simp only [Act.put, List.getElem_toArray, List.getElem_cons_zero, List.getElem_cons_succ, List.setIfInBounds_toArray, List.set_cons_zero, List.set_cons_succ])
  refine wpAnyH_take (i := 8) (v := ?v8_18) rfl (by kernel_rfl) (by kernel_rfl) (by kernel_rfl) (fun _ _ _ h => h) (Or.inl ⟨by rfl, ?hy8_18⟩) hHeld ?_
  case hy8_18 => (intro w hSw; (try dsimp only at hSw); (try simp only [List.getElem_toArray, List.getElem_cons_zero, List.getElem_cons_succ]); go_simp <;> with_reducible rfl)
  (try simp only [Act.put, List.getElem_toArray, List.getElem_cons_zero, List.getElem_cons_succ, List.setIfInBounds_toArray, List.set_cons_zero, List.set_cons_succ])
  refine wpAnyH_take (i := 9) (v := ?v9_19) rfl (by kernel_rfl) (by kernel_rfl) (by kernel_rfl) (fun _ _ _ h => h) (Or.inl ⟨by rfl, ?hy9_19⟩) hHeld ?_
  case hy9_19 => (intro w hSw; (try dsimp only at hSw); (try simp only [List.getElem_toArray, List.getElem_cons_zero, List.getElem_cons_succ]); go_simp <;> with_reducible rfl)
  (try simp only [Act.put, List.getElem_toArray, List.getElem_cons_zero, List.getElem_cons_succ, List.setIfInBounds_toArray, List.set_cons_zero, List.set_cons_succ])
  refine wpAnyH_done (by kernel_rfl) ?_ _
  have HZ := Lib.hid (And.intro P4.out O4.out)
  go_wp2_with fail
  go_loopw [9] (fun i wr => ∃ j : Nat, j ≤ k.n ∧ i = .int .i64 (j : Int) ∧ Hid (PR v x y ((retR s k.q).1) ((retR t k.q).1) (blkO A1 ++ [bx]) wr ∧ ∃ q, OwnB wr w1.heap.size A1 k.n c1 q)) (fun i _ => k.n - (intOf i).toNat)
  case atStart => exact ⟨0, by omega, rfl, Lib.hid ⟨HZ.out.1, _, HZ.out.2⟩⟩
  case round =>
    obtain ⟨j, hj, rfl, HK⟩ := hrel
    by_cases hlt : j < k.n
    · obtain ⟨hpr, q, hown⟩ := HK.out
      obtain ⟨gb, hgb, hgl, hgs⟩ := hown.form (by omega)
      subst hgb
      have hq : j < q.length := by rw [hown.len]; exact hlt
      obtain ⟨xb, hx⟩ : ∃ x, q[j]? = some x := ⟨_, List.getElem?_eq_getElem hq⟩
      have hc := hown.cellAt hx
      have hf := hown.freeAt j
      obtain ⟨yb, hy⟩ := byte_up19 xb
      have hx8 := xb.toNat_lt
      have HO := Lib.hid (And.intro hpr (And.intro hgl hown))
      clear hx hgl hown hq hpr hgs
      go_wp2_with fail
      go_roundw
      case rel => exact ⟨j + 1, by omega, by go_num, Lib.hid ⟨HO.out.1.poke (S := [gb]) ((Oth.refl [gb] wr).set (by simp) j _) (fun g hg => by rw [List.mem_singleton.1 hg]; simp [blkO]) (fun g hg => by rw [List.mem_singleton.1 hg]; exact Nat.le_trans HV.out HO.out.2.1), _, HO.out.2.2.stored j yb _ (by rw [bv])⟩⟩
      case measure => simp [intOf]; omega
    · go_wp2_with fail
      go_ret
      exact ⟨rfl, HK.out.1.less (fun g hg => by cases hg)⟩
set_option maxRecDepth 100000 in
set_option maxHeartbeats 8000000 in
theorem do19_else (v : World) (x y : Nat) (s t : Rg) (w : World) (h : PR v x y s t [] w) (k : Cr) (hk : k.ok v.heap.size v) (hn : k.n ≤ 100) (h0 : k.t ≠ 0 ∧ k.t ≠ 1) :
    Calls Tryz.prog 7 #[.pointer (some ⟨x, 0, none⟩), .pointer (some ⟨y, 0, none⟩), k.val] w (RetD19 v x y s t k w) := by
  have HK := Lib.hid hk
  have HH := Lib.hid h
  have hklen := hk.1.len
  obtain ⟨kt, HT⟩ : ∃ z, Hid (k.t = z) := ⟨_, Lib.hid rfl⟩
  have HD : ∀ s, doR s k = (s, 0) := fun s => by unfold doR; rw [if_neg h0.1, if_neg h0.2]
  have d0 : ((kt : Int) == 0) = false := by rw [beq_eq_false_iff_ne, ← HT.out]; exact h0.1
  have d1 : ((kt : Int) == 1) = false := by rw [beq_eq_false_iff_ne, ← HT.out]; exact h0.2
  unfold RetD19
  rw [HD, HD]
  clear h hk HD
  unfold Cr.val
  go_enter Tryz.func7, Tryz.ntmps7
  go_wp2_with (first
    | (refine wpList_boxB rfl 34 (.tmp 2) rfl k.cells rfl ?_; intro w1 bx k1 hb1 hbx; have c0 : w1.cell? ⟨bx, 0, none⟩ = some (.int .i64 k.t) := k1.cell 0; have cq : w1.cell? ⟨bx, 1, none⟩ = some (.int .i64 k.q) := k1.cell 1; have c2 : w1.cell? ⟨bx, 2, none⟩ = some (.slice k.A k.n k.c) := k1.cell 2; have K1 := Lib.hid k1; have P1 := Lib.hid (HH.out.fresh (w' := w1) [bx] (fun g hg => by rw [List.mem_singleton.1 hg]; exact ⟨hbx, k1.lt⟩) hb1); have HV : Hid (v.heap.size ≤ w1.heap.size) := Lib.hid (Nat.le_trans HH.out.bel.size hb1.size); clear k1 hb1 hbx))
  refine (copy_any k.A k.n k.c 0 k.key w1 (by exact HK.out.1.step P1.out.bel) (by omega)).mono ?_
  rintro e w2 ⟨A1, c1, rfl, ho, hb2⟩
  have P2 : Hid (PR v x y s t (blkO A1 ++ [bx]) w2) := Lib.hid (P1.out.fresh (blkO A1) (fun g hg => own_lt ho g hg) hb2)
  have O2 := Lib.hid ho
  have K2 := Lib.hid (K1.out.step hb2)
  have c0 : w2.cell? ⟨bx, 0, none⟩ = some (.int .i64 kt) := by rw [← HT.out]; exact K2.out.cell 0
  have cq : w2.cell? ⟨bx, 1, none⟩ = some (.int .i64 k.q) := K2.out.cell 1
  have c2 : w2.cell? ⟨bx, 2, none⟩ = some (.slice k.A k.n k.c) := K2.out.cell 2
  clear ho hb2 K1 P1
  have HZ := Lib.hid (And.intro P2.out O2.out)
  go_wp2_with fail
  go_loopw [9] (fun i wr => ∃ j : Nat, j ≤ k.n ∧ i = .int .i64 (j : Int) ∧ Hid (PR v x y (s) (t) (blkO A1 ++ [bx]) wr ∧ ∃ q, OwnB wr w1.heap.size A1 k.n c1 q)) (fun i _ => k.n - (intOf i).toNat)
  case atStart => exact ⟨0, by omega, rfl, Lib.hid ⟨HZ.out.1, _, HZ.out.2⟩⟩
  case round =>
    obtain ⟨j, hj, rfl, HK⟩ := hrel
    by_cases hlt : j < k.n
    · obtain ⟨hpr, q, hown⟩ := HK.out
      obtain ⟨gb, hgb, hgl, hgs⟩ := hown.form (by omega)
      subst hgb
      have hq : j < q.length := by rw [hown.len]; exact hlt
      obtain ⟨xb, hx⟩ : ∃ x, q[j]? = some x := ⟨_, List.getElem?_eq_getElem hq⟩
      have hc := hown.cellAt hx
      have hf := hown.freeAt j
      obtain ⟨yb, hy⟩ := byte_up19 xb
      have hx8 := xb.toNat_lt
      have HO := Lib.hid (And.intro hpr (And.intro hgl hown))
      clear hx hgl hown hq hpr hgs
      go_wp2_with fail
      go_roundw
      case rel => exact ⟨j + 1, by omega, by go_num, Lib.hid ⟨HO.out.1.poke (S := [gb]) ((Oth.refl [gb] wr).set (by simp) j _) (fun g hg => by rw [List.mem_singleton.1 hg]; simp [blkO]) (fun g hg => by rw [List.mem_singleton.1 hg]; exact Nat.le_trans HV.out HO.out.2.1), _, HO.out.2.2.stored j yb _ (by rw [bv])⟩⟩
      case measure => simp [intOf]; omega
    · go_wp2_with fail
      go_ret
      exact ⟨rfl, HK.out.1.less (fun g hg => by cases hg)⟩
theorem do19_any (v : World) (x y : Nat) (s t : Rg) (w : World) (h : PR v x y s t [] w) (k : Cr) (hk : k.ok v.heap.size v) (hn : k.n ≤ 100) :
    Calls Tryz.prog 7 #[.pointer (some ⟨x, 0, none⟩), .pointer (some ⟨y, 0, none⟩), k.val] w (RetD19 v x y s t k w) := by
  by_cases h0 : k.t = 0
  · exact do19_inst v x y s t w h k hk hn h0
  by_cases h1 : k.t = 1
  · exact do19_ret v x y s t w h k hk hn h1
  · exact do19_else v x y s t w h k hk hn ⟨h0, h1⟩
end Go.Proofs.YtlapnfpdkfhfdaaGreat
