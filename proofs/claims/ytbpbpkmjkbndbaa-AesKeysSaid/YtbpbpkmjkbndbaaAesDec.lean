/- aes's decrypt of a square. Condition: the cipher is as New leaves it. (Written by wip/tools/gen_crypt.py.) -/
import Derived.Test.YtbpbpkmjkbndbaaAesEnc
import Derived.Test.YtbpbpkmjkbndbaaAesShift
import Derived.Test.YtbpbpkmjkbndbaaAesObj
import Derived.Test.YtbpbpkmjkbndbaaAesSqMem
import Derived.Deep.RegionHeld3
namespace Go.Proofs.Ytbpbpkmjkbndbaa
attribute [local irreducible] wsW keyUpTo keyF lastW turn0 encUp decUp
open Go.RowKit
set_option linter.unusedVariables false
set_option linter.unusedSimpArgs false

set_option maxRecDepth 100000 in
set_option maxHeartbeats 4000000 in
theorem dec_any (cb lo b : Nat) (v : Value) (key s : List UInt8) (w : World) (hk : key.length = 16) (hs : s.length = 16) (h : Tab w lo b bys true) (hc : Cf cb b v w (keysF key tableL)) :
    Calls Try.prog 36 #[.pointer (some ⟨cb, 0, none⟩), AV s] w (RetA (decL key tableL backL s) w) := by
  obtain ⟨R, HR⟩ : ∃ R, Hid (R = decL key tableL backL s) := ⟨_, Lib.hid rfl⟩
  rw [← HR.out]
  have HTB := Lib.hid h
  have HCF := Lib.hid hc
  have HS := Lib.hid hs
  obtain ⟨G, HG⟩ : ∃ G, Hid (G = w.heap.size) := ⟨_, Lib.hid rfl⟩
  have HGC : Hid (cb < G) := Lib.hid (by rw [HG.out]; exact hc.lt)
  obtain ⟨wr, HWR⟩ : ∃ wr, Hid (wr = W2 s zeros16 49 w) := ⟨_, Lib.hid rfl⟩
  have hb : Hid (Below w.heap.size w wr) := Lib.hid (by rw [HWR.out]; exact w2_below _ _ _ _)
  have ha : Hid (Ar wr G 0 s) := Lib.hid (by rw [HWR.out, HG.out]; exact w2_0 _ _ _ _)
  have hz : Hid (Ar wr (G + 1) 0 zeros16) := Lib.hid (by rw [HWR.out, HG.out]; exact w2_1 _ _ _ _)
  have hmf : ∀ (fn : Fn) (first cap : Array Value) (w : World), (Instr.makeFunc fn first cap).run Try.prog w = .ok (.func fn first cap) w := fun _ _ _ _ => rfl
  clear h hc hs
  go_enter Try.func36, Try.ntmps36
  go_wp2_with (first | (refine wpList_boxA rfl _ (.tmp 1) rfl s rfl ?_))
  show Code.wp _ _ _ _ (W2 s zeros16 49 w)
  rw [← HWR.out, ← HG.out]
  obtain ⟨kn, HKNE⟩ : ∃ kn, Hid (kn = keyF key tableL 10) := ⟨_, Lib.hid rfl⟩
  have HKN : Hid (kn.length = 16) := Lib.hid (by rw [HKNE.out]; exact keyF_len key tableL hk _ (by omega))
  obtain ⟨x0, HE0⟩ : ∃ x0, Hid (x0 = s) := ⟨_, Lib.hid rfl⟩
  have HX0 : Hid (x0.length = 16) := Lib.hid (by rw [HE0.out]; exact HS.out)
  obtain ⟨x1, HE1⟩ : ∃ x1, Hid (x1 = xorL x0 kn) := ⟨_, Lib.hid rfl⟩
  have HX1 : Hid (x1.length = 16) := Lib.hid (by rw [HE1.out]; exact xorL_len16 _ _ HX0.out HKN.out)
  obtain ⟨x2, HE2⟩ : ∃ x2, Hid (x2 = rowsL x1 3) := ⟨_, Lib.hid rfl⟩
  have HX2 : Hid (x2.length = 16) := Lib.hid (by rw [HE2.out]; exact rowsL_len _ _)
  obtain ⟨x3, HE3⟩ : ∃ x3, Hid (x3 = x2.map unsubB) := ⟨_, Lib.hid rfl⟩
  have HX3 : Hid (x3.length = 16) := Lib.hid (by rw [HE3.out]; exact (by rw [List.length_map]; exact HX2.out))
  have HA : Hid (Ar wr G 0 x0) := Lib.hid (by rw [HE0.out]; exact ha.out)
  have HK : Hid (∀ W : World, Below wr.heap.size wr W → TabC W cb b lo ∧ Tab W lo b bys true ∧ ldN (.pointer (some ⟨cb, 161, none⟩)) W = .ok (.value (AV kn)) W ∧ W.there G 0 16) := Lib.hid (fun W hW => by
    have hc := HCF.out.below (hb.out.trans (hW.mono hb.out.size))
    have ht := HTB.out.below (hb.out.trans (hW.mono hb.out.size))
    exact ⟨⟨hc.ptr, ht⟩, ht, by rw [HKNE.out]; exact hc.ldk hk 10 (by omega), (HA.out.below hW (HA.out.lt (by rw [HX0.out]; omega))).there16 HX0.out⟩)
  have hlx := HX3.out
  have hla : ldN (.pointer (some ⟨G, 0, none⟩)) wr.drew = .ok (.value (AV x0)) wr.drew := ldN_ar _ _ _ _ HA.out.drew HX0.out
  obtain ⟨⟨q0, _⟩, _, q1, q2⟩ := HK.out wr (Below.refl _ _)
  obtain ⟨⟨r0, _⟩, _, r1, r2⟩ := HK.out wr.drew (Below.refl _ _).drew
  refine wp_region_held_drew (S := fun w' => w'.cell? ⟨cb, 0, none⟩ = some (.pointer (some ⟨b, 0, none⟩)) ∧ ldN (.pointer (some ⟨cb, 161, none⟩)) w' = .ok (.value (AV kn)) w') (by kernel_rfl) ⟨r0, r1⟩ (fun hHeld => ?_)
  (try dsimp only at hHeld)
  refine wpAnyH_take (i := 1) (v := ?v19) rfl (by kernel_rfl) (by kernel_rfl) (by kernel_rfl) (fun _ _ _ h => h) (Or.inl ⟨by rfl, ?hy19⟩) hHeld ?_
  case hy19 => (intro w hSw; (try dsimp only at hSw); (try simp only [List.getElem_toArray, List.getElem_cons_zero, List.getElem_cons_succ]); go_simp <;> with_reducible rfl)
  (try simp only [Act.put, List.setIfInBounds_toArray, List.set_cons_zero, List.set_cons_succ])
  refine wpAnyH_take (i := 2) (v := ?v20) rfl (by kernel_rfl) (by kernel_rfl) (by kernel_rfl) (fun _ _ _ h => h) (Or.inl ⟨by rfl, ?hy20⟩) hHeld ?_
  case hy20 => (intro w hSw; (try dsimp only at hSw); (try simp only [List.getElem_toArray, List.getElem_cons_zero, List.getElem_cons_succ]); go_simp <;> with_reducible rfl)
  (try simp only [Act.put, List.setIfInBounds_toArray, List.set_cons_zero, List.set_cons_succ])
  refine wpAnyH_take (i := 3) (v := ?v21) rfl (by kernel_rfl) (by kernel_rfl) (by kernel_rfl) (fun _ _ _ h => h) (Or.inl ⟨by rfl, ?hy21⟩) hHeld ?_
  case hy21 => (intro w hSw; (try dsimp only at hSw); (try simp only [List.getElem_toArray, List.getElem_cons_zero, List.getElem_cons_succ]); go_simp <;> with_reducible rfl)
  (try simp only [Act.put, List.setIfInBounds_toArray, List.set_cons_zero, List.set_cons_succ])
  refine wpAnyH_take (i := 4) (v := ?v22) rfl (by kernel_rfl) (by kernel_rfl) (by kernel_rfl) (fun _ _ _ h => h) (Or.inl ⟨by rfl, ?hy22⟩) hHeld ?_
  case hy22 => (intro w hSw; (try dsimp only at hSw); (try simp only [List.getElem_toArray, List.getElem_cons_zero, List.getElem_cons_succ]); go_simp <;> with_reducible rfl)
  (try simp only [Act.put, List.setIfInBounds_toArray, List.set_cons_zero, List.set_cons_succ])
  refine wpAnyH_take (i := 5) (v := ?v23) rfl (by kernel_rfl) (by kernel_rfl) (by kernel_rfl) (fun _ _ _ h => h) (Or.inl ⟨by rfl, ?hy23⟩) hHeld ?_
  case hy23 => (intro w hSw; (try dsimp only at hSw); (try simp only [List.getElem_toArray, List.getElem_cons_zero, List.getElem_cons_succ]); go_simp <;> with_reducible rfl)
  (try simp only [Act.put, List.setIfInBounds_toArray, List.set_cons_zero, List.set_cons_succ])
  refine wpAnyH_take (i := 8) (v := ?v24) rfl (by kernel_rfl) (by kernel_rfl) (by kernel_rfl) (fun _ _ _ h => h) (Or.inl ⟨by rfl, ?hy24⟩) hHeld ?_
  case hy24 => (intro w hSw; (try dsimp only at hSw); (try simp only [List.getElem_toArray, List.getElem_cons_zero, List.getElem_cons_succ]); go_simp <;> with_reducible rfl)
  (try simp only [Act.put, List.setIfInBounds_toArray, List.set_cons_zero, List.set_cons_succ])
  refine wpAnyH_take (i := 9) (v := ?v25) rfl (by kernel_rfl) (by kernel_rfl) (by kernel_rfl) (fun _ _ _ h => h) (Or.inl ⟨by rfl, ?hy25⟩) hHeld ?_
  case hy25 => (intro w hSw; (try dsimp only at hSw); (try simp only [List.getElem_toArray, List.getElem_cons_zero, List.getElem_cons_succ]); go_simp <;> with_reducible rfl)
  (try simp only [Act.put, List.setIfInBounds_toArray, List.set_cons_zero, List.set_cons_succ])
  refine wpAnyH_take (i := 10) (v := ?v26) rfl (by kernel_rfl) (by kernel_rfl) (by kernel_rfl) (fun _ _ _ h => h) (Or.inl ⟨by rfl, ?hy26⟩) hHeld ?_
  case hy26 => (intro w hSw; (try dsimp only at hSw); (try simp only [List.getElem_toArray, List.getElem_cons_zero, List.getElem_cons_succ]); go_simp <;> with_reducible rfl)
  (try simp only [Act.put, List.setIfInBounds_toArray, List.set_cons_zero, List.set_cons_succ])
  refine wpAnyH_take (i := 11) (v := ?v27) rfl (by kernel_rfl) (by kernel_rfl) (by kernel_rfl) (fun _ _ _ h => h) (Or.inl ⟨by rfl, ?hy27⟩) hHeld ?_
  case hy27 => (intro w hSw; (try dsimp only at hSw); (try simp only [List.getElem_toArray, List.getElem_cons_zero, List.getElem_cons_succ]); go_simp <;> with_reducible rfl)
  (try simp only [Act.put, List.setIfInBounds_toArray, List.set_cons_zero, List.set_cons_succ])
  refine wpAnyH_take (i := 12) (v := ?v28) rfl (by kernel_rfl) (by kernel_rfl) (by kernel_rfl) (fun _ _ _ h => h) (Or.inl ⟨by rfl, ?hy28⟩) hHeld ?_
  case hy28 => (intro w hSw; (try dsimp only at hSw); (try simp only [List.getElem_toArray, List.getElem_cons_zero, List.getElem_cons_succ]); go_simp <;> with_reducible rfl)
  (try simp only [Act.put, List.setIfInBounds_toArray, List.set_cons_zero, List.set_cons_succ])
  refine wpAnyH_ready (rs := [0]) (by kernel_rfl) (by simp) ?_
  refine AllReadyH.cons rfl (fun K hK => ?_) AllReadyH.nil
  (try simp only [List.getElem_toArray, List.getElem_cons_zero, List.getElem_cons_succ])
  go_simp
  refine hK.out _ _ hHeld (fun hHeld => ?_)
  clear hK K
  (try simp only [Act.put, List.setIfInBounds_toArray, List.set_cons_zero, List.set_cons_succ])
  refine wpAnyH_ready (rs := [6]) (by kernel_rfl) (by simp) ?_
  refine AllReadyH.cons rfl (fun K hK => ?_) AllReadyH.nil
  (try simp only [List.getElem_toArray, List.getElem_cons_zero, List.getElem_cons_succ])
  go_simp
  refine (sadd_any x0 kn _ HX0.out HKN.out).mono ?_; rw [← HE1.out]; rintro e w1 ⟨rfl, hb⟩; have HB1 : Hid (Below wr.heap.size wr w1) := Lib.hid ((Below.refl wr.heap.size wr).drew.trans (show Below wr.heap.size wr.drew w1 from hb)); clear hb; obtain ⟨⟨q0, _⟩, _, q1, q2⟩ := HK.out w1 HB1.out
  (try go_wp2_with fail)
  refine hK.out _ _ ⟨q0, q1⟩ (fun hHeld => ?_)
  clear hK K
  (try simp only [Act.put, List.setIfInBounds_toArray, List.set_cons_zero, List.set_cons_succ])
  refine wpAnyH_ready (rs := [7]) (by kernel_rfl) (by simp) ?_
  refine AllReadyH.cons rfl (fun K hK => ?_) AllReadyH.nil
  (try simp only [List.getElem_toArray, List.getElem_cons_zero, List.getElem_cons_succ])
  go_simp
  refine (unshift_any x1 _ HX1.out).mono ?_; rw [← HE2.out]; rintro e w2 ⟨rfl, hb⟩; have HB2 : Hid (Below wr.heap.size wr w2) := Lib.hid (HB1.out.trans (hb.mono HB1.out.size)); clear hb; obtain ⟨⟨q0, _⟩, _, q1, q2⟩ := HK.out w2 HB2.out
  (try go_wp2_with fail)
  refine hK.out _ _ ⟨q0, q1⟩ (fun hHeld => ?_)
  clear hK K
  (try simp only [Act.put, List.setIfInBounds_toArray, List.set_cons_zero, List.set_cons_succ])
  refine wpAnyH_ready (rs := [13]) (by kernel_rfl) (by simp) ?_
  refine AllReadyH.cons rfl (fun K hK => ?_) AllReadyH.nil
  (try simp only [List.getElem_toArray, List.getElem_cons_zero, List.getElem_cons_succ])
  go_simp
  refine (eachU_any lo b bys (by decide) x2 _ HX2.out (by exact (HK.out _ HB2.out).2.1)).mono ?_; rw [← HE3.out]; rintro e w3 ⟨rfl, hb⟩; have HB3 : Hid (Below wr.heap.size wr w3) := Lib.hid (HB2.out.trans (hb.mono HB2.out.size)); clear hb; obtain ⟨⟨q0, _⟩, _, q1, q2⟩ := HK.out w3 HB3.out
  (try go_wp2_with fail)
  refine hK.out _ _ ⟨q0, q1⟩ (fun hHeld => ?_)
  clear hK K
  (try simp only [Act.put, List.setIfInBounds_toArray, List.set_cons_zero, List.set_cons_succ])
  refine wpAnyH_ready (rs := [14]) (by kernel_rfl) (by simp) ?_
  refine AllReadyH.cons rfl (fun K hK => ?_) AllReadyH.nil
  (try simp only [List.getElem_toArray, List.getElem_cons_zero, List.getElem_cons_succ])
  go_simp
  refine hK.out _ _ ⟨((HCF.out.below (hb.out.trans (HB3.out.mono hb.out.size))).block (heap_setCells G cb (by have := HGC.out; omega) _ _ _)).ptr, by rw [HKNE.out]; exact (((HCF.out.below (hb.out.trans (HB3.out.mono hb.out.size))).block (heap_setCells G cb (by have := HGC.out; omega) _ _ _)).ldk hk 10 (by omega))⟩ (fun _ => ?_)
  clear hK K
  (try simp only [Act.put, List.setIfInBounds_toArray, List.set_cons_zero, List.set_cons_succ])
  refine wpAnyH_done (by kernel_rfl) ?_ _
  obtain ⟨WX, HWX⟩ : ∃ WX, Hid (WX = w3.setCells G 0 (bvs x3)) := ⟨_, Lib.hid rfl⟩
  rw [← HWX.out]
  have HBX : Hid (Below w.heap.size w WX) := Lib.hid (by rw [HWX.out]; exact below_setCells (hb.out.trans (HB3.out.mono hb.out.size)) (by rw [HG.out]; omega) _ _)
  have HAX : Hid (Ar WX G 0 x3) := Lib.hid (by rw [HWX.out]; exact (HA.out.below HB3.out (HA.out.lt (by rw [HX0.out]; omega))).whole x3 (by rw [HX3.out, HX0.out]))
  have HZX : Hid (Ar WX (G + 1) 0 zeros16) := Lib.hid (by rw [HWX.out]; exact (hz.out.below HB3.out (hz.out.lt (by simp [zeros16]))).setCells (by omega) _ _)
  have HAX0 : Hid (Ar WX G 0 (decUp key tableL backL s 1)) := Lib.hid (by
    have : decUp key tableL backL s 1 = x3 := by
      rw [HE3.out, HE2.out, HE1.out, HE0.out, HKNE.out, ← subs_back']
      rw [decUp, if_neg (by omega), decUp]
    rw [this]; exact HAX.out)
  clear HA HK ha hz hb hla q0 q1 q2 r0 r1 r2 hlx HAX
  clear HX1 HE1 HX0 HE0 HKN HKNE HX2 HE2 HX3 HE3
  go_wp2_with fail
  go_loopw [5] (fun i wr => ∃ p : Nat, p ≤ 9 ∧ i = .int .i64 (p : Int) ∧ Hid (Below w.heap.size w wr) ∧ Hid (Ar wr G 0 (decUp key tableL backL s (10 - p))) ∧ Hid (Ar wr (G + 1) 0 zeros16)) (fun i _ => (intOf i).toNat)
  case atStart => exact ⟨9, by omega, rfl, HBX, HAX0, HZX⟩
  case round =>
    clear HBX HAX0 HZX
    obtain ⟨p, hp, rfl, hb, ha, hz⟩ := hrel
    by_cases hlt : 0 < p
    · have hq1 : (0 : Int) ≤ (p : Int) := by omega
      have hq2 : (p : Int) < 11 := by omega
      have hq3 : (0 : Int) < (p : Int) := by omega
      go_wp2_with fail
      obtain ⟨kn, HKNE⟩ : ∃ kn, Hid (kn = keyF key tableL p) := ⟨_, Lib.hid rfl⟩
      have HKN : Hid (kn.length = 16) := Lib.hid (by rw [HKNE.out]; exact keyF_len key tableL hk _ (by omega))
      obtain ⟨x0, HE0⟩ : ∃ x0, Hid (x0 = decUp key tableL backL s (10 - p)) := ⟨_, Lib.hid rfl⟩
      have HX0 : Hid (x0.length = 16) := Lib.hid (by rw [HE0.out]; exact decUp_len key tableL backL s HS.out _)
      obtain ⟨x1, HE1⟩ : ∃ x1, Hid (x1 = xorL x0 kn) := ⟨_, Lib.hid rfl⟩
      have HX1 : Hid (x1.length = 16) := Lib.hid (by rw [HE1.out]; exact xorL_len16 _ _ HX0.out HKN.out)
      obtain ⟨x2, HE2⟩ : ∃ x2, Hid (x2 = columnsL x1 [14, 11, 13, 9]) := ⟨_, Lib.hid rfl⟩
      have HX2 : Hid (x2.length = 16) := Lib.hid (by rw [HE2.out]; exact columns_len _ _)
      obtain ⟨x3, HE3⟩ : ∃ x3, Hid (x3 = rowsL x2 3) := ⟨_, Lib.hid rfl⟩
      have HX3 : Hid (x3.length = 16) := Lib.hid (by rw [HE3.out]; exact rowsL_len _ _)
      obtain ⟨x4, HE4⟩ : ∃ x4, Hid (x4 = x3.map unsubB) := ⟨_, Lib.hid rfl⟩
      have HX4 : Hid (x4.length = 16) := Lib.hid (by rw [HE4.out]; exact (by rw [List.length_map]; exact HX3.out))
      have HA : Hid (Ar wr G 0 x0) := Lib.hid (by rw [HE0.out]; exact ha.out)
      have HK : Hid (∀ W : World, Below wr.heap.size wr W → TabC W cb b lo ∧ Tab W lo b bys true ∧ ldN (.pointer (some ⟨cb, 1 + p * 16, none⟩)) W = .ok (.value (AV kn)) W ∧ W.there G 0 16) := Lib.hid (fun W hW => by
        have hc := HCF.out.below (hb.out.trans (hW.mono hb.out.size))
        have ht := HTB.out.below (hb.out.trans (hW.mono hb.out.size))
        exact ⟨⟨hc.ptr, ht⟩, ht, by rw [HKNE.out]; exact hc.ldk hk p (by omega), (HA.out.below hW (HA.out.lt (by rw [HX0.out]; omega))).there16 HX0.out⟩)
      have hlx := HX4.out
      have hla : ldN (.pointer (some ⟨G, 0, none⟩)) wr.drew = .ok (.value (AV x0)) wr.drew := ldN_ar _ _ _ _ HA.out.drew HX0.out
      obtain ⟨⟨q0, _⟩, _, q1, q2⟩ := HK.out wr (Below.refl _ _)
      obtain ⟨⟨r0, _⟩, _, r1, r2⟩ := HK.out wr.drew (Below.refl _ _).drew
      refine wp_region_held_drew (S := fun w' => w'.cell? ⟨cb, 0, none⟩ = some (.pointer (some ⟨b, 0, none⟩)) ∧ ldN (.pointer (some ⟨cb, 1 + p * 16, none⟩)) w' = .ok (.value (AV kn)) w') (by kernel_rfl) ⟨r0, r1⟩ (fun hHeld => ?_)
      (try dsimp only at hHeld)
      refine wpAnyH_take (i := 1) (v := ?v29) rfl (by kernel_rfl) (by kernel_rfl) (by kernel_rfl) (fun _ _ _ h => h) (Or.inl ⟨by rfl, ?hy29⟩) hHeld ?_
      case hy29 => (intro w hSw; (try dsimp only at hSw); (try simp only [List.getElem_toArray, List.getElem_cons_zero, List.getElem_cons_succ]); go_simp <;> with_reducible rfl)
      (try simp only [Act.put, List.setIfInBounds_toArray, List.set_cons_zero, List.set_cons_succ])
      refine wpAnyH_take (i := 2) (v := ?v30) rfl (by kernel_rfl) (by kernel_rfl) (by kernel_rfl) (fun _ _ _ h => h) (Or.inl ⟨by rfl, ?hy30⟩) hHeld ?_
      case hy30 => (intro w hSw; (try dsimp only at hSw); (try simp only [List.getElem_toArray, List.getElem_cons_zero, List.getElem_cons_succ]); go_simp <;> with_reducible rfl)
      (try simp only [Act.put, List.setIfInBounds_toArray, List.set_cons_zero, List.set_cons_succ])
      refine wpAnyH_take (i := 3) (v := ?v31) rfl (by kernel_rfl) (by kernel_rfl) (by kernel_rfl) (fun _ _ _ h => h) (Or.inl ⟨by rfl, ?hy31⟩) hHeld ?_
      case hy31 => (intro w hSw; (try dsimp only at hSw); (try simp only [List.getElem_toArray, List.getElem_cons_zero, List.getElem_cons_succ]); go_simp <;> with_reducible rfl)
      (try simp only [Act.put, List.setIfInBounds_toArray, List.set_cons_zero, List.set_cons_succ])
      refine wpAnyH_take (i := 4) (v := ?v32) rfl (by kernel_rfl) (by kernel_rfl) (by kernel_rfl) (fun _ _ _ h => h) (Or.inl ⟨by rfl, ?hy32⟩) hHeld ?_
      case hy32 => (intro w hSw; (try dsimp only at hSw); (try simp only [List.getElem_toArray, List.getElem_cons_zero, List.getElem_cons_succ]); go_simp <;> with_reducible rfl)
      (try simp only [Act.put, List.setIfInBounds_toArray, List.set_cons_zero, List.set_cons_succ])
      refine wpAnyH_take (i := 5) (v := ?v33) rfl (by kernel_rfl) (by kernel_rfl) (by kernel_rfl) (fun _ _ _ h => h) (Or.inl ⟨by rfl, ?hy33⟩) hHeld ?_
      case hy33 => (intro w hSw; (try dsimp only at hSw); (try simp only [List.getElem_toArray, List.getElem_cons_zero, List.getElem_cons_succ]); go_simp <;> with_reducible rfl)
      (try simp only [Act.put, List.setIfInBounds_toArray, List.set_cons_zero, List.set_cons_succ])
      refine wpAnyH_take (i := 6) (v := ?v34) rfl (by kernel_rfl) (by kernel_rfl) (by kernel_rfl) (fun _ _ _ h => h) (Or.inl ⟨by rfl, ?hy34⟩) hHeld ?_
      case hy34 => (intro w hSw; (try dsimp only at hSw); (try simp only [List.getElem_toArray, List.getElem_cons_zero, List.getElem_cons_succ]); go_simp <;> with_reducible rfl)
      (try simp only [Act.put, List.setIfInBounds_toArray, List.set_cons_zero, List.set_cons_succ])
      refine wpAnyH_take (i := 8) (v := ?v35) rfl (by kernel_rfl) (by kernel_rfl) (by kernel_rfl) (fun _ _ _ h => h) (Or.inl ⟨by rfl, ?hy35⟩) hHeld ?_
      case hy35 => (intro w hSw; (try dsimp only at hSw); (try simp only [List.getElem_toArray, List.getElem_cons_zero, List.getElem_cons_succ]); go_simp <;> with_reducible rfl)
      (try simp only [Act.put, List.setIfInBounds_toArray, List.set_cons_zero, List.set_cons_succ])
      refine wpAnyH_take (i := 9) (v := ?v36) rfl (by kernel_rfl) (by kernel_rfl) (by kernel_rfl) (fun _ _ _ h => h) (Or.inl ⟨by rfl, ?hy36⟩) hHeld ?_
      case hy36 => (intro w hSw; (try dsimp only at hSw); (try simp only [List.getElem_toArray, List.getElem_cons_zero, List.getElem_cons_succ]); go_simp <;> with_reducible rfl)
      (try simp only [Act.put, List.setIfInBounds_toArray, List.set_cons_zero, List.set_cons_succ])
      refine wpAnyH_take (i := 12) (v := ?v37) rfl (by kernel_rfl) (by kernel_rfl) (by kernel_rfl) (fun _ _ _ h => h) (Or.inl ⟨by rfl, ?hy37⟩) hHeld ?_
      case hy37 => (intro w hSw; (try dsimp only at hSw); (try simp only [List.getElem_toArray, List.getElem_cons_zero, List.getElem_cons_succ]); go_simp <;> with_reducible rfl)
      (try simp only [Act.put, List.setIfInBounds_toArray, List.set_cons_zero, List.set_cons_succ])
      refine wpAnyH_take (i := 13) (v := ?v38) rfl (by kernel_rfl) (by kernel_rfl) (by kernel_rfl) (fun _ _ _ h => h) (Or.inl ⟨by rfl, ?hy38⟩) hHeld ?_
      case hy38 => (intro w hSw; (try dsimp only at hSw); (try simp only [List.getElem_toArray, List.getElem_cons_zero, List.getElem_cons_succ]); go_simp <;> with_reducible rfl)
      (try simp only [Act.put, List.setIfInBounds_toArray, List.set_cons_zero, List.set_cons_succ])
      refine wpAnyH_take (i := 14) (v := ?v39) rfl (by kernel_rfl) (by kernel_rfl) (by kernel_rfl) (fun _ _ _ h => h) (Or.inl ⟨by rfl, ?hy39⟩) hHeld ?_
      case hy39 => (intro w hSw; (try dsimp only at hSw); (try simp only [List.getElem_toArray, List.getElem_cons_zero, List.getElem_cons_succ]); go_simp <;> with_reducible rfl)
      (try simp only [Act.put, List.setIfInBounds_toArray, List.set_cons_zero, List.set_cons_succ])
      refine wpAnyH_take (i := 15) (v := ?v40) rfl (by kernel_rfl) (by kernel_rfl) (by kernel_rfl) (fun _ _ _ h => h) (Or.inl ⟨by rfl, ?hy40⟩) hHeld ?_
      case hy40 => (intro w hSw; (try dsimp only at hSw); (try simp only [List.getElem_toArray, List.getElem_cons_zero, List.getElem_cons_succ]); go_simp <;> with_reducible rfl)
      (try simp only [Act.put, List.setIfInBounds_toArray, List.set_cons_zero, List.set_cons_succ])
      refine wpAnyH_take (i := 16) (v := ?v41) rfl (by kernel_rfl) (by kernel_rfl) (by kernel_rfl) (fun _ _ _ h => h) (Or.inl ⟨by rfl, ?hy41⟩) hHeld ?_
      case hy41 => (intro w hSw; (try dsimp only at hSw); (try simp only [List.getElem_toArray, List.getElem_cons_zero, List.getElem_cons_succ]); go_simp <;> with_reducible rfl)
      (try simp only [Act.put, List.setIfInBounds_toArray, List.set_cons_zero, List.set_cons_succ])
      refine wpAnyH_ready (rs := [0]) (by kernel_rfl) (by simp) ?_
      refine AllReadyH.cons rfl (fun K hK => ?_) AllReadyH.nil
      (try simp only [List.getElem_toArray, List.getElem_cons_zero, List.getElem_cons_succ])
      go_simp
      refine hK.out _ _ hHeld (fun hHeld => ?_)
      clear hK K
      (try simp only [Act.put, List.setIfInBounds_toArray, List.set_cons_zero, List.set_cons_succ])
      refine wpAnyH_ready (rs := [7]) (by kernel_rfl) (by simp) ?_
      refine AllReadyH.cons rfl (fun K hK => ?_) AllReadyH.nil
      (try simp only [List.getElem_toArray, List.getElem_cons_zero, List.getElem_cons_succ])
      go_simp
      refine (sadd_any x0 kn _ HX0.out HKN.out).mono ?_; rw [← HE1.out]; rintro e w1 ⟨rfl, hb⟩; have HB1 : Hid (Below wr.heap.size wr w1) := Lib.hid ((Below.refl wr.heap.size wr).drew.trans (show Below wr.heap.size wr.drew w1 from hb)); clear hb; obtain ⟨⟨q0, _⟩, _, q1, q2⟩ := HK.out w1 HB1.out
      (try go_wp2_with fail)
      refine hK.out _ _ ⟨q0, q1⟩ (fun hHeld => ?_)
      clear hK K
      (try simp only [Act.put, List.setIfInBounds_toArray, List.set_cons_zero, List.set_cons_succ])
      refine wpAnyH_ready (rs := [10]) (by kernel_rfl) (by simp) ?_
      refine AllReadyH.cons rfl (fun K hK => ?_) AllReadyH.nil
      (try simp only [List.getElem_toArray, List.getElem_cons_zero, List.getElem_cons_succ])
      go_simp
      refine (columns_unmix cb b lo x1 _ HX1.out (by exact (HK.out _ HB1.out).1)).mono ?_; rw [← HE2.out]; rintro e w2 ⟨rfl, hb⟩; have HB2 : Hid (Below wr.heap.size wr w2) := Lib.hid (HB1.out.trans (hb.mono HB1.out.size)); clear hb; obtain ⟨⟨q0, _⟩, _, q1, q2⟩ := HK.out w2 HB2.out
      (try go_wp2_with fail)
      refine hK.out _ _ ⟨q0, q1⟩ (fun hHeld => ?_)
      clear hK K
      (try simp only [Act.put, List.setIfInBounds_toArray, List.set_cons_zero, List.set_cons_succ])
      refine wpAnyH_ready (rs := [11]) (by kernel_rfl) (by simp) ?_
      refine AllReadyH.cons rfl (fun K hK => ?_) AllReadyH.nil
      (try simp only [List.getElem_toArray, List.getElem_cons_zero, List.getElem_cons_succ])
      go_simp
      refine (unshift_any x2 _ HX2.out).mono ?_; rw [← HE3.out]; rintro e w3 ⟨rfl, hb⟩; have HB3 : Hid (Below wr.heap.size wr w3) := Lib.hid (HB2.out.trans (hb.mono HB2.out.size)); clear hb; obtain ⟨⟨q0, _⟩, _, q1, q2⟩ := HK.out w3 HB3.out
      (try go_wp2_with fail)
      refine hK.out _ _ ⟨q0, q1⟩ (fun hHeld => ?_)
      clear hK K
      (try simp only [Act.put, List.setIfInBounds_toArray, List.set_cons_zero, List.set_cons_succ])
      refine wpAnyH_ready (rs := [17]) (by kernel_rfl) (by simp) ?_
      refine AllReadyH.cons rfl (fun K hK => ?_) AllReadyH.nil
      (try simp only [List.getElem_toArray, List.getElem_cons_zero, List.getElem_cons_succ])
      go_simp
      refine (eachU_any lo b bys (by decide) x3 _ HX3.out (by exact (HK.out _ HB3.out).2.1)).mono ?_; rw [← HE4.out]; rintro e w4 ⟨rfl, hb⟩; have HB4 : Hid (Below wr.heap.size wr w4) := Lib.hid (HB3.out.trans (hb.mono HB3.out.size)); clear hb; obtain ⟨⟨q0, _⟩, _, q1, q2⟩ := HK.out w4 HB4.out
      (try go_wp2_with fail)
      refine hK.out _ _ ⟨q0, q1⟩ (fun hHeld => ?_)
      clear hK K
      (try simp only [Act.put, List.setIfInBounds_toArray, List.set_cons_zero, List.set_cons_succ])
      refine wpAnyH_ready (rs := [18]) (by kernel_rfl) (by simp) ?_
      refine AllReadyH.cons rfl (fun K hK => ?_) AllReadyH.nil
      (try simp only [List.getElem_toArray, List.getElem_cons_zero, List.getElem_cons_succ])
      go_simp
      refine hK.out _ _ ⟨((HCF.out.below (hb.out.trans (HB4.out.mono hb.out.size))).block (heap_setCells G cb (by have := HGC.out; omega) _ _ _)).ptr, by rw [HKNE.out]; exact (((HCF.out.below (hb.out.trans (HB4.out.mono hb.out.size))).block (heap_setCells G cb (by have := HGC.out; omega) _ _ _)).ldk hk p (by omega))⟩ (fun _ => ?_)
      clear hK K
      (try simp only [Act.put, List.setIfInBounds_toArray, List.set_cons_zero, List.set_cons_succ])
      refine wpAnyH_done (by kernel_rfl) ?_ _
      obtain ⟨WX, HWX⟩ : ∃ WX, Hid (WX = w4.setCells G 0 (bvs x4)) := ⟨_, Lib.hid rfl⟩
      rw [← HWX.out]
      have HBX : Hid (Below w.heap.size w WX) := Lib.hid (by rw [HWX.out]; exact below_setCells (hb.out.trans (HB4.out.mono hb.out.size)) (by rw [HG.out]; omega) _ _)
      have HAX : Hid (Ar WX G 0 x4) := Lib.hid (by rw [HWX.out]; exact (HA.out.below HB4.out (HA.out.lt (by rw [HX0.out]; omega))).whole x4 (by rw [HX4.out, HX0.out]))
      have HZX : Hid (Ar WX (G + 1) 0 zeros16) := Lib.hid (by rw [HWX.out]; exact (hz.out.below HB4.out (hz.out.lt (by simp [zeros16]))).setCells (by omega) _ _)
      go_wp2_with fail
      go_roundw
      case rel =>
        have he : decUp key tableL backL s (10 - (p - 1)) = x4 := by
          rw [HE4.out, HE3.out, HE2.out, HE1.out, HE0.out, HKNE.out, ← subs_back']
          rw [show 10 - (p - 1) = (10 - p) + 1 by omega, decUp, show 10 - (10 - p) = p by omega, if_pos (by omega)]
        exact ⟨p - 1, by omega, by congr 1; omega, HBX, Lib.hid (by rw [he]; exact HAX.out), HZX⟩
      case measure => simp [intOf]; omega
    · obtain rfl : p = 0 := by omega
      go_wp2_with fail
      obtain ⟨kn, HKNE⟩ : ∃ kn, Hid (kn = keyF key tableL 0) := ⟨_, Lib.hid rfl⟩
      have HKN : Hid (kn.length = 16) := Lib.hid (by rw [HKNE.out]; exact keyF_len key tableL hk _ (by omega))
      obtain ⟨x0, HE0⟩ : ∃ x0, Hid (x0 = decUp key tableL backL s 10) := ⟨_, Lib.hid rfl⟩
      have HX0 : Hid (x0.length = 16) := Lib.hid (by rw [HE0.out]; exact decUp_len key tableL backL s HS.out _)
      obtain ⟨x1, HE1⟩ : ∃ x1, Hid (x1 = xorL x0 kn) := ⟨_, Lib.hid rfl⟩
      have HX1 : Hid (x1.length = 16) := Lib.hid (by rw [HE1.out]; exact xorL_len16 _ _ HX0.out HKN.out)
      have HA : Hid (Ar wr G 0 x0) := Lib.hid (by rw [HE0.out]; exact ha.out)
      have HK : Hid (∀ W : World, Below wr.heap.size wr W → TabC W cb b lo ∧ Tab W lo b bys true ∧ ldN (.pointer (some ⟨cb, 1, none⟩)) W = .ok (.value (AV kn)) W ∧ W.there (G + 1) 0 16) := Lib.hid (fun W hW => by
        have hc := HCF.out.below (hb.out.trans (hW.mono hb.out.size))
        have ht := HTB.out.below (hb.out.trans (hW.mono hb.out.size))
        exact ⟨⟨hc.ptr, ht⟩, ht, by rw [HKNE.out]; exact hc.ldk hk 0 (by omega), (hz.out.below hW (hz.out.lt (by simp [zeros16]))).there16 rfl⟩)
      have hlx := HX1.out
      have hla : ldN (.pointer (some ⟨G, 0, none⟩)) wr.drew = .ok (.value (AV x0)) wr.drew := ldN_ar _ _ _ _ HA.out.drew HX0.out
      obtain ⟨⟨q0, _⟩, _, q1, q2⟩ := HK.out wr (Below.refl _ _)
      obtain ⟨⟨r0, _⟩, _, r1, r2⟩ := HK.out wr.drew (Below.refl _ _).drew
      have HLD : Hid (∀ W : World, Below wr.heap.size wr W → ldN (.pointer (some ⟨G, 0, none⟩)) W = .ok (.value (AV x0)) W) := Lib.hid (fun W hW => ldN_ar _ _ _ _ (HA.out.below hW (HA.out.lt (by rw [HX0.out]; omega))) HX0.out)
      go_region_held3 (fun w' => ldN (.pointer (some ⟨G, 0, none⟩)) w' = .ok (.value (AV x0)) w' ∧ ldN (.pointer (some ⟨cb, 1, none⟩)) w' = .ok (.value (AV kn)) w') (first | (exact ⟨by assumption, by assumption⟩) | (exact ⟨ldN_ar _ _ _ _ (((HA.out.below HB1.out (HA.out.lt (by rw [HX0.out]; omega)))).setCells (by omega) _ _) HX0.out, by rw [HKNE.out]; exact (((HCF.out.below (hb.out.trans (HB1.out.mono hb.out.size))).block (heap_setCells (G + 1) cb (by have := HGC.out; omega) _ _ _)).ldk hk 0 (by omega))⟩)) (first | (go_at_call 42; refine (sadd_any x0 kn _ HX0.out HKN.out).mono ?_; rw [← HE1.out]; rintro e w1 ⟨rfl, hb⟩; have HB1 : Hid (Below wr.heap.size wr w1) := Lib.hid ((Below.refl wr.heap.size wr).drew.trans (show Below wr.heap.size wr.drew w1 from hb)); clear hb; have ql := HLD.out _ HB1.out; obtain ⟨⟨q0, _⟩, _, q1, q2⟩ := HK.out w1 HB1.out))
      obtain ⟨WX, HWX⟩ : ∃ WX, Hid (WX = w1.setCells (G + 1) 0 (bvs x1)) := ⟨_, Lib.hid rfl⟩
      rw [← HWX.out]
      have HBX : Hid (Below w.heap.size w WX) := Lib.hid (by rw [HWX.out]; exact below_setCells (hb.out.trans (HB1.out.mono hb.out.size)) (by rw [HG.out]; omega) _ _)
      go_wp2_with fail
      have he : R = x1 := by
        rw [HR.out, HE1.out, HE0.out, HKNE.out]
        rfl
      have HZF : Ar WX (G + 1) 0 x1 := by rw [HWX.out]; exact (hz.out.below HB1.out (hz.out.lt (by simp [zeros16]))).whole x1 (by rw [HX1.out]; rfl)
      rw [he]
      exact bodyPost_ret (v := AV x1) (res_cell rfl _ _ (G + 1) 4 _ x1 rfl HZF up_sq (by rw [HX1.out]; exact sz_sq)) rfl ⟨rfl, HBX.out⟩
end Go.Proofs.Ytbpbpkmjkbndbaa
