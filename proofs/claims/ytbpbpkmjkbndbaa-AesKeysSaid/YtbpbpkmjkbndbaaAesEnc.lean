/- aes's encrypt of a square. Condition: the cipher is as New leaves it. (Written by wip/tools/gen_crypt.py.) -/
import Derived.Test.YtbpbpkmjkbndbaaAesSqFn
import Derived.Test.YtbpbpkmjkbndbaaAesShift
import Derived.Test.YtbpbpkmjkbndbaaAesObj
import Derived.Test.YtbpbpkmjkbndbaaAesSqMem
import Derived.Deep.RegionHeld3
namespace Go.Proofs.Ytbpbpkmjkbndbaa
attribute [local irreducible] wsW keyUpTo keyF lastW turn0 encUp decUp
open Go.RowKit
set_option linter.unusedVariables false
set_option linter.unusedSimpArgs false

theorem subs_table (b : List UInt8) : subsL tableL b = b.map subB := by unfold subsL; exact List.map_congr_left (fun x _ => tableL_at x)
theorem subs_back' (b : List UInt8) : subsL backL b = b.map unsubB := by unfold subsL; exact List.map_congr_left (fun x _ => backL_at x)
theorem Cf.key {cb b : Nat} {v : Value} {W : World} {key t : List UInt8} (h : Cf cb b v W (keysF key t)) (hk : key.length = 16) (i : Nat) (hi : i < 11) : Ar W cb (1 + i * 16) (keyF key t i) := by
  have := h.ar.part (16 * i) 16 (by rw [h.len]; omega)
  unfold keysF at this
  rw [keyUpTo_cut16 key t hk i 44 (by omega) (by omega), Nat.mul_comm 16 i] at this
  exact this
theorem Cf.ldk {cb b : Nat} {v : Value} {W : World} {key t : List UInt8} (h : Cf cb b v W (keysF key t)) (hk : key.length = 16) (i : Nat) (hi : i < 11) : ldN (.pointer (some ⟨cb, 1 + i * 16, none⟩)) W = .ok (.value (AV (keyF key t i))) W :=
  ldN_ar _ _ _ _ (h.key hk i hi) (keyF_len key t hk i hi)
theorem xorL_len16 (a b : List UInt8) (ha : a.length = 16) (hb : b.length = 16) : (xorL a b).length = 16 := by rw [xorL_len _ _ (by rw [ha, hb]), ha]

set_option maxRecDepth 100000 in
set_option maxHeartbeats 4000000 in
theorem enc_any (cb lo b : Nat) (v : Value) (key s : List UInt8) (w : World) (hk : key.length = 16) (hs : s.length = 16) (h : Tab w lo b bys true) (hc : Cf cb b v w (keysF key tableL)) :
    Calls Try.prog 32 #[.pointer (some ⟨cb, 0, none⟩), AV s] w (RetA (encL key tableL s) w) := by
  obtain ⟨R, HR⟩ : ∃ R, Hid (R = encL key tableL s) := ⟨_, Lib.hid rfl⟩
  rw [← HR.out]
  have HTB := Lib.hid h
  have HCF := Lib.hid hc
  have HS := Lib.hid hs
  obtain ⟨G, HG⟩ : ∃ G, Hid (G = w.heap.size) := ⟨_, Lib.hid rfl⟩
  have HGC : Hid (cb < G) := Lib.hid (by rw [HG.out]; exact hc.lt)
  obtain ⟨wr, HWR⟩ : ∃ wr, Hid (wr = W2 s zeros16 49 w) := ⟨_, Lib.hid rfl⟩
  have hb : Hid (Below w.heap.size w wr) := Lib.hid (by rw [HWR.out]; exact w2_below _ _ _ _)
  have ha : Hid (Ar wr G 0 s) := Lib.hid (by rw [HWR.out, HG.out]; exact w2_0 _ _ _ _)
  have hz : Hid (Ar wr (G + 1) 0 zeros16) := Lib.hid (by rw [HWR.out, HG.out]; exact w2_1 _ _ _ _)
  have hmf : ∀ (fn : Fn) (first cap : Array Value) (w : World), (Instr.makeFunc fn first cap).run Try.prog w = .ok (.func fn first cap) w := fun _ _ _ _ => rfl
  clear h hc hs
  go_enter Try.func32, Try.ntmps32
  go_wp2_with (first | (refine wpList_boxA rfl _ (.tmp 1) rfl s rfl ?_))
  show Code.wp _ _ _ _ (W2 s zeros16 49 w)
  rw [← HWR.out, ← HG.out]
  obtain ⟨kn, HKNE⟩ : ∃ kn, Hid (kn = keyF key tableL 0) := ⟨_, Lib.hid rfl⟩
  have HKN : Hid (kn.length = 16) := Lib.hid (by rw [HKNE.out]; exact keyF_len key tableL hk _ (by omega))
  obtain ⟨x0, HE0⟩ : ∃ x0, Hid (x0 = s) := ⟨_, Lib.hid rfl⟩
  have HX0 : Hid (x0.length = 16) := Lib.hid (by rw [HE0.out]; exact HS.out)
  obtain ⟨x1, HE1⟩ : ∃ x1, Hid (x1 = xorL x0 kn) := ⟨_, Lib.hid rfl⟩
  have HX1 : Hid (x1.length = 16) := Lib.hid (by rw [HE1.out]; exact xorL_len16 _ _ HX0.out HKN.out)
  have HA : Hid (Ar wr G 0 x0) := Lib.hid (by rw [HE0.out]; exact ha.out)
  have HK : Hid (∀ W : World, Below wr.heap.size wr W → TabC W cb b lo ∧ Tab W lo b bys true ∧ ldN (.pointer (some ⟨cb, 1, none⟩)) W = .ok (.value (AV kn)) W ∧ W.there G 0 16) := Lib.hid (fun W hW => by
    have hc := HCF.out.below (hb.out.trans (hW.mono hb.out.size))
    have ht := HTB.out.below (hb.out.trans (hW.mono hb.out.size))
    exact ⟨⟨hc.ptr, ht⟩, ht, by rw [HKNE.out]; exact hc.ldk hk 0 (by omega), (HA.out.below hW (HA.out.lt (by rw [HX0.out]; omega))).there16 HX0.out⟩)
  have hlx := HX1.out
  have hla : ldN (.pointer (some ⟨G, 0, none⟩)) wr.drew = .ok (.value (AV x0)) wr.drew := ldN_ar _ _ _ _ HA.out.drew HX0.out
  obtain ⟨⟨q0, _⟩, _, q1, q2⟩ := HK.out wr (Below.refl _ _)
  obtain ⟨⟨r0, _⟩, _, r1, r2⟩ := HK.out wr.drew (Below.refl _ _).drew
  refine wp_region_held_drew (S := fun w' => ldN (.pointer (some ⟨cb, 1, none⟩)) w' = .ok (.value (AV kn)) w') (by kernel_rfl) r1 (fun hHeld => ?_)
  (try dsimp only at hHeld)
  refine wpAnyH_take (i := 1) (v := ?v1) rfl (by kernel_rfl) (by kernel_rfl) (by kernel_rfl) (fun _ _ _ h => h) (Or.inl ⟨by rfl, ?hy1⟩) hHeld ?_
  case hy1 => (intro w hSw; (try dsimp only at hSw); (try simp only [List.getElem_toArray, List.getElem_cons_zero, List.getElem_cons_succ]); go_simp <;> with_reducible rfl)
  (try simp only [Act.put, List.setIfInBounds_toArray, List.set_cons_zero, List.set_cons_succ])
  refine wpAnyH_take (i := 2) (v := ?v2) rfl (by kernel_rfl) (by kernel_rfl) (by kernel_rfl) (fun _ _ _ h => h) (Or.inl ⟨by rfl, ?hy2⟩) hHeld ?_
  case hy2 => (intro w hSw; (try dsimp only at hSw); (try simp only [List.getElem_toArray, List.getElem_cons_zero, List.getElem_cons_succ]); go_simp <;> with_reducible rfl)
  (try simp only [Act.put, List.setIfInBounds_toArray, List.set_cons_zero, List.set_cons_succ])
  refine wpAnyH_take (i := 3) (v := ?v3) rfl (by kernel_rfl) (by kernel_rfl) (by kernel_rfl) (fun _ _ _ h => h) (Or.inl ⟨by rfl, ?hy3⟩) hHeld ?_
  case hy3 => (intro w hSw; (try dsimp only at hSw); (try simp only [List.getElem_toArray, List.getElem_cons_zero, List.getElem_cons_succ]); go_simp <;> with_reducible rfl)
  (try simp only [Act.put, List.setIfInBounds_toArray, List.set_cons_zero, List.set_cons_succ])
  refine wpAnyH_take (i := 4) (v := ?v4) rfl (by kernel_rfl) (by kernel_rfl) (by kernel_rfl) (fun _ _ _ h => h) (Or.inl ⟨by rfl, ?hy4⟩) hHeld ?_
  case hy4 => (intro w hSw; (try dsimp only at hSw); (try simp only [List.getElem_toArray, List.getElem_cons_zero, List.getElem_cons_succ]); go_simp <;> with_reducible rfl)
  (try simp only [Act.put, List.setIfInBounds_toArray, List.set_cons_zero, List.set_cons_succ])
  refine wpAnyH_take (i := 5) (v := ?v5) rfl (by kernel_rfl) (by kernel_rfl) (by kernel_rfl) (fun _ _ _ h => h) (Or.inl ⟨by rfl, ?hy5⟩) hHeld ?_
  case hy5 => (intro w hSw; (try dsimp only at hSw); (try simp only [List.getElem_toArray, List.getElem_cons_zero, List.getElem_cons_succ]); go_simp <;> with_reducible rfl)
  (try simp only [Act.put, List.setIfInBounds_toArray, List.set_cons_zero, List.set_cons_succ])
  refine wpAnyH_ready (rs := [0]) (by kernel_rfl) (by simp) ?_
  refine AllReadyH.cons rfl (fun K hK => ?_) AllReadyH.nil
  (try simp only [List.getElem_toArray, List.getElem_cons_zero, List.getElem_cons_succ])
  go_simp
  refine hK.out _ _ hHeld (fun hHeld => ?_)
  clear hK K
  (try simp only [Act.put, List.setIfInBounds_toArray, List.set_cons_zero, List.set_cons_succ])
  refine wpAnyH_ready (rs := [6]) (by kernel_rfl) (by simp) ?_
  refine AllReadyH.cons rfl (fun K hK => ?_) AllReadyH.nil
  (try simp only [List.getElem_toArray, List.getElem_cons_zero, List.getElem_cons_succ])
  go_simp
  refine (sadd_any x0 kn _ HX0.out HKN.out).mono ?_; rw [← HE1.out]; rintro e w1 ⟨rfl, hb⟩; have HB1 : Hid (Below wr.heap.size wr w1) := Lib.hid ((Below.refl wr.heap.size wr).drew.trans (show Below wr.heap.size wr.drew w1 from hb)); clear hb; obtain ⟨⟨q0, _⟩, _, q1, q2⟩ := HK.out w1 HB1.out
  (try go_wp2_with fail)
  refine hK.out _ _ q1 (fun hHeld => ?_)
  clear hK K
  (try simp only [Act.put, List.setIfInBounds_toArray, List.set_cons_zero, List.set_cons_succ])
  refine wpAnyH_ready (rs := [7]) (by kernel_rfl) (by simp) ?_
  refine AllReadyH.cons rfl (fun K hK => ?_) AllReadyH.nil
  (try simp only [List.getElem_toArray, List.getElem_cons_zero, List.getElem_cons_succ])
  go_simp
  refine hK.out _ _ (by rw [HKNE.out]; exact (((HCF.out.below (hb.out.trans (HB1.out.mono hb.out.size))).block (heap_setCells G cb (by have := HGC.out; omega) _ _ _)).ldk hk 0 (by omega))) (fun _ => ?_)
  clear hK K
  (try simp only [Act.put, List.setIfInBounds_toArray, List.set_cons_zero, List.set_cons_succ])
  refine wpAnyH_done (by kernel_rfl) ?_ _
  obtain ⟨WX, HWX⟩ : ∃ WX, Hid (WX = w1.setCells G 0 (bvs x1)) := ⟨_, Lib.hid rfl⟩
  rw [← HWX.out]
  have HBX : Hid (Below w.heap.size w WX) := Lib.hid (by rw [HWX.out]; exact below_setCells (hb.out.trans (HB1.out.mono hb.out.size)) (by rw [HG.out]; omega) _ _)
  have HAX : Hid (Ar WX G 0 x1) := Lib.hid (by rw [HWX.out]; exact (HA.out.below HB1.out (HA.out.lt (by rw [HX0.out]; omega))).whole x1 (by rw [HX1.out, HX0.out]))
  have HZX : Hid (Ar WX (G + 1) 0 zeros16) := Lib.hid (by rw [HWX.out]; exact (hz.out.below HB1.out (hz.out.lt (by simp [zeros16]))).setCells (by omega) _ _)
  have HAX0 : Hid (Ar WX G 0 (encUp key tableL s 0)) := Lib.hid (by
    have : encUp key tableL s 0 = x1 := by rw [HE1.out, HE0.out, HKNE.out]; unfold encUp; rfl
    rw [this]; exact HAX.out)
  clear HA HK ha hz hb hla q0 q1 q2 r0 r1 r2 hlx HAX
  clear HX1 HE1 HX0 HE0 HKN HKNE
  go_wp2_with fail
  go_loopw [5] (fun i wr => ∃ p : Nat, p ≤ 9 ∧ i = .int .i64 ((p : Int) + 1) ∧ Hid (Below w.heap.size w wr) ∧ Hid (Ar wr G 0 (encUp key tableL s p)) ∧ Hid (Ar wr (G + 1) 0 zeros16)) (fun i _ => 10 - (intOf i).toNat)
  case atStart => exact ⟨0, by omega, rfl, HBX, HAX0, HZX⟩
  case round =>
    clear HBX HAX0 HZX
    obtain ⟨p, hp, rfl, hb, ha, hz⟩ := hrel
    by_cases hlt : p < 9
    · have hq1 : (0 : Int) ≤ (p : Int) + 1 := by omega
      have hq2 : (p : Int) + 1 < 11 := by omega
      have hq3 : (p : Int) + 1 < 10 := by omega
      go_wp2_with fail
      obtain ⟨kn, HKNE⟩ : ∃ kn, Hid (kn = keyF key tableL (p + 1)) := ⟨_, Lib.hid rfl⟩
      have HKN : Hid (kn.length = 16) := Lib.hid (by rw [HKNE.out]; exact keyF_len key tableL hk _ (by omega))
      obtain ⟨x0, HE0⟩ : ∃ x0, Hid (x0 = encUp key tableL s p) := ⟨_, Lib.hid rfl⟩
      have HX0 : Hid (x0.length = 16) := Lib.hid (by rw [HE0.out]; exact encUp_len key tableL s hk HS.out p (by omega))
      obtain ⟨x1, HE1⟩ : ∃ x1, Hid (x1 = x0.map subB) := ⟨_, Lib.hid rfl⟩
      have HX1 : Hid (x1.length = 16) := Lib.hid (by rw [HE1.out]; exact (by rw [List.length_map]; exact HX0.out))
      obtain ⟨x2, HE2⟩ : ∃ x2, Hid (x2 = rowsL x1 1) := ⟨_, Lib.hid rfl⟩
      have HX2 : Hid (x2.length = 16) := Lib.hid (by rw [HE2.out]; exact rowsL_len _ _)
      obtain ⟨x3, HE3⟩ : ∃ x3, Hid (x3 = columnsL x2 [2, 3, 1, 1]) := ⟨_, Lib.hid rfl⟩
      have HX3 : Hid (x3.length = 16) := Lib.hid (by rw [HE3.out]; exact columns_len _ _)
      obtain ⟨x4, HE4⟩ : ∃ x4, Hid (x4 = xorL x3 kn) := ⟨_, Lib.hid rfl⟩
      have HX4 : Hid (x4.length = 16) := Lib.hid (by rw [HE4.out]; exact xorL_len16 _ _ HX3.out HKN.out)
      have HA : Hid (Ar wr G 0 x0) := Lib.hid (by rw [HE0.out]; exact ha.out)
      have HK : Hid (∀ W : World, Below wr.heap.size wr W → TabC W cb b lo ∧ Tab W lo b bys true ∧ ldN (.pointer (some ⟨cb, 1 + (p + 1) * 16, none⟩)) W = .ok (.value (AV kn)) W ∧ W.there G 0 16) := Lib.hid (fun W hW => by
        have hc := HCF.out.below (hb.out.trans (hW.mono hb.out.size))
        have ht := HTB.out.below (hb.out.trans (hW.mono hb.out.size))
        exact ⟨⟨hc.ptr, ht⟩, ht, by rw [HKNE.out]; exact hc.ldk hk (p + 1) (by omega), (HA.out.below hW (HA.out.lt (by rw [HX0.out]; omega))).there16 HX0.out⟩)
      have hlx := HX4.out
      have hla : ldN (.pointer (some ⟨G, 0, none⟩)) wr.drew = .ok (.value (AV x0)) wr.drew := ldN_ar _ _ _ _ HA.out.drew HX0.out
      obtain ⟨⟨q0, _⟩, _, q1, q2⟩ := HK.out wr (Below.refl _ _)
      obtain ⟨⟨r0, _⟩, _, r1, r2⟩ := HK.out wr.drew (Below.refl _ _).drew
      refine wp_region_held_drew (S := fun w' => w'.cell? ⟨cb, 0, none⟩ = some (.pointer (some ⟨b, 0, none⟩)) ∧ ldN (.pointer (some ⟨cb, 1 + (p + 1) * 16, none⟩)) w' = .ok (.value (AV kn)) w') (by kernel_rfl) ⟨r0, r1⟩ (fun hHeld => ?_)
      (try dsimp only at hHeld)
      refine wpAnyH_take (i := 1) (v := ?v6) rfl (by kernel_rfl) (by kernel_rfl) (by kernel_rfl) (fun _ _ _ h => h) (Or.inl ⟨by rfl, ?hy6⟩) hHeld ?_
      case hy6 => (intro w hSw; (try dsimp only at hSw); (try simp only [List.getElem_toArray, List.getElem_cons_zero, List.getElem_cons_succ]); go_simp <;> with_reducible rfl)
      (try simp only [Act.put, List.setIfInBounds_toArray, List.set_cons_zero, List.set_cons_succ])
      refine wpAnyH_take (i := 2) (v := ?v7) rfl (by kernel_rfl) (by kernel_rfl) (by kernel_rfl) (fun _ _ _ h => h) (Or.inl ⟨by rfl, ?hy7⟩) hHeld ?_
      case hy7 => (intro w hSw; (try dsimp only at hSw); (try simp only [List.getElem_toArray, List.getElem_cons_zero, List.getElem_cons_succ]); go_simp <;> with_reducible rfl)
      (try simp only [Act.put, List.setIfInBounds_toArray, List.set_cons_zero, List.set_cons_succ])
      refine wpAnyH_take (i := 3) (v := ?v8) rfl (by kernel_rfl) (by kernel_rfl) (by kernel_rfl) (fun _ _ _ h => h) (Or.inl ⟨by rfl, ?hy8⟩) hHeld ?_
      case hy8 => (intro w hSw; (try dsimp only at hSw); (try simp only [List.getElem_toArray, List.getElem_cons_zero, List.getElem_cons_succ]); go_simp <;> with_reducible rfl)
      (try simp only [Act.put, List.setIfInBounds_toArray, List.set_cons_zero, List.set_cons_succ])
      refine wpAnyH_take (i := 4) (v := ?v9) rfl (by kernel_rfl) (by kernel_rfl) (by kernel_rfl) (fun _ _ _ h => h) (Or.inl ⟨by rfl, ?hy9⟩) hHeld ?_
      case hy9 => (intro w hSw; (try dsimp only at hSw); (try simp only [List.getElem_toArray, List.getElem_cons_zero, List.getElem_cons_succ]); go_simp <;> with_reducible rfl)
      (try simp only [Act.put, List.setIfInBounds_toArray, List.set_cons_zero, List.set_cons_succ])
      refine wpAnyH_take (i := 5) (v := ?v10) rfl (by kernel_rfl) (by kernel_rfl) (by kernel_rfl) (fun _ _ _ h => h) (Or.inl ⟨by rfl, ?hy10⟩) hHeld ?_
      case hy10 => (intro w hSw; (try dsimp only at hSw); (try simp only [List.getElem_toArray, List.getElem_cons_zero, List.getElem_cons_succ]); go_simp <;> with_reducible rfl)
      (try simp only [Act.put, List.setIfInBounds_toArray, List.set_cons_zero, List.set_cons_succ])
      refine wpAnyH_take (i := 8) (v := ?v11) rfl (by kernel_rfl) (by kernel_rfl) (by kernel_rfl) (fun _ _ _ h => h) (Or.inl ⟨by rfl, ?hy11⟩) hHeld ?_
      case hy11 => (intro w hSw; (try dsimp only at hSw); (try simp only [List.getElem_toArray, List.getElem_cons_zero, List.getElem_cons_succ]); go_simp <;> with_reducible rfl)
      (try simp only [Act.put, List.setIfInBounds_toArray, List.set_cons_zero, List.set_cons_succ])
      refine wpAnyH_take (i := 9) (v := ?v12) rfl (by kernel_rfl) (by kernel_rfl) (by kernel_rfl) (fun _ _ _ h => h) (Or.inl ⟨by rfl, ?hy12⟩) hHeld ?_
      case hy12 => (intro w hSw; (try dsimp only at hSw); (try simp only [List.getElem_toArray, List.getElem_cons_zero, List.getElem_cons_succ]); go_simp <;> with_reducible rfl)
      (try simp only [Act.put, List.setIfInBounds_toArray, List.set_cons_zero, List.set_cons_succ])
      refine wpAnyH_take (i := 11) (v := ?v13) rfl (by kernel_rfl) (by kernel_rfl) (by kernel_rfl) (fun _ _ _ h => h) (Or.inl ⟨by rfl, ?hy13⟩) hHeld ?_
      case hy13 => (intro w hSw; (try dsimp only at hSw); (try simp only [List.getElem_toArray, List.getElem_cons_zero, List.getElem_cons_succ]); go_simp <;> with_reducible rfl)
      (try simp only [Act.put, List.setIfInBounds_toArray, List.set_cons_zero, List.set_cons_succ])
      refine wpAnyH_take (i := 12) (v := ?v14) rfl (by kernel_rfl) (by kernel_rfl) (by kernel_rfl) (fun _ _ _ h => h) (Or.inl ⟨by rfl, ?hy14⟩) hHeld ?_
      case hy14 => (intro w hSw; (try dsimp only at hSw); (try simp only [List.getElem_toArray, List.getElem_cons_zero, List.getElem_cons_succ]); go_simp <;> with_reducible rfl)
      (try simp only [Act.put, List.setIfInBounds_toArray, List.set_cons_zero, List.set_cons_succ])
      refine wpAnyH_take (i := 13) (v := ?v15) rfl (by kernel_rfl) (by kernel_rfl) (by kernel_rfl) (fun _ _ _ h => h) (Or.inl ⟨by rfl, ?hy15⟩) hHeld ?_
      case hy15 => (intro w hSw; (try dsimp only at hSw); (try simp only [List.getElem_toArray, List.getElem_cons_zero, List.getElem_cons_succ]); go_simp <;> with_reducible rfl)
      (try simp only [Act.put, List.setIfInBounds_toArray, List.set_cons_zero, List.set_cons_succ])
      refine wpAnyH_take (i := 14) (v := ?v16) rfl (by kernel_rfl) (by kernel_rfl) (by kernel_rfl) (fun _ _ _ h => h) (Or.inl ⟨by rfl, ?hy16⟩) hHeld ?_
      case hy16 => (intro w hSw; (try dsimp only at hSw); (try simp only [List.getElem_toArray, List.getElem_cons_zero, List.getElem_cons_succ]); go_simp <;> with_reducible rfl)
      (try simp only [Act.put, List.setIfInBounds_toArray, List.set_cons_zero, List.set_cons_succ])
      refine wpAnyH_take (i := 15) (v := ?v17) rfl (by kernel_rfl) (by kernel_rfl) (by kernel_rfl) (fun _ _ _ h => h) (Or.inl ⟨by rfl, ?hy17⟩) hHeld ?_
      case hy17 => (intro w hSw; (try dsimp only at hSw); (try simp only [List.getElem_toArray, List.getElem_cons_zero, List.getElem_cons_succ]); go_simp <;> with_reducible rfl)
      (try simp only [Act.put, List.setIfInBounds_toArray, List.set_cons_zero, List.set_cons_succ])
      refine wpAnyH_take (i := 16) (v := ?v18) rfl (by kernel_rfl) (by kernel_rfl) (by kernel_rfl) (fun _ _ _ h => h) (Or.inl ⟨by rfl, ?hy18⟩) hHeld ?_
      case hy18 => (intro w hSw; (try dsimp only at hSw); (try simp only [List.getElem_toArray, List.getElem_cons_zero, List.getElem_cons_succ]); go_simp <;> with_reducible rfl)
      (try simp only [Act.put, List.setIfInBounds_toArray, List.set_cons_zero, List.set_cons_succ])
      refine wpAnyH_ready (rs := [0]) (by kernel_rfl) (by simp) ?_
      refine AllReadyH.cons rfl (fun K hK => ?_) AllReadyH.nil
      (try simp only [List.getElem_toArray, List.getElem_cons_zero, List.getElem_cons_succ])
      go_simp
      refine hK.out _ _ hHeld (fun hHeld => ?_)
      clear hK K
      (try simp only [Act.put, List.setIfInBounds_toArray, List.set_cons_zero, List.set_cons_succ])
      refine wpAnyH_ready (rs := [6]) (by kernel_rfl) (by simp) ?_
      refine AllReadyH.cons rfl (fun K hK => ?_) AllReadyH.nil
      (try simp only [List.getElem_toArray, List.getElem_cons_zero, List.getElem_cons_succ])
      go_simp
      refine (eachS_any lo b bys (by decide) x0 _ HX0.out (by exact (HK.out _ ((Below.refl wr.heap.size wr).drew)).2.1)).mono ?_; rw [← HE1.out]; rintro e w1 ⟨rfl, hb⟩; have HB1 : Hid (Below wr.heap.size wr w1) := Lib.hid ((Below.refl wr.heap.size wr).drew.trans (show Below wr.heap.size wr.drew w1 from hb)); clear hb; obtain ⟨⟨q0, _⟩, _, q1, q2⟩ := HK.out w1 HB1.out
      (try go_wp2_with fail)
      refine hK.out _ _ ⟨q0, q1⟩ (fun hHeld => ?_)
      clear hK K
      (try simp only [Act.put, List.setIfInBounds_toArray, List.set_cons_zero, List.set_cons_succ])
      refine wpAnyH_ready (rs := [7]) (by kernel_rfl) (by simp) ?_
      refine AllReadyH.cons rfl (fun K hK => ?_) AllReadyH.nil
      (try simp only [List.getElem_toArray, List.getElem_cons_zero, List.getElem_cons_succ])
      go_simp
      refine (shift_any x1 _ HX1.out).mono ?_; rw [← HE2.out]; rintro e w2 ⟨rfl, hb⟩; have HB2 : Hid (Below wr.heap.size wr w2) := Lib.hid (HB1.out.trans (hb.mono HB1.out.size)); clear hb; obtain ⟨⟨q0, _⟩, _, q1, q2⟩ := HK.out w2 HB2.out
      (try go_wp2_with fail)
      refine hK.out _ _ ⟨q0, q1⟩ (fun hHeld => ?_)
      clear hK K
      (try simp only [Act.put, List.setIfInBounds_toArray, List.set_cons_zero, List.set_cons_succ])
      refine wpAnyH_ready (rs := [10]) (by kernel_rfl) (by simp) ?_
      refine AllReadyH.cons rfl (fun K hK => ?_) AllReadyH.nil
      (try simp only [List.getElem_toArray, List.getElem_cons_zero, List.getElem_cons_succ])
      go_simp
      refine (columns_mix cb b lo x2 _ HX2.out (by exact (HK.out _ HB2.out).1)).mono ?_; rw [← HE3.out]; rintro e w3 ⟨rfl, hb⟩; have HB3 : Hid (Below wr.heap.size wr w3) := Lib.hid (HB2.out.trans (hb.mono HB2.out.size)); clear hb; obtain ⟨⟨q0, _⟩, _, q1, q2⟩ := HK.out w3 HB3.out
      (try go_wp2_with fail)
      refine hK.out _ _ ⟨q0, q1⟩ (fun hHeld => ?_)
      clear hK K
      (try simp only [Act.put, List.setIfInBounds_toArray, List.set_cons_zero, List.set_cons_succ])
      refine wpAnyH_ready (rs := [17]) (by kernel_rfl) (by simp) ?_
      refine AllReadyH.cons rfl (fun K hK => ?_) AllReadyH.nil
      (try simp only [List.getElem_toArray, List.getElem_cons_zero, List.getElem_cons_succ])
      go_simp
      refine (sadd_any x3 kn _ HX3.out HKN.out).mono ?_; rw [← HE4.out]; rintro e w4 ⟨rfl, hb⟩; have HB4 : Hid (Below wr.heap.size wr w4) := Lib.hid (HB3.out.trans (hb.mono HB3.out.size)); clear hb; obtain ⟨⟨q0, _⟩, _, q1, q2⟩ := HK.out w4 HB4.out
      (try go_wp2_with fail)
      refine hK.out _ _ ⟨q0, q1⟩ (fun hHeld => ?_)
      clear hK K
      (try simp only [Act.put, List.setIfInBounds_toArray, List.set_cons_zero, List.set_cons_succ])
      refine wpAnyH_ready (rs := [18]) (by kernel_rfl) (by simp) ?_
      refine AllReadyH.cons rfl (fun K hK => ?_) AllReadyH.nil
      (try simp only [List.getElem_toArray, List.getElem_cons_zero, List.getElem_cons_succ])
      go_simp
      refine hK.out _ _ ⟨((HCF.out.below (hb.out.trans (HB4.out.mono hb.out.size))).block (heap_setCells G cb (by have := HGC.out; omega) _ _ _)).ptr, by rw [HKNE.out]; exact (((HCF.out.below (hb.out.trans (HB4.out.mono hb.out.size))).block (heap_setCells G cb (by have := HGC.out; omega) _ _ _)).ldk hk (p + 1) (by omega))⟩ (fun _ => ?_)
      clear hK K
      (try simp only [Act.put, List.setIfInBounds_toArray, List.set_cons_zero, List.set_cons_succ])
      refine wpAnyH_done (by kernel_rfl) ?_ _
      obtain ⟨WX, HWX⟩ : ∃ WX, Hid (WX = w4.setCells G 0 (bvs x4)) := ⟨_, Lib.hid rfl⟩
      rw [← HWX.out]
      have HBX : Hid (Below w.heap.size w WX) := Lib.hid (by rw [HWX.out]; exact below_setCells (hb.out.trans (HB4.out.mono hb.out.size)) (by rw [HG.out]; omega) _ _)
      have HAX : Hid (Ar WX G 0 x4) := Lib.hid (by rw [HWX.out]; exact (HA.out.below HB4.out (HA.out.lt (by rw [HX0.out]; omega))).whole x4 (by rw [HX4.out, HX0.out]))
      have HZX : Hid (Ar WX (G + 1) 0 zeros16) := Lib.hid (by rw [HWX.out]; exact (hz.out.below HB4.out (hz.out.lt (by simp [zeros16]))).setCells (by omega) _ _)
      go_wp2_with fail
      go_roundw
      case rel =>
        have he : encUp key tableL s (p + 1) = x4 := by
          rw [HE4.out, HE3.out, HE2.out, HE1.out, HE0.out, HKNE.out, ← subs_table]
          rw [encUp, if_pos (by omega)]
        exact ⟨p + 1, by omega, by go_num, HBX, Lib.hid (by rw [he]; exact HAX.out), HZX⟩
      case measure => simp [intOf]; omega
    · obtain rfl : p = 9 := by omega
      go_wp2_with fail
      obtain ⟨kn, HKNE⟩ : ∃ kn, Hid (kn = keyF key tableL 10) := ⟨_, Lib.hid rfl⟩
      have HKN : Hid (kn.length = 16) := Lib.hid (by rw [HKNE.out]; exact keyF_len key tableL hk _ (by omega))
      obtain ⟨x0, HE0⟩ : ∃ x0, Hid (x0 = encUp key tableL s 9) := ⟨_, Lib.hid rfl⟩
      have HX0 : Hid (x0.length = 16) := Lib.hid (by rw [HE0.out]; exact encUp_len key tableL s hk HS.out 9 (by omega))
      obtain ⟨x1, HE1⟩ : ∃ x1, Hid (x1 = x0.map subB) := ⟨_, Lib.hid rfl⟩
      have HX1 : Hid (x1.length = 16) := Lib.hid (by rw [HE1.out]; exact (by rw [List.length_map]; exact HX0.out))
      obtain ⟨x2, HE2⟩ : ∃ x2, Hid (x2 = rowsL x1 1) := ⟨_, Lib.hid rfl⟩
      have HX2 : Hid (x2.length = 16) := Lib.hid (by rw [HE2.out]; exact rowsL_len _ _)
      obtain ⟨x3, HE3⟩ : ∃ x3, Hid (x3 = xorL x2 kn) := ⟨_, Lib.hid rfl⟩
      have HX3 : Hid (x3.length = 16) := Lib.hid (by rw [HE3.out]; exact xorL_len16 _ _ HX2.out HKN.out)
      have HA : Hid (Ar wr G 0 x0) := Lib.hid (by rw [HE0.out]; exact ha.out)
      have HK : Hid (∀ W : World, Below wr.heap.size wr W → TabC W cb b lo ∧ Tab W lo b bys true ∧ ldN (.pointer (some ⟨cb, 161, none⟩)) W = .ok (.value (AV kn)) W ∧ W.there (G + 1) 0 16) := Lib.hid (fun W hW => by
        have hc := HCF.out.below (hb.out.trans (hW.mono hb.out.size))
        have ht := HTB.out.below (hb.out.trans (hW.mono hb.out.size))
        exact ⟨⟨hc.ptr, ht⟩, ht, by rw [HKNE.out]; exact hc.ldk hk 10 (by omega), (hz.out.below hW (hz.out.lt (by simp [zeros16]))).there16 rfl⟩)
      have hlx := HX3.out
      have hla : ldN (.pointer (some ⟨G, 0, none⟩)) wr.drew = .ok (.value (AV x0)) wr.drew := ldN_ar _ _ _ _ HA.out.drew HX0.out
      obtain ⟨⟨q0, _⟩, _, q1, q2⟩ := HK.out wr (Below.refl _ _)
      obtain ⟨⟨r0, _⟩, _, r1, r2⟩ := HK.out wr.drew (Below.refl _ _).drew
      have HLD : Hid (∀ W : World, Below wr.heap.size wr W → ldN (.pointer (some ⟨G, 0, none⟩)) W = .ok (.value (AV x0)) W) := Lib.hid (fun W hW => ldN_ar _ _ _ _ (HA.out.below hW (HA.out.lt (by rw [HX0.out]; omega))) HX0.out)
      go_region_held3 (fun w' => ldN (.pointer (some ⟨G, 0, none⟩)) w' = .ok (.value (AV x0)) w' ∧ w'.cell? ⟨cb, 0, none⟩ = some (.pointer (some ⟨b, 0, none⟩)) ∧ ldN (.pointer (some ⟨cb, 161, none⟩)) w' = .ok (.value (AV kn)) w') (first | (exact ⟨by assumption, by assumption, by assumption⟩) | (exact ⟨ldN_ar _ _ _ _ (((HA.out.below HB3.out (HA.out.lt (by rw [HX0.out]; omega)))).setCells (by omega) _ _) HX0.out, ((HCF.out.below (hb.out.trans (HB3.out.mono hb.out.size))).block (heap_setCells (G + 1) cb (by have := HGC.out; omega) _ _ _)).ptr, by rw [HKNE.out]; exact (((HCF.out.below (hb.out.trans (HB3.out.mono hb.out.size))).block (heap_setCells (G + 1) cb (by have := HGC.out; omega) _ _ _)).ldk hk 10 (by omega))⟩)) (first | (go_at_call 43; refine (eachS_any lo b bys (by decide) x0 _ HX0.out (by exact (HK.out _ ((Below.refl wr.heap.size wr).drew)).2.1)).mono ?_; rw [← HE1.out]; rintro e w1 ⟨rfl, hb⟩; have HB1 : Hid (Below wr.heap.size wr w1) := Lib.hid ((Below.refl wr.heap.size wr).drew.trans (show Below wr.heap.size wr.drew w1 from hb)); clear hb; have ql := HLD.out _ HB1.out; obtain ⟨⟨q0, _⟩, _, q1, q2⟩ := HK.out w1 HB1.out) | (go_at_call 45; refine (shift_any x1 _ HX1.out).mono ?_; rw [← HE2.out]; rintro e w2 ⟨rfl, hb⟩; have HB2 : Hid (Below wr.heap.size wr w2) := Lib.hid (HB1.out.trans (hb.mono HB1.out.size)); clear hb; have ql := HLD.out _ HB2.out; obtain ⟨⟨q0, _⟩, _, q1, q2⟩ := HK.out w2 HB2.out) | (go_at_call 42; refine (sadd_any x2 kn _ HX2.out HKN.out).mono ?_; rw [← HE3.out]; rintro e w3 ⟨rfl, hb⟩; have HB3 : Hid (Below wr.heap.size wr w3) := Lib.hid (HB2.out.trans (hb.mono HB2.out.size)); clear hb; have ql := HLD.out _ HB3.out; obtain ⟨⟨q0, _⟩, _, q1, q2⟩ := HK.out w3 HB3.out))
      obtain ⟨WX, HWX⟩ : ∃ WX, Hid (WX = w3.setCells (G + 1) 0 (bvs x3)) := ⟨_, Lib.hid rfl⟩
      rw [← HWX.out]
      have HBX : Hid (Below w.heap.size w WX) := Lib.hid (by rw [HWX.out]; exact below_setCells (hb.out.trans (HB3.out.mono hb.out.size)) (by rw [HG.out]; omega) _ _)
      go_wp2_with fail
      have he : R = x3 := by
        rw [HR.out, HE3.out, HE2.out, HE1.out, HE0.out, HKNE.out, ← subs_table]
        unfold encL
        rw [encUp, if_neg (by omega)]
      have HZF : Ar WX (G + 1) 0 x3 := by rw [HWX.out]; exact (hz.out.below HB3.out (hz.out.lt (by simp [zeros16]))).whole x3 (by rw [HX3.out]; rfl)
      rw [he]
      exact bodyPost_ret (v := AV x3) (res_cell rfl _ _ (G + 1) 4 _ x3 rfl HZF up_sq (by rw [HX3.out]; exact sz_sq)) rfl ⟨rfl, HBX.out⟩
end Go.Proofs.Ytbpbpkmjkbndbaa
