/- Layer 22: the reference's Mix and Below. Conditions: the slices' cells are readable. -/
import Derived.Test.YtocbdgkehgmahaaMixM
import Derived.Deep.RegionWith
namespace Go.Proofs.Ytocbdgkehgmahaa
open Go.RowKit
set_option linter.unusedVariables false
set_option linter.unusedSimpArgs false

/-- A fold that is known beside others. -/
structure FoldT (fn : FuncId) (w : World) (f : Nat) (A : Option Addr) (n c v : Nat) : Prop where
  go : ∀ d : Nat, Calls Try.prog fn #[.int .u64 (f : Int), .slice A n c] (w.drewN d) fun e w' => e = .returned (.int .u64 (v : Int)) ∧ w.drewN d = w'
theorem mix_def (s : Nat) (ps : List (List UInt8)) : mixF s ps = endF (partsF (14695981039346656037 ^^^ s) ps) := rfl
theorem parts_0 (f : Nat) (ps : List (List UInt8)) : f = partsF f (ps.take 0) := rfl
theorem downL_0 (n : Nat) : n = downL n (8 - 8) := rfl
theorem vu64 {a b : Nat} (h : a = b) : Value.int .u64 (a : Int) = Value.int .u64 (b : Int) := by rw [h]
attribute [local irreducible] foldF size8 partF partsF endF mixF stepF putL downL
set_option maxHeartbeats 1000000 in
theorem rmix_any (s : Nat) (A : Option Addr) (n c : Nat) (ps : List (List UInt8)) (w : World) (hs : s < 18446744073709551616) (h : RR w w.heap.size A n ps) (hn : n ≤ maxLen) (hp : ∀ p ∈ ps, p.length ≤ maxLen) :
    Calls Try.prog 22 #[.int .u64 (s : Int), .slice A n c] w fun e w' => e = .returned (.int .u64 (mixF s ps : Int)) ∧ Below w.heap.size w w' := by
  unfold maxLen at hn
  have hst := start64 hs
  obtain ⟨f, HF⟩ : ∃ f, Hid (f = 14695981039346656037 ^^^ s) := ⟨_, Lib.hid rfl⟩
  have hf : f < 18446744073709551616 := by rw [HF.out]; exact seed_lt hs
  obtain ⟨z, HZ⟩ : ∃ z, Hid (z = mixF s ps) := ⟨_, Lib.hid rfl⟩
  have HE : Hid (endF (partsF f ps) = z) := Lib.hid (by rw [HZ.out, HF.out, mix_def])
  rw [← HF.out] at hst
  rw [← HZ.out]
  clear HF HZ hs
  go_enter Try.func22, Try.ntmps22
  go_wp2
  go_loopw [5, 6, 7, 8, 9] (fun v i _ _ _ wr => ∃ k : Nat, k ≤ n ∧ i = .int .i64 k ∧ v = .int .u64 (partsF f (ps.take k) : Int) ∧ Below w.heap.size w wr) (fun _ i _ _ _ _ => n - (intOf i).toNat)
  case atStart => exact ⟨0, Nat.zero_le _, rfl, vu64 (parts_0 _ _), Below.refl _ _⟩
  case round =>
    obtain ⟨k, hk, rfl, rfl, hb⟩ := hrel
    have hV : partsF f (ps.take k) < 18446744073709551616 := parts_lt hf
    have HT : Hid (k = n → partsF f (ps.take k) = partsF f ps) := Lib.hid (fun e => by rw [List.take_of_length_le (by have := h.len; omega)])
    by_cases hlt : k < n
    · obtain ⟨b, o, rfl, hbl, p, hpk, Ai, ci, hc, hr⟩ := (h.below hb).at_ hlt
      have hpl := hp p (List.mem_of_getElem? hpk)
      unfold maxLen at hpl
      have HN : Hid (partsF f (ps.take (k + 1)) = partF (partsF f (ps.take k)) p) := Lib.hid (parts_next hpk)
      have hr2 := hr.more hb.size
      obtain ⟨V, HV⟩ : ∃ V, Hid (V = partsF f (ps.take k)) := ⟨_, Lib.hid rfl⟩
      rw [← HV.out] at HN hV ⊢
      obtain ⟨wo, ewo⟩ : ∃ wo : World, wo = wr := ⟨_, rfl⟩
      subst ewo
      have hbo : b < wo.heap.size := Nat.lt_of_lt_of_le hbl hb.size
      have HB := Lib.hid hb
      clear hpk HT hr HV
      obtain ⟨L, HL⟩ : ∃ L, Hid (L = p.length) := ⟨_, Lib.hid rfl⟩
      rw [← HL.out] at hc hpl hr2
      have HR := Lib.hid hr2
      have HC := Lib.hid hc
      clear hr2
      have hl2 : L < 18446744073709551616 := by omega
      clear hb
      go_wp2_with (at_make; refine wpList_mk rfl _ _ rfl wo.heap.size .i64 .i64 _ _ 8 rfl rfl rfl rfl (by omega) (Nat.le_refl _) ?_; intro w1 hown1 hs1 hb1; have hc1 := (hb1.cell (p := ⟨b, o + k, none⟩) hbo).trans hc)
      have HC1 := Lib.hid hc1
      clear hc hc1
      go_loopw [8, 9] (fun v i wi => ∃ j : Nat, j ≤ 8 ∧ i = .int .i64 ((j : Int) - 1) ∧ v = .int .u64 (downL L (8 - j) : Int) ∧ OwnB wi wo.heap.size (some ⟨wo.heap.size, 0, none⟩) 8 8 (putAt L 8 j) ∧ Below wo.heap.size wo wi) (fun _ i _ => (intOf i + 1).toNat)
      case atStart => exact ⟨8, Nat.le_refl _, rfl, vu64 (downL_0 _), by rw [putAt_full]; exact hown1, hb1⟩
      case round =>
        obtain ⟨j, hj, rfl, rfl, hown, hbel⟩ := hrel
        have hdl := downL_le L (8 - j)
        rcases j with _ | j
        · rw [show ((0 : Nat) : Int) - 1 = -1 from rfl, Nat.sub_zero]
          rw [putAt_zero, size8_put] at hown
          have HO := Lib.hid hown.rb
          have HBW := Lib.hid hbel
          have hcw := (hbel.cell (p := ⟨b, o + k, none⟩) hbo).trans HC.out
          clear hown hbel
          obtain ⟨Y, HY⟩ : ∃ Y, Hid (Y = foldF V (size8 L)) := ⟨_, Lib.hid rfl⟩
          have hY : Y < 18446744073709551616 := by rw [HY.out]; exact fold_lt hV
          have F1 := Lib.hid (fun W hW => rfold_any V (some ⟨wo.heap.size, 0, none⟩) 8 8 wr.heap.size (size8 L) W hV hW (by unfold maxLen; omega))
          have F2 := Lib.hid (fun W hW => rfold_any Y Ai L ci wo.heap.size p W hY hW (by unfold maxLen; omega))
          rw [← HY.out] at F1
          have T1 : FoldT 31 wr V (some ⟨wo.heap.size, 0, none⟩) 8 8 Y := ⟨fun d => F1.out _ (HO.out.drewN d)⟩
          have T2 : FoldT 31 wr Y Ai L ci (foldF Y p) := ⟨fun d => F2.out _ ((HR.out.below HBW.out).drewN d)⟩
          go_wp2_with fail
          go_quiet ((go_at_call 31; exact quiet_left (FoldT.go (by first | exact T1 | exact T2) _)))
          go_wp2_with fail
          go_roundw
          case rel => exact ⟨k + 1, by omega, by go_num, by rw [HN.out, HY.out, HL.out, part_def], below_drewN (bel_next HB.out HBW.out) _⟩
          case measure => simp [intOf]; omega
        · have e : ((j + 1 : Nat) : Int) - 1 = (j : Int) := by omega
          rw [e]
          clear e
          have hc0 := hown.cellAt (putAt_get L 8 j)
          have hf0 := hown.freeAt j
          obtain ⟨m, HM⟩ : ∃ m, Hid (m = downL L (8 - (j + 1))) := ⟨_, Lib.hid rfl⟩
          rw [← HM.out] at hdl ⊢
          go_wp2
          go_roundw
          case rel =>
            refine ⟨j, by omega, rfl, ?_, ?_, hbel.setCell (Nat.le_refl _) _⟩
            · rw [show 8 - j = (8 - (j + 1)) + 1 from by omega, downL_succ, ← HM.out]
              go_num
            · rw [← putAt_next L 8 j (by omega)]
              exact hown.stored j _ _ (by unfold bv; rw [convert_u8, show 8 - 1 - j = 8 - (j + 1) from by omega, ← HM.out])
          case measure => simp [intOf]
    · obtain rfl : k = n := by omega
      have HE2 : Hid (endF (partsF f (ps.take k)) = z) := Lib.hid (by rw [HT.out rfl, HE.out])
      go_wp2_with (go_at_call 32; refine (rend_any _ _ hV).mono ?_; rintro e w1 ⟨rfl, hw1⟩)
      go_ret
      exact ⟨ret1i (by rw [HE2.out]), by rw [← hw1]; exact hb⟩
end Go.Proofs.Ytocbdgkehgmahaa
