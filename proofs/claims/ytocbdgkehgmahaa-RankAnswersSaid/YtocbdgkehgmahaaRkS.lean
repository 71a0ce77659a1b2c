/- Layer 23: the reference's Score of an entry within its bounds. Conditions: the key's cells are readable. -/
import Derived.Test.YtocbdgkehgmahaaRkR
import Derived.Deep.RegionWith
namespace Go.Proofs.Ytocbdgkehgmahaa
open Go.RowKit
set_option linter.unusedVariables false
set_option linter.unusedSimpArgs false
theorem max_nat (a b : Nat) : max (a : Int) (b : Int) = ((max a b : Nat) : Int) := by
  rw [Nat.max_def, Int.max_def]
  split <;> split <;> omega
theorem scE_nat (s : Nat) (k : List UInt8) (i m : Nat) : scE s k ((i : Int), (m : Int)) = scF s k i m := rfl
theorem okE_nat {i m : Nat} (h1 : i ≤ 63) (h2 : 1 ≤ m) (h3 : m ≤ 16) : okE ((i : Int), (m : Int)) = true := by rw [okE_iff]; simp only; omega
theorem scF_zero (s : Nat) (k : List UInt8) (id : Nat) : scF s k id 0 = 0 := rfl
attribute [local irreducible] mixF scF scE scA okE
set_option maxRecDepth 100000 in
set_option maxHeartbeats 2000000 in
theorem rscore_ok (s : Nat) (A : Option Addr) (n c i m : Nat) (l : List UInt8) (w : World) (hs : s < 18446744073709551616) (h : RB w w.heap.size A n l) (hn : n ≤ maxLen) (h1 : i ≤ 63) (h2 : 1 ≤ m) (h3 : m ≤ 16) :
    Calls Try.prog 10 #[.int .u64 (s : Int), .slice A n c, entV ((i : Int), (m : Int))] w fun r w' => r = .returned (.tuple #[.int .u64 (scF s l i m : Int), .bool true]) ∧ Below w.heap.size w w' := by
  have HR := Lib.hid h
  have HL : Hid (l.length = n) := Lib.hid h.len
  clear h
  unfold entV
  go_enter Try.func10, Try.ntmps10
  go_wp2_with (refine wpList_boxB rfl 34 (.tmp 2) rfl (ent ((i : Int), (m : Int))) (ent_agg ((i : Int), (m : Int))) ?_; intro w1 q hc1 hb1 hx1; have c0 := hc1.cell 0; have c1 := hc1.cell 1; simp only [ent, List.getElem?_cons_zero, List.getElem?_cons_succ] at c0 c1; have HB1 := Lib.hid hb1; have HQ := Lib.hid hc1; clear hc1 hb1 hx1)
  clear c0 c1
  go_loopw [8, 9] (fun v j wr => ∃ k : Nat, k ≤ m ∧ j = .int .i64 k ∧ v = .int .u64 (scF s l i k : Int) ∧ Hid (Below w1.heap.size w1 wr)) (fun _ j _ => m - (intOf j).toNat)
  case atStart => exact ⟨0, Nat.zero_le _, rfl, vu64 (scF_zero s l i).symm, Lib.hid (Below.refl _ _)⟩
  case round =>
    obtain ⟨k, hk, rfl, rfl, hb⟩ := hrel
    have c0 := (HQ.out.step hb.out).cell 0
    have c1 := (HQ.out.step hb.out).cell 1
    simp only [ent, List.getElem?_cons_zero, List.getElem?_cons_succ] at c0 c1
    by_cases hlt : k < m
    · have hs1 := scF_lt s l i k
      have HS := Lib.hid (scF_succ s l i k)
      obtain ⟨V, HV⟩ : ∃ V, Hid (V = scF s l i k) := ⟨_, Lib.hid rfl⟩
      obtain ⟨M, HM⟩ : ∃ M, Hid (M = mixF s [l, [UInt8.ofNat i], [UInt8.ofNat k]]) := ⟨_, Lib.hid rfl⟩
      rw [← HV.out, ← HM.out] at HS
      rw [← HV.out] at hs1 ⊢
      have hi2 : i < 256 := by omega
      have hk2 : k < 256 := by omega
      go_wp2_with fail
      have R0 := HR.out.step (bel_next HB1.out hb.out)
      have R1 := RB.lit wr [UInt8.ofNat i] _ 1 _ (byte_lit hi2) rfl rfl
      have R2 := RB.lit (wr.alloc (.cells #[.int .u8 (i : Int)] 5)) [UInt8.ofNat k] _ 1 (wr.heap.size + 1) (byte_lit hk2) rfl (by simp)
      have B1 := below_alloc wr (.cells #[.int .u8 (i : Int)] 5)
      have B2 := below_alloc (wr.alloc (.cells #[.int .u8 (i : Int)] 5)) (.cells #[.int .u8 (k : Int)] 5)
      refine (rmix_any s _ 3 3 [l, [UInt8.ofNat i], [UInt8.ofNat k]] _ hs (by exact RR.lit _ [(A, c, l), (some ⟨wr.heap.size, 0, none⟩, 1, [UInt8.ofNat i]), (some ⟨wr.heap.size + 1, 0, none⟩, 1, [UInt8.ofNat k])] _ _ 3 _ (by simp only [List.map_cons, List.map_nil, HL.out]; rfl) rfl (by simp) (by
        intro r hr
        simp only [List.mem_cons, List.not_mem_nil, or_false] at hr
        rcases hr with rfl | rfl | rfl
        · rw [HL.out]; exact (R0.step B1).step B2
        · exact R1.step B2
        · exact R2)) (by decide) (by
        intro p hp
        simp only [List.mem_cons, List.not_mem_nil, or_false] at hp
        rcases hp with rfl | rfl | rfl
        · rw [HL.out]; exact hn
        · show 1 ≤ maxLen; decide
        · show 1 ≤ maxLen; decide)).mono ?_
      rw [← HM.out]
      rintro e w5 ⟨rfl, hb5⟩
      have HB5 := Lib.hid (bel_next hb.out (bel_next (bel_next B1 (bel_next B2 (below_alloc _ _))) hb5))
      clear R0 R1 R2 B1 B2 hb5
      go_wp2_with fail
      go_roundw
      case rel => exact ⟨k + 1, by omega, by go_num, by rw [HS.out, ← max_nat], HB5⟩
      case measure => simp [intOf]; omega
    · obtain rfl : k = m := by omega
      go_wp2_with fail
      go_ret2
      exact ⟨rfl, bel_next HB1.out hb.out⟩
theorem rscore_any (s : Nat) (A : Option Addr) (n c : Nat) (l : List UInt8) (e : Int × Int) (w : World) (hs : s < 18446744073709551616) (h : RB w w.heap.size A n l) (hn : n ≤ maxLen) :
    Calls Try.prog 10 #[.int .u64 (s : Int), .slice A n c, entV e] w fun r w' => r = .returned (.tuple #[.int .u64 (scA s l e : Int), .bool (okE e)]) ∧ Below w.heap.size w w' := by
  by_cases hok : okE e = true
  · have h1 := (okE_iff e).1 hok
    obtain ⟨x, y⟩ := e
    obtain ⟨i, rfl⟩ := Int.eq_ofNat_of_zero_le (show 0 ≤ x by simp only at h1; omega)
    obtain ⟨m, rfl⟩ := Int.eq_ofNat_of_zero_le (show 0 ≤ y by simp only at h1; omega)
    simp only at h1
    rw [scA_ok s l _ hok, hok, scE_nat]
    exact rscore_ok s A n c i m l w hs h hn (by omega) (by omega) (by omega)
  · have hno : okE e = false := by rw [Bool.eq_false_iff]; exact hok
    rw [scA_no s l e hno, hno]
    refine rscore_no s A n c e w ?_
    rw [okE_iff] at hok
    omega
end Go.Proofs.Ytocbdgkehgmahaa
