/- FieldLaws' walk: sums and products have no order, products of sums are sums of products, each byte but 0 has an inverse. No conditions. -/
import Derived.Test.YtkbbbmblimlofaaFieldAlive
import Derived.Test.YtkbbbmblimlofaaOpen
namespace Go.Proofs.Ytkbbbmblimlofaa
open Go.RowKit
set_option linter.unusedVariables false

theorem sum2 (x y : UInt8) : sumL [x, y] = x ^^^ y := by simp [sumL]
theorem sum3 (x y : UInt8) : sumL [x, y, x] = y := by
  simp only [sumL, List.foldl]
  rw [UInt8.zero_xor, UInt8.xor_comm x y, UInt8.xor_assoc, UInt8.xor_self, UInt8.xor_zero]
theorem nz_byte {x : UInt8} (h : x ≠ 0) : ((x.toNat : Int) == 0) = false := by
  rw [beq_eq_false_iff_ne]; intro e; exact h (UInt8.toNat_inj.1 (by simp; omega))
theorem z_byte {x : UInt8} (h : x = 0) : ((x.toNat : Int) == 0) = true := by rw [h]; rfl

set_option maxRecDepth 100000 in
set_option maxHeartbeats 4000000 in
theorem FieldLaws_in (x y z : UInt8) (w : World) (zx zy : Bool) (hzx : ((x.toNat : Int) == 0) = zx) (hzy : ((y.toNat : Int) == 0) = zy) (hzm : (((mulB x y).toNat : Int) == 0) = (zx || zy)) (hinv : zx = false → mulB x (invB x) = 1 ∧ powN x 255 = 1) :
    Calls Try.prog 5 #[.int .u8 (x.toNat : Int), .int .u8 (y.toNat : Int), .int .u8 (z.toNat : Int)] w fun e w' => e = .returned (.bool true) ∧ Below w.heap.size w w' := by
  obtain ⟨m, HM⟩ : ∃ m, Hid (m = mulB x y) := ⟨_, Lib.hid rfl⟩
  obtain ⟨q, HQ⟩ : ∃ q, Hid (q = mulB m z) := ⟨_, Lib.hid rfl⟩
  obtain ⟨u, HU⟩ : ∃ u, Hid (u = mulB y z) := ⟨_, Lib.hid rfl⟩
  obtain ⟨s, HS⟩ : ∃ s, Hid (s = y ^^^ z) := ⟨_, Lib.hid rfl⟩
  obtain ⟨r, HR⟩ : ∃ r, Hid (r = mulB x s) := ⟨_, Lib.hid rfl⟩
  obtain ⟨v, HV⟩ : ∃ v, Hid (v = mulB x z) := ⟨_, Lib.hid rfl⟩
  obtain ⟨i, HI⟩ : ∃ i, Hid (i = invB x) := ⟨_, Lib.hid rfl⟩
  rw [← HM.out] at hzm
  rw [← HI.out] at hinv
  have HINV := Lib.hid hinv
  clear hinv
  rcases zx with _ | _ <;> rcases zy with _ | _ <;> dsimp only [or] at hzm
  all_goals
    go_enter Try.func5, Try.ntmps5
    go_wp2_with fail
    refine (alive_any _).mono ?_
    rintro e w1 ⟨rfl, HB⟩
    have HB := Lib.hid HB
    go_wp2_with fail
    refine (mul_lit _ _ (m.toNat : Int) x y rfl rfl (by rw [HM.out]) _).mono ?_
    rintro e w2 ⟨rfl, rfl⟩
    go_wp2_with fail
    refine (mul_lit _ _ (m.toNat : Int) y x rfl rfl (by rw [HM.out, mulB_comm]) _).mono ?_
    rintro e w2 ⟨rfl, rfl⟩
    go_wp2_with fail
    refine (mul_lit _ _ (m.toNat : Int) x y rfl rfl (by rw [HM.out]) _).mono ?_
    rintro e w2 ⟨rfl, rfl⟩
    go_wp2_with fail
    refine (mul_lit _ _ (q.toNat : Int) m z rfl rfl (by rw [HQ.out]) _).mono ?_
    rintro e w2 ⟨rfl, rfl⟩
    go_wp2_with fail
    refine (mul_lit _ _ (u.toNat : Int) y z rfl rfl (by rw [HU.out]) _).mono ?_
    rintro e w2 ⟨rfl, rfl⟩
    go_wp2_with fail
    refine (mul_lit _ _ (q.toNat : Int) x u rfl rfl (by rw [HQ.out, HM.out, HU.out, mulB_assoc]) _).mono ?_
    rintro e w2 ⟨rfl, rfl⟩
    go_wp2_with fail
    refine (sum_lit (s.toNat : Int) _ 2 2 _ [y, z] _ (by exact RB.lit _ [y, z] _ 2 _ rfl rfl rfl) (by omega) (by rw [sum2, HS.out])).mono ?_
    rintro e w2 ⟨rfl, rfl⟩
    go_wp2_with fail
    refine (mul_lit _ _ (r.toNat : Int) x s rfl rfl (by rw [HR.out]) _).mono ?_
    rintro e w2 ⟨rfl, rfl⟩
    go_wp2_with fail
    refine (mul_lit _ _ (m.toNat : Int) x y rfl rfl (by rw [HM.out]) _).mono ?_
    rintro e w2 ⟨rfl, rfl⟩
    go_wp2_with fail
    refine (mul_lit _ _ (v.toNat : Int) x z rfl rfl (by rw [HV.out]) _).mono ?_
    rintro e w2 ⟨rfl, rfl⟩
    go_wp2_with fail
    refine (sum_lit (r.toNat : Int) _ 2 2 _ [m, v] _ (by exact RB.lit _ [m, v] _ 2 _ rfl rfl (by simp)) (by omega) (by rw [sum2, HR.out, HS.out, HM.out, HV.out, mulB_right])).mono ?_
    rintro e w2 ⟨rfl, rfl⟩
    go_wp2_with fail
    refine (mul_lit _ 1 (x.toNat : Int) x 1 rfl rfl (by rw [mulB_one]) _).mono ?_
    rintro e w2 ⟨rfl, rfl⟩
    go_wp2_with fail
    refine (sum_lit (y.toNat : Int) _ 3 3 _ [x, y, x] _ (by exact RB.lit _ [x, y, x] _ 3 _ rfl rfl (by simp)) (by omega) (by rw [sum3])).mono ?_
    rintro e w2 ⟨rfl, rfl⟩
    go_wp2_with fail
    refine (sum_lit 0 none 0 0 0 [] _ (by exact RB.nil_) (by omega) rfl).mono ?_
    rintro e w2 ⟨rfl, rfl⟩
    go_wp2_with fail
    refine (mul_lit _ _ (m.toNat : Int) x y rfl rfl (by rw [HM.out]) _).mono ?_
    rintro e w2 ⟨rfl, rfl⟩
    go_wp2_with fail
  · refine (inv_lit _ (i.toNat : Int) x rfl (by rw [HI.out]) _).mono ?_
    rintro e w2 ⟨rfl, rfl⟩
    go_wp2_with fail
    refine (mul_lit _ _ 1 x i rfl rfl (by rw [(HINV.out (by simp)).1]; rfl) _).mono ?_
    rintro e w2 ⟨rfl, rfl⟩
    go_wp2_with fail
    refine (pow_lit _ 255 1 x 255 rfl rfl (by omega) (by rw [(HINV.out (by simp)).2]; rfl) _).mono ?_
    rintro e w2 ⟨rfl, rfl⟩
    go_wp2_with fail
    refine (inv_lit _ (i.toNat : Int) x rfl (by rw [HI.out]) _).mono ?_
    rintro e w2 ⟨rfl, rfl⟩
    go_wp2_with fail
    refine (pow_lit _ 254 (i.toNat : Int) x 254 rfl rfl (by omega) (by rw [HI.out, invB_pow]) _).mono ?_
    rintro e w2 ⟨rfl, rfl⟩
    go_wp2_with fail
    go_ret
    exact ⟨rfl, bel_next (bel_next (bel_next HB.out (below_alloc _ _)) (below_alloc _ _)) (below_alloc _ _)⟩
  · refine (inv_lit _ (i.toNat : Int) x rfl (by rw [HI.out]) _).mono ?_
    rintro e w2 ⟨rfl, rfl⟩
    go_wp2_with fail
    refine (mul_lit _ _ 1 x i rfl rfl (by rw [(HINV.out (by simp)).1]; rfl) _).mono ?_
    rintro e w2 ⟨rfl, rfl⟩
    go_wp2_with fail
    refine (pow_lit _ 255 1 x 255 rfl rfl (by omega) (by rw [(HINV.out (by simp)).2]; rfl) _).mono ?_
    rintro e w2 ⟨rfl, rfl⟩
    go_wp2_with fail
    refine (inv_lit _ (i.toNat : Int) x rfl (by rw [HI.out]) _).mono ?_
    rintro e w2 ⟨rfl, rfl⟩
    go_wp2_with fail
    refine (pow_lit _ 254 (i.toNat : Int) x 254 rfl rfl (by omega) (by rw [HI.out, invB_pow]) _).mono ?_
    rintro e w2 ⟨rfl, rfl⟩
    go_wp2_with fail
    go_ret
    exact ⟨rfl, bel_next (bel_next (bel_next HB.out (below_alloc _ _)) (below_alloc _ _)) (below_alloc _ _)⟩
  · go_ret
    exact ⟨rfl, bel_next (bel_next (bel_next HB.out (below_alloc _ _)) (below_alloc _ _)) (below_alloc _ _)⟩
  · go_ret
    exact ⟨rfl, bel_next (bel_next (bel_next HB.out (below_alloc _ _)) (below_alloc _ _)) (below_alloc _ _)⟩

theorem FieldLaws_walk (x0 : Int) (x1 : Int) (x2 : Int) (w : World) (h0 : (Lit.int .u8 x0).wf = true) (h1 : (Lit.int .u8 x1).wf = true) (h2 : (Lit.int .u8 x2).wf = true) :
    Calls Try.prog 5 #[.int .u8 x0, .int .u8 x1, .int .u8 x2] w fun e w' => e = .returned (.bool true) ∧ Below w.heap.size w w' := by
  obtain ⟨x, rfl⟩ := byte_of h0
  obtain ⟨y, rfl⟩ := byte_of h1
  obtain ⟨z, rfl⟩ := byte_of h2
  by_cases hx : x = 0
  · exact FieldLaws_in x y z w true _ (z_byte hx) rfl (by rw [hx, mulB_zero']; rfl) (fun h => absurd h (by simp))
  · have hinv : false = false → mulB x (invB x) = 1 ∧ powN x 255 = 1 := fun _ => ⟨mulB_inv x hx, powN_255 x hx⟩
    by_cases hy : y = 0
    · exact FieldLaws_in x y z w false true (nz_byte hx) (z_byte hy) (by rw [hy, mulB_zero]; rfl) hinv
    · exact FieldLaws_in x y z w false false (nz_byte hx) (nz_byte hy) (nz_byte (fun h => by rcases mulB_cancel x y h with h | h; exact hx h; exact hy h)) hinv
end Go.Proofs.Ytkbbbmblimlofaa
