/- field's functions that only compute (double, Mul, Pow, Inv, Sum, bits.RotateLeft8), each as a plain function of bytes. No conditions but that a list's cells are readable. -/
import Derived.Test.YtbpbpkmjkbndbaaFieldLaw
import Derived.Test.YtbpbpkmjkbndbaaBytes
namespace Go.Proofs.Ytbpbpkmjkbndbaa
open Go.RowKit
set_option linter.unusedVariables false

/-- A fact of every byte, out of the 256 numbers. -/
theorem each_byte {p : UInt8 → Prop} (h : ∀ n : Fin 256, p (UInt8.ofNat n.val)) (x : UInt8) : p x := by
  have e : UInt8.ofNat x.toNat = x := by simp
  have := h ⟨x.toNat, x.toNat_lt⟩
  rw [e] at this
  exact this
def dblOk (x : UInt8) : Bool :=
  if bits .and .u8 (x.toNat : Int) 128 != 0 then bits .xor .u8 ((x.toNat : Int) * 2 % 256) 27 == ((mulB x 2).toNat : Int) else (x.toNat : Int) * 2 % 256 == ((mulB x 2).toNat : Int)
theorem dbl_ok (x : UInt8) : dblOk x = true := each_byte (p := fun x => dblOk x = true) (by decide +kernel) x

set_option maxRecDepth 100000 in
set_option maxHeartbeats 400000 in
theorem double_any (x : UInt8) (w : World) :
    Calls Try.prog 66 #[.int .u8 (x.toNat : Int)] w fun e w' => e = .returned (.int .u8 ((mulB x 2).toNat : Int)) ∧ w = w' := by
  have hx := byte_lt x
  have hok := dbl_ok x
  unfold dblOk at hok
  have HOK := Lib.hid hok
  clear hok
  go_enter Try.func66, Try.ntmps66
  go_wp2
  · rename_i h
    go_ret
    have := HOK.out
    rw [if_pos h, beq_iff_eq] at this
    exact ⟨ret1i this, rfl⟩
  · rename_i h
    go_ret
    have := HOK.out
    rw [if_neg (by rw [h]; simp), beq_iff_eq] at this
    exact ⟨ret1i this, rfl⟩

/-- The half of a byte, rounded down; and its last bit. -/
def halfB (b : UInt8) : UInt8 := b >>> 1
theorem half_nat (b : UInt8) : ((halfB b).toNat : Int) = (b.toNat : Int) / 2 := by
  have h := each_byte (p := fun b => (halfB b).toNat = b.toNat / 2) (by decide +kernel) b
  show ((halfB b).toNat : Int) = _
  rw [show (halfB b).toNat = b.toNat / 2 from h]
  simp
def bit0 (b : UInt8) : UInt8 := b &&& 1
theorem bit0_two (b : UInt8) : b = bit0 b ^^^ mulB 2 (halfB b) := each_byte (p := fun b => b = bit0 b ^^^ mulB 2 (halfB b)) (by decide +kernel) b
theorem bit0_and (b : UInt8) : (bits .and .u8 (b.toNat : Int) 1 != 0) = decide (bit0 b = 1) := each_byte (p := fun b => (bits .and .u8 (b.toNat : Int) 1 != 0) = decide (bit0 b = 1)) (by decide +kernel) b
theorem bit0_zero (b : UInt8) (h : ¬ bit0 b = 1) : bit0 b = 0 := each_byte (p := fun b => ¬ bit0 b = 1 → bit0 b = 0) (by decide +kernel) b h
theorem mul_half (a b : UInt8) : mulB a b = mulB a (bit0 b) ^^^ mulB (mulB a 2) (halfB b) := by
  have h := mulB_right a (bit0 b) (mulB 2 (halfB b))
  rw [← bit0_two] at h
  rw [h, mulB_assoc]

set_option maxRecDepth 100000 in
set_option maxHeartbeats 1000000 in
theorem mul_any (x y : UInt8) (w : World) :
    Calls Try.prog 60 #[.int .u8 (x.toNat : Int), .int .u8 (y.toNat : Int)] w fun e w' => e = .returned (.int .u8 ((mulB x y).toNat : Int)) ∧ w = w' := by
  obtain ⟨V, HV⟩ : ∃ V, Hid (V = mulB x y) := ⟨_, Lib.hid rfl⟩
  rw [← HV.out]
  go_enter Try.func60, Try.ntmps60
  go_wp2
  go_loop [0, 1, 5] (fun A B P => ∃ a b p : UInt8, A = .int .u8 (a.toNat : Int) ∧ B = .int .u8 (b.toNat : Int) ∧ P = .int .u8 (p.toNat : Int) ∧ Hid (V = p ^^^ mulB a b)) (fun _ B _ => (intOf B).toNat)
  case atStart => exact ⟨x, y, 0, rfl, rfl, rfl, Lib.hid (by rw [HV.out]; simp)⟩
  case round =>
    obtain ⟨a, b, p, rfl, rfl, rfl, hv⟩ := hrel
    have hb := byte_lt b
    have ha := byte_lt a
    by_cases h0 : b = 0
    · subst h0
      have h1 := hv.out
      rw [mulB_zero] at h1
      have HV1 := Lib.hid h1
      clear h1
      go_wp2
      go_ret
      exact ⟨ret1i (by rw [HV1.out]; simp), rfl⟩
    · have hb0 : ((b.toNat : Int) != 0) = true := by
        rw [bne_iff_ne]; intro e; exact h0 (UInt8.toNat_inj.1 (by simp; omega))
      have hb1 : 0 < b.toNat := by
        have := bne_iff_ne.1 hb0; omega
      have hand := bit0_and b
      have hmul := mul_half a b
      have hx := xor_byte p a
      have hhalf := half_nat b
      have HH := Lib.hid hhalf
      clear h0 hhalf
      by_cases hbit : bit0 b = 1
      · rw [hbit, mulB_one] at hmul
        have HM := Lib.hid hmul
        have hd : (bits .and .u8 (b.toNat : Int) 1 != 0) = true := by rw [hand]; exact decide_eq_true hbit
        clear hand hmul hbit
        go_wp2_with (go_at_call 66; refine (double_any _ _).mono ?_; rintro e w' ⟨rfl, rfl⟩)
        go_round
        case rel => exact ⟨mulB a 2, halfB b, p ^^^ a, rfl, by rw [HH.out], rfl, Lib.hid (by rw [hv.out, HM.out, UInt8.xor_assoc])⟩
        case measure => simp [intOf]; omega
      · rw [bit0_zero b hbit, mulB_zero, UInt8.zero_xor] at hmul
        have HM := Lib.hid hmul
        have hd : (bits .and .u8 (b.toNat : Int) 1 != 0) = false := by rw [hand]; exact decide_eq_false hbit
        clear hand hmul hbit
        go_wp2_with (go_at_call 66; refine (double_any _ _).mono ?_; rintro e w' ⟨rfl, rfl⟩)
        go_round
        case rel => exact ⟨mulB a 2, halfB b, p, rfl, by rw [HH.out], rfl, Lib.hid (by rw [hv.out, HM.out])⟩
        case measure => simp [intOf]; omega
/-- Mul where the second byte comes as a number. -/
theorem mul_k (x : UInt8) (k : Nat) (hk : k < 256) (w : World) :
    Calls Try.prog 60 #[.int .u8 (x.toNat : Int), .int .u8 (k : Int)] w fun e w' => e = .returned (.int .u8 ((mulB x (UInt8.ofNat k)).toNat : Int)) ∧ w = w' := by
  have e : (k : Int) = ((UInt8.ofNat k).toNat : Int) := by simp; omega
  rw [e]
  exact mul_any x _ w
end Go.Proofs.Ytbpbpkmjkbndbaa
