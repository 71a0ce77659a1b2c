/- The S-box values of bytes: each is just one byte's, none its own nor its own turned; the byte with a value is found. No conditions; nothing is claimed of the program here. -/
import Derived.Test.YtmpidjadpcpbfaaGreatFieldPow
namespace Go.Proofs.YtmpidjadpcpbfaaGreat
set_option linter.unusedVariables false

theorem invB_inv (x : UInt8) : invB (invB x) = x := by
  by_cases hx : x = 0
  · subst hx; rw [invB_zero, invB_zero]
  · have h1 := mulB_inv x hx
    have hi : invB x ≠ 0 := fun e => by rw [e, mulB_zero] at h1; exact absurd h1 (by decide)
    have h2 := mulB_inv (invB x) hi
    rw [mulB_comm] at h1
    exact inv_unique (invB x) _ _ h2 h1
/-- The inverse that makes a sign. -/
def unsignB (s : UInt8) : UInt8 := sumL [rotB s 1, rotB s 3, rotB s 6, 5]
theorem unsign_sign (b : UInt8) : unsignB (signB b) = b := each_byte (p := fun b => unsignB (signB b) = b) (by decide +kernel) b
theorem sign_unsign (s : UInt8) : signB (unsignB s) = s := each_byte (p := fun s => signB (unsignB s) = s) (by decide +kernel) s
theorem subB_inj (x y : UInt8) (h : subB x = subB y) : x = y := by
  have h1 := congrArg unsignB h
  unfold subB at h1
  rw [unsign_sign, unsign_sign] at h1
  have h2 := congrArg invB h1
  rwa [invB_inv, invB_inv] at h2
theorem subB_un (a : UInt8) : subB (invB (unsignB a)) = a := by
  unfold subB
  rw [invB_inv, sign_unsign]
theorem unsubFrom_spec (x : UInt8) : ∀ (m k : Nat), k ≤ x.toNat → x.toNat < k + m → k + m ≤ 256 → unsubFrom (subB x) k m = x
  | 0, k, h1, h2, _ => by omega
  | m + 1, k, h1, h2, h3 => by
    rw [unsubFrom]
    split
    · rename_i h; exact subB_inj _ _ h
    · rename_i hk
      refine unsubFrom_spec x m (k + 1) ?_ (by omega) (by omega)
      rcases Nat.lt_or_ge k x.toNat with h | h
      · exact h
      · exact absurd (by rw [show k = x.toNat from by omega]; simp) hk
theorem unsub_sub (x : UInt8) : unsubB (subB x) = x := unsubFrom_spec x 256 0 (Nat.zero_le _) (by have := x.toNat_lt; omega) (by omega)
theorem sub_unsub (a : UInt8) : subB (unsubB a) = a := by
  have h := subB_un a
  have h2 := unsub_sub (invB (unsignB a))
  rw [h] at h2
  rw [h2, h]
/-- The 254th power by squares. -/
def pow254 (a : UInt8) : UInt8 :=
  let b := mulB a a; let c := mulB b b; let d := mulB c c; let e := mulB d d; let f := mulB e e; let g := mulB f f; let h := mulB g g
  mulB (mulB (mulB (mulB (mulB (mulB h g) f) e) d) c) b
theorem pow254_eq (a : UInt8) : powN a 254 = pow254 a := by
  have h1 := powN_one a
  have h2 : powN a 2 = mulB a a := by rw [powN_two a 1, h1]
  have h4 : powN a 4 = mulB (powN a 2) (powN a 2) := powN_two a 2
  have h8 : powN a 8 = mulB (powN a 4) (powN a 4) := powN_two a 4
  have h16 : powN a 16 = mulB (powN a 8) (powN a 8) := powN_two a 8
  have h32 : powN a 32 = mulB (powN a 16) (powN a 16) := powN_two a 16
  have h64 : powN a 64 = mulB (powN a 32) (powN a 32) := powN_two a 32
  have h128 : powN a 128 = mulB (powN a 64) (powN a 64) := powN_two a 64
  have e : powN a 254 = mulB (mulB (mulB (mulB (mulB (mulB (powN a 128) (powN a 64)) (powN a 32)) (powN a 16)) (powN a 8)) (powN a 4)) (powN a 2) := by
    rw [← powN_add, ← powN_add, ← powN_add, ← powN_add, ← powN_add, ← powN_add]
  rw [e, h128, h64, h32, h16, h8, h4, h2]
  rfl
theorem subB_fast (x : UInt8) : subB x = signB (pow254 x) := by unfold subB; rw [invB_pow, pow254_eq]
theorem subB_own (x : UInt8) : subB x ≠ x ∧ subB x ≠ 255 - x := by
  rw [subB_fast]
  exact each_byte (p := fun x => signB (pow254 x) ≠ x ∧ signB (pow254 x) ≠ 255 - x) (by decide +kernel) x
theorem subB_53 : subB 83 = 237 := by rw [subB_fast]; decide +kernel
theorem unsubB_ed : unsubB 237 = 83 := by rw [← subB_53, unsub_sub]
end Go.Proofs.YtmpidjadpcpbfaaGreat
