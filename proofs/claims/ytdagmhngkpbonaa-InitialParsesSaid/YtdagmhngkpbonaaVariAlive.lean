/- Layer 8's statements' own first step: the numbers that they show. -/
import Derived.Test.YtdagmhngkpbonaaVariAll
namespace Go.Proofs.Ytdagmhngkpbonaa
open Go.RowKit
set_option linter.unusedVariables false

/-- A form's first byte tells its class. -/
theorem form_class {n k : Nat} (hk : k ≤ 3) (h : n < lim k) : ∃ x t, formL n k = x :: t ∧ x.toNat / 64 = k := by
  obtain ⟨x, hx0, hx1, hx2⟩ := form_set hk h
  rw [hx2]
  cases hp : putL n (sz k) with
  | nil => rw [hp] at hx0; cases hx0
  | cons y t =>
    refine ⟨UInt8.ofNat (k * 64 + x.toNat), t, by simp, ?_⟩
    rw [UInt8.toNat_ofNat']
    omega
theorem sz_pos {k : Nat} (hk : k ≤ 3) : 0 < sz k := by rcases k with _ | _ | _ | _ | k <;> simp [sz] <;> omega
/-- A form is taken as its number, whatever stands behind. -/
theorem tk_form {n k : Nat} (hk : k ≤ 3) (h : n < lim k) (r : List UInt8) : tkV (formL n k ++ r) = n ∧ tkN (formL n k ++ r) = sz k ∧ tkE (formL n k ++ r) = 0 := by
  obtain ⟨x, t, hf, hx⟩ := form_class hk h
  have hK : tkK (formL n k ++ r) = k := by rw [hf]; exact hx
  have hl := formL_len n k
  have hok : tkOk (formL n k ++ r) = true := by
    unfold tkOk
    rw [hK]
    have := sz_pos hk
    exact decide_eq_true ⟨by rw [List.length_append]; omega, by rw [List.length_append]; omega⟩
  unfold tkV tkN tkE
  rw [hok, if_pos rfl, if_pos rfl, if_pos rfl, hK]
  refine ⟨?_, rfl, rfl⟩
  rw [show (formL n k ++ r).take (sz k) = formL n k from by rw [List.take_append_of_le_length (by omega), List.take_of_length_le (by omega)], num_form hk h, Nat.add_comm, Nat.add_mul_mod_self_right, Nat.mod_eq_of_lt h]
/-- A form that is cut short is told. -/
theorem tk_cut {n k j : Nat} (hk : k ≤ 3) (h : n < lim k) (hj : j < sz k) : tkV ((formL n k).take j) = 0 ∧ tkN ((formL n k).take j) = 0 ∧ tkE ((formL n k).take j) = 12 := by
  obtain ⟨x, t, hf, hx⟩ := form_class hk h
  have hl := formL_len n k
  have hok : tkOk ((formL n k).take j) = false := by
    unfold tkOk
    refine decide_eq_false fun hh => ?_
    have hlt : ((formL n k).take j).length = j := by rw [List.length_take]; omega
    rw [hlt] at hh
    obtain ⟨i, rfl⟩ : ∃ i, j = i + 1 := ⟨j - 1, by omega⟩
    have hK : tkK ((formL n k).take (i + 1)) = k := by rw [hf]; exact hx
    rw [hK] at hh
    omega
  unfold tkV tkN tkE
  rw [hok]
  exact ⟨rfl, rfl, rfl⟩
theorem al_put1 (w : World) : Calls Try.prog 62 #[.int .u64 15293] w (RetBE 2 [123, 189] 0 w) := by
  have h := least_any 15293 w
  have e : leastL 15293 = [123, 189] := by decide +kernel
  have e2 : codeL 15293 = 0 := by decide +kernel
  rw [e, e2] at h
  exact h
theorem al_put2 (w : World) : Calls Try.prog 62 #[.int .u64 4611686018427387904] w (RetBE 0 [] 11 w) := by
  have h := least_any 4611686018427387904 w
  have e : leastL 4611686018427387904 = [] := by decide +kernel
  have e2 : codeL 4611686018427387904 = 11 := by decide +kernel
  rw [e, e2] at h
  exact h
theorem al_wide (w : World) : Calls Try.prog 63 #[.int .u64 37, .int .i64 2] w (RetBE 2 [64, 37] 0 w) := by
  have h := wide_ok 37 1 w (by decide) (by decide)
  have e : formL 37 1 = [64, 37] := by decide +kernel
  rw [e] at h
  exact h
theorem al_take1 (A : Option Addr) (c : Nat) (w : World) (hc : 3 ≤ c) (h : RB w w.heap.size A 3 [64, 37, 9]) : Calls Try.prog 58 #[.slice A 3 c] w fun e w' => e = .returned (.tuple #[.int .u64 37, .int .i64 2, .int .i64 0]) ∧ w = w' := by
  have h := take_any A 3 c _ w h hc (by omega)
  have e1 : tkV [64, 37, 9] = 37 := by decide +kernel
  have e2 : tkN [64, 37, 9] = 2 := by decide +kernel
  have e3 : tkE [64, 37, 9] = 0 := by decide +kernel
  rw [e1, e2, e3] at h
  exact h
theorem al_take2 (A : Option Addr) (c : Nat) (w : World) (hc : 1 ≤ c) (h : RB w w.heap.size A 1 [64]) : Calls Try.prog 58 #[.slice A 1 c] w fun e w' => e = .returned (.tuple #[.int .u64 0, .int .i64 0, .int .i64 12]) ∧ w = w' := by
  have h := take_any A 1 c _ w h hc (by omega)
  have e1 : tkV [64] = 0 := by decide +kernel
  have e2 : tkN [64] = 0 := by decide +kernel
  have e3 : tkE [64] = 12 := by decide +kernel
  rw [e1, e2, e3] at h
  exact h
theorem al_row (A : Option Addr) (c : Nat) (w : World) (h : UL w w.heap.size A 2 [37, 15293]) : Calls Try.prog 60 #[.slice A 2 c] w (RetBE 3 [37, 123, 189] 0 w) := by
  have h := row_any A 2 c _ w h (by omega)
  have e : rowR [37, 15293] = [37, 123, 189] := by decide +kernel
  have e2 : rowC [37, 15293] = 0 := by decide +kernel
  rw [e, e2] at h
  exact h
theorem al_size (w : World) : Calls Try.prog 64 #[.int .u64 64] w fun e w' => e = .returned (.int .i64 2) ∧ w = w' := by
  have h := size_any 64 w
  have e : sz (clsL 64) = 2 := by decide +kernel
  rw [e] at h
  exact h
/-- What alive carries: the rows that it compares. -/
structure VA (w : World) (A1 A3 A13 : Option Addr) (w' : World) : Prop where
  bel : Below w.heap.size w w'
  a : RB w' w'.heap.size A1 2 [123, 189]
  b : RB w' w'.heap.size A3 2 [64, 37]
  c : RB w' w'.heap.size A13 3 [37, 123, 189]
theorem VA.keep {w w1 w2 : World} {A1 A3 A13 : Option Addr} (h : VA w A1 A3 A13 w1) (hb : Below w1.heap.size w1 w2) : VA w A1 A3 A13 w2 :=
  ⟨bel_next h.bel hb, h.a.step hb, h.b.step hb, h.c.step hb⟩

end Go.Proofs.Ytdagmhngkpbonaa
