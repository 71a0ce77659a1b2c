/- Layer 8's statements' own first step: the numbers that they show. -/
import Derived.Test.YtmbimhiddcbfhaaVariRow
namespace Go.Proofs.Ytmbimhiddcbfhaa
open Go.RowKit
set_option linter.unusedVariables false

/-- A form's first byte tells its class. -/
theorem form_class {n k : Nat} (hk : k ≤ 3) (h : n < lim k) : ∃ x t, formL n k = x :: t ∧ x.toNat / 64 = k := by
  obtain ⟨x, hx0, hx1, hx2⟩ := form_set hk h
  rw [hx2]
  cases hp : putL n (sz k) with
  | nil => rw [hp] at hx0; cases hx0
  | cons y t =>
    refine ⟨UInt8.ofNat (k * 64 + x.toNat), t, by simp, ?_⟩
    rw [UInt8.toNat_ofNat']
    omega
theorem sz_pos {k : Nat} (hk : k ≤ 3) : 0 < sz k := by rcases k with _ | _ | _ | _ | k <;> simp [sz] <;> omega
/-- A form is taken as its number, whatever stands behind. -/
theorem tk_form {n k : Nat} (hk : k ≤ 3) (h : n < lim k) (r : List UInt8) : tkV (formL n k ++ r) = n ∧ tkN (formL n k ++ r) = sz k ∧ tkE (formL n k ++ r) = 0 := by
  obtain ⟨x, t, hf, hx⟩ := form_class hk h
  have hK : tkK (formL n k ++ r) = k := by rw [hf]; exact hx
  have hl := formL_len n k
  have hok : tkOk (formL n k ++ r) = true := by
    unfold tkOk
    rw [hK]
    have := sz_pos hk
    exact decide_eq_true ⟨by rw [List.length_append]; omega, by rw [List.length_append]; omega⟩
  unfold tkV tkN tkE
  rw [hok, if_pos rfl, if_pos rfl, if_pos rfl, hK]
  refine ⟨?_, rfl, rfl⟩
  rw [show (formL n k ++ r).take (sz k) = formL n k from by rw [List.take_append_of_le_length (by omega), List.take_of_length_le (by omega)], num_form hk h, Nat.add_comm, Nat.add_mul_mod_self_right, Nat.mod_eq_of_lt h]
/-- A form that is cut short is told. -/
theorem tk_cut {n k j : Nat} (hk : k ≤ 3) (h : n < lim k) (hj : j < sz k) : tkV ((formL n k).take j) = 0 ∧ tkN ((formL n k).take j) = 0 ∧ tkE ((formL n k).take j) = 12 := by
  obtain ⟨x, t, hf, hx⟩ := form_class hk h
  have hl := formL_len n k
  have hok : tkOk ((formL n k).take j) = false := by
    unfold tkOk
    refine decide_eq_false fun hh => ?_
    have hlt : ((formL n k).take j).length = j := by rw [List.length_take]; omega
    rw [hlt] at hh
    obtain ⟨i, rfl⟩ : ∃ i, j = i + 1 := ⟨j - 1, by omega⟩
    have hK : tkK ((formL n k).take (i + 1)) = k := by rw [hf]; exact hx
    rw [hK] at hh
    omega
  unfold tkV tkN tkE
  rw [hok]
  exact ⟨rfl, rfl, rfl⟩
theorem al_put1 (w : World) : Calls Try.prog 8 #[.int .u64 15293] w (RetBE 2 [123, 189] 0 w) := by
  have h := least_any 15293 w
  have e : leastL 15293 = [123, 189] := by decide +kernel
  have e2 : codeL 15293 = 0 := by decide +kernel
  rw [e, e2] at h
  exact h
theorem al_put2 (w : World) : Calls Try.prog 8 #[.int .u64 4611686018427387904] w (RetBE 0 [] 11 w) := by
  have h := least_any 4611686018427387904 w
  have e : leastL 4611686018427387904 = [] := by decide +kernel
  have e2 : codeL 4611686018427387904 = 11 := by decide +kernel
  rw [e, e2] at h
  exact h
theorem al_wide (w : World) : Calls Try.prog 10 #[.int .u64 37, .int .i64 2] w (RetBE 2 [64, 37] 0 w) := by
  have h := wide_ok 37 1 w (by decide) (by decide)
  have e : formL 37 1 = [64, 37] := by decide +kernel
  rw [e] at h
  exact h
theorem al_take1 (A : Option Addr) (c : Nat) (w : World) (hc : 3 ≤ c) (h : RB w w.heap.size A 3 [64, 37, 9]) : Calls Try.prog 18 #[.slice A 3 c] w fun e w' => e = .returned (.tuple #[.int .u64 37, .int .i64 2, .int .i64 0]) ∧ w = w' := by
  have h := take_any A 3 c _ w h hc (by omega)
  have e1 : tkV [64, 37, 9] = 37 := by decide +kernel
  have e2 : tkN [64, 37, 9] = 2 := by decide +kernel
  have e3 : tkE [64, 37, 9] = 0 := by decide +kernel
  rw [e1, e2, e3] at h
  exact h
theorem al_take2 (A : Option Addr) (c : Nat) (w : World) (hc : 1 ≤ c) (h : RB w w.heap.size A 1 [64]) : Calls Try.prog 18 #[.slice A 1 c] w fun e w' => e = .returned (.tuple #[.int .u64 0, .int .i64 0, .int .i64 12]) ∧ w = w' := by
  have h := take_any A 1 c _ w h hc (by omega)
  have e1 : tkV [64] = 0 := by decide +kernel
  have e2 : tkN [64] = 0 := by decide +kernel
  have e3 : tkE [64] = 12 := by decide +kernel
  rw [e1, e2, e3] at h
  exact h
theorem al_row (A : Option Addr) (c : Nat) (w : World) (h : UL w w.heap.size A 2 [37, 15293]) : Calls Try.prog 12 #[.slice A 2 c] w (RetBE 3 [37, 123, 189] 0 w) := by
  have h := row_any A 2 c _ w h (by omega)
  have e : rowR [37, 15293] = [37, 123, 189] := by decide +kernel
  have e2 : rowC [37, 15293] = 0 := by decide +kernel
  rw [e, e2] at h
  exact h
theorem al_size (w : World) : Calls Try.prog 14 #[.int .u64 64] w fun e w' => e = .returned (.int .i64 2) ∧ w = w' := by
  have h := size_any 64 w
  have e : sz (clsL 64) = 2 := by decide +kernel
  rw [e] at h
  exact h
/-- What alive carries: the rows that it compares. -/
structure VA (w : World) (A1 A3 A13 : Option Addr) (w' : World) : Prop where
  bel : Below w.heap.size w w'
  a : RB w' w'.heap.size A1 2 [123, 189]
  b : RB w' w'.heap.size A3 2 [64, 37]
  c : RB w' w'.heap.size A13 3 [37, 123, 189]
theorem VA.keep {w w1 w2 : World} {A1 A3 A13 : Option Addr} (h : VA w A1 A3 A13 w1) (hb : Below w1.heap.size w1 w2) : VA w A1 A3 A13 w2 :=
  ⟨bel_next h.bel hb, h.a.step hb, h.b.step hb, h.c.step hb⟩

set_option maxRecDepth 100000 in
set_option maxHeartbeats 2000000 in
theorem alive_any (w : World) :
    Calls Try.prog 7 #[] w fun e w' => e = .returned (.bool true) ∧ Below w.heap.size w w' := by
  go_enter Try.func7, Try.ntmps7
  go_wp2_with fail
  refine (al_put1 _).mono ?_
  rintro e w1 ⟨A1, c1, rfl, ho1, hb1⟩
  have R1 := ho1.rb
  have HB1 := hb1
  clear ho1 hb1
  go_wp2_with fail
  refine (al_wide _).mono ?_
  rintro e w2 ⟨A2, c2, rfl, ho2, hb2⟩
  have R2 := ho2.rb
  have R12 := R1.step hb2
  have HB2 := bel_next HB1 hb2
  clear ho2 hb2 R1 HB1
  go_wp2_with fail
  refine (al_take1 _ _ _ (by omega) (by exact RB.lit w2 [64, 37, 9] _ 3 _ rfl rfl rfl)).mono ?_
  rintro e w3 ⟨rfl, rfl⟩
  go_wp2_with fail
  refine (al_put2 _).mono ?_
  rintro e w3 ⟨A3, c3, rfl, _, hb3⟩
  have hb3' : Below w2.heap.size w2 w3 := bel_next (below_alloc w2 _) hb3
  have R23 := R2.step hb3'
  have R13 := R12.step hb3'
  have HB3 := bel_next HB2 hb3'
  clear hb3 hb3' R2 R12 HB2
  go_wp2_with fail
  refine (al_take2 _ _ _ (by omega) (by exact RB.lit w3 [64] _ 1 _ rfl rfl rfl)).mono ?_
  rintro e w4 ⟨rfl, rfl⟩
  go_wp2_with fail
  refine (al_row _ _ _ (by exact UL.lit _ [37, 15293] _ 2 _ _ rfl rfl (by simp) (by decide))).mono ?_
  rintro e w5 ⟨A5, c5, rfl, ho5, hb5⟩
  have hb5' : Below w3.heap.size w3 w5 := bel_next (bel_next (below_alloc w3 _) (below_alloc _ _)) hb5
  have HV : VA w A1 A2 A5 w5 := ⟨bel_next HB3 hb5', R13.step hb5', R23.step hb5', ho5.rb⟩
  clear hb5 hb5' R13 R23 ho5 HB3
  go_wp2_with fail
  refine (al_same _ _ _ _ _ _ [123, 189] [123, 189] _ (by exact (HV.keep (below_alloc _ _)).a) (by exact RB.lit _ [123, 189] _ 2 _ rfl rfl rfl) (by decide) (by decide) true rfl).mono ?_
  rintro e w6 ⟨rfl, hb6⟩
  have HV6 := HV.keep (bel_next (below_alloc w5 _) hb6)
  clear hb6 HV
  go_wp2_with fail
  refine (al_same _ _ _ _ _ _ [64, 37] [64, 37] _ (by exact (HV6.keep (below_alloc _ _)).b) (by exact RB.lit _ [64, 37] _ 2 _ rfl rfl rfl) (by decide) (by decide) true rfl).mono ?_
  rintro e w7 ⟨rfl, hb7⟩
  have HV7 := HV6.keep (bel_next (below_alloc w6 _) hb7)
  clear hb7 HV6
  go_wp2_with fail
  refine (al_same _ _ _ _ _ _ [37, 123, 189] [37, 123, 189] _ (by exact (HV7.keep (below_alloc _ _)).c) (by exact RB.lit _ [37, 123, 189] _ 3 _ rfl rfl rfl) (by decide) (by decide) true rfl).mono ?_
  rintro e w8 ⟨rfl, hb8⟩
  have HV8 := HV7.keep (bel_next (below_alloc w7 _) hb8)
  clear hb8 HV7
  go_wp2_with fail
  refine (al_size _).mono ?_
  rintro e w9 ⟨rfl, rfl⟩
  go_wp2_with fail
  go_ret
  exact ⟨rfl, HV8.bel⟩
end Go.Proofs.Ytmbimhiddcbfhaa
