/- Layer 13, plainly: versions as bytes, offers that are made, parsed, answered. Nothing is claimed of the program here. -/
import Derived.Test.YtppopdjfecabfaaHeadUse
namespace Go.Proofs.Ytppopdjfecabfaa
open Go.RowKit
set_option linter.unusedVariables false
set_option linter.unusedSimpArgs false

/-- Versions, four bytes each. -/
def verL (l : List Nat) : List UInt8 := (l.map (fun x => putL x 4)).flatten
theorem verL_snoc (l : List Nat) (x : Nat) : verL (l ++ [x]) = verL l ++ putL x 4 := by simp [verL]
theorem verL_cons (l : List Nat) (x : Nat) : verL (x :: l) = putL x 4 ++ verL l := by simp [verL]
theorem verL_len (l : List Nat) : (verL l).length = 4 * l.length := by
  induction l with
  | nil => rfl
  | cons x l ih => rw [verL_cons, List.length_append, ih, List.length_cons, show (putL x 4).length = 4 from putL_len x 4]; omega
theorem verL_step {l : List Nat} {k x : Nat} (h : l[k]? = some x) : verL (l.take (k + 1)) = verL (l.take k) ++ putL x 4 := by
  rw [List.take_add_one, h]
  exact verL_snoc _ _
/-- The first byte, with its most significant bit. -/
def f128 (x : UInt8) : UInt8 := UInt8.ofNat (x.toNat % 128 + 128)
theorem f128_nat (x : UInt8) : (f128 x).toNat = x.toNat % 128 + 128 := by
  unfold f128
  rw [UInt8.toNat_ofNat']
  omega
theorem f128_or (x : UInt8) : bits .or .u8 (x.toNat : Int) 128 = ((f128 x).toNat : Int) := each_b (fun x => bits .or .u8 (x.toNat : Int) 128 = ((f128 x).toNat : Int)) (by decide +kernel) x
theorem f128_and (x : UInt8) : bits .and .u8 ((f128 x).toNat : Int) 127 = bits .and .u8 (x.toNat : Int) 127 := each_b (fun x => bits .and .u8 ((f128 x).toNat : Int) 127 = bits .and .u8 (x.toNat : Int) 127) (by decide +kernel) x
theorem f128_long (x : UInt8) : ¬ (f128 x).toNat < 128 := by rw [f128_nat]; omega
theorem f128_twice (x : UInt8) : f128 (f128 x) = f128 x := UInt8.toNat_inj.1 (by rw [f128_nat, f128_nat]; omega)
/-- Make. -/
def mkO (f : UInt8) (a b : List UInt8) (l : List Nat) : List UInt8 × Int :=
  if l.length = 0 ∨ 64 < l.length then ([], 11) else if 255 < a.length ∨ 255 < b.length then ([], 15) else (rawP (f128 f, 0, a, b) ++ verL l, 0)
/-- The number of four bytes. -/
def vnum (l : List UInt8) (i : Nat) : Nat := numL ((l.drop (4 * i)).take 4)
theorem vnum_le (l : List UInt8) (i : Nat) : vnum l i ≤ 4294967295 := by
  have h1 := numL_lt _ ((l.drop (4 * i)).take 4) rfl
  have h2 : ((l.drop (4 * i)).take 4).length ≤ 4 := by rw [List.length_take]; omega
  have h3 : 256 ^ ((l.drop (4 * i)).take 4).length ≤ 256 ^ 4 := Nat.pow_le_pow_right (by omega) h2
  have h4 : (256 : Nat) ^ 4 = 4294967296 := by decide
  unfold vnum
  omega
/-- The versions of bytes. -/
def splV (l : List UInt8) : List Nat := (List.range (l.length / 4)).map (vnum l)
theorem splV_len (l : List UInt8) : (splV l).length = l.length / 4 := by simp [splV]
theorem splV_le (l : List UInt8) : ∀ x ∈ splV l, x ≤ 4294967295 := by
  intro x hx
  obtain ⟨i, _, rfl⟩ := List.mem_map.1 hx
  exact vnum_le l i
theorem vnum_cons (x : Nat) (hx : x ≤ 4294967295) (r : List UInt8) : vnum (putL x 4 ++ r) 0 = x := by
  unfold vnum
  rw [Nat.mul_zero, List.drop_zero, List.take_left' (putL_len x 4)]
  exact numH_four x (by omega)
theorem vnum_next (x : Nat) (r : List UInt8) (i : Nat) : vnum (putL x 4 ++ r) (i + 1) = vnum r i := by
  unfold vnum
  rw [show 4 * (i + 1) = (putL x 4).length + 4 * i by rw [putL_len]; omega, List.drop_append]
  rw [Nat.add_sub_cancel_left, List.drop_of_length_le (by omega), List.nil_append]
theorem splV_ver (l : List Nat) (h : ∀ x ∈ l, x ≤ 4294967295) : splV (verL l) = l := by
  have e : (verL l).length / 4 = l.length := by rw [verL_len]; omega
  unfold splV
  rw [e]
  clear e
  induction l with
  | nil => rfl
  | cons x l ih =>
    rw [List.length_cons, List.range_succ_eq_map, List.map_cons, List.map_map, verL_cons, vnum_cons x (h x (.head _))]
    congr 1
    refine Eq.trans (List.map_congr_left fun i _ => ?_) (ih fun y hy => h y (.tail _ hy))
    exact vnum_next x (verL l) i
/-- Parse. -/
def oprs (l : List UInt8) : Pl × List Nat × Int :=
  if (prs l).2.2 = 0 then (if (prs l).1.2.1 = 0 then (if (prs l).2.1.length = 0 ∨ (prs l).2.1.length % 4 ≠ 0 then (zeroP, [], 10) else ((prs l).1, splV (prs l).2.1, 0)) else (zeroP, [], 14)) else (zeroP, [], (prs l).2.2)
theorem oprs_e {l : List UInt8} (h : (prs l).2.2 ≠ 0) : oprs l = (zeroP, [], (prs l).2.2) := if_neg h
theorem oprs_v {l : List UInt8} (h : (prs l).2.2 = 0) (h1 : (prs l).1.2.1 ≠ 0) : oprs l = (zeroP, [], 14) := (if_pos h).trans (if_neg h1)
theorem oprs_f {l : List UInt8} (h : (prs l).2.2 = 0) (h1 : (prs l).1.2.1 = 0) (h2 : (prs l).2.1.length = 0 ∨ (prs l).2.1.length % 4 ≠ 0) : oprs l = (zeroP, [], 10) := (if_pos h).trans ((if_pos h1).trans (if_pos h2))
theorem oprs_ok {l : List UInt8} (h : (prs l).2.2 = 0) (h1 : (prs l).1.2.1 = 0) (h2 : ¬ ((prs l).2.1.length = 0 ∨ (prs l).2.1.length % 4 ≠ 0)) : oprs l = ((prs l).1, splV (prs l).2.1, 0) := (if_pos h).trans ((if_pos h1).trans (if_neg h2))
/-- Answer. -/
def answ (l : List UInt8) (f : UInt8) (vs : List Nat) : List UInt8 × Int :=
  if (prs l).2.2 = 0 then mkO f (prs l).1.2.2.2 (prs l).1.2.2.1 vs else ([], (prs l).2.2)
/-- Has. -/
def hasV (l : List UInt8) (v : Nat) : Bool := (oprs l).2.1.contains v
/-- An offer's bytes. -/
def offL (f : UInt8) (a b : List UInt8) (l : List Nat) : List UInt8 := rawP (f128 f, 0, a, b) ++ verL l
theorem off_good (f : UInt8) (a b : List UInt8) (ha : a.length ≤ 255) (hb : b.length ≤ 255) : Pgood (f128 f, 0, a, b) := ⟨f128_long f, Nat.zero_le _, ha, hb⟩
theorem mk_off (f : UInt8) (a b : List UInt8) (l : List Nat) (ha : a.length ≤ 255) (hb : b.length ≤ 255) (h1 : 1 ≤ l.length) (h2 : l.length ≤ 64) : mkO f a b l = (offL f a b l, 0) :=
  (if_neg (by omega)).trans (if_neg (by omega))
theorem off_len (f : UInt8) (a b : List UInt8) (l : List Nat) : (offL f a b l).length = 7 + a.length + b.length + 4 * l.length := by
  unfold offL
  rw [List.length_append, raw_len, verL_len]
theorem off_prs (f : UInt8) (a b : List UInt8) (l : List Nat) (ha : a.length ≤ 255) (hb : b.length ≤ 255) : prs (offL f a b l) = ((f128 f, 0, a, b), verL l, 0) := prs_raw _ (off_good f a b ha hb) _
theorem off_oprs (f : UInt8) (a b : List UInt8) (l : List Nat) (ha : a.length ≤ 255) (hb : b.length ≤ 255) (h1 : 1 ≤ l.length) (hl : ∀ x ∈ l, x ≤ 4294967295) : oprs (offL f a b l) = ((f128 f, 0, a, b), l, 0) := by
  have e := off_prs f a b l ha hb
  have el := verL_len l
  rw [oprs_ok (by rw [e]) (by rw [e]) (by rw [e]; simp only; omega), e]
  simp only
  rw [splV_ver l hl]
theorem off_cut (f : UInt8) (a b : List UInt8) (l : List Nat) (ha : a.length ≤ 255) (hb : b.length ≤ 255) (h1 : 1 ≤ l.length) : oprs ((offL f a b l).take ((offL f a b l).length - 1)) = (zeroP, [], 10) := by
  have el := verL_len l
  have er := raw_len (f128 f, 0, a, b)
  have e0 : (offL f a b l).take ((offL f a b l).length - 1) = rawP (f128 f, 0, a, b) ++ (verL l).take (4 * l.length - 1) := by
    rw [off_len]
    unfold offL
    simp only at er
    rw [List.take_append, List.take_of_length_le (by omega)]
    congr 2
    omega
  have e := prs_raw _ (off_good f a b ha hb) ((verL l).take (4 * l.length - 1))
  rw [e0]
  exact oprs_f (by rw [e]) (by rw [e]) (by rw [e]; simp only [List.length_take]; omega)
theorem off_answ (f g : UInt8) (a b : List UInt8) (l vs : List Nat) (ha : a.length ≤ 255) (hb : b.length ≤ 255) (h1 : 1 ≤ vs.length) (h2 : vs.length ≤ 64) : answ (offL f a b l) g vs = (offL g b a vs, 0) := by
  have e := off_prs f a b l ha hb
  unfold answ
  rw [if_pos (by rw [e]), e]
  exact mk_off g b a vs hb ha h1 h2
theorem has_off (f : UInt8) (a b : List UInt8) (l : List Nat) (v : Nat) (ha : a.length ≤ 255) (hb : b.length ≤ 255) (h1 : 1 ≤ l.length) (hl : ∀ x ∈ l, x ≤ 4294967295) : hasV (offL f a b l) v = l.contains v := by
  unfold hasV
  rw [off_oprs f a b l ha hb h1 hl]
theorem mk_cases (f : UInt8) (a b : List UInt8) (l : List Nat) : (l.length = 0 ∧ mkO f a b l = ([], 11)) ∨ (64 < l.length ∧ mkO f a b l = ([], 11)) ∨ (1 ≤ l.length ∧ l.length ≤ 64 ∧ (255 < a.length ∨ 255 < b.length) ∧ byt (f128 f, 0, a, b) = ([], 15) ∧ mkO f a b l = ([], 15)) ∨ (1 ≤ l.length ∧ l.length ≤ 64 ∧ byt (f128 f, 0, a, b) = (rawP (f128 f, 0, a, b), 0) ∧ mkO f a b l = (offL f a b l, 0) ∧ a.length ≤ 255 ∧ b.length ≤ 255) := by
  by_cases h0 : l.length = 0
  · exact .inl ⟨h0, if_pos (.inl h0)⟩
  by_cases h1 : 64 < l.length
  · exact .inr (.inl ⟨h1, if_pos (.inr h1)⟩)
  by_cases h2 : 255 < a.length ∨ 255 < b.length
  · exact .inr (.inr (.inl ⟨by omega, by omega, h2, byt_long _ (f128_long f) h2, (if_neg (by omega)).trans (if_pos h2)⟩))
  · exact .inr (.inr (.inr ⟨by omega, by omega, byt_ok _ (f128_long f) h2, (if_neg (by omega)).trans (if_neg h2), by omega, by omega⟩))
theorem prs_ids (l : List UInt8) : (prs l).1.2.2.1.length ≤ 255 ∧ (prs l).1.2.2.2.length ≤ 255 := by
  by_cases h : (prs l).2.2 = 0
  · exact ⟨(prs_back h).1.a, (prs_back h).1.b⟩
  · rw [(prs_err h).1]; exact ⟨Nat.zero_le _, Nat.zero_le _⟩
theorem prs_rest (l : List UInt8) : (prs l).2.1.length ≤ l.length := by
  by_cases h : (prs l).2.2 = 0
  · have e := congrArg List.length (prs_back h).2
    rw [List.length_append] at e
    omega
  · rw [(prs_err h).2]; exact Nat.zero_le _
end Go.Proofs.Ytppopdjfecabfaa
