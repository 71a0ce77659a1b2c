/- Layer 16, plain: configurations of ids, what they are written as, how an id's bytes are turned. Nothing is claimed of the program here. -/
import Derived.Test.YtkcchidklcnnnaaGreatFsP
import Derived.Test.YtkcchidklcnnnaaGreatRefAesAll
import Derived.Test.YtkcchidklcnnnaaGreatAesInvW
namespace Go.Proofs.YtkcchidklcnnnaaGreat
open Go.RowKit
set_option linter.unusedVariables false
set_option linter.unusedSimpArgs false
/-- A configuration: its mode, its lengths, its key. -/
structure Cfg where
  m : Int
  s : Int
  n : Int
  k : List UInt8
deriving DecidableEq
def zK : List UInt8 := List.replicate 16 0
def zeroC : Cfg := ⟨0, 0, 0, zK⟩
def Cfg.cells (c : Cfg) : List Value := .int .i64 c.m :: .int .i64 c.s :: .int .i64 c.n :: bvs c.k
def Cfg.val (c : Cfg) : Value := .agg c.cells.toArray
/-- Its numbers are words; its key has sixteen bytes. -/
structure Cfg.ok (c : Cfg) : Prop where
  k : c.k.length = 16
  m : -9223372036854775808 ≤ c.m ∧ c.m ≤ 9223372036854775807
  s : -9223372036854775808 ≤ c.s ∧ c.s ≤ 9223372036854775807
  n : -9223372036854775808 ≤ c.n ∧ c.n ≤ 9223372036854775807
theorem zeroC_ok : zeroC.ok := ⟨rfl, by decide, by decide, by decide⟩
theorem Cfg.cells_len {c : Cfg} (h : c.ok) : c.cells.length = 19 := by unfold Cfg.cells; simp [bvs_length, h.k]
/-- Is it valid? -/
def Rt (c : Cfg) : Prop := (0 ≤ c.m ∧ c.m ≤ 2) ∧ (1 ≤ c.s ∧ c.s ≤ 15) ∧ (4 ≤ c.n ∧ c.n ≤ 18) ∧ c.s + c.n ≤ 19 ∧ (c.m = 1 → c.s + c.n = 16) ∧ (c.m = 0 → c.k = zK)
instance (c : Cfg) : Decidable (Rt c) := by unfold Rt; exact inferInstance
def rtB (c : Cfg) : Bool := decide (Rt c)
theorem rt_of {c : Cfg} (h : rtB c = true) : Rt c := of_decide_eq_true h
theorem rt_unf {c : Cfg} (e : Rt c) : (0 ≤ c.m ∧ c.m ≤ 2) ∧ (1 ≤ c.s ∧ c.s ≤ 15) ∧ (4 ≤ c.n ∧ c.n ≤ 18) ∧ c.s + c.n ≤ 19 ∧ (c.m = 1 → c.s + c.n = 16) ∧ (c.m = 0 → c.k = zK) := e
theorem rt_iff {c : Cfg} : rtB c = true ↔ ((0 ≤ c.m ∧ c.m ≤ 2) ∧ (1 ≤ c.s ∧ c.s ≤ 15) ∧ (4 ≤ c.n ∧ c.n ≤ 18) ∧ c.s + c.n ≤ 19 ∧ (c.m = 1 → c.s + c.n = 16) ∧ (c.m = 0 → c.k = zK)) := decide_eq_true_iff
/-- How many bytes an id has. -/
def sizeC (c : Cfg) : Int := if rtB c then 1 + (c.s + c.n) else 0
/-- A configuration's bytes. -/
def b8 (z : Int) : UInt8 := UInt8.ofNat z.toNat
def rawC (c : Cfg) : List UInt8 := [b8 c.m, b8 c.s, b8 c.n, 0] ++ c.k
def bytC (c : Cfg) : List UInt8 := if rtB c then rawC c else []
/-- The configuration that twenty bytes and more begin with. -/
def headC (l : List UInt8) : Cfg := ⟨((l.getD 0 0).toNat : Int), ((l.getD 1 0).toNat : Int), ((l.getD 2 0).toNat : Int), (l.drop 4).take 16⟩
/-- Read's answer. -/
def readC (l : List UInt8) : Cfg × Int :=
  if l.length < 20 then (zeroC, 12) else if l.length = 20 ∧ l.getD 3 0 = 0 ∧ rtB (headC l) = true then (headC l, 0) else (zeroC, 10)
/-- An id's bytes, turned one way or the other. -/
def wayC (c : Cfg) (back : Bool) (l : List UInt8) : List UInt8 :=
  if c.m = 0 then l else if c.m = 1 then (if back then decL c.k tableL backL l else encL c.k tableL l)
  else (passesR (encL c.k tableL) l (if back then [4, 3, 2, 1] else [1, 2, 3, 4])).1
/-- Turn's and Back's answer. -/
def turnC (c : Cfg) (back : Bool) (l : List UInt8) : List UInt8 × Int :=
  if rtB c = false then ([], 19) else if (l.length : Int) = c.s + c.n then (wayC c back l, 0) else ([], 11)

section
variable {c d : Cfg} {l a b : List UInt8} {back : Bool}
theorem b8_nat {z : Int} (h0 : 0 ≤ z) (h1 : z ≤ 255) : ((b8 z).toNat : Int) = z := by
  unfold b8
  rw [UInt8.toNat_ofNat']
  omega
theorem size_no (h : rtB c = false) : sizeC c = 0 := by unfold sizeC; rw [h]; rfl
theorem size_ok (h : rtB c = true) : sizeC c = 1 + (c.s + c.n) := by unfold sizeC; rw [h]; rfl
theorem turn_state (h : rtB c = false) : turnC c back l = ([], 19) := by unfold turnC; rw [if_pos h]
theorem turn_range (h : rtB c = true) (hl : ¬ (l.length : Int) = c.s + c.n) : turnC c back l = ([], 11) := by unfold turnC; rw [h, if_neg (by decide), if_neg hl]
theorem turn_ok (h : rtB c = true) (hl : (l.length : Int) = c.s + c.n) : turnC c back l = (wayC c back l, 0) := by unfold turnC; rw [h, if_neg (by decide), if_pos hl]
theorem E_len (hk : c.k.length = 16) : ∀ b : List UInt8, b.length = 16 → (encL c.k tableL b).length = 16 := fun b hb => encL_len c.k tableL b hk hb
theorem ord_ok (back : Bool) : (if back then [4, 3, 2, 1] else [1, 2, 3, 4] : List Int).all okP = true := by cases back <;> decide
theorem ord_rev (back : Bool) : (if back then [4, 3, 2, 1] else [1, 2, 3, 4] : List Int).reverse = (if !back then [4, 3, 2, 1] else [1, 2, 3, 4]) := by cases back <;> rfl
theorem way_len (h : Rt c) (hk : c.k.length = 16) (hl : (l.length : Int) = c.s + c.n) : (wayC c back l).length = l.length := by
  obtain ⟨hm, hs, hn, hsn, h1, h0⟩ := h
  unfold wayC
  split
  · rfl
  · split
    · rename_i e
      have := h1 e
      have hl16 : l.length = 16 := by omega
      cases back
      · rw [if_neg (by decide), encL_len c.k tableL l hk hl16, hl16]
      · rw [if_pos rfl, decL_len c.k l hk hl16, hl16]
    · exact (passes_len (E := encL c.k tableL) (by omega) (by omega) (ord_ok back)).1
/-- What is turned one way is turned back the other way. -/
theorem way_back (h : Rt c) (hk : c.k.length = 16) (hl : (l.length : Int) = c.s + c.n) : wayC c (!back) (wayC c back l) = l := by
  obtain ⟨hm, hs, hn, hsn, h1, h0⟩ := h
  unfold wayC
  split
  · rfl
  · split
    · rename_i e
      have := h1 e
      have hl16 : l.length = 16 := by omega
      cases back
      · simp only [Bool.not_false, if_true, Bool.false_eq_true, if_false]; exact dec_enc c.k l hk hl16
      · simp only [Bool.not_true, if_true, Bool.false_eq_true, if_false]; exact enc_dec c.k l hk hl16
    · have := passes_back (E := encL c.k tableL) (E_len hk) l (if back then [4, 3, 2, 1] else [1, 2, 3, 4]) (by omega) (by omega) (ord_ok back)
      rw [ord_rev] at this
      rw [this]
theorem way_same (h : Rt c) (hk : c.k.length = 16) (ha : (a.length : Int) = c.s + c.n) (hb : (b.length : Int) = c.s + c.n) : (wayC c back a == wayC c back b) = (a == b) := by
  rw [Bool.eq_iff_iff, beq_iff_eq, beq_iff_eq]
  constructor
  · intro e
    rw [← way_back (back := back) h hk ha, e, way_back h hk hb]
  · rintro rfl; rfl
theorem way_plain (h : c.m = 0) : wayC c back l = l := by unfold wayC; rw [if_pos h]
theorem way_four (h : c.m = 2) : wayC c back l = (passesR (encL c.k tableL) l (if back then [4, 3, 2, 1] else [1, 2, 3, 4])).1 := by unfold wayC; rw [if_neg (by omega), if_neg (by omega)]
theorem four_ok (h : Rt c) (hl : (l.length : Int) = c.s + c.n) (back : Bool) : (passesR (encL c.k tableL) l (if back then [4, 3, 2, 1] else [1, 2, 3, 4])).2 = 0 := by
  obtain ⟨hm, hs, hn, hsn, h1, h0⟩ := h
  exact (passes_len (E := encL c.k tableL) (by omega) (by omega) (ord_ok back)).2
end
end Go.Proofs.YtkcchidklcnnnaaGreat
