/- Layer 8's rows and what is taken: vari.Take, vari.Row and the references' answer the same. Condition: the slices' cells are readable. -/
import Derived.Test.YtpkombfiejdflaaVari
namespace Go.Proofs.Ytpkombfiejdflaa
open Go.RowKit
set_option linter.unusedVariables false

/-- The class that bytes' first one tells. -/
def tkK : List UInt8 → Nat | [] => 0 | x :: _ => x.toNat / 64
def tkOk (l : List UInt8) : Bool := decide (0 < l.length ∧ sz (tkK l) ≤ l.length)
def tkV (l : List UInt8) : Nat := if tkOk l then numL (l.take (sz (tkK l))) % lim (tkK l) else 0
def tkN (l : List UInt8) : Nat := if tkOk l then sz (tkK l) else 0
def tkE (l : List UInt8) : Int := if tkOk l then 0 else 12
theorem tkK_le (l : List UInt8) : tkK l ≤ 3 := by
  cases l with
  | nil => simp [tkK]
  | cons x l => have := x.toNat_lt; show x.toNat / 64 ≤ 3; omega
theorem tkK_eq {l : List UInt8} {x : UInt8} (h : l[0]? = some x) : tkK l = x.toNat / 64 := by
  cases l with
  | nil => cases h
  | cons y l => rw [List.getElem?_cons_zero] at h; cases h; rfl
theorem and_mask (v k : Nat) (hk : k ≤ 3) (hv : v ≤ 18446744073709551615) : bits .and .u64 (v : Int) ((lim k - 1 : Nat) : Int) = ((v % lim k : Nat) : Int) := by
  have h := u64_and_nat v (lim k - 1) (by omega) (by have := lim_le k; omega)
  have e : v &&& (lim k - 1) = v % lim k := by
    rcases k with _ | _ | _ | _ | k
    · exact Nat.and_two_pow_sub_one_eq_mod v 6
    · exact Nat.and_two_pow_sub_one_eq_mod v 14
    · exact Nat.and_two_pow_sub_one_eq_mod v 30
    · exact Nat.and_two_pow_sub_one_eq_mod v 62
    · omega
  rw [e] at h
  exact h
theorem RB.front {w : World} {B n j : Nat} {A : Option Addr} {l : List UInt8} (h : RB w B A n l) (hj : j ≤ n) : RB w B A j (l.take j) := by
  refine ⟨by rw [List.length_take, h.1]; omega, fun hn => ?_⟩
  obtain ⟨b, o, e, hb, hc⟩ := h.2 (by omega)
  exact ⟨b, o, e, hb, fun i hi => by rw [List.getElem_take]; exact hc i (by rw [List.length_take] at hi; omega)⟩

/-- The slice value with address A and length n reads as the numbers l in the world w; its cells lie below block B. -/
def UL (w : World) (B : Nat) (A : Option Addr) (n : Nat) (l : List Nat) : Prop :=
  l.length = n ∧ (0 < n → ∃ b o, A = some ⟨b, o, none⟩ ∧ b < B ∧ ∀ i (h : i < l.length), w.cell? ⟨b, o + i, none⟩ = some (.int .u64 ((l[i] : Nat) : Int))) ∧ ∀ x ∈ l, x ≤ 18446744073709551615
section
variable {w w' : World} {B B' n : Nat} {A : Option Addr} {l : List Nat}
theorem UL.len (h : UL w B A n l) : l.length = n := h.1
theorem UL.at_ {k : Nat} (h : UL w B A n l) (hk : k < n) : ∃ b o, A = some ⟨b, o, none⟩ ∧ b < B ∧ ∃ x : Nat, l[k]? = some x ∧ x ≤ 18446744073709551615 ∧ w.cell? ⟨b, o + k, none⟩ = some (.int .u64 (x : Int)) := by
  obtain ⟨b, o, e, hb, hc⟩ := h.2.1 (by omega)
  have hl : k < l.length := by rw [h.1]; exact hk
  exact ⟨b, o, e, hb, l[k], List.getElem?_eq_getElem hl, h.2.2 _ (List.getElem_mem _), hc k hl⟩
theorem UL.below (h : UL w B A n l) (hb : Below B w w') : UL w' B A n l :=
  ⟨h.1, fun hn => by
    obtain ⟨b, o, e, hbb, hc⟩ := h.2.1 hn
    exact ⟨b, o, e, hbb, fun i hi => (hb.cell hbb).trans (hc i hi)⟩, h.2.2⟩
theorem UL.more (h : UL w B A n l) (hB : B ≤ B') : UL w B' A n l :=
  ⟨h.1, fun hn => by
    obtain ⟨b, o, e, hb, hc⟩ := h.2.1 hn
    exact ⟨b, o, e, by omega, hc⟩, h.2.2⟩
end
theorem UL.step {w w' : World} {n : Nat} {A : Option Addr} {l : List Nat} (h : UL w w.heap.size A n l) (hb : Below w.heap.size w w') : UL w' w'.heap.size A n l := (h.below hb).more hb.size
/-- A number as a cell. -/
def uv (x : Nat) : Value := .int .u64 (x : Int)
theorem UL.lit (w : World) (l : List Nat) (cs : Array Value) (n g : Nat) (e : TypeId) (hc : cs = (l.map uv).toArray) (hn : l.length = n) (hg : g = w.heap.size) (hl : ∀ x ∈ l, x ≤ 18446744073709551615) : UL (w.alloc (.cells cs e)) (w.alloc (.cells cs e)).heap.size (some ⟨g, 0, none⟩) n l := by
  subst hc
  subst hg
  refine ⟨hn, fun h0 => ⟨_, 0, rfl, by show w.heap.size < (w.heap.push _).size; rw [Array.size_push]; omega, fun i hi => ?_⟩, hl⟩
  rw [cell_of_row (w.alloc (.cells (l.map uv).toArray e)) w.heap.size (0 + i) _ e (0, 0) (heap_alloc_new w _)]
  simp [uv, hi]
/-- The least forms one behind the other. -/
def rowL (l : List Nat) : List UInt8 := (l.map leastL).flatten
def rowOk (l : List Nat) : Bool := l.all fun x => decide (clsL x ≤ 3)
theorem rowL_snoc (l : List Nat) (x : Nat) : rowL (l ++ [x]) = rowL l ++ leastL x := by simp [rowL]
theorem rowL_le (l : List Nat) : (rowL l).length ≤ 8 * l.length := by
  induction l with
  | nil => simp [rowL]
  | cons x l ih =>
    have : rowL (x :: l) = leastL x ++ rowL l := by simp [rowL]
    rw [this, List.length_append, leastL_len, List.length_cons]
    have := sz_le (clsL x)
    omega
theorem takeN_snoc {l : List Nat} {k x : Nat} (h : l[k]? = some x) : l.take (k + 1) = l.take k ++ [x] := by
  rw [List.take_add_one, h]; rfl
theorem rowOk_all {l : List Nat} (h : ∀ x ∈ l, clsL x ≤ 3) : rowOk l = true := by unfold rowOk; rw [List.all_eq_true]; intro x hx; exact decide_eq_true (h x hx)
theorem rowOk_not {l : List Nat} {k x : Nat} (h : l[k]? = some x) (hx : ¬ clsL x ≤ 3) : rowOk l = false := by
  rw [Bool.eq_false_iff]
  intro e
  unfold rowOk at e
  rw [List.all_eq_true] at e
  exact hx (of_decide_eq_true (e x (List.mem_of_getElem? h)))
def rowR (l : List Nat) : List UInt8 := if rowOk l then rowL l else []
def rowC (l : List Nat) : Int := if rowOk l then 0 else 11

end Go.Proofs.Ytpkombfiejdflaa
