/- Layer 8's numbers: a number's forms and their sizes, and what vari's functions and the references' answer of them. Condition: the slices' cells are readable. -/
import Derived.Test.YtppopdjfecabfaaOctAll
namespace Go.Proofs.Ytppopdjfecabfaa
open Go.RowKit
set_option linter.unusedVariables false

/-- What the form of the class k cannot have. -/
def lim : Nat → Nat | 0 => 64 | 1 => 16384 | 2 => 1073741824 | _ => 4611686018427387904
/-- The class of a number's least form; 4: there is none. -/
def clsL (n : Nat) : Nat := if n < 64 then 0 else if n < 16384 then 1 else if n < 1073741824 then 2 else if n < 4611686018427387904 then 3 else 4
/-- A class's bytes. -/
def sz : Nat → Nat | 0 => 1 | 1 => 2 | 2 => 4 | 3 => 8 | _ => 0
/-- A number's form of the class k. -/
def formL (n k : Nat) : List UInt8 := putL (k * lim k + n) (sz k)
theorem clsL_le (n : Nat) : clsL n ≤ 4 := by unfold clsL; (repeat' split) <;> omega
theorem clsL_lt {n k : Nat} (h : k < clsL n) : ¬ n < lim k := by
  have := clsL_le n
  rcases k with _ | _ | _ | _ | k <;> unfold clsL at h <;> simp only [lim] <;> (try omega) <;> (repeat' split at h) <;> omega
theorem clsL_fit {n k : Nat} (h : clsL n = k) (hk : k ≤ 3) : n < lim k := by
  rcases k with _ | _ | _ | _ | k <;> unfold clsL at h <;> simp only [lim] <;> (try omega) <;> (repeat' split at h) <;> omega
theorem clsL_four {n : Nat} : clsL n = 4 ↔ 4611686018427387904 ≤ n := by
  unfold clsL; constructor <;> intro h <;> (repeat' split at h) <;> (repeat' split) <;> omega
theorem lim_mono {a b : Nat} (h : a ≤ b) (hb : b ≤ 3) : lim a ≤ lim b := by
  rcases a with _ | _ | _ | _ | a <;> rcases b with _ | _ | _ | _ | b <;> simp only [lim] <;> omega
theorem clsL_of_fit {n k : Nat} (hk : k ≤ 3) (h : n < lim k) : clsL n ≤ k := by
  rcases Nat.lt_or_ge k (clsL n) with h2 | h2
  · exact absurd h (clsL_lt h2)
  · exact h2
theorem formL_len (n k : Nat) : (formL n k).length = sz k := putL_len _ _
theorem down_form {n k : Nat} (hk : k ≤ 3) (h : n < lim k) : downL (k * lim k + n) (sz k) = 0 := by
  rcases k with _ | _ | _ | _ | k <;> simp only [lim] at h <;> simp only [sz, lim, downL] <;> omega
theorem down_fit {n k : Nat} (hk : k ≤ 3) (h : n < lim k) : downL n (sz k) = 0 := by
  rcases k with _ | _ | _ | _ | k <;> simp only [lim] at h <;> simp only [sz, downL] <;> omega
theorem num_putV : ∀ (k n : Nat), numL (putL n k) + 256 ^ k * downL n k = n
  | 0, n => by simp [putL, numL, downL]
  | k + 1, n => by
    have ih := num_putV k (n / 256)
    rw [putL, numL_snoc, ← downL_comm]
    have e : (UInt8.ofNat n).toNat = n % 256 := by simp
    rw [e, Nat.pow_succ]
    have h2 : 256 ^ k * 256 * downL (n / 256) k = 256 * (256 ^ k * downL (n / 256) k) := by rw [Nat.mul_comm (256 ^ k) 256, Nat.mul_assoc]
    rw [h2]
    omega
theorem num_form {n k : Nat} (hk : k ≤ 3) (h : n < lim k) : numL (formL n k) = k * lim k + n := by
  have := num_putV (sz k) (k * lim k + n)
  rw [down_form hk h] at this
  unfold formL
  omega
/-- The first byte of a form: what octet.Put gave, and the class's bits. -/
theorem form_set {n k : Nat} (hk : k ≤ 3) (h : n < lim k) : ∃ x : UInt8, (putL n (sz k))[0]? = some x ∧ x.toNat < 64 ∧ formL n k = (putL n (sz k)).set 0 (UInt8.ofNat (k * 64 + x.toNat)) := by
  rcases k with _ | _ | _ | _ | k
  · simp only [lim] at h
    refine ⟨UInt8.ofNat n, rfl, by simp; omega, ?_⟩
    simp only [formL, sz, putL, lim, List.nil_append, List.set_cons_zero, List.cons.injEq, and_true]
    simp only [← UInt8.toNat_inj, UInt8.toNat_ofNat']
    omega
  · simp only [lim] at h
    refine ⟨UInt8.ofNat (n / 256), rfl, by simp; omega, ?_⟩
    simp only [formL, sz, putL, lim, List.nil_append, List.cons_append, List.set_cons_zero, List.cons.injEq, and_true]
    simp only [← UInt8.toNat_inj, UInt8.toNat_ofNat']
    omega
  · simp only [lim] at h
    refine ⟨UInt8.ofNat (n / 256 / 256 / 256), rfl, by simp; omega, ?_⟩
    simp only [formL, sz, putL, lim, List.nil_append, List.cons_append, List.set_cons_zero, List.cons.injEq, and_true]
    simp only [← UInt8.toNat_inj, UInt8.toNat_ofNat']
    omega
  · simp only [lim] at h
    refine ⟨UInt8.ofNat (n / 256 / 256 / 256 / 256 / 256 / 256 / 256), rfl, by simp; omega, ?_⟩
    simp only [formL, sz, putL, lim, List.nil_append, List.cons_append, List.set_cons_zero, List.cons.injEq, and_true]
    simp only [← UInt8.toNat_inj, UInt8.toNat_ofNat']
    omega
  · omega

theorem lim_pos (k : Nat) : 1 ≤ lim k := by rcases k with _ | _ | _ | k <;> simp [lim]
theorem lim_le (k : Nat) : lim k ≤ 4611686018427387904 := by rcases k with _ | _ | _ | k <;> simp [lim]
theorem or_topv (x : UInt8) (k : Nat) (hx : x.toNat < 64) (hk : k ≤ 3) : Value.int .u8 (bits .or .u8 (x.toNat : Int) ((k : Int) * 64)) = bv (UInt8.ofNat (k * 64 + x.toNat)) := by
  have h : ∀ (a : Fin 64) (b : Fin 4), bits .or .u8 ((a.val : Nat) : Int) ((b.val : Int) * 64) = ((b.val * 64 + a.val : Nat) : Int) := by decide +kernel
  have := h ⟨x.toNat, hx⟩ ⟨k, by omega⟩
  unfold bv
  congr 1
  refine this.trans ?_
  simp
  omega
theorem pow_named (k : Nat) (hk : k ≤ 3) : ∃ P : Nat, (2 : Int) ^ k = (P : Int) ∧ P = sz k ∧ 1 ≤ P ∧ P ≤ 8 := by
  rcases k with _ | _ | _ | _ | k
  · exact ⟨1, rfl, rfl, by omega, by omega⟩
  · exact ⟨2, rfl, rfl, by omega, by omega⟩
  · exact ⟨4, rfl, rfl, by omega, by omega⟩
  · exact ⟨8, rfl, rfl, by omega, by omega⟩
  · omega
theorem sz_lt {a b : Nat} (h : a < b) (hb : b ≤ 3) : sz a < sz b := by
  rcases a with _ | _ | _ | _ | a <;> rcases b with _ | _ | _ | _ | b <;> simp only [sz] <;> omega

/-- The references' limit of a size. -/
def limZ (z : Int) : Nat := if z = 1 then 64 else if z = 2 then 16384 else if z = 4 then 1073741824 else if z = 8 then 4611686018427387904 else 0
theorem limZ_sz (k : Nat) (hk : k ≤ 3) : limZ (sz k : Int) = lim k := by
  rcases k with _ | _ | _ | _ | k
  · rfl
  · rfl
  · rfl
  · rfl
  · omega
theorem limZ_bad {n : Nat} {z : Int} (hz : ∀ k, k ≤ 3 → z = (sz k : Int) → ¬ n < lim k) : ¬ n < limZ z := by
  unfold limZ
  split
  · exact hz 0 (by omega) (by assumption)
  · split
    · exact hz 1 (by omega) (by assumption)
    · split
      · exact hz 2 (by omega) (by assumption)
      · split
        · exact hz 3 (by omega) (by assumption)
        · omega
theorem limZ_le (z : Int) : limZ z ≤ 4611686018427387904 := by unfold limZ; (repeat' split) <;> omega
/-- The least form's bytes; none where there is none. -/
def leastL (n : Nat) : List UInt8 := if clsL n ≤ 3 then formL n (clsL n) else []
def codeL (n : Nat) : Int := if clsL n ≤ 3 then 0 else 11
theorem leastL_len (n : Nat) : (leastL n).length = sz (clsL n) := by
  unfold leastL
  split
  · exact formL_len _ _
  · have := clsL_le n
    rw [show clsL n = 4 from by omega]
    rfl
theorem sz_le (k : Nat) : sz k ≤ 8 := by rcases k with _ | _ | _ | _ | k <;> simp [sz]
end Go.Proofs.Ytppopdjfecabfaa

/- Layer 8's rows and what is taken: vari.Take, vari.Row and the references' answer the same. Condition: the slices' cells are readable. -/
namespace Go.Proofs.Ytppopdjfecabfaa
open Go.RowKit
set_option linter.unusedVariables false

/-- The class that bytes' first one tells. -/
def tkK : List UInt8 → Nat | [] => 0 | x :: _ => x.toNat / 64
def tkOk (l : List UInt8) : Bool := decide (0 < l.length ∧ sz (tkK l) ≤ l.length)
def tkV (l : List UInt8) : Nat := if tkOk l then numL (l.take (sz (tkK l))) % lim (tkK l) else 0
def tkN (l : List UInt8) : Nat := if tkOk l then sz (tkK l) else 0
def tkE (l : List UInt8) : Int := if tkOk l then 0 else 12
theorem tkK_le (l : List UInt8) : tkK l ≤ 3 := by
  cases l with
  | nil => simp [tkK]
  | cons x l => have := x.toNat_lt; show x.toNat / 64 ≤ 3; omega
theorem tkK_eq {l : List UInt8} {x : UInt8} (h : l[0]? = some x) : tkK l = x.toNat / 64 := by
  cases l with
  | nil => cases h
  | cons y l => rw [List.getElem?_cons_zero] at h; cases h; rfl
theorem and_mask (v k : Nat) (hk : k ≤ 3) (hv : v ≤ 18446744073709551615) : bits .and .u64 (v : Int) ((lim k - 1 : Nat) : Int) = ((v % lim k : Nat) : Int) := by
  have h := u64_and_nat v (lim k - 1) (by omega) (by have := lim_le k; omega)
  have e : v &&& (lim k - 1) = v % lim k := by
    rcases k with _ | _ | _ | _ | k
    · exact Nat.and_two_pow_sub_one_eq_mod v 6
    · exact Nat.and_two_pow_sub_one_eq_mod v 14
    · exact Nat.and_two_pow_sub_one_eq_mod v 30
    · exact Nat.and_two_pow_sub_one_eq_mod v 62
    · omega
  rw [e] at h
  exact h
/-- The slice value with address A and length n reads as the numbers l in the world w; its cells lie below block B. -/
def UL (w : World) (B : Nat) (A : Option Addr) (n : Nat) (l : List Nat) : Prop :=
  l.length = n ∧ (0 < n → ∃ b o, A = some ⟨b, o, none⟩ ∧ b < B ∧ ∀ i (h : i < l.length), w.cell? ⟨b, o + i, none⟩ = some (.int .u64 ((l[i] : Nat) : Int))) ∧ ∀ x ∈ l, x ≤ 18446744073709551615
section
variable {w w' : World} {B B' n : Nat} {A : Option Addr} {l : List Nat}
theorem UL.len (h : UL w B A n l) : l.length = n := h.1
theorem UL.at_ {k : Nat} (h : UL w B A n l) (hk : k < n) : ∃ b o, A = some ⟨b, o, none⟩ ∧ b < B ∧ ∃ x : Nat, l[k]? = some x ∧ x ≤ 18446744073709551615 ∧ w.cell? ⟨b, o + k, none⟩ = some (.int .u64 (x : Int)) := by
  obtain ⟨b, o, e, hb, hc⟩ := h.2.1 (by omega)
  have hl : k < l.length := by rw [h.1]; exact hk
  exact ⟨b, o, e, hb, l[k], List.getElem?_eq_getElem hl, h.2.2 _ (List.getElem_mem _), hc k hl⟩
theorem UL.below (h : UL w B A n l) (hb : Below B w w') : UL w' B A n l :=
  ⟨h.1, fun hn => by
    obtain ⟨b, o, e, hbb, hc⟩ := h.2.1 hn
    exact ⟨b, o, e, hbb, fun i hi => (hb.cell hbb).trans (hc i hi)⟩, h.2.2⟩
theorem UL.more (h : UL w B A n l) (hB : B ≤ B') : UL w B' A n l :=
  ⟨h.1, fun hn => by
    obtain ⟨b, o, e, hb, hc⟩ := h.2.1 hn
    exact ⟨b, o, e, by omega, hc⟩, h.2.2⟩
end
theorem UL.step {w w' : World} {n : Nat} {A : Option Addr} {l : List Nat} (h : UL w w.heap.size A n l) (hb : Below w.heap.size w w') : UL w' w'.heap.size A n l := (h.below hb).more hb.size
/-- A number as a cell. -/
def uv (x : Nat) : Value := .int .u64 (x : Int)
theorem UL.lit (w : World) (l : List Nat) (cs : Array Value) (n g : Nat) (e : TypeId) (hc : cs = (l.map uv).toArray) (hn : l.length = n) (hg : g = w.heap.size) (hl : ∀ x ∈ l, x ≤ 18446744073709551615) : UL (w.alloc (.cells cs e)) (w.alloc (.cells cs e)).heap.size (some ⟨g, 0, none⟩) n l := by
  subst hc
  subst hg
  refine ⟨hn, fun h0 => ⟨_, 0, rfl, by show w.heap.size < (w.heap.push _).size; rw [Array.size_push]; omega, fun i hi => ?_⟩, hl⟩
  rw [cell_of_row (w.alloc (.cells (l.map uv).toArray e)) w.heap.size (0 + i) _ e (0, 0) (heap_alloc_new w _)]
  simp [uv, hi]
/-- The least forms one behind the other. -/
def rowL (l : List Nat) : List UInt8 := (l.map leastL).flatten
def rowOk (l : List Nat) : Bool := l.all fun x => decide (clsL x ≤ 3)
theorem rowL_snoc (l : List Nat) (x : Nat) : rowL (l ++ [x]) = rowL l ++ leastL x := by simp [rowL]
theorem rowL_le (l : List Nat) : (rowL l).length ≤ 8 * l.length := by
  induction l with
  | nil => simp [rowL]
  | cons x l ih =>
    have : rowL (x :: l) = leastL x ++ rowL l := by simp [rowL]
    rw [this, List.length_append, leastL_len, List.length_cons]
    have := sz_le (clsL x)
    omega
theorem takeN_snoc {l : List Nat} {k x : Nat} (h : l[k]? = some x) : l.take (k + 1) = l.take k ++ [x] := by
  rw [List.take_add_one, h]; rfl
theorem rowOk_all {l : List Nat} (h : ∀ x ∈ l, clsL x ≤ 3) : rowOk l = true := by unfold rowOk; rw [List.all_eq_true]; intro x hx; exact decide_eq_true (h x hx)
theorem rowOk_not {l : List Nat} {k x : Nat} (h : l[k]? = some x) (hx : ¬ clsL x ≤ 3) : rowOk l = false := by
  rw [Bool.eq_false_iff]
  intro e
  unfold rowOk at e
  rw [List.all_eq_true] at e
  exact hx (of_decide_eq_true (e x (List.mem_of_getElem? h)))
def rowR (l : List Nat) : List UInt8 := if rowOk l then rowL l else []
def rowC (l : List Nat) : Int := if rowOk l then 0 else 11

end Go.Proofs.Ytppopdjfecabfaa

