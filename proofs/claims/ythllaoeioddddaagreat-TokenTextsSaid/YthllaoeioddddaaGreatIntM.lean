/- Ints in memory: rows that come in, rows that a call makes. Nothing is claimed of the program here. -/
import Derived.Test.YthllaoeioddddaaGreatBytes
namespace Go.Proofs.YthllaoeioddddaaGreat
open Go.RowKit
set_option linter.unusedVariables false
set_option linter.unusedSimpArgs false

/-- An int as a cell. -/
def zv (x : Int) : Value := .int .i64 x
def zvs (l : List Int) : List Value := l.map zv
/-- The slice value with address A and length n reads as the ints l in the world w; its cells lie below block B. -/
def ZL (w : World) (B : Nat) (A : Option Addr) (n : Nat) (l : List Int) : Prop :=
  l.length = n ∧ (0 < n → ∃ b o, A = some ⟨b, o, none⟩ ∧ b < B ∧ ∀ i (h : i < l.length), w.cell? ⟨b, o + i, none⟩ = some (.int .i64 l[i])) ∧ ∀ x ∈ l, -9223372036854775808 ≤ x ∧ x ≤ 9223372036854775807
section
variable {w w' : World} {B B' n : Nat} {A : Option Addr} {l : List Int}
theorem ZL.len (h : ZL w B A n l) : l.length = n := h.1
theorem ZL.nil_ : ZL w B A 0 [] := ⟨rfl, fun h => absurd h (by omega), by simp⟩
theorem ZL.at_ {k : Nat} (h : ZL w B A n l) (hk : k < n) : ∃ b o, A = some ⟨b, o, none⟩ ∧ b < B ∧ ∃ x : Int, l[k]? = some x ∧ (-9223372036854775808 ≤ x ∧ x ≤ 9223372036854775807) ∧ w.cell? ⟨b, o + k, none⟩ = some (.int .i64 x) := by
  obtain ⟨b, o, e, hb, hc⟩ := h.2.1 (by omega)
  have hl : k < l.length := by rw [h.1]; exact hk
  exact ⟨b, o, e, hb, l[k], List.getElem?_eq_getElem hl, h.2.2 _ (List.getElem_mem _), hc k hl⟩
theorem ZL.below (h : ZL w B A n l) (hb : Below B w w') : ZL w' B A n l :=
  ⟨h.1, fun hn => by
    obtain ⟨b, o, e, hbb, hc⟩ := h.2.1 hn
    exact ⟨b, o, e, hbb, fun i hi => (hb.cell hbb).trans (hc i hi)⟩, h.2.2⟩
theorem ZL.more (h : ZL w B A n l) (hB : B ≤ B') : ZL w B' A n l :=
  ⟨h.1, fun hn => by
    obtain ⟨b, o, e, hb, hc⟩ := h.2.1 hn
    exact ⟨b, o, e, by omega, hc⟩, h.2.2⟩
theorem ZL.step (h : ZL w w.heap.size A n l) (hb : Below w.heap.size w w') : ZL w' w'.heap.size A n l := (h.below hb).more hb.size
end
theorem ZL.lit (w : World) (l : List Int) (cs : Array Value) (n g : Nat) (e : TypeId) (hc : cs = (zvs l).toArray) (hn : l.length = n) (hg : g = w.heap.size) (hl : ∀ x ∈ l, -9223372036854775808 ≤ x ∧ x ≤ 9223372036854775807) : ZL (w.alloc (.cells cs e)) (w.alloc (.cells cs e)).heap.size (some ⟨g, 0, none⟩) n l := by
  subst hc
  subst hg
  refine ⟨hn, fun h0 => ⟨_, 0, rfl, by show w.heap.size < (w.heap.push _).size; rw [Array.size_push]; omega, fun i hi => ?_⟩, hl⟩
  rw [cell_of_row (w.alloc (.cells (zvs l).toArray e)) w.heap.size (0 + i) _ e (0, 0) (heap_alloc_new w _)]
  simp [zvs, zv, hi]
/-- The slice value (A, n, c) owns the ints l: it is nil and empty, or begins a row that the call made (block base or later). -/
def OwnZ (w : World) (base : Nat) (A : Option Addr) (n c : Nat) (l : List Int) : Prop := w.ownsRow base 3 1 (.slice A n c) n (zvs l) ∧ ∀ x ∈ l, -9223372036854775808 ≤ x ∧ x ≤ 9223372036854775807
section
variable {w w' : World} {base n c : Nat} {A : Option Addr} {l : List Int}
theorem OwnZ.zl (h : OwnZ w base A n c l) : ZL w w.heap.size A n l := by
  have h1 := h.1
  have hl : l.length = n := by have := h1.1; simpa [zvs] using this
  refine ⟨hl, fun hn => ?_, h.2⟩
  rcases h1.2 with ⟨_, h0⟩ | ⟨g, cap, cur, hv, hbg, hh, _⟩
  · omega
  · have hA : A = some ⟨g, 0, none⟩ := by injection hv
    subst hA
    refine ⟨g, 0, rfl, (Array.getElem?_eq_some_iff.1 hh).1, fun i hi => ?_⟩
    have := h1.cells (g := g) rfl i (zv l[i]) (by simp [zvs, List.getElem?_eq_getElem hi])
    have hadd : (⟨g, 0, none⟩ : Addr).add i = ⟨g, 0 + i, none⟩ := by unfold Addr.add; split <;> simp_all
    rw [hadd] at this
    exact this
theorem OwnZ.len (h : OwnZ w base A n c l) : l.length = n := h.zl.len
theorem OwnZ.cap (h : OwnZ w base A n c l) : n ≤ c ∧ c ≤ maxLen := by
  rcases h.1.2 with ⟨hv, h0⟩ | ⟨g, cap, cur, hv, _, _, hnc, hcm, _⟩
  · injection hv with _ _ hc; subst hc; subst h0; exact ⟨Nat.le_refl _, Nat.zero_le _⟩
  · injection hv with _ _ hc; subst hc; exact ⟨hnc, hcm⟩
theorem OwnZ.nil_ (w : World) (base : Nat) : OwnZ w base none 0 0 [] := ⟨World.ownsRow_nil w base _ 1, by simp⟩
theorem OwnZ.base_le {base' : Nat} (h : OwnZ w base A n c l) (hb : base' ≤ base) : OwnZ w base' A n c l := by
  refine ⟨⟨h.1.1, ?_⟩, h.2⟩
  rcases h.1.2 with h0 | ⟨g, cap, cur, hv, hbg, r⟩
  · exact .inl h0
  · exact .inr ⟨g, cap, cur, hv, by omega, r⟩
theorem OwnZ.below (h : OwnZ w base A n c l) (hb : Below w.heap.size w w') : OwnZ w' base A n c l := by
  refine ⟨⟨h.1.1, ?_⟩, h.2⟩
  rcases h.1.2 with h0 | ⟨g, cap, cur, hv, hbg, hh, r⟩
  · exact .inl h0
  · exact .inr ⟨g, cap, cur, hv, hbg, (hb.block g (Array.getElem?_eq_some_iff.1 hh).1).trans hh, r⟩
theorem OwnZ.lit (w : World) (base : Nat) (l : List Int) (cs : Array Value) (n : Nat) (hc : cs = (zvs l).toArray) (hn : l.length = n) (hm : n ≤ maxLen) (hb : base ≤ w.heap.size) (hl : ∀ x ∈ l, -9223372036854775808 ≤ x ∧ x ≤ 9223372036854775807) :
    OwnZ (w.alloc (.cells cs 3)) base (some ⟨w.heap.size, 0, none⟩) n n l := by
  subst hc
  have := World.ownsRow_lit (size := 1) (base := base) (e := 3) w (zvs l).toArray n hb hm (by simp [zvs, hn])
  exact ⟨by simpa using this, hl⟩
end
theorem OwnZ.drew {w : World} {base n c : Nat} {A : Option Addr} {l : List Int} (h : OwnZ w base A n c l) : OwnZ w.drew base A n c l := h
theorem ZL.drew {w : World} {B n : Nat} {A : Option Addr} {l : List Int} (h : ZL w B A n l) : ZL w.drew B A n l := h
theorem OwnZ.alloc {w : World} {base n c : Nat} {A : Option Addr} {l : List Int} (h : OwnZ w base A n c l) (o : Obj) : OwnZ (w.alloc o) base A n c l := ⟨World.ownsRow.alloc h.1 o, h.2⟩
end Go.Proofs.YthllaoeioddddaaGreat
