/- Arguments that come in as data, opened into what the walks ask: elements, and slices of them. Nothing is claimed of the program here. -/
import Derived.Test.YtilpdojliaiokaaOpen
import Derived.Test.YtilpdojliaiokaaPolySum
import Derived.Lib.SmallJoins
import Derived.Deep.SlicePairs
namespace Go.Proofs.Ytilpdojliaiokaa
open Go.ChangeShapes Go.WideShapes Go.ChangeAt Go.RowKit Go.Joins Go.Deep
set_option linter.unusedVariables false

theorem pe_of (a b : Int) (ha : (Lit.int .u64 a).wf = true) (hb : (Lit.int .u64 b).wf = true) : ∃ x : Nat, x < 2 ^ 128 ∧ PE x = .agg #[.int .u64 a, .int .u64 b] ∧ a = ((x / 2 ^ 64 : Nat) : Int) ∧ b = ((x % 2 ^ 64 : Nat) : Int) := by
  have h1 : 0 ≤ a ∧ a ≤ 18446744073709551615 := bounds_u64 ha
  have h2 : 0 ≤ b ∧ b ≤ 18446744073709551615 := bounds_u64 hb
  have e1 : ((a.toNat * 2 ^ 64 + b.toNat) / 2 ^ 64 : Nat) = a.toNat := by omega
  have e2 : ((a.toNat * 2 ^ 64 + b.toNat) % 2 ^ 64 : Nat) = b.toNat := by omega
  have q1 : ((a.toNat : Nat) : Int) = a := Int.toNat_of_nonneg h1.1
  have q2 : ((b.toNat : Nat) : Int) = b := Int.toNat_of_nonneg h2.1
  refine ⟨a.toNat * 2 ^ 64 + b.toNat, by omega, ?_, by rw [e1, q1], by rw [e2, q2]⟩
  unfold PE EV
  rw [e1, e2, q1, q2]
set_option maxRecDepth 100000 in
/-- An element that came in. -/
theorem open_elem {H : Type} {enc : TypeId × Value → H} {w : World} {r : Reach} {b0 base : Nat} {sp : Nat → Bool} {held : Bool} {v : Value} {d : DataW H} {p : List MemPlace}
    (hv : Value.okWide Try.prog w r b0 36 v) (h : DataW.Trod enc Try.prog w base sp held 36 v d p) : ∃ x : Nat, x < 2 ^ 128 ∧ v = PE x := by
  obtain ⟨v0, v1, y0, y1, n, rfl, _, _, h0, h1⟩ := open_agg2 Try.underlying36 (by kernel_rfl) (by kernel_rfl) hv h
  obtain ⟨a, ha, _, wa⟩ := DataW.trod_int Try.underlying34 h0
  obtain ⟨b, hb, _, wb⟩ := DataW.trod_int Try.underlying34 h1
  injection ha with ha _
  injection hb with hb _
  subst ha hb
  obtain ⟨x, hx, e, _⟩ := pe_of a b wa wb
  exact ⟨x, hx, e.symm⟩
set_option maxRecDepth 100000 in
/-- A slice of elements that came in. -/
theorem open_elems {H : Type} {enc : TypeId × Value → H} {w : World} {f : Nat} {a : Option Addr} {len cap : Nat} {d : DataW H} {p : List MemPlace}
    (hf : DataW.trod enc Try.prog w 0 (fun _ => true) true f 29 (Value.slice a len cap).cells.toList = some (d, p)) : (∃ xs, XE w w.heap.size a len xs) ∧ len ≤ cap ∧ cap ≤ maxLen := by
  rcases open_slice_pairs Try.underlying29 Try.underlying36 (by kernel_rfl) rfl rfl (by kernel_rfl) (by kernel_rfl) hf with ⟨hcs, _⟩ | ⟨x, l, c, m, n, V0, V1, D0, D1, P0, P1, hcs, _, hl, hm, hmm, _, hx⟩
  · simp [Value.cells] at hcs
    obtain ⟨rfl, rfl, rfl⟩ := hcs
    exact ⟨⟨[], rfl, fun i x h => by simp at h, fun h => absurd h (by omega)⟩, Nat.le_refl _, Nat.zero_le _⟩
  · simp [Value.cells] at hcs
    obtain ⟨rfl, rfl, rfl⟩ := hcs
    refine ⟨?_, hl, hm⟩
    simp only [if_true] at hmm
    subst hmm
    obtain ⟨g, hg⟩ := Deep.choose_lt (n := len) (p := fun i (r : Nat) => r < 2 ^ 128 ∧ w.cell? (x.add (i * 2)) = some (.int .u64 ((r / 2 ^ 64 : Nat) : Int)) ∧ w.cell? (x.add (i * 2 + 1)) = some (.int .u64 ((r % 2 ^ 64 : Nat) : Int))) (fun i hi => by
      obtain ⟨h1, h2, h3, h4⟩ := hx i (by omega)
      obtain ⟨a, ha, _, wa⟩ := DataW.trod_int Try.underlying34 h3
      obtain ⟨b, hb, _, wb⟩ := DataW.trod_int Try.underlying34 h4
      injection ha with ha _
      injection hb with hb _
      rw [ha] at h1
      rw [hb] at h2
      obtain ⟨r, hr, _, e1, e2⟩ := pe_of a b wa wb
      exact ⟨r, hr, by rw [← e1]; exact h1, by rw [← e2]; exact h2⟩)
    rcases Nat.eq_zero_or_pos len with h0 | h0
    · subst h0; exact ⟨[], rfl, fun i x h => by simp at h, fun h => absurd h (by omega)⟩
    · obtain ⟨b, off, spot⟩ := x
      have hc := (hg 0 h0).2.1
      have hspot : spot = none := by simpa [Addr.add] using World.cell?_spot hc
      subst hspot
      have hb : b < w.heap.size := World.block_lt_of_cell? w _ hc
      have hadd : ∀ i, (⟨b, off, none⟩ : Addr).add i = ⟨b, off + i, none⟩ := fun i => by unfold Addr.add; split <;> simp_all
      have hat : ∀ i y, ((List.range len).map g)[i]? = some y → i < len ∧ y = g i := fun i y h => by
        rw [List.getElem?_map, Option.map_eq_some_iff] at h
        obtain ⟨j, hj, rfl⟩ := h
        have hjl := (List.getElem?_eq_some_iff.1 hj).1
        rw [List.length_range] at hjl
        rw [List.getElem?_range hjl] at hj
        injection hj with hj
        exact ⟨hjl, by rw [hj]⟩
      refine ⟨(List.range len).map g, by simp, fun i y h => ?_, fun _ => ⟨b, off, rfl, hb, fun i y h => ?_⟩⟩
      · obtain ⟨hi, rfl⟩ := hat i y h
        exact (hg i hi).1
      · obtain ⟨hi, rfl⟩ := hat i y h
        obtain ⟨_, k1, k2⟩ := hg i hi
        rw [hadd] at k1 k2
        intro j v hv
        match j, hv with
        | 0, hv => injection hv with hv; rw [← hv]; exact k1
        | 1, hv => injection hv with hv; rw [← hv, Nat.add_assoc]; exact k2
        | j + 2, hv => simp [es] at hv
end Go.Proofs.Ytilpdojliaiokaa
