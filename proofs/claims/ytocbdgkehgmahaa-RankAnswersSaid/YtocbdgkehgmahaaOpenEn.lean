/- Layer 23's entries that come in as data, opened into what the walks ask. Nothing is claimed of the program here. -/
import Derived.Test.YtocbdgkehgmahaaOpen
import Derived.Test.YtocbdgkehgmahaaRkM
import Derived.Deep.SlicePairs
import Derived.Lib.SmallJoins
import Derived.Deep.MidRow
namespace Go.Proofs.Ytocbdgkehgmahaa
open Go.ChangeShapes Go.WideShapes Go.ChangeAt Go.RowKit Go.Joins Go.Deep
set_option linter.unusedVariables false
theorem i64_ofE {z : Int} (h : (Lit.int .i64 z).wf = true) : I64e z := bounds_i64 h
theorem map_range_atE {α : Type} {len : Nat} {g : Nat → α} {i : Nat} {y : α} (h : ((List.range len).map g)[i]? = some y) : i < len ∧ y = g i := by
  rw [List.getElem?_map, Option.map_eq_some_iff] at h
  obtain ⟨j, hj, rfl⟩ := h
  have hjl := (List.getElem?_eq_some_iff.1 hj).1
  rw [List.length_range] at hjl
  rw [List.getElem?_range hjl] at hj
  injection hj with hj
  exact ⟨hjl, by rw [hj]⟩
set_option maxRecDepth 100000 in
/-- Entries that came in. -/
theorem open_ents {H : Type} {enc : TypeId × Value → H} {w : World} {f : Nat} {a : Option Addr} {len cap : Nat} {d : DataW H} {p : List MemPlace}
    (hf : DataW.trod enc Try.prog w 0 (fun _ => true) true f 26 (Value.slice a len cap).cells.toList = some (d, p)) : (∃ xs, EL w w.heap.size a len xs) ∧ len ≤ cap ∧ cap ≤ maxLen := by
  rcases open_slice_pairs Try.underlying26 Try.underlying25 (by kernel_rfl) rfl rfl (by kernel_rfl) (by kernel_rfl) hf with ⟨hcs, _⟩ | ⟨x, l, c, m, n, V0, V1, D0, D1, P0, P1, hcs, _, hl, hm, hmm, _, hx⟩
  · simp [Value.cells] at hcs
    obtain ⟨rfl, rfl, rfl⟩ := hcs
    exact ⟨⟨[], rfl, fun p h => by simp at h, fun h => absurd h (by omega)⟩, Nat.le_refl _, Nat.zero_le _⟩
  · simp [Value.cells] at hcs
    obtain ⟨rfl, rfl, rfl⟩ := hcs
    refine ⟨?_, hl, hm⟩
    simp only [if_true] at hmm
    subst hmm
    obtain ⟨g, hg⟩ := Deep.choose_lt (n := len) (p := fun i (r : Int × Int) => I64e r.1 ∧ I64e r.2 ∧ w.cell? (x.add (i * 2)) = some (.int .i64 r.1) ∧ w.cell? (x.add (i * 2 + 1)) = some (.int .i64 r.2)) (fun i hi => by
      obtain ⟨h1, h2, h3, h4⟩ := hx i (by omega)
      obtain ⟨a, ha, _, wa⟩ := DataW.trod_int Try.underlying3 h3
      obtain ⟨b, hb, _, wb⟩ := DataW.trod_int Try.underlying3 h4
      injection ha with ha _
      injection hb with hb _
      rw [ha] at h1
      rw [hb] at h2
      exact ⟨(a, b), i64_ofE wa, i64_ofE wb, h1, h2⟩)
    rcases Nat.eq_zero_or_pos len with h0 | h0
    · subst h0; exact ⟨[], rfl, fun p h => by simp at h, fun h => absurd h (by omega)⟩
    · obtain ⟨b, off, spot⟩ := x
      have hc := (hg 0 h0).2.2.1
      have hspot : spot = none := by simpa [Addr.add] using World.cell?_spot hc
      subst hspot
      have hb : b < w.heap.size := World.block_lt_of_cell? w _ hc
      have hadd : ∀ i, (⟨b, off, none⟩ : Addr).add i = ⟨b, off + i, none⟩ := fun i => by unfold Addr.add; split <;> simp_all
      refine ⟨(List.range len).map g, by simp, fun p hp => ?_, fun _ => ⟨b, off, rfl, hb, fun i y h => ?_⟩⟩
      · obtain ⟨i, hi, rfl⟩ := List.mem_map.1 hp
        have := hg i (by simpa using hi)
        exact ⟨this.1, this.2.1⟩
      · obtain ⟨hi, rfl⟩ := map_range_atE h
        obtain ⟨_, _, k1, k2⟩ := hg i hi
        rw [hadd] at k1 k2
        intro j v hv
        match j, hv with
        | 0, hv => injection hv with hv; rw [← hv]; exact k1
        | 1, hv => injection hv with hv; rw [← hv, Nat.add_assoc]; exact k2
        | j + 2, hv => simp [ent] at hv
set_option maxRecDepth 100000 in
/-- An entry that came in. -/
theorem open_entry {H : Type} {enc : TypeId × Value → H} {w : World} {r : Reach} {b0 base : Nat} {sp : Nat → Bool} {held : Bool} {v : Value} {d : DataW H} {p : List MemPlace}
    (hv : Value.okWide Try.prog w r b0 25 v) (h : DataW.Trod enc Try.prog w base sp held 25 v d p) : ∃ e : Int × Int, (I64e e.1 ∧ I64e e.2) ∧ v = entV e := by
  obtain ⟨v0, v1, y0, y1, n, rfl, _, _, h0, h1⟩ := open_agg2 Try.underlying25 (by kernel_rfl) (by kernel_rfl) hv h
  obtain ⟨a, ha, _, wa⟩ := DataW.trod_int Try.underlying3 h0
  obtain ⟨b, hb, _, wb⟩ := DataW.trod_int Try.underlying3 h1
  injection ha with ha _
  injection hb with hb _
  subst ha hb
  exact ⟨(a, b), ⟨i64_ofE wa, i64_ofE wb⟩, rfl⟩
end Go.Proofs.Ytocbdgkehgmahaa
