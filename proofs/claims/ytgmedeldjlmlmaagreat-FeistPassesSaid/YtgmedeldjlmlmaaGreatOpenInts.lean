/- Rows of ints that come in as data, opened into what the walks ask. Nothing is claimed of the program here. -/
import Derived.Test.YtgmedeldjlmlmaaGreatOpen
import Derived.Test.YtgmedeldjlmlmaaGreatIntM
namespace Go.Proofs.YtgmedeldjlmlmaaGreat
open Go.ChangeShapes Go.WideShapes Go.ChangeAt Go.RowKit
set_option linter.unusedVariables false

theorem zl_of_cells {w : World} {x : Addr} {len cap : Nat} {zs : List Int} (hl : len ≤ cap) (hz : zs.length = cap) (hcell : ∀ i, i < zs.length → w.cell? (x.add i) = some (.int .i64 (zs.getD i 0))) (hwz : ∀ n ∈ zs, (Lit.int .i64 n).wf = true) :
    ∃ l, ZL w w.heap.size (some x) len l := by
  rcases Nat.eq_zero_or_pos len with h0 | h0
  · subst h0; exact ⟨[], rfl, fun h => absurd h (by omega), by simp⟩
  · obtain ⟨b, off, spot⟩ := x
    have hc := hcell 0 (by omega)
    have hspot : spot = none := by simpa [Addr.add] using World.cell?_spot hc
    subst hspot
    have hb : b < w.heap.size := World.block_lt_of_cell? w _ hc
    refine ⟨zs.take len, by simp; omega, fun _ => ⟨b, off, rfl, hb, fun i hi => ?_⟩, fun y hy => ?_⟩
    · have hi' : i < len := by simp at hi; omega
      have hc := hcell i (by omega)
      have hw := hwz (zs.getD i 0) (by rw [List.getD_eq_getElem?_getD, List.getElem?_eq_getElem (by omega)]; exact List.getElem_mem _)
      have hadd : (⟨b, off, none⟩ : Addr).add i = ⟨b, off + i, none⟩ := by unfold Addr.add; split <;> simp_all
      rw [hadd] at hc
      rw [hc]
      have hr : -9223372036854775808 ≤ zs.getD i 0 ∧ zs.getD i 0 ≤ 9223372036854775807 := bounds_i64 hw
      have e : (zs.getD i 0) = zs[i] := by rw [List.getD_eq_getElem?_getD, List.getElem?_eq_getElem (by omega)]; rfl
      rw [e] at hr ⊢
      simp only [List.getElem_take]
    · exact bounds_i64 (hwz y (List.mem_of_mem_take hy))

/-- A slice of ints that came in. -/
theorem open_zs {H : Type} {enc : TypeId × Value → H} {w : World} {f : Nat} {a : Option Addr} {len cap : Nat} {d : DataW H} {p : List MemPlace}
    (hf : DataW.trod enc Tryz.prog w 0 (fun _ => true) true f 32 (Value.slice a len cap).cells.toList = some (d, p)) : (∃ l, ZL w w.heap.size a len l) ∧ len ≤ cap ∧ cap ≤ maxLen := by
  rcases open_ints Tryz.underlying32 Tryz.underlying3 (by kernel_rfl) hf with ⟨hcs, _⟩ | ⟨x, l, c, zs, hcs, _, hl, hm, hz, _, hcell, hwz⟩
  · simp [Value.cells] at hcs
    obtain ⟨rfl, rfl, rfl⟩ := hcs
    exact ⟨⟨[], rfl, fun h => absurd h (by omega), by simp⟩, Nat.le_refl _, Nat.zero_le _⟩
  · simp [Value.cells] at hcs
    obtain ⟨rfl, rfl, rfl⟩ := hcs
    exact ⟨zl_of_cells hl (by simpa using hz) hcell hwz, hl, hm⟩
end Go.Proofs.YtgmedeldjlmlmaaGreat
