/- Calls of layer 19 that come in as data, opened into what the walks ask. Nothing is claimed of the program here. -/
import Derived.Test.YthllaoeioddddaaGreatOpenRows
import Derived.Test.YthllaoeioddddaaGreatRiU
import Derived.Deep.SlicePairs
import Derived.Lib.SmallJoins
import Derived.Deep.MidRow
namespace Go.Proofs.YthllaoeioddddaaGreat
open Go.ChangeShapes Go.WideShapes Go.ChangeAt Go.RowKit Go.Joins Go.Deep
set_option linter.unusedVariables false
section
variable {H : Type} {enc : TypeId × Value → H} {w : World} {n : Nat} {rest : List Value}
set_option maxRecDepth 100000 in
theorem open_cap {f : Nat} {A : Option Addr} {m c : Nat} {x : DataW H × List MemPlace}
    (hf : DataW.trod enc Tryz.prog w 0 (fun _ => true) true f 23 [.slice A m c] = some x) : c ≤ maxLen := by
  rcases open_ints Tryz.underlying23 Tryz.underlying5 (by kernel_rfl) hf with ⟨hcs, _⟩ | ⟨a, l, c', zs, hcs, _, hl, hm, _⟩
  · simp at hcs
    rw [hcs.2.2]; exact Nat.zero_le _
  · simp at hcs
    rw [hcs.2.2]; exact hm
set_option maxRecDepth 100000 in
theorem open_cr3 {x : DataW H × List MemPlace} (h : DataW.trod enc Tryz.prog w 0 (fun _ => true) true n 63 rest = some x) : ∃ k : Cr, k.ok w.heap.size w ∧ rest = k.cells := by
  have hC : Tryz.prog.cellsOf 63 = 3 := by kernel_rfl
  have hI : Tryz.prog.cellsOf 3 = 1 := by kernel_rfl
  have hG : Tryz.prog.cellsOf 23 = 1 := by kernel_rfl
  obtain ⟨y0, y1, y2, n, _, hsz, h0, h1, h2⟩ := trod_struct3 Tryz.underlying63 h
  rw [hC] at hsz
  match rest, hsz with
  | [a0, a1, a2], hsz =>
    simp only [hI, hG, List.drop_zero, List.drop_succ_cons, List.take_succ_cons, List.take_zero] at h0 h1 h2
    obtain ⟨t, ht, _, wt⟩ := DataW.trod_int Tryz.underlying3 h0
    obtain ⟨p, hp, _, wp⟩ := DataW.trod_int Tryz.underlying3 h1
    injection ht with ht _
    injection hp with hp _
    subst ht hp
    obtain ⟨r, rfl, hr, hl, hc⟩ := open_part h2
    have hcm : r.2.2 ≤ maxLen := open_cap h2
    exact ⟨⟨t, p, r.1, r.2.1.length, r.2.2, r.2.1⟩, ⟨hr, hc, hcm⟩, rfl⟩
end
theorem range_at19 {α : Type} {len : Nat} {g : Nat → α} {i : Nat} {y : α} (h : ((List.range len).map g)[i]? = some y) : i < len ∧ y = g i := by
  rw [List.getElem?_map, Option.map_eq_some_iff] at h
  obtain ⟨j, hj, rfl⟩ := h
  have hjl := (List.getElem?_eq_some_iff.1 hj).1
  rw [List.length_range] at hjl
  rw [List.getElem?_range hjl] at hj
  injection hj with hj
  exact ⟨hjl, by rw [hj]⟩
instance : Inhabited Cr := ⟨⟨0, 0, none, 0, 0, []⟩⟩
set_option maxRecDepth 100000 in
/-- A slice of calls that came in. -/
theorem open_calls19 {H : Type} {enc : TypeId × Value → H} {w : World} {f : Nat} {a : Option Addr} {len cap : Nat} {d : DataW H} {p : List MemPlace}
    (hf : DataW.trod enc Tryz.prog w 0 (fun _ => true) true f 45 (Value.slice a len cap).cells.toList = some (d, p)) : (∃ xs, CRs w w.heap.size a len xs) ∧ len ≤ cap ∧ cap ≤ maxLen := by
  have ce : Tryz.prog.cellsOf 63 = 3 := by kernel_rfl
  rcases open_slice Tryz.underlying45 hf with ⟨hcs, _⟩ | ⟨x, l, c, m, n, D, Pl, hcs, _, hl, hm, hmm, _, hx⟩
  · simp [Value.cells] at hcs
    obtain ⟨rfl, rfl, rfl⟩ := hcs
    exact ⟨⟨[], rfl, fun p h => by simp at h, fun h => absurd h (by omega)⟩, Nat.le_refl _, Nat.zero_le _⟩
  · simp [Value.cells] at hcs
    obtain ⟨rfl, rfl, rfl⟩ := hcs
    refine ⟨?_, hl, hm⟩
    simp only [if_true] at hmm
    subst hmm
    obtain ⟨g, hg⟩ := Deep.choose_lt (n := len) (p := fun i (r : Cr) => r.ok w.heap.size w ∧ ∀ j v, r.cells[j]? = some v → w.cell? (x.add (i * 3 + j)) = some v) (fun i hi => by
      obtain ⟨cs', h1, h2⟩ := hx i (by omega)
      rw [ce] at h1
      obtain ⟨_, hlen, hcell⟩ := World.cells?_some h1
      obtain ⟨k, hk, rfl⟩ := open_cr3 h2
      refine ⟨k, hk, fun j v hv => ?_⟩
      have hj := (List.getElem?_eq_some_iff.1 hv).1
      have := hcell j (by omega)
      rw [add_add] at this
      rw [this]
      exact hv)
    rcases Nat.eq_zero_or_pos len with h0 | h0
    · subst h0; exact ⟨[], rfl, fun p h => by simp at h, fun h => absurd h (by omega)⟩
    · obtain ⟨b, off, spot⟩ := x
      have hc := (hg 0 h0).2 0 _ rfl
      have hspot : spot = none := by simpa [Addr.add] using World.cell?_spot hc
      subst hspot
      have hb : b < w.heap.size := World.block_lt_of_cell? w _ hc
      have hadd : ∀ i, (⟨b, off, none⟩ : Addr).add i = ⟨b, off + i, none⟩ := fun i => by unfold Addr.add; split <;> simp_all
      refine ⟨(List.range len).map g, by simp, fun p hp => ?_, fun _ => ⟨b, off, rfl, hb, fun i y h => ?_⟩⟩
      · obtain ⟨i, hi, rfl⟩ := List.mem_map.1 hp
        exact (hg i (by simpa using hi)).1
      · obtain ⟨hi, rfl⟩ := range_at19 h
        obtain ⟨_, k1⟩ := hg i hi
        intro j v hv
        have := k1 j v hv
        rw [hadd, ← Nat.add_assoc] at this
        exact this
end Go.Proofs.YthllaoeioddddaaGreat
