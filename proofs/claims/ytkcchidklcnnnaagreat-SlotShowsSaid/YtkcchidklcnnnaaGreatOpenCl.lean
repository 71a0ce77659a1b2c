/- Calls of layer 18 that come in as data, opened into what the walks ask. Nothing is claimed of the program here. -/
import Derived.Test.YtkcchidklcnnnaaGreatOpenCfg
import Derived.Test.YtkcchidklcnnnaaGreatSlW
import Derived.Deep.SlicePairs
import Derived.Deep.MidRow
namespace Go.Proofs.YtkcchidklcnnnaaGreat
open Go.ChangeShapes Go.WideShapes Go.ChangeAt Go.RowKit Go.Joins Go.Deep
set_option linter.unusedVariables false
section
variable {H : Type} {enc : TypeId × Value → H} {w : World} {base n : Nat} {sp : Nat → Bool} {held : Bool} {rest : List Value} {x : DataW H × List MemPlace}
set_option maxRecDepth 100000 in
theorem open_cfg19 (h : DataW.trod enc Tryz.prog w base sp held n 35 rest = some x) : ∃ c : Cfg, c.ok ∧ rest = c.cells := by
  have hC : Tryz.prog.cellsOf 35 = 19 := by kernel_rfl
  have hI : Tryz.prog.cellsOf 3 = 1 := by kernel_rfl
  have hK : Tryz.prog.cellsOf 27 = 16 := by kernel_rfl
  obtain ⟨y0, y1, y2, y3, n, _, hsz, h0, h1, h2, h3⟩ := trod_struct4 Tryz.underlying35 h
  rw [hC] at hsz
  match rest, hsz with
  | a0 :: a1 :: a2 :: rest, hsz =>
    have hr : rest.length = 16 := by simpa using hsz
    simp only [hI, hK, List.drop_zero, List.drop_succ_cons, List.take_succ_cons, List.take_zero] at h0 h1 h2 h3
    obtain ⟨m, hm, _, wm⟩ := DataW.trod_int Tryz.underlying3 h0
    obtain ⟨s, hs, _, ws⟩ := DataW.trod_int Tryz.underlying3 h1
    obtain ⟨q, hq, _, wq⟩ := DataW.trod_int Tryz.underlying3 h2
    injection hm with hm _
    injection hs with hs _
    injection hq with hq _
    subst hm hs hq
    rw [List.take_of_length_le (by omega)] at h3
    obtain ⟨k, hk, rfl⟩ := open_key hr h3
    exact ⟨⟨m, s, q, k⟩, ⟨hk, bounds_i64 wm, bounds_i64 ws, bounds_i64 wq⟩, rfl⟩
set_option maxRecDepth 100000 in
theorem open_cl21 (h : DataW.trod enc Tryz.prog w base sp held n 37 rest = some x) : ∃ k : Cl, k.ok ∧ rest = k.cells := by
  have hC : Tryz.prog.cellsOf 37 = 21 := by kernel_rfl
  have hI : Tryz.prog.cellsOf 3 = 1 := by kernel_rfl
  have hG : Tryz.prog.cellsOf 35 = 19 := by kernel_rfl
  obtain ⟨y0, y1, y2, n, _, hsz, h0, h1, h2⟩ := trod_struct3 Tryz.underlying37 h
  rw [hC] at hsz
  match rest, hsz with
  | a0 :: a1 :: rest, hsz =>
    have hr : rest.length = 19 := by simpa using hsz
    simp only [hI, hG, List.drop_zero, List.drop_succ_cons, List.take_succ_cons, List.take_zero] at h0 h1 h2
    obtain ⟨t, ht, _, wt⟩ := DataW.trod_int Tryz.underlying3 h0
    obtain ⟨p, hp, _, wp⟩ := DataW.trod_int Tryz.underlying3 h1
    injection ht with ht _
    injection hp with hp _
    subst ht hp
    rw [List.take_of_length_le (by omega)] at h2
    obtain ⟨c, hc, rfl⟩ := open_cfg19 h2
    exact ⟨⟨t, p, c⟩, ⟨hc, bounds_i64 wt, bounds_i64 wp⟩, rfl⟩
end
set_option maxRecDepth 100000 in
/-- A call that came in. -/
theorem open_call {H : Type} {enc : TypeId × Value → H} {w : World} {r : Reach} {b0 : Nat} {v : Value} {d : DataW H} {p : List MemPlace}
    (hv : Value.okWide Tryz.prog w r b0 37 v) (h : DataW.Trod enc Tryz.prog w 0 (fun _ => true) true 37 v d p) : ∃ k : Cl, k.ok ∧ v = k.val := by
  obtain ⟨cs, rfl, hsz⟩ := okWide_struct Tryz.underlying37 hv
  obtain ⟨fuel, hf⟩ := h
  obtain ⟨k, hk, e⟩ := open_cl21 hf
  refine ⟨k, hk, ?_⟩
  obtain ⟨l⟩ := cs
  have e2 : l = k.cells := e
  rw [cl_val, e2]
theorem range_at18 {α : Type} {len : Nat} {g : Nat → α} {i : Nat} {y : α} (h : ((List.range len).map g)[i]? = some y) : i < len ∧ y = g i := by
  rw [List.getElem?_map, Option.map_eq_some_iff] at h
  obtain ⟨j, hj, rfl⟩ := h
  have hjl := (List.getElem?_eq_some_iff.1 hj).1
  rw [List.length_range] at hjl
  rw [List.getElem?_range hjl] at hj
  injection hj with hj
  exact ⟨hjl, by rw [hj]⟩
instance : Inhabited Cl := ⟨zCl⟩
set_option maxRecDepth 100000 in
/-- A slice of calls that came in. -/
theorem open_calls {H : Type} {enc : TypeId × Value → H} {w : World} {f : Nat} {a : Option Addr} {len cap : Nat} {d : DataW H} {p : List MemPlace}
    (hf : DataW.trod enc Tryz.prog w 0 (fun _ => true) true f 22 (Value.slice a len cap).cells.toList = some (d, p)) : (∃ xs, CLs w w.heap.size a len xs) ∧ len ≤ cap ∧ cap ≤ maxLen := by
  have ce : Tryz.prog.cellsOf 37 = 21 := by kernel_rfl
  rcases open_slice Tryz.underlying22 hf with ⟨hcs, _⟩ | ⟨x, l, c, m, n, D, Pl, hcs, _, hl, hm, hmm, _, hx⟩
  · simp [Value.cells] at hcs
    obtain ⟨rfl, rfl, rfl⟩ := hcs
    exact ⟨⟨[], rfl, fun p h => by simp at h, fun h => absurd h (by omega)⟩, Nat.le_refl _, Nat.zero_le _⟩
  · simp [Value.cells] at hcs
    obtain ⟨rfl, rfl, rfl⟩ := hcs
    refine ⟨?_, hl, hm⟩
    simp only [if_true] at hmm
    subst hmm
    obtain ⟨g, hg⟩ := Deep.choose_lt (n := len) (p := fun i (r : Cl) => r.ok ∧ ∀ j v, r.cells[j]? = some v → w.cell? (x.add (i * 21 + j)) = some v) (fun i hi => by
      obtain ⟨cs', h1, h2⟩ := hx i (by omega)
      rw [ce] at h1
      obtain ⟨_, hlen, hcell⟩ := World.cells?_some h1
      obtain ⟨k, hk, rfl⟩ := open_cl21 h2
      refine ⟨k, hk, fun j v hv => ?_⟩
      have hj := (List.getElem?_eq_some_iff.1 hv).1
      have := hcell j (by omega)
      rw [add_add] at this
      rw [this]
      exact hv)
    rcases Nat.eq_zero_or_pos len with h0 | h0
    · subst h0; exact ⟨[], rfl, fun p h => by simp at h, fun h => absurd h (by omega)⟩
    · obtain ⟨b, off, spot⟩ := x
      have hc := (hg 0 h0).2 0 _ rfl
      have hspot : spot = none := by simpa [Addr.add] using World.cell?_spot hc
      subst hspot
      have hb : b < w.heap.size := World.block_lt_of_cell? w _ hc
      have hadd : ∀ i, (⟨b, off, none⟩ : Addr).add i = ⟨b, off + i, none⟩ := fun i => by unfold Addr.add; split <;> simp_all
      refine ⟨(List.range len).map g, by simp, fun p hp => ?_, fun _ => ⟨b, off, rfl, hb, fun i y h => ?_⟩⟩
      · obtain ⟨i, hi, rfl⟩ := List.mem_map.1 hp
        exact (hg i (by simpa using hi)).1
      · obtain ⟨hi, rfl⟩ := range_at18 h
        obtain ⟨_, k1⟩ := hg i hi
        intro j v hv
        have := k1 j v hv
        rw [hadd, ← Nat.add_assoc] at this
        exact this
end Go.Proofs.YtkcchidklcnnnaaGreat
