/- A configuration that comes in as data, opened into what the walks ask. Nothing is claimed of the program here. -/
import Derived.Test.YtkcchidklcnnnaaGreatOpen
import Derived.Test.YtkcchidklcnnnaaGreatMdP
import Derived.Lib.SmallJoins
namespace Go.Proofs.YtkcchidklcnnnaaGreat
open Go.ChangeShapes Go.WideShapes Go.ChangeAt Go.RowKit Go.Joins Go.Deep
set_option linter.unusedVariables false
theorem open_key {H : Type} {enc : TypeId × Value → H} {w : World} {base n : Nat} {sp : Nat → Bool} {held : Bool} {rest : List Value} {x : DataW H × List MemPlace} (hl : rest.length = 16)
    (h : DataW.trod enc Tryz.prog w base sp held n 27 rest = some x) : ∃ k : List UInt8, k.length = 16 ∧ rest = bvs k := by
  obtain ⟨xs, m, rfl, _, _, hxs, hf⟩ := DataW.trod_array Tryz.underlying27 h
  have hc : Tryz.prog.cellsOf 5 = 1 := by kernel_rfl
  have key : ∀ i (hi : i < rest.length), ∃ b : UInt8, rest[i] = bv b := fun i hi => by
    have h1 := hf i (by omega)
    rw [hc, Nat.mul_one] at h1
    have e : (rest.drop i).take 1 = [rest[i]] := by rw [List.drop_eq_getElem_cons hi]; rfl
    rw [e, List.getElem?_eq_getElem (by omega)] at h1
    obtain ⟨a, ha, _, wa⟩ := DataW.trod_int Tryz.underlying5 h1
    injection ha with ha _
    obtain ⟨b, rfl⟩ := byte_of wa
    exact ⟨b, ha⟩
  refine ⟨List.ofFn (fun i : Fin rest.length => Classical.choose (key i.val i.isLt)), by simp [hl], ?_⟩
  apply List.ext_getElem
  · simp [bvs]
  · intro i h1 h2
    simp only [bvs, List.getElem_map, List.getElem_ofFn]
    exact Classical.choose_spec (key i h1)
set_option maxRecDepth 100000 in
/-- A configuration that came in. -/
theorem open_cfg {H : Type} {enc : TypeId × Value → H} {w : World} {r : Reach} {b0 : Nat} {v : Value} {d : DataW H} {p : List MemPlace}
    (hv : Value.okWide Tryz.prog w r b0 35 v) (h : DataW.Trod enc Tryz.prog w 0 (fun _ => true) true 35 v d p) : ∃ c : Cfg, c.ok ∧ v = c.val := by
  obtain ⟨cs, rfl, hsz⟩ := okWide_struct Tryz.underlying35 hv
  have hC : Tryz.prog.cellsOf 35 = 19 := by kernel_rfl
  have hI : Tryz.prog.cellsOf 3 = 1 := by kernel_rfl
  have hK : Tryz.prog.cellsOf 27 = 16 := by kernel_rfl
  obtain ⟨fuel, hf⟩ := h
  obtain ⟨y0, y1, y2, y3, n, _, _, h0, h1, h2, h3⟩ := trod_struct4 Tryz.underlying35 hf
  obtain ⟨l⟩ := cs
  rw [hC] at hsz
  match l, hsz with
  | a0 :: a1 :: a2 :: rest, hsz =>
    have hr : rest.length = 16 := by simpa using hsz
    simp only [Value.cells, hI, hK, List.drop_zero, List.drop_succ_cons, List.take_succ_cons, List.take_zero] at h0 h1 h2 h3
    obtain ⟨m, hm, _, wm⟩ := DataW.trod_int Tryz.underlying3 h0
    obtain ⟨s, hs, _, ws⟩ := DataW.trod_int Tryz.underlying3 h1
    obtain ⟨q, hq, _, wq⟩ := DataW.trod_int Tryz.underlying3 h2
    injection hm with hm _
    injection hs with hs _
    injection hq with hq _
    subst hm hs hq
    rw [List.take_of_length_le (by omega)] at h3
    obtain ⟨k, hk, rfl⟩ := open_key hr h3
    exact ⟨⟨m, s, q, k⟩, ⟨hk, bounds_i64 wm, bounds_i64 ws, bounds_i64 wq⟩, rfl⟩
end Go.Proofs.YtkcchidklcnnnaaGreat
