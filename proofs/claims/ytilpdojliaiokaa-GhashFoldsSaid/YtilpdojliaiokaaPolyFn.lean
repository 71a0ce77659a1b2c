/- Elements in memory and their words (layer 4). No conditions. -/
import Derived.Test.YtilpdojliaiokaaGfHL
import Derived.Test.YtilpdojliaiokaaPolyOfLaw
namespace Go.Proofs.Ytilpdojliaiokaa
open Go.RowKit
set_option linter.unusedVariables false

/-- A call that gives an element, and keeps all that was there. -/
def RetE (h l : Nat) (w : World) (e : Ending) (w' : World) : Prop := e = .returned (EV h l) ∧ Below w.heap.size w w'
theorem row_elem : ∃ d, Try.prog.underlying 36 = some d ∧ d.isRow = true := by
  have h : (Try.prog.underlying 36).map (·.isRow) = some true := by kernel_rfl
  rcases hu : Try.prog.underlying 36 with _ | d
  · rw [hu] at h; cases h
  · rw [hu] at h; injection h with h; exact ⟨d, rfl, h⟩
theorem sz_elem : (Try.prog.info? 36).map (·.size) = some 2 := by kernel_rfl
/-- A result that lies in a variable of an element. -/
theorem res_cellE {fn : Func} {p : Tmp} (h : fn.results = #[.cell p 36]) (tmps : Array Value) (w : World) (b H L : Nat) (ht : tmps.getD p undef = .pointer (some ⟨b, 0, none⟩))
    (hc : w.rangeAt b 0 [.int .u64 (H : Int), .int .u64 (L : Int)]) : (results fn tmps).run Try.prog w = .ok (EV H L) w := by
  obtain ⟨d, hu, hd⟩ := row_elem
  have hl := run_loadVar_mid (P := Try.prog) w b 0 36 [.int .u64 (H : Int), .int .u64 (L : Int)] d hc hu hd sz_elem
  rw [Array.getD_eq_getD_getElem?] at ht
  simp only [results, h]
  simp [ht, asAddr, hl, EV]
/-- Two words in a block, as they were laid. -/
theorem two_new (w : World) (a b : Value) (T : TypeId) : (w.alloc (.cells #[a, b] T)).rangeAt w.heap.size 0 [a, b] := by
  intro j v hv
  rw [World.cell?_alloc_at _ _ _ _ rfl, Nat.zero_add]
  simpa using hv
theorem two_below {w w' : World} {g B : Nat} {l : List Value} (h : w.rangeAt g 0 l) (hb : Below B w w') (hg : g < B) : w'.rangeAt g 0 l := fun j v hv => (hb.cell (p := ⟨g, 0 + j, none⟩) hg).trans (h j v hv)
theorem and1 (l : Nat) (hl : l < 2 ^ 64) : bits .and .u64 (l : Int) 1 = ((l % 2 : Nat) : Int) := by
  rw [and_one_u64 (l : Int) (by omega) (by omega)]
  omega
theorem u64_xor_nat (a b : Nat) (ha : a < 2 ^ 64) (hb : b < 2 ^ 64) : bits .xor .u64 (a : Int) (b : Int) = ((a ^^^ b : Nat) : Int) := by
  have hx : a ^^^ b < 2 ^ 64 := Nat.xor_lt_two_pow ha hb
  show IntKind.u64.wrap ((BitVec.ofInt 64 (a : Int) ^^^ BitVec.ofInt 64 (b : Int)).toNat : Int) = _
  rw [BitVec.toNat_xor, ofInt_u64 a (by omega), ofInt_u64 b (by omega), IntKind.wrap_u64]
  omega
theorem shl63 (h : Nat) : IntKind.u64.wrap ((h : Int) * 9223372036854775808) = ((h % 2 * 2 ^ 63 : Nat) : Int) := by rw [IntKind.wrap_u64]; omega
theorem join63 (h l : Nat) (hl : l < 2 ^ 64) : bits .or .u64 (IntKind.u64.wrap ((h : Int) * 9223372036854775808)) ((l : Int) / 2) = ((h % 2 * 2 ^ 63 + l / 2 : Nat) : Int) := by
  rw [shl63, show ((l : Int) / 2) = ((l / 2 : Nat) : Int) by omega, u64_or_nat _ _ (by omega) (by omega), nat_join 63 _ _ (by omega) (by omega)]
end Go.Proofs.Ytilpdojliaiokaa
