/- Elements in memory and their words (layer 4). No conditions. -/
import Derived.Test.YtlapnfpdkfhfdaaPolyMath
namespace Go.Proofs.Ytlapnfpdkfhfdaa
open Go.RowKit
set_option linter.unusedVariables false

/-- A call that gives an element, and keeps all that was there. -/
def RetE (h l : Nat) (w : World) (e : Ending) (w' : World) : Prop := e = .returned (EV h l) ∧ Below w.heap.size w w'
theorem row_elem : ∃ d, Try.prog.underlying 101 = some d ∧ d.isRow = true := by
  have h : (Try.prog.underlying 101).map (·.isRow) = some true := by kernel_rfl
  rcases hu : Try.prog.underlying 101 with _ | d
  · rw [hu] at h; cases h
  · rw [hu] at h; injection h with h; exact ⟨d, rfl, h⟩
theorem sz_elem : (Try.prog.info? 101).map (·.size) = some 2 := by kernel_rfl
/-- A result that lies in a variable of an element. -/
theorem res_cellE {fn : Func} {p : Tmp} (h : fn.results = #[.cell p 101]) (tmps : Array Value) (w : World) (b H L : Nat) (ht : tmps.getD p undef = .pointer (some ⟨b, 0, none⟩))
    (hc : w.rangeAt b 0 [.int .u64 (H : Int), .int .u64 (L : Int)]) : (results fn tmps).run Try.prog w = .ok (EV H L) w := by
  obtain ⟨d, hu, hd⟩ := row_elem
  have hl := run_loadVar_mid (P := Try.prog) w b 0 101 [.int .u64 (H : Int), .int .u64 (L : Int)] d hc hu hd sz_elem
  rw [Array.getD_eq_getD_getElem?] at ht
  simp only [results, h]
  simp [ht, asAddr, hl, EV]
/-- Two words in a block, as they were laid. -/
theorem two_new (w : World) (a b : Value) (T : TypeId) : (w.alloc (.cells #[a, b] T)).rangeAt w.heap.size 0 [a, b] := by
  intro j v hv
  rw [World.cell?_alloc_at _ _ _ _ rfl, Nat.zero_add]
  simpa using hv
theorem two_below {w w' : World} {g B : Nat} {l : List Value} (h : w.rangeAt g 0 l) (hb : Below B w w') (hg : g < B) : w'.rangeAt g 0 l := fun j v hv => (hb.cell (p := ⟨g, 0 + j, none⟩) hg).trans (h j v hv)
theorem and1 (l : Nat) (hl : l < 2 ^ 64) : bits .and .u64 (l : Int) 1 = ((l % 2 : Nat) : Int) := by
  rw [and_one_u64 (l : Int) (by omega) (by omega)]
  omega
theorem u64_xor_nat (a b : Nat) (ha : a < 2 ^ 64) (hb : b < 2 ^ 64) : bits .xor .u64 (a : Int) (b : Int) = ((a ^^^ b : Nat) : Int) := by
  have hx : a ^^^ b < 2 ^ 64 := Nat.xor_lt_two_pow ha hb
  show IntKind.u64.wrap ((BitVec.ofInt 64 (a : Int) ^^^ BitVec.ofInt 64 (b : Int)).toNat : Int) = _
  rw [BitVec.toNat_xor, ofInt_u64 a (by omega), ofInt_u64 b (by omega), IntKind.wrap_u64]
  omega
theorem shl63 (h : Nat) : IntKind.u64.wrap ((h : Int) * 9223372036854775808) = ((h % 2 * 2 ^ 63 : Nat) : Int) := by rw [IntKind.wrap_u64]; omega
theorem join63 (h l : Nat) (hl : l < 2 ^ 64) : bits .or .u64 (IntKind.u64.wrap ((h : Int) * 9223372036854775808)) ((l : Int) / 2) = ((h % 2 * 2 ^ 63 + l / 2 : Nat) : Int) := by
  rw [shl63, show ((l : Int) / 2) = ((l / 2 : Nat) : Int) by omega, u64_or_nat _ _ (by omega) (by omega), nat_join 63 _ _ (by omega) (by omega)]
end Go.Proofs.Ytlapnfpdkfhfdaa

/- Elements in blocks: whole loads and stores (layer 4). No conditions. -/
namespace Go.Proofs.Ytlapnfpdkfhfdaa
open Go.RowKit
set_option linter.unusedVariables false

/-- Two words as cells; block g holds them, and they may be written. -/
def es (h l : Nat) : List Value := [.int .u64 (h : Int), .int .u64 (l : Int)]
def Ew (w : World) (g h l : Nat) : Prop := w.rangeAt g 0 (es h l) ∧ w.there g 0 2
theorem es_all (h l : Nat) : (es h l).toArray.all (·.oneCell') = true := all_oneCell_toArray (fun v hv => by
  simp only [es, List.mem_cons, List.not_mem_nil, or_false] at hv
  rcases hv with rfl | rfl <;> rfl)
section
variable {w w' : World} {g h l B : Nat}
theorem Ew.at0 (e : Ew w g h l) : w.cell? ⟨g, 0, none⟩ = some (.int .u64 (h : Int)) := e.1 0 _ rfl
theorem Ew.at1 (e : Ew w g h l) : w.cell? ⟨g, 1, none⟩ = some (.int .u64 (l : Int)) := e.1 1 _ rfl
theorem Ew.free0 (e : Ew w g h l) : w.frozen? ⟨g, 0, none⟩ = false := (e.2 0 (by omega)).2
theorem Ew.free1 (e : Ew w g h l) : w.frozen? ⟨g, 1, none⟩ = false := (e.2 1 (by omega)).2
theorem Ew.mk (c0 : w.cell? ⟨g, 0, none⟩ = some (.int .u64 (h : Int))) (c1 : w.cell? ⟨g, 1, none⟩ = some (.int .u64 (l : Int))) (f0 : w.frozen? ⟨g, 0, none⟩ = false) (f1 : w.frozen? ⟨g, 1, none⟩ = false) : Ew w g h l := by
  refine ⟨fun j v hv => ?_, fun j hj => ?_⟩
  · match j, hv with
    | 0, hv => injection hv with hv; rw [← hv]; exact c0
    | 1, hv => injection hv with hv; rw [← hv]; exact c1
    | j + 2, hv => simp [es] at hv
  · match j, hj with
    | 0, _ => exact ⟨by rw [c0]; rfl, f0⟩
    | 1, _ => exact ⟨by rw [c1]; rfl, f1⟩
    | j + 2, hj => omega
theorem Ew.lt (e : Ew w g h l) : g < w.heap.size := World.block_lt_of_cell? w _ e.at0
theorem Ew.block (e : Ew w g h l) (hb : w'.heap[g]? = w.heap[g]?) : Ew w' g h l :=
  Ew.mk ((World.cell?_of_block hb).trans e.at0) ((World.cell?_of_block hb).trans e.at1) ((World.frozen?_of_block hb).trans e.free0) ((World.frozen?_of_block hb).trans e.free1)
theorem Ew.below (e : Ew w g h l) (hb : Below B w w') (hg : g < B) : Ew w' g h l := e.block (hb.block g hg)
theorem Ew.alloc (e : Ew w g h l) (ob : Obj) : Ew (w.alloc ob) g h l := e.below ((Below.refl w.heap.size w).alloc (Nat.le_refl _) ob) e.lt
theorem Ew.setCells (e : Ew w g h l) {b : Nat} (hb : b ≠ g) (o : Nat) (vs : List Value) : Ew (w.setCells b o vs) g h l := e.block (heap_setCells b g (fun x => hb x.symm) vs o w)
theorem Ew.setCell (e : Ew w g h l) {p : Addr} (hp : p.block ≠ g) (v : Value) : Ew (w.setCell p v) g h l := e.block (Below.heap_setCell w p v g (fun x => hp x.symm))
theorem Ew.whole (e : Ew w g h l) (h' l' : Nat) : Ew (w.setCells g 0 (es h' l')) g h' l' := by
  have hin : ∀ q, q < (es h' l').length → (w.cell? ⟨g, 0 + q, none⟩).isSome = true := fun q hq => (e.2 q hq).1
  have h0 := World.cell?_setCells_in g (es h' l') 0 w hin 0 (by simp [es])
  have h1 := World.cell?_setCells_in g (es h' l') 0 w hin 1 (by simp [es])
  exact Ew.mk h0 h1 ((World.frozen?_setCells _ _ _ _ _).trans e.free0) ((World.frozen?_setCells _ _ _ _ _).trans e.free1)
theorem Ew.new (w : World) (h l n : Nat) (hn : n = w.heap.size) : Ew (w.alloc (.cells (es h l).toArray 101)) n h l := by
  subst hn
  refine Ew.mk ?_ ?_ (World.frozen?_alloc_at _ _ _ _ rfl) (World.frozen?_alloc_at _ _ _ _ rfl)
  · rw [World.cell?_alloc_at _ _ _ _ rfl]; rfl
  · rw [World.cell?_alloc_at _ _ _ _ rfl]; rfl
end
section
variable {w : World} {ops : Array Oper} {rest : List Oper} {o : Oper} {a : Act} {Q : Exit → Act → World → Prop}
theorem wpList_ldE (hgd : o.guard = none) (x : Operand) (hop : o.op = .load 101 x) (g : Nat) (hx : a.eval x = .pointer (some ⟨g, 0, none⟩)) (h l : Nat) (hc : Ew w g h l)
    (hk : wpList Try.prog ops Q rest (a.put o.dst (EV h l)) w) : wpList Try.prog ops Q (o :: rest) a w := by
  obtain ⟨d, hu, hd⟩ := row_elem
  exact wpList_load_mid hgd _ x hop g 0 hx (es h l) d hc.1 hu hd sz_elem hk
theorem wpList_stE (hgd : o.guard = none) (x y : Operand) (hop : o.op = .store 101 x y) (g : Nat) (hx : a.eval x = .pointer (some ⟨g, 0, none⟩)) (h l h0 l0 : Nat) (hy : a.eval y = EV h l) (hc : Ew w g h0 l0)
    (hk : wpList Try.prog ops Q rest (a.put o.dst undef) (w.setCells g 0 (es h l))) : wpList Try.prog ops Q (o :: rest) a w :=
  wpList_store_mid hgd _ x y hop g 0 (es h l).toArray hx hy hc.2 sz_elem (es_all h l) (by simpa using hk)
end
theorem res_ew {fn : Func} {p : Tmp} (hr : fn.results = #[.cell p 101]) (tmps : Array Value) (w : World) (b H L : Nat) (ht : tmps.getD p undef = .pointer (some ⟨b, 0, none⟩)) (hc : Ew w b H L) :
    (results fn tmps).run Try.prog w = .ok (EV H L) w := res_cellE hr tmps w b H L ht hc.1
end Go.Proofs.Ytlapnfpdkfhfdaa

/- layer 4: elements as numbers, in memory; One. Conditions: numbers of 128 bits. -/
namespace Go.Proofs.Ytlapnfpdkfhfdaa
open Go.RowKit
set_option linter.unusedVariables false

/-- A number as an element. -/
def PE (x : Nat) : Value := EV (x / 2 ^ 64) (x % 2 ^ 64)
def Xw (w : World) (g x : Nat) : Prop := Ew w g (x / 2 ^ 64) (x % 2 ^ 64)
def RetP (x : Nat) (w : World) (e : Ending) (w' : World) : Prop := e = .returned (PE x) ∧ Below w.heap.size w w'
theorem hl_parts (x : Nat) : hl (x / 2 ^ 64) (x % 2 ^ 64) = x := by unfold hl; omega
theorem pe_hl (p q : Nat) (hq : q < 2 ^ 64) : PE (hl p q) = EV p q := by
  unfold PE
  have h := hl_inj (hl p q / 2 ^ 64) (hl p q % 2 ^ 64) p q (by omega) hq (hl_parts _)
  rw [h.1, h.2]
theorem wpList_ldX {w : World} {ops : Array Oper} {rest : List Oper} {o : Oper} {a : Act} {Q : Exit → Act → World → Prop} (hgd : o.guard = none) (x : Operand) (hop : o.op = .load 101 x) (g : Nat) (hx : a.eval x = .pointer (some ⟨g, 0, none⟩)) (n : Nat) (hc : Xw w g n)
    (hk : wpList Try.prog ops Q rest (a.put o.dst (PE n)) w) : wpList Try.prog ops Q (o :: rest) a w := wpList_ldE hgd x hop g hx _ _ hc hk
theorem wpList_stX {w : World} {ops : Array Oper} {rest : List Oper} {o : Oper} {a : Act} {Q : Exit → Act → World → Prop} (hgd : o.guard = none) (x y : Operand) (hop : o.op = .store 101 x y) (g : Nat) (hx : a.eval x = .pointer (some ⟨g, 0, none⟩)) (n m : Nat) (hy : a.eval y = PE n) (hc : Xw w g m)
    (hk : wpList Try.prog ops Q rest (a.put o.dst undef) (w.setCells g 0 (es (n / 2 ^ 64) (n % 2 ^ 64)))) : wpList Try.prog ops Q (o :: rest) a w := wpList_stE hgd x y hop g hx _ _ _ _ hy hc hk
theorem wpList_boxX {w : World} {ops : Array Oper} {rest : List Oper} {o : Oper} {a : Act} {Q : Exit → Act → World → Prop} (hgd : o.guard = none) (T : TypeId) (x : Operand) (hop : o.op = .box T x) (n : Nat) (hx : a.eval x = PE n)
    (h : wpList Try.prog ops Q rest (a.put o.dst (.pointer (some ⟨w.heap.size, 0, none⟩))) (w.alloc (.cells (es (n / 2 ^ 64) (n % 2 ^ 64)).toArray T))) : wpList Try.prog ops Q (o :: rest) a w := by
  refine wpList_plain hgd fun K hK => ?_
  have hr : (Instr.box T (PE n)).run Try.prog w = .ok (.pointer (some ⟨w.heap.size, 0, none⟩)) (w.alloc (.cells (es (n / 2 ^ 64) (n % 2 ^ 64)).toArray T)) := rfl
  unfold Oper.wp execOp
  simp only [hop, hx, Sem.run_bind, hr, Result.andThen_ok]
  exact hK _ _ h
theorem pow_bit0 (n : Nat) (hn : n ≤ 18446744073709551615) (h : n % 2 = 0) : bits .and .u64 (n : Int) 1 = 0 := by rw [and1 n (by omega), h]; rfl
theorem pow_bit1 (n : Nat) (hn : n ≤ 18446744073709551615) (h : n % 2 = 1) : bits .and .u64 (n : Int) 1 = 1 := by rw [and1 n (by omega), h]; rfl
theorem Ew.set0 {w : World} {g h l : Nat} (e : Ew w g h l) (x : Nat) : Ew (w.setCell ⟨g, 0, none⟩ (.int .u64 (x : Int))) g x l :=
  Ew.mk (World.cell?_setCell_same' _ _ _ (by rw [e.at0]; rfl)) ((World.cell?_setCell_other _ _ _ _ (by simp)).trans e.at1) ((World.frozen?_setCell _ _ _ _).trans e.free0) ((World.frozen?_setCell _ _ _ _).trans e.free1)
theorem Ew.set1 {w : World} {g h l : Nat} (e : Ew w g h l) (x : Nat) : Ew (w.setCell ⟨g, 1, none⟩ (.int .u64 (x : Int))) g h x :=
  Ew.mk ((World.cell?_setCell_other _ _ _ _ (by simp)).trans e.at0) (World.cell?_setCell_same' _ _ _ (by rw [e.at1]; rfl)) ((World.frozen?_setCell _ _ _ _).trans e.free0) ((World.frozen?_setCell _ _ _ _).trans e.free1)
theorem pe_lt (x : Nat) (hx : x < 2 ^ 128) : x / 2 ^ 64 < 2 ^ 64 ∧ x % 2 ^ 64 < 2 ^ 64 := by omega
end Go.Proofs.Ytlapnfpdkfhfdaa

/- layer 4: Next. Condition: the number has 128 bits. -/
namespace Go.Proofs.Ytlapnfpdkfhfdaa
open Go.RowKit
set_option linter.unusedVariables false

end Go.Proofs.Ytlapnfpdkfhfdaa

/- layer 4: Sum of elements that lie in a slice. Condition: numbers of 128 bits. -/
namespace Go.Proofs.Ytlapnfpdkfhfdaa
open Go.RowKit
set_option linter.unusedVariables false

/-- The slice (A, n, _) reads as the elements xs, below block B. -/
def XE (w : World) (B : Nat) (A : Option Addr) (n : Nat) (xs : List Nat) : Prop :=
  xs.length = n ∧ (∀ (i x : Nat), xs[i]? = some x → x < 2 ^ 128) ∧ (0 < n → ∃ g o, A = some ⟨g, o, none⟩ ∧ g < B ∧ ∀ (i x : Nat), xs[i]? = some x → w.rangeAt g (o + i * 2) (es (x / 2 ^ 64) (x % 2 ^ 64)))
theorem XE.step {w w' : World} {B : Nat} {A : Option Addr} {n : Nat} {xs : List Nat} (h : XE w B A n xs) (hb : Below B w w') : XE w' B A n xs := by
  refine ⟨h.1, h.2.1, fun hn => ?_⟩
  obtain ⟨g, o, hA, hg, hc⟩ := h.2.2 hn
  exact ⟨g, o, hA, hg, fun i x hx j v hv => (hb.cell (p := ⟨g, o + i * 2 + j, none⟩) hg).trans (hc i x hx j v hv)⟩
theorem XE.lt {w : World} {B B' : Nat} {A : Option Addr} {n : Nat} {xs : List Nat} (h : XE w B A n xs) (hB : B ≤ B') : XE w B' A n xs := by
  refine ⟨h.1, h.2.1, fun hn => ?_⟩
  obtain ⟨g, o, hA, hg, hc⟩ := h.2.2 hn
  exact ⟨g, o, hA, by omega, hc⟩
theorem gSum_lt (xs : List Nat) : ∀ s, s < 2 ^ 128 → (∀ (i x : Nat), xs[i]? = some x → x < 2 ^ 128) → gSum xs s < 2 ^ 128 := by
  induction xs with
  | nil => intro s hs _; exact hs
  | cons y l ih => intro s hs h; exact ih _ (Nat.xor_lt_two_pow hs (h 0 y rfl)) (fun i x hx => h (i + 1) x hx)
attribute [local irreducible] gSum hl

end Go.Proofs.Ytlapnfpdkfhfdaa

