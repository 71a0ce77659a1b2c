/- Elements in memory and their words (layer 4). No conditions. -/
import Derived.Test.YthllaoeioddddaaGreatPolyMath
namespace Go.Proofs.YthllaoeioddddaaGreat
open Go.RowKit
set_option linter.unusedVariables false

/-- A call that gives an element, and keeps all that was there. -/
def RetE (h l : Nat) (w : World) (e : Ending) (w' : World) : Prop := e = .returned (EV h l) ∧ Below w.heap.size w w'
theorem row_elem : ∃ d, Tryz.prog.underlying 158 = some d ∧ d.isRow = true := by
  have h : (Tryz.prog.underlying 158).map (·.isRow) = some true := by kernel_rfl
  rcases hu : Tryz.prog.underlying 158 with _ | d
  · rw [hu] at h; cases h
  · rw [hu] at h; injection h with h; exact ⟨d, rfl, h⟩
theorem sz_elem : (Tryz.prog.info? 158).map (·.size) = some 2 := by kernel_rfl
/-- A result that lies in a variable of an element. -/
theorem res_cellE {fn : Func} {p : Tmp} (h : fn.results = #[.cell p 158]) (tmps : Array Value) (w : World) (b H L : Nat) (ht : tmps.getD p undef = .pointer (some ⟨b, 0, none⟩))
    (hc : w.rangeAt b 0 [.int .u64 (H : Int), .int .u64 (L : Int)]) : (results fn tmps).run Tryz.prog w = .ok (EV H L) w := by
  obtain ⟨d, hu, hd⟩ := row_elem
  have hl := run_loadVar_mid (P := Tryz.prog) w b 0 158 [.int .u64 (H : Int), .int .u64 (L : Int)] d hc hu hd sz_elem
  rw [Array.getD_eq_getD_getElem?] at ht
  simp only [results, h]
  simp [ht, asAddr, hl, EV]
theorem and1 (l : Nat) (hl : l < 2 ^ 64) : bits .and .u64 (l : Int) 1 = ((l % 2 : Nat) : Int) := by
  rw [and_one_u64 (l : Int) (by omega) (by omega)]
  omega
theorem u64_xor_nat (a b : Nat) (ha : a < 2 ^ 64) (hb : b < 2 ^ 64) : bits .xor .u64 (a : Int) (b : Int) = ((a ^^^ b : Nat) : Int) := by
  have hx : a ^^^ b < 2 ^ 64 := Nat.xor_lt_two_pow ha hb
  show IntKind.u64.wrap ((BitVec.ofInt 64 (a : Int) ^^^ BitVec.ofInt 64 (b : Int)).toNat : Int) = _
  rw [BitVec.toNat_xor, ofInt_u64 a (by omega), ofInt_u64 b (by omega), IntKind.wrap_u64]
  omega
theorem shl63 (h : Nat) : IntKind.u64.wrap ((h : Int) * 9223372036854775808) = ((h % 2 * 2 ^ 63 : Nat) : Int) := by rw [IntKind.wrap_u64]; omega
end Go.Proofs.YthllaoeioddddaaGreat

/- Elements in blocks: whole loads and stores (layer 4). No conditions. -/
namespace Go.Proofs.YthllaoeioddddaaGreat
open Go.RowKit
set_option linter.unusedVariables false

/-- Two words as cells; block g holds them, and they may be written. -/
def es (h l : Nat) : List Value := [.int .u64 (h : Int), .int .u64 (l : Int)]
def Ew (w : World) (g h l : Nat) : Prop := w.rangeAt g 0 (es h l) ∧ w.there g 0 2
theorem es_all (h l : Nat) : (es h l).toArray.all (·.oneCell') = true := all_oneCell_toArray (fun v hv => by
  simp only [es, List.mem_cons, List.not_mem_nil, or_false] at hv
  rcases hv with rfl | rfl <;> rfl)
section
variable {w w' : World} {g h l B : Nat}
theorem Ew.at0 (e : Ew w g h l) : w.cell? ⟨g, 0, none⟩ = some (.int .u64 (h : Int)) := e.1 0 _ rfl
theorem Ew.at1 (e : Ew w g h l) : w.cell? ⟨g, 1, none⟩ = some (.int .u64 (l : Int)) := e.1 1 _ rfl
theorem Ew.free0 (e : Ew w g h l) : w.frozen? ⟨g, 0, none⟩ = false := (e.2 0 (by omega)).2
theorem Ew.free1 (e : Ew w g h l) : w.frozen? ⟨g, 1, none⟩ = false := (e.2 1 (by omega)).2
theorem Ew.mk (c0 : w.cell? ⟨g, 0, none⟩ = some (.int .u64 (h : Int))) (c1 : w.cell? ⟨g, 1, none⟩ = some (.int .u64 (l : Int))) (f0 : w.frozen? ⟨g, 0, none⟩ = false) (f1 : w.frozen? ⟨g, 1, none⟩ = false) : Ew w g h l := by
  refine ⟨fun j v hv => ?_, fun j hj => ?_⟩
  · match j, hv with
    | 0, hv => injection hv with hv; rw [← hv]; exact c0
    | 1, hv => injection hv with hv; rw [← hv]; exact c1
    | j + 2, hv => simp [es] at hv
  · match j, hj with
    | 0, _ => exact ⟨by rw [c0]; rfl, f0⟩
    | 1, _ => exact ⟨by rw [c1]; rfl, f1⟩
    | j + 2, hj => omega
theorem Ew.lt (e : Ew w g h l) : g < w.heap.size := World.block_lt_of_cell? w _ e.at0
theorem Ew.block (e : Ew w g h l) (hb : w'.heap[g]? = w.heap[g]?) : Ew w' g h l :=
  Ew.mk ((World.cell?_of_block hb).trans e.at0) ((World.cell?_of_block hb).trans e.at1) ((World.frozen?_of_block hb).trans e.free0) ((World.frozen?_of_block hb).trans e.free1)
theorem Ew.below (e : Ew w g h l) (hb : Below B w w') (hg : g < B) : Ew w' g h l := e.block (hb.block g hg)
theorem Ew.alloc (e : Ew w g h l) (ob : Obj) : Ew (w.alloc ob) g h l := e.below ((Below.refl w.heap.size w).alloc (Nat.le_refl _) ob) e.lt
theorem Ew.setCells (e : Ew w g h l) {b : Nat} (hb : b ≠ g) (o : Nat) (vs : List Value) : Ew (w.setCells b o vs) g h l := e.block (heap_setCells b g (fun x => hb x.symm) vs o w)
theorem Ew.setCell (e : Ew w g h l) {p : Addr} (hp : p.block ≠ g) (v : Value) : Ew (w.setCell p v) g h l := e.block (Below.heap_setCell w p v g (fun x => hp x.symm))
theorem Ew.whole (e : Ew w g h l) (h' l' : Nat) : Ew (w.setCells g 0 (es h' l')) g h' l' := by
  have hin : ∀ q, q < (es h' l').length → (w.cell? ⟨g, 0 + q, none⟩).isSome = true := fun q hq => (e.2 q hq).1
  have h0 := World.cell?_setCells_in g (es h' l') 0 w hin 0 (by simp [es])
  have h1 := World.cell?_setCells_in g (es h' l') 0 w hin 1 (by simp [es])
  exact Ew.mk h0 h1 ((World.frozen?_setCells _ _ _ _ _).trans e.free0) ((World.frozen?_setCells _ _ _ _ _).trans e.free1)
theorem Ew.new (w : World) (h l n : Nat) (hn : n = w.heap.size) : Ew (w.alloc (.cells (es h l).toArray 158)) n h l := by
  subst hn
  refine Ew.mk ?_ ?_ (World.frozen?_alloc_at _ _ _ _ rfl) (World.frozen?_alloc_at _ _ _ _ rfl)
  · rw [World.cell?_alloc_at _ _ _ _ rfl]; rfl
  · rw [World.cell?_alloc_at _ _ _ _ rfl]; rfl
end
section
variable {w : World} {ops : Array Oper} {rest : List Oper} {o : Oper} {a : Act} {Q : Exit → Act → World → Prop}
theorem wpList_ldE (hgd : o.guard = none) (x : Operand) (hop : o.op = .load 158 x) (g : Nat) (hx : a.eval x = .pointer (some ⟨g, 0, none⟩)) (h l : Nat) (hc : Ew w g h l)
    (hk : wpList Tryz.prog ops Q rest (a.put o.dst (EV h l)) w) : wpList Tryz.prog ops Q (o :: rest) a w := by
  obtain ⟨d, hu, hd⟩ := row_elem
  exact wpList_load_mid hgd _ x hop g 0 hx (es h l) d hc.1 hu hd sz_elem hk
theorem wpList_stE (hgd : o.guard = none) (x y : Operand) (hop : o.op = .store 158 x y) (g : Nat) (hx : a.eval x = .pointer (some ⟨g, 0, none⟩)) (h l h0 l0 : Nat) (hy : a.eval y = EV h l) (hc : Ew w g h0 l0)
    (hk : wpList Tryz.prog ops Q rest (a.put o.dst undef) (w.setCells g 0 (es h l))) : wpList Tryz.prog ops Q (o :: rest) a w :=
  wpList_store_mid hgd _ x y hop g 0 (es h l).toArray hx hy hc.2 sz_elem (es_all h l) (by simpa using hk)
end
theorem res_ew {fn : Func} {p : Tmp} (hr : fn.results = #[.cell p 158]) (tmps : Array Value) (w : World) (b H L : Nat) (ht : tmps.getD p undef = .pointer (some ⟨b, 0, none⟩)) (hc : Ew w b H L) :
    (results fn tmps).run Tryz.prog w = .ok (EV H L) w := res_cellE hr tmps w b H L ht hc.1
end Go.Proofs.YthllaoeioddddaaGreat

/- layer 4: elements as numbers, in memory; One. Conditions: numbers of 128 bits. -/
namespace Go.Proofs.YthllaoeioddddaaGreat
open Go.RowKit
set_option linter.unusedVariables false

/-- A number as an element. -/
def PE (x : Nat) : Value := EV (x / 2 ^ 64) (x % 2 ^ 64)
def Xw (w : World) (g x : Nat) : Prop := Ew w g (x / 2 ^ 64) (x % 2 ^ 64)
def RetP (x : Nat) (w : World) (e : Ending) (w' : World) : Prop := e = .returned (PE x) ∧ Below w.heap.size w w'
theorem hl_parts (x : Nat) : hl (x / 2 ^ 64) (x % 2 ^ 64) = x := by unfold hl; omega
theorem pe_hl (p q : Nat) (hq : q < 2 ^ 64) : PE (hl p q) = EV p q := by
  unfold PE
  have h := hl_inj (hl p q / 2 ^ 64) (hl p q % 2 ^ 64) p q (by omega) hq (hl_parts _)
  rw [h.1, h.2]
theorem wpList_ldX {w : World} {ops : Array Oper} {rest : List Oper} {o : Oper} {a : Act} {Q : Exit → Act → World → Prop} (hgd : o.guard = none) (x : Operand) (hop : o.op = .load 158 x) (g : Nat) (hx : a.eval x = .pointer (some ⟨g, 0, none⟩)) (n : Nat) (hc : Xw w g n)
    (hk : wpList Tryz.prog ops Q rest (a.put o.dst (PE n)) w) : wpList Tryz.prog ops Q (o :: rest) a w := wpList_ldE hgd x hop g hx _ _ hc hk
theorem wpList_stX {w : World} {ops : Array Oper} {rest : List Oper} {o : Oper} {a : Act} {Q : Exit → Act → World → Prop} (hgd : o.guard = none) (x y : Operand) (hop : o.op = .store 158 x y) (g : Nat) (hx : a.eval x = .pointer (some ⟨g, 0, none⟩)) (n m : Nat) (hy : a.eval y = PE n) (hc : Xw w g m)
    (hk : wpList Tryz.prog ops Q rest (a.put o.dst undef) (w.setCells g 0 (es (n / 2 ^ 64) (n % 2 ^ 64)))) : wpList Tryz.prog ops Q (o :: rest) a w := wpList_stE hgd x y hop g hx _ _ _ _ hy hc hk
theorem wpList_boxX {w : World} {ops : Array Oper} {rest : List Oper} {o : Oper} {a : Act} {Q : Exit → Act → World → Prop} (hgd : o.guard = none) (T : TypeId) (x : Operand) (hop : o.op = .box T x) (n : Nat) (hx : a.eval x = PE n)
    (h : wpList Tryz.prog ops Q rest (a.put o.dst (.pointer (some ⟨w.heap.size, 0, none⟩))) (w.alloc (.cells (es (n / 2 ^ 64) (n % 2 ^ 64)).toArray T))) : wpList Tryz.prog ops Q (o :: rest) a w := by
  refine wpList_plain hgd fun K hK => ?_
  have hr : (Instr.box T (PE n)).run Tryz.prog w = .ok (.pointer (some ⟨w.heap.size, 0, none⟩)) (w.alloc (.cells (es (n / 2 ^ 64) (n % 2 ^ 64)).toArray T)) := rfl
  unfold Oper.wp execOp
  simp only [hop, hx, Sem.run_bind, hr, Result.andThen_ok]
  exact hK _ _ h
theorem Ew.set0 {w : World} {g h l : Nat} (e : Ew w g h l) (x : Nat) : Ew (w.setCell ⟨g, 0, none⟩ (.int .u64 (x : Int))) g x l :=
  Ew.mk (World.cell?_setCell_same' _ _ _ (by rw [e.at0]; rfl)) ((World.cell?_setCell_other _ _ _ _ (by simp)).trans e.at1) ((World.frozen?_setCell _ _ _ _).trans e.free0) ((World.frozen?_setCell _ _ _ _).trans e.free1)
theorem Ew.set1 {w : World} {g h l : Nat} (e : Ew w g h l) (x : Nat) : Ew (w.setCell ⟨g, 1, none⟩ (.int .u64 (x : Int))) g h x :=
  Ew.mk ((World.cell?_setCell_other _ _ _ _ (by simp)).trans e.at0) (World.cell?_setCell_same' _ _ _ (by rw [e.at1]; rfl)) ((World.frozen?_setCell _ _ _ _).trans e.free0) ((World.frozen?_setCell _ _ _ _).trans e.free1)
theorem pe_lt (x : Nat) (hx : x < 2 ^ 128) : x / 2 ^ 64 < 2 ^ 64 ∧ x % 2 ^ 64 < 2 ^ 64 := by omega
end Go.Proofs.YthllaoeioddddaaGreat

/- layer 4: Next. Condition: the number has 128 bits. -/
namespace Go.Proofs.YthllaoeioddddaaGreat
open Go.RowKit
set_option linter.unusedVariables false

set_option maxRecDepth 100000 in
set_option maxHeartbeats 2000000 in
theorem next_any (h l : Nat) (w : World) (hh : h < 2 ^ 64) (hl' : l < 2 ^ 64) :
    Calls Tryz.prog 160 #[EV h l] w (RetE (h / 2 ^^^ (l % 2 * 16212958658533785600)) (h % 2 * 2 ^ 63 + l / 2) w) := by
  have hj : bits .or .u64 ((l : Int) / 2) (IntKind.u64.wrap ((h : Int) * 9223372036854775808)) = ((h % 2 * 2 ^ 63 + l / 2 : Nat) : Int) := by
    rw [shl63, show ((l : Int) / 2) = ((l / 2 : Nat) : Int) by omega, u64_or_nat _ _ (by omega) (by omega), Nat.or_comm, nat_join 63 _ _ (by omega) (by omega)]
  obtain ⟨L, HL⟩ : ∃ L, Hid (L = h % 2 * 2 ^ 63 + l / 2) := ⟨_, Lib.hid rfl⟩
  rw [← HL.out] at hj ⊢
  have h2 : (h : Int) / 2 = ((h / 2 : Nat) : Int) := by omega
  have h3 : h / 2 < 2 ^ 64 := by omega
  have ha := and1 l hl'
  have hx := u64_xor_nat (h / 2) 16212958658533785600 h3 (by omega)
  obtain ⟨H2, HH2⟩ : ∃ H2, Hid (H2 = h / 2) := ⟨_, Lib.hid rfl⟩
  rw [← HH2.out] at h2 hx ⊢
  obtain ⟨X, HX⟩ : ∃ X, Hid (X = H2 ^^^ 16212958658533785600) := ⟨_, Lib.hid rfl⟩
  rw [← HX.out] at hx
  have hx' : bits .xor .u64 (H2 : Int) 16212958658533785600 = (X : Int) := hx
  clear hx h3 hh hl'
  obtain ⟨G, HG⟩ : ∃ G, Hid (G = w.heap.size) := ⟨_, Lib.hid rfl⟩
  obtain ⟨W0, HW0⟩ : ∃ W0, Hid (W0 = (((w.alloc (.cells (es h l).toArray 158)).alloc (.cells (es 0 0).toArray 158)).alloc (.cells (es 0 0).toArray 158)).setCells (w.heap.size + 1 + 1) 0 (es H2 L)) := ⟨_, Lib.hid rfl⟩
  have HN0 : Ew (((w.alloc (.cells (es h l).toArray 158)).alloc (.cells (es 0 0).toArray 158)).alloc (.cells (es 0 0).toArray 158)) (w.heap.size + 1 + 1) 0 0 := Ew.new _ 0 0 _ (by simp)
  have HE0 : Hid (Ew W0 G h l) := Lib.hid (by rw [HW0.out, HG.out]; exact (((Ew.new w h l _ rfl).alloc _).alloc _).setCells (by omega) _ _)
  have HR0 : Hid (Ew W0 (G + 1) 0 0) := Lib.hid (by rw [HW0.out, HG.out]; exact ((Ew.new _ 0 0 _ (by simp)).alloc _).setCells (by omega) _ _)
  have HP0 : Hid (Ew W0 (G + 1 + 1) H2 L) := Lib.hid (by rw [HW0.out, HG.out]; exact HN0.whole _ _)
  have HB0 : Hid (Below w.heap.size w W0) := Lib.hid (by rw [HW0.out]; exact below_setCells (((below_alloc w _).alloc (by simp) _).alloc (by simp; omega) _) (by omega) _ _)
  have HN1 := Lib.hid HN0
  clear HN0
  have ce0 := HE0.out.at0
  have ce1 := HE0.out.at1
  have cp0 := HP0.out.at0
  have cf0 := HP0.out.free0
  rw [HG.out] at ce0 ce1 cp0 cf0
  rcases Nat.mod_two_eq_zero_or_one l with hm | hm
  · rw [hm] at ha ⊢
    have ha' : bits .and .u64 (l : Int) 1 = 0 := ha
    rw [Nat.zero_mul, Nat.xor_zero]
    clear ha
    unfold EV RetE EV
    go_enter Tryz.func160, Tryz.ntmps160
    go_wp2_with (first | (refine wpList_stE rfl (.tmp 3) (.tmp 14) rfl (w.heap.size + 1 + 1) rfl H2 L 0 0 rfl (by exact HN1.out) ?_; show wpList _ _ _ _ _ ((((w.alloc (.cells (es h l).toArray 158)).alloc (.cells (es 0 0).toArray 158)).alloc (.cells (es 0 0).toArray 158)).setCells (w.heap.size + 1 + 1) 0 (es H2 L)); rw [← HW0.out]) | (refine wpList_ldE rfl (.tmp 3) rfl (w.heap.size + 1 + 1) rfl H2 L (by rw [← HG.out]; exact HP0.out) ?_) | (refine wpList_stE rfl (.tmp 2) (.tmp 23) rfl (w.heap.size + 1) rfl H2 L 0 0 rfl (by rw [← HG.out]; exact HR0.out) ?_))
    refine bodyPost_ret (v := EV H2 L) (res_ew rfl _ _ (w.heap.size + 1) H2 L rfl ?_) rfl ⟨rfl, ?_⟩
    · rw [← HG.out]; exact HR0.out.whole _ _
    · exact below_setCells HB0.out (by omega) _ _
  · rw [hm] at ha ⊢
    have ha' : bits .and .u64 (l : Int) 1 = 1 := ha
    rw [Nat.one_mul, ← HX.out]
    clear ha
    unfold EV RetE EV
    go_enter Tryz.func160, Tryz.ntmps160
    go_wp2_with (first | (refine wpList_stE rfl (.tmp 3) (.tmp 14) rfl (w.heap.size + 1 + 1) rfl H2 L 0 0 rfl (by exact HN1.out) ?_; show wpList _ _ _ _ _ ((((w.alloc (.cells (es h l).toArray 158)).alloc (.cells (es 0 0).toArray 158)).alloc (.cells (es 0 0).toArray 158)).setCells (w.heap.size + 1 + 1) 0 (es H2 L)); rw [← HW0.out]) | (refine wpList_ldE rfl (.tmp 3) rfl (w.heap.size + 1 + 1) rfl X L (by rw [← HG.out]; exact HP0.out.set0 X) ?_) | (refine wpList_stE rfl (.tmp 2) (.tmp 23) rfl (w.heap.size + 1) rfl X L 0 0 rfl (by rw [← HG.out]; exact HR0.out.setCell (by simp) _) ?_))
    refine bodyPost_ret (v := EV X L) (res_ew rfl _ _ (w.heap.size + 1) X L rfl ?_) rfl ⟨rfl, ?_⟩
    · rw [← HG.out]; exact (HR0.out.setCell (by simp) _).whole _ _
    · exact below_setCells (HB0.out.setCell (p := ⟨w.heap.size + 1 + 1, 0, none⟩) (by simp; omega) _) (by omega) _ _
/-- The product with x, of a number. -/
theorem next_pe (a : Nat) (w : World) (ha : a < 2 ^ 128) : Calls Tryz.prog 160 #[PE a] w (RetP (gNext a) w) := by
  have h1 := pe_lt a ha
  refine (next_any _ _ w h1.1 h1.2).mono ?_
  rintro e w' ⟨rfl, hb⟩
  refine ⟨?_, hb⟩
  have h2 := hl_next (a / 2 ^ 64) (a % 2 ^ 64) h1.2
  rw [hl_parts] at h2
  rw [h2, pe_hl _ _ (by omega)]
end Go.Proofs.YthllaoeioddddaaGreat

/- layer 4: Sum of elements that lie in a slice. Condition: numbers of 128 bits. -/
namespace Go.Proofs.YthllaoeioddddaaGreat
open Go.RowKit
set_option linter.unusedVariables false

/-- The slice (A, n, _) reads as the elements xs, below block B. -/
def XE (w : World) (B : Nat) (A : Option Addr) (n : Nat) (xs : List Nat) : Prop :=
  xs.length = n ∧ (∀ (i x : Nat), xs[i]? = some x → x < 2 ^ 128) ∧ (0 < n → ∃ g o, A = some ⟨g, o, none⟩ ∧ g < B ∧ ∀ (i x : Nat), xs[i]? = some x → w.rangeAt g (o + i * 2) (es (x / 2 ^ 64) (x % 2 ^ 64)))
theorem XE.step {w w' : World} {B : Nat} {A : Option Addr} {n : Nat} {xs : List Nat} (h : XE w B A n xs) (hb : Below B w w') : XE w' B A n xs := by
  refine ⟨h.1, h.2.1, fun hn => ?_⟩
  obtain ⟨g, o, hA, hg, hc⟩ := h.2.2 hn
  exact ⟨g, o, hA, hg, fun i x hx j v hv => (hb.cell (p := ⟨g, o + i * 2 + j, none⟩) hg).trans (hc i x hx j v hv)⟩
theorem XE.lt {w : World} {B B' : Nat} {A : Option Addr} {n : Nat} {xs : List Nat} (h : XE w B A n xs) (hB : B ≤ B') : XE w B' A n xs := by
  refine ⟨h.1, h.2.1, fun hn => ?_⟩
  obtain ⟨g, o, hA, hg, hc⟩ := h.2.2 hn
  exact ⟨g, o, hA, by omega, hc⟩
attribute [local irreducible] gSum hl

set_option maxRecDepth 100000 in
set_option maxHeartbeats 4000000 in
theorem psum_any (A : Option Addr) (n c : Nat) (xs : List Nat) (w : World) (hn : n ≤ maxLen) (hX : XE w w.heap.size A n xs) :
    Calls Tryz.prog 132 #[.slice A n c] w (RetP (gSum xs 0) w) := by
  have HX := Lib.hid hX
  clear hX
  have hl2 := HX.out.1
  unfold maxLen at hn
  obtain ⟨G, HG⟩ : ∃ G, Hid (G = w.heap.size) := ⟨_, Lib.hid rfl⟩
  go_enter Tryz.func132, Tryz.ntmps132
  go_wp2_with fail
  obtain ⟨W0, HW0⟩ : ∃ W0, Hid (W0 = ((w.alloc (.cells (es 0 0).toArray 158)).alloc (.cells (es 0 0).toArray 158))) := ⟨_, Lib.hid rfl⟩
  show Code.wp _ _ _ _ ((w.alloc (.cells (es 0 0).toArray 158)).alloc (.cells (es 0 0).toArray 158))
  have HR0 : Hid (Ew W0 G 0 0) := Lib.hid (by rw [HW0.out, HG.out]; exact (Ew.new _ 0 0 _ rfl).alloc _)
  have HP0 : Hid (Ew W0 (G + 1) 0 0) := Lib.hid (by rw [HW0.out, HG.out]; exact Ew.new _ 0 0 _ (by simp))
  have HB0 : Hid (Below w.heap.size w W0) := Lib.hid (by rw [HW0.out]; exact (below_alloc w _).alloc (by simp) _)
  rw [← HW0.out, ← HG.out]
  clear HW0
  go_loopw [8] (fun t wr => ∃ i ph pl : Nat, i ≤ n ∧ t = .int .i64 i ∧ Hid (ph < 2 ^ 64 ∧ pl < 2 ^ 64 ∧ hl ph pl = gSum (xs.take i) 0) ∧ Hid (Ew wr G 0 0) ∧ Hid (Ew wr (G + 1) ph pl) ∧ Hid (Below w.heap.size w wr)) (fun t _ => n - (intOf t).toNat)
  case atStart => exact ⟨0, 0, 0, by omega, rfl, Lib.hid ⟨by omega, by omega, by unfold gSum hl; rfl⟩, HR0, HP0, HB0⟩
  case round =>
    obtain ⟨i, ph, pl, hi, rfl, hv, hr, hp, hb⟩ := hrel
    clear HR0 HP0 HB0
    by_cases hlt : i < n
    · obtain ⟨g, o, rfl, hg, hc⟩ := HX.out.2.2 (by omega)
      obtain ⟨x, hx⟩ : ∃ x, xs[i]? = some x := ⟨_, List.getElem?_eq_getElem (by omega)⟩
      have HC := Lib.hid (hc i x hx)
      have HXL := Lib.hid (HX.out.2.1 i x hx)
      have HXI := Lib.hid hx
      clear hc hx
      obtain ⟨xh, HXH⟩ : ∃ xh, Hid (xh = x / 2 ^ 64 ∧ xh < 2 ^ 64) := ⟨_, Lib.hid ⟨rfl, (pe_lt x HXL.out).1⟩⟩
      obtain ⟨xl, HXl⟩ : ∃ xl, Hid (xl = x % 2 ^ 64 ∧ xl < 2 ^ 64) := ⟨_, Lib.hid ⟨rfl, (pe_lt x HXL.out).2⟩⟩
      have HC2 : Hid (wr.rangeAt g (o + i * 2) (es xh xl)) := Lib.hid (by rw [HXH.out.1, HXl.out.1]; exact fun j v hv => (hb.out.cell (p := ⟨g, o + i * 2 + j, none⟩) hg).trans (HC.out j v hv))
      obtain ⟨X0, HX0⟩ : ∃ X0, Hid (X0 = ph ^^^ xh ∧ X0 < 2 ^ 64) := ⟨_, Lib.hid ⟨rfl, Nat.xor_lt_two_pow hv.out.1 HXH.out.2⟩⟩
      obtain ⟨X1, HX1⟩ : ∃ X1, Hid (X1 = pl ^^^ xl ∧ X1 < 2 ^ 64) := ⟨_, Lib.hid ⟨rfl, Nat.xor_lt_two_pow hv.out.2.1 HXl.out.2⟩⟩
      have x0 : bits .xor .u64 (ph : Int) (xh : Int) = (X0 : Int) := by rw [HX0.out.1]; exact u64_xor_nat ph xh hv.out.1 HXH.out.2
      have x1 : bits .xor .u64 (pl : Int) (xl : Int) = (X1 : Int) := by rw [HX1.out.1]; exact u64_xor_nat pl xl hv.out.2.1 HXl.out.2
      have HV : Hid (hl X0 X1 = gSum (xs.take (i + 1)) 0) := Lib.hid (by rw [HX0.out.1, HX1.out.1, ← hl_xor ph pl xh xl hv.out.2.1 HXl.out.2, hv.out.2.2, HXH.out.1, HXl.out.1, hl_parts, List.take_add_one, HXI.out]; exact (gSum_snoc _ x 0).symm)
      obtain ⟨d, hu, hd⟩ := row_elem
      have HU := Lib.hid hu
      have HD := Lib.hid hd
      clear hu hd
      have hSG : G + 1 < wr.heap.size := hp.out.lt
      obtain ⟨W1, HW1⟩ : ∃ W1, Hid (W1 = (wr.alloc (.cells (es 0 0).toArray 158)).setCells wr.heap.size 0 (es xh xl)) := ⟨_, Lib.hid rfl⟩
      have HR1 : Hid (Ew W1 G 0 0) := Lib.hid (by rw [HW1.out]; exact (hr.out.alloc _).setCells (by omega) _ _)
      have HP1 : Hid (Ew W1 (G + 1) ph pl) := Lib.hid (by rw [HW1.out]; exact (hp.out.alloc _).setCells (by omega) _ _)
      have HN1 : Hid (Ew W1 wr.heap.size xh xl) := Lib.hid (by rw [HW1.out]; exact (Ew.new _ 0 0 _ rfl).whole _ _)
      have HB1 : Hid (Below w.heap.size w W1) := Lib.hid (by rw [HW1.out]; exact below_setCells (hb.out.alloc (by rw [← HG.out]; omega) _) (by rw [← HG.out]; omega) _ _)
      have c0 := HP1.out.at0
      have c1 := HP1.out.at1
      have f0 := HP1.out.free0
      have f1 := HP1.out.free1
      have n0 := HN1.out.at0
      have n1 := HN1.out.at1
      go_wp2_with (first | (refine wpList_load_mid rfl _ (.tmp 10) rfl g (o + i * 2) rfl (es xh xl) d (by exact HC2.out) HU.out HD.out sz_elem ?_) | (refine wpList_stE rfl (.tmp 5) (.tmp 11) rfl wr.heap.size rfl xh xl 0 0 rfl (by exact Ew.new _ 0 0 _ rfl) ?_; show wpList _ _ _ _ _ ((wr.alloc (.cells (es 0 0).toArray 158)).setCells wr.heap.size 0 (es xh xl)); rw [← HW1.out]))
      go_roundw
      case rel => exact ⟨i + 1, X0, X1, by omega, by go_num, Lib.hid ⟨HX0.out.2, HX1.out.2, HV.out⟩, Lib.hid ((HR1.out.setCell (by simp) _).setCell (by simp) _), Lib.hid ((HP1.out.set0 _).set1 _), Lib.hid ((HB1.out.setCell (p := ⟨G + 1, 0, none⟩) (by rw [HG.out]; simp) _).setCell (p := ⟨G + 1, 1, none⟩) (by rw [HG.out]; simp) _)⟩
      case measure => simp [intOf]; omega
    · obtain rfl : i = n := by omega
      go_wp2_with (first | (refine wpList_ldE rfl (.tmp 3) rfl (G + 1) rfl ph pl (by exact hp.out) ?_) | (refine wpList_stE rfl (.tmp 2) (.tmp 25) rfl G rfl ph pl 0 0 rfl (by exact hr.out) ?_))
      have e : PE (gSum xs 0) = EV ph pl := by
        have h := hv.out.2.2
        rw [← hl2, List.take_length] at h
        rw [← h, pe_hl _ _ hv.out.2.1]
      refine bodyPost_ret (v := EV ph pl) (res_ew rfl _ _ G ph pl rfl (hr.out.whole ph pl)) rfl ⟨by rw [e], ?_⟩
      exact below_setCells hb.out (by rw [HG.out]; omega) 0 _
end Go.Proofs.YthllaoeioddddaaGreat

