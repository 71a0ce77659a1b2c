/- layer 4: elements as numbers, in memory; One. Conditions: numbers of 128 bits. -/
import Derived.Test.YtilpdojliaiokaaElem
namespace Go.Proofs.Ytilpdojliaiokaa
open Go.RowKit
set_option linter.unusedVariables false

/-- A number as an element. -/
def PE (x : Nat) : Value := EV (x / 2 ^ 64) (x % 2 ^ 64)
def Xw (w : World) (g x : Nat) : Prop := Ew w g (x / 2 ^ 64) (x % 2 ^ 64)
def RetP (x : Nat) (w : World) (e : Ending) (w' : World) : Prop := e = .returned (PE x) ∧ Below w.heap.size w w'
theorem hl_parts (x : Nat) : hl (x / 2 ^ 64) (x % 2 ^ 64) = x := by unfold hl; omega
theorem pe_hl (p q : Nat) (hq : q < 2 ^ 64) : PE (hl p q) = EV p q := by
  unfold PE
  have h := hl_inj (hl p q / 2 ^ 64) (hl p q % 2 ^ 64) p q (by omega) hq (hl_parts _)
  rw [h.1, h.2]
theorem one_any (w : World) : Calls Try.prog 27 #[] w (RetP gOne w) := by
  go_enter Try.func27, Try.ntmps27
  go_wp2_with fail
  refine bodyPost_ret (v := PE gOne) (res_ew rfl _ _ w.heap.size 9223372036854775808 0 rfl (Ew.new w 9223372036854775808 0 _ rfl)) rfl ⟨rfl, below_alloc _ _⟩
theorem wpList_ldX {w : World} {ops : Array Oper} {rest : List Oper} {o : Oper} {a : Act} {Q : Exit → Act → World → Prop} (hgd : o.guard = none) (x : Operand) (hop : o.op = .load 36 x) (g : Nat) (hx : a.eval x = .pointer (some ⟨g, 0, none⟩)) (n : Nat) (hc : Xw w g n)
    (hk : wpList Try.prog ops Q rest (a.put o.dst (PE n)) w) : wpList Try.prog ops Q (o :: rest) a w := wpList_ldE hgd x hop g hx _ _ hc hk
theorem wpList_stX {w : World} {ops : Array Oper} {rest : List Oper} {o : Oper} {a : Act} {Q : Exit → Act → World → Prop} (hgd : o.guard = none) (x y : Operand) (hop : o.op = .store 36 x y) (g : Nat) (hx : a.eval x = .pointer (some ⟨g, 0, none⟩)) (n m : Nat) (hy : a.eval y = PE n) (hc : Xw w g m)
    (hk : wpList Try.prog ops Q rest (a.put o.dst undef) (w.setCells g 0 (es (n / 2 ^ 64) (n % 2 ^ 64)))) : wpList Try.prog ops Q (o :: rest) a w := wpList_stE hgd x y hop g hx _ _ _ _ hy hc hk
theorem wpList_boxX {w : World} {ops : Array Oper} {rest : List Oper} {o : Oper} {a : Act} {Q : Exit → Act → World → Prop} (hgd : o.guard = none) (T : TypeId) (x : Operand) (hop : o.op = .box T x) (n : Nat) (hx : a.eval x = PE n)
    (h : wpList Try.prog ops Q rest (a.put o.dst (.pointer (some ⟨w.heap.size, 0, none⟩))) (w.alloc (.cells (es (n / 2 ^ 64) (n % 2 ^ 64)).toArray T))) : wpList Try.prog ops Q (o :: rest) a w := by
  refine wpList_plain hgd fun K hK => ?_
  have hr : (Instr.box T (PE n)).run Try.prog w = .ok (.pointer (some ⟨w.heap.size, 0, none⟩)) (w.alloc (.cells (es (n / 2 ^ 64) (n % 2 ^ 64)).toArray T)) := rfl
  unfold Oper.wp execOp
  simp only [hop, hx, Sem.run_bind, hr, Result.andThen_ok]
  exact hK _ _ h
theorem pow_bit0 (n : Nat) (hn : n ≤ 18446744073709551615) (h : n % 2 = 0) : bits .and .u64 (n : Int) 1 = 0 := by rw [and1 n (by omega), h]; rfl
theorem pow_bit1 (n : Nat) (hn : n ≤ 18446744073709551615) (h : n % 2 = 1) : bits .and .u64 (n : Int) 1 = 1 := by rw [and1 n (by omega), h]; rfl
theorem Ew.set0 {w : World} {g h l : Nat} (e : Ew w g h l) (x : Nat) : Ew (w.setCell ⟨g, 0, none⟩ (.int .u64 (x : Int))) g x l :=
  Ew.mk (World.cell?_setCell_same' _ _ _ (by rw [e.at0]; rfl)) ((World.cell?_setCell_other _ _ _ _ (by simp)).trans e.at1) ((World.frozen?_setCell _ _ _ _).trans e.free0) ((World.frozen?_setCell _ _ _ _).trans e.free1)
theorem Ew.set1 {w : World} {g h l : Nat} (e : Ew w g h l) (x : Nat) : Ew (w.setCell ⟨g, 1, none⟩ (.int .u64 (x : Int))) g h x :=
  Ew.mk ((World.cell?_setCell_other _ _ _ _ (by simp)).trans e.at0) (World.cell?_setCell_same' _ _ _ (by rw [e.at1]; rfl)) ((World.frozen?_setCell _ _ _ _).trans e.free0) ((World.frozen?_setCell _ _ _ _).trans e.free1)
theorem pe_lt (x : Nat) (hx : x < 2 ^ 128) : x / 2 ^ 64 < 2 ^ 64 ∧ x % 2 ^ 64 < 2 ^ 64 := by omega
end Go.Proofs.Ytilpdojliaiokaa
