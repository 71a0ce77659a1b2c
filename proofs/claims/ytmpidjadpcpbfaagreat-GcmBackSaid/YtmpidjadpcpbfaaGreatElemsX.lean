/- Slices of elements that a call makes itself. Conditions: lengths within the model's bounds. -/
import Derived.Test.YtmpidjadpcpbfaaGreatRowsX
import Derived.Test.YtmpidjadpcpbfaaGreatPolyElem
namespace Go.Proofs.YtmpidjadpcpbfaaGreat
open Go.RowKit
set_option linter.unusedVariables false

def eC (x : Nat) : List Value := es (x / 2 ^ 64) (x % 2 ^ 64)
theorem cells_pe : CellsOf 75 127 2 16 (.agg #[.int .u64 0, .int .u64 0]) eC :=
  ⟨Tryz.underlying127, by kernel_rfl, rfl, by omega, fun x => rfl, fun x u hu => by
    simp only [eC, es, List.mem_cons, List.not_mem_nil, or_false] at hu
    rcases hu with rfl | rfl <;> rfl⟩
abbrev OwnE (w : World) (base : Nat) (A : Option Addr) (n c : Nat) (xs : List Nat) : Prop := OwnX 75 2 eC w base A n c xs
theorem OwnX.form2 {T : TypeId} {k : Nat} {f : Nat → List Value} {w : World} {base n c : Nat} {A : Option Addr} {xs : List Nat} (h : OwnX T k f w base A n c xs) (hn : 0 < n) : ∃ g, A = some ⟨g, 0, none⟩ := by
  rcases h.1.2 with ⟨_, h0⟩ | ⟨g, cap, cur, hv, _⟩
  · omega
  · injection hv with hA
    exact ⟨g, hA⟩
theorem OwnE.xe {w : World} {base n c : Nat} {A : Option Addr} {xs : List Nat} (h : OwnE w base A n c xs) (hx : ∀ (i x : Nat), xs[i]? = some x → x < 2 ^ 128) : XE w w.heap.size A n xs := by
  refine ⟨h.2, hx, fun hn => ?_⟩
  obtain ⟨g, rfl⟩ := OwnX.form2 h hn
  have hg : g < w.heap.size := (World.ownsRow.lt h.1 g rfl).2
  refine ⟨g, 0, rfl, hg, fun i x hi => ?_⟩
  obtain ⟨g2, e, _, _, hr⟩ := OwnX.at_ h (fun x => rfl) hi
  injection e with e
  injection e with e
  subst e
  rw [Nat.zero_add]
  exact hr
theorem run_oneE (w : World) (h l : Nat) : (Instr.buildSlice 127 1 #[(0, EV h l)]).run Tryz.prog w = .ok (.slice (some ⟨w.heap.size, 0, none⟩) 1 1) (w.alloc (.cells (es h l).toArray 75)) := by unfold EV es; go_simp
/-- A slice of one element that a call lays. -/
theorem wpList_oneE {w : World} {ops : Array Oper} {rest : List Oper} {o : Oper} {a : Act} {Q : Exit → Act → World → Prop} (hgd : o.guard = none) (x : Operand) (hop : o.op = .buildSlice 127 1 #[(0, x)]) (n : Nat) (hx : a.eval x = PE n)
    (hk : wpList Tryz.prog ops Q rest (a.put o.dst (.slice (some ⟨w.heap.size, 0, none⟩) 1 1)) (w.alloc (.cells (eC n).toArray 75))) : wpList Tryz.prog ops Q (o :: rest) a w := by
  refine wpList_plain hgd fun K hK => ?_
  unfold Oper.wp execOp
  have hx2 : a.eval x = EV (n / 2 ^ 64) (n % 2 ^ 64) := hx
  simp only [hop, List.map_toArray, List.map_cons, List.map_nil, hx2, Sem.run_bind, run_oneE, Result.andThen_ok]
  exact hK _ _ hk
theorem oneE_cells (w : World) (n : Nat) : ∀ j u, ([n].flatMap eC)[j]? = some u → (w.alloc (.cells (eC n).toArray 75)).cell? ⟨w.heap.size, j, none⟩ = some u := by
  intro j u hu
  rw [World.cell?_alloc_at _ _ _ _ rfl]
  simpa using hu
/-- append of one element to elements of the call's own. -/
theorem wpList_appE {w : World} {ops : Array Oper} {rest : List Oper} {o : Oper} {a : Act} {Q : Exit → Act → World → Prop} (hgd : o.guard = none) (s x : Operand)
    (ho : o.op = .call { callee := .builtin .append, args := #[s, x], argTypes := #[127, 127] })
    (base : Nat) (A : Option Addr) (n c : Nat) (xs : List Nat) (hs : a.eval s = .slice A n c) (hown : OwnE w base A n c xs) (g m c' : Nat) (ys : List Nat) (hx : a.eval x = .slice (some ⟨g, 0, none⟩) m c') (hm : ys.length = m)
    (hcell : ∀ j u, (ys.flatMap eC)[j]? = some u → w.cell? ⟨g, j, none⟩ = some u) (hmax : n + m ≤ 1000000000) (hbase : base ≤ w.heap.size)
    (h : ∀ A'' c'' w', OwnE w' base A'' (n + m) c'' (xs ++ ys) → Below base w w' → wpList Tryz.prog ops Q rest (a.put o.dst (.slice A'' (n + m) c'')) w') : wpList Tryz.prog ops Q (o :: rest) a w :=
  wpList_appX cells_pe hgd s x ho base A n c xs hs hown g m c' ys hx hm hcell (by unfold maxLen; omega) (by omega) hbase h
end Go.Proofs.YtmpidjadpcpbfaaGreat
