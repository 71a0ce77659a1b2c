/- Maps whose keys are bools, known by their whole block: insert, look-up, a range in whatever order. Nothing is claimed of the program here. -/
import Derived.Test.YtkcchidklcnnnaaGreatRec
import Derived.Maps.RangeRun
namespace Go.Proofs.YtkcchidklcnnnaaGreat
open Go.RowKit
set_option linter.unusedVariables false
set_option linter.unusedSimpArgs false
theorem oth_block (w : World) (r : Nat) (o : Obj) : Oth [r] w { w with heap := w.heap.setIfInBounds r o } :=
  ⟨rfl, rfl, rfl, by simp, fun k hk hn => by
    have : r ≠ k := fun e => hn (by rw [e]; exact List.mem_singleton.2 rfl)
    simp [this]⟩
section
variable {w : World} {ops : Array Oper} {rest : List Oper} {o : Oper} {a : Act} {Q : Exit → Act → World → Prop} {T kt et : TypeId}
theorem run_insB (hm : Tryz.prog.underlying T = some (.map kt et)) (hk : Tryz.prog.underlying kt = some .bool) (r : Nat) (b : Bool) (v : Value) (es : Array MapEntry) (clock : Nat) (hb : w.heap[r]? = some (.map es clock)) (hf : Instr.findNow .bool (.bool b) es.toList 0 = some none) :
    (Instr.mapUpdate T (.map (some r)) (.bool b) v).run Tryz.prog w = .ok () { w with heap := w.heap.setIfInBounds r (.map (es.push { key := .bool b, val := v, born := clock }) (clock + 1)) } := by
  have hc : (Instr.checkKey false 10000 kt (.bool b)).run Tryz.prog w = .ok () w := MapKept.run_checkKey (k := .bool b) hk (by simp [MapKept.IsKey]) false 9999
  simp [Instr.mapUpdate, run_underlying hm, MapKept.run_getObj_map hb, hc, MapKept.run_findKey hk hf, MapKept.run_setObj_map _ hb, Result.andThen]
theorem wpList_insB (hm : Tryz.prog.underlying T = some (.map kt et)) (hk : Tryz.prog.underlying kt = some .bool) (hgd : o.guard = none) (m k x : Operand) (hop : o.op = .insert T m k x) (r : Nat) (hm' : a.eval m = .map (some r)) (b : Bool) (hk' : a.eval k = .bool b) (v : Value) (hv : a.eval x = v)
    (es : Array MapEntry) (clock : Nat) (hb : w.heap[r]? = some (.map es clock)) (hf : Instr.findNow .bool (.bool b) es.toList 0 = some none)
    (hK : ∀ w', w'.heap[r]? = some (.map (es.push { key := .bool b, val := v, born := clock }) (clock + 1)) → Oth [r] w w' → w'.heap.size = w.heap.size → wpList Tryz.prog ops Q rest (a.put o.dst undef) w') : wpList Tryz.prog ops Q (o :: rest) a w := by
  have hrun := run_insB hm hk r b v es clock hb hf
  have hK := hK _ (MapKept.heap_set hb).1 (oth_block w r _) (by simp)
  refine wpList_plain hgd fun K hK' => ?_
  unfold Oper.wp execOp
  simp only [hop, hm', hk', hv, Sem.run_bind, hrun, Result.andThen_ok]
  exact hK' _ _ hK
theorem run_lkB (hm : Tryz.prog.underlying T = some (.map kt et)) (hk : Tryz.prog.underlying kt = some .bool) (r : Nat) (b : Bool) (v : Value) (i : Nat) (es : Array MapEntry) (clock : Nat) (hb : w.heap[r]? = some (.map es clock)) (hf : Instr.findNow .bool (.bool b) es.toList 0 = some (some (i, v))) :
    (Instr.lookup T (.map (some r)) (.bool b) false).run Tryz.prog w = .ok v w := by
  have hc : (Instr.checkKey es.isEmpty 10000 kt (.bool b)).run Tryz.prog w = .ok () w := MapKept.run_checkKey (k := .bool b) hk (by simp [MapKept.IsKey]) _ 9999
  simp [Instr.lookup, run_underlying hm, MapKept.run_getObj_map hb, hc, MapKept.run_findKey hk hf, Result.andThen]
end
/-- A step of a range: nothing is left, or an entry that is left, whichever. -/
theorem nx_step (w : World) (r bm : Nat) (seen : Array Nat) (es : Array MapEntry) (clock : Nat) (hr : w.heap[r]? = some (.mapIter (some bm) clock seen clock)) (hb : w.heap[bm]? = some (.map es clock)) (hold : ∀ x ∈ es.toList, x.born < clock) (hn : (es.toList.map (·.born)).Nodup) :
    ((∀ x ∈ es.toList, seen.contains x.born = true) ∧ ∀ ty, (Instr.next (.pointer (some ⟨r, 0, none⟩)) false ty).run Tryz.prog w = .ok (.tuple #[.bool false]) w) ∨
    ∃ e ∈ es.toList, seen.contains e.born = false ∧ ∃ w2 : World, (∀ ty, (Instr.next (.pointer (some ⟨r, 0, none⟩)) false ty).run Tryz.prog w = .ok (.tuple #[.bool true, e.key, e.val]) w2) ∧ w2.heap[r]? = some (.mapIter (some bm) clock (seen.push e.born) clock) ∧ Oth [r] w w2 ∧ w2.heap.size = w.heap.size ∧ (Instr.entry (.pointer (some ⟨r, 0, none⟩))).run Tryz.prog w2 = .ok (.tuple #[e.key, e.val]) w2 := by
  have hrb : r ≠ bm := fun e => by subst e; rw [hr] at hb; cases hb
  rcases run_next_at (P := Tryz.prog) w 0 r bm clock clock seen es clock hr hb hold (Nat.le_refl _) with ⟨h0, hrun⟩ | ⟨e, he, w1, hw1, hrun⟩
  · refine .inl ⟨fun x hx => ?_, fun _ => hrun⟩
    cases hc : seen.contains x.born with
    | true => rfl
    | false =>
      have : x ∈ leftOf es seen := by unfold leftOf; exact Array.mem_filter.2 ⟨Array.mem_toList_iff.1 hx, by rw [hc]; rfl⟩
      have h1 := Array.size_pos_of_mem this
      omega
  · have hm := mem_left he
    have hr1 : w1.heap[r]? = some (.mapIter (some bm) clock seen clock) := by rcases hw1 with rfl | rfl <;> exact hr
    have hb1 : w1.heap[bm]? = some (.map es clock) := by rcases hw1 with rfl | rfl <;> exact hb
    have ho1 : Oth [r] w w1 := by
      rcases hw1 with rfl | rfl
      · exact Oth.refl _ _
      · exact Oth.of_below (Below.refl _ _).drew
    have hs1 : w1.heap.size = w.heap.size := by rcases hw1 with rfl | rfl <;> rfl
    have hlt : r < w1.heap.size := (Array.getElem?_eq_some_iff.1 hr1).1
    have hr2 : (ChangeMaps.setBlock w1 r (.mapIter (some bm) clock (seen.push e.born) clock)).heap[r]? = some (.mapIter (some bm) clock (seen.push e.born) clock) := by
      show (w1.heap.setIfInBounds r _)[r]? = _
      simp [hlt]
    have hb2 : (ChangeMaps.setBlock w1 r (.mapIter (some bm) clock (seen.push e.born) clock)).heap[bm]? = some (.map es clock) := by
      show (w1.heap.setIfInBounds r _)[bm]? = _
      simp [hrb, hb1]
    refine .inr ⟨e, hm.1, hm.2, _, fun _ => hrun, hr2, ho1.trans (oth_block w1 r _), ?_, run_entry_at _ r bm clock seen es clock e hr2 hb2 hm.1 hn⟩
    show (w1.heap.setIfInBounds r _).size = _
    simp [hs1]
theorem iter_at {w : World} {r : Nat} {m : Option Nat} {a b : Nat} {s : Array Nat} (h : w.heap[r]? = some (.mapIter m a s b)) : w.iterSeen r = s := by
  unfold World.iterSeen
  rw [h]
end Go.Proofs.YtkcchidklcnnnaaGreat
