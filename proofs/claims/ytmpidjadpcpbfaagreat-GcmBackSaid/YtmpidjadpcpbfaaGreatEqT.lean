/- Equality of coefficients. No conditions. -/
import Derived.Test.YtmpidjadpcpbfaaGreatRefPolyMp
import Derived.ChangeKeysEq
import Derived.Laws.StructEq
namespace Go.Proofs.YtmpidjadpcpbfaaGreat
open Go.RowKit
set_option linter.unusedVariables false

theorem items_T (l : List Bool) (d : Nat) (w : World) : ∀ is : List Nat, (∀ i ∈ is, i < l.length) →
    (Op.eqItems (d + 1) 4 (Tryz.prog.cellsOf 4) (tvs l).toArray (tvs l).toArray is).run Tryz.prog w = .ok true w
  | [], _ => by simp [Op.eqItems]
  | i :: is, h => by
    have hc : Tryz.prog.cellsOf 4 = 1 := by kernel_rfl
    have hu : Tryz.prog.underlying 4 = some .bool := by kernel_rfl
    have hp : Tryz.prog.plainKey 4 = true := by simp [Program.plainKey, hu]
    have hi := h i (by simp)
    have hx : ((tvs l).toArray)[i * 1]? = some (tv (l[i]'hi)) := by simp [tvs, hi]
    have ih := items_T l d w is (fun j hj => h j (by simp [hj]))
    simp only [Op.eqItems, Sem.run_bind, hc, run_part_plain w hp hx, Result.andThen_ok]
    have he : (Op.equalIn (d + 1) 4 (tv (l[i]'hi)) (tv (l[i]'hi))).run Tryz.prog w = .ok true w := by
      unfold tv
      rw [run_equalIn_bool w d _ _ _ hu]
      simp
    rw [he]
    simp only [Result.andThen_ok, Bool.not_true, Bool.false_eq_true, if_false]
    rw [hc] at ih
    exact ih
theorem eql_T (l : List Bool) (w : World) (hl : l.length = 128) : (binOp .eql 102 (BV l) (BV l)).run Tryz.prog w = .ok (.bool true) w := by
  unfold BV
  rw [run_eql_struct]
  have hi : ∃ i, Tryz.prog.info? 4 = some i := by
    rcases h : Tryz.prog.info? 4 with _ | i
    · have : (Tryz.prog.info? 4).isSome = true := by kernel_rfl
      rw [h] at this; cases this
    · exact ⟨i, rfl⟩
  obtain ⟨i, hi⟩ := hi
  rw [show (10000 : Nat) = 9999 + 1 from rfl, run_equalIn_array w 9999 _ _ up_poly hi, show (9999 : Nat) = 9998 + 1 from rfl, items_T l 9998 w _ (fun j hj => by rw [hl]; exact List.mem_range.1 hj)]
  rfl
theorem eql_co (x : Nat) (w : World) : (binOp .eql 102 (BV (co x)) (BV (co x))).run Tryz.prog w = .ok (.bool true) w := eql_T _ w (co_len x)
end Go.Proofs.YtmpidjadpcpbfaaGreat
