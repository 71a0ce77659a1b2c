/- Equality of coefficients. No conditions. -/
import Derived.Test.YtmpidjadpcpbfaaRefPolyMp
import Derived.ChangeKeysEq
import Derived.Laws.StructEq
namespace Go.Proofs.Ytmpidjadpcpbfaa
open Go.RowKit
set_option linter.unusedVariables false

theorem items_T (l : List Bool) (d : Nat) (w : World) : ∀ is : List Nat, (∀ i ∈ is, i < l.length) →
    (Op.eqItems (d + 1) 4 (Try.prog.cellsOf 4) (tvs l).toArray (tvs l).toArray is).run Try.prog w = .ok true w
  | [], _ => by simp [Op.eqItems]
  | i :: is, h => by
    have hc : Try.prog.cellsOf 4 = 1 := by kernel_rfl
    have hu : Try.prog.underlying 4 = some .bool := by kernel_rfl
    have hp : Try.prog.plainKey 4 = true := by simp [Program.plainKey, hu]
    have hi := h i (by simp)
    have hx : ((tvs l).toArray)[i * 1]? = some (tv (l[i]'hi)) := by simp [tvs, hi]
    have ih := items_T l d w is (fun j hj => h j (by simp [hj]))
    simp only [Op.eqItems, Sem.run_bind, hc, run_part_plain w hp hx, Result.andThen_ok]
    have he : (Op.equalIn (d + 1) 4 (tv (l[i]'hi)) (tv (l[i]'hi))).run Try.prog w = .ok true w := by
      unfold tv
      rw [run_equalIn_bool w d _ _ _ hu]
      simp
    rw [he]
    simp only [Result.andThen_ok, Bool.not_true, Bool.false_eq_true, if_false]
    rw [hc] at ih
    exact ih
end Go.Proofs.Ytmpidjadpcpbfaa
