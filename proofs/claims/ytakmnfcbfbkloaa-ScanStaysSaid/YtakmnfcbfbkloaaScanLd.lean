/- Questions and parts loaded whole; a region that draws its order: what is held may grow on the way. No condition; nothing is claimed of the program here. -/
import Derived.Test.YtakmnfcbfbkloaaScanArg
import Derived.Deep.RegionHeld3
namespace Go.Proofs.Ytakmnfcbfbkloaa
open Go.RowKit
set_option linter.unusedVariables false

/-- What is held behind each operation may be made more on the way. -/
theorem wpAnyH_more {P : Program} {md : Region.Mode} {ops : Array Oper} {Q : Exit → Act → World → Prop} {S S' : World → Prop} (hs : ∀ w, S' w → S w) : ∀ (fuel : Nat) (listed : Array Bool) (a : Act) (w : World), wpAnyH P md ops Q S' fuel listed a w → wpAnyH P md ops Q S fuel listed a w
  | 0, _, _, _, h => h
  | fuel + 1, _, _, _, h => ⟨h.1, fun i hi => wpOp_mono (fun a' w' h' => ⟨hs _ h'.1, wpAnyH_more hs fuel _ a' w' h'.2⟩) (h.2 i hi)⟩

theorem row_ask : ∃ d, Try.prog.underlying 34 = some d ∧ d.isRow = true := by
  have h : (Try.prog.underlying 34).map (·.isRow) = some true := by kernel_rfl
  rcases hu : Try.prog.underlying 34 with _ | d
  · rw [hu] at h; cases h
  · rw [hu] at h; injection h with h; exact ⟨d, rfl, h⟩
theorem sz_ask : (Try.prog.info? 34).map (·.size) = some 2 := by kernel_rfl
theorem row_pt : ∃ d, Try.prog.underlying 48 = some d ∧ d.isRow = true := by
  have h : (Try.prog.underlying 48).map (·.isRow) = some true := by kernel_rfl
  rcases hu : Try.prog.underlying 48 with _ | d
  · rw [hu] at h; cases h
  · rw [hu] at h; injection h with h; exact ⟨d, rfl, h⟩
theorem sz_pt : (Try.prog.info? 48).map (·.size) = some 4 := by kernel_rfl
/-- A question as a value. -/
def askV (p : Int × Int) : Value := .agg #[.int .i64 p.1, .int .i64 p.2]
section
variable {w : World} {ops : Array Oper} {rest : List Oper} {o : Oper} {a : Act} {Q : Exit → Act → World → Prop}
theorem wpList_ldQ (hgd : o.guard = none) (x : Operand) (hop : o.op = .load 34 x) (g k : Nat) (hx : a.eval x = .pointer (some ⟨g, k, none⟩)) (p : Int × Int) (hc : w.rangeAt g k [.int .i64 p.1, .int .i64 p.2])
    (hk : wpList Try.prog ops Q rest (a.put o.dst (askV p)) w) : wpList Try.prog ops Q (o :: rest) a w := by
  obtain ⟨d, hu, hd⟩ := row_ask
  exact wpList_load_mid hgd _ x hop g k hx _ d hc hu hd sz_ask hk
theorem wpList_ldPt (hgd : o.guard = none) (x : Operand) (hop : o.op = .load 48 x) (g k : Nat) (hx : a.eval x = .pointer (some ⟨g, k, none⟩)) (p : Pt) (hc : w.rangeAt g k p.cells)
    (hk : wpList Try.prog ops Q rest (a.put o.dst p.val) w) : wpList Try.prog ops Q (o :: rest) a w := by
  obtain ⟨d, hu, hd⟩ := row_pt
  exact wpList_load_mid hgd _ x hop g k hx _ d hc hu hd sz_pt hk
end
noncomputable def ldQ (v : Value) (w : World) : Result Next := Sem.run Try.prog (do let r ← Instr.loadAt 34 v; pure (Next.value r)) w
theorem ex_ldQ (ev : Operand → Value) (x : Operand) (d : Option Tmp) (ty : TypeId) (ps : String) (af : Array Edge) (g : Option (Nat × Bool)) (w : World) : (execOp ev ⟨d, .load 34 x, ty, ps, af, g⟩).run Try.prog w = ldQ (ev x) w := rfl
theorem ldQ_m {w : World} {g k : Nat} {p : Int × Int} (h : w.rangeAt g k [.int .i64 p.1, .int .i64 p.2]) : ldQ (.pointer (some ⟨g, k, none⟩)) w = .ok (.value (askV p)) w := by
  obtain ⟨d, hu, hd⟩ := row_ask
  have := run_loadAt_mid (P := Try.prog) w g k 34 [.int .i64 p.1, .int .i64 p.2] d h hu hd sz_ask
  unfold ldQ
  simp only [Sem.run_bind, this, Result.andThen_ok, Sem.run_pure]
  rfl
end Go.Proofs.Ytakmnfcbfbkloaa
