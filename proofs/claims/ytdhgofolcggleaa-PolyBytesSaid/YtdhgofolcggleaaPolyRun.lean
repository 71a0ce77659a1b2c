/- layer 4: elements in regions that draw their order: loads, equality, slices of two; contracts at values. Conditions: numbers of 128 bits. -/
import Derived.Test.YtdhgofolcggleaaPolyAlive
import Derived.Test.YtdhgofolcggleaaEqT
import Derived.Laws.StructEq
namespace Go.Proofs.Ytdhgofolcggleaa
open Go.RowKit
set_option linter.unusedVariables false

theorem eq_ev (a b c d : Int) (w : World) : (binOp .eql 24 (.agg #[.int .u64 a, .int .u64 b]) (.agg #[.int .u64 c, .int .u64 d])).run Try.prog w = .ok (.bool (decide (a = c ∧ b = d))) w := by
  go_simp
  by_cases h1 : a = c <;> by_cases h2 : b = d <;> simp [h1, h2]
theorem nq_ev (a b c d : Int) (w : World) : (binOp .neq 24 (.agg #[.int .u64 a, .int .u64 b]) (.agg #[.int .u64 c, .int .u64 d])).run Try.prog w = .ok (.bool (!decide (a = c ∧ b = d))) w := by
  go_simp
  by_cases h1 : a = c <;> by_cases h2 : b = d <;> simp [h1, h2]
theorem pe_split (x y : Nat) : (((x / 2 ^ 64 : Nat) : Int) = ((y / 2 ^ 64 : Nat) : Int) ∧ ((x % 2 ^ 64 : Nat) : Int) = ((y % 2 ^ 64 : Nat) : Int)) ↔ x = y := by omega
theorem eqp (x y : Nat) (w : World) : (binOp .eql 24 (PE x) (PE y)).run Try.prog w = .ok (.bool (decide (x = y))) w := by
  unfold PE EV; rw [eq_ev]; simp only [pe_split]
theorem nqp (x y : Nat) (w : World) : (binOp .neq 24 (PE x) (PE y)).run Try.prog w = .ok (.bool (!decide (x = y))) w := by
  unfold PE EV; rw [nq_ev]; simp only [pe_split]
theorem pe_0 : PE 0 = .agg #[.int .u64 0, .int .u64 0] := rfl
theorem eqp_zero (x : Nat) (w : World) : (binOp .eql 24 (PE x) (.agg #[.int .u64 0, .int .u64 0])).run Try.prog w = .ok (.bool (decide (x = 0))) w := by rw [← pe_0]; exact eqp x 0 w
theorem eg_pp (op : BinOp) (x y : Operand) (a b : Nat) (w : World) : (eqGuard op 24 x y (PE a) (PE b)).run Try.prog w = .ok () w := run_eqGuard_agg w op _ x y _ _ (by kernel_rfl)
theorem eg_pa (op : BinOp) (x y : Operand) (a : Nat) (cs : Array Value) (w : World) : (eqGuard op 24 x y (PE a) (.agg cs)).run Try.prog w = .ok () w := run_eqGuard_agg w op _ x y _ _ (by kernel_rfl)
theorem eg_bb (op : BinOp) (x y : Operand) (a b : List Bool) (w : World) : (eqGuard op 28 x y (BV a) (BV b)).run Try.prog w = .ok () w := run_eqGuard_agg w op _ x y _ _ (by kernel_rfl)
theorem two_pe (w : World) (p q : Nat) : (Instr.buildSlice 25 2 #[(0, PE p), (1, PE q)]).run Try.prog w = .ok (.slice (some ⟨w.heap.size, 0, none⟩) 2 2) (w.alloc (.cells (es (p / 2 ^ 64) (p % 2 ^ 64) ++ es (q / 2 ^ 64) (q % 2 ^ 64)).toArray 24)) := run_two w _ _ _ _
noncomputable def ldP (v : Value) (w : World) : Result Next := Sem.run Try.prog (do let r ← Instr.loadAt 24 v; pure (Next.value r)) w
theorem ex_ldP (ev : Operand → Value) (x : Operand) (d : Option Tmp) (ty : TypeId) (ps : String) (af : Array Edge) (g : Option (Nat × Bool)) (w : World) : (execOp ev ⟨d, .load 24 x, ty, ps, af, g⟩).run Try.prog w = ldP (ev x) w := rfl
theorem ldP_x {w : World} {g x : Nat} (h : Xw w g x) : ldP (.pointer (some ⟨g, 0, none⟩)) w = .ok (.value (PE x)) w := by
  obtain ⟨d, hu, hd⟩ := row_elem
  have := run_loadAt_mid (P := Try.prog) w g 0 24 (es (x / 2 ^ 64) (x % 2 ^ 64)) d h.1 hu hd sz_elem
  unfold ldP
  simp only [Sem.run_bind, this, Result.andThen_ok, Sem.run_pure]
  rfl
noncomputable def ldB (v : Value) (w : World) : Result Next := Sem.run Try.prog (do let r ← Instr.loadAt 28 v; pure (Next.value r)) w
theorem ex_ldB (ev : Operand → Value) (x : Operand) (d : Option Tmp) (ty : TypeId) (ps : String) (af : Array Edge) (g : Option (Nat × Bool)) (w : World) : (execOp ev ⟨d, .load 28 x, ty, ps, af, g⟩).run Try.prog w = ldB (ev x) w := rfl
theorem ldB_x {w : World} {g : Nat} {l : List Bool} (h : Br w g 0 l) (hl : l.length = 128) : ldB (.pointer (some ⟨g, 0, none⟩)) w = .ok (.value (BV l)) w := by
  have := run_loadAt_mid (P := Try.prog) w g 0 28 (tvs l) _ h.1 up_poly rfl (by simpa [tvs, hl] using sz_poly)
  unfold ldB
  simp only [Sem.run_bind, this, Result.andThen_ok, Sem.run_pure]
  rfl
noncomputable def bsP (u v : Value) (w : World) : Result Next := Sem.run Try.prog (do let r ← Instr.buildSlice 25 2 #[(0, u), (1, v)]; pure (Next.value r)) w
theorem ex_bsP (ev : Operand → Value) (x y : Operand) (d : Option Tmp) (ty : TypeId) (ps : String) (af : Array Edge) (g : Option (Nat × Bool)) (w : World) : (execOp ev ⟨d, .buildSlice 25 2 #[(0, x), (1, y)], ty, ps, af, g⟩).run Try.prog w = bsP (ev x) (ev y) w := by
  unfold bsP execOp
  simp only [List.map_toArray, List.map_cons, List.map_nil]
theorem bsP_pe (p q : Nat) (w : World) : bsP (PE p) (PE q) w = .ok (.value (.slice (some ⟨w.heap.size, 0, none⟩) 2 2)) (w.alloc (.cells (es (p / 2 ^ 64) (p % 2 ^ 64) ++ es (q / 2 ^ 64) (q % 2 ^ 64)).toArray 24)) := by
  unfold bsP
  simp only [Sem.run_bind, two_pe, Result.andThen_ok, Sem.run_pure]
/-- Three elements in blocks, and all that lay below. -/
def C3 (w : World) (g1 g2 g3 a b c : Nat) (W : World) : Prop := Xw W g1 a ∧ Xw W g2 b ∧ Xw W g3 c ∧ Below w.heap.size w W
theorem Xw.keep {W W1 : World} {g x : Nat} (h : Xw W g x) (hb : Below W.heap.size W W1) : Xw W1 g x := Ew.below h hb (Ew.lt h)
theorem C3.keep {w W W1 : World} {g1 g2 g3 a b c : Nat} (h : C3 w g1 g2 g3 a b c W) (hb : Below W.heap.size W W1) : C3 w g1 g2 g3 a b c W1 := ⟨h.1.keep hb, h.2.1.keep hb, h.2.2.1.keep hb, h.2.2.2.trans (hb.mono h.2.2.2.size)⟩
theorem C3.s {w W : World} {g1 g2 g3 a b c : Nat} (h : C3 w g1 g2 g3 a b c W) : ldP (.pointer (some ⟨g1, 0, none⟩)) W = .ok (.value (PE a)) W ∧ ldP (.pointer (some ⟨g2, 0, none⟩)) W = .ok (.value (PE b)) W ∧ ldP (.pointer (some ⟨g3, 0, none⟩)) W = .ok (.value (PE c)) W := ⟨ldP_x h.1, ldP_x h.2.1, ldP_x h.2.2.1⟩
theorem C3.drew {w W : World} {g1 g2 g3 a b c : Nat} (h : C3 w g1 g2 g3 a b c W) : C3 w g1 g2 g3 a b c W.drew := h.keep (Below.refl _ _).drew
theorem C3.alloc {w W : World} {g1 g2 g3 a b c : Nat} (h : C3 w g1 g2 g3 a b c W) (o : Obj) : C3 w g1 g2 g3 a b c (W.alloc o) := h.keep (below_alloc _ _)
/-- The calls, whatever words they are handed. -/
theorem times_v (u v : Value) (x y : Nat) (w : World) (hu : u = PE x) (hv : v = PE y) (hx : x < 2 ^ 128) (hy : y < 2 ^ 128) : Calls Try.prog 11 #[u, v] w (RetP (gMul x y) w) := by subst hu; subst hv; exact times_pe x y w hx hy
theorem sum2_pe (x y : Nat) (w : World) (hx : x < 2 ^ 128) (hy : y < 2 ^ 128) :
    Calls Try.prog 14 #[.slice (some ⟨w.heap.size, 0, none⟩) 2 2] (w.alloc (.cells (es (x / 2 ^ 64) (x % 2 ^ 64) ++ es (y / 2 ^ 64) (y % 2 ^ 64)).toArray 24)) fun e w' => e = .returned (PE (x ^^^ y)) ∧ Below w.heap.size w w' := by
  have h1 := pe_lt x hx
  have h2 := pe_lt y hy
  have h := sum_two _ _ _ _ h1.1 h1.2 h2.1 h2.2 w
  have e : PE (x ^^^ y) = EV (x / 2 ^ 64 ^^^ y / 2 ^ 64) (x % 2 ^ 64 ^^^ y % 2 ^ 64) := by
    rw [← pe_hl _ _ (Nat.xor_lt_two_pow h1.2 h2.2), ← hl_xor _ _ _ _ h1.2 h2.2, hl_parts, hl_parts]
  rw [e]; exact h
attribute [go_sem ↓] ex_ldP ex_ldB ex_bsP
attribute [go_sem] bsP_pe eg_pp eg_pa eg_bb eqp nqp eqp_zero
end Go.Proofs.Ytdhgofolcggleaa
