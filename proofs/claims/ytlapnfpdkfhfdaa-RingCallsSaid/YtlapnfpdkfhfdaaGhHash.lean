/- layers 4, 5: elements in regions that draw their order: loads, equality, slices of two; contracts at values. Conditions: numbers of 128 bits. -/
import Derived.Test.YtlapnfpdkfhfdaaPolyIt
import Derived.Test.YtlapnfpdkfhfdaaRefGhash
import Derived.Deep.RegionHeld3
import Derived.Test.YtlapnfpdkfhfdaaPolyMath
import Derived.Laws.StructEq
import Derived.Test.YtlapnfpdkfhfdaaGhE
import Derived.Test.YtlapnfpdkfhfdaaMemAll
import Derived.Test.YtlapnfpdkfhfdaaPolyElem
import Derived.Test.YtlapnfpdkfhfdaaOnce
import Derived.Deep.RegionWith
import Derived.WalkKit
import Derived.Lib.Hide
import Derived.Laws.Tables
namespace Go.Proofs.Ytlapnfpdkfhfdaa
open Go.RowKit
set_option linter.unusedVariables false

theorem eq_ev (a b c d : Int) (w : World) : (binOp .eql 101 (.agg #[.int .u64 a, .int .u64 b]) (.agg #[.int .u64 c, .int .u64 d])).run Try.prog w = .ok (.bool (decide (a = c ∧ b = d))) w := by
  go_simp
  by_cases h1 : a = c <;> by_cases h2 : b = d <;> simp [h1, h2]
theorem nq_ev (a b c d : Int) (w : World) : (binOp .neq 101 (.agg #[.int .u64 a, .int .u64 b]) (.agg #[.int .u64 c, .int .u64 d])).run Try.prog w = .ok (.bool (!decide (a = c ∧ b = d))) w := by
  go_simp
  by_cases h1 : a = c <;> by_cases h2 : b = d <;> simp [h1, h2]
theorem pe_split (x y : Nat) : (((x / 2 ^ 64 : Nat) : Int) = ((y / 2 ^ 64 : Nat) : Int) ∧ ((x % 2 ^ 64 : Nat) : Int) = ((y % 2 ^ 64 : Nat) : Int)) ↔ x = y := by omega
theorem eqp (x y : Nat) (w : World) : (binOp .eql 101 (PE x) (PE y)).run Try.prog w = .ok (.bool (decide (x = y))) w := by
  unfold PE EV; rw [eq_ev]; simp only [pe_split]
theorem nqp (x y : Nat) (w : World) : (binOp .neq 101 (PE x) (PE y)).run Try.prog w = .ok (.bool (!decide (x = y))) w := by
  unfold PE EV; rw [nq_ev]; simp only [pe_split]
theorem pe_0 : PE 0 = .agg #[.int .u64 0, .int .u64 0] := rfl
theorem eqp_zero (x : Nat) (w : World) : (binOp .eql 101 (PE x) (.agg #[.int .u64 0, .int .u64 0])).run Try.prog w = .ok (.bool (decide (x = 0))) w := by rw [← pe_0]; exact eqp x 0 w
theorem eg_pp (op : BinOp) (x y : Operand) (a b : Nat) (w : World) : (eqGuard op 101 x y (PE a) (PE b)).run Try.prog w = .ok () w := run_eqGuard_agg w op _ x y _ _ (by kernel_rfl)
theorem eg_pa (op : BinOp) (x y : Operand) (a : Nat) (cs : Array Value) (w : World) : (eqGuard op 101 x y (PE a) (.agg cs)).run Try.prog w = .ok () w := run_eqGuard_agg w op _ x y _ _ (by kernel_rfl)
noncomputable def ldP (v : Value) (w : World) : Result Next := Sem.run Try.prog (do let r ← Instr.loadAt 101 v; pure (Next.value r)) w
theorem ex_ldP (ev : Operand → Value) (x : Operand) (d : Option Tmp) (ty : TypeId) (ps : String) (af : Array Edge) (g : Option (Nat × Bool)) (w : World) : (execOp ev ⟨d, .load 101 x, ty, ps, af, g⟩).run Try.prog w = ldP (ev x) w := rfl
theorem ldP_x {w : World} {g x : Nat} (h : Xw w g x) : ldP (.pointer (some ⟨g, 0, none⟩)) w = .ok (.value (PE x)) w := by
  obtain ⟨d, hu, hd⟩ := row_elem
  have := run_loadAt_mid (P := Try.prog) w g 0 101 (es (x / 2 ^ 64) (x % 2 ^ 64)) d h.1 hu hd sz_elem
  unfold ldP
  simp only [Sem.run_bind, this, Result.andThen_ok, Sem.run_pure]
  rfl
theorem ldP_m {w : World} {g o x : Nat} (h : w.rangeAt g o (es (x / 2 ^ 64) (x % 2 ^ 64))) : ldP (.pointer (some ⟨g, o, none⟩)) w = .ok (.value (PE x)) w := by
  obtain ⟨d, hu, hd⟩ := row_elem
  have := run_loadAt_mid (P := Try.prog) w g o 101 (es (x / 2 ^ 64) (x % 2 ^ 64)) d h hu hd sz_elem
  unfold ldP
  simp only [Sem.run_bind, this, Result.andThen_ok, Sem.run_pure]
  rfl
theorem wpList_ldM {w : World} {ops : Array Oper} {rest : List Oper} {o : Oper} {a : Act} {Q : Exit → Act → World → Prop} (hgd : o.guard = none) (x : Operand) (hop : o.op = .load 101 x) (g p : Nat) (hx : a.eval x = .pointer (some ⟨g, p, none⟩)) (n : Nat) (hc : w.rangeAt g p (es (n / 2 ^ 64) (n % 2 ^ 64)))
    (hk : wpList Try.prog ops Q rest (a.put o.dst (PE n)) w) : wpList Try.prog ops Q (o :: rest) a w := by
  obtain ⟨d, hu, hd⟩ := row_elem
  exact wpList_load_mid hgd _ x hop g p hx (es (n / 2 ^ 64) (n % 2 ^ 64)) d hc hu hd sz_elem hk
noncomputable def stP (v x : Value) (w : World) : Result Next := Sem.run Try.prog (do Instr.storeAt 101 v x; pure Next.skip) w
theorem ex_stP (ev : Operand → Value) (x y : Operand) (d : Option Tmp) (ty : TypeId) (ps : String) (af : Array Edge) (g : Option (Nat × Bool)) (w : World) : (execOp ev ⟨d, .store 101 x y, ty, ps, af, g⟩).run Try.prog w = stP (ev x) (ev y) w := rfl
theorem stP_m {w : World} {g o : Nat} (x : Nat) (h : w.there g o 2) : stP (.pointer (some ⟨g, o, none⟩)) (PE x) w = .ok .skip (w.setCells g o (es (x / 2 ^ 64) (x % 2 ^ 64))) := by
  have := run_storeAt_mid (P := Try.prog) w g o 101 (es (x / 2 ^ 64) (x % 2 ^ 64)).toArray h sz_elem (es_all _ _)
  unfold stP PE EV
  have e : Value.agg (es (x / 2 ^ 64) (x % 2 ^ 64)).toArray = .agg #[.int .u64 ((x / 2 ^ 64 : Nat) : Int), .int .u64 ((x % 2 ^ 64 : Nat) : Int)] := rfl
  simp only [Sem.run_bind]
  rw [← e, this]
  rfl
/-- Three elements in blocks, and all that lay below. -/
def C3 (w : World) (g1 g2 g3 a b c : Nat) (W : World) : Prop := Xw W g1 a ∧ Xw W g2 b ∧ Xw W g3 c ∧ Below w.heap.size w W
theorem Xw.keep {W W1 : World} {g x : Nat} (h : Xw W g x) (hb : Below W.heap.size W W1) : Xw W1 g x := Ew.below h hb (Ew.lt h)
theorem C3.keep {w W W1 : World} {g1 g2 g3 a b c : Nat} (h : C3 w g1 g2 g3 a b c W) (hb : Below W.heap.size W W1) : C3 w g1 g2 g3 a b c W1 := ⟨h.1.keep hb, h.2.1.keep hb, h.2.2.1.keep hb, h.2.2.2.trans (hb.mono h.2.2.2.size)⟩
theorem C3.s {w W : World} {g1 g2 g3 a b c : Nat} (h : C3 w g1 g2 g3 a b c W) : ldP (.pointer (some ⟨g1, 0, none⟩)) W = .ok (.value (PE a)) W ∧ ldP (.pointer (some ⟨g2, 0, none⟩)) W = .ok (.value (PE b)) W ∧ ldP (.pointer (some ⟨g3, 0, none⟩)) W = .ok (.value (PE c)) W := ⟨ldP_x h.1, ldP_x h.2.1, ldP_x h.2.2.1⟩
theorem C3.drew {w W : World} {g1 g2 g3 a b c : Nat} (h : C3 w g1 g2 g3 a b c W) : C3 w g1 g2 g3 a b c W.drew := h.keep (Below.refl _ _).drew
theorem C3.alloc {w W : World} {g1 g2 g3 a b c : Nat} (h : C3 w g1 g2 g3 a b c W) (o : Obj) : C3 w g1 g2 g3 a b c (W.alloc o) := h.keep (below_alloc _ _)
end Go.Proofs.Ytlapnfpdkfhfdaa

/- layer 5: what a hash holds in memory: its key, its once, its count, its table. No conditions; nothing is claimed of the program here. -/
namespace Go.Proofs.Ytlapnfpdkfhfdaa
open Go.RowKit
set_option linter.unusedVariables false

def u64v (n : Nat) : Value := .int .u64 (n : Int)
/-- The table's cells, in an object's. -/
def TabOf (f : Nat → Value) (T : Nat → Nat → Nat) : Prop := ∀ k v, k < 32 → v < 16 → f (6 + k * 32 + v * 2) = u64v (T k v / 2 ^ 64) ∧ f (6 + k * 32 + v * 2 + 1) = u64v (T k v % 2 ^ 64)
def updT (T : Nat → Nat → Nat) (k v x : Nat) : Nat → Nat → Nat := fun k' v' => if k' = k ∧ v' = v then x else T k' v'
def updE (f : Nat → Value) (k v x : Nat) : Nat → Value := upd (upd f (6 + k * 32 + v * 2) (u64v (x / 2 ^ 64))) (6 + k * 32 + v * 2 + 1) (u64v (x % 2 ^ 64))
theorem updT_same (T : Nat → Nat → Nat) (k v x : Nat) : updT T k v x k v = x := if_pos ⟨rfl, rfl⟩
theorem updT_other (T : Nat → Nat → Nat) (k v x k' v' : Nat) (h : k' ≠ k ∨ v' ≠ v) : updT T k v x k' v' = T k' v' := if_neg (by rintro ⟨rfl, rfl⟩; simp at h)
theorem updE_low (f : Nat → Value) (k v x j : Nat) (hj : j < 6) : updE f k v x j = f j := by
  unfold updE
  rw [upd_other _ _ _ _ (by omega), upd_other _ _ _ _ (by omega)]
theorem TabOf.set {f : Nat → Value} {T : Nat → Nat → Nat} (h : TabOf f T) (k v x : Nat) (hk : k < 32) (hv : v < 16) : TabOf (updE f k v x) (updT T k v x) := by
  intro k' v' hk' hv'
  unfold updE
  by_cases e : k' = k ∧ v' = v
  · obtain ⟨rfl, rfl⟩ := e
    rw [updT_same, upd_same, upd_other _ _ _ _ (by omega), upd_same]
    exact ⟨rfl, rfl⟩
  · rw [updT_other _ _ _ _ _ _ (by omega), upd_other _ _ _ _ (by omega), upd_other _ _ _ _ (by omega), upd_other _ _ _ _ (by omega), upd_other _ _ _ _ (by omega)]
    exact h k' v' hk' hv'
theorem TabOf.congr {f f' : Nat → Value} {T : Nat → Nat → Nat} (h : TabOf f T) (e : ∀ j, 6 ≤ j → f' j = f j) : TabOf f' T := fun k v hk hv => by
  rw [e _ (by omega), e _ (by omega)]; exact h k v hk hv
theorem TabOf.to {f : Nat → Value} {T T' : Nat → Nat → Nat} (h : TabOf f T) (e : ∀ k v, k < 32 → v < 16 → T k v = T' k v) : TabOf f T' := fun k v hk hv => by
  rw [← e k v hk hv]; exact h k v hk hv
section
variable {w w' : World} {b k v : Nat} {f : Nat → Value} {T : Nat → Nat → Nat}
theorem tab_range (hc : Cells w b 1030 f) (ht : TabOf f T) (hk : k < 32) (hv : v < 16) : w.rangeAt b (6 + k * 32 + v * 2) (es (T k v / 2 ^ 64) (T k v % 2 ^ 64)) := by
  obtain ⟨h1, h2⟩ := ht k v hk hv
  intro j u hu
  match j, hu with
  | 0, hu => injection hu with hu; rw [← hu, Nat.add_zero, hc.cell (show 6 + k * 32 + v * 2 < 1030 by omega), h1]; rfl
  | 1, hu => injection hu with hu; rw [← hu, hc.cell (show 6 + k * 32 + v * 2 + 1 < 1030 by omega), h2]; rfl
  | j + 2, hu => simp [es] at hu
theorem tab_there (hc : Cells w b 1030 f) (hk : k < 32) (hv : v < 16) : w.there b (6 + k * 32 + v * 2) 2 := by
  intro j hj
  rw [hc.cell (show 6 + k * 32 + v * 2 + j < 1030 by omega)]
  exact ⟨rfl, hc.free (by omega)⟩
theorem tab_store (hc : Cells w b 1030 f) (x : Nat) (hk : k < 32) (hv : v < 16) : Cells (w.setCells b (6 + k * 32 + v * 2) (es (x / 2 ^ 64) (x % 2 ^ 64))) b 1030 (updE f k v x) :=
  (hc.set (show 6 + k * 32 + v * 2 < 1030 by omega) _).set (show 6 + k * 32 + v * 2 + 1 < 1030 by omega) _
theorem key_range (h : Nat) (hc : Cells w b 1030 f) (h0 : f 0 = u64v (h / 2 ^ 64)) (h1 : f 1 = u64v (h % 2 ^ 64)) : w.rangeAt b 0 (es (h / 2 ^ 64) (h % 2 ^ 64)) := by
  intro j u hu
  match j, hu with
  | 0, hu => injection hu with hu; rw [← hu, hc.cell (show 0 + 0 < 1030 by omega), h0]; rfl
  | 1, hu => injection hu with hu; rw [← hu, hc.cell (show 0 + 1 < 1030 by omega), h1]; rfl
  | j + 2, hu => simp [es] at hu
theorem But.setCells2 {w1 : World} (h : But b w w1) {g : Nat} (hg : g = b ∨ w.heap.size ≤ g) (o x y : Nat) : But b w (w1.setCells g o (es x y)) := (h.setCell (p := ⟨g, o, none⟩) hg _).setCell (p := ⟨g, o + 1, none⟩) hg _
theorem Xw.but {g x : Nat} (h : Xw w g x) (hb : But b w w') (hg : g ≠ b) : Xw w' g x := Ew.block h (hb.block g (Ew.lt h) hg)
end
/-- A hash at block b: its key h, its table filled or not. -/
def Ho (w : World) (b h : Nat) (d : Bool) : Prop :=
  h < 2 ^ 128 ∧ ∃ f, Cells w b 1030 f ∧ f 0 = u64v (h / 2 ^ 64) ∧ f 1 = u64v (h % 2 ^ 64) ∧ f 2 = .int .u32 (if d then 1 else 0) ∧ f 3 = .int .i32 0 ∧ f 5 = .int .i64 (if d then 1 else 0) ∧ TabOf f (if d then gTab h else fun _ _ => 0)
section
variable {w w' : World} {b h B : Nat} {d : Bool}
theorem Ho.lt (o : Ho w b h d) : b < w.heap.size := by obtain ⟨_, f, hc, _⟩ := o; exact hc.lt (by omega)
theorem Ho.below (o : Ho w b h d) (hb : Below B w w') (hg : b < B) : Ho w' b h d := by
  obtain ⟨h0, f, hc, hr⟩ := o
  exact ⟨h0, f, hc.below hb hg, hr⟩
theorem Ho.keep (o : Ho w b h d) (hb : Below w.heap.size w w') : Ho w' b h d := o.below hb o.lt
theorem Ho.alloc (o : Ho w b h d) (ob : Obj) : Ho (w.alloc ob) b h d := o.keep (below_alloc _ _)
theorem Ho.drew (o : Ho w b h d) : Ho w.drew b h d := o.keep (Below.refl _ _).drew
theorem Ho.setCells2 (o : Ho w b h d) {g : Nat} (hg : g ≠ b) (p x y : Nat) : Ho (w.setCells g p (es x y)) b h d := by
  obtain ⟨h0, f, hc, hr⟩ := o
  exact ⟨h0, f, (hc.other (a := ⟨g, p, none⟩) hg _).other (a := ⟨g, p + 1, none⟩) hg _, hr⟩
end
/-- A call of a hash's method: its answer; all other memory is as it was; the hash has its table (or not). -/
def UseG (v : Value) (b h : Nat) (d : Bool) (w : World) (e : Ending) (w' : World) : Prop := e = .returned v ∧ But b w w' ∧ Ho w' b h d
end Go.Proofs.Ytlapnfpdkfhfdaa

/- layer 5: compute fills the table of a hash. Conditions: the object is as New left it, its lock is held. -/
namespace Go.Proofs.Ytlapnfpdkfhfdaa
open Go.RowKit
set_option linter.unusedVariables false
set_option linter.unusedSimpArgs false

/-- The table behind k rows; the rest is as New left it; in row k the values P are there. -/
def Done (h : Nat) (T : Nat → Nat → Nat) (k : Nat) (P : Nat → Prop) : Prop :=
  (∀ k' v, k' < k → v < 16 → T k' v = gTab h k' v) ∧ (∀ k' v, k < k' → k' < 32 → v < 16 → T k' v = 0) ∧ (∀ v, v < 16 → P v → T k v = gTab h k v)
theorem Done.set {h : Nat} {T : Nat → Nat → Nat} {k : Nat} {P : Nat → Prop} (d : Done h T k P) (v x : Nat) (hx : x = gTab h k v) : Done h (updT T k v x) k (fun u => P u ∨ u = v) := by
  refine ⟨fun k' v' h1 h2 => ?_, fun k' v' h1 h2 h3 => ?_, fun u h1 h2 => ?_⟩
  · rw [updT_other _ _ _ _ _ _ (by omega)]; exact d.1 k' v' h1 h2
  · rw [updT_other _ _ _ _ _ _ (by omega)]; exact d.2.1 k' v' h1 h2 h3
  · by_cases e : u = v
    · subst e; rw [updT_same, hx]
    · rw [updT_other _ _ _ _ _ _ (.inr e)]
      rcases h2 with h2 | h2
      · exact d.2.2 u h1 h2
      · exact absurd h2 e
theorem Done.mono {h : Nat} {T : Nat → Nat → Nat} {k : Nat} {P Q : Nat → Prop} (d : Done h T k P) (hq : ∀ v, v < 16 → Q v → P v) : Done h T k Q := ⟨d.1, d.2.1, fun v h1 h2 => d.2.2 v h1 (hq v h1 h2)⟩
theorem Done.next {h : Nat} {T : Nat → Nat → Nat} {k : Nat} (d : Done h T k (fun _ => True)) (hk : k + 1 ≤ 32) : Done h T (k + 1) (fun v => v = 0 ∧ k + 1 < 32) := by
  refine ⟨fun k' v' h1 h2 => ?_, fun k' v' h1 h2 h3 => d.2.1 k' v' (by omega) h2 h3, fun v h1 h2 => ?_⟩
  · by_cases e : k' = k
    · subst e; exact d.2.2 v' h2 trivial
    · exact d.1 k' v' (by omega) h2
  · obtain ⟨rfl, h2⟩ := h2
    rw [d.2.1 (k + 1) 0 (by omega) h2 h1, gTab_zero]
theorem Done.zero (h : Nat) : Done h (fun _ _ => 0) 0 (fun v => v = 0 ∧ 0 < 32) :=
  ⟨fun k' v' h1 _ => by omega, fun _ _ _ _ _ => rfl, fun v _ hv => by obtain ⟨rfl, _⟩ := hv; exact (gTab_zero h 0).symm⟩
/-- Powers of two below sixteen. -/
def pw2 (s : Nat) : Nat := 2 ^ (3 - s)
def Pz (s : Nat) (v : Nat) : Prop := v = 0 ∨ ∃ q, q < s ∧ v = pw2 q
def Pj (j : Nat) (v : Nat) : Prop := v = 0 ∨ v < j ∨ v = 1 ∨ v = 2 ∨ v = 4 ∨ v = 8
/-- What the first loop of a row counts: 8, 4, 2, 1, 0. -/
def cnt (s : Nat) : Nat := 8 / 2 ^ s
theorem cnt_pw (s : Nat) (hs : s < 4) : cnt s = pw2 s ∧ pw2 s < 16 ∧ 0 < cnt s ∧ cnt s / 2 = cnt (s + 1) := by
  rcases (show s = 0 ∨ s = 1 ∨ s = 2 ∨ s = 3 by omega) with rfl | rfl | rfl | rfl <;> decide
theorem pz_pj (v : Nat) (h : Pj 0 v) : Pz 4 v := by
  rcases h with h | h | h | h | h | h
  · exact .inl h
  · omega
  · exact .inr ⟨3, by omega, h⟩
  · exact .inr ⟨2, by omega, h⟩
  · exact .inr ⟨1, by omega, h⟩
  · exact .inr ⟨0, by omega, h⟩
theorem row_bit (h k s : Nat) (hh : h < 2 ^ 128) (hk : k < 32) (hs : s < 4) : gTab h k (pw2 s) = gIter h (4 * k + s) := gTab_bit h k s hh hk hs
/-- The lowest bit of a number below sixteen, and the rest. -/
theorem low_bits (j : Nat) (hj : j < 16) : ∃ L X : Nat, bits .and .i64 (j : Int) (-(j : Int)) = (L : Int) ∧ bits .xor .i64 (j : Int) (L : Int) = (X : Int) ∧ L < 16 ∧ X < 16 ∧ L ^^^ X = j ∧ Pj j L ∧ Pj j X := by
  unfold Pj
  rcases (show j = 0 ∨ j = 1 ∨ j = 2 ∨ j = 3 ∨ j = 4 ∨ j = 5 ∨ j = 6 ∨ j = 7 ∨ j = 8 ∨ j = 9 ∨ j = 10 ∨ j = 11 ∨ j = 12 ∨ j = 13 ∨ j = 14 ∨ j = 15 by omega) with rfl | rfl | rfl | rfl | rfl | rfl | rfl | rfl | rfl | rfl | rfl | rfl | rfl | rfl | rfl | rfl
  · exact ⟨0, 0, by kernel_rfl, by kernel_rfl, by decide⟩
  · exact ⟨1, 0, by kernel_rfl, by kernel_rfl, by decide⟩
  · exact ⟨2, 0, by kernel_rfl, by kernel_rfl, by decide⟩
  · exact ⟨1, 2, by kernel_rfl, by kernel_rfl, by decide⟩
  · exact ⟨4, 0, by kernel_rfl, by kernel_rfl, by decide⟩
  · exact ⟨1, 4, by kernel_rfl, by kernel_rfl, by decide⟩
  · exact ⟨2, 4, by kernel_rfl, by kernel_rfl, by decide⟩
  · exact ⟨1, 6, by kernel_rfl, by kernel_rfl, by decide⟩
  · exact ⟨8, 0, by kernel_rfl, by kernel_rfl, by decide⟩
  · exact ⟨1, 8, by kernel_rfl, by kernel_rfl, by decide⟩
  · exact ⟨2, 8, by kernel_rfl, by kernel_rfl, by decide⟩
  · exact ⟨1, 10, by kernel_rfl, by kernel_rfl, by decide⟩
  · exact ⟨4, 8, by kernel_rfl, by kernel_rfl, by decide⟩
  · exact ⟨1, 12, by kernel_rfl, by kernel_rfl, by decide⟩
  · exact ⟨2, 12, by kernel_rfl, by kernel_rfl, by decide⟩
  · exact ⟨1, 14, by kernel_rfl, by kernel_rfl, by decide⟩
/-- What compute leaves. -/
def RetRG (R : World → Prop) (e : Ending) (w' : World) : Prop := e = .returned (.tuple #[]) ∧ R w'
def ComputedG (w : World) (b h : Nat) (f : Nat → Value) (w' : World) : Prop :=
  But b w w' ∧ ∃ f', Cells w' b 1030 f' ∧ TabOf f' (gTab h) ∧ f' 0 = f 0 ∧ f' 1 = f 1 ∧ f' 2 = f 2 ∧ f' 3 = f 3 ∧ f' 5 = .int .i64 1
/-- The state of compute between two rounds. -/
def St (w wr : World) (b h G k p : Nat) (f : Nat → Value) (P : Nat → Prop) : Prop :=
  ∃ f1 T, Cells wr b 1030 f1 ∧ TabOf f1 T ∧ Done h T k P ∧ (∀ j, j < 6 → f1 j = f j) ∧ Xw wr G p ∧ But b w wr
theorem St.mono {w wr : World} {b h G k p : Nat} {f : Nat → Value} {P Q : Nat → Prop} (s : St w wr b h G k p f P) (hq : ∀ v, v < 16 → Q v → P v) : St w wr b h G k p f Q := by
  obtain ⟨f1, T, a, b, c, d⟩ := s
  exact ⟨f1, T, a, b, c.mono hq, d⟩
theorem St.next {w wr : World} {b h G k p : Nat} {f : Nat → Value} (s : St w wr b h G k p f (fun _ => True)) (hk : k + 1 ≤ 32) : St w wr b h G (k + 1) p f (fun v => v = 0 ∧ k + 1 < 32) := by
  obtain ⟨f1, T, a, b, c, d⟩ := s
  exact ⟨f1, T, a, b, c.next hk, d⟩
theorem St.keep {w wr w' : World} {b h G k p : Nat} {f : Nat → Value} {P : Nat → Prop} (s : St w wr b h G k p f P) (hb : Below wr.heap.size wr w') : St w w' b h G k p f P := by
  obtain ⟨f1, T, c, t, d, e, x, u⟩ := s
  exact ⟨f1, T, c.below hb (c.lt (by omega)), t, d, e, x.keep hb, u.trans (But.of_below hb)⟩
theorem St.store {w wr : World} {b h G k p : Nat} {f : Nat → Value} {P : Nat → Prop} (s : St w wr b h G k p f P) (hG : G ≠ b) (v x : Nat) (hk : k < 32) (hv : v < 16) (hx : x = gTab h k v) : St w (wr.setCells b (6 + k * 32 + v * 2) (es (x / 2 ^ 64) (x % 2 ^ 64))) b h G k p f (fun u => P u ∨ u = v) := by
  obtain ⟨f1, T, c, t, d, e, y, u⟩ := s
  exact ⟨_, _, tab_store c x hk hv, t.set k v x hk hv, d.set v x hx, fun j hj => (updE_low _ _ _ _ _ hj).trans (e j hj), y.setCells (Ne.symm hG) _ _, u.setCells2 (.inl rfl) _ _ _⟩
theorem St.step {w wr : World} {b h G k p : Nat} {f : Nat → Value} {P : Nat → Prop} (s : St w wr b h G k p f P) (hG : G ≠ b) (hw : w.heap.size ≤ G) (q : Nat) : St w (wr.setCells G 0 (es (q / 2 ^ 64) (q % 2 ^ 64))) b h G k q f P := by
  obtain ⟨f1, T, c, t, d, e, y, u⟩ := s
  exact ⟨f1, T, (c.other (a := ⟨G, 0, none⟩) hG _).other (a := ⟨G, 0 + 1, none⟩) hG _, t, d, e, Ew.whole y _ _, u.setCells2 (.inr hw) _ _ _⟩
theorem St.ld {w wr : World} {b h G k p : Nat} {f : Nat → Value} {P : Nat → Prop} (s : St w wr b h G k p f P) (hk : k < 32) (v : Nat) (hv : v < 16) (hp : P v) : ldP (.pointer (some ⟨b, 6 + k * 32 + v * 2, none⟩)) wr = .ok (.value (PE (gTab h k v))) wr := by
  obtain ⟨f1, T, c, t, d, e, y, u⟩ := s
  rw [← d.2.2 v hv hp]
  exact ldP_m (tab_range c t hk hv)
theorem St.there {w wr : World} {b h G k p : Nat} {f : Nat → Value} {P : Nat → Prop} (s : St w wr b h G k p f P) (hk : k < 32) (v : Nat) (hv : v < 16) : wr.there b (6 + k * 32 + v * 2) 2 := by
  obtain ⟨f1, T, c, t, d, e, y, u⟩ := s
  exact tab_there c hk hv
theorem St.xw {w wr : World} {b h G k p : Nat} {f : Nat → Value} {P : Nat → Prop} (s : St w wr b h G k p f P) : Xw wr G p := by
  obtain ⟨f1, T, c, t, d, e, y, u⟩ := s
  exact y
attribute [local irreducible] PE gTab gIter gNext pw2 cnt Pz Pj St

end Go.Proofs.Ytlapnfpdkfhfdaa

/- sync.Once.Do over ghash's compute, in one goroutine: the first time the function is called between taking and leaving the lock, and 'done' is laid behind it; afterwards nothing happens. Conditions: as the theorems say. -/
namespace Go.Proofs.Ytlapnfpdkfhfdaa
open Go.RowKit
set_option linter.unusedVariables false

/-- What the function called by the Once must keep. -/
def OnceKeepsG (b o : Nat) (R : World → Prop) : Prop := ∀ w', R w' → w'.cell? ⟨b, o, none⟩ = some (.int .u32 0) ∧ w'.cell? ⟨b, o + 1, none⟩ = some (.int .i32 1) ∧ w'.frozen? ⟨b, o, none⟩ = false ∧ w'.frozen? ⟨b, o + 1, none⟩ = false
def OnceEndG (b o : Nat) (R : World → Prop) (w' : World) : Prop := ∃ w1, R w1 ∧ w' = (w1.drew.setCell ⟨b, o, none⟩ (.int .u32 1)).setCell ⟨b, o + 1, none⟩ (.int .i32 0)

theorem onceg_done (a : Addr) (fv : Value) (w : World) (h0 : w.cell? a = some (.int .u32 1)) :
    Calls Try.prog 57 #[.pointer (some a), fv] w fun e w' => e = .returned (.tuple #[]) ∧ w = w' := by
  have hnot : ∀ (x : Bool) (w : World), (Op.unary .not (.bool x)).run Try.prog w = .ok (.bool (!x)) w := fun _ _ => rfl
  go_enter Try.func57, Try.ntmps57
  go_wp2_with fail
  refine (sy_load a 1 true _ h0 rfl).mono ?_
  rintro e w' ⟨rfl, rfl⟩
  go_wp2_with fail
  go_end0
  exact ⟨rfl, rfl⟩
end Go.Proofs.Ytlapnfpdkfhfdaa

/- The cells of a hash as New builds it. No conditions. -/
namespace Go.Proofs.Ytlapnfpdkfhfdaa
open Go.RowKit
set_option linter.unusedVariables false

def ghCells (x y : Int) : Array Value :=
  #[.int .u64 x, .int .u64 y, .int .u32 0, .int .i32 0, .int .u32 0, .int .i64 0] ++ Array.replicate 1024 (.int .u64 0)
def ghF (x y : Int) : Nat → Value := fun j => if j < 6 then (#[Value.int .u64 x, .int .u64 y, .int .u32 0, .int .i32 0, .int .u32 0, .int .i64 0] : Array Value).getD j undef else .int .u64 0
theorem gh_built (x y : Int) : Try.prog.built 117 [(0, .agg #[.int .u64 x, .int .u64 y])] = some (ghCells x y) := by kernel_rfl
theorem ghCells_at (x y : Int) (j : Nat) (hj : j < 1030) : (ghCells x y)[j]? = some (ghF x y j) := by
  unfold ghCells ghF
  by_cases h : j < 6
  · rw [if_pos h, Array.getElem?_append_left (by simp; omega)]
    rcases (show j = 0 ∨ j = 1 ∨ j = 2 ∨ j = 3 ∨ j = 4 ∨ j = 5 by omega) with rfl | rfl | rfl | rfl | rfl | rfl <;> rfl
  · rw [if_neg h, Array.getElem?_append_right (by simp; omega), Array.getElem?_replicate, if_pos (by simp; omega)]
theorem wpList_gh {w : World} {ops : Array Oper} {rest : List Oper} {o : Oper} {a : Act} {Q : Exit → Act → World → Prop} (hgd : o.guard = none) (x : Operand) (hop : o.op = .build 117 #[(0, x)])
    (h : Nat) (hx : a.eval x = PE h) (hk : wpList Try.prog ops Q rest (a.put o.dst (.agg (ghCells ((h / 2 ^ 64 : Nat) : Int) ((h % 2 ^ 64 : Nat) : Int)))) w) : wpList Try.prog ops Q (o :: rest) a w := by
  refine wpList_plain hgd fun K hK => ?_
  have hx2 : a.eval x = .agg #[.int .u64 ((h / 2 ^ 64 : Nat) : Int), .int .u64 ((h % 2 ^ 64 : Nat) : Int)] := hx
  unfold Oper.wp execOp
  simp only [hop, List.map_toArray, List.map_cons, List.map_nil, hx2, Sem.run_bind, run_build w _ #[(0, .agg #[.int .u64 ((h / 2 ^ 64 : Nat) : Int), .int .u64 ((h % 2 ^ 64 : Nat) : Int)])] _ (gh_built _ _), Result.andThen_ok]
  exact hK _ _ hk
end Go.Proofs.Ytlapnfpdkfhfdaa

/- layer 5: New, Made, and the once of a hash. Condition: the key's cells are readable; the object is as New, or an earlier call, left it. -/
namespace Go.Proofs.Ytlapnfpdkfhfdaa
open Go.RowKit
set_option linter.unusedVariables false
attribute [local irreducible] PE nB

/-- A hash that New has just laid. -/
theorem Ho.new (w : World) (h : Nat) (hh : h < 2 ^ 128) (T : TypeId) : Ho (w.alloc (.cells (ghCells ((h / 2 ^ 64 : Nat) : Int) ((h % 2 ^ 64 : Nat) : Int)) T)) w.heap.size h false := by
  refine ⟨hh, ghF ((h / 2 ^ 64 : Nat) : Int) ((h % 2 ^ 64 : Nat) : Int), Cells.new w _ T 1030 (by simp [ghCells]) _ (ghCells_at _ _) _ rfl, rfl, rfl, rfl, rfl, rfl, fun k v hk hv => ?_⟩
  have e : ∀ j, 6 ≤ j → ghF ((h / 2 ^ 64 : Nat) : Int) ((h % 2 ^ 64 : Nat) : Int) j = .int .u64 0 := fun j hj => by unfold ghF; rw [if_neg (by omega)]
  rw [e _ (by omega), e _ (by omega)]
  simp [u64v]
/-- A call that gives the address of a new hash. -/
def RetGh (h : Nat) (w : World) (e : Ending) (w' : World) : Prop :=
  ∃ b, e = .returned (.tuple #[.pointer (some ⟨b, 0, none⟩), .int .i64 0]) ∧ w.heap.size ≤ b ∧ Below w.heap.size w w' ∧ Ho w' b h false
set_option maxRecDepth 100000 in
set_option maxHeartbeats 1000000 in
theorem new_bad (A : Option Addr) (n c : Nat) (w : World) (hn : n ≤ maxLen) (h16 : n ≠ 16) :
    Calls Try.prog 35 #[.slice A n c] w fun e w' => e = .returned (.tuple #[.pointer none, .int .i64 11]) ∧ Below w.heap.size w w' := by
  go_enter Try.func35, Try.ntmps35
  go_wp2_with fail
  refine (of_bad A n c _ hn h16).mono ?_
  rintro e w1 ⟨rfl, hb⟩
  have HB := Lib.hid hb
  clear hb
  obtain ⟨w2, HW2⟩ : ∃ w2, Hid (w2 = (w1.alloc (.cells (es 0 0).toArray 101)).setCells w1.heap.size 0 (es (0 / 2 ^ 64) (0 % 2 ^ 64))) := ⟨_, Lib.hid rfl⟩
  have HB2 : Hid (Below w.heap.size w w2) := Lib.hid (by rw [HW2.out]; exact below_setCells (HB.out.alloc HB.out.size _) HB.out.size _ _)
  go_wp2_with (first | (refine wpList_stX rfl (.tmp 4) (.tmp 9) rfl w1.heap.size rfl 0 0 (by unfold PE; rfl) (by exact Ew.new w1 0 0 _ rfl) ?_; show wpList _ _ _ _ _ ((w1.alloc (.cells (es 0 0).toArray 101)).setCells w1.heap.size 0 (es (0 / 2 ^ 64) (0 % 2 ^ 64))); rw [← HW2.out]))
  go_ret2
  exact ⟨rfl, HB2.out⟩
set_option maxRecDepth 100000 in
set_option maxHeartbeats 1000000 in
theorem new_ok (A : Option Addr) (c : Nat) (k : List UInt8) (w : World) (hc : 16 ≤ c) (h16 : k.length = 16) (hr : RB w w.heap.size A 16 k) :
    Calls Try.prog 35 #[.slice A 16 c] w (RetGh (nB k) w) := by
  obtain ⟨h, HH⟩ : ∃ h, Hid (h = nB k ∧ h < 2 ^ 128) := ⟨_, Lib.hid ⟨rfl, nB_lt k h16⟩⟩
  rw [← HH.out.1]
  have HOF : Hid (Calls Try.prog 41 #[.slice A 16 c] w fun e w' => e = .returned (.tuple #[PE h, .int .i64 0]) ∧ Below w.heap.size w w') := Lib.hid (by rw [HH.out.1, nB_pe k h16]; exact of_ok A c k w hc h16 hr)
  clear hr h16
  go_enter Try.func35, Try.ntmps35
  go_wp2_with fail
  refine HOF.out.mono ?_
  rintro e w1 ⟨rfl, hb⟩
  have HB := Lib.hid hb
  clear hb HOF
  obtain ⟨w2, HW2⟩ : ∃ w2, Hid (w2 = (w1.alloc (.cells (es 0 0).toArray 101)).setCells w1.heap.size 0 (es (h / 2 ^ 64) (h % 2 ^ 64))) := ⟨_, Lib.hid rfl⟩
  have HB2 : Hid (Below w.heap.size w w2) := Lib.hid (by rw [HW2.out]; exact below_setCells (HB.out.alloc HB.out.size _) HB.out.size _ _)
  have HX2 : Hid (Xw w2 w1.heap.size h) := Lib.hid (by rw [HW2.out]; exact Ew.whole (Ew.new w1 0 0 _ rfl) _ _)
  go_wp2_with (first | (refine wpList_stX rfl (.tmp 4) (.tmp 9) rfl w1.heap.size rfl h 0 rfl (by exact Ew.new w1 0 0 _ rfl) ?_; show wpList _ _ _ _ _ ((w1.alloc (.cells (es 0 0).toArray 101)).setCells w1.heap.size 0 (es (h / 2 ^ 64) (h % 2 ^ 64))); rw [← HW2.out]) | (refine wpList_ldX rfl (.tmp 4) rfl w1.heap.size rfl h (by exact HX2.out) ?_) | (refine wpList_gh rfl (.tmp 14) rfl h rfl ?_))
  go_ret2
  exact ⟨_, rfl, HB2.out.size, HB2.out.alloc HB2.out.size _, Ho.new w2 h HH.out.2 _⟩

def madeG (d : Bool) : Int := if d then 1 else 0
end Go.Proofs.Ytlapnfpdkfhfdaa

/- layer 5: Times, by the table. Conditions: the object is as New, or an earlier call, left it; a number of 128 bits. -/
namespace Go.Proofs.Ytlapnfpdkfhfdaa
open Go.RowKit
set_option linter.unusedVariables false
set_option linter.unusedSimpArgs false

/-- Word i of a number; nibbles of a word, moved. -/
def wrd (e i : Nat) : Nat := if i = 0 then e / 2 ^ 64 else e % 2 ^ 64
def nSh (v j : Nat) : Nat := v * 2 ^ (4 * j) % 2 ^ 64
theorem nSh_zero (v : Nat) (hv : v < 2 ^ 64) : nSh v 0 = v := by unfold nSh; rw [Nat.mul_zero, Nat.pow_zero, Nat.mul_one]; exact Nat.mod_eq_of_lt hv
theorem nSh_lt (v j : Nat) : nSh v j < 2 ^ 64 := Nat.mod_lt _ (by omega)
theorem nSh_next (v j : Nat) : nSh v (j + 1) = nSh v j * 16 % 2 ^ 64 := by
  unfold nSh
  rw [show 4 * (j + 1) = 4 * j + 4 by omega, Nat.pow_add, ← Nat.mul_assoc]
  generalize v * 2 ^ (4 * j) = x
  omega
theorem nSh_nib (v j : Nat) (hj : j < 16) : nSh v j / 2 ^ 60 = v / 2 ^ (60 - 4 * j) % 16 := by
  obtain ⟨d, hd⟩ : ∃ d, 60 = 4 * j + d := ⟨60 - 4 * j, by omega⟩
  unfold nSh
  have e1 : (2 : Nat) ^ 64 = 2 ^ d * 16 * 2 ^ (4 * j) := by rw [show (64 : Nat) = d + 4 + 4 * j by omega, Nat.pow_add, Nat.pow_add]
  have e2 : (2 : Nat) ^ 60 = 2 ^ d * 2 ^ (4 * j) := by rw [hd, Nat.pow_add, Nat.mul_comm]
  rw [e1, e2, Nat.mul_mod_mul_right, Nat.mul_div_mul_right _ _ (Nat.pow_pos (by omega)), Nat.mod_mul_right_div_self, show 60 - 4 * j = d by omega]
theorem wrd_lt (e i : Nat) (he : e < 2 ^ 128) : wrd e i < 2 ^ 64 := by unfold wrd; split <;> omega
theorem wrd_nib (e i j : Nat) (hi : i < 2) (hj : j < 16) : nSh (wrd e i) j / 2 ^ 60 = nib e (16 * i + j) := by
  rw [nSh_nib _ _ hj]
  unfold nib wrd
  rcases (show i = 0 ∨ i = 1 by omega) with rfl | rfl
  · rw [if_pos rfl, Nat.div_div_eq_div_mul, ← Nat.pow_add, show 64 + (60 - 4 * j) = 124 - 4 * (16 * 0 + j) by omega]
  · rw [if_neg (by omega), show 124 - 4 * (16 * 1 + j) = 60 - 4 * j by omega]
    obtain ⟨d, hd⟩ : ∃ d, 64 = (60 - 4 * j) + (4 + d) := ⟨4 * j, by omega⟩
    generalize 60 - 4 * j = m at hd
    have e1 : (2 : Nat) ^ 64 = 2 ^ m * (16 * 2 ^ d) := by rw [hd, Nat.pow_add, Nat.pow_add]
    rw [e1, Nat.mod_mul_right_div_self, Nat.mod_mul_right_mod]
theorem nSum_succ (h e k : Nat) : nSum h e (k + 1) = nSum h e k ^^^ gTab h k (nib e k) := rfl
theorem nSum_lt (h e : Nat) : ∀ k, k ≤ 32 → nSum h e k < 2 ^ 128
  | 0, _ => by unfold nSum; omega
  | k + 1, hk => by rw [nSum_succ]; exact Nat.xor_lt_two_pow (nSum_lt h e k (by omega)) (gTab_lt h k _ (by omega) (nib_lt e k))
theorem Ho.ld {w : World} {b h : Nat} (o : Ho w b h true) (k v : Nat) (hk : k < 32) (hv : v < 16) : ldP (.pointer (some ⟨b, 6 + k * 32 + v * 2, none⟩)) w = .ok (.value (PE (gTab h k v))) w := by
  obtain ⟨hh, f, hc, h0, h1, h2, h3, h5, ht⟩ := o
  exact ldP_m (tab_range hc ht hk hv)
theorem res_pe {fn : Func} {p : Tmp} (hr : fn.results = #[.cell p 101]) (tmps : Array Value) (w : World) (b x : Nat) (ht : tmps.getD p undef = .pointer (some ⟨b, 0, none⟩)) (hc : Xw w b x) :
    (results fn tmps).run Try.prog w = .ok (PE x) w := res_ew hr tmps w b _ _ ht hc
attribute [local irreducible] PE gTab nSum nib wrd nSh Ho

end Go.Proofs.Ytlapnfpdkfhfdaa

/- layer 5: Fold. Conditions: the object is as New, or an earlier call, left it; the slice's cells are readable and not the object's; numbers of 128 bits. -/
namespace Go.Proofs.Ytlapnfpdkfhfdaa
open Go.RowKit
set_option linter.unusedVariables false
set_option linter.unusedSimpArgs false

theorem gFold_take (h f : Nat) (xs : List Nat) (i x : Nat) (hx : xs[i]? = some x) : gMul (gFold h f (xs.take i) ^^^ x) h = gFold h f (xs.take (i + 1)) := by
  rw [List.take_add_one, hx]; exact (gFold_snoc h x _ f).symm
attribute [local irreducible] PE gMul gFold Ho

end Go.Proofs.Ytlapnfpdkfhfdaa

