/- aes's words: add. No conditions. -/
import Derived.Test.YtbpbpkmjkbndbaaArr
namespace Go.Proofs.Ytbpbpkmjkbndbaa
open Go.RowKit
set_option linter.unusedVariables false

theorem up_word : Try.prog.underlying 47 = some (.array 4 5) := by kernel_rfl
theorem sz_word : (Try.prog.info? 47).map (·.size) = some 4 := by kernel_rfl
/-- A call that gives an array of bytes, and keeps all that was there. -/
def RetA (l : List UInt8) (w : World) (e : Ending) (w' : World) : Prop := e = .returned (AV l) ∧ Below w.heap.size w w'
theorem list4 (l : List UInt8) (h : l.length = 4) : ∃ a b c d, l = [a, b, c, d] := by
  match l, h with
  | [a, b, c, d], _ => exact ⟨a, b, c, d, rfl⟩

/-- A result that lies in a variable of bytes. -/
theorem res_cell {fn : Func} {p : Tmp} {ty : TypeId} (h : fn.results = #[.cell p ty]) (tmps : Array Value) (w : World) (b n : Nat) (e : TypeId) (l : List UInt8) (ht : tmps.getD p undef = .pointer (some ⟨b, 0, none⟩)) (hc : Ar w b 0 l)
    (hu : Try.prog.underlying ty = some (.array n e)) (hi : (Try.prog.info? ty).map (·.size) = some l.length) : (results fn tmps).run Try.prog w = .ok (AV l) w := by
  have hl := run_loadVar_mid (P := Try.prog) w b 0 ty (bvs l) (.array n e) hc.1 hu rfl (by rw [bvs_length]; exact hi)
  rw [Array.getD_eq_getD_getElem?] at ht
  simp only [results, h]
  simp [ht, asAddr, hl, AV]
theorem widx0 (a b c d : Value) (W : World) : (Instr.index 47 (.agg #[a, b, c, d]) (.int .i64 0)).run Try.prog W = .ok a W := by kernel_rfl
theorem widx1 (a b c d : Value) (W : World) : (Instr.index 47 (.agg #[a, b, c, d]) (.int .i64 1)).run Try.prog W = .ok b W := by kernel_rfl
theorem widx2 (a b c d : Value) (W : World) : (Instr.index 47 (.agg #[a, b, c, d]) (.int .i64 2)).run Try.prog W = .ok c W := by kernel_rfl
theorem widx3 (a b c d : Value) (W : World) : (Instr.index 47 (.agg #[a, b, c, d]) (.int .i64 3)).run Try.prog W = .ok d W := by kernel_rfl
theorem word_at (l : List UInt8) (h : l.length = 4) (k : Nat) (hk : k < 4) (x : UInt8) (hx : l[k]? = some x) (W : World) : (Instr.index 47 (AV l) (.int .i64 (k : Int))).run Try.prog W = .ok (.int .u8 (x.toNat : Int)) W := by
  obtain ⟨a, b, c, d, rfl⟩ := list4 l h
  rcases (show k = 0 ∨ k = 1 ∨ k = 2 ∨ k = 3 by omega) with rfl | rfl | rfl | rfl <;> simp at hx <;> subst hx
  · exact widx0 _ _ _ _ W
  · exact widx1 _ _ _ _ W
  · exact widx2 _ _ _ _ W
  · exact widx3 _ _ _ _ W
/-- Four bytes' cells. -/
theorem Ar.four {w : World} {g o : Nat} {a b c d : UInt8} (h : Ar w g o [a, b, c, d]) : w.cell? ⟨g, o, none⟩ = some (.int .u8 (a.toNat : Int)) ∧ w.cell? ⟨g, o + 1, none⟩ = some (.int .u8 (b.toNat : Int)) ∧ w.cell? ⟨g, o + 2, none⟩ = some (.int .u8 (c.toNat : Int)) ∧ w.cell? ⟨g, o + 3, none⟩ = some (.int .u8 (d.toNat : Int)) :=
  ⟨h.cell (j := 0) rfl, h.cell (j := 1) rfl, h.cell (j := 2) rfl, h.cell (j := 3) rfl⟩
theorem Ar.fours {w : World} {g o : Nat} {l : List UInt8} (h : Ar w g o l) (hl : l.length = 4) : w.frozen? ⟨g, o, none⟩ = false ∧ w.frozen? ⟨g, o + 1, none⟩ = false ∧ w.frozen? ⟨g, o + 2, none⟩ = false ∧ w.frozen? ⟨g, o + 3, none⟩ = false :=
  ⟨h.free (j := 0) (by omega), h.free (j := 1) (by omega), h.free (j := 2) (by omega), h.free (j := 3) (by omega)⟩
theorem Ar.four0 {w : World} {g : Nat} {a b c d : UInt8} (h : Ar w g 0 [a, b, c, d]) : w.cell? ⟨g, 0, none⟩ = some (.int .u8 (a.toNat : Int)) ∧ w.cell? ⟨g, 1, none⟩ = some (.int .u8 (b.toNat : Int)) ∧ w.cell? ⟨g, 2, none⟩ = some (.int .u8 (c.toNat : Int)) ∧ w.cell? ⟨g, 3, none⟩ = some (.int .u8 (d.toNat : Int)) := h.four
theorem Ar.fours0 {w : World} {g : Nat} {l : List UInt8} (h : Ar w g 0 l) (hl : l.length = 4) : w.frozen? ⟨g, 0, none⟩ = false ∧ w.frozen? ⟨g, 1, none⟩ = false ∧ w.frozen? ⟨g, 2, none⟩ = false ∧ w.frozen? ⟨g, 3, none⟩ = false := h.fours hl
set_option maxRecDepth 100000 in
set_option maxHeartbeats 1000000 in
theorem wadd_any (l m : List UInt8) (w : World) (hl : l.length = 4) (hm : m.length = 4) :
    Calls Try.prog 40 #[AV l, AV m] w (RetA (xorL l m) w) := by
  obtain ⟨a0, a1, a2, a3, rfl⟩ := list4 l hl
  obtain ⟨b0, b1, b2, b3, rfl⟩ := list4 m hm
  have x0 := xor_byte a0 b0
  have x1 := xor_byte a1 b1
  have x2 := xor_byte a2 b2
  have x3 := xor_byte a3 b3
  unfold AV bvs bv
  simp only [List.map_cons, List.map_nil]
  go_enter Try.func40, Try.ntmps40
  go_wp2_with fail
  have i0 := widx0 (.int .u8 (b0.toNat : Int)) (.int .u8 (b1.toNat : Int)) (.int .u8 (b2.toNat : Int)) (.int .u8 (b3.toNat : Int))
  have i1 := widx1 (.int .u8 (b0.toNat : Int)) (.int .u8 (b1.toNat : Int)) (.int .u8 (b2.toNat : Int)) (.int .u8 (b3.toNat : Int))
  have i2 := widx2 (.int .u8 (b0.toNat : Int)) (.int .u8 (b1.toNat : Int)) (.int .u8 (b2.toNat : Int)) (.int .u8 (b3.toNat : Int))
  have i3 := widx3 (.int .u8 (b0.toNat : Int)) (.int .u8 (b1.toNat : Int)) (.int .u8 (b2.toNat : Int)) (.int .u8 (b3.toNat : Int))
  refine wp_loop_rounds 5 ?_
  rw [rounds_succ]
  go_wp2_with fail
  rw [rounds_succ]
  go_wp2_with fail
  rw [rounds_succ]
  go_wp2_with fail
  rw [rounds_succ]
  go_wp2_with fail
  rw [rounds_succ]
  go_wp2_with fail
  refine bodyPost_ret (v := AV (xorL [a0, a1, a2, a3] [b0, b1, b2, b3])) (by simp [results, Try.results40, go_sem, AV, bvs, bv, xorL]) rfl ⟨rfl, ?_⟩
  exact (((Below.refl w.heap.size w).alloc (Nat.le_refl _) _).alloc (by simp) _).alloc (by simp; omega) _
end Go.Proofs.Ytbpbpkmjkbndbaa
