/- aes's squares in memory: the walk reads and writes them whole. No conditions; nothing is claimed of the program here. -/
import Derived.Test.YtbpbpkmjkbndbaaAesSq
namespace Go.Proofs.Ytbpbpkmjkbndbaa
open Go.RowKit
set_option linter.unusedVariables false

/-- Sixteen cells from o on, where they are there. -/
noncomputable def Rd (w : World) (b o : Nat) : Option (List Value) :=
  if ∀ j, j < 16 → (w.cell? ⟨b, o + j, none⟩).isSome = true then some ((List.range 16).map fun j => (w.cell? ⟨b, o + j, none⟩).getD undef) else none
noncomputable def loadElse (w : World) (b o : Nat) : Result Value := (Instr.loadAt 49 (.pointer (some ⟨b, o, none⟩))).run Try.prog w
theorem Rd_range {w : World} {b o : Nat} {cs : List Value} (h : Rd w b o = some cs) : w.rangeAt b o cs ∧ cs.length = 16 := by
  unfold Rd at h
  split at h
  · rename_i hs
    injection h with h
    subst h
    refine ⟨fun j v hv => ?_, by simp⟩
    have hj : j < 16 := by have := (List.getElem?_eq_some_iff.1 hv).1; simpa using this
    simp only [List.getElem?_map, List.getElem?_range hj, Option.map_some] at hv
    injection hv with hv
    obtain ⟨u, hu⟩ := Option.isSome_iff_exists.1 (hs j hj)
    rw [hu] at hv ⊢
    simpa using hv
  · cases h
theorem Rd_of {w : World} {b o : Nat} {l : List UInt8} (h : Ar w b o l) (hl : l.length = 16) : Rd w b o = some (bvs l) := by
  have hc : ∀ j, j < 16 → w.cell? ⟨b, o + j, none⟩ = some (bv (l.getD j 0)) := fun j hj => by
    have : l[j]? = some (l.getD j 0) := by simp [List.getD, hl, hj]
    exact h.cell this
  unfold Rd
  rw [if_pos (fun j hj => by rw [hc j hj]; rfl)]
  congr 1
  apply List.ext_getElem
  · simp [bvs_length, hl]
  · intro j h1 h2
    have hj : j < 16 := by simpa using h1
    simp only [List.getElem_map, List.getElem_range]
    rw [hc j hj]
    simp [bvs, List.getD, hl, hj]
theorem ld_sq (w : World) (b o : Nat) : (Instr.loadAt 49 (.pointer (some ⟨b, o, none⟩))).run Try.prog w = (Rd w b o).elim (loadElse w b o) (fun cs => .ok (.agg cs.toArray) w) := by
  rcases h : Rd w b o with _ | cs
  · rw [Option.elim_none, loadElse]
  · obtain ⟨h1, h2⟩ := Rd_range h
    rw [Option.elim_some]
    exact run_loadAt_mid (P := Try.prog) w b o _ cs _ h1 up_sq rfl (by rw [h2]; exact sz_sq)
theorem Rd_drew (w : World) (b o : Nat) : Rd w.drew b o = Rd w b o := rfl
theorem st_sq (w : World) (b o : Nat) (l : List UInt8) (ht : w.there b o 16) (hl : l.length = 16) : (Instr.storeAt 49 (.pointer (some ⟨b, o, none⟩)) (.agg (bvs l).toArray)).run Try.prog w = .ok () (w.setCells b o (bvs l)) := by
  have := run_storeAt_mid (P := Try.prog) w b o 49 (bvs l).toArray (by simpa [bvs_length, hl] using ht) (by simpa [bvs_length, hl] using sz_sq) (all_bvs l)
  simpa using this
theorem setCells_drew (w : World) (b : Nat) : ∀ (vs : List Value) (o : Nat), w.drew.setCells b o vs = (w.setCells b o vs).drew := by
  intro vs
  induction vs generalizing w with
  | nil => intro o; rfl
  | cons v r ih => intro o; rw [World.setCells, World.setCell_drew, ih]; rfl
noncomputable def ldN (v : Value) (w : World) : Result Next := Sem.run Try.prog (do let r ← Instr.loadAt 49 v; pure (Next.value r)) w
noncomputable def stN (v x : Value) (w : World) : Result Next := Sem.run Try.prog (do Instr.storeAt 49 v x; pure Next.skip) w
theorem ex_ld (ev : Operand → Value) (x : Operand) (d : Option Tmp) (ty : TypeId) (ps : String) (af : Array Edge) (g : Option (Nat × Bool)) (w : World) : (execOp ev ⟨d, .load 49 x, ty, ps, af, g⟩).run Try.prog w = ldN (ev x) w := rfl
theorem ex_st (ev : Operand → Value) (x y : Operand) (d : Option Tmp) (ty : TypeId) (ps : String) (af : Array Edge) (g : Option (Nat × Bool)) (w : World) : (execOp ev ⟨d, .store 49 x y, ty, ps, af, g⟩).run Try.prog w = stN (ev x) (ev y) w := rfl
theorem ldN_ptr (w : World) (b o : Nat) : ldN (.pointer (some ⟨b, o, none⟩)) w = (Rd w b o).elim (ldN (.pointer (some ⟨b, o, none⟩)) w) (fun cs => .ok (.value (.agg cs.toArray)) w) := by
  rcases h : Rd w b o with _ | cs
  · rw [Option.elim_none]
  · rw [Option.elim_some]
    have := ld_sq w b o
    rw [h, Option.elim_some] at this
    unfold ldN
    simp only [Sem.run_bind, this, Result.andThen_ok, Sem.run_pure]
theorem stN_ptr (w : World) (b o : Nat) (l : List UInt8) (ht : w.there b o 16) (hl : l.length = 16) : stN (.pointer (some ⟨b, o, none⟩)) (AV l) w = .ok .skip (w.setCells b o (bvs l)) := by
  unfold stN AV
  simp only [Sem.run_bind, st_sq w b o l ht hl, Result.andThen_ok, Sem.run_pure]
/-- A square read where it lies. -/
theorem ldN_ar (w : World) (b o : Nat) (l : List UInt8) (h : Ar w b o l) (hl : l.length = 16) : ldN (.pointer (some ⟨b, o, none⟩)) w = .ok (.value (AV l)) w := by
  rw [ldN_ptr, Rd_of h hl, Option.elim_some]; rfl
theorem Ar.there16 {w : World} {b o : Nat} {l : List UInt8} (h : Ar w b o l) (hl : l.length = 16) : w.there b o 16 := by have := h.2; rw [bvs_length, hl] at this; exact this
/-- The same for words. -/
noncomputable def ldW (v : Value) (w : World) : Result Next := Sem.run Try.prog (do let r ← Instr.loadAt 47 v; pure (Next.value r)) w
noncomputable def stW (v x : Value) (w : World) : Result Next := Sem.run Try.prog (do Instr.storeAt 47 v x; pure Next.skip) w
theorem ex_ldW (ev : Operand → Value) (x : Operand) (d : Option Tmp) (ty : TypeId) (ps : String) (af : Array Edge) (g : Option (Nat × Bool)) (w : World) : (execOp ev ⟨d, .load 47 x, ty, ps, af, g⟩).run Try.prog w = ldW (ev x) w := rfl
theorem ex_stW (ev : Operand → Value) (x y : Operand) (d : Option Tmp) (ty : TypeId) (ps : String) (af : Array Edge) (g : Option (Nat × Bool)) (w : World) : (execOp ev ⟨d, .store 47 x y, ty, ps, af, g⟩).run Try.prog w = stW (ev x) (ev y) w := rfl
theorem ldW_ar (w : World) (b o : Nat) (l : List UInt8) (h : Ar w b o l) (hl : l.length = 4) : ldW (.pointer (some ⟨b, o, none⟩)) w = .ok (.value (AV l)) w := by
  have := run_loadAt_mid (P := Try.prog) w b o 47 (bvs l) _ h.1 up_word rfl (by rw [bvs_length, hl]; exact sz_word)
  unfold ldW
  simp only [Sem.run_bind, this, Result.andThen_ok, Sem.run_pure]
  rfl
theorem stW_ptr (w : World) (b o : Nat) (l : List UInt8) (ht : w.there b o 4) (hl : l.length = 4) : stW (.pointer (some ⟨b, o, none⟩)) (AV l) w = .ok .skip (w.setCells b o (bvs l)) := by
  have := run_storeAt_mid (P := Try.prog) w b o 47 (bvs l).toArray (by simpa [bvs_length, hl] using ht) (by simpa [bvs_length, hl] using sz_word) (all_bvs l)
  unfold stW AV
  simp only [Sem.run_bind, this, Result.andThen_ok, Sem.run_pure]
theorem Ar.there4 {w : World} {b o : Nat} {l : List UInt8} (h : Ar w b o l) (hl : l.length = 4) : w.there b o 4 := by have := h.2; rw [bvs_length, hl] at this; exact this
attribute [go_sem ↓] ex_ld ex_st ex_ldW ex_stW
attribute [go_sem] stN_ptr stW_ptr
end Go.Proofs.Ytbpbpkmjkbndbaa
