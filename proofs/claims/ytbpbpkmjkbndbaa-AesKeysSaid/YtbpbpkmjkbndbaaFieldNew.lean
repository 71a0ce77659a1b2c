/- field.New: an object of tables of its own bytes, not yet filled. Condition: the slice's cells are readable. -/
import Derived.Test.YtbpbpkmjkbndbaaFieldTab
import Derived.Test.YtbpbpkmjkbndbaaClone
import Derived.Test.YtbpbpkmjkbndbaaFieldBox
namespace Go.Proofs.Ytbpbpkmjkbndbaa
open Go.RowKit
set_option linter.unusedVariables false

/-- An object of tables: its cells, what they lead to, whether it has been filled. -/
def Tab (w : World) (lo b : Nat) (l : List UInt8) (d : Bool) : Prop :=
  ∃ f, lo ≤ b ∧ Cells w b 773 f ∧ Rest w lo b f l ∧ f 1 = .int .u32 (if d then 1 else 0) ∧ f 2 = .int .i32 0 ∧ f 4 = .int .i64 (if d then 1 else 0) ∧ (d = true → Full f l)
/-- A call that gives the address of a new object. -/
def RetTab (l : List UInt8) (w : World) (e : Ending) (w' : World) : Prop :=
  ∃ b, e = .returned (.pointer (some ⟨b, 0, none⟩)) ∧ Below w.heap.size w w' ∧ Tab w' w.heap.size b l false

theorem By.of_own {w : World} {base n c b : Nat} {A : Option Addr} {l : List UInt8} (h : OwnB w base A n c l) (hb : w.heap.size ≤ b) : By w base b A n l := by
  refine ⟨h.len, fun hn => ?_⟩
  obtain ⟨g, rfl, h1, h2⟩ := h.form hn
  refine ⟨g, rfl, h1, by omega, fun j hj => ⟨?_, h.freeAt j⟩⟩
  have hl : j < l.length := by rw [h.len]; exact hj
  rw [h.cellAt (List.getElem?_eq_getElem hl)]
  simp [bv, List.getD, hl]

set_option maxRecDepth 100000 in
set_option maxHeartbeats 1000000 in
theorem new_any (A : Option Addr) (n c B : Nat) (l : List UInt8) (w : World) (h : RB w B A n l) (hB : B ≤ w.heap.size) (hn : n ≤ 140737488355328) :
    Calls Try.prog 22 #[.slice A n c] w (RetTab l w) := by
  go_enter Try.func22, Try.ntmps22
  go_wp2_with fail
  refine (clone_any A n c B l _ h hB hn).mono ?_
  rintro e w1 ⟨A2, c2, rfl, hown, hb1⟩
  go_wp2_with (refine wpList_tab rfl (.tmp 4) rfl A2 n c2 rfl ?_)
  go_ret
  have hr : Rest w1 w.heap.size w1.heap.size (tabF A2 n c2) l := ⟨A2, n, c2, rfl, hn, By.of_own hown (Nat.le_refl _), fun y hy => .inl (by unfold tabF; rw [if_neg (by omega), if_neg (by omega)])⟩
  exact ⟨_, rfl, hb1.alloc hb1.size _, _, hb1.size, Cells.new w1 _ _ 773 (by simp [tabCells]) (tabF A2 n c2) (tabCells_at A2 n c2) _ rfl, hr.keep (held_below (below_alloc w1 _)) rfl (fun _ _ => rfl), rfl, rfl, rfl, fun h => absurd h (by simp)⟩

/-- The Once of an object: behind it the tables are filled, whether or not they were before. -/
def UseTab (v : Value) (lo b : Nat) (l : List UInt8) (w : World) (e : Ending) (w' : World) : Prop := e = .returned v ∧ Below lo w w' ∧ Tab w' lo b l true

/-- The same, and more closely: every other block is as it was; where the tables were filled nothing is written. -/
def UseAt (v : Value) (lo b : Nat) (l : List UInt8) (d : Bool) (w : World) (e : Ending) (w' : World) : Prop := e = .returned v ∧ But b w w' ∧ Tab w' lo b l true ∧ (d = true → Below w.heap.size w w')

set_option maxRecDepth 100000 in
set_option maxHeartbeats 1000000 in
theorem once_at (lo b : Nat) (l : List UInt8) (d : Bool) (w : World) (h : Tab w lo b l d) :
    Calls Try.prog 57 #[.pointer (some ⟨b, 1, none⟩), .func (.func 58) #[.pointer (some ⟨b, 0, none⟩)] #[]] w (UseAt (.tuple #[]) lo b l d w) := by
  obtain ⟨f, hlo, hc, hr, h1, h2, h4, hd⟩ := h
  have c1 := hc.cell (show 1 < 773 by omega)
  have c2 := hc.cell (show 1 + 1 < 773 by omega)
  rw [h1] at c1
  rw [h2] at c2
  rcases d with _ | _
  · have hcomp := compute_any b lo l (upd f 2 (.int .i32 1)) (w.setCell ⟨b, 2, none⟩ (.int .i32 1)) hlo (hc.set (show 2 < 773 by omega) _) (hr.keep (held_set w lo b 2 _) (upd_other _ _ _ _ (by omega)) (fun y hy => upd_other _ _ _ _ (by omega))) ((upd_other _ _ _ _ (by omega)).trans h4)
    refine (once_first b 1 _ _ w c1 c2 (hc.free (by omega)) (hc.free (by omega)) hcomp ?_).mono ?_
    · rintro w' ⟨hb, f', k1, k2, k3, e1, e2, e4⟩
      have q1 := k1.cell (show 1 < 773 by omega)
      have q2 := k1.cell (show 1 + 1 < 773 by omega)
      rw [e1, upd_other _ _ _ _ (by omega), h1] at q1
      rw [e2, upd_same] at q2
      exact ⟨q1, q2, k1.free (by omega), k1.free (by omega)⟩
    · rintro e w' ⟨rfl, w1, ⟨hb, f', k1, k2, k3, e1, e2, e4⟩, rfl⟩
      refine ⟨rfl, ?_, ?_, fun hd => absurd hd (by simp)⟩
      · exact ((((But.refl b w).self _ _).trans hb).drew.self _ _).self _ _
      · refine ⟨upd (upd f' 1 (.int .u32 1)) 2 (.int .i32 0), hlo, (k1.drew.set (show 1 < 773 by omega) _).set (show 2 < 773 by omega) _, ?_, ?_, upd_same _ _ _, ?_, fun _ => (k3.upd4 (k := 1)).upd4 (k := 2)⟩
        · refine (k2.keep (w' := (w1.drew.setCell ⟨b, 1, none⟩ (.int .u32 1)).setCell ⟨b, 2, none⟩ (.int .i32 0)) ?_ ?_ ?_)
          · exact Held.trans (w1 := w1.drew) (fun _ _ _ _ _ _ hh => hh.drew) ((held_set _ lo b 1 _).trans (held_set _ lo b 2 _))
          · rw [upd_other _ _ _ _ (by omega), upd_other _ _ _ _ (by omega)]
          · intro y hy; rw [upd_other _ _ _ _ (by omega), upd_other _ _ _ _ (by omega)]
        · rw [upd_other _ _ _ _ (by omega), upd_same]; rfl
        · rw [upd_other _ _ _ _ (by omega), upd_other _ _ _ _ (by omega), e4]; rfl
  · refine (once_done _ _ w c1).mono ?_
    rintro e w' ⟨rfl, rfl⟩
    exact ⟨rfl, But.refl _ _, ⟨f, hlo, hc, hr, h1, h2, h4, hd⟩, fun _ => Below.refl _ _⟩
theorem UseAt.tab {v : Value} {lo b : Nat} {l : List UInt8} {d : Bool} {w w' : World} {e : Ending} (h : UseAt v lo b l d w e w') (ht : Tab w lo b l d) : UseTab v lo b l w e w' := by
  obtain ⟨f, hlo, hc, _⟩ := ht
  exact ⟨h.1, h.2.1.below hlo (hc.lt (by omega)), h.2.2.1⟩
theorem once_tab (lo b : Nat) (l : List UInt8) (d : Bool) (w : World) (h : Tab w lo b l d) :
    Calls Try.prog 57 #[.pointer (some ⟨b, 1, none⟩), .func (.func 58) #[.pointer (some ⟨b, 0, none⟩)] #[]] w (UseTab (.tuple #[]) lo b l w) :=
  (once_at lo b l d w h).mono fun e w' hu => hu.tab h
end Go.Proofs.Ytbpbpkmjkbndbaa
