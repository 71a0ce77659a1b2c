/- sync.Once.Do over field's compute, in one goroutine: the first time the function is called between taking and leaving the lock, and 'done' is laid behind it; afterwards nothing happens. Conditions: as the theorems say. -/
import Derived.Test.YtbpbpkmjkbndbaaOnce
import Derived.WalkKit
import Derived.Lib.Hide
namespace Go.Proofs.Ytbpbpkmjkbndbaa
open Go.RowKit
set_option linter.unusedVariables false

/-- What the function called by the Once must keep. -/
def OnceKeeps (b o : Nat) (R : World → Prop) : Prop := ∀ w', R w' → w'.cell? ⟨b, o, none⟩ = some (.int .u32 0) ∧ w'.cell? ⟨b, o + 1, none⟩ = some (.int .i32 1) ∧ w'.frozen? ⟨b, o, none⟩ = false ∧ w'.frozen? ⟨b, o + 1, none⟩ = false
def RetR (R : World → Prop) (e : Ending) (w' : World) : Prop := e = .returned (.tuple #[]) ∧ R w'
def OnceEnd (b o : Nat) (R : World → Prop) (w' : World) : Prop := ∃ w1, R w1 ∧ w' = (w1.drew.setCell ⟨b, o, none⟩ (.int .u32 1)).setCell ⟨b, o + 1, none⟩ (.int .i32 0)

set_option maxRecDepth 100000 in
set_option maxHeartbeats 1600000 in
theorem once_slow (b o : Nat) (v : Value) (R : World → Prop) (w : World)
    (h0 : w.cell? ⟨b, o, none⟩ = some (.int .u32 0)) (h1 : w.cell? ⟨b, o + 1, none⟩ = some (.int .i32 0))
    (f0 : w.frozen? ⟨b, o, none⟩ = false) (f1 : w.frozen? ⟨b, o + 1, none⟩ = false)
    (hcall : Calls Try.prog 58 #[v] (w.setCell ⟨b, o + 1, none⟩ (.int .i32 1)) (RetR R)) (hkeep : OnceKeeps b o R) :
    Calls Try.prog 62 #[.pointer (some ⟨b, o, none⟩), .func (.func 58) #[v] #[]] w (RetR (OnceEnd b o R)) := by
  have HC := Lib.hid hcall
  have HK := Lib.hid hkeep
  clear hcall hkeep
  have hnot : ∀ (x : Bool) (w : World), (Op.unary .not (.bool x)).run Try.prog w = .ok (.bool (!x)) w := fun _ _ => rfl
  have hl : (w.setCell ⟨b, o + 1, none⟩ (.int .i32 1)).cell? ⟨b, o, none⟩ = some (.int .u32 0) := (World.cell?_setCell_other _ ⟨b, o + 1, none⟩ ⟨b, o, none⟩ _ (by simp)).trans h0
  go_enter_defers Try.func62, Try.ntmps62
  go_wp2_with fail
  refine (sy_lock ⟨b, o + 1, none⟩ _ h1 f1).mono ?_
  rintro e w' ⟨rfl, rfl⟩
  go_wp2_with fail
  refine (sy_load ⟨b, o, none⟩ 0 false _ hl rfl).mono ?_
  rintro e w' ⟨rfl, rfl⟩
  go_wp2_with fail
  refine HC.out.mono ?_
  rintro e w1 ⟨rfl, hR⟩
  obtain ⟨k0, k1, z0, z1⟩ := HK.out w1 hR
  go_wp2_with fail
  -- THE DOOR: two deferred calls, the last laid first
  refine leaves_cons (f := 70) (args := #[.pointer (some ⟨b, o, none⟩), .bool true]) (by simp) (by simp [go_sem]) ?_
  refine (sy_store_deferred ⟨b, o, none⟩ (.int .u32 0) .returning _ k0 z0).mono ?_
  rintro e u' w'' ⟨rfl, rfl, rfl⟩
  refine leaves_cons (f := 69) (args := #[.pointer (some ⟨b, o + 1, none⟩)]) (by simp [settle]) (by simp [go_sem]) ?_
  refine (sy_unlock_deferred ⟨b, o + 1, none⟩ _ _ ?_ (by simp [z1])).mono ?_
  · refine (World.cell?_setCell_other _ ⟨b, o, none⟩ ⟨b, o + 1, none⟩ _ (by simp)).trans ?_
    rw [World.cell?_drew]
    exact k1
  rintro e u' w'' ⟨rfl, rfl, rfl⟩
  simp only [Leaves, settle]
  exact ⟨_, results_none rfl _ _ _, rfl, w1, hR, rfl⟩

set_option maxRecDepth 100000 in
set_option maxHeartbeats 1600000 in
theorem once_first (b o : Nat) (v : Value) (R : World → Prop) (w : World)
    (h0 : w.cell? ⟨b, o, none⟩ = some (.int .u32 0)) (h1 : w.cell? ⟨b, o + 1, none⟩ = some (.int .i32 0))
    (f0 : w.frozen? ⟨b, o, none⟩ = false) (f1 : w.frozen? ⟨b, o + 1, none⟩ = false)
    (hcall : Calls Try.prog 58 #[v] (w.setCell ⟨b, o + 1, none⟩ (.int .i32 1)) (RetR R)) (hkeep : OnceKeeps b o R) :
    Calls Try.prog 57 #[.pointer (some ⟨b, o, none⟩), .func (.func 58) #[v] #[]] w (RetR (OnceEnd b o R)) := by
  have HC := Lib.hid (once_slow b o v R w h0 h1 f0 f1 hcall hkeep)
  clear hcall hkeep
  have hnot : ∀ (x : Bool) (w : World), (Op.unary .not (.bool x)).run Try.prog w = .ok (.bool (!x)) w := fun _ _ => rfl
  go_enter Try.func57, Try.ntmps57
  go_wp2_with fail
  refine (sy_load ⟨b, o, none⟩ 0 false _ h0 rfl).mono ?_
  rintro e w' ⟨rfl, rfl⟩
  go_wp2_with fail
  refine HC.out.mono ?_
  rintro e w1 ⟨rfl, hR⟩
  go_wp2_with fail
  go_end0
  exact ⟨rfl, hR⟩

theorem once_done (a : Addr) (fv : Value) (w : World) (h0 : w.cell? a = some (.int .u32 1)) :
    Calls Try.prog 57 #[.pointer (some a), fv] w fun e w' => e = .returned (.tuple #[]) ∧ w = w' := by
  have hnot : ∀ (x : Bool) (w : World), (Op.unary .not (.bool x)).run Try.prog w = .ok (.bool (!x)) w := fun _ _ => rfl
  go_enter Try.func57, Try.ntmps57
  go_wp2_with fail
  refine (sy_load a 1 true _ h0 rfl).mono ?_
  rintro e w' ⟨rfl, rfl⟩
  go_wp2_with fail
  go_end0
  exact ⟨rfl, rfl⟩
end Go.Proofs.Ytbpbpkmjkbndbaa
