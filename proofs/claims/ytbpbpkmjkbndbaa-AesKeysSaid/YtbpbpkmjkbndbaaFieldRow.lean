/- field's tables: one row of products. No conditions. -/
import Derived.Test.YtbpbpkmjkbndbaaFieldPow
import Derived.Test.YtbpbpkmjkbndbaaOnceField
import Derived.Test.YtbpbpkmjkbndbaaCells
namespace Go.Proofs.Ytbpbpkmjkbndbaa
open Go.RowKit
set_option linter.unusedVariables false

/-- A row of 256 zero bytes. -/
def zeroRow : Array Value := Array.replicate 256 (.int .u8 0)
theorem zero_row (w : World) : (zeroValue 79).run Try.prog w = .ok (.agg zeroRow) w := by
  have h : (Try.prog.info? 79).bind (·.zero) = some (.agg zeroRow) := by kernel_rfl
  rcases hi : Try.prog.info? 79 with _ | i
  · rw [hi] at h; simp at h
  · rw [hi] at h
    have hz : i.zero = some (.agg zeroRow) := h
    simp [zeroValue, typeInfo, hi, hz]
/-- What a row of products holds behind k rounds. -/
def prodAt (x : UInt8) (k : Nat) : Nat → Value := fun j => if j < k then bv (mulB x (UInt8.ofNat j)) else bv 0
theorem prodAt_next (x : UInt8) (k : Nat) : upd (prodAt x k) k (bv (mulB x (UInt8.ofNat k))) = prodAt x (k + 1) := by
  funext j
  unfold upd prodAt
  by_cases h : j = k
  · subst h; rw [if_pos rfl, if_pos (by omega)]
  · rw [if_neg h]
    by_cases h2 : j < k
    · rw [if_pos h2, if_pos (by omega)]
    · rw [if_neg h2, if_neg (by omega)]

/-- A call that gives the address of a new row of products. -/
def RetRow (x : UInt8) (w : World) (e : Ending) (w' : World) : Prop :=
  e = .returned (.pointer (some ⟨w.heap.size, 0, none⟩)) ∧ Below w.heap.size w w' ∧ w'.heap.size = w.heap.size + 1 ∧ Cells w' w.heap.size 256 (prodAt x 256)

set_option maxRecDepth 100000 in
set_option maxHeartbeats 1000000 in
theorem products_any (x : UInt8) (w : World) :
    Calls Try.prog 64 #[.int .u8 (x.toNat : Int)] w (RetRow x w) := by
  have hzr := zero_row
  have hnew := Cells.new w zeroRow 79 256 rfl (prodAt x 0) (fun j hj => by
    unfold zeroRow prodAt
    rw [if_neg (by omega), Array.getElem?_replicate, if_pos hj]; rfl) w.heap.size rfl
  have HN := Lib.hid hnew
  have hbel : Below w.heap.size w (w.alloc (.cells zeroRow 79)) := (Below.refl _ _).alloc (Nat.le_refl _) _
  have HB := Lib.hid hbel
  clear hnew hbel
  go_enter Try.func64, Try.ntmps64
  go_wp2_with fail
  go_loopw [4, 5] (fun _ i wr => ∃ k : Nat, k ≤ 256 ∧ i = .int .i64 k ∧ Hid (Cells wr w.heap.size 256 (prodAt x k)) ∧ Hid (Below w.heap.size w wr) ∧ Hid (wr.heap.size = w.heap.size + 1)) (fun _ i _ => 256 - (intOf i).toNat)
  case atStart => exact ⟨0, by omega, rfl, HN, HB, Lib.hid (by simp)⟩
  case round =>
    obtain ⟨k, hk, rfl, hc, hb, hs⟩ := hrel
    by_cases hlt : k < 256
    · have h1 := hc.out.cell hlt
      have h2 := hc.out.free hlt
      go_wp2_with fail
      refine (mul_k x k hlt _).mono ?_
      rintro e w' ⟨rfl, rfl⟩
      go_wp2
      go_roundw
      case rel =>
        have hs2 := hc.out.set hlt (bv (mulB x (UInt8.ofNat k)))
        rw [prodAt_next] at hs2
        exact ⟨k + 1, by omega, by go_num, Lib.hid hs2, Lib.hid (hb.out.setCell (Nat.le_refl _) _), Lib.hid (by simp [hs.out])⟩
      case measure => simp [intOf]; omega
    · obtain rfl : k = 256 := by omega
      go_wp2
      go_ret
      exact ⟨rfl, hb.out, hs.out, hc.out⟩
end Go.Proofs.Ytbpbpkmjkbndbaa
