/- aes's New and Keys. Condition: the key's cells are readable. -/
import Derived.Test.YtbpbpkmjkbndbaaAesUse
import Derived.Test.YtbpbpkmjkbndbaaAesExpand
import Derived.Laws.Tables
namespace Go.Proofs.Ytbpbpkmjkbndbaa
attribute [local irreducible] wsW keyUpTo keyF lastW turn0 encUp decUp
open Go.RowKit
set_option linter.unusedVariables false

/-- The cells of a cipher as New builds it, its tables at v. -/
def cipCells (v : Value) : Array Value := #[v] ++ (Array.replicate 176 (.int .u8 0) ++ #[.int .i64 0])
theorem cip_built (p : Nat) : Try.prog.built 57 [(0, .pointer (some ⟨p, 0, none⟩))] = some (cipCells (.pointer (some ⟨p, 0, none⟩))) := by kernel_rfl
theorem wpList_cip {w : World} {ops : Array Oper} {rest : List Oper} {o : Oper} {a : Act} {Q : Exit → Act → World → Prop} (hgd : o.guard = none) (x : Operand) (hop : o.op = .build 57 #[(0, x)])
    (p : Nat) (hx : a.eval x = .pointer (some ⟨p, 0, none⟩)) (h : wpList Try.prog ops Q rest (a.put o.dst (.agg (cipCells (.pointer (some ⟨p, 0, none⟩))))) w) : wpList Try.prog ops Q (o :: rest) a w := by
  refine wpList_plain hgd fun K hK => ?_
  unfold Oper.wp execOp
  simp only [hop, List.map_toArray, List.map_cons, List.map_nil, hx, Sem.run_bind, run_build w _ #[(0, .pointer (some ⟨p, 0, none⟩))] _ (cip_built p), Result.andThen_ok]
  exact hK _ _ h
set_option maxRecDepth 100000 in
theorem cip_at (v : Value) (j : Nat) (hj : j < 178) : (cipCells v)[j]? = some (if j = 0 then v else if j < 177 then .int .u8 0 else .int .i64 0) := by
  unfold cipCells
  by_cases h0 : j = 0
  · rw [if_pos h0, h0, Array.getElem?_append_left (by show 0 < 1; omega)]; rfl
  · rw [if_neg h0, Array.getElem?_append_right (by show 1 ≤ j; omega)]
    have hs : (#[v] : Array Value).size = 1 := rfl
    have hr : (Array.replicate 176 (Value.int .u8 0)).size = 176 := Array.size_replicate
    by_cases h1 : j < 177
    · rw [if_pos h1, Array.getElem?_append_left (by omega), Array.getElem?_replicate, if_pos (by omega)]
    · rw [if_neg h1, Array.getElem?_append_right (by omega)]
      rw [show j - (#[v] : Array Value).size - (Array.replicate 176 (Value.int .u8 0)).size = 0 by rw [hs, hr]; omega]; rfl
set_option maxRecDepth 100000 in
theorem cip_cf (w : World) (p : Nat) (hp : p < w.heap.size) : Cf w.heap.size p (.int .i64 0) (w.alloc (.cells (cipCells (.pointer (some ⟨p, 0, none⟩))) 57)) (List.replicate 176 0) where
  ptr := by rw [World.cell?_alloc_at _ _ _ _ rfl, cip_at _ 0 (by omega)]; rfl
  ar := Ar.mk (fun j x hx => by
      have hj : j < 176 := by have := (List.getElem?_eq_some_iff.1 hx).1; rw [List.length_replicate] at this; exact this
      have hx0 : x = 0 := by
        rw [List.getElem?_replicate, if_pos hj] at hx
        injection hx with hx; exact hx.symm
      rw [World.cell?_alloc_at _ _ _ _ rfl, cip_at _ _ (by omega), if_neg (by omega), if_pos (by omega), hx0]; rfl) (fun j hj => World.frozen?_alloc_at _ _ _ _ rfl)
  cnt := by rw [World.cell?_alloc_at _ _ _ _ rfl, cip_at _ 177 (by omega)]; rfl
  free := World.frozen?_alloc_at _ _ _ _ rfl
  ne := by omega
  len := List.length_replicate
/-- A call that gives a new cipher. -/
def RetN (key : List UInt8) (w : World) (e : Ending) (w' : World) : Prop :=
  ∃ cb b lo, e = .returned (.tuple #[.pointer (some ⟨cb, 0, none⟩), .int .i64 0]) ∧ Below w.heap.size w w' ∧ w.heap.size ≤ cb ∧ (w.heap.size ≤ b ∧ w.heap.size ≤ lo) ∧ Ob cb b lo key 0 w'

set_option maxRecDepth 100000 in
set_option maxHeartbeats 1000000 in
theorem anew_bad (n c0 : Nat) (A : Option Addr) (w : World) (hn : n ≠ 16) :
    Calls Try.prog 10 #[.slice A n c0] w fun e w' => e = .returned (.tuple #[.pointer none, .int .i64 11]) ∧ w = w' := by
  have hd : ((n : Int) == 16) = false := by rw [beq_eq_false_iff_ne]; omega
  go_enter Try.func10, Try.ntmps10
  go_wp2_with fail
  go_ret2
  exact ⟨rfl, rfl⟩
set_option maxRecDepth 100000 in
set_option maxHeartbeats 1000000 in
theorem anew_any (c0 : Nat) (A : Option Addr) (key : List UInt8) (w : World) (h : RB w w.heap.size A 16 key) (hc0 : 16 ≤ c0) :
    Calls Try.prog 10 #[.slice A 16 c0] w (RetN key w) := by
  have HB := Lib.hid h
  have HC := Lib.hid hc0
  have HK := Lib.hid h.len
  clear h hc0
  go_enter Try.func10, Try.ntmps10
  go_wp2_with fail
  refine (new_any _ 7 7 _ [1, 2, 3, 9, 11, 13, 14] _ (by exact RB.lit w [1, 2, 3, 9, 11, 13, 14] _ 7 _ rfl rfl rfl) (by simp) (by omega)).mono ?_
  rintro e w1 ⟨b, rfl, hb1, ht1⟩
  have hlo : w.heap.size ≤ b := by
    obtain ⟨f, h1, _⟩ := ht1
    simp at h1; omega
  have HLO := Lib.hid hlo
  have HB1 : Hid (Below w.heap.size w w1) := Lib.hid ((below_alloc w _).trans (hb1.mono (by simp)))
  obtain ⟨lo, HLOE⟩ : ∃ lo, Hid (lo = (w.alloc (.cells #[.int .u8 1, .int .u8 2, .int .u8 3, .int .u8 9, .int .u8 11, .int .u8 13, .int .u8 14] 5)).heap.size) := ⟨_, Lib.hid rfl⟩
  have HT1 : Hid (Tab w1 lo b bys false) := Lib.hid (by rw [HLOE.out]; exact ht1)
  have HCF := Lib.hid (cip_cf w1 b HT1.out.lt)
  have HT2 : Hid (Tab (w1.alloc (.cells (cipCells (.pointer (some ⟨b, 0, none⟩))) 57)) lo b bys false) := Lib.hid (HT1.out.below (below_alloc w1 _))
  have HB2 : Hid (Below w.heap.size w (w1.alloc (.cells (cipCells (.pointer (some ⟨b, 0, none⟩))) 57))) := Lib.hid (HB1.out.alloc HB1.out.size _)
  clear hlo hb1 ht1
  go_wp2_with (refine wpList_cip rfl (.tmp 9) rfl b rfl ?_)
  refine (fill_any A c0 key _ (by exact (HB.out.below HB2.out).more HB2.out.size) HC.out).mono ?_
  rintro e w2 ⟨rfl, hb3⟩
  have HB3 := Lib.hid hb3
  clear hb3
  go_wp2_with fail
  refine (expand_any w.heap.size w1.heap.size lo b (.int .i64 0) key false _ HK.out ⟨HB1.out.size, HLO.out⟩ (by exact HT2.out.below HB3.out) (by exact HCF.out.below HB3.out)).mono ?_
  rintro e w3 ⟨rfl, hb4, ht4, hc4⟩
  have HB4 := Lib.hid hb4
  have HT4 := Lib.hid ht4
  have HC4 := Lib.hid hc4
  clear hb4 ht4 hc4
  go_wp2_with fail
  go_ret2
  exact ⟨_, b, lo, rfl, (HB2.out.trans (HB3.out.mono HB2.out.size)).trans HB4.out, HB1.out.size, ⟨HLO.out, by rw [HLOE.out]; simp⟩, ⟨HC4.out, HT4.out, HK.out, by omega⟩⟩
end Go.Proofs.Ytbpbpkmjkbndbaa
