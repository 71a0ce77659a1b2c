/- layer 5: bytes, divided into blocks, as the iterator of Blocks hands them out. Conditions: the slice's cells are readable; the loop's body keeps what it is told to keep. -/
import Derived.Test.YtlapnfpdkfhfdaaPolyIt
import Derived.Test.YtlapnfpdkfhfdaaRefGhash
import Derived.Test.YtlapnfpdkfhfdaaMemAll
import Derived.Shelf.RegionOpen
import Derived.Test.YtlapnfpdkfhfdaaGhE
import Derived.Test.YtlapnfpdkfhfdaaPolyOb
import Derived.Test.YtlapnfpdkfhfdaaGhHash
import Derived.Test.YtlapnfpdkfhfdaaUseBytes
namespace Go.Proofs.Ytlapnfpdkfhfdaa
open Go.RowKit Go.Shelf
set_option linter.unusedVariables false
set_option linter.unusedSimpArgs false

def z16 : List UInt8 := List.replicate 16 0
theorem zero16 (w : World) : (zeroValue 61).run Try.prog w = .ok (.agg (bvs z16).toArray) w := by
  have h : (Try.prog.info? 61).bind (·.zero) = some (.agg (bvs z16).toArray) := by kernel_rfl
  rcases hi : Try.prog.info? 61 with _ | i
  · rw [hi] at h; simp at h
  · rw [hi] at h
    have hz : i.zero = some (.agg (bvs z16).toArray) := h
    simp [zeroValue, typeInfo, hi, hz]
theorem z16_len : z16.length = 16 := List.length_replicate
/-- Sixteen bytes from 16 k on, or as many as there are. -/
def cut16 (bs : List UInt8) (k : Nat) : List UInt8 := (bs.drop (16 * k)).take 16
theorem cut16_len (bs : List UInt8) (k : Nat) : (cut16 bs k).length = min 16 (bs.length - 16 * k) := by simp [cut16]
theorem pad_lay (bs : List UInt8) (k : Nat) : layL z16 0 (cut16 bs k) = padK bs k 16 := by
  apply List.ext_getElem?
  intro j
  rw [layL_at _ _ _ _ (by omega), cut16_len]
  by_cases hj : j < 16
  · rw [padK_at bs k 16 j hj, if_pos hj]
    by_cases h2 : 16 * k + j < bs.length
    · rw [if_pos ⟨by omega, by omega⟩, cut16, List.getElem?_take, if_pos (by omega), List.getElem?_drop, Nat.sub_zero, List.getD_eq_getElem?_getD, List.getElem?_eq_getElem h2]
      rfl
    · rw [if_neg (by omega), List.getD_eq_getElem?_getD, List.getElem?_eq_none (show bs.length ≤ 16 * k + j by omega), z16, List.getElem?_replicate, if_pos hj]
      rfl
  · have hz := z16_len
    have hp := padK_len bs k 16
    rw [if_neg (by omega), List.getElem?_eq_none (by omega), List.getElem?_eq_none (by omega)]
theorem up_16 : Try.prog.underlying 61 = some (.array 16 5) := by kernel_rfl
theorem sz_16 : (Try.prog.info? 61).map (·.size) = some 16 := by kernel_rfl
/-- Whatever lay below, and the block of the captured slice, are as they were. -/
def KpB (n₀ B : Nat) (W W' : World) : Prop := Below n₀ W W' ∧ W'.heap[B]? = W.heap[B]?
theorem kpB_t {n₀ B : Nat} {W1 W2 W3 : World} (h : KpB n₀ B W1 W2) (k : KpB n₀ B W2 W3) : KpB n₀ B W1 W3 := ⟨h.1.trans k.1, k.2.trans h.2⟩
theorem kpB_b {n₀ B : Nat} {w : World} (hn : n₀ ≤ w.heap.size) (hB : B < w.heap.size) (W : World) (l : Nat) (o o' : Obj) (hl : w.heap.size ≤ l) (h : W.heap[l]? = some o) (h1 : o.isCells = false) (h2 : o.isWalk = false) : KpB n₀ B W (W.putObj l o') :=
  ⟨belowK_b hn W l o o' hl h h1 h2, (belowK_b (Nat.le_refl _) W l o o' hl h h1 h2).block B hB⟩
theorem grown_of_below {W W' : World} (hb : Below W.heap.size W W') : W.grownBy W' none := ⟨hb.os, hb.tape, hb.output, hb.size, fun k hk _ => hb.block k hk⟩
section
variable {F : Fence} {n : Nat} {w : World} {ops : Array Oper} {rest : List Oper} {o : Oper} {a : Act} {Q : Exit → Act → World → Prop}
theorem wpListIn_ld16 (hgd : o.guard = none) (x : Operand) (hop : o.op = .load 61 x) (g : Nat) (hx : a.eval x = .pointer (some ⟨g, 0, none⟩)) (l : List UInt8) (hl : l.length = 16) (hc : Ar w g 0 l)
    (hk : wpListIn F n Try.prog ops Q rest (a.put o.dst (AV l)) w) : wpListIn F n Try.prog ops Q (o :: rest) a w := by
  refine wpListIn_plain hgd fun K hK => ⟨fun f hf => ?_, ?_⟩
  · simp [Oper.about, hop] at hf
  · rw [Oper.semAt_eq _ _ _ (by simp [hop])]
    unfold execOp
    simp only [hop, hx, Instr.loadAt, Instr.sureAddr, Sem.run_bind, Sem.run_pure, Result.andThen_ok, run_loadVar_mid (P := Try.prog) w g 0 _ (bvs l) (.array 16 5) hc.1 up_16 rfl (by rw [bvs_length, hl]; exact sz_16)]
    exact hK _ _ hk
end
theorem slice16 (g : Nat) (W : World) : (Instr.sliceAt 61 (.pointer (some ⟨g, 0, none⟩)) none none none).run Try.prog W = .ok (.slice (some ⟨g, 0, none⟩) 16 16) W := by kernel_rfl
theorem range_take (m k : Nat) (hk : k < m) : (List.range m).take k ++ [k] = (List.range m).take (k + 1) := by
  rw [List.take_add_one, List.getElem?_range hk]; rfl
attribute [local irreducible] padK cut16 AV
attribute [local go_sem] Oper.semAt_some

end Go.Proofs.Ytlapnfpdkfhfdaa

/- layer 5: Blocks. Conditions: the slice's cells are readable; its length is within bounds. -/
namespace Go.Proofs.Ytlapnfpdkfhfdaa
open Go.RowKit Go.Shelf
set_option linter.unusedVariables false
set_option linter.unusedSimpArgs false

section
variable {F : Fence} {n : Nat} {w : World} {ops : Array Oper} {rest : List Oper} {o : Oper} {a : Act} {Q : Exit → Act → World → Prop}
theorem wpListIn_st16 (hgd : o.guard = none) (x y : Operand) (hop : o.op = .store 61 x y) (g : Nat) (hx : a.eval x = .pointer (some ⟨g, 0, none⟩)) (l l0 : List UInt8) (hy : a.eval y = AV l) (hl : l.length = 16) (hl0 : l0.length = 16) (hc : Ar w g 0 l0)
    (hk : wpListIn F n Try.prog ops Q rest (a.put o.dst undef) (w.setCells g 0 (bvs l))) : wpListIn F n Try.prog ops Q (o :: rest) a w := by
  refine wpListIn_plain hgd fun K hK => ⟨fun f hf => ?_, ?_⟩
  · simp [Oper.about, hop] at hf
  · rw [Oper.semAt_eq _ _ _ (by simp [hop])]
    unfold execOp
    have hy' : a.eval y = .agg (bvs l).toArray := hy
    have hth : w.there g 0 (bvs l).toArray.size := by have := hc.2; rw [bvs_length, hl0] at this; simpa [bvs_length, hl] using this
    simp only [hop, hx, hy', Instr.storeAt, Instr.sureAddr, Sem.run_bind, Sem.run_pure, Result.andThen_ok, run_storeVar_mid (P := Try.prog) w g 0 _ (bvs l).toArray hth (by simpa [bvs_length, hl] using sz_16) (all_bvs l)]
    exact hK _ _ (by simpa using hk)
theorem wpListIn_ldX (hgd : o.guard = none) (x : Operand) (hop : o.op = .load 101 x) (g : Nat) (hx : a.eval x = .pointer (some ⟨g, 0, none⟩)) (y : Nat) (hc : Xw w g y)
    (hk : wpListIn F n Try.prog ops Q rest (a.put o.dst (PE y)) w) : wpListIn F n Try.prog ops Q (o :: rest) a w := wpListIn_ldE hgd x hop g hx _ _ hc hk
theorem wpListIn_stX (hgd : o.guard = none) (x y : Operand) (hop : o.op = .store 101 x y) (g : Nat) (hx : a.eval x = .pointer (some ⟨g, 0, none⟩)) (p q : Nat) (hy : a.eval y = PE p) (hc : Xw w g q)
    (hk : wpListIn F n Try.prog ops Q rest (a.put o.dst undef) (w.setCells g 0 (es (p / 2 ^ 64) (p % 2 ^ 64)))) : wpListIn F n Try.prog ops Q (o :: rest) a w := wpListIn_stE hgd x y hop g hx _ _ _ _ hy hc hk
end
theorem own_kept {W W' : World} {row : Option Nat} {base k c : Nat} {A : Option Addr} {xs : List Nat} (h : OwnE W base A k c xs) (hg : W.grownBy W' row) (hr : ∀ r, row = some r → ∃ o : Obj, W.heap[r]? = some o ∧ o.isCells = false) : OwnE W' base A k c xs := by
  refine ⟨⟨h.1.1, ?_⟩, h.2⟩
  rcases h.1.2 with h0 | ⟨g, cap, cur, hv, hbg, hh, r⟩
  · exact .inl h0
  · exact .inr ⟨g, cap, cur, hv, hbg, (grownBy_keeps_cells hg hr hh rfl).trans hh, r⟩
theorem OwnE.set {W : World} {base k c : Nat} {A : Option Addr} {xs : List Nat} (h : OwnE W base A k c xs) {p : Addr} (hp : p.block < base) (v : Value) : OwnE (W.setCell p v) base A k c xs := by
  refine ⟨⟨h.1.1, ?_⟩, h.2⟩
  rcases h.1.2 with h0 | ⟨g, cap, cur, hv, hbg, hh, r⟩
  · exact .inl h0
  · exact .inr ⟨g, cap, cur, hv, hbg, (Below.heap_setCell W p v g (by omega)).trans hh, r⟩
/-- What Blocks holds between two rounds: its list, in its variable. -/
def BkI (w : World) (bs : List UInt8) (pre : List Nat) (W : World) : Prop :=
  ∃ A1 c1, W.cell? ⟨w.heap.size, 0, none⟩ = some (.slice A1 pre.length c1) ∧ W.frozen? ⟨w.heap.size, 0, none⟩ = false ∧ OwnE W (w.heap.size + 2) A1 pre.length c1 (pre.map fun i => nB (padK bs i 16)) ∧ Below w.heap.size w W ∧ w.heap.size + 2 ≤ W.heap.size
theorem bk_own (w : World) (bs : List UInt8) (B : Nat) (hB : w.heap.size ≤ B) : OwnFrom B (BkI w bs) := by
  intro s W W' row hs hg hr
  obtain ⟨A1, c1, h1, h2, h3, h4, h5⟩ := hs
  have hr' : ∀ r, row = some r → ∃ o : Obj, W.heap[r]? = some o ∧ o.isCells = false := fun r e => (hr r e).2
  exact ⟨A1, c1, cell_kept h1 hg hr', (frozen_kept h1 hg hr').trans h2, own_kept h3 hg hr', ownFrom_below (Nat.le_refl _) hB s W W' row h4 hg hr, Nat.le_trans h5 hg.size⟩
theorem BkI.keep {w W W' : World} {bs : List UInt8} {pre : List Nat} (h : BkI w bs pre W) (hb : Below W.heap.size W W') : BkI w bs pre W' := by
  obtain ⟨A1, c1, h1, h2, h3, h4, h5⟩ := h
  have hl : w.heap.size < W.heap.size := World.block_lt_of_cell? W _ h1
  exact ⟨A1, c1, (hb.cell (p := ⟨w.heap.size, 0, none⟩) hl).trans h1, (hb.frozen (p := ⟨w.heap.size, 0, none⟩) hl).trans h2, OwnX.below h3 hb, h4.trans (hb.mono h4.size), Nat.le_trans h5 hb.size⟩
end Go.Proofs.Ytlapnfpdkfhfdaa

/- layer 5: Sum. Conditions: the object is as New, or an earlier call, left it; the slices' cells are readable, and not the object's. -/
namespace Go.Proofs.Ytlapnfpdkfhfdaa
open Go.RowKit
set_option linter.unusedVariables false
set_option linter.unusedSimpArgs false

theorem longL_num (n : Nat) (hn : n ≤ 1000000000) : numL (longL n) = 8 * n := by
  have h := numL_putL8 8 (n * 8)
  rw [downL8 (n * 8) (by omega)] at h
  unfold longL
  omega
theorem padK_self (l : List UInt8) (h : l.length = 16) : padK l 0 16 = l := by
  apply List.ext_getElem?
  intro j
  by_cases hj : j < 16
  · rw [padK_at l 0 16 j hj, if_pos hj, Nat.mul_zero, Nat.zero_add, List.getD_eq_getElem?_getD, List.getElem?_eq_getElem (by omega)]
    rfl
  · rw [List.getElem?_eq_none (by rw [padK_len]; omega), List.getElem?_eq_none (by omega)]
/-- The block of the lengths. -/
theorem long_block (n1 n2 : Nat) (h1 : n1 ≤ 1000000000) (h2 : n2 ≤ 1000000000) : bks (longL n1 ++ longL n2) = [hl (8 * n1) (8 * n2)] := by
  have e : (longL n1 ++ longL n2).length = 16 := by rw [List.length_append, longL_len, longL_len]
  have e1 : oH (longL n1 ++ longL n2) = 8 * n1 := by unfold oH; rw [List.take_left' (longL_len n1), longL_num n1 h1]
  have e2 : oL (longL n1 ++ longL n2) = 8 * n2 := by unfold oL; rw [List.drop_left' (longL_len n1), longL_num n2 h2]
  unfold bks
  rw [e]
  show [nB (padK (longL n1 ++ longL n2) 0 16)] = _
  rw [padK_self _ e]
  unfold nB
  rw [e1, e2]
/-- A slice of one element that a call lays. -/
theorem one_xe (a1 a2 : Nat) (h1 : a1 < 2 ^ 64) (h2 : a2 < 2 ^ 64) (w : World) : XE (w.alloc (.cells #[.int .u64 (a1 : Int), .int .u64 (a2 : Int)] 101)) (w.heap.size + 1) (some ⟨w.heap.size, 0, none⟩) 1 [hl a1 a2] := by
  refine ⟨rfl, fun i x hx => ?_, fun _ => ⟨w.heap.size, 0, rfl, Nat.lt_succ_self _, fun i x hx => ?_⟩⟩
  · match i, hx with
    | 0, hx => injection hx with hx; rw [← hx]; exact hl_lt _ _ h1 h2
  · match i, hx with
    | 0, hx =>
      injection hx with hx
      have up := hl_up a1 a2 h2
      rw [← hx, up.1, up.2]
      exact (Ew.new w a1 a2 _ rfl).1
/-- Elements of one's own do not lie in an older block. -/
theorem OwnX.apart {T : TypeId} {k : Nat} {f : Nat → List Value} {w : World} {base n c b : Nat} {A : Option Addr} {xs : List Nat} (h : OwnX T k f w base A n c xs) (hb : b < base) : ∀ g o, A = some ⟨g, o, none⟩ → g ≠ b := by
  intro g o e hg
  rcases h.1.2 with ⟨hv, _⟩ | ⟨g2, cap, cur, hv, hbg, _⟩
  · injection hv with hA
    rw [hA] at e; cases e
  · injection hv with hA
    rw [hA] at e
    injection e with e
    injection e with e
    omega
/-- A call that gives sixteen bytes of its own. -/
def RetG16 (l : List UInt8) (b h : Nat) (w : World) (e : Ending) (w' : World) : Prop := ∃ A c, e = .returned (.slice A 16 c) ∧ OwnB w' w.heap.size A 16 c l ∧ But b w w' ∧ Ho w' b h true
attribute [local irreducible] PE gMul gFold Ho bks longL hl bB

end Go.Proofs.Ytlapnfpdkfhfdaa

/- layer 5's sum that is often shown, in numbers. No conditions; nothing is claimed of the program here. -/
namespace Go.Proofs.Ytlapnfpdkfhfdaa
set_option linter.unusedVariables false

def keyL : List UInt8 := [0x66, 0xe9, 0x4b, 0xd4, 0xef, 0x8a, 0x2c, 0x3b, 0x88, 0x4c, 0xfa, 0x59, 0xca, 0x34, 0x2b, 0x2e]
def textL : List UInt8 := [0x03, 0x88, 0xda, 0xce, 0x60, 0xb6, 0xa3, 0x92, 0xf3, 0x28, 0xc2, 0xb9, 0x71, 0xb2, 0xfe, 0x78]
def wantL : List UInt8 := [0xf3, 0x8c, 0xbb, 0x1a, 0xd6, 0x92, 0x23, 0xdc, 0xc3, 0x45, 0x7a, 0xe5, 0xb6, 0xb0, 0xf8, 0x85]
theorem key_num : nB keyL = 136792598789324718765670228683992083246 := by decide +kernel
theorem blk3 : bks (textL.take 3) = [254693072481288192 * 2 ^ 64] := by decide +kernel
theorem sum_nums : sumN [] textL = [4698274276341916077299333525606170232, 128] := by decide +kernel
set_option maxRecDepth 100000 in
theorem fold_num : gFold 136792598789324718765670228683992083246 0 [4698274276341916077299333525606170232, 128] = 323733119472864005843474405660461955205 := by decide +kernel
theorem want_num : bB 323733119472864005843474405660461955205 = wantL := by decide +kernel
theorem sum_shown : bB (sumG (nB keyL) [] textL) = wantL := by
  unfold sumG
  rw [sum_nums, key_num, fold_num, want_num]
end Go.Proofs.Ytlapnfpdkfhfdaa

/- The check that stands at the head of each of layer 5's statements answers true. No condition. -/
namespace Go.Proofs.Ytlapnfpdkfhfdaa
open Go.RowKit
set_option linter.unusedVariables false
set_option linter.unusedSimpArgs false

/-- What is in memory where alive compares: the hash, an element in its variable, another at the head of a slice. -/
def AL (w : World) (b h V gl x0 : Nat) (W : World) : Prop := Ho W b h true ∧ Xw W V h ∧ W.rangeAt gl 0 (es (x0 / 2 ^ 64) (x0 % 2 ^ 64)) ∧ Below w.heap.size w W ∧ w.heap.size ≤ b ∧ V ≠ b ∧ gl ≠ b ∧ gl < W.heap.size
theorem AL.keep {w W W1 : World} {b h V gl x0 : Nat} (a : AL w b h V gl x0 W) (hb : Below W.heap.size W W1) : AL w b h V gl x0 W1 :=
  ⟨a.1.keep hb, a.2.1.keep hb, fun j v hv => (hb.cell (p := ⟨gl, 0 + j, none⟩) a.2.2.2.2.2.2.2).trans (a.2.2.1 j v hv), a.2.2.2.1.trans (hb.mono a.2.2.2.1.size), a.2.2.2.2.1, a.2.2.2.2.2.1, a.2.2.2.2.2.2.1, Nat.lt_of_lt_of_le a.2.2.2.2.2.2.2 hb.size⟩
theorem AL.use {w W W1 : World} {b h V gl x0 : Nat} (a : AL w b h V gl x0 W) (hb : But b W W1) (ho : Ho W1 b h true) : AL w b h V gl x0 W1 :=
  ⟨ho, a.2.1.but hb a.2.2.2.2.2.1, fun j v hv => (hb.cell (p := ⟨gl, 0 + j, none⟩) a.2.2.2.2.2.2.2 a.2.2.2.2.2.2.1).trans (a.2.2.1 j v hv), a.2.2.2.1.trans (hb.below a.2.2.2.2.1 a.1.lt |>.mono (Nat.le_refl _)), a.2.2.2.2.1, a.2.2.2.2.2.1, a.2.2.2.2.2.2.1, Nat.lt_of_lt_of_le a.2.2.2.2.2.2.2 hb.size⟩
theorem AL.s {w W : World} {b h V gl x0 : Nat} (a : AL w b h V gl x0 W) : ldP (.pointer (some ⟨V, 0, none⟩)) W = .ok (.value (PE h)) W ∧ ldP (.pointer (some ⟨gl, 0, none⟩)) W = .ok (.value (PE x0)) W := ⟨ldP_x a.2.1, ldP_m a.2.2.1⟩
theorem AL.ho {w W : World} {b h V gl x0 : Nat} (a : AL w b h V gl x0 W) : Ho W b h true := a.1
theorem AL.bel {w W : World} {b h V gl x0 : Nat} (a : AL w b h V gl x0 W) : Below w.heap.size w W := a.2.2.2.1
theorem AL.mk (w W : World) (b h V gl x0 : Nat) (h1 : Ho W b h true) (h2 : Xw W V h) (h3 : W.rangeAt gl 0 (es (x0 / 2 ^ 64) (x0 % 2 ^ 64))) (h4 : Below w.heap.size w W) (h5 : w.heap.size ≤ b) (h6 : V ≠ b) (h7 : gl ≠ b) (h8 : gl < W.heap.size) : AL w b h V gl x0 W := ⟨h1, h2, h3, h4, h5, h6, h7, h8⟩
theorem RB.head {w : World} {B n k : Nat} {A : Option Addr} {l : List UInt8} (h : RB w B A n l) (hk : k ≤ n) : RB w B A k (l.take k) := by
  refine ⟨by rw [List.length_take, h.len]; omega, fun h0 => ?_⟩
  obtain ⟨g, o, e, hg, hc⟩ := h.2 (by omega)
  refine ⟨g, o, e, hg, fun i hi => ?_⟩
  have hi2 : i < l.length := by rw [List.length_take] at hi; omega
  rw [List.getElem_take]
  exact hc i hi2
end Go.Proofs.Ytlapnfpdkfhfdaa

