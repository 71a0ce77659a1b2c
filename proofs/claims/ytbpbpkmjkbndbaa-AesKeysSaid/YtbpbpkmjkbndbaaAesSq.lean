/- aes's squares: add. No conditions. -/
import Derived.Test.YtbpbpkmjkbndbaaAesEachS
import Derived.Deep.RegionWith
namespace Go.Proofs.Ytbpbpkmjkbndbaa
open Go.RowKit
set_option linter.unusedVariables false

theorem up_sq : Try.prog.underlying 49 = some (.array 4 47) := by kernel_rfl
theorem sz_sq : (Try.prog.info? 49).map (·.size) = some 16 := by kernel_rfl
theorem list16s (l : List UInt8) (h : l.length = 16) : ∃ a0 a1 a2 a3 a4 a5 a6 a7 a8 a9 a10 a11 a12 a13 a14 a15, l = [a0, a1, a2, a3, a4, a5, a6, a7, a8, a9, a10, a11, a12, a13, a14, a15] := by
  match l, h with
  | [a0, a1, a2, a3, a4, a5, a6, a7, a8, a9, a10, a11, a12, a13, a14, a15], _ => exact ⟨a0, a1, a2, a3, a4, a5, a6, a7, a8, a9, a10, a11, a12, a13, a14, a15, rfl⟩
theorem sidx (l : List UInt8) (h : l.length = 16) (k : Nat) (hk : k < 4) (W : World) : (Instr.index 49 (AV l) (.int .i64 (k : Int))).run Try.prog W = .ok (AV (cutL l (4 * k) 4)) W := by
  obtain ⟨a0, a1, a2, a3, a4, a5, a6, a7, a8, a9, a10, a11, a12, a13, a14, a15, rfl⟩ := list16s l h
  rcases (show k = 0 ∨ k = 1 ∨ k = 2 ∨ k = 3 by omega) with rfl | rfl | rfl | rfl
  · show (Instr.index _ _ (.int .i64 0)).run _ _ = _; kernel_rfl
  · show (Instr.index _ _ (.int .i64 1)).run _ _ = _; kernel_rfl
  · show (Instr.index _ _ (.int .i64 2)).run _ _ = _; kernel_rfl
  · show (Instr.index _ _ (.int .i64 3)).run _ _ = _; kernel_rfl
/-- The first k words of r, the others of l. -/
def wordsUpTo (r l : List UInt8) (k : Nat) : List UInt8 := r.take (4 * k) ++ l.drop (4 * k)
theorem wup_len (r l : List UInt8) (k : Nat) (hr : r.length = 16) (hl : l.length = 16) (hk : k ≤ 4) : (wordsUpTo r l k).length = 16 := by simp [wordsUpTo, hr, hl]; omega
theorem wup_lay (r l : List UInt8) (k : Nat) (hr : r.length = 16) (hl : l.length = 16) (hk : k < 4) : layL (wordsUpTo r l k) (4 * k) (cutL r (4 * k) 4) = wordsUpTo r l (k + 1) := by
  apply List.ext_getElem?
  intro j
  have hc := cutL_len r (4 * k) 4 (by omega)
  rw [layL_at _ _ _ _ (by rw [wup_len r l k hr hl (by omega)]; omega), hc]
  unfold wordsUpTo
  by_cases h : 4 * k ≤ j ∧ j < 4 * k + 4
  · rw [if_pos h, cutL_at _ _ _ _ (by omega), List.getElem?_append_left (by simp [hr]; omega), List.getElem?_take, if_pos (by omega)]
    congr 1; omega
  · rw [if_neg h, List.getElem?_append, List.getElem?_append]
    simp only [List.length_take, hr, List.getElem?_take, List.getElem?_drop]
    by_cases h2 : j < 4 * k
    · rw [if_pos (by omega), if_pos h2, if_pos (by omega), if_pos (by omega)]
    · rw [if_neg (by omega), if_neg (by omega)]
      congr 1; omega
theorem wup_cut (r l : List UInt8) (k : Nat) (hr : r.length = 16) (hl : l.length = 16) (hk : k < 4) : cutL (wordsUpTo r l k) (4 * k) 4 = cutL l (4 * k) 4 := by
  apply List.ext_getElem?
  intro j
  by_cases hj : j < 4
  · rw [cutL_at _ _ _ _ hj, cutL_at _ _ _ _ hj]
    unfold wordsUpTo
    rw [List.getElem?_append_right (by simp [hr]; omega), List.length_take, hr, List.getElem?_drop]
    congr 1; omega
  · rw [List.getElem?_eq_none (by simp [cutL]; omega), List.getElem?_eq_none (by simp [cutL]; omega)]
theorem wup_zero (r l : List UInt8) : wordsUpTo r l 0 = l := by simp [wordsUpTo]
theorem wup_all (r l : List UInt8) (hr : r.length = 16) (hl : l.length = 16) : wordsUpTo r l 4 = r := by
  unfold wordsUpTo
  rw [List.take_of_length_le (by omega), List.drop_eq_nil_of_le (by omega), List.append_nil]
theorem xorL_cut (l m : List UInt8) (i n : Nat) : cutL (xorL l m) i n = xorL (cutL l i n) (cutL m i n) := by
  unfold cutL xorL
  rw [List.drop_zipWith, List.take_zipWith]
def zeros16 : List UInt8 := List.replicate 16 0
theorem zeros16_bvs : (bvs zeros16).toArray = #[.int .u8 0, .int .u8 0, .int .u8 0, .int .u8 0, .int .u8 0, .int .u8 0, .int .u8 0, .int .u8 0, .int .u8 0, .int .u8 0, .int .u8 0, .int .u8 0, .int .u8 0, .int .u8 0, .int .u8 0, .int .u8 0] := rfl

section
variable {w : World} {ops : Array Oper} {rest : List Oper} {o : Oper} {a : Act} {Q : Exit → Act → World → Prop}
/-- An array of bytes is laid in a variable of its own. -/
theorem wpList_boxA (hgd : o.guard = none) (T : TypeId) (x : Operand) (hop : o.op = .box T x) (l : List UInt8) (hx : a.eval x = AV l)
    (h : wpList Try.prog ops Q rest (a.put o.dst (.pointer (some ⟨w.heap.size, 0, none⟩))) (w.alloc (.cells (bvs l).toArray T))) : wpList Try.prog ops Q (o :: rest) a w := by
  refine wpList_plain hgd fun K hK => ?_
  have hr : (Instr.box T (AV l)).run Try.prog w = .ok (.pointer (some ⟨w.heap.size, 0, none⟩)) (w.alloc (.cells (bvs l).toArray T)) := rfl
  unfold Oper.wp execOp
  simp only [hop, hx, Sem.run_bind, hr, Result.andThen_ok]
  exact hK _ _ h
theorem wpList_ldA (hgd : o.guard = none) (T : TypeId) (x : Operand) (hop : o.op = .load T x) (g d n : Nat) (e : TypeId) (hx : a.eval x = .pointer (some ⟨g, d, none⟩)) (l : List UInt8) (hc : Ar w g d l)
    (hu : Try.prog.underlying T = some (.array n e)) (hi : (Try.prog.info? T).map (·.size) = some l.length)
    (h : wpList Try.prog ops Q rest (a.put o.dst (AV l)) w) : wpList Try.prog ops Q (o :: rest) a w :=
  wpList_load_mid hgd T x hop g d hx (bvs l) _ hc.1 hu rfl (by rw [bvs_length]; exact hi) h
theorem wpList_stA (hgd : o.guard = none) (T : TypeId) (x y : Operand) (hop : o.op = .store T x y) (g d : Nat) (hx : a.eval x = .pointer (some ⟨g, d, none⟩)) (l l0 : List UInt8) (hy : a.eval y = AV l) (hc : Ar w g d l0)
    (hl : l0.length = l.length) (hi : (Try.prog.info? T).map (·.size) = some l.length)
    (h : wpList Try.prog ops Q rest (a.put o.dst undef) (w.setCells g d (bvs l))) : wpList Try.prog ops Q (o :: rest) a w :=
  wpList_store_mid hgd T x y hop g d (bvs l).toArray hx hy (by have := hc.2; rw [bvs_length, hl, ← bvs_length] at this; simpa using this) (by simpa [bvs_length] using hi) (all_bvs l) (by simpa using h)
end

/-- The same, the bytes one by one. -/
theorem wadd_lit (a0 a1 a2 a3 b0 b1 b2 b3 x0 x1 x2 x3 : UInt8) (w : World) (h : xorL [a0, a1, a2, a3] [b0, b1, b2, b3] = [x0, x1, x2, x3]) :
    Calls Try.prog 40 #[.agg #[.int .u8 (a0.toNat : Int), .int .u8 (a1.toNat : Int), .int .u8 (a2.toNat : Int), .int .u8 (a3.toNat : Int)], .agg #[.int .u8 (b0.toNat : Int), .int .u8 (b1.toNat : Int), .int .u8 (b2.toNat : Int), .int .u8 (b3.toNat : Int)]] w
      fun e w' => e = .returned (.agg #[.int .u8 (x0.toNat : Int), .int .u8 (x1.toNat : Int), .int .u8 (x2.toNat : Int), .int .u8 (x3.toNat : Int)]) ∧ Below w.heap.size w w' := by
  have := wadd_any [a0, a1, a2, a3] [b0, b1, b2, b3] w rfl rfl
  rw [h] at this
  exact this
/-- Blocks that are new, one behind the other. -/
theorem Ar.new1 (w : World) (n : Nat) (hn : n = w.heap.size) (l : List UInt8) (T : TypeId) : Ar (w.alloc (.cells (bvs l).toArray T)) n 0 l := by rw [hn]; exact Ar.new w l T
/-- The variables of an array's method: its own, one of the argument, one for the result. -/
def W3 (l m z : List UInt8) (T : TypeId) (w : World) : World := ((w.alloc (.cells (bvs l).toArray T)).alloc (.cells (bvs m).toArray T)).alloc (.cells (bvs z).toArray T)
def W2 (l z : List UInt8) (T : TypeId) (w : World) : World := (w.alloc (.cells (bvs l).toArray T)).alloc (.cells (bvs z).toArray T)
theorem w3_below (l m z : List UInt8) (T : TypeId) (w : World) : Below w.heap.size w (W3 l m z T w) := ((below_alloc w _).alloc (by simp) _).alloc (by simp; omega) _
theorem w2_below (l z : List UInt8) (T : TypeId) (w : World) : Below w.heap.size w (W2 l z T w) := (below_alloc w _).alloc (by simp) _
theorem w3_0 (l m z : List UInt8) (T : TypeId) (w : World) : Ar (W3 l m z T w) w.heap.size 0 l := ((Ar.new w l T).alloc (by simp) _).alloc (by simp; omega) _
theorem w3_1 (l m z : List UInt8) (T : TypeId) (w : World) : Ar (W3 l m z T w) (w.heap.size + 1) 0 m := (Ar.new1 _ _ (by simp) m T).alloc (by simp) _
theorem w3_2 (l m z : List UInt8) (T : TypeId) (w : World) : Ar (W3 l m z T w) (w.heap.size + 1 + 1) 0 z := Ar.new1 _ _ (by simp) z T
theorem w2_0 (l z : List UInt8) (T : TypeId) (w : World) : Ar (W2 l z T w) w.heap.size 0 l := (Ar.new w l T).alloc (by simp) _
theorem w2_1 (l z : List UInt8) (T : TypeId) (w : World) : Ar (W2 l z T w) (w.heap.size + 1) 0 z := Ar.new1 _ _ (by simp) z T

set_option maxRecDepth 100000 in
set_option maxHeartbeats 2000000 in
theorem sadd_any (l m : List UInt8) (w : World) (hl : l.length = 16) (hm : m.length = 16) :
    Calls Try.prog 42 #[AV l, AV m] w (RetA (xorL l m) w) := by
  have HL := Lib.hid hl
  have HM := Lib.hid hm
  obtain ⟨R, HR⟩ : ∃ R, Hid (R = xorL l m) := ⟨_, Lib.hid rfl⟩
  rw [← HR.out]
  have HA := Lib.hid (w3_0 l m zeros16 49 w)
  have HB := Lib.hid (w3_1 l m zeros16 49 w)
  have HC := Lib.hid (w3_2 l m zeros16 49 w)
  have HW := Lib.hid (w3_below l m zeros16 49 w)
  obtain ⟨G, HG⟩ : ∃ G, Hid (G = w.heap.size) := ⟨_, Lib.hid rfl⟩
  obtain ⟨W0, HW0⟩ : ∃ W0, Hid (W0 = W3 l m zeros16 49 w) := ⟨_, Lib.hid rfl⟩
  clear hl hm
  go_enter Try.func42, Try.ntmps42
  go_wp2_with (first | (refine wpList_boxA rfl _ (.tmp 0) rfl l rfl ?_) | (refine wpList_boxA rfl _ (.tmp 1) rfl m rfl ?_) | (refine wpList_ldA rfl _ (.tmp 3) rfl (w.heap.size + 1) 0 4 _ rfl m (by exact HB.out) up_sq (by rw [HM.out]; exact sz_sq) ?_))
  show Code.wp _ _ _ _ (W3 l m zeros16 49 w)
  rw [← HW0.out] at HA HB HC HW ⊢
  rw [← HG.out] at HA HB HC ⊢
  go_loopw [8] (fun i wr => ∃ k : Nat, k ≤ 4 ∧ i = .int .i64 k ∧ Hid (Ar wr G 0 (wordsUpTo R l k)) ∧ Hid (Ar wr (G + 1 + 1) 0 zeros16) ∧ Hid (Below w.heap.size w wr)) (fun i _ => 4 - (intOf i).toNat)
  case atStart => exact ⟨0, by omega, rfl, HA, HC, HW⟩
  case round =>
    obtain ⟨k, hk, rfl, ha, hc, hb⟩ := hrel
    clear HA HB HC HW
    have HR16 : Hid (R.length = 16) := Lib.hid (by rw [HR.out]; simp [xorL, HL.out, HM.out])
    by_cases hlt : k < 4
    · have hidx := sidx m HM.out k hlt
      obtain ⟨b0, b1, b2, b3, hb4⟩ := list4 (cutL m (4 * k) 4) (by rw [cutL_len _ _ _ (by rw [HM.out]; omega)])
      obtain ⟨a0, a1, a2, a3, ha4⟩ := list4 (cutL l (4 * k) 4) (by rw [cutL_len _ _ _ (by rw [HL.out]; omega)])
      rw [hb4] at hidx
      have hidx' : ∀ W : World, (Instr.index 49 (AV m) (.int .i64 (k : Int))).run Try.prog W = .ok (.agg #[.int .u8 (b0.toNat : Int), .int .u8 (b1.toNat : Int), .int .u8 (b2.toNat : Int), .int .u8 (b3.toNat : Int)]) W := hidx
      have hp := ha.out.part (4 * k) 4 (by rw [wup_len R l k HR16.out HL.out (by omega)]; omega)
      rw [wup_cut R l k HR16.out HL.out hlt, ha4, Nat.zero_add, Nat.mul_comm 4 k] at hp
      obtain ⟨c0, c1, c2, c3⟩ := hp.four
      have hgs : G < wr.heap.size := ha.out.lt (by rw [wup_len R l k HR16.out HL.out (by omega)]; omega)
      obtain ⟨x0, x1, x2, x3, hx4⟩ := list4 (xorL [a0, a1, a2, a3] [b0, b1, b2, b3]) rfl
      have HP := Lib.hid hp
      have HX : Hid (cutL R (4 * k) 4 = [x0, x1, x2, x3]) := Lib.hid (by rw [HR.out, xorL_cut, ha4, hb4, hx4])
      have HX4 := Lib.hid hx4
      clear hidx hb4 ha4 hp hx4
      go_wp2_with fail
      go_region_with (go_at_call 40; refine (wadd_lit a0 a1 a2 a3 b0 b1 b2 b3 x0 x1 x2 x3 _ (by exact HX4.out)).mono ?_; rintro e w1 ⟨rfl, hb1⟩; have hbw : Below wr.heap.size wr w1 := (below_alloc wr _).drew.trans (hb1.mono (by simp)); have hp1 := HP.out.below hbw hgs; obtain ⟨k0, k1, k2, k3⟩ := hp1.four; obtain ⟨z0, z1, z2, z3⟩ := hp1.fours rfl; have HB1 := Lib.hid hbw; clear hb1 hbw hp1)
      all_goals
        go_wp2
        go_roundw
        case rel =>
          have h1 := (ha.out.below HB1.out hgs).lay (4 * k) [x0, x1, x2, x3] (by rw [wup_len R l k HR16.out HL.out (by omega)]; simp; omega)
          rw [← HX.out, wup_lay R l k HR16.out HL.out hlt, HX.out, Nat.zero_add, Nat.mul_comm 4 k] at h1
          have h2 := (hc.out.below HB1.out (hc.out.lt (by simp [zeros16]))).setCells (b := G) (by omega) (k * 4) (bvs [x0, x1, x2, x3])
          have h3 := below_setCells (hb.out.trans (HB1.out.mono hb.out.size)) (b := G) (by rw [HG.out]; exact Nat.le_refl _) (k * 4) (bvs [x0, x1, x2, x3])
          exact ⟨k + 1, by omega, by go_num, Lib.hid h1, Lib.hid h2, Lib.hid h3⟩
        case measure => simp [intOf]; omega
    · obtain rfl : k = 4 := by omega
      have hal := ha.out
      rw [wup_all R l HR16.out HL.out] at hal
      have HAL := Lib.hid hal
      clear hal
      go_wp2_with (first | (refine wpList_ldA rfl _ (.tmp 2) rfl G 0 4 _ rfl R (by exact HAL.out) up_sq (by rw [HR16.out]; exact sz_sq) ?_) | (refine wpList_stA rfl _ (.tmp 4) (.tmp 20) rfl (G + 1 + 1) 0 rfl R zeros16 rfl (by exact hc.out) (by rw [HR16.out]; rfl) (by rw [HR16.out]; exact sz_sq) ?_))
      refine bodyPost_ret (v := AV R) (res_cell rfl _ _ (G + 1 + 1) 4 _ R rfl (hc.out.whole R (by rw [HR16.out]; rfl)) up_sq (by rw [HR16.out]; exact sz_sq)) rfl ⟨rfl, ?_⟩
      exact below_setCells hb.out (by rw [HG.out]; omega) 0 (bvs R)
end Go.Proofs.Ytbpbpkmjkbndbaa
