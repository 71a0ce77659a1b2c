/- aes's squares: each (by Sub, by Unsub), columns (by mix, by unmix). Condition: the cipher's tables are filled. (Written by wip/tools/gen_sq.py.) -/
import Derived.Test.YtbpbpkmjkbndbaaAesTimes
import Derived.Test.YtbpbpkmjkbndbaaAesEachU
namespace Go.Proofs.Ytbpbpkmjkbndbaa
open Go.RowKit
set_option linter.unusedVariables false

theorem map_cut (f : UInt8 → UInt8) (l : List UInt8) (i n : Nat) : cutL (l.map f) i n = (cutL l i n).map f := by simp [cutL, List.map_drop, List.map_take]
theorem colUp_cut (l f : List UInt8) (k r : Nat) : ∀ n, n ≤ 4 → colUp (cutL l (4 * k) 4) f 0 r n = colUp l f k r n
  | 0, _ => rfl
  | n + 1, h => by
    rw [colUp, colUp, colUp_cut l f k r n (by omega)]
    have : (cutL l (4 * k) 4).getD (4 * 0 + n) 0 = l.getD (4 * k + n) 0 := by
      simp only [List.getD_eq_getElem?_getD]
      rw [cutL_at _ _ _ _ (by omega)]
      congr 2; omega
    rw [this]
theorem columns_len (l f : List UInt8) : (columnsL l f).length = 16 := by simp [columnsL]
theorem col_cut (l f : List UInt8) (k : Nat) (hk : k < 4) : cutL (columnsL l f) (4 * k) 4 = colW f (cutL l (4 * k) 4) := by
  unfold colW
  rw [colUp_cut l f k 0 4 (by omega), colUp_cut l f k 1 4 (by omega), colUp_cut l f k 2 4 (by omega), colUp_cut l f k 3 4 (by omega)]
  rcases (show k = 0 ∨ k = 1 ∨ k = 2 ∨ k = 3 by omega) with rfl | rfl | rfl | rfl <;> rfl

theorem weachS_lit (lo b : Nat) (t : List UInt8) (b0 b1 b2 b3 x0 x1 x2 x3 : UInt8) (w : World) (ht : 5 ≤ t.length) (h : Tab w lo b t true) (hx : List.map subB [b0, b1, b2, b3] = [x0, x1, x2, x3]) :
    Calls Try.prog 53 #[.agg #[.int .u8 (b0.toNat : Int), .int .u8 (b1.toNat : Int), .int .u8 (b2.toNat : Int), .int .u8 (b3.toNat : Int)], .func (.func 44) #[.pointer (some ⟨b, 0, none⟩)] #[]] w
      fun e w' => e = .returned (.agg #[.int .u8 (x0.toNat : Int), .int .u8 (x1.toNat : Int), .int .u8 (x2.toNat : Int), .int .u8 (x3.toNat : Int)]) ∧ Below w.heap.size w w' := by
  have := weachS lo b t [b0, b1, b2, b3] true w rfl ht h
  rw [hx] at this
  exact this.mono fun e w' hu => ⟨hu.1, hu.2.2.2 rfl⟩

set_option maxRecDepth 100000 in
set_option maxHeartbeats 2000000 in
theorem eachS_any (lo b : Nat) (t : List UInt8) (ht : 5 ≤ t.length) (l : List UInt8) (w : World) (hl : l.length = 16) (hT : Tab w lo b t true) :
    Calls Try.prog 43 #[AV l, .func (.func 44) #[.pointer (some ⟨b, 0, none⟩)] #[]] w (RetA (l.map subB) w) := by
  have HL := Lib.hid hl
  obtain ⟨R, HR⟩ : ∃ R, Hid (R = l.map subB) := ⟨_, Lib.hid rfl⟩
  rw [← HR.out]
  have HR16 : Hid (R.length = 16) := Lib.hid (by rw [HR.out]; rw [List.length_map]; exact hl)
  have HA := Lib.hid (w2_0 l zeros16 49 w)
  have HC := Lib.hid (w2_1 l zeros16 49 w)
  have HW := Lib.hid (w2_below l zeros16 49 w)
  obtain ⟨G, HG⟩ : ∃ G, Hid (G = w.heap.size) := ⟨_, Lib.hid rfl⟩
  obtain ⟨W0, HW0⟩ : ∃ W0, Hid (W0 = W2 l zeros16 49 w) := ⟨_, Lib.hid rfl⟩
  have HT0 := Lib.hid hT
  have HT5 := Lib.hid ht
  clear ht hT
  clear hl
  have hmf : ∀ (fn : Fn) (first cap : Array Value) (w : World), (Instr.makeFunc fn first cap).run Try.prog w = .ok (.func fn first cap) w := fun _ _ _ _ => rfl
  go_enter Try.func43, Try.ntmps43
  go_wp2_with (first | (refine wpList_boxA rfl _ (.tmp 0) rfl l rfl ?_) | (refine wpList_ldA rfl _ (.tmp 2) rfl w.heap.size 0 4 _ rfl l (by exact HA.out) up_sq (by rw [HL.out]; exact sz_sq) ?_))
  show Code.wp _ _ _ _ (W2 l zeros16 49 w)
  rw [← HW0.out] at HA HC HW ⊢
  rw [← HG.out] at HA HC ⊢
  go_loopw [8] (fun i wr => ∃ k : Nat, k ≤ 4 ∧ i = .int .i64 k ∧ Hid (Ar wr G 0 (wordsUpTo R l k)) ∧ Hid (Ar wr (G + 1) 0 zeros16) ∧ Hid (Below w.heap.size w wr)) (fun i _ => 4 - (intOf i).toNat)
  case atStart => exact ⟨0, by omega, rfl, HA, HC, HW⟩
  case round =>
    clear HA HC HW
    obtain ⟨k, hk, rfl, ha, hc, hb⟩ := hrel
    by_cases hlt : k < 4
    · have hidx := sidx l HL.out k hlt
      obtain ⟨b0, b1, b2, b3, hb4⟩ := list4 (cutL l (4 * k) 4) (by rw [cutL_len _ _ _ (by rw [HL.out]; omega)])
      rw [hb4] at hidx
      have hidx' : ∀ W : World, (Instr.index 49 (AV l) (.int .i64 (k : Int))).run Try.prog W = .ok (.agg #[.int .u8 (b0.toNat : Int), .int .u8 (b1.toNat : Int), .int .u8 (b2.toNat : Int), .int .u8 (b3.toNat : Int)]) W := hidx
      have hp := ha.out.part (4 * k) 4 (by rw [wup_len R l k HR16.out HL.out (by omega)]; omega)
      rw [wup_cut R l k HR16.out HL.out hlt, hb4, Nat.zero_add, Nat.mul_comm 4 k] at hp
      have hgs : G < wr.heap.size := ha.out.lt (by rw [wup_len R l k HR16.out HL.out (by omega)]; omega)
      obtain ⟨x0, x1, x2, x3, hx4⟩ := list4 (List.map subB [b0, b1, b2, b3]) rfl
      have HP := Lib.hid hp
      have HX : Hid (cutL R (4 * k) 4 = [x0, x1, x2, x3]) := Lib.hid (by rw [HR.out, map_cut, hb4]; exact hx4)
      have HX4 := Lib.hid hx4
      have HTR := Lib.hid ((HT0.out.below hb.out).below (below_alloc wr (.cells #[.int .u8 (b0.toNat : Int), .int .u8 (b1.toNat : Int), .int .u8 (b2.toNat : Int), .int .u8 (b3.toNat : Int)] 47)))
      clear hidx hb4 hp hx4
      go_wp2_with fail
      refine (weachS_lit lo b t b0 b1 b2 b3 x0 x1 x2 x3 _ (by exact HT5.out) (by exact HTR.out) (by exact HX4.out)).mono ?_
      rintro e w1 ⟨rfl, hb1⟩
      have hbw : Below wr.heap.size wr w1 := (below_alloc wr _).trans (hb1.mono (by simp))
      have hp1 := HP.out.below hbw hgs
      obtain ⟨k0, k1, k2, k3⟩ := hp1.four
      obtain ⟨z0, z1, z2, z3⟩ := hp1.fours rfl
      have HB1 := Lib.hid hbw
      clear hb1 hbw hp1
      go_wp2_with fail
      go_roundw
      case rel =>
        have h1 := (ha.out.below HB1.out hgs).lay (4 * k) [x0, x1, x2, x3] (by rw [wup_len R l k HR16.out HL.out (by omega)]; simp; omega)
        rw [← HX.out, wup_lay R l k HR16.out HL.out hlt, HX.out, Nat.zero_add, Nat.mul_comm 4 k] at h1
        have h2 := (hc.out.below HB1.out (hc.out.lt (by simp [zeros16]))).setCells (b := G) (by omega) (k * 4) (bvs [x0, x1, x2, x3])
        have h3 := below_setCells (hb.out.trans (HB1.out.mono hb.out.size)) (b := G) (by rw [HG.out]; exact Nat.le_refl _) (k * 4) (bvs [x0, x1, x2, x3])
        exact ⟨k + 1, by omega, by go_num, Lib.hid h1, Lib.hid h2, Lib.hid h3⟩
      case measure => simp [intOf]; omega
    · obtain rfl : k = 4 := by omega
      have hal := ha.out
      rw [wup_all R l HR16.out HL.out] at hal
      have HAL := Lib.hid hal
      clear hal
      go_wp2_with (first | (refine wpList_ldA rfl _ (.tmp 2) rfl G 0 4 _ rfl R (by exact HAL.out) up_sq (by rw [HR16.out]; exact sz_sq) ?_) | (refine wpList_stA rfl _ (.tmp 4) (.tmp 18) rfl (G + 1) 0 rfl R zeros16 rfl (by exact hc.out) (by rw [HR16.out]; rfl) (by rw [HR16.out]; exact sz_sq) ?_))
      refine bodyPost_ret (v := AV R) (res_cell rfl _ _ (G + 1) 4 _ R rfl (hc.out.whole R (by rw [HR16.out]; rfl)) up_sq (by rw [HR16.out]; exact sz_sq)) rfl ⟨rfl, ?_⟩
      exact below_setCells hb.out (by rw [HG.out]; omega) 0 (bvs R)

theorem weachU_lit (lo b : Nat) (t : List UInt8) (b0 b1 b2 b3 x0 x1 x2 x3 : UInt8) (w : World) (ht : 5 ≤ t.length) (h : Tab w lo b t true) (hx : List.map unsubB [b0, b1, b2, b3] = [x0, x1, x2, x3]) :
    Calls Try.prog 53 #[.agg #[.int .u8 (b0.toNat : Int), .int .u8 (b1.toNat : Int), .int .u8 (b2.toNat : Int), .int .u8 (b3.toNat : Int)], .func (.func 51) #[.pointer (some ⟨b, 0, none⟩)] #[]] w
      fun e w' => e = .returned (.agg #[.int .u8 (x0.toNat : Int), .int .u8 (x1.toNat : Int), .int .u8 (x2.toNat : Int), .int .u8 (x3.toNat : Int)]) ∧ Below w.heap.size w w' := by
  have := weachU lo b t [b0, b1, b2, b3] true w rfl ht h
  rw [hx] at this
  exact this.mono fun e w' hu => ⟨hu.1, hu.2.2.2 rfl⟩

set_option maxRecDepth 100000 in
set_option maxHeartbeats 2000000 in
theorem eachU_any (lo b : Nat) (t : List UInt8) (ht : 5 ≤ t.length) (l : List UInt8) (w : World) (hl : l.length = 16) (hT : Tab w lo b t true) :
    Calls Try.prog 43 #[AV l, .func (.func 51) #[.pointer (some ⟨b, 0, none⟩)] #[]] w (RetA (l.map unsubB) w) := by
  have HL := Lib.hid hl
  obtain ⟨R, HR⟩ : ∃ R, Hid (R = l.map unsubB) := ⟨_, Lib.hid rfl⟩
  rw [← HR.out]
  have HR16 : Hid (R.length = 16) := Lib.hid (by rw [HR.out]; rw [List.length_map]; exact hl)
  have HA := Lib.hid (w2_0 l zeros16 49 w)
  have HC := Lib.hid (w2_1 l zeros16 49 w)
  have HW := Lib.hid (w2_below l zeros16 49 w)
  obtain ⟨G, HG⟩ : ∃ G, Hid (G = w.heap.size) := ⟨_, Lib.hid rfl⟩
  obtain ⟨W0, HW0⟩ : ∃ W0, Hid (W0 = W2 l zeros16 49 w) := ⟨_, Lib.hid rfl⟩
  have HT0 := Lib.hid hT
  have HT5 := Lib.hid ht
  clear ht hT
  clear hl
  have hmf : ∀ (fn : Fn) (first cap : Array Value) (w : World), (Instr.makeFunc fn first cap).run Try.prog w = .ok (.func fn first cap) w := fun _ _ _ _ => rfl
  go_enter Try.func43, Try.ntmps43
  go_wp2_with (first | (refine wpList_boxA rfl _ (.tmp 0) rfl l rfl ?_) | (refine wpList_ldA rfl _ (.tmp 2) rfl w.heap.size 0 4 _ rfl l (by exact HA.out) up_sq (by rw [HL.out]; exact sz_sq) ?_))
  show Code.wp _ _ _ _ (W2 l zeros16 49 w)
  rw [← HW0.out] at HA HC HW ⊢
  rw [← HG.out] at HA HC ⊢
  go_loopw [8] (fun i wr => ∃ k : Nat, k ≤ 4 ∧ i = .int .i64 k ∧ Hid (Ar wr G 0 (wordsUpTo R l k)) ∧ Hid (Ar wr (G + 1) 0 zeros16) ∧ Hid (Below w.heap.size w wr)) (fun i _ => 4 - (intOf i).toNat)
  case atStart => exact ⟨0, by omega, rfl, HA, HC, HW⟩
  case round =>
    clear HA HC HW
    obtain ⟨k, hk, rfl, ha, hc, hb⟩ := hrel
    by_cases hlt : k < 4
    · have hidx := sidx l HL.out k hlt
      obtain ⟨b0, b1, b2, b3, hb4⟩ := list4 (cutL l (4 * k) 4) (by rw [cutL_len _ _ _ (by rw [HL.out]; omega)])
      rw [hb4] at hidx
      have hidx' : ∀ W : World, (Instr.index 49 (AV l) (.int .i64 (k : Int))).run Try.prog W = .ok (.agg #[.int .u8 (b0.toNat : Int), .int .u8 (b1.toNat : Int), .int .u8 (b2.toNat : Int), .int .u8 (b3.toNat : Int)]) W := hidx
      have hp := ha.out.part (4 * k) 4 (by rw [wup_len R l k HR16.out HL.out (by omega)]; omega)
      rw [wup_cut R l k HR16.out HL.out hlt, hb4, Nat.zero_add, Nat.mul_comm 4 k] at hp
      have hgs : G < wr.heap.size := ha.out.lt (by rw [wup_len R l k HR16.out HL.out (by omega)]; omega)
      obtain ⟨x0, x1, x2, x3, hx4⟩ := list4 (List.map unsubB [b0, b1, b2, b3]) rfl
      have HP := Lib.hid hp
      have HX : Hid (cutL R (4 * k) 4 = [x0, x1, x2, x3]) := Lib.hid (by rw [HR.out, map_cut, hb4]; exact hx4)
      have HX4 := Lib.hid hx4
      have HTR := Lib.hid ((HT0.out.below hb.out).below (below_alloc wr (.cells #[.int .u8 (b0.toNat : Int), .int .u8 (b1.toNat : Int), .int .u8 (b2.toNat : Int), .int .u8 (b3.toNat : Int)] 47)))
      clear hidx hb4 hp hx4
      go_wp2_with fail
      refine (weachU_lit lo b t b0 b1 b2 b3 x0 x1 x2 x3 _ (by exact HT5.out) (by exact HTR.out) (by exact HX4.out)).mono ?_
      rintro e w1 ⟨rfl, hb1⟩
      have hbw : Below wr.heap.size wr w1 := (below_alloc wr _).trans (hb1.mono (by simp))
      have hp1 := HP.out.below hbw hgs
      obtain ⟨k0, k1, k2, k3⟩ := hp1.four
      obtain ⟨z0, z1, z2, z3⟩ := hp1.fours rfl
      have HB1 := Lib.hid hbw
      clear hb1 hbw hp1
      go_wp2_with fail
      go_roundw
      case rel =>
        have h1 := (ha.out.below HB1.out hgs).lay (4 * k) [x0, x1, x2, x3] (by rw [wup_len R l k HR16.out HL.out (by omega)]; simp; omega)
        rw [← HX.out, wup_lay R l k HR16.out HL.out hlt, HX.out, Nat.zero_add, Nat.mul_comm 4 k] at h1
        have h2 := (hc.out.below HB1.out (hc.out.lt (by simp [zeros16]))).setCells (b := G) (by omega) (k * 4) (bvs [x0, x1, x2, x3])
        have h3 := below_setCells (hb.out.trans (HB1.out.mono hb.out.size)) (b := G) (by rw [HG.out]; exact Nat.le_refl _) (k * 4) (bvs [x0, x1, x2, x3])
        exact ⟨k + 1, by omega, by go_num, Lib.hid h1, Lib.hid h2, Lib.hid h3⟩
      case measure => simp [intOf]; omega
    · obtain rfl : k = 4 := by omega
      have hal := ha.out
      rw [wup_all R l HR16.out HL.out] at hal
      have HAL := Lib.hid hal
      clear hal
      go_wp2_with (first | (refine wpList_ldA rfl _ (.tmp 2) rfl G 0 4 _ rfl R (by exact HAL.out) up_sq (by rw [HR16.out]; exact sz_sq) ?_) | (refine wpList_stA rfl _ (.tmp 4) (.tmp 18) rfl (G + 1) 0 rfl R zeros16 rfl (by exact hc.out) (by rw [HR16.out]; rfl) (by rw [HR16.out]; exact sz_sq) ?_))
      refine bodyPost_ret (v := AV R) (res_cell rfl _ _ (G + 1) 4 _ R rfl (hc.out.whole R (by rw [HR16.out]; rfl)) up_sq (by rw [HR16.out]; exact sz_sq)) rfl ⟨rfl, ?_⟩
      exact below_setCells hb.out (by rw [HG.out]; omega) 0 (bvs R)

theorem mix_lit (cb tb lo : Nat) (b0 b1 b2 b3 x0 x1 x2 x3 : UInt8) (w : World) (h : TabC w cb tb lo) (hx : colW [2, 3, 1, 1] [b0, b1, b2, b3] = [x0, x1, x2, x3]) :
    Calls Try.prog 47 #[.pointer (some ⟨cb, 0, none⟩), .agg #[.int .u8 (b0.toNat : Int), .int .u8 (b1.toNat : Int), .int .u8 (b2.toNat : Int), .int .u8 (b3.toNat : Int)]] w
      fun e w' => e = .returned (.agg #[.int .u8 (x0.toNat : Int), .int .u8 (x1.toNat : Int), .int .u8 (x2.toNat : Int), .int .u8 (x3.toNat : Int)]) ∧ Below w.heap.size w w' := by
  have := mix_any cb tb lo [b0, b1, b2, b3] w rfl h
  rw [hx] at this
  exact this

set_option maxRecDepth 100000 in
set_option maxHeartbeats 2000000 in
theorem columns_mix (cb tb lo : Nat) (l : List UInt8) (w : World) (hl : l.length = 16) (hT : TabC w cb tb lo) :
    Calls Try.prog 46 #[AV l, .func (.func 47) #[.pointer (some ⟨cb, 0, none⟩)] #[]] w (RetA (columnsL l [2, 3, 1, 1]) w) := by
  have HL := Lib.hid hl
  obtain ⟨R, HR⟩ : ∃ R, Hid (R = columnsL l [2, 3, 1, 1]) := ⟨_, Lib.hid rfl⟩
  rw [← HR.out]
  have HR16 : Hid (R.length = 16) := Lib.hid (by rw [HR.out]; exact columns_len _ _)
  have HA := Lib.hid (w2_0 l zeros16 49 w)
  have HC := Lib.hid (w2_1 l zeros16 49 w)
  have HW := Lib.hid (w2_below l zeros16 49 w)
  obtain ⟨G, HG⟩ : ∃ G, Hid (G = w.heap.size) := ⟨_, Lib.hid rfl⟩
  obtain ⟨W0, HW0⟩ : ∃ W0, Hid (W0 = W2 l zeros16 49 w) := ⟨_, Lib.hid rfl⟩
  have HT0 := Lib.hid hT
  clear hT
  clear hl
  have hmf : ∀ (fn : Fn) (first cap : Array Value) (w : World), (Instr.makeFunc fn first cap).run Try.prog w = .ok (.func fn first cap) w := fun _ _ _ _ => rfl
  go_enter Try.func46, Try.ntmps46
  go_wp2_with (first | (refine wpList_boxA rfl _ (.tmp 0) rfl l rfl ?_) | (refine wpList_ldA rfl _ (.tmp 2) rfl w.heap.size 0 4 _ rfl l (by exact HA.out) up_sq (by rw [HL.out]; exact sz_sq) ?_))
  show Code.wp _ _ _ _ (W2 l zeros16 49 w)
  rw [← HW0.out] at HA HC HW ⊢
  rw [← HG.out] at HA HC ⊢
  go_loopw [8] (fun i wr => ∃ k : Nat, k ≤ 4 ∧ i = .int .i64 k ∧ Hid (Ar wr G 0 (wordsUpTo R l k)) ∧ Hid (Ar wr (G + 1) 0 zeros16) ∧ Hid (Below w.heap.size w wr)) (fun i _ => 4 - (intOf i).toNat)
  case atStart => exact ⟨0, by omega, rfl, HA, HC, HW⟩
  case round =>
    clear HA HC HW
    obtain ⟨k, hk, rfl, ha, hc, hb⟩ := hrel
    by_cases hlt : k < 4
    · have hidx := sidx l HL.out k hlt
      obtain ⟨b0, b1, b2, b3, hb4⟩ := list4 (cutL l (4 * k) 4) (by rw [cutL_len _ _ _ (by rw [HL.out]; omega)])
      rw [hb4] at hidx
      have hidx' : ∀ W : World, (Instr.index 49 (AV l) (.int .i64 (k : Int))).run Try.prog W = .ok (.agg #[.int .u8 (b0.toNat : Int), .int .u8 (b1.toNat : Int), .int .u8 (b2.toNat : Int), .int .u8 (b3.toNat : Int)]) W := hidx
      have hp := ha.out.part (4 * k) 4 (by rw [wup_len R l k HR16.out HL.out (by omega)]; omega)
      rw [wup_cut R l k HR16.out HL.out hlt, hb4, Nat.zero_add, Nat.mul_comm 4 k] at hp
      have hgs : G < wr.heap.size := ha.out.lt (by rw [wup_len R l k HR16.out HL.out (by omega)]; omega)
      obtain ⟨x0, x1, x2, x3, hx4⟩ := list4 (colW [2, 3, 1, 1] [b0, b1, b2, b3]) rfl
      have HP := Lib.hid hp
      have HX : Hid (cutL R (4 * k) 4 = [x0, x1, x2, x3]) := Lib.hid (by rw [HR.out, col_cut _ _ _ hlt, hb4]; exact hx4)
      have HX4 := Lib.hid hx4
      have HTR := Lib.hid ((HT0.out.below hb.out).below (below_alloc wr (.cells #[.int .u8 (b0.toNat : Int), .int .u8 (b1.toNat : Int), .int .u8 (b2.toNat : Int), .int .u8 (b3.toNat : Int)] 47)))
      clear hidx hb4 hp hx4
      go_wp2_with fail
      refine (mix_lit cb tb lo b0 b1 b2 b3 x0 x1 x2 x3 _ (by exact HTR.out) (by exact HX4.out)).mono ?_
      rintro e w1 ⟨rfl, hb1⟩
      have hbw : Below wr.heap.size wr w1 := (below_alloc wr _).trans (hb1.mono (by simp))
      have hp1 := HP.out.below hbw hgs
      obtain ⟨k0, k1, k2, k3⟩ := hp1.four
      obtain ⟨z0, z1, z2, z3⟩ := hp1.fours rfl
      have HB1 := Lib.hid hbw
      clear hb1 hbw hp1
      go_wp2_with fail
      go_roundw
      case rel =>
        have h1 := (ha.out.below HB1.out hgs).lay (4 * k) [x0, x1, x2, x3] (by rw [wup_len R l k HR16.out HL.out (by omega)]; simp; omega)
        rw [← HX.out, wup_lay R l k HR16.out HL.out hlt, HX.out, Nat.zero_add, Nat.mul_comm 4 k] at h1
        have h2 := (hc.out.below HB1.out (hc.out.lt (by simp [zeros16]))).setCells (b := G) (by omega) (k * 4) (bvs [x0, x1, x2, x3])
        have h3 := below_setCells (hb.out.trans (HB1.out.mono hb.out.size)) (b := G) (by rw [HG.out]; exact Nat.le_refl _) (k * 4) (bvs [x0, x1, x2, x3])
        exact ⟨k + 1, by omega, by go_num, Lib.hid h1, Lib.hid h2, Lib.hid h3⟩
      case measure => simp [intOf]; omega
    · obtain rfl : k = 4 := by omega
      have hal := ha.out
      rw [wup_all R l HR16.out HL.out] at hal
      have HAL := Lib.hid hal
      clear hal
      go_wp2_with (first | (refine wpList_ldA rfl _ (.tmp 2) rfl G 0 4 _ rfl R (by exact HAL.out) up_sq (by rw [HR16.out]; exact sz_sq) ?_) | (refine wpList_stA rfl _ (.tmp 4) (.tmp 18) rfl (G + 1) 0 rfl R zeros16 rfl (by exact hc.out) (by rw [HR16.out]; rfl) (by rw [HR16.out]; exact sz_sq) ?_))
      refine bodyPost_ret (v := AV R) (res_cell rfl _ _ (G + 1) 4 _ R rfl (hc.out.whole R (by rw [HR16.out]; rfl)) up_sq (by rw [HR16.out]; exact sz_sq)) rfl ⟨rfl, ?_⟩
      exact below_setCells hb.out (by rw [HG.out]; omega) 0 (bvs R)

theorem unmix_lit (cb tb lo : Nat) (b0 b1 b2 b3 x0 x1 x2 x3 : UInt8) (w : World) (h : TabC w cb tb lo) (hx : colW [14, 11, 13, 9] [b0, b1, b2, b3] = [x0, x1, x2, x3]) :
    Calls Try.prog 52 #[.pointer (some ⟨cb, 0, none⟩), .agg #[.int .u8 (b0.toNat : Int), .int .u8 (b1.toNat : Int), .int .u8 (b2.toNat : Int), .int .u8 (b3.toNat : Int)]] w
      fun e w' => e = .returned (.agg #[.int .u8 (x0.toNat : Int), .int .u8 (x1.toNat : Int), .int .u8 (x2.toNat : Int), .int .u8 (x3.toNat : Int)]) ∧ Below w.heap.size w w' := by
  have := unmix_any cb tb lo [b0, b1, b2, b3] w rfl h
  rw [hx] at this
  exact this

set_option maxRecDepth 100000 in
set_option maxHeartbeats 2000000 in
theorem columns_unmix (cb tb lo : Nat) (l : List UInt8) (w : World) (hl : l.length = 16) (hT : TabC w cb tb lo) :
    Calls Try.prog 46 #[AV l, .func (.func 52) #[.pointer (some ⟨cb, 0, none⟩)] #[]] w (RetA (columnsL l [14, 11, 13, 9]) w) := by
  have HL := Lib.hid hl
  obtain ⟨R, HR⟩ : ∃ R, Hid (R = columnsL l [14, 11, 13, 9]) := ⟨_, Lib.hid rfl⟩
  rw [← HR.out]
  have HR16 : Hid (R.length = 16) := Lib.hid (by rw [HR.out]; exact columns_len _ _)
  have HA := Lib.hid (w2_0 l zeros16 49 w)
  have HC := Lib.hid (w2_1 l zeros16 49 w)
  have HW := Lib.hid (w2_below l zeros16 49 w)
  obtain ⟨G, HG⟩ : ∃ G, Hid (G = w.heap.size) := ⟨_, Lib.hid rfl⟩
  obtain ⟨W0, HW0⟩ : ∃ W0, Hid (W0 = W2 l zeros16 49 w) := ⟨_, Lib.hid rfl⟩
  have HT0 := Lib.hid hT
  clear hT
  clear hl
  have hmf : ∀ (fn : Fn) (first cap : Array Value) (w : World), (Instr.makeFunc fn first cap).run Try.prog w = .ok (.func fn first cap) w := fun _ _ _ _ => rfl
  go_enter Try.func46, Try.ntmps46
  go_wp2_with (first | (refine wpList_boxA rfl _ (.tmp 0) rfl l rfl ?_) | (refine wpList_ldA rfl _ (.tmp 2) rfl w.heap.size 0 4 _ rfl l (by exact HA.out) up_sq (by rw [HL.out]; exact sz_sq) ?_))
  show Code.wp _ _ _ _ (W2 l zeros16 49 w)
  rw [← HW0.out] at HA HC HW ⊢
  rw [← HG.out] at HA HC ⊢
  go_loopw [8] (fun i wr => ∃ k : Nat, k ≤ 4 ∧ i = .int .i64 k ∧ Hid (Ar wr G 0 (wordsUpTo R l k)) ∧ Hid (Ar wr (G + 1) 0 zeros16) ∧ Hid (Below w.heap.size w wr)) (fun i _ => 4 - (intOf i).toNat)
  case atStart => exact ⟨0, by omega, rfl, HA, HC, HW⟩
  case round =>
    clear HA HC HW
    obtain ⟨k, hk, rfl, ha, hc, hb⟩ := hrel
    by_cases hlt : k < 4
    · have hidx := sidx l HL.out k hlt
      obtain ⟨b0, b1, b2, b3, hb4⟩ := list4 (cutL l (4 * k) 4) (by rw [cutL_len _ _ _ (by rw [HL.out]; omega)])
      rw [hb4] at hidx
      have hidx' : ∀ W : World, (Instr.index 49 (AV l) (.int .i64 (k : Int))).run Try.prog W = .ok (.agg #[.int .u8 (b0.toNat : Int), .int .u8 (b1.toNat : Int), .int .u8 (b2.toNat : Int), .int .u8 (b3.toNat : Int)]) W := hidx
      have hp := ha.out.part (4 * k) 4 (by rw [wup_len R l k HR16.out HL.out (by omega)]; omega)
      rw [wup_cut R l k HR16.out HL.out hlt, hb4, Nat.zero_add, Nat.mul_comm 4 k] at hp
      have hgs : G < wr.heap.size := ha.out.lt (by rw [wup_len R l k HR16.out HL.out (by omega)]; omega)
      obtain ⟨x0, x1, x2, x3, hx4⟩ := list4 (colW [14, 11, 13, 9] [b0, b1, b2, b3]) rfl
      have HP := Lib.hid hp
      have HX : Hid (cutL R (4 * k) 4 = [x0, x1, x2, x3]) := Lib.hid (by rw [HR.out, col_cut _ _ _ hlt, hb4]; exact hx4)
      have HX4 := Lib.hid hx4
      have HTR := Lib.hid ((HT0.out.below hb.out).below (below_alloc wr (.cells #[.int .u8 (b0.toNat : Int), .int .u8 (b1.toNat : Int), .int .u8 (b2.toNat : Int), .int .u8 (b3.toNat : Int)] 47)))
      clear hidx hb4 hp hx4
      go_wp2_with fail
      refine (unmix_lit cb tb lo b0 b1 b2 b3 x0 x1 x2 x3 _ (by exact HTR.out) (by exact HX4.out)).mono ?_
      rintro e w1 ⟨rfl, hb1⟩
      have hbw : Below wr.heap.size wr w1 := (below_alloc wr _).trans (hb1.mono (by simp))
      have hp1 := HP.out.below hbw hgs
      obtain ⟨k0, k1, k2, k3⟩ := hp1.four
      obtain ⟨z0, z1, z2, z3⟩ := hp1.fours rfl
      have HB1 := Lib.hid hbw
      clear hb1 hbw hp1
      go_wp2_with fail
      go_roundw
      case rel =>
        have h1 := (ha.out.below HB1.out hgs).lay (4 * k) [x0, x1, x2, x3] (by rw [wup_len R l k HR16.out HL.out (by omega)]; simp; omega)
        rw [← HX.out, wup_lay R l k HR16.out HL.out hlt, HX.out, Nat.zero_add, Nat.mul_comm 4 k] at h1
        have h2 := (hc.out.below HB1.out (hc.out.lt (by simp [zeros16]))).setCells (b := G) (by omega) (k * 4) (bvs [x0, x1, x2, x3])
        have h3 := below_setCells (hb.out.trans (HB1.out.mono hb.out.size)) (b := G) (by rw [HG.out]; exact Nat.le_refl _) (k * 4) (bvs [x0, x1, x2, x3])
        exact ⟨k + 1, by omega, by go_num, Lib.hid h1, Lib.hid h2, Lib.hid h3⟩
      case measure => simp [intOf]; omega
    · obtain rfl : k = 4 := by omega
      have hal := ha.out
      rw [wup_all R l HR16.out HL.out] at hal
      have HAL := Lib.hid hal
      clear hal
      go_wp2_with (first | (refine wpList_ldA rfl _ (.tmp 2) rfl G 0 4 _ rfl R (by exact HAL.out) up_sq (by rw [HR16.out]; exact sz_sq) ?_) | (refine wpList_stA rfl _ (.tmp 4) (.tmp 18) rfl (G + 1) 0 rfl R zeros16 rfl (by exact hc.out) (by rw [HR16.out]; rfl) (by rw [HR16.out]; exact sz_sq) ?_))
      refine bodyPost_ret (v := AV R) (res_cell rfl _ _ (G + 1) 4 _ R rfl (hc.out.whole R (by rw [HR16.out]; rfl)) up_sq (by rw [HR16.out]; exact sz_sq)) rfl ⟨rfl, ?_⟩
      exact below_setCells hb.out (by rw [HG.out]; omega) 0 (bvs R)

end Go.Proofs.Ytbpbpkmjkbndbaa
