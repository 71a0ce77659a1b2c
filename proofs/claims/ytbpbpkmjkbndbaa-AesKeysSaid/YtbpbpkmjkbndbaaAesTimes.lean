/- aes's times: a column by a matrix, mix and unmix. Condition: the cipher's tables are filled, and hold products by the factors. -/
import Derived.Test.YtbpbpkmjkbndbaaAesSq
import Derived.Deep.RegionHeld3
namespace Go.Proofs.Ytbpbpkmjkbndbaa
open Go.RowKit
set_option linter.unusedVariables false

/-- A column behind r bytes, x the next. -/
def mL (F : Nat → UInt8) (r : Nat) (x : UInt8) : List UInt8 := (List.range 4).map fun j => if j < r then F j else if j = r then x else 0
theorem mL_len (F : Nat → UInt8) (r : Nat) (x : UInt8) : (mL F r x).length = 4 := by simp [mL]
theorem mL_zero (F : Nat → UInt8) : mL F 0 0 = [0, 0, 0, 0] := by simp [mL, List.range_succ]
theorem mL_set (F : Nat → UInt8) (r : Nat) (x y : UInt8) (hr : r < 4) : (mL F r x).set r y = mL F r y := by
  rcases (show r = 0 ∨ r = 1 ∨ r = 2 ∨ r = 3 by omega) with rfl | rfl | rfl | rfl <;> simp [mL, List.range_succ]
theorem mL_next (F : Nat → UInt8) (r : Nat) (hr : r < 4) : mL F r (F r) = mL F (r + 1) 0 := by
  rcases (show r = 0 ∨ r = 1 ∨ r = 2 ∨ r = 3 by omega) with rfl | rfl | rfl | rfl <;> simp [mL, List.range_succ]
theorem mL_end (F : Nat → UInt8) (x : UInt8) : mL F 4 x = [F 0, F 1, F 2, F 3] := by simp [mL, List.range_succ]
theorem mL_at (F : Nat → UInt8) (r : Nat) (x : UInt8) (hr : r < 4) : (mL F r x)[r]? = some x := by
  rcases (show r = 0 ∨ r = 1 ∨ r = 2 ∨ r = 3 by omega) with rfl | rfl | rfl | rfl <;> simp [mL, List.range_succ]
/-- A column by the matrix with a first row. -/
def colW (f l : List UInt8) : List UInt8 := [colUp l f 0 0 4, colUp l f 0 1 4, colUp l f 0 2 4, colUp l f 0 3 4]
/-- The object's tables: filled, with the seven products, at the block that the cipher's first cell leads to. -/
def TabC (w : World) (cb tb lo : Nat) : Prop := w.cell? ⟨cb, 0, none⟩ = some (.pointer (some ⟨tb, 0, none⟩)) ∧ Tab w lo tb [1, 2, 3, 9, 11, 13, 14] true
theorem TabC.below {w w' : World} {cb tb lo : Nat} (h : TabC w cb tb lo) (hb : Below w.heap.size w w') : TabC w' cb tb lo :=
  ⟨(hb.cell (p := ⟨cb, 0, none⟩) (World.block_lt_of_cell? w _ h.1)).trans h.1, h.2.below hb⟩
def bys : List UInt8 := [1, 2, 3, 9, 11, 13, 14]
theorem rowint (q : Nat → Nat) (j : Nat) (hj : j < 4) : (#[Value.int .i64 (q 0 : Int), .int .i64 (q 1 : Int), .int .i64 (q 2 : Int), .int .i64 (q 3 : Int)] : Array Value)[j]? = some (.int .i64 (q j : Int)) := by
  rcases (show j = 0 ∨ j = 1 ∨ j = 2 ∨ j = 3 by omega) with rfl | rfl | rfl | rfl <;> rfl

set_option maxRecDepth 100000 in
set_option maxHeartbeats 2000000 in
theorem times_any (cb tb lo : Nat) (l f : List UInt8) (q : Nat → Nat) (w : World) (hl : l.length = 4) (h : TabC w cb tb lo) (hq : ∀ j, j < 4 → bys[q j]? = some (f.getD j 0)) :
    Calls Try.prog 59 #[.pointer (some ⟨cb, 0, none⟩), AV l, .agg #[.int .i64 (q 0 : Int), .int .i64 (q 1 : Int), .int .i64 (q 2 : Int), .int .i64 (q 3 : Int)]] w (RetA (colW f l) w) := by
  obtain ⟨a0, a1, a2, a3, rfl⟩ := list4 l hl
  obtain ⟨L, HL⟩ : ∃ L, Hid (L = [a0, a1, a2, a3]) := ⟨_, Lib.hid rfl⟩
  obtain ⟨R, HR⟩ : ∃ R, Hid (R = RetA (colW f [a0, a1, a2, a3]) w) := ⟨_, Lib.hid rfl⟩
  obtain ⟨G, HG⟩ : ∃ G, Hid (G = w.heap.size) := ⟨_, Lib.hid rfl⟩
  have HT := Lib.hid h
  have HQ := Lib.hid hq
  clear h hq hl
  obtain ⟨F, HF⟩ : ∃ F : Nat → UInt8, Hid (∀ r, F r = colUp L f 0 r 4) := ⟨fun r => colUp L f 0 r 4, Lib.hid (fun _ => rfl)⟩
  obtain ⟨W0, HW0⟩ : ∃ W0, Hid (W0 = (((w.alloc (.cells #[.int .u8 (a0.toNat : Int), .int .u8 (a1.toNat : Int), .int .u8 (a2.toNat : Int), .int .u8 (a3.toNat : Int)] 47)).alloc (.cells #[.int .i64 (q 0 : Int), .int .i64 (q 1 : Int), .int .i64 (q 2 : Int), .int .i64 (q 3 : Int)] 100)).alloc (.cells #[.int .u8 0, .int .u8 0, .int .u8 0, .int .u8 0] 47)).alloc (.cells #[.int .u8 0, .int .u8 0, .int .u8 0, .int .u8 0] 47)) := ⟨_, Lib.hid rfl⟩
  have HB0 : Hid (Below w.heap.size w W0) := Lib.hid (by rw [HW0.out]; exact (((below_alloc w _).alloc (by simp) _).alloc (by simp; omega) _).alloc (by simp; omega) _)
  have HA0 : Hid (Ar W0 G 0 L) := Lib.hid (by
    rw [HW0.out, HG.out, HL.out]; exact (((Ar.new w [a0, a1, a2, a3] _).alloc (by simp) _).alloc (by simp; omega) _).alloc (by simp; omega) _)
  have HQ0 : Hid (∀ j, j < 4 → W0.cell? ⟨G + 1, j, none⟩ = some (.int .i64 (q j : Int))) := Lib.hid (fun j hj => by
    rw [HW0.out, HG.out, World.cell?_alloc_past _ _ _ (by simp), World.cell?_alloc_past _ _ _ (by simp), World.cell?_alloc_at _ _ _ _ (by simp)]
    exact rowint q j hj)
  have HR0 : Hid (Ar W0 (G + 1 + 1) 0 [0, 0, 0, 0]) := Lib.hid (by
    rw [HW0.out, HG.out]; exact (Ar.new1 _ _ (by simp) [0, 0, 0, 0] _).alloc (by simp) _)
  have HM0 : Hid (Ar W0 (G + 1 + 1 + 1) 0 (mL F 0 0)) := Lib.hid (by
    rw [HW0.out, HG.out, mL_zero]; exact Ar.new1 _ _ (by simp) [0, 0, 0, 0] _)
  rw [← HR.out]
  show Calls _ _ #[_, .agg #[.int .u8 (a0.toNat : Int), .int .u8 (a1.toNat : Int), .int .u8 (a2.toNat : Int), .int .u8 (a3.toNat : Int)], _] _ _
  go_enter Try.func59, Try.ntmps59
  go_wp2_with fail
  rw [← HW0.out, ← HG.out]
  go_loopw [13] (fun r wr => ∃ k : Nat, k ≤ 4 ∧ r = .int .i64 k ∧ Hid (Below w.heap.size w wr) ∧ Hid (Ar wr G 0 L) ∧ Hid (∀ j, j < 4 → wr.cell? ⟨G + 1, j, none⟩ = some (.int .i64 (q j : Int))) ∧ Hid (Ar wr (G + 1 + 1) 0 [0, 0, 0, 0]) ∧ Hid (Ar wr (G + 1 + 1 + 1) 0 (mL F k 0))) (fun r _ => 4 - (intOf r).toNat)
  case atStart => exact ⟨0, by omega, rfl, HB0, HA0, HQ0, HR0, HM0⟩
  case round =>
    obtain ⟨r, hr, rfl, hb, ha, hq, hz, hm⟩ := hrel
    clear HB0 HA0 HQ0 HR0 HM0
    by_cases hlt : r < 4
    · have hd : decide ((r : Int) < 4) = true := decide_eq_true (by omega)
      have ha4 := ha.out
      rw [HL.out] at ha4
      obtain ⟨c0, c1, c2, c3⟩ := ha4.four0
      clear ha4
      go_wp2_with fail
      clear c0 c1 c2 c3
      go_loopw [17] (fun i ws => ∃ k : Nat, k ≤ 4 ∧ i = .int .i64 k ∧ Hid (Below w.heap.size w ws) ∧ Hid (Ar ws G 0 L) ∧ Hid (∀ j, j < 4 → ws.cell? ⟨G + 1, j, none⟩ = some (.int .i64 (q j : Int))) ∧ Hid (Ar ws (G + 1 + 1) 0 [0, 0, 0, 0]) ∧ Hid (Ar ws (G + 1 + 1 + 1) 0 (mL F r (colUp L f 0 r k)))) (fun i _ => 4 - (intOf i).toNat)
      case atStart => exact ⟨0, by omega, rfl, hb, ha, hq, hz, hm⟩
      case round =>
        clear hb ha hq hz hm
        obtain ⟨i, hi, rfl, hb, ha, hq, hz, hm⟩ := hrel
        by_cases hlt2 : i < 4
        · obtain ⟨x, hx⟩ := getX [a0, a1, a2, a3] 4 i rfl hlt2
          have hat : ∀ W : World, (Instr.index 47 (.agg #[.int .u8 (a0.toNat : Int), .int .u8 (a1.toNat : Int), .int .u8 (a2.toNat : Int), .int .u8 (a3.toNat : Int)]) (.int .i64 (i : Int))).run Try.prog W = .ok (.int .u8 (x.toNat : Int)) W := word_at [a0, a1, a2, a3] rfl i hlt2 x hx
          obtain ⟨j, HJ, hj4⟩ : ∃ j : Nat, Hid (j = (i + 4 - r) % 4) ∧ j < 4 := ⟨_, Lib.hid rfl, Nat.mod_lt _ (by omega)⟩
          have htc := HT.out.below (w' := wr) (by exact hb.out)
          have cc := htc.1
          have cq := hq.out j hj4
          have h1 : IntKind.i64.wrap (4 + (i : Int)) = 4 + (i : Int) := IntWalk.i64_in _ (by omega)
          have h2 : IntKind.i64.wrap (4 + (i : Int) - (r : Int)) = 4 + (i : Int) - (r : Int) := IntWalk.i64_in _ (by omega)
          have h3 : Int.tmod (4 + (i : Int) - (r : Int)) 4 = (j : Int) := by
            rw [Int.tmod_eq_emod_of_nonneg (by omega), HJ.out]; omega
          have h4 : IntKind.i64.wrap (j : Int) = (j : Int) := IntWalk.i64_in _ (by omega)
          have h5 : (j : Int) < 4 := by omega
          have h6 : (0 : Int) ≤ (j : Int) := by omega
          obtain ⟨y, HY⟩ : ∃ y, Hid (y = f.getD j 0) := ⟨_, Lib.hid rfl⟩
          have HTB := Lib.hid htc.2
          have HQY : Hid (bys[q j]? = some y) := Lib.hid (by rw [HY.out]; exact HQ.out j hj4)
          obtain ⟨z, HZ⟩ : ∃ z, Hid (z = mulB y x) := ⟨_, Lib.hid rfl⟩
          obtain ⟨u, HU⟩ : ∃ u, Hid (u = colUp L f 0 r i) := ⟨_, Lib.hid rfl⟩
          have HX := Lib.hid hx
          rw [← HU.out] at hm
          have HCG : Hid (∀ W : World, Below wr.heap.size wr W → W.cell? ⟨cb, 0, none⟩ = some (.pointer (some ⟨tb, 0, none⟩)) ∧ W.cell? ⟨G + 1, j, none⟩ = some (.int .i64 (q j : Int)) ∧ W.cell? ⟨G + 1 + 1 + 1, r, none⟩ = some (.int .u8 (u.toNat : Int)) ∧ W.frozen? ⟨G + 1 + 1 + 1, r, none⟩ = false) := Lib.hid (fun W hW => by
            have m1 := hm.out.below hW (hm.out.lt (by rw [mL_len]; omega))
            have m2 := m1.cell (mL_at F r u hlt)
            have m3 := m1.free (j := r) (by rw [mL_len]; exact hlt)
            rw [Nat.zero_add] at m2 m3
            exact ⟨(hW.cell (p := ⟨cb, 0, none⟩) (World.block_lt_of_cell? wr _ cc)).trans cc, (hW.cell (p := ⟨G + 1, j, none⟩) (World.block_lt_of_cell? wr _ cq)).trans cq, m2, m3⟩)
          have hxy := xor_byte u z
          obtain ⟨v, HV⟩ : ∃ v, Hid (v = u ^^^ z) := ⟨_, Lib.hid rfl⟩
          rw [← HV.out] at hxy
          clear htc hx
          go_wp2_with fail
          go_region_held3 (fun w' => w'.cell? ⟨cb, 0, none⟩ = some (.pointer (some ⟨tb, 0, none⟩)) ∧ w'.cell? ⟨G + 1, j, none⟩ = some (.int .i64 (q j : Int))) (go_keep) (first | (go_at_call 65; refine (at_times lo tb bys true (q j) y x _ (by exact HTB.out) (by exact HQY.out)).mono ?_; rintro e w2 ⟨rfl, _, _, hb2⟩; rw [← HZ.out]; have HB2 : Hid (Below wr.heap.size wr w2) := Lib.hid ((Below.refl wr.heap.size wr).drew.trans (show Below wr.heap.size wr.drew w2 from hb2 rfl)); clear hb2; obtain ⟨k0, k1, k2, k3⟩ := HCG.out w2 HB2.out))
          go_wp2
          go_roundw
          case rel =>
            have m1 := (hm.out.below HB2.out (hm.out.lt (by rw [mL_len]; omega))).set (k := r) (by rw [mL_len]; exact hlt) v
            rw [mL_set _ _ _ _ hlt, Nat.zero_add] at m1
            have hv : v = colUp L f 0 r (i + 1) := by
              have : L.getD (4 * 0 + i) 0 = x := by rw [HL.out, Nat.mul_zero, Nat.zero_add]; simp [List.getD, HX.out]
              rw [HV.out, HU.out, HZ.out, HY.out, HJ.out, colUp, this]
            have hGw : ∀ g o l, 0 < l.length → Ar wr g o l → g ≠ G + 1 + 1 + 1 → Ar (w2.setCell ⟨G + 1 + 1 + 1, r, none⟩ (bv v)) g o l := fun g o l h0 h1 h2 => (h1.below HB2.out (h1.lt h0)).setCell (fun e => h2 e.symm) _
            refine ⟨i + 1, by omega, by go_num, Lib.hid ((hb.out.trans (HB2.out.mono hb.out.size)).setCell (by rw [HG.out]; show w.heap.size ≤ w.heap.size + 1 + 1 + 1; omega) _), Lib.hid (hGw _ _ _ (by rw [HL.out]; simp) ha.out (by omega)), Lib.hid (fun j' hj' => ?_), Lib.hid (hGw _ _ _ (by simp) hz.out (by omega)), Lib.hid (by rw [← hv]; exact m1)⟩
            have c := hq.out j' hj'
            exact (World.cell?_setCell_other _ _ _ _ (by intro e; injection e with e1 _; omega)).trans ((HB2.out.cell (p := ⟨G + 1, j', none⟩) (World.block_lt_of_cell? wr _ c)).trans c)
          case measure => simp [intOf]; omega
        · obtain rfl : i = 4 := by omega
          have e4 : ((4 : Nat) : Int) = 4 := rfl
          rw [e4]
          clear e4
          go_wp2_with fail
          go_roundw
          case rel =>
            have hm2 := hm.out
            rw [← HF.out r, mL_next F r hlt] at hm2
            exact ⟨r + 1, by omega, by go_num, hb, ha, hq, hz, Lib.hid hm2⟩
          case measure => simp [intOf]; omega
    · obtain rfl : r = 4 := by omega
      have hm2 := hm.out
      rw [mL_end] at hm2
      obtain ⟨c0, c1, c2, c3⟩ := hm2.four0
      obtain ⟨u0, u1, u2, u3⟩ := hz.out.four0
      obtain ⟨s0, s1, s2, s3⟩ := hz.out.fours0 rfl
      clear hm2
      go_wp2_with fail
      have hfin := hz.out.whole [F 0, F 1, F 2, F 3] rfl
      have hcol : colW f [a0, a1, a2, a3] = [F 0, F 1, F 2, F 3] := by rw [← HL.out]; unfold colW; rw [HF.out 0, HF.out 1, HF.out 2, HF.out 3]
      refine bodyPost_ret (v := AV [F 0, F 1, F 2, F 3]) (res_cell rfl _ _ (G + 1 + 1) 4 _ [F 0, F 1, F 2, F 3] rfl hfin up_word sz_word) rfl ?_
      rw [HR.out, hcol]
      exact ⟨rfl, below_setCells hb.out (b := G + 1 + 1) (by rw [HG.out]; omega) 0 (bvs [F 0, F 1, F 2, F 3])⟩

theorem mix_row (j : Nat) (hj : j < 4) : bys[([1, 2, 0, 0] : List Nat).getD j 0]? = some (([2, 3, 1, 1] : List UInt8).getD j 0) := by
  rcases (show j = 0 ∨ j = 1 ∨ j = 2 ∨ j = 3 by omega) with rfl | rfl | rfl | rfl <;> rfl
theorem mix_times (cb tb lo : Nat) (a0 a1 a2 a3 x0 x1 x2 x3 : UInt8) (w : World) (h : TabC w cb tb lo) (hx : colW [2, 3, 1, 1] [a0, a1, a2, a3] = [x0, x1, x2, x3]) :
    Calls Try.prog 59 #[.pointer (some ⟨cb, 0, none⟩), .agg #[.int .u8 (a0.toNat : Int), .int .u8 (a1.toNat : Int), .int .u8 (a2.toNat : Int), .int .u8 (a3.toNat : Int)], .agg #[.int .i64 1, .int .i64 2, .int .i64 0, .int .i64 0]] w
      fun e w' => e = .returned (.agg #[.int .u8 (x0.toNat : Int), .int .u8 (x1.toNat : Int), .int .u8 (x2.toNat : Int), .int .u8 (x3.toNat : Int)]) ∧ Below w.heap.size w w' := by
  have := times_any cb tb lo [a0, a1, a2, a3] [2, 3, 1, 1] (fun j => ([1, 2, 0, 0] : List Nat).getD j 0) w rfl h mix_row
  rw [hx] at this
  exact this

set_option maxRecDepth 100000 in
set_option maxHeartbeats 1000000 in
theorem mix_any (cb tb lo : Nat) (l : List UInt8) (w : World) (hl : l.length = 4) (h : TabC w cb tb lo) :
    Calls Try.prog 47 #[.pointer (some ⟨cb, 0, none⟩), AV l] w (RetA (colW [2, 3, 1, 1] l) w) := by
  obtain ⟨a0, a1, a2, a3, rfl⟩ := list4 l hl
  obtain ⟨x0, x1, x2, x3, hx⟩ := list4 (colW [2, 3, 1, 1] [a0, a1, a2, a3]) rfl
  rw [hx]
  have HX := Lib.hid hx
  obtain ⟨R, HR⟩ : ∃ R, Hid (R = AV [x0, x1, x2, x3]) := ⟨_, Lib.hid rfl⟩
  obtain ⟨G, HG⟩ : ∃ G, Hid (G = w.heap.size) := ⟨_, Lib.hid rfl⟩
  obtain ⟨W0, HW0⟩ : ∃ W0, Hid (W0 = (w.alloc (.cells #[.int .u8 (a0.toNat : Int), .int .u8 (a1.toNat : Int), .int .u8 (a2.toNat : Int), .int .u8 (a3.toNat : Int)] 47)).alloc (.cells #[.int .u8 0, .int .u8 0, .int .u8 0, .int .u8 0] 47)) := ⟨_, Lib.hid rfl⟩
  have HB0 : Hid (Below w.heap.size w W0) := Lib.hid (by rw [HW0.out]; exact (below_alloc w _).alloc (by simp) _)
  have HT : Hid (TabC W0 cb tb lo) := Lib.hid (h.below HB0.out)
  have HZ : Hid (Ar W0 (G + 1) 0 [0, 0, 0, 0]) := Lib.hid (by rw [HW0.out, HG.out]; exact Ar.new1 _ _ (by simp) [0, 0, 0, 0] _)
  clear hl hx h
  show Calls _ _ #[_, .agg #[.int .u8 (a0.toNat : Int), .int .u8 (a1.toNat : Int), .int .u8 (a2.toNat : Int), .int .u8 (a3.toNat : Int)]] _ _
  unfold RetA
  rw [← HR.out]
  go_enter Try.func47, Try.ntmps47
  go_wp2_with fail
  rw [← HW0.out, ← HG.out]
  refine (mix_times cb tb lo a0 a1 a2 a3 x0 x1 x2 x3 _ (by exact HT.out) (by exact HX.out)).mono ?_
  rintro e w1 ⟨rfl, hb1⟩
  have hz1 := HZ.out.below hb1 (HZ.out.lt (by simp))
  obtain ⟨u0, u1, u2, u3⟩ := hz1.four0
  obtain ⟨s0, s1, s2, s3⟩ := hz1.fours0 rfl
  have HZ1 := Lib.hid hz1
  have HB1 := Lib.hid hb1
  clear hz1 hb1
  go_wp2_with fail
  refine bodyPost_ret (v := R) (by rw [HR.out]; exact res_cell rfl _ _ (G + 1) 4 _ [x0, x1, x2, x3] rfl (HZ1.out.whole [x0, x1, x2, x3] rfl) up_word sz_word) rfl ⟨rfl, ?_⟩
  exact below_setCells (HB0.out.trans (HB1.out.mono HB0.out.size)) (b := G + 1) (by rw [HG.out]; omega) 0 (bvs [x0, x1, x2, x3])

theorem unmix_row (j : Nat) (hj : j < 4) : bys[([6, 4, 5, 3] : List Nat).getD j 0]? = some (([14, 11, 13, 9] : List UInt8).getD j 0) := by
  rcases (show j = 0 ∨ j = 1 ∨ j = 2 ∨ j = 3 by omega) with rfl | rfl | rfl | rfl <;> rfl
theorem unmix_times (cb tb lo : Nat) (a0 a1 a2 a3 x0 x1 x2 x3 : UInt8) (w : World) (h : TabC w cb tb lo) (hx : colW [14, 11, 13, 9] [a0, a1, a2, a3] = [x0, x1, x2, x3]) :
    Calls Try.prog 59 #[.pointer (some ⟨cb, 0, none⟩), .agg #[.int .u8 (a0.toNat : Int), .int .u8 (a1.toNat : Int), .int .u8 (a2.toNat : Int), .int .u8 (a3.toNat : Int)], .agg #[.int .i64 6, .int .i64 4, .int .i64 5, .int .i64 3]] w
      fun e w' => e = .returned (.agg #[.int .u8 (x0.toNat : Int), .int .u8 (x1.toNat : Int), .int .u8 (x2.toNat : Int), .int .u8 (x3.toNat : Int)]) ∧ Below w.heap.size w w' := by
  have := times_any cb tb lo [a0, a1, a2, a3] [14, 11, 13, 9] (fun j => ([6, 4, 5, 3] : List Nat).getD j 0) w rfl h unmix_row
  rw [hx] at this
  exact this

set_option maxRecDepth 100000 in
set_option maxHeartbeats 1000000 in
theorem unmix_any (cb tb lo : Nat) (l : List UInt8) (w : World) (hl : l.length = 4) (h : TabC w cb tb lo) :
    Calls Try.prog 52 #[.pointer (some ⟨cb, 0, none⟩), AV l] w (RetA (colW [14, 11, 13, 9] l) w) := by
  obtain ⟨a0, a1, a2, a3, rfl⟩ := list4 l hl
  obtain ⟨x0, x1, x2, x3, hx⟩ := list4 (colW [14, 11, 13, 9] [a0, a1, a2, a3]) rfl
  rw [hx]
  have HX := Lib.hid hx
  obtain ⟨R, HR⟩ : ∃ R, Hid (R = AV [x0, x1, x2, x3]) := ⟨_, Lib.hid rfl⟩
  obtain ⟨G, HG⟩ : ∃ G, Hid (G = w.heap.size) := ⟨_, Lib.hid rfl⟩
  obtain ⟨W0, HW0⟩ : ∃ W0, Hid (W0 = (w.alloc (.cells #[.int .u8 (a0.toNat : Int), .int .u8 (a1.toNat : Int), .int .u8 (a2.toNat : Int), .int .u8 (a3.toNat : Int)] 47)).alloc (.cells #[.int .u8 0, .int .u8 0, .int .u8 0, .int .u8 0] 47)) := ⟨_, Lib.hid rfl⟩
  have HB0 : Hid (Below w.heap.size w W0) := Lib.hid (by rw [HW0.out]; exact (below_alloc w _).alloc (by simp) _)
  have HT : Hid (TabC W0 cb tb lo) := Lib.hid (h.below HB0.out)
  have HZ : Hid (Ar W0 (G + 1) 0 [0, 0, 0, 0]) := Lib.hid (by rw [HW0.out, HG.out]; exact Ar.new1 _ _ (by simp) [0, 0, 0, 0] _)
  clear hl hx h
  show Calls _ _ #[_, .agg #[.int .u8 (a0.toNat : Int), .int .u8 (a1.toNat : Int), .int .u8 (a2.toNat : Int), .int .u8 (a3.toNat : Int)]] _ _
  unfold RetA
  rw [← HR.out]
  go_enter Try.func52, Try.ntmps52
  go_wp2_with fail
  rw [← HW0.out, ← HG.out]
  refine (unmix_times cb tb lo a0 a1 a2 a3 x0 x1 x2 x3 _ (by exact HT.out) (by exact HX.out)).mono ?_
  rintro e w1 ⟨rfl, hb1⟩
  have hz1 := HZ.out.below hb1 (HZ.out.lt (by simp))
  obtain ⟨u0, u1, u2, u3⟩ := hz1.four0
  obtain ⟨s0, s1, s2, s3⟩ := hz1.fours0 rfl
  have HZ1 := Lib.hid hz1
  have HB1 := Lib.hid hb1
  clear hz1 hb1
  go_wp2_with fail
  refine bodyPost_ret (v := R) (by rw [HR.out]; exact res_cell rfl _ _ (G + 1) 4 _ [x0, x1, x2, x3] rfl (HZ1.out.whole [x0, x1, x2, x3] rfl) up_word sz_word) rfl ⟨rfl, ?_⟩
  exact below_setCells (HB0.out.trans (HB1.out.mono HB0.out.size)) (b := G + 1) (by rw [HG.out]; omega) 0 (bvs [x0, x1, x2, x3])

end Go.Proofs.Ytbpbpkmjkbndbaa
