/- aes's transform. Condition: the object of tables is as New, or an earlier call, left it. -/
import Derived.Test.YtbpbpkmjkbndbaaAesTimes
import Derived.Test.YtbpbpkmjkbndbaaAesKeyFn
namespace Go.Proofs.Ytbpbpkmjkbndbaa
open Go.RowKit
set_option linter.unusedVariables false

theorem turn0_lit (a0 a1 a2 a3 : UInt8) (r : Nat) : turn0 tableL [a0, a1, a2, a3] r = [subB a1 ^^^ powN 2 r, subB a2, subB a3, subB a0] := by
  unfold turn0 subsL
  simp only [List.getD_cons_zero, List.getD_cons_succ, List.map_cons, List.map_nil, tableL_at, List.set_cons_zero]
theorem weachS_at (lo b : Nat) (t : List UInt8) (d : Bool) (b0 b1 b2 b3 x0 x1 x2 x3 : UInt8) (w : World) (ht : 5 ≤ t.length) (h : Tab w lo b t d) (hx : List.map subB [b0, b1, b2, b3] = [x0, x1, x2, x3]) :
    Calls Try.prog 53 #[.agg #[.int .u8 (b0.toNat : Int), .int .u8 (b1.toNat : Int), .int .u8 (b2.toNat : Int), .int .u8 (b3.toNat : Int)], .func (.func 44) #[.pointer (some ⟨b, 0, none⟩)] #[]] w
      (UseAt (.agg #[.int .u8 (x0.toNat : Int), .int .u8 (x1.toNat : Int), .int .u8 (x2.toNat : Int), .int .u8 (x3.toNat : Int)]) lo b t d w) := by
  have := weachS lo b t [b0, b1, b2, b3] d w rfl ht h
  rw [hx] at this
  exact this

/-- A word's variable g, new since W0, holds l; the tables are filled; block b alone, of those that stood in W0, may be another. -/
structure T7 (b lo : Nat) (t : List UInt8) (d : Bool) (W0 W : World) (g : Nat) (l : List UInt8) : Prop where
  ar : Ar W g 0 l
  but : But b W0 W
  tab : Tab W lo b t true
  bel : d = true → Below W0.heap.size W0 W
  new : W0.heap.size ≤ g
  none4 : ¬ ∃ x : UInt8, W.cell? ⟨g, 4, none⟩ = some (bv x)
section
variable {b lo g : Nat} {t l : List UInt8} {d : Bool} {W0 W : World}
theorem T7.ne (h : T7 b lo t d W0 W g l) (hb : b < W0.heap.size) : g ≠ b := by have := h.new; omega
theorem T7.store (h : T7 b lo t d W0 W g l) (hb : b < W0.heap.size) (ht : 5 ≤ t.length) (m : List UInt8) (hm : m.length = l.length) (hl : l.length = 4) : T7 b lo t d W0 (W.setCells g 0 (bvs m)) g m where
  ar := h.ar.whole m hm
  but := by
    refine ⟨?_, ?_, ?_, ?_, fun k hk hkb => ?_⟩
    all_goals have := below_setCells (Below.refl g W) (Nat.le_refl g) 0 (bvs m)
    · exact this.os.trans h.but.os
    · exact this.tape.trans h.but.tape
    · exact this.output.trans h.but.output
    · exact Nat.le_trans h.but.size this.size
    · exact (heap_setCells g k (by have := h.new; omega) _ _ _).trans (h.but.block k hk hkb)
  tab := h.tab.apart ht h.none4 (h.ne hb) (fun q hq => heap_setCells g q hq _ _ _)
  bel := fun hd => below_setCells (h.bel hd) h.new _ _
  new := h.new
  none4 := by
    rw [World.cell?_setCells_out g (bvs m) 0 W ⟨g, 4, none⟩ (fun _ _ => by rw [bvs_length]; right; show 0 + m.length ≤ 4; omega)]
    exact h.none4
theorem T7.set (h : T7 b lo t d W0 W g l) (hb : b < W0.heap.size) (ht : 5 ≤ t.length) (k : Nat) (hk : k < l.length) (hl : l.length = 4) (x : UInt8) : T7 b lo t d W0 (W.setCell ⟨g, k, none⟩ (bv x)) g (l.set k x) where
  ar := by have := h.ar.set hk x; rw [Nat.zero_add] at this; exact this
  but := h.but.setCell (.inr h.new) _
  tab := h.tab.apart ht h.none4 (h.ne hb) (fun q hq => Below.heap_setCell W _ _ q hq)
  bel := fun hd => (h.bel hd).setCell h.new _
  new := h.new
  none4 := by
    rw [World.cell?_setCell_other _ _ _ _ (by intro e; injection e with _ e3; omega)]
    exact h.none4
/-- Worlds behind it that keep all that was there. -/
theorem T7.below {W' : World} (h : T7 b lo t d W0 W g l) (hb : Below W.heap.size W W') (hl : l.length = 4) : T7 b lo t d W0 W' g l where
  ar := h.ar.below hb (h.ar.lt (by omega))
  but := h.but.trans (But.of_below hb)
  tab := h.tab.below hb
  bel := fun hd => (h.bel hd).trans (hb.mono h.but.size)
  new := h.new
  none4 := by rw [hb.cell (p := ⟨g, 4, none⟩) (h.ar.lt (by omega))]; exact h.none4
theorem T7.fresh (hB : But b W0 W) (hT : Tab W lo b t true) (hP : d = true → Below W0.heap.size W0 W) (hl : l.length = 4) (T : TypeId) : T7 b lo t d W0 (W.alloc (.cells (bvs l).toArray T)) W.heap.size l where
  ar := Ar.new W l T
  but := hB.alloc _
  tab := hT.below (below_alloc W _)
  bel := fun hd => (hP hd).alloc hB.size _
  new := hB.size
  none4 := by rw [World.cell?_alloc_at _ _ _ _ rfl]; simp [bvs, hl]
theorem T7.after (hA : Ar W W0.heap.size 0 l) (hB : But b W0 W) (hT : Tab W lo b t true) (hP : d = true → Below W0.heap.size W0 W) (h4 : ¬ ∃ x : UInt8, W.cell? ⟨W0.heap.size, 4, none⟩ = some (bv x)) : T7 b lo t d W0 W W0.heap.size l := ⟨hA, hB, hT, hP, Nat.le_refl _, h4⟩
end

theorem zero_after {W w1 : World} {b : Nat} (hb : b < W.heap.size) (T : TypeId) (h : But b (W.alloc (.cells #[.int .u8 0, .int .u8 0, .int .u8 0, .int .u8 0] T)).drew w1) : Ar w1 W.heap.size 0 [0, 0, 0, 0] ∧ ¬ ∃ x : UInt8, w1.cell? ⟨W.heap.size, 4, none⟩ = some (bv x) := by
  have ha : Ar (W.alloc (.cells #[.int .u8 0, .int .u8 0, .int .u8 0, .int .u8 0] T)).drew W.heap.size 0 [0, 0, 0, 0] := (Ar.new W [0, 0, 0, 0] T).drew
  refine ⟨ha.block (h.block _ (by simp) (by omega)), ?_⟩
  rw [h.cell (p := ⟨W.heap.size, 4, none⟩) (by simp) (by show W.heap.size ≠ b; omega), World.cell?_drew, World.cell?_alloc_at _ _ _ _ rfl]
  simp
set_option maxRecDepth 100000 in
set_option maxHeartbeats 4000000 in
theorem turn_any (cb lo b : Nat) (t l : List UInt8) (d : Bool) (n : Nat) (w : World) (hl : l.length = 4) (ht : 5 ≤ t.length) (hn : 1 ≤ n ∧ n ≤ 10) (hcb : cb ≠ b) (hc : w.cell? ⟨cb, 0, none⟩ = some (.pointer (some ⟨b, 0, none⟩))) (h : Tab w lo b t d) :
    Calls Try.prog 39 #[.pointer (some ⟨cb, 0, none⟩), AV l, .int .i64 (n : Int)] w (UseAt (AV (turn0 tableL l (n - 1))) lo b t d w) := by
  obtain ⟨a0, a1, a2, a3, rfl⟩ := list4 l hl
  rw [turn0_lit]
  obtain ⟨s0, HS0⟩ : ∃ s, Hid (s = subB a1) := ⟨_, Lib.hid rfl⟩
  obtain ⟨s1, HS1⟩ : ∃ s, Hid (s = subB a2) := ⟨_, Lib.hid rfl⟩
  obtain ⟨s2, HS2⟩ : ∃ s, Hid (s = subB a3) := ⟨_, Lib.hid rfl⟩
  obtain ⟨s3, HS3⟩ : ∃ s, Hid (s = subB a0) := ⟨_, Lib.hid rfl⟩
  obtain ⟨r, HR⟩ : ∃ r : Nat, Hid (r = n - 1) := ⟨_, Lib.hid rfl⟩
  obtain ⟨z, HZ⟩ : ∃ z, Hid (z = powN 2 r) := ⟨_, Lib.hid rfl⟩
  obtain ⟨y, HY⟩ : ∃ y, Hid (y = s0 ^^^ z) := ⟨_, Lib.hid rfl⟩
  rw [← HS0.out, ← HS1.out, ← HS2.out, ← HS3.out, ← HR.out, ← HZ.out, ← HY.out]
  have HM : Hid (List.map subB [a1, a2, a3, a0] = [s0, s1, s2, s3]) := Lib.hid (by rw [HS0.out, HS1.out, HS2.out, HS3.out]; rfl)
  obtain ⟨R, HRR⟩ : ∃ R, Hid (R = AV [y, s1, s2, s3]) := ⟨_, Lib.hid rfl⟩
  rw [← HRR.out]
  have hcw := World.block_lt_of_cell? w _ hc
  have hbw := h.lt
  have HT5 := Lib.hid ht
  obtain ⟨G, HG⟩ : ∃ G, Hid (G = w.heap.size) := ⟨_, Lib.hid rfl⟩
  obtain ⟨W0, HW0⟩ : ∃ W0, Hid (W0 = (w.alloc (.cells #[.int .u8 (a0.toNat : Int), .int .u8 (a1.toNat : Int), .int .u8 (a2.toNat : Int), .int .u8 (a3.toNat : Int)] 47)).alloc (.cells #[.int .u8 0, .int .u8 0, .int .u8 0, .int .u8 0] 47)) := ⟨_, Lib.hid rfl⟩
  have hbel : Below w.heap.size w W0 := by rw [HW0.out]; exact (below_alloc w _).alloc (by simp) _
  have HBEL := Lib.hid hbel
  have HTB : Hid (Tab W0 lo b t d) := Lib.hid (h.below hbel)
  have ha0 : Ar W0 G 0 [a0, a1, a2, a3] := by
    rw [HW0.out, HG.out]; exact (Ar.new w [a0, a1, a2, a3] _).alloc (by simp) _
  have HA1 : Hid (Ar W0 (G + 1) 0 [0, 0, 0, 0]) := Lib.hid (by
    rw [HW0.out, HG.out]; exact Ar.new1 _ _ (by simp) [0, 0, 0, 0] _)
  have HNO1 : Hid (¬ ∃ x : UInt8, W0.cell? ⟨G + 1, 4, none⟩ = some (bv x)) := Lib.hid (by
    rw [HW0.out, HG.out, World.cell?_alloc_at _ _ _ _ (by simp)]
    simp)
  have HSZ : Hid (W0.heap.size = G + 2) := Lib.hid (by rw [HW0.out, HG.out]; simp)
  have cc : W0.cell? ⟨cb, 0, none⟩ = some (.pointer (some ⟨b, 0, none⟩)) := (hbel.cell (p := ⟨cb, 0, none⟩) hcw).trans hc
  obtain ⟨c0, c1, c2, c3⟩ := ha0.four0
  have HGB : Hid (b < G ∧ cb < G) := Lib.hid (by rw [HG.out]; exact ⟨hbw, hcw⟩)
  have HCB := Lib.hid hcb
  have KEEP : Hid (∀ W : World, But b W0 W → W.cell? ⟨cb, 0, none⟩ = some (.pointer (some ⟨b, 0, none⟩)) ∧ W.cell? ⟨G, 0, none⟩ = some (.int .u8 (a0.toNat : Int)) ∧ W.cell? ⟨G, 1, none⟩ = some (.int .u8 (a1.toNat : Int)) ∧ W.cell? ⟨G, 2, none⟩ = some (.int .u8 (a2.toNat : Int)) ∧ W.cell? ⟨G, 3, none⟩ = some (.int .u8 (a3.toNat : Int))) := Lib.hid (fun W hW => by
    have hg := HGB.out
    have hs := HSZ.out
    have q : ∀ j, W.cell? ⟨G, j, none⟩ = W0.cell? ⟨G, j, none⟩ := fun j => hW.cell (p := ⟨G, j, none⟩) (by show G < _; omega) (by show G ≠ b; omega)
    exact ⟨(hW.cell (p := ⟨cb, 0, none⟩) (by show cb < _; omega) HCB.out).trans cc, (q 0).trans c0, (q 1).trans c1, (q 2).trans c2, (q 3).trans c3⟩)
  clear hl ht hcb hc h hcw hbw hbel ha0
  unfold UseAt
  show Calls _ _ #[_, .agg #[.int .u8 (a0.toNat : Int), .int .u8 (a1.toNat : Int), .int .u8 (a2.toNat : Int), .int .u8 (a3.toNat : Int)], _] _ _
  go_enter Try.func39, Try.ntmps39
  go_wp2_with fail
  rw [← HW0.out, ← HG.out]
  have HBW0 : Hid (b < W0.heap.size) := Lib.hid (by have := HGB.out; have := HSZ.out; omega)
  have n0 : W0.heap.size ≠ cb := World.new_ne W0 ⟨cb, 0, none⟩ cc
  have n1 : W0.heap.size ≠ G := World.new_ne W0 ⟨G, 0, none⟩ c0
  go_region_held3 (fun w' => w'.cell? ⟨cb, 0, none⟩ = some (.pointer (some ⟨b, 0, none⟩)) ∧ w'.cell? ⟨G, 0, none⟩ = some (.int .u8 (a0.toNat : Int)) ∧ w'.cell? ⟨G, 1, none⟩ = some (.int .u8 (a1.toNat : Int)) ∧ w'.cell? ⟨G, 2, none⟩ = some (.int .u8 (a2.toNat : Int)) ∧ w'.cell? ⟨G, 3, none⟩ = some (.int .u8 (a3.toNat : Int))) (go_keep) (first
    | (go_at_call 53; refine (weachS_at lo b t d a1 a2 a3 a0 s0 s1 s2 s3 _ (by exact HT5.out) (by exact HTB.out) (by exact HM.out)).mono ?_; rintro e w1 ⟨rfl, hb1, ht1, hp1⟩; have HB1 : Hid (But b W0 w1) := Lib.hid ((But.refl b W0).drew.trans hb1); have HT1 := Lib.hid ht1; have HP1 : Hid (d = true → Below W0.heap.size W0 w1) := Lib.hid (fun hd => (Below.refl _ W0).drew.trans (hp1 hd)); clear hb1 ht1 hp1; obtain ⟨k0, k1, k2, k3, k4⟩ := KEEP.out w1 HB1.out)
    | (go_at_call 53; refine (weachS_at lo b t d a1 a2 a3 a0 s0 s1 s2 s3 _ (by exact HT5.out) (by exact HTB.out.below (below_alloc W0 _).drew) (by exact HM.out)).mono ?_; rintro e w1 ⟨rfl, hb1, ht1, hp1⟩; have HZ1 : Hid (Ar w1 W0.heap.size 0 [0, 0, 0, 0] ∧ ¬ ∃ x : UInt8, w1.cell? ⟨W0.heap.size, 4, none⟩ = some (bv x)) := Lib.hid (zero_after HBW0.out _ hb1); have HB1 : Hid (But b W0 w1) := Lib.hid (((But.refl b W0).alloc _).drew.trans hb1); have HT1 := Lib.hid ht1; have HP1 : Hid (d = true → Below W0.heap.size W0 w1) := Lib.hid (fun hd => (below_alloc W0 _).drew.trans ((hp1 hd).mono (by simp))); clear hb1 ht1 hp1; obtain ⟨k0, k1, k2, k3, k4⟩ := KEEP.out w1 HB1.out; obtain ⟨u0, u1, u2, u3⟩ := HZ1.out.1.four0; obtain ⟨f0, f1, f2, f3⟩ := HZ1.out.1.fours0 rfl))
  all_goals
    obtain ⟨WX, g7, HWX, Hg7, HF⟩ : ∃ WX g7, Hid (WX = w1.alloc (.cells #[.int .u8 (s0.toNat : Int), .int .u8 (s1.toNat : Int), .int .u8 (s2.toNat : Int), .int .u8 (s3.toNat : Int)] 47)) ∧ Hid (g7 = w1.heap.size) ∧ Hid (T7 b lo t d W0 WX g7 [s0, s1, s2, s3]) := ⟨_, _, Lib.hid rfl, Lib.hid rfl, Lib.hid (T7.fresh (l := [s0, s1, s2, s3]) HB1.out HT1.out HP1.out rfl 47)⟩
    first
      | (rw [← HWX.out, ← Hg7.out]; clear HWX Hg7)
      | (clear HWX Hg7 HF
         obtain ⟨WX, g7, HWX, Hg7, HF⟩ : ∃ WX g7, Hid (WX = (((w1.setCell ⟨W0.heap.size, 0, none⟩ (.int .u8 (s0.toNat : Int))).setCell ⟨W0.heap.size, 1, none⟩ (.int .u8 (s1.toNat : Int))).setCell ⟨W0.heap.size, 2, none⟩ (.int .u8 (s2.toNat : Int))).setCell ⟨W0.heap.size, 3, none⟩ (.int .u8 (s3.toNat : Int))) ∧ Hid (g7 = W0.heap.size) ∧ Hid (T7 b lo t d W0 WX g7 [s0, s1, s2, s3]) :=
           ⟨_, _, Lib.hid rfl, Lib.hid rfl, Lib.hid ((T7.after HZ1.out.1 HB1.out HT1.out HP1.out HZ1.out.2).store HBW0.out HT5.out [s0, s1, s2, s3] rfl rfl)⟩
         rw [← HWX.out, ← Hg7.out]
         clear HWX Hg7 HZ1 u0 u1 u2 u3 f0 f1 f2 f3)
    clear HB1 HT1 HP1 k0 k1 k2 k3 k4
  all_goals
    have HWZ : Hid (IntKind.u64.wrap (IntKind.i64.wrap ((n : Int) - 1)) = (r : Int)) := Lib.hid (by
      rw [IntWalk.i64_in _ (by omega), IntKind.wrap_u64, HR.out]
      omega)
    have cg := HF.out.ar.four0.1
    have fg := (HF.out.ar.fours0 rfl).1
    have hgw := HF.out.ar.lt (by simp)
    have hxi := byte_lt s0
    have hzi := byte_lt z
    go_wp2_with fail
    go_region_with (first
      | (go_at_call 55; rw [HWZ.out]; refine (pow_lit 2 (r : Int) (z.toNat : Int) 2 r rfl rfl (by have := HR.out; omega) (by rw [HZ.out]) _).mono ?_; rintro e w3 ⟨rfl, rfl⟩)
      | (go_at_call 54; refine (sum_lit (y.toNat : Int) _ 2 2 _ [s0, z] _ (by exact RB.lit _ [s0, z] _ 2 _ rfl rfl rfl) (by omega) (by rw [HY.out]; simp [sumL])).mono ?_; rintro e w3 ⟨rfl, rfl⟩))
  all_goals
    obtain ⟨WY, HWY, HFY⟩ : ∃ WY, Hid (WY = ((WX.setCell ⟨g7, 0, none⟩ (.int .u8 (y.toNat : Int))).alloc (.cells #[.int .u8 (s0.toNat : Int), .int .u8 (z.toNat : Int)] 5)).drew) ∧ Hid (T7 b lo t d W0 WY g7 [y, s1, s2, s3]) :=
      ⟨_, Lib.hid rfl, Lib.hid ((HF.out.set HBW0.out HT5.out 0 (by simp) rfl y).below ((below_alloc _ _).drew) rfl)⟩
    rw [← HWY.out]
    have hG1 : G + 1 < W0.heap.size := by rw [HSZ.out]; omega
    have HRS : Hid (T7 b lo t d w WY (G + 1) [0, 0, 0, 0]) := Lib.hid
      ⟨HA1.out.block (HFY.out.but.block (G + 1) hG1 (by have := HGB.out; omega)), (But.of_below HBEL.out).trans HFY.out.but, HFY.out.tab, fun hd => HBEL.out.trans ((HFY.out.bel hd).mono HBEL.out.size), by rw [HG.out]; omega, by
        rw [HFY.out.but.cell (p := ⟨G + 1, 4, none⟩) hG1 (by have := HGB.out; show G + 1 ≠ b; omega)]; exact HNO1.out⟩
    obtain ⟨m0, m1, m2, m3⟩ := HFY.out.ar.four0
    obtain ⟨u0, u1, u2, u3⟩ := HRS.out.ar.four0
    obtain ⟨f0, f1, f2, f3⟩ := HRS.out.ar.fours0 rfl
    clear cg fg hgw hxi hzi
    go_wp2_with fail
    have HE := HRS.out.store (by have := HGB.out; have := HG.out; omega) HT5.out [y, s1, s2, s3] rfl rfl
    exact bodyPost_ret (v := R) (by rw [HRR.out]; exact res_cell rfl _ _ (G + 1) 4 _ [y, s1, s2, s3] rfl HE.ar up_word sz_word) rfl ⟨rfl, HE.but, HE.tab, HE.bel⟩
end Go.Proofs.Ytbpbpkmjkbndbaa
