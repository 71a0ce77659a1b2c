/- aes's transform. Condition: the object of tables is as New, or an earlier call, left it. -/
import Derived.Test.YtmpidjadpcpbfaaGreatAesSqs
import Derived.Test.YtmpidjadpcpbfaaGreatRefAesAll
import Derived.Test.YtmpidjadpcpbfaaGreatArr
namespace Go.Proofs.YtmpidjadpcpbfaaGreat
open Go.RowKit
set_option linter.unusedVariables false

theorem turn0_lit (a0 a1 a2 a3 : UInt8) (r : Nat) : turn0 tableL [a0, a1, a2, a3] r = [subB a1 ^^^ powN 2 r, subB a2, subB a3, subB a0] := by
  unfold turn0 subsL
  simp only [List.getD_cons_zero, List.getD_cons_succ, List.map_cons, List.map_nil, tableL_at, List.set_cons_zero]
theorem weachS_at (lo b : Nat) (t : List UInt8) (d : Bool) (b0 b1 b2 b3 x0 x1 x2 x3 : UInt8) (w : World) (ht : 5 ≤ t.length) (h : Tab w lo b t d) (hx : List.map subB [b0, b1, b2, b3] = [x0, x1, x2, x3]) :
    Calls Tryz.prog 86 #[.agg #[.int .u8 (b0.toNat : Int), .int .u8 (b1.toNat : Int), .int .u8 (b2.toNat : Int), .int .u8 (b3.toNat : Int)], .func (.func 64) #[.pointer (some ⟨b, 0, none⟩)] #[]] w
      (UseAt (.agg #[.int .u8 (x0.toNat : Int), .int .u8 (x1.toNat : Int), .int .u8 (x2.toNat : Int), .int .u8 (x3.toNat : Int)]) lo b t d w) := by
  have := weachS lo b t [b0, b1, b2, b3] d w rfl ht h
  rw [hx] at this
  exact this

/-- A word's variable g, new since W0, holds l; the tables are filled; block b alone, of those that stood in W0, may be another. -/
structure T7 (b lo : Nat) (t : List UInt8) (d : Bool) (W0 W : World) (g : Nat) (l : List UInt8) : Prop where
  ar : Ar W g 0 l
  but : But b W0 W
  tab : Tab W lo b t true
  bel : d = true → Below W0.heap.size W0 W
  new : W0.heap.size ≤ g
  none4 : ¬ ∃ x : UInt8, W.cell? ⟨g, 4, none⟩ = some (bv x)
section
variable {b lo g : Nat} {t l : List UInt8} {d : Bool} {W0 W : World}
theorem T7.ne (h : T7 b lo t d W0 W g l) (hb : b < W0.heap.size) : g ≠ b := by have := h.new; omega
theorem T7.store (h : T7 b lo t d W0 W g l) (hb : b < W0.heap.size) (ht : 5 ≤ t.length) (m : List UInt8) (hm : m.length = l.length) (hl : l.length = 4) : T7 b lo t d W0 (W.setCells g 0 (bvs m)) g m where
  ar := h.ar.whole m hm
  but := by
    refine ⟨?_, ?_, ?_, ?_, fun k hk hkb => ?_⟩
    all_goals have := below_setCells (Below.refl g W) (Nat.le_refl g) 0 (bvs m)
    · exact this.os.trans h.but.os
    · exact this.tape.trans h.but.tape
    · exact this.output.trans h.but.output
    · exact Nat.le_trans h.but.size this.size
    · exact (heap_setCells g k (by have := h.new; omega) _ _ _).trans (h.but.block k hk hkb)
  tab := h.tab.apart ht h.none4 (h.ne hb) (fun q hq => heap_setCells g q hq _ _ _)
  bel := fun hd => below_setCells (h.bel hd) h.new _ _
  new := h.new
  none4 := by
    rw [World.cell?_setCells_out g (bvs m) 0 W ⟨g, 4, none⟩ (fun _ _ => by rw [bvs_length]; right; show 0 + m.length ≤ 4; omega)]
    exact h.none4
theorem T7.set (h : T7 b lo t d W0 W g l) (hb : b < W0.heap.size) (ht : 5 ≤ t.length) (k : Nat) (hk : k < l.length) (hl : l.length = 4) (x : UInt8) : T7 b lo t d W0 (W.setCell ⟨g, k, none⟩ (bv x)) g (l.set k x) where
  ar := by have := h.ar.set hk x; rw [Nat.zero_add] at this; exact this
  but := h.but.setCell (.inr h.new) _
  tab := h.tab.apart ht h.none4 (h.ne hb) (fun q hq => Below.heap_setCell W _ _ q hq)
  bel := fun hd => (h.bel hd).setCell h.new _
  new := h.new
  none4 := by
    rw [World.cell?_setCell_other _ _ _ _ (by intro e; injection e with _ e3; omega)]
    exact h.none4
/-- Worlds behind it that keep all that was there. -/
theorem T7.below {W' : World} (h : T7 b lo t d W0 W g l) (hb : Below W.heap.size W W') (hl : l.length = 4) : T7 b lo t d W0 W' g l where
  ar := h.ar.below hb (h.ar.lt (by omega))
  but := h.but.trans (But.of_below hb)
  tab := h.tab.below hb
  bel := fun hd => (h.bel hd).trans (hb.mono h.but.size)
  new := h.new
  none4 := by rw [hb.cell (p := ⟨g, 4, none⟩) (h.ar.lt (by omega))]; exact h.none4
theorem T7.fresh (hB : But b W0 W) (hT : Tab W lo b t true) (hP : d = true → Below W0.heap.size W0 W) (hl : l.length = 4) (T : TypeId) : T7 b lo t d W0 (W.alloc (.cells (bvs l).toArray T)) W.heap.size l where
  ar := Ar.new W l T
  but := hB.alloc _
  tab := hT.below (below_alloc W _)
  bel := fun hd => (hP hd).alloc hB.size _
  new := hB.size
  none4 := by rw [World.cell?_alloc_at _ _ _ _ rfl]; simp [bvs, hl]
theorem T7.after (hA : Ar W W0.heap.size 0 l) (hB : But b W0 W) (hT : Tab W lo b t true) (hP : d = true → Below W0.heap.size W0 W) (h4 : ¬ ∃ x : UInt8, W.cell? ⟨W0.heap.size, 4, none⟩ = some (bv x)) : T7 b lo t d W0 W W0.heap.size l := ⟨hA, hB, hT, hP, Nat.le_refl _, h4⟩
end

theorem zero_after {W w1 : World} {b : Nat} (hb : b < W.heap.size) (T : TypeId) (h : But b (W.alloc (.cells #[.int .u8 0, .int .u8 0, .int .u8 0, .int .u8 0] T)).drew w1) : Ar w1 W.heap.size 0 [0, 0, 0, 0] ∧ ¬ ∃ x : UInt8, w1.cell? ⟨W.heap.size, 4, none⟩ = some (bv x) := by
  have ha : Ar (W.alloc (.cells #[.int .u8 0, .int .u8 0, .int .u8 0, .int .u8 0] T)).drew W.heap.size 0 [0, 0, 0, 0] := (Ar.new W [0, 0, 0, 0] T).drew
  refine ⟨ha.block (h.block _ (by simp) (by omega)), ?_⟩
  rw [h.cell (p := ⟨W.heap.size, 4, none⟩) (by simp) (by show W.heap.size ≠ b; omega), World.cell?_drew, World.cell?_alloc_at _ _ _ _ rfl]
  simp
set_option maxRecDepth 100000 in
set_option maxHeartbeats 4000000 in
theorem turn_any (cb lo b : Nat) (t l : List UInt8) (d : Bool) (n : Nat) (w : World) (hl : l.length = 4) (ht : 5 ≤ t.length) (hn : 1 ≤ n ∧ n ≤ 10) (hcb : cb ≠ b) (hc : w.cell? ⟨cb, 0, none⟩ = some (.pointer (some ⟨b, 0, none⟩))) (h : Tab w lo b t d) :
    Calls Tryz.prog 59 #[.pointer (some ⟨cb, 0, none⟩), AV l, .int .i64 (n : Int)] w (UseAt (AV (turn0 tableL l (n - 1))) lo b t d w) := by
  obtain ⟨a0, a1, a2, a3, rfl⟩ := list4 l hl
  rw [turn0_lit]
  obtain ⟨s0, HS0⟩ : ∃ s, Hid (s = subB a1) := ⟨_, Lib.hid rfl⟩
  obtain ⟨s1, HS1⟩ : ∃ s, Hid (s = subB a2) := ⟨_, Lib.hid rfl⟩
  obtain ⟨s2, HS2⟩ : ∃ s, Hid (s = subB a3) := ⟨_, Lib.hid rfl⟩
  obtain ⟨s3, HS3⟩ : ∃ s, Hid (s = subB a0) := ⟨_, Lib.hid rfl⟩
  obtain ⟨r, HR⟩ : ∃ r : Nat, Hid (r = n - 1) := ⟨_, Lib.hid rfl⟩
  obtain ⟨z, HZ⟩ : ∃ z, Hid (z = powN 2 r) := ⟨_, Lib.hid rfl⟩
  obtain ⟨y, HY⟩ : ∃ y, Hid (y = s0 ^^^ z) := ⟨_, Lib.hid rfl⟩
  rw [← HS0.out, ← HS1.out, ← HS2.out, ← HS3.out, ← HR.out, ← HZ.out, ← HY.out]
  have HM : Hid (List.map subB [a1, a2, a3, a0] = [s0, s1, s2, s3]) := Lib.hid (by rw [HS0.out, HS1.out, HS2.out, HS3.out]; rfl)
  obtain ⟨R, HRR⟩ : ∃ R, Hid (R = AV [y, s1, s2, s3]) := ⟨_, Lib.hid rfl⟩
  rw [← HRR.out]
  have hcw := World.block_lt_of_cell? w _ hc
  have hbw := h.lt
  have HT5 := Lib.hid ht
  obtain ⟨G, HG⟩ : ∃ G, Hid (G = w.heap.size) := ⟨_, Lib.hid rfl⟩
  obtain ⟨W0, HW0⟩ : ∃ W0, Hid (W0 = (w.alloc (.cells #[.int .u8 (a0.toNat : Int), .int .u8 (a1.toNat : Int), .int .u8 (a2.toNat : Int), .int .u8 (a3.toNat : Int)] 64)).alloc (.cells #[.int .u8 0, .int .u8 0, .int .u8 0, .int .u8 0] 64)) := ⟨_, Lib.hid rfl⟩
  have hbel : Below w.heap.size w W0 := by rw [HW0.out]; exact (below_alloc w _).alloc (by simp) _
  have HBEL := Lib.hid hbel
  have HTB : Hid (Tab W0 lo b t d) := Lib.hid (h.below hbel)
  have ha0 : Ar W0 G 0 [a0, a1, a2, a3] := by
    rw [HW0.out, HG.out]; exact (Ar.new w [a0, a1, a2, a3] _).alloc (by simp) _
  have HA1 : Hid (Ar W0 (G + 1) 0 [0, 0, 0, 0]) := Lib.hid (by
    rw [HW0.out, HG.out]; exact Ar.new1 _ _ (by simp) [0, 0, 0, 0] _)
  have HNO1 : Hid (¬ ∃ x : UInt8, W0.cell? ⟨G + 1, 4, none⟩ = some (bv x)) := Lib.hid (by
    rw [HW0.out, HG.out, World.cell?_alloc_at _ _ _ _ (by simp)]
    simp)
  have HSZ : Hid (W0.heap.size = G + 2) := Lib.hid (by rw [HW0.out, HG.out]; simp)
  have cc : W0.cell? ⟨cb, 0, none⟩ = some (.pointer (some ⟨b, 0, none⟩)) := (hbel.cell (p := ⟨cb, 0, none⟩) hcw).trans hc
  obtain ⟨c0, c1, c2, c3⟩ := ha0.four0
  have HGB : Hid (b < G ∧ cb < G) := Lib.hid (by rw [HG.out]; exact ⟨hbw, hcw⟩)
  have HCB := Lib.hid hcb
  have KEEP : Hid (∀ W : World, But b W0 W → W.cell? ⟨cb, 0, none⟩ = some (.pointer (some ⟨b, 0, none⟩)) ∧ W.cell? ⟨G, 0, none⟩ = some (.int .u8 (a0.toNat : Int)) ∧ W.cell? ⟨G, 1, none⟩ = some (.int .u8 (a1.toNat : Int)) ∧ W.cell? ⟨G, 2, none⟩ = some (.int .u8 (a2.toNat : Int)) ∧ W.cell? ⟨G, 3, none⟩ = some (.int .u8 (a3.toNat : Int))) := Lib.hid (fun W hW => by
    have hg := HGB.out
    have hs := HSZ.out
    have q : ∀ j, W.cell? ⟨G, j, none⟩ = W0.cell? ⟨G, j, none⟩ := fun j => hW.cell (p := ⟨G, j, none⟩) (by show G < _; omega) (by show G ≠ b; omega)
    exact ⟨(hW.cell (p := ⟨cb, 0, none⟩) (by show cb < _; omega) HCB.out).trans cc, (q 0).trans c0, (q 1).trans c1, (q 2).trans c2, (q 3).trans c3⟩)
  clear hl ht hcb hc h hcw hbw hbel ha0
  unfold UseAt
  show Calls _ _ #[_, .agg #[.int .u8 (a0.toNat : Int), .int .u8 (a1.toNat : Int), .int .u8 (a2.toNat : Int), .int .u8 (a3.toNat : Int)], _] _ _
  go_enter Tryz.func59, Tryz.ntmps59
  go_wp2_with fail
  rw [← HW0.out, ← HG.out]
  have HBW0 : Hid (b < W0.heap.size) := Lib.hid (by have := HGB.out; have := HSZ.out; omega)
  have n0 : W0.heap.size ≠ cb := World.new_ne W0 ⟨cb, 0, none⟩ cc
  have n1 : W0.heap.size ≠ G := World.new_ne W0 ⟨G, 0, none⟩ c0
  go_region_held3 (fun w' => w'.cell? ⟨cb, 0, none⟩ = some (.pointer (some ⟨b, 0, none⟩)) ∧ w'.cell? ⟨G, 0, none⟩ = some (.int .u8 (a0.toNat : Int)) ∧ w'.cell? ⟨G, 1, none⟩ = some (.int .u8 (a1.toNat : Int)) ∧ w'.cell? ⟨G, 2, none⟩ = some (.int .u8 (a2.toNat : Int)) ∧ w'.cell? ⟨G, 3, none⟩ = some (.int .u8 (a3.toNat : Int))) (go_keep) (first
    | (go_at_call 86; refine (weachS_at lo b t d a1 a2 a3 a0 s0 s1 s2 s3 _ (by exact HT5.out) (by exact HTB.out) (by exact HM.out)).mono ?_; rintro e w1 ⟨rfl, hb1, ht1, hp1⟩; have HB1 : Hid (But b W0 w1) := Lib.hid ((But.refl b W0).drew.trans hb1); have HT1 := Lib.hid ht1; have HP1 : Hid (d = true → Below W0.heap.size W0 w1) := Lib.hid (fun hd => (Below.refl _ W0).drew.trans (hp1 hd)); clear hb1 ht1 hp1; obtain ⟨k0, k1, k2, k3, k4⟩ := KEEP.out w1 HB1.out)
    | (go_at_call 86; refine (weachS_at lo b t d a1 a2 a3 a0 s0 s1 s2 s3 _ (by exact HT5.out) (by exact HTB.out.below (below_alloc W0 _).drew) (by exact HM.out)).mono ?_; rintro e w1 ⟨rfl, hb1, ht1, hp1⟩; have HZ1 : Hid (Ar w1 W0.heap.size 0 [0, 0, 0, 0] ∧ ¬ ∃ x : UInt8, w1.cell? ⟨W0.heap.size, 4, none⟩ = some (bv x)) := Lib.hid (zero_after HBW0.out _ hb1); have HB1 : Hid (But b W0 w1) := Lib.hid (((But.refl b W0).alloc _).drew.trans hb1); have HT1 := Lib.hid ht1; have HP1 : Hid (d = true → Below W0.heap.size W0 w1) := Lib.hid (fun hd => (below_alloc W0 _).drew.trans ((hp1 hd).mono (by simp))); clear hb1 ht1 hp1; obtain ⟨k0, k1, k2, k3, k4⟩ := KEEP.out w1 HB1.out; obtain ⟨u0, u1, u2, u3⟩ := HZ1.out.1.four0; obtain ⟨f0, f1, f2, f3⟩ := HZ1.out.1.fours0 rfl))
  all_goals
    obtain ⟨WX, g7, HWX, Hg7, HF⟩ : ∃ WX g7, Hid (WX = w1.alloc (.cells #[.int .u8 (s0.toNat : Int), .int .u8 (s1.toNat : Int), .int .u8 (s2.toNat : Int), .int .u8 (s3.toNat : Int)] 64)) ∧ Hid (g7 = w1.heap.size) ∧ Hid (T7 b lo t d W0 WX g7 [s0, s1, s2, s3]) := ⟨_, _, Lib.hid rfl, Lib.hid rfl, Lib.hid (T7.fresh (l := [s0, s1, s2, s3]) HB1.out HT1.out HP1.out rfl 64)⟩
    first
      | (rw [← HWX.out, ← Hg7.out]; clear HWX Hg7)
      | (clear HWX Hg7 HF
         obtain ⟨WX, g7, HWX, Hg7, HF⟩ : ∃ WX g7, Hid (WX = (((w1.setCell ⟨W0.heap.size, 0, none⟩ (.int .u8 (s0.toNat : Int))).setCell ⟨W0.heap.size, 1, none⟩ (.int .u8 (s1.toNat : Int))).setCell ⟨W0.heap.size, 2, none⟩ (.int .u8 (s2.toNat : Int))).setCell ⟨W0.heap.size, 3, none⟩ (.int .u8 (s3.toNat : Int))) ∧ Hid (g7 = W0.heap.size) ∧ Hid (T7 b lo t d W0 WX g7 [s0, s1, s2, s3]) :=
           ⟨_, _, Lib.hid rfl, Lib.hid rfl, Lib.hid ((T7.after HZ1.out.1 HB1.out HT1.out HP1.out HZ1.out.2).store HBW0.out HT5.out [s0, s1, s2, s3] rfl rfl)⟩
         rw [← HWX.out, ← Hg7.out]
         clear HWX Hg7 HZ1 u0 u1 u2 u3 f0 f1 f2 f3)
    clear HB1 HT1 HP1 k0 k1 k2 k3 k4
  all_goals
    have HWZ : Hid (IntKind.u64.wrap (IntKind.i64.wrap ((n : Int) - 1)) = (r : Int)) := Lib.hid (by
      rw [IntWalk.i64_in _ (by omega), IntKind.wrap_u64, HR.out]
      omega)
    have cg := HF.out.ar.four0.1
    have fg := (HF.out.ar.fours0 rfl).1
    have hgw := HF.out.ar.lt (by simp)
    have hxi := byte_lt s0
    have hzi := byte_lt z
    go_wp2_with fail
    go_region_with (first
      | (go_at_call 88; rw [HWZ.out]; refine (pow_lit 2 (r : Int) (z.toNat : Int) 2 r rfl rfl (by have := HR.out; omega) (by rw [HZ.out]) _).mono ?_; rintro e w3 ⟨rfl, rfl⟩)
      | (go_at_call 87; refine (sum_lit (y.toNat : Int) _ 2 2 _ [s0, z] _ (by exact RB.lit _ [s0, z] _ 2 _ rfl rfl rfl) (by omega) (by rw [HY.out]; simp [sumL])).mono ?_; rintro e w3 ⟨rfl, rfl⟩))
  all_goals
    obtain ⟨WY, HWY, HFY⟩ : ∃ WY, Hid (WY = ((WX.setCell ⟨g7, 0, none⟩ (.int .u8 (y.toNat : Int))).alloc (.cells #[.int .u8 (s0.toNat : Int), .int .u8 (z.toNat : Int)] 5)).drew) ∧ Hid (T7 b lo t d W0 WY g7 [y, s1, s2, s3]) :=
      ⟨_, Lib.hid rfl, Lib.hid ((HF.out.set HBW0.out HT5.out 0 (by simp) rfl y).below ((below_alloc _ _).drew) rfl)⟩
    rw [← HWY.out]
    have hG1 : G + 1 < W0.heap.size := by rw [HSZ.out]; omega
    have HRS : Hid (T7 b lo t d w WY (G + 1) [0, 0, 0, 0]) := Lib.hid
      ⟨HA1.out.block (HFY.out.but.block (G + 1) hG1 (by have := HGB.out; omega)), (But.of_below HBEL.out).trans HFY.out.but, HFY.out.tab, fun hd => HBEL.out.trans ((HFY.out.bel hd).mono HBEL.out.size), by rw [HG.out]; omega, by
        rw [HFY.out.but.cell (p := ⟨G + 1, 4, none⟩) hG1 (by have := HGB.out; show G + 1 ≠ b; omega)]; exact HNO1.out⟩
    obtain ⟨m0, m1, m2, m3⟩ := HFY.out.ar.four0
    obtain ⟨u0, u1, u2, u3⟩ := HRS.out.ar.four0
    obtain ⟨f0, f1, f2, f3⟩ := HRS.out.ar.fours0 rfl
    clear cg fg hgw hxi hzi
    go_wp2_with fail
    have HE := HRS.out.store (by have := HGB.out; have := HG.out; omega) HT5.out [y, s1, s2, s3] rfl rfl
    exact bodyPost_ret (v := R) (by rw [HRR.out]; exact res_cell rfl _ _ (G + 1) 4 _ [y, s1, s2, s3] rfl HE.ar up_word sz_word) rfl ⟨rfl, HE.but, HE.tab, HE.bel⟩
end Go.Proofs.YtmpidjadpcpbfaaGreat

/- AES-128's words of round keys, one behind the other. No conditions; nothing is claimed of the program here. -/
namespace Go.Proofs.YtmpidjadpcpbfaaGreat
set_option linter.unusedVariables false

theorem xorL_comm (a b : List UInt8) : xorL a b = xorL b a := by
  unfold xorL
  rw [List.zipWith_comm]
  congr 1
  funext x y
  exact UInt8.xor_comm _ _
/-- Word j of the round keys. -/
def wsW (key t : List UInt8) (j : Nat) : List UInt8 := (wordsUp key t 40).getD j []
theorem wsW_len (key t : List UInt8) (hk : key.length = 16) (j : Nat) (hj : j < 44) : (wsW key t j).length = 4 := word_len key t hk j hj
theorem words_pre (key t : List UInt8) : ∀ (m k j : Nat), j < k + 4 → (wordsUp key t (k + m)).getD j [] = (wordsUp key t k).getD j []
  | 0, k, j, h => rfl
  | m + 1, k, j, h => by
    rw [show k + (m + 1) = (k + m) + 1 by omega, wordsUp_succ, List.getD_eq_getElem?_getD, List.getElem?_append_left (by rw [wordsUp_len]; omega), ← List.getD_eq_getElem?_getD]
    exact words_pre key t m k j h
theorem wsW_next (key t : List UInt8) (k : Nat) (hk : k < 40) : wsW key t (k + 4) = xorL (wsW key t k) (turnW t (wsW key t (k + 3)) (k + 4)) := by
  have h1 := words_pre key t (39 - k) (k + 1) (k + 4) (by omega)
  have h2 := words_pre key t (40 - k) k k (by omega)
  have h3 := words_pre key t (40 - k) k (k + 3) (by omega)
  rw [show k + 1 + (39 - k) = 40 by omega] at h1
  rw [show k + (40 - k) = 40 by omega] at h2 h3
  unfold wsW
  rw [h1, h2, h3, wordsUp_succ, List.getD_eq_getElem?_getD, List.getElem?_append_right (by rw [wordsUp_len]; omega), wordsUp_len]
  simp
/-- What is added to the first words of round n: the word ahead, transformed where it is the first. -/
def lastW (key t : List UInt8) (n i : Nat) : List UInt8 := if i = 0 then turn0 t (wsW key t (4 * n - 1)) (n - 1) else wsW key t (4 * n + i - 1)
theorem lastW_next (key t : List UInt8) (n i : Nat) (hn : 1 ≤ n ∧ n ≤ 10) (hi : i < 4) : xorL (lastW key t n i) (wsW key t (4 * (n - 1) + i)) = wsW key t (4 * n + i) ∧ lastW key t n (i + 1) = wsW key t (4 * n + i) := by
  refine ⟨?_, ?_⟩
  · have h := wsW_next key t (4 * (n - 1) + i) (by omega)
    rw [show 4 * (n - 1) + i + 4 = 4 * n + i by omega, show 4 * (n - 1) + i + 3 = 4 * n + i - 1 by omega] at h
    have e : lastW key t n i = turnW t (wsW key t (4 * n + i - 1)) (4 * n + i) := by
      unfold lastW turnW
      by_cases h0 : i = 0
      · rw [if_pos h0, if_pos (by omega), h0, show (4 * n + 0) / 4 - 1 = n - 1 by omega, show 4 * n + 0 - 1 = 4 * n - 1 by omega]
      · rw [if_neg h0, if_neg (by omega)]
    rw [h, e, xorL_comm]
  · unfold lastW
    rw [if_neg (by omega), show 4 * n + (i + 1) - 1 = 4 * n + i by omega]
/-- The first m words, noughts behind them. -/
def flatW (key t : List UInt8) : Nat → List UInt8 | 0 => [] | m + 1 => flatW key t m ++ wsW key t m
def keyUpTo (key t : List UInt8) (m : Nat) : List UInt8 := flatW key t m ++ List.replicate (176 - 4 * m) 0
theorem flatW_len (key t : List UInt8) (hk : key.length = 16) : ∀ m, m ≤ 44 → (flatW key t m).length = 4 * m
  | 0, _ => rfl
  | m + 1, h => by rw [flatW, List.length_append, flatW_len key t hk m (by omega), wsW_len key t hk m (by omega)]; omega
theorem keyUpTo_len (key t : List UInt8) (hk : key.length = 16) (m : Nat) (hm : m ≤ 44) : (keyUpTo key t m).length = 176 := by
  unfold keyUpTo
  rw [List.length_append, flatW_len key t hk m hm, List.length_replicate]; omega
theorem keyUpTo_lay (key t : List UInt8) (hk : key.length = 16) (m : Nat) (hm : m < 44) : layL (keyUpTo key t m) (4 * m) (wsW key t m) = keyUpTo key t (m + 1) := by
  have hl := flatW_len key t hk m (by omega)
  unfold layL keyUpTo
  rw [wsW_len key t hk m hm, List.take_left' hl, List.drop_append, hl, List.drop_eq_nil_of_le (by omega), List.nil_append, List.drop_replicate, flatW, List.append_assoc]
  congr 3; omega
theorem flatW_cut (key t : List UInt8) (hk : key.length = 16) (j : Nat) : ∀ m, m ≤ 44 → j < m → cutL (flatW key t m) (4 * j) 4 = wsW key t j
  | 0, _, h => by omega
  | m + 1, hm, h => by
    have hl := flatW_len key t hk m (by omega)
    unfold cutL
    rw [flatW]
    by_cases e : j = m
    · subst e
      rw [List.drop_left' hl, List.take_of_length_le (by rw [wsW_len key t hk j (by omega)]; omega)]
    · have ih := flatW_cut key t hk j m (by omega) (by omega)
      unfold cutL at ih
      rw [List.drop_append_of_le_length (by omega), List.take_append_of_le_length (by rw [List.length_drop]; omega), ih]
theorem keyUpTo_cut4 (key t : List UInt8) (hk : key.length = 16) (j m : Nat) (hm : m ≤ 44) (hj : j < m) : cutL (keyUpTo key t m) (4 * j) 4 = wsW key t j := by
  have hl := flatW_len key t hk m hm
  have ih := flatW_cut key t hk j m hm hj
  unfold cutL keyUpTo at *
  rw [List.drop_append_of_le_length (by omega), List.take_append_of_le_length (by rw [List.length_drop]; omega), ih]
theorem cutL_split (l : List UInt8) (i a b : Nat) (h : i + a ≤ l.length) : cutL l i (a + b) = cutL l i a ++ cutL l (i + a) b := by
  unfold cutL
  rw [List.take_add, List.drop_drop]
theorem keyUpTo_cut16 (key t : List UInt8) (hk : key.length = 16) (i m : Nat) (hm : m ≤ 44) (hi : 4 * i + 4 ≤ m) : cutL (keyUpTo key t m) (16 * i) 16 = keyF key t i := by
  have hl := keyUpTo_len key t hk m hm
  have e : ∀ j, j < m → cutL (keyUpTo key t m) (4 * j) 4 = wsW key t j := fun j hj => keyUpTo_cut4 key t hk j m hm hj
  rw [show 16 = 4 + (4 + (4 + 4)) from rfl, cutL_split _ _ 4 _ (by omega), cutL_split _ _ 4 _ (by omega), cutL_split _ _ 4 _ (by omega),
    show (4 + (4 + (4 + 4))) * i = 4 * (4 * i) by omega, show 4 * (4 * i) + 4 = 4 * (4 * i + 1) by omega, show 4 * (4 * i + 1) + 4 = 4 * (4 * i + 2) by omega, show 4 * (4 * i + 2) + 4 = 4 * (4 * i + 3) by omega,
    e _ (by omega), e _ (by omega), e _ (by omega), e _ (by omega)]
  unfold keyF wsW
  simp only [List.append_assoc]
theorem keyF_cut (key t : List UInt8) (hk : key.length = 16) (i j : Nat) (hi : i < 11) (hj : j < 4) : cutL (keyF key t i) (4 * j) 4 = wsW key t (4 * i + j) := by
  have h := keyUpTo_cut16 key t hk i 44 (by omega) (by omega)
  have hl := keyUpTo_len key t hk 44 (by omega)
  rw [← h]
  have h2 := keyUpTo_cut4 key t hk (4 * i + j) 44 (by omega) (by omega)
  rw [← h2]
  unfold cutL
  rw [List.drop_take, List.take_take, List.drop_drop, show min 4 (16 - 4 * j) = 4 by omega, show 16 * i + 4 * j = 4 * (4 * i + j) by omega]
/-- All round keys in a row. -/
def keysF (key t : List UInt8) : List UInt8 := keyUpTo key t 44
theorem keyUpTo_first (key t : List UInt8) (hk : key.length = 16) : layL (List.replicate 176 0) 0 key = keyUpTo key t 4 := by
  have w : ∀ j, j < 4 → wsW key t j = cutL key (4 * j) 4 := fun j hj => by
    have h := words_pre key t 40 0 j (by omega)
    unfold wsW
    rw [show 0 + 40 = 40 from rfl] at h
    rw [h]
    simp only [wordsUp, wordsInit, cutL, List.getD_eq_getElem?_getD]
    simp only [List.getElem?_map, List.getElem?_range hj, Option.map_some, Option.getD_some]
    rw [List.drop_take, show 4 * j + 4 - 4 * j = 4 by omega]
  unfold layL keyUpTo
  simp only [flatW, List.nil_append, w 0 (by omega), w 1 (by omega), w 2 (by omega), w 3 (by omega)]
  have hs : cutL key 0 16 = key := by unfold cutL; rw [List.drop_zero, List.take_of_length_le (by omega)]
  have h4 : cutL key (4 * 0) 4 ++ cutL key (4 * 1) 4 ++ cutL key (4 * 2) 4 ++ cutL key (4 * 3) 4 = key := by
    rw [show (16 : Nat) = 4 + (4 + (4 + 4)) from rfl, cutL_split _ _ 4 _ (by omega), cutL_split _ _ 4 _ (by omega), cutL_split _ _ 4 _ (by omega)] at hs
    simpa [List.append_assoc] using hs
  rw [h4, List.take_zero, List.nil_append, hk, List.drop_replicate]
end Go.Proofs.YtmpidjadpcpbfaaGreat

/- aes's cipher as an object in memory: its tables' address, its round keys, its count. No conditions; nothing is claimed of the program here. -/
namespace Go.Proofs.YtmpidjadpcpbfaaGreat
open Go.RowKit
set_option linter.unusedVariables false

/-- A block one of whose first five cells is no byte is none of those that an object of five bytes' tables, or more, leads to. -/
theorem Tab.apartJ {w w' : World} {lo b : Nat} {l : List UInt8} {d : Bool} (h : Tab w lo b l d) (hl : 5 ≤ l.length) {g : Nat} (j : Nat) (hj : j < 5) (hg : ¬ ∃ x : UInt8, w.cell? ⟨g, j, none⟩ = some (bv x)) (hb : g ≠ b) (ho : ∀ k, k < w.heap.size → k ≠ g → w'.heap[k]? = w.heap[k]?) : Tab w' lo b l d := by
  obtain ⟨f, hlo, hc, ⟨A, n, c, e0, hn, ⟨hll, hby⟩, htm⟩, h1, h2, h4, hd⟩ := h
  have keep : ∀ q m F, 0 < m → q ≠ g → Cells w q m F → Cells w' q m F := fun q m F hm hq hcl k hk => ⟨(World.cell?_of_block (ho q (hcl.lt hm) hq)).trans (hcl k hk).1, (World.frozen?_of_block (ho q (hcl.lt hm) hq)).trans (hcl k hk).2⟩
  refine ⟨f, hlo, keep b 773 f (by omega) (fun e => hb e.symm) hc, ⟨A, n, c, e0, hn, ⟨hll, fun hn0 => ?_⟩, fun y hy => ?_⟩, h1, h2, h4, hd⟩
  · obtain ⟨q, q1, q2, q3, q4⟩ := hby hn0
    refine ⟨q, q1, q2, q3, keep q n _ hn0 (fun e => hg ⟨l.getD j 0, ?_⟩) q4⟩
    have := q4.cell (show j < n by omega)
    rw [e] at this
    exact this
  · rcases htm y hy with h | ⟨p, p1, p2, p3, p4⟩
    · exact .inl h
    · refine .inr ⟨p, p1, p2, p3, keep p 256 _ (by omega) (fun e => hg ⟨mulB (UInt8.ofNat y) (UInt8.ofNat j), ?_⟩) p4⟩
      have := p4.cell (show j < 256 by omega)
      rw [e] at this
      rw [this]
      unfold prodAt
      rw [if_pos (by omega)]
/-- A cipher at block cb: its tables' block b, its keys' bytes l, its count's value v. -/
structure Cf (cb b : Nat) (v : Value) (W : World) (l : List UInt8) : Prop where
  ptr : W.cell? ⟨cb, 0, none⟩ = some (.pointer (some ⟨b, 0, none⟩))
  ar : Ar W cb 1 l
  cnt : W.cell? ⟨cb, 177, none⟩ = some v
  free : W.frozen? ⟨cb, 177, none⟩ = false
  ne : cb ≠ b
  len : l.length = 176
section
variable {cb b lo : Nat} {v : Value} {W W' : World} {l : List UInt8}
theorem Cf.lt (h : Cf cb b v W l) : cb < W.heap.size := World.block_lt_of_cell? W _ h.ptr
theorem Cf.block (h : Cf cb b v W l) (hb : W'.heap[cb]? = W.heap[cb]?) : Cf cb b v W' l :=
  ⟨(World.cell?_of_block hb).trans h.ptr, h.ar.block hb, (World.cell?_of_block hb).trans h.cnt, (World.frozen?_of_block hb).trans h.free, h.ne, h.len⟩
theorem Cf.but (h : Cf cb b v W l) (hb : But b W W') : Cf cb b v W' l := h.block (hb.block cb h.lt h.ne)
theorem Cf.below (h : Cf cb b v W l) (hb : Below W.heap.size W W') : Cf cb b v W' l := h.block (hb.block cb h.lt)
theorem Cf.drew (h : Cf cb b v W l) : Cf cb b v W.drew l := h.block rfl
theorem Cf.lay (h : Cf cb b v W l) (i : Nat) (m : List UInt8) (hm : i + m.length ≤ 176) : Cf cb b v (W.setCells cb (1 + i) (bvs m)) (layL l i m) where
  ptr := by
    rw [World.cell?_setCells_out cb (bvs m) (1 + i) W ⟨cb, 0, none⟩ (fun _ _ => by left; show 0 < 1 + i; omega)]
    exact h.ptr
  ar := h.ar.lay i m (by rw [h.len]; exact hm)
  cnt := by
    rw [World.cell?_setCells_out cb (bvs m) (1 + i) W ⟨cb, 177, none⟩ (fun _ _ => by rw [bvs_length]; right; show 1 + i + m.length ≤ 177; omega)]
    exact h.cnt
  free := by rw [World.frozen?_setCells]; exact h.free
  ne := h.ne
  len := by rw [layL_len _ _ _ (by rw [h.len]; exact hm)]; exact h.len
theorem Cf.count (h : Cf cb b v W l) (u : Value) : Cf cb b u (W.setCell ⟨cb, 177, none⟩ u) l where
  ptr := by rw [World.cell?_setCell_other _ _ _ _ (by simp)]; exact h.ptr
  ar := Ar.mk (fun j x hx => by
      have hj := (List.getElem?_eq_some_iff.1 hx).1
      have := h.len
      rw [World.cell?_setCell_other _ _ _ _ (by intro e; injection e with _ e3; omega)]; exact h.ar.cell hx) (fun j hj => by simp [h.ar.free hj])
  cnt := World.cell?_setCell_same W _ u h.cnt
  free := by simp [h.free]
  ne := h.ne
  len := h.len
/-- The cipher's block is none of those that an object of tables leads to. -/
theorem Cf.nob (h : Cf cb b v W l) : ¬ ∃ x : UInt8, W.cell? ⟨cb, 0, none⟩ = some (bv x) := fun ⟨x, hx⟩ => by
  rw [h.ptr] at hx
  injection hx with hx
  unfold bv at hx
  injection hx
end
end Go.Proofs.YtmpidjadpcpbfaaGreat

/- aes's squares in memory: the walk reads and writes them whole. No conditions; nothing is claimed of the program here. -/
namespace Go.Proofs.YtmpidjadpcpbfaaGreat
open Go.RowKit
set_option linter.unusedVariables false

/-- Sixteen cells from o on, where they are there. -/
noncomputable def Rd (w : World) (b o : Nat) : Option (List Value) :=
  if ∀ j, j < 16 → (w.cell? ⟨b, o + j, none⟩).isSome = true then some ((List.range 16).map fun j => (w.cell? ⟨b, o + j, none⟩).getD undef) else none
noncomputable def loadElse (w : World) (b o : Nat) : Result Value := (Instr.loadAt 66 (.pointer (some ⟨b, o, none⟩))).run Tryz.prog w
theorem Rd_range {w : World} {b o : Nat} {cs : List Value} (h : Rd w b o = some cs) : w.rangeAt b o cs ∧ cs.length = 16 := by
  unfold Rd at h
  split at h
  · rename_i hs
    injection h with h
    subst h
    refine ⟨fun j v hv => ?_, by simp⟩
    have hj : j < 16 := by have := (List.getElem?_eq_some_iff.1 hv).1; simpa using this
    simp only [List.getElem?_map, List.getElem?_range hj, Option.map_some] at hv
    injection hv with hv
    obtain ⟨u, hu⟩ := Option.isSome_iff_exists.1 (hs j hj)
    rw [hu] at hv ⊢
    simpa using hv
  · cases h
theorem Rd_of {w : World} {b o : Nat} {l : List UInt8} (h : Ar w b o l) (hl : l.length = 16) : Rd w b o = some (bvs l) := by
  have hc : ∀ j, j < 16 → w.cell? ⟨b, o + j, none⟩ = some (bv (l.getD j 0)) := fun j hj => by
    have : l[j]? = some (l.getD j 0) := by simp [List.getD, hl, hj]
    exact h.cell this
  unfold Rd
  rw [if_pos (fun j hj => by rw [hc j hj]; rfl)]
  congr 1
  apply List.ext_getElem
  · simp [bvs_length, hl]
  · intro j h1 h2
    have hj : j < 16 := by simpa using h1
    simp only [List.getElem_map, List.getElem_range]
    rw [hc j hj]
    simp [bvs, List.getD, hl, hj]
theorem ld_sq (w : World) (b o : Nat) : (Instr.loadAt 66 (.pointer (some ⟨b, o, none⟩))).run Tryz.prog w = (Rd w b o).elim (loadElse w b o) (fun cs => .ok (.agg cs.toArray) w) := by
  rcases h : Rd w b o with _ | cs
  · rw [Option.elim_none, loadElse]
  · obtain ⟨h1, h2⟩ := Rd_range h
    rw [Option.elim_some]
    exact run_loadAt_mid (P := Tryz.prog) w b o _ cs _ h1 up_sq rfl (by rw [h2]; exact sz_sq)
theorem Rd_drew (w : World) (b o : Nat) : Rd w.drew b o = Rd w b o := rfl
theorem st_sq (w : World) (b o : Nat) (l : List UInt8) (ht : w.there b o 16) (hl : l.length = 16) : (Instr.storeAt 66 (.pointer (some ⟨b, o, none⟩)) (.agg (bvs l).toArray)).run Tryz.prog w = .ok () (w.setCells b o (bvs l)) := by
  have := run_storeAt_mid (P := Tryz.prog) w b o 66 (bvs l).toArray (by simpa [bvs_length, hl] using ht) (by simpa [bvs_length, hl] using sz_sq) (all_bvs l)
  simpa using this
theorem setCells_drew (w : World) (b : Nat) : ∀ (vs : List Value) (o : Nat), w.drew.setCells b o vs = (w.setCells b o vs).drew := by
  intro vs
  induction vs generalizing w with
  | nil => intro o; rfl
  | cons v r ih => intro o; rw [World.setCells, World.setCell_drew, ih]; rfl
noncomputable def ldN (v : Value) (w : World) : Result Next := Sem.run Tryz.prog (do let r ← Instr.loadAt 66 v; pure (Next.value r)) w
noncomputable def stN (v x : Value) (w : World) : Result Next := Sem.run Tryz.prog (do Instr.storeAt 66 v x; pure Next.skip) w
theorem ex_ld (ev : Operand → Value) (x : Operand) (d : Option Tmp) (ty : TypeId) (ps : String) (af : Array Edge) (g : Option (Nat × Bool)) (w : World) : (execOp ev ⟨d, .load 66 x, ty, ps, af, g⟩).run Tryz.prog w = ldN (ev x) w := rfl
theorem ex_st (ev : Operand → Value) (x y : Operand) (d : Option Tmp) (ty : TypeId) (ps : String) (af : Array Edge) (g : Option (Nat × Bool)) (w : World) : (execOp ev ⟨d, .store 66 x y, ty, ps, af, g⟩).run Tryz.prog w = stN (ev x) (ev y) w := rfl
theorem ldN_ptr (w : World) (b o : Nat) : ldN (.pointer (some ⟨b, o, none⟩)) w = (Rd w b o).elim (ldN (.pointer (some ⟨b, o, none⟩)) w) (fun cs => .ok (.value (.agg cs.toArray)) w) := by
  rcases h : Rd w b o with _ | cs
  · rw [Option.elim_none]
  · rw [Option.elim_some]
    have := ld_sq w b o
    rw [h, Option.elim_some] at this
    unfold ldN
    simp only [Sem.run_bind, this, Result.andThen_ok, Sem.run_pure]
theorem stN_ptr (w : World) (b o : Nat) (l : List UInt8) (ht : w.there b o 16) (hl : l.length = 16) : stN (.pointer (some ⟨b, o, none⟩)) (AV l) w = .ok .skip (w.setCells b o (bvs l)) := by
  unfold stN AV
  simp only [Sem.run_bind, st_sq w b o l ht hl, Result.andThen_ok, Sem.run_pure]
/-- A square read where it lies. -/
theorem ldN_ar (w : World) (b o : Nat) (l : List UInt8) (h : Ar w b o l) (hl : l.length = 16) : ldN (.pointer (some ⟨b, o, none⟩)) w = .ok (.value (AV l)) w := by
  rw [ldN_ptr, Rd_of h hl, Option.elim_some]; rfl
theorem Ar.there16 {w : World} {b o : Nat} {l : List UInt8} (h : Ar w b o l) (hl : l.length = 16) : w.there b o 16 := by have := h.2; rw [bvs_length, hl] at this; exact this
/-- The same for words. -/
noncomputable def ldW (v : Value) (w : World) : Result Next := Sem.run Tryz.prog (do let r ← Instr.loadAt 64 v; pure (Next.value r)) w
noncomputable def stW (v x : Value) (w : World) : Result Next := Sem.run Tryz.prog (do Instr.storeAt 64 v x; pure Next.skip) w
theorem ex_ldW (ev : Operand → Value) (x : Operand) (d : Option Tmp) (ty : TypeId) (ps : String) (af : Array Edge) (g : Option (Nat × Bool)) (w : World) : (execOp ev ⟨d, .load 64 x, ty, ps, af, g⟩).run Tryz.prog w = ldW (ev x) w := rfl
theorem ex_stW (ev : Operand → Value) (x y : Operand) (d : Option Tmp) (ty : TypeId) (ps : String) (af : Array Edge) (g : Option (Nat × Bool)) (w : World) : (execOp ev ⟨d, .store 64 x y, ty, ps, af, g⟩).run Tryz.prog w = stW (ev x) (ev y) w := rfl
theorem ldW_ar (w : World) (b o : Nat) (l : List UInt8) (h : Ar w b o l) (hl : l.length = 4) : ldW (.pointer (some ⟨b, o, none⟩)) w = .ok (.value (AV l)) w := by
  have := run_loadAt_mid (P := Tryz.prog) w b o 64 (bvs l) _ h.1 up_word rfl (by rw [bvs_length, hl]; exact sz_word)
  unfold ldW
  simp only [Sem.run_bind, this, Result.andThen_ok, Sem.run_pure]
  rfl
theorem stW_ptr (w : World) (b o : Nat) (l : List UInt8) (ht : w.there b o 4) (hl : l.length = 4) : stW (.pointer (some ⟨b, o, none⟩)) (AV l) w = .ok .skip (w.setCells b o (bvs l)) := by
  have := run_storeAt_mid (P := Tryz.prog) w b o 64 (bvs l).toArray (by simpa [bvs_length, hl] using ht) (by simpa [bvs_length, hl] using sz_word) (all_bvs l)
  unfold stW AV
  simp only [Sem.run_bind, this, Result.andThen_ok, Sem.run_pure]
theorem Ar.there4 {w : World} {b o : Nat} {l : List UInt8} (h : Ar w b o l) (hl : l.length = 4) : w.there b o 4 := by have := h.2; rw [bvs_length, hl] at this; exact this
attribute [go_sem ↓] ex_ld ex_st ex_ldW ex_stW
attribute [go_sem] stN_ptr stW_ptr
end Go.Proofs.YtmpidjadpcpbfaaGreat

