/- aes's expand: the round keys. Condition: the cipher is as New lays it. -/
import Derived.Test.YtmpidjadpcpbfaaGreatAesMem
import Derived.Test.YtmpidjadpcpbfaaGreatAesSqs
import Derived.Deep.RegionHeld3
namespace Go.Proofs.YtmpidjadpcpbfaaGreat
attribute [local irreducible] wsW keyUpTo keyF lastW turn0
open Go.RowKit
set_option linter.unusedVariables false

theorem last0_len (key t : List UInt8) (n : Nat) : (lastW key t n 0).length = 4 := by unfold lastW; rw [if_pos rfl]; exact turn0_len _ _ _
/-- What expand leaves. -/
def Expanded (B cb lo b : Nat) (v : Value) (key : List UInt8) (w : World) (e : Ending) (w' : World) : Prop :=
  e = .returned (.tuple #[]) ∧ Below B w w' ∧ Tab w' lo b bys true ∧ Cf cb b v w' (keysF key tableL)

set_option maxRecDepth 100000 in
set_option maxHeartbeats 4000000 in
theorem expand_any (B cb lo b : Nat) (v : Value) (key : List UInt8) (d : Bool) (w : World) (hk : key.length = 16) (hB : B ≤ cb ∧ B ≤ b) (h : Tab w lo b bys d) (hc : Cf cb b v w (List.replicate 176 0)) :
    Calls Tryz.prog 36 #[.pointer (some ⟨cb, 0, none⟩), AV key] w (Expanded B cb lo b v key w) := by
  have HK := Lib.hid hk
  have HB := Lib.hid hB
  obtain ⟨G, HG⟩ : ∃ G, Hid (G = w.heap.size) := ⟨_, Lib.hid rfl⟩
  obtain ⟨W0, HW0⟩ : ∃ W0, Hid (W0 = w.alloc (.cells (bvs key).toArray 66)) := ⟨_, Lib.hid rfl⟩
  have hbel : Below w.heap.size w W0 := by rw [HW0.out]; exact below_alloc w _
  have hBw : B ≤ w.heap.size := by have := hc.lt; omega
  have HBEL : Hid (Below B w W0) := Lib.hid (hbel.mono hBw)
  have HT := Lib.hid (h.below hbel)
  have hcf := hc.below hbel
  have HC := Lib.hid hcf
  have hcg : cb ≠ G := by have := hc.lt; have := HG.out; omega
  have HAG : Hid (Ar W0.drew G 0 key) := Lib.hid (by rw [HW0.out, HG.out]; exact (Ar.new w key _).drew)
  have hr : ldN (.pointer (some ⟨G, 0, none⟩)) W0.drew = .ok (.value (AV key)) W0.drew := ldN_ar _ _ _ _ HAG.out hk
  have ht : W0.there cb 1 16 := fun j hj => (hcf.ar.part 0 16 (by simp)).2 j (by rw [bvs_length, cutL_len _ _ _ (by simp)]; exact hj)
  clear hB h hc hbel hcf
  go_enter Tryz.func36, Tryz.ntmps36
  go_wp2_with (first | (refine wpList_boxA rfl _ (.tmp 1) rfl key rfl ?_))
  rw [← HW0.out, ← HG.out]
  go_region_held3 (fun w' => ldN (.pointer (some ⟨G, 0, none⟩)) w' = .ok (.value (AV key)) w') (first | assumption | (exact ldN_ar _ _ _ _ (HAG.out.setCells hcg _ _) hk)) (fail)
  obtain ⟨W1, HW1⟩ : ∃ W1, Hid (W1 = W0.drew.setCells cb 1 (bvs key)) := ⟨_, Lib.hid rfl⟩
  rw [← HW1.out]
  have HC1 : Hid (Cf cb b v W1 (keyUpTo key tableL 4)) := Lib.hid (by
    have := HC.out.drew.lay 0 key (by omega)
    rw [keyUpTo_first key tableL hk] at this
    rw [HW1.out]; exact this)
  have HB1 : Hid (Below B w W1) := Lib.hid (by rw [HW1.out]; exact below_setCells HBEL.out.drew HB.out.1 _ _)
  have HT1 : Hid (Tab W1 lo b bys d) := Lib.hid (by
    refine HT.out.apartJ (by decide) 0 (by omega) HC.out.nob HC.out.ne (fun q _ hq => ?_)
    rw [HW1.out]
    exact heap_setCells cb q hq _ _ _)
  clear hr ht hcg HAG HT HC HBEL
  go_wp2_with fail
  go_loopw [4] (fun i wr => ∃ (p : Nat) (d' : Bool), p ≤ 10 ∧ i = .int .i64 ((p : Int) + 1) ∧ Hid (Tab wr lo b bys d') ∧ Hid (0 < p → d' = true) ∧ Hid (Below B w wr) ∧ Hid (Cf cb b v wr (keyUpTo key tableL (4 * (p + 1))))) (fun i _ => 11 - (intOf i).toNat)
  case atStart => exact ⟨0, d, by omega, rfl, HT1, Lib.hid (fun h => absurd h (by omega)), HB1, HC1⟩
  case round =>
    clear HC1 HB1 HT1
    obtain ⟨p, d', hp, rfl, htb, hd', hb, hc⟩ := hrel
    by_cases hlt : p < 10
    · have hdec : decide ((p : Int) + 1 ≤ 10) = true := decide_eq_true (by omega)
      obtain ⟨kp, HKP⟩ : ∃ kp, Hid (kp = keyF key tableL p) := ⟨_, Lib.hid rfl⟩
      have HKL : Hid (kp.length = 16) := Lib.hid (by rw [HKP.out]; exact keyF_len key tableL hk p (by omega))
      have HP : Hid (Ar wr cb (1 + p * 16) kp) := Lib.hid (by
        have := hc.out.ar.part (16 * p) 16 (by rw [hc.out.len]; omega)
        rw [keyUpTo_cut16 key tableL hk p (4 * (p + 1)) (by omega) (by omega), ← HKP.out, Nat.mul_comm 16 p] at this
        exact this)
      have HZA : Hid (Ar (wr.alloc (.cells (bvs zeros16).toArray 66)) wr.heap.size 0 zeros16) := Lib.hid (Ar.new _ _ _)
      have h1 : IntKind.i64.wrap (p : Int) = (p : Int) := IntWalk.i64_in _ (by omega)
      have h2 : (p : Int) < 11 := by omega
      obtain ⟨W5, HW5⟩ : ∃ W5, Hid (W5 = (wr.alloc (.cells (bvs zeros16).toArray 66)).setCells wr.heap.size 0 (bvs kp)) := ⟨_, Lib.hid rfl⟩
      obtain ⟨g5, Hg5⟩ : ∃ g5, Hid (g5 = wr.heap.size) := ⟨_, Lib.hid rfl⟩
      have hb5 : Below wr.heap.size wr W5 := by rw [HW5.out]; exact below_setCells (below_alloc wr _) (Nat.le_refl _) _ _
      have HB5 := Lib.hid hb5
      have hA5 : Ar ((wr.alloc (.cells (bvs zeros16).toArray 66)).setCells wr.heap.size 0 (bvs kp)) wr.heap.size 0 kp := HZA.out.whole kp (by rw [HKL.out]; rfl)
      have HA5 : Hid (Ar W5 g5 0 kp) := Lib.hid (by rw [HW5.out, Hg5.out]; exact hA5)
      obtain ⟨l3, HL3⟩ : ∃ l3, Hid (l3 = wsW key tableL (4 * (p + 1) - 1)) := ⟨_, Lib.hid rfl⟩
      have HL34 : Hid (l3.length = 4) := Lib.hid (by rw [HL3.out]; exact wsW_len key tableL hk _ (by omega))
      have HA3 : Hid (Ar ((wr.alloc (.cells (bvs zeros16).toArray 66)).setCells wr.heap.size 0 (bvs kp)) wr.heap.size 12 l3) := Lib.hid (by
        have := hA5.part 12 4 (by rw [HKL.out]; omega)
        rw [HKP.out, show (12 : Nat) = 4 * 3 from rfl, keyF_cut key tableL hk p 3 (by omega) (by omega), show 4 * p + 3 = 4 * (p + 1) - 1 by omega, ← HL3.out, ← HKP.out] at this
        exact this)
      clear hA5 hb5
      obtain ⟨l0, HL0⟩ : ∃ l0, Hid (l0 = lastW key tableL (p + 1) 0) := ⟨_, Lib.hid rfl⟩
      have HL04 : Hid (l0.length = 4) := Lib.hid (by rw [HL0.out]; exact last0_len _ _ _)
      have HTURN : Hid (turn0 tableL l3 (p + 1 - 1) = l0) := Lib.hid (by rw [HL3.out, HL0.out]; unfold lastW; rw [if_pos rfl])
      have HTB5 : Hid (Tab ((wr.alloc (.cells (bvs zeros16).toArray 66)).setCells wr.heap.size 0 (bvs kp)) lo b bys d') := Lib.hid (htb.out.below (by rw [← HW5.out]; exact HB5.out))
      have HC5 : Hid (Cf cb b v ((wr.alloc (.cells (bvs zeros16).toArray 66)).setCells wr.heap.size 0 (bvs kp)) (keyUpTo key tableL (4 * (p + 1)))) := Lib.hid (hc.out.below (by rw [← HW5.out]; exact HB5.out))
      go_wp2_with (first | (refine wpList_ldA rfl _ (.tmp 23) rfl cb (1 + p * 16) 4 _ rfl kp (by exact HP.out) up_sq (by rw [HKL.out]; exact sz_sq) ?_) | (refine wpList_stA rfl _ (.tmp 5) (.tmp 24) rfl wr.heap.size 0 rfl kp zeros16 rfl (by exact HZA.out) (by rw [HKL.out]; rfl) (by rw [HKL.out]; exact sz_sq) ?_) | (refine wpList_ldA rfl _ (.tmp 26) rfl wr.heap.size 12 4 _ rfl l3 (by exact HA3.out) up_word (by rw [HL34.out]; exact sz_word) ?_))
      refine (turn_any cb lo b bys l3 d' (p + 1) _ HL34.out (by decide) (by omega) HC5.out.ne (by exact HC5.out.ptr) (by exact HTB5.out)).mono ?_
      rw [HTURN.out, ← Hg5.out]
      rintro e w1 ⟨rfl, hb1, ht1, _⟩
      have hbu : But b W5 w1 := by rw [HW5.out, ← Hg5.out]; exact hb1
      have hc5 : Cf cb b v W5 (keyUpTo key tableL (4 * (p + 1))) := by rw [HW5.out]; exact HC5.out
      have hbw : b < wr.heap.size := htb.out.lt
      have HC1 := Lib.hid (hc5.but hbu)
      have HA51 : Hid (Ar w1 g5 0 kp) := Lib.hid (HA5.out.block (hbu.block g5 (HA5.out.lt (by rw [HKL.out]; omega)) (by have := Hg5.out; omega)))
      have HT1 := Lib.hid ht1
      have HB1 : Hid (Below B w w1) := Lib.hid ((hb.out.trans (HB5.out.mono (Nat.le_trans hBw hb.out.size))).trans (hbu.below HB.out.2 (Nat.lt_of_lt_of_le hbw HB5.out.size)))
      obtain ⟨g6, Hg6⟩ : ∃ g6, Hid (g6 = w1.heap.size) := ⟨_, Lib.hid rfl⟩
      have HZ6 : Hid (Ar (w1.alloc (.cells (bvs [0, 0, 0, 0]).toArray 64)) w1.heap.size 0 [0, 0, 0, 0]) := Lib.hid (Ar.new _ _ _)
      obtain ⟨W6, HW6⟩ : ∃ W6, Hid (W6 = (w1.alloc (.cells (bvs [0, 0, 0, 0]).toArray 64)).setCells w1.heap.size 0 (bvs l0)) := ⟨_, Lib.hid rfl⟩
      have hb6 : Below w1.heap.size w1 W6 := by rw [HW6.out]; exact below_setCells (below_alloc w1 _) (Nat.le_refl _) _ _
      have HB6 : Hid (Below B w W6) := Lib.hid (HB1.out.trans (hb6.mono (Nat.le_trans hBw HB1.out.size)))
      have HC6 := Lib.hid (HC1.out.below hb6)
      have HT6 := Lib.hid (HT1.out.below hb6)
      have HA6 : Hid (Ar W6 g6 0 l0) := Lib.hid (by rw [HW6.out, Hg6.out]; exact HZ6.out.whole l0 (by rw [HL04.out]; rfl))
      have HA56 : Hid (Ar ((w1.alloc (.cells (bvs [0, 0, 0, 0]).toArray 64)).setCells w1.heap.size 0 (bvs l0)) g5 0 kp) := Lib.hid (HA51.out.below (by rw [← HW6.out]; exact hb6) (HA51.out.lt (by rw [HKL.out]; omega)))
      have HN6 : Hid (¬ ∃ x : UInt8, W6.cell? ⟨g6, 4, none⟩ = some (bv x)) := Lib.hid (by
        rw [HW6.out, Hg6.out, World.cell?_setCells_out _ (bvs l0) 0 _ ⟨w1.heap.size, 4, none⟩ (fun _ _ => by rw [bvs_length, HL04.out]; right; exact Nat.le_refl _), World.cell?_alloc_at _ _ _ _ rfl]
        simp [bvs])
      have HG6 : Hid (g6 ≠ cb ∧ g6 ≠ b ∧ B ≤ g6) := Lib.hid (by have h1 := HC1.out.lt; have h2 := HT1.out.lt; have h3 := Hg6.out; have h4 := HB.out; omega)
      clear hbu hc5 hb1 ht1 hb6 HC5 HTB5 HA3 HZA HP HA5 HA51 HC1 HT1 HB1 hc htb hb
      go_wp2_with (first | (refine wpList_stA rfl _ (.tmp 6) (.tmp 29) rfl w1.heap.size 0 rfl l0 [0, 0, 0, 0] rfl (by exact HZ6.out) (by rw [HL04.out]; rfl) (by rw [HL04.out]; exact sz_word) ?_) | (refine wpList_ldA rfl _ (.tmp 5) rfl g5 0 4 _ rfl kp (by exact HA56.out) up_sq (by rw [HKL.out]; exact sz_sq) ?_))
      show Code.wp _ _ _ _ ((w1.alloc (.cells (bvs [0, 0, 0, 0]).toArray 64)).setCells w1.heap.size 0 (bvs l0))
      rw [← HW6.out, ← Hg6.out]
      clear HZ6 HA56
      go_loopw [31] (fun i ws => ∃ j : Nat, j ≤ 4 ∧ i = .int .i64 j ∧ Hid (Tab ws lo b bys true) ∧ Hid (Below B w ws) ∧ Hid (Cf cb b v ws (keyUpTo key tableL (4 * (p + 1) + j))) ∧ Hid (Ar ws g6 0 (lastW key tableL (p + 1) j)) ∧ Hid (¬ ∃ x : UInt8, ws.cell? ⟨g6, 4, none⟩ = some (bv x))) (fun i _ => 4 - (intOf i).toNat)
      case atStart => exact ⟨0, by omega, rfl, HT6, HB6, HC6, Lib.hid (by rw [← HL0.out]; exact HA6.out), HN6⟩
      case round =>
        clear HT6 HB6 HC6 HA6 HN6
        obtain ⟨j, hj, rfl, ht, hb, hc, ha, hn4⟩ := hrel
        by_cases hlt2 : j < 4
        · obtain ⟨m, HM⟩ : ∃ m, Hid (m = wsW key tableL (4 * p + j)) := ⟨_, Lib.hid rfl⟩
          have HM4 : Hid (m.length = 4) := Lib.hid (by rw [HM.out]; exact wsW_len key tableL hk _ (by omega))
          obtain ⟨la, HLA⟩ : ∃ la, Hid (la = lastW key tableL (p + 1) j) := ⟨_, Lib.hid rfl⟩
          rw [← HLA.out] at ha
          obtain ⟨hnx, hny⟩ := lastW_next key tableL (p + 1) j (by omega) hlt2
          rw [show p + 1 - 1 = p by omega, ← HLA.out, ← HM.out] at hnx
          obtain ⟨nx, HNX⟩ : ∃ nx, Hid (nx = wsW key tableL (4 * (p + 1) + j)) := ⟨_, Lib.hid rfl⟩
          rw [← HNX.out] at hnx hny
          have HN4 : Hid (nx.length = 4) := Lib.hid (by rw [HNX.out]; exact wsW_len key tableL hk _ (by omega))
          have HL4 : Hid (la.length = 4) := Lib.hid (by
            rw [HLA.out]; unfold lastW; split
            · exact turn0_len _ _ _
            · exact wsW_len key tableL hk _ (by omega))
          have HADD := Lib.hid hnx
          have HNY := Lib.hid hny
          have hidx : ∀ W : World, (Instr.index 66 (AV kp) (.int .i64 (j : Int))).run Tryz.prog W = .ok (AV m) W := fun W => by
            rw [HM.out, ← keyF_cut key tableL hk p j (by omega) hlt2, ← HKP.out]
            exact sidx kp HKL.out j hlt2 W
          have HZ8 : Hid (Ar (wr.alloc (.cells (bvs [0, 0, 0, 0]).toArray 64)) wr.heap.size 0 [0, 0, 0, 0]) := Lib.hid (Ar.new _ _ _)
          have hb8 : Below wr.heap.size wr ((wr.alloc (.cells (bvs [0, 0, 0, 0]).toArray 64)).setCells wr.heap.size 0 (bvs m)) := below_setCells (below_alloc wr _) (Nat.le_refl _) _ _
          have hgw : g6 < wr.heap.size := ha.out.lt (by rw [HL4.out]; omega)
          have HA8 : Hid (Ar ((wr.alloc (.cells (bvs [0, 0, 0, 0]).toArray 64)).setCells wr.heap.size 0 (bvs m)) g6 0 la) := Lib.hid (ha.out.below hb8 hgw)
          have HM8 : Hid (Ar ((wr.alloc (.cells (bvs [0, 0, 0, 0]).toArray 64)).setCells wr.heap.size 0 (bvs m)) wr.heap.size 0 m) := Lib.hid (HZ8.out.whole m (by rw [HM4.out]; rfl))
          have HB8 := Lib.hid hb8
          clear hnx hny hb8
          go_wp2_with (first | (refine wpList_stA rfl _ (.tmp 8) (.tmp 34) rfl wr.heap.size 0 rfl m [0, 0, 0, 0] rfl (by exact HZ8.out) (by rw [HM4.out]; rfl) (by rw [HM4.out]; exact sz_word) ?_) | (refine wpList_ldA rfl _ (.tmp 6) rfl g6 0 4 _ rfl la (by exact HA8.out) up_word (by rw [HL4.out]; exact sz_word) ?_) | (refine wpList_ldA rfl _ (.tmp 8) rfl wr.heap.size 0 4 _ rfl m (by exact HM8.out) up_word (by rw [HM4.out]; exact sz_word) ?_))
          refine (wadd_any la m _ HL4.out HM4.out).mono ?_
          rw [HADD.out]
          rintro e w2 ⟨rfl, hb2⟩
          have hb2' : Below wr.heap.size wr w2 := HB8.out.trans (hb2.mono HB8.out.size)
          have HA2 : Hid (Ar w2 g6 0 la) := Lib.hid (ha.out.below hb2' hgw)
          obtain ⟨W10, HW10⟩ : ∃ W10, Hid (W10 = w2.setCells g6 0 (bvs nx)) := ⟨_, Lib.hid rfl⟩
          have HB10 : Hid (Below B w W10) := Lib.hid (by
            rw [HW10.out]; exact below_setCells (hb.out.trans (hb2'.mono (by have := HG6.out; omega))) HG6.out.2.2 _ _)
          have hn2 : ¬ ∃ x : UInt8, w2.cell? ⟨g6, 4, none⟩ = some (bv x) := by rw [hb2'.cell (p := ⟨g6, 4, none⟩) hgw]; exact hn4.out
          have HT10 : Hid (Tab W10 lo b bys true) := Lib.hid (by
            rw [HW10.out]; exact (ht.out.below hb2').apart (by decide) hn2 HG6.out.2.1 (fun q hq => heap_setCells g6 q hq _ _ _))
          have HC10 : Hid (Cf cb b v W10 (keyUpTo key tableL (4 * (p + 1) + j))) := Lib.hid (by
            rw [HW10.out]; exact (hc.out.below hb2').block (heap_setCells g6 cb (fun e => HG6.out.1 e.symm) _ _ _))
          have HN10 : Hid (¬ ∃ x : UInt8, W10.cell? ⟨g6, 4, none⟩ = some (bv x)) := Lib.hid (by
            rw [HW10.out, World.cell?_setCells_out _ (bvs nx) 0 _ ⟨g6, 4, none⟩ (fun _ _ => by rw [bvs_length, HN4.out]; right; exact Nat.le_refl _)]; exact hn2)
          have HA10 : Hid (Ar W10 g6 0 nx) := Lib.hid (by rw [HW10.out]; exact HA2.out.whole nx (by rw [HN4.out, HL4.out]))
          clear hb2 hb2' hn2 HA8 HM8 HZ8 HB8 ha hb ht hc hn4
          go_wp2_with (first | (refine wpList_stA rfl _ (.tmp 6) (.tmp 37) rfl g6 0 rfl nx la rfl (by exact HA2.out) (by rw [HN4.out, HL4.out]) (by rw [HN4.out]; exact sz_word) ?_))
          rw [← HW10.out]
          have hld : ldW (.pointer (some ⟨g6, 0, none⟩)) W10.drew = .ok (.value (AV nx)) W10.drew := ldW_ar _ _ _ _ HA10.out.drew HN4.out
          have hnl := HN4.out
          have hj4 : (j : Int) < 4 := by omega
          have hth : W10.there cb (1 + (p + 1) * 16 + j * 4) 4 := by
            have := (HC10.out.ar.part (16 * (p + 1) + 4 * j) 4 (by rw [HC10.out.len]; omega)).there4 (cutL_len _ _ _ (by rw [HC10.out.len]; omega))
            rw [show 1 + (16 * (p + 1) + 4 * j) = 1 + (p + 1) * 16 + j * 4 by omega] at this
            exact this
          have hq1 : (0 : Int) ≤ (p : Int) + 1 := by omega
          have hq2 : (p : Int) + 1 < 11 := by omega
          go_region_held3 (fun w' => ldW (.pointer (some ⟨g6, 0, none⟩)) w' = .ok (.value (AV nx)) w') (first | assumption | (exact ldW_ar _ _ _ _ (HA10.out.drew.setCells (fun e => HG6.out.1 e.symm) _ _) HN4.out)) (fail)
          go_wp2_with fail
          go_roundw
          case rel =>
            have hlay := HC10.out.drew.lay (16 * (p + 1) + 4 * j) nx (by rw [HN4.out]; omega)
            rw [show 16 * (p + 1) + 4 * j = 4 * (4 * (p + 1) + j) by omega, HNX.out, keyUpTo_lay key tableL hk (4 * (p + 1) + j) (by omega), ← HNX.out, show 1 + 4 * (4 * (p + 1) + j) = 1 + (p + 1) * 16 + j * 4 by omega] at hlay
            refine ⟨j + 1, by omega, by go_num, Lib.hid ?_, Lib.hid (below_setCells HB10.out.drew HB.out.1 _ _), Lib.hid hlay, Lib.hid ?_, Lib.hid ?_⟩
            · exact HT10.out.apartJ (by decide) 0 (by omega) HC10.out.nob HC10.out.ne (fun q _ hq => heap_setCells cb q hq _ _ _)
            · rw [HNY.out]; exact HA10.out.drew.setCells (fun e => HG6.out.1 e.symm) _ _
            · rw [World.cell?_setCells_out _ (bvs nx) _ _ ⟨g6, 4, none⟩ (fun e _ => absurd e HG6.out.1)]
              exact HN10.out
          case measure => simp [intOf]; omega
        · obtain rfl : j = 4 := by omega
          have e4 : ((4 : Nat) : Int) = 4 := rfl
          rw [e4]
          clear e4
          go_wp2_with fail
          go_roundw
          case rel => exact ⟨p + 1, true, by omega, by go_num, ht, Lib.hid (fun _ => rfl), hb, Lib.hid hc.out⟩
          case measure => simp [intOf]; omega
    · obtain rfl : p = 10 := by omega
      have h := hd'.out (by omega)
      subst h
      go_wp2_with fail
      go_end0
      exact ⟨rfl, hb.out, htb.out, hc.out⟩
end Go.Proofs.YtmpidjadpcpbfaaGreat

/- aes's encrypt of a square. Condition: the cipher is as New leaves it. (Written by wip/tools/gen_crypt.py.) -/
namespace Go.Proofs.YtmpidjadpcpbfaaGreat
attribute [local irreducible] wsW keyUpTo keyF lastW turn0 encUp decUp
open Go.RowKit
set_option linter.unusedVariables false
set_option linter.unusedSimpArgs false

theorem subs_table (b : List UInt8) : subsL tableL b = b.map subB := by unfold subsL; exact List.map_congr_left (fun x _ => tableL_at x)
theorem subs_back' (b : List UInt8) : subsL backL b = b.map unsubB := by unfold subsL; exact List.map_congr_left (fun x _ => backL_at x)
theorem Cf.key {cb b : Nat} {v : Value} {W : World} {key t : List UInt8} (h : Cf cb b v W (keysF key t)) (hk : key.length = 16) (i : Nat) (hi : i < 11) : Ar W cb (1 + i * 16) (keyF key t i) := by
  have := h.ar.part (16 * i) 16 (by rw [h.len]; omega)
  unfold keysF at this
  rw [keyUpTo_cut16 key t hk i 44 (by omega) (by omega), Nat.mul_comm 16 i] at this
  exact this
theorem Cf.ldk {cb b : Nat} {v : Value} {W : World} {key t : List UInt8} (h : Cf cb b v W (keysF key t)) (hk : key.length = 16) (i : Nat) (hi : i < 11) : ldN (.pointer (some ⟨cb, 1 + i * 16, none⟩)) W = .ok (.value (AV (keyF key t i))) W :=
  ldN_ar _ _ _ _ (h.key hk i hi) (keyF_len key t hk i hi)
theorem xorL_len16 (a b : List UInt8) (ha : a.length = 16) (hb : b.length = 16) : (xorL a b).length = 16 := by rw [xorL_len _ _ (by rw [ha, hb]), ha]

set_option maxRecDepth 100000 in
set_option maxHeartbeats 4000000 in
theorem enc_any (cb lo b : Nat) (v : Value) (key s : List UInt8) (w : World) (hk : key.length = 16) (hs : s.length = 16) (h : Tab w lo b bys true) (hc : Cf cb b v w (keysF key tableL)) :
    Calls Tryz.prog 39 #[.pointer (some ⟨cb, 0, none⟩), AV s] w (RetA (encL key tableL s) w) := by
  obtain ⟨R, HR⟩ : ∃ R, Hid (R = encL key tableL s) := ⟨_, Lib.hid rfl⟩
  rw [← HR.out]
  have HTB := Lib.hid h
  have HCF := Lib.hid hc
  have HS := Lib.hid hs
  obtain ⟨G, HG⟩ : ∃ G, Hid (G = w.heap.size) := ⟨_, Lib.hid rfl⟩
  have HGC : Hid (cb < G) := Lib.hid (by rw [HG.out]; exact hc.lt)
  obtain ⟨wr, HWR⟩ : ∃ wr, Hid (wr = W2 s zeros16 66 w) := ⟨_, Lib.hid rfl⟩
  have hb : Hid (Below w.heap.size w wr) := Lib.hid (by rw [HWR.out]; exact w2_below _ _ _ _)
  have ha : Hid (Ar wr G 0 s) := Lib.hid (by rw [HWR.out, HG.out]; exact w2_0 _ _ _ _)
  have hz : Hid (Ar wr (G + 1) 0 zeros16) := Lib.hid (by rw [HWR.out, HG.out]; exact w2_1 _ _ _ _)
  have hmf : ∀ (fn : Fn) (first cap : Array Value) (w : World), (Instr.makeFunc fn first cap).run Tryz.prog w = .ok (.func fn first cap) w := fun _ _ _ _ => rfl
  clear h hc hs
  go_enter Tryz.func39, Tryz.ntmps39
  go_wp2_with (first | (refine wpList_boxA rfl _ (.tmp 1) rfl s rfl ?_))
  show Code.wp _ _ _ _ (W2 s zeros16 66 w)
  rw [← HWR.out, ← HG.out]
  obtain ⟨kn, HKNE⟩ : ∃ kn, Hid (kn = keyF key tableL 0) := ⟨_, Lib.hid rfl⟩
  have HKN : Hid (kn.length = 16) := Lib.hid (by rw [HKNE.out]; exact keyF_len key tableL hk _ (by omega))
  obtain ⟨x0, HE0⟩ : ∃ x0, Hid (x0 = s) := ⟨_, Lib.hid rfl⟩
  have HX0 : Hid (x0.length = 16) := Lib.hid (by rw [HE0.out]; exact HS.out)
  obtain ⟨x1, HE1⟩ : ∃ x1, Hid (x1 = xorL x0 kn) := ⟨_, Lib.hid rfl⟩
  have HX1 : Hid (x1.length = 16) := Lib.hid (by rw [HE1.out]; exact xorL_len16 _ _ HX0.out HKN.out)
  have HA : Hid (Ar wr G 0 x0) := Lib.hid (by rw [HE0.out]; exact ha.out)
  have HK : Hid (∀ W : World, Below wr.heap.size wr W → TabC W cb b lo ∧ Tab W lo b bys true ∧ ldN (.pointer (some ⟨cb, 1, none⟩)) W = .ok (.value (AV kn)) W ∧ W.there G 0 16) := Lib.hid (fun W hW => by
    have hc := HCF.out.below (hb.out.trans (hW.mono hb.out.size))
    have ht := HTB.out.below (hb.out.trans (hW.mono hb.out.size))
    exact ⟨⟨hc.ptr, ht⟩, ht, by rw [HKNE.out]; exact hc.ldk hk 0 (by omega), (HA.out.below hW (HA.out.lt (by rw [HX0.out]; omega))).there16 HX0.out⟩)
  have hlx := HX1.out
  have hla : ldN (.pointer (some ⟨G, 0, none⟩)) wr.drew = .ok (.value (AV x0)) wr.drew := ldN_ar _ _ _ _ HA.out.drew HX0.out
  obtain ⟨⟨q0, _⟩, _, q1, q2⟩ := HK.out wr (Below.refl _ _)
  obtain ⟨⟨r0, _⟩, _, r1, r2⟩ := HK.out wr.drew (Below.refl _ _).drew
  refine wp_region_held_drew (S := fun w' => ldN (.pointer (some ⟨cb, 1, none⟩)) w' = .ok (.value (AV kn)) w') (by kernel_rfl) r1 (fun hHeld => ?_)
  (try dsimp only at hHeld)
  refine wpAnyH_take (i := 1) (v := ?v1) rfl (by kernel_rfl) (by kernel_rfl) (by kernel_rfl) (fun _ _ _ h => h) (Or.inl ⟨by rfl, ?hy1⟩) hHeld ?_
  case hy1 => (intro w hSw; (try dsimp only at hSw); (try simp only [List.getElem_toArray, List.getElem_cons_zero, List.getElem_cons_succ]); go_simp <;> with_reducible rfl)
  (try simp only [Act.put, List.setIfInBounds_toArray, List.set_cons_zero, List.set_cons_succ])
  refine wpAnyH_take (i := 2) (v := ?v2) rfl (by kernel_rfl) (by kernel_rfl) (by kernel_rfl) (fun _ _ _ h => h) (Or.inl ⟨by rfl, ?hy2⟩) hHeld ?_
  case hy2 => (intro w hSw; (try dsimp only at hSw); (try simp only [List.getElem_toArray, List.getElem_cons_zero, List.getElem_cons_succ]); go_simp <;> with_reducible rfl)
  (try simp only [Act.put, List.setIfInBounds_toArray, List.set_cons_zero, List.set_cons_succ])
  refine wpAnyH_take (i := 3) (v := ?v3) rfl (by kernel_rfl) (by kernel_rfl) (by kernel_rfl) (fun _ _ _ h => h) (Or.inl ⟨by rfl, ?hy3⟩) hHeld ?_
  case hy3 => (intro w hSw; (try dsimp only at hSw); (try simp only [List.getElem_toArray, List.getElem_cons_zero, List.getElem_cons_succ]); go_simp <;> with_reducible rfl)
  (try simp only [Act.put, List.setIfInBounds_toArray, List.set_cons_zero, List.set_cons_succ])
  refine wpAnyH_take (i := 4) (v := ?v4) rfl (by kernel_rfl) (by kernel_rfl) (by kernel_rfl) (fun _ _ _ h => h) (Or.inl ⟨by rfl, ?hy4⟩) hHeld ?_
  case hy4 => (intro w hSw; (try dsimp only at hSw); (try simp only [List.getElem_toArray, List.getElem_cons_zero, List.getElem_cons_succ]); go_simp <;> with_reducible rfl)
  (try simp only [Act.put, List.setIfInBounds_toArray, List.set_cons_zero, List.set_cons_succ])
  refine wpAnyH_take (i := 5) (v := ?v5) rfl (by kernel_rfl) (by kernel_rfl) (by kernel_rfl) (fun _ _ _ h => h) (Or.inl ⟨by rfl, ?hy5⟩) hHeld ?_
  case hy5 => (intro w hSw; (try dsimp only at hSw); (try simp only [List.getElem_toArray, List.getElem_cons_zero, List.getElem_cons_succ]); go_simp <;> with_reducible rfl)
  (try simp only [Act.put, List.setIfInBounds_toArray, List.set_cons_zero, List.set_cons_succ])
  refine wpAnyH_ready (rs := [0]) (by kernel_rfl) (by simp) ?_
  refine AllReadyH.cons rfl (fun K hK => ?_) AllReadyH.nil
  (try simp only [List.getElem_toArray, List.getElem_cons_zero, List.getElem_cons_succ])
  go_simp
  refine hK.out _ _ hHeld (fun hHeld => ?_)
  clear hK K
  (try simp only [Act.put, List.setIfInBounds_toArray, List.set_cons_zero, List.set_cons_succ])
  refine wpAnyH_ready (rs := [6]) (by kernel_rfl) (by simp) ?_
  refine AllReadyH.cons rfl (fun K hK => ?_) AllReadyH.nil
  (try simp only [List.getElem_toArray, List.getElem_cons_zero, List.getElem_cons_succ])
  go_simp
  refine (sadd_any x0 kn _ HX0.out HKN.out).mono ?_; rw [← HE1.out]; rintro e w1 ⟨rfl, hb⟩; have HB1 : Hid (Below wr.heap.size wr w1) := Lib.hid ((Below.refl wr.heap.size wr).drew.trans (show Below wr.heap.size wr.drew w1 from hb)); clear hb; obtain ⟨⟨q0, _⟩, _, q1, q2⟩ := HK.out w1 HB1.out
  (try go_wp2_with fail)
  refine hK.out _ _ q1 (fun hHeld => ?_)
  clear hK K
  (try simp only [Act.put, List.setIfInBounds_toArray, List.set_cons_zero, List.set_cons_succ])
  refine wpAnyH_ready (rs := [7]) (by kernel_rfl) (by simp) ?_
  refine AllReadyH.cons rfl (fun K hK => ?_) AllReadyH.nil
  (try simp only [List.getElem_toArray, List.getElem_cons_zero, List.getElem_cons_succ])
  go_simp
  refine hK.out _ _ (by rw [HKNE.out]; exact (((HCF.out.below (hb.out.trans (HB1.out.mono hb.out.size))).block (heap_setCells G cb (by have := HGC.out; omega) _ _ _)).ldk hk 0 (by omega))) (fun _ => ?_)
  clear hK K
  (try simp only [Act.put, List.setIfInBounds_toArray, List.set_cons_zero, List.set_cons_succ])
  refine wpAnyH_done (by kernel_rfl) ?_ _
  obtain ⟨WX, HWX⟩ : ∃ WX, Hid (WX = w1.setCells G 0 (bvs x1)) := ⟨_, Lib.hid rfl⟩
  rw [← HWX.out]
  have HBX : Hid (Below w.heap.size w WX) := Lib.hid (by rw [HWX.out]; exact below_setCells (hb.out.trans (HB1.out.mono hb.out.size)) (by rw [HG.out]; omega) _ _)
  have HAX : Hid (Ar WX G 0 x1) := Lib.hid (by rw [HWX.out]; exact (HA.out.below HB1.out (HA.out.lt (by rw [HX0.out]; omega))).whole x1 (by rw [HX1.out, HX0.out]))
  have HZX : Hid (Ar WX (G + 1) 0 zeros16) := Lib.hid (by rw [HWX.out]; exact (hz.out.below HB1.out (hz.out.lt (by simp [zeros16]))).setCells (by omega) _ _)
  have HAX0 : Hid (Ar WX G 0 (encUp key tableL s 0)) := Lib.hid (by
    have : encUp key tableL s 0 = x1 := by rw [HE1.out, HE0.out, HKNE.out]; unfold encUp; rfl
    rw [this]; exact HAX.out)
  clear HA HK ha hz hb hla q0 q1 q2 r0 r1 r2 hlx HAX
  clear HX1 HE1 HX0 HE0 HKN HKNE
  go_wp2_with fail
  go_loopw [5] (fun i wr => ∃ p : Nat, p ≤ 9 ∧ i = .int .i64 ((p : Int) + 1) ∧ Hid (Below w.heap.size w wr) ∧ Hid (Ar wr G 0 (encUp key tableL s p)) ∧ Hid (Ar wr (G + 1) 0 zeros16)) (fun i _ => 10 - (intOf i).toNat)
  case atStart => exact ⟨0, by omega, rfl, HBX, HAX0, HZX⟩
  case round =>
    clear HBX HAX0 HZX
    obtain ⟨p, hp, rfl, hb, ha, hz⟩ := hrel
    by_cases hlt : p < 9
    · have hq1 : (0 : Int) ≤ (p : Int) + 1 := by omega
      have hq2 : (p : Int) + 1 < 11 := by omega
      have hq3 : (p : Int) + 1 < 10 := by omega
      go_wp2_with fail
      obtain ⟨kn, HKNE⟩ : ∃ kn, Hid (kn = keyF key tableL (p + 1)) := ⟨_, Lib.hid rfl⟩
      have HKN : Hid (kn.length = 16) := Lib.hid (by rw [HKNE.out]; exact keyF_len key tableL hk _ (by omega))
      obtain ⟨x0, HE0⟩ : ∃ x0, Hid (x0 = encUp key tableL s p) := ⟨_, Lib.hid rfl⟩
      have HX0 : Hid (x0.length = 16) := Lib.hid (by rw [HE0.out]; exact encUp_len key tableL s hk HS.out p (by omega))
      obtain ⟨x1, HE1⟩ : ∃ x1, Hid (x1 = x0.map subB) := ⟨_, Lib.hid rfl⟩
      have HX1 : Hid (x1.length = 16) := Lib.hid (by rw [HE1.out]; exact (by rw [List.length_map]; exact HX0.out))
      obtain ⟨x2, HE2⟩ : ∃ x2, Hid (x2 = rowsL x1 1) := ⟨_, Lib.hid rfl⟩
      have HX2 : Hid (x2.length = 16) := Lib.hid (by rw [HE2.out]; exact rowsL_len _ _)
      obtain ⟨x3, HE3⟩ : ∃ x3, Hid (x3 = columnsL x2 [2, 3, 1, 1]) := ⟨_, Lib.hid rfl⟩
      have HX3 : Hid (x3.length = 16) := Lib.hid (by rw [HE3.out]; exact columns_len _ _)
      obtain ⟨x4, HE4⟩ : ∃ x4, Hid (x4 = xorL x3 kn) := ⟨_, Lib.hid rfl⟩
      have HX4 : Hid (x4.length = 16) := Lib.hid (by rw [HE4.out]; exact xorL_len16 _ _ HX3.out HKN.out)
      have HA : Hid (Ar wr G 0 x0) := Lib.hid (by rw [HE0.out]; exact ha.out)
      have HK : Hid (∀ W : World, Below wr.heap.size wr W → TabC W cb b lo ∧ Tab W lo b bys true ∧ ldN (.pointer (some ⟨cb, 1 + (p + 1) * 16, none⟩)) W = .ok (.value (AV kn)) W ∧ W.there G 0 16) := Lib.hid (fun W hW => by
        have hc := HCF.out.below (hb.out.trans (hW.mono hb.out.size))
        have ht := HTB.out.below (hb.out.trans (hW.mono hb.out.size))
        exact ⟨⟨hc.ptr, ht⟩, ht, by rw [HKNE.out]; exact hc.ldk hk (p + 1) (by omega), (HA.out.below hW (HA.out.lt (by rw [HX0.out]; omega))).there16 HX0.out⟩)
      have hlx := HX4.out
      have hla : ldN (.pointer (some ⟨G, 0, none⟩)) wr.drew = .ok (.value (AV x0)) wr.drew := ldN_ar _ _ _ _ HA.out.drew HX0.out
      obtain ⟨⟨q0, _⟩, _, q1, q2⟩ := HK.out wr (Below.refl _ _)
      obtain ⟨⟨r0, _⟩, _, r1, r2⟩ := HK.out wr.drew (Below.refl _ _).drew
      refine wp_region_held_drew (S := fun w' => w'.cell? ⟨cb, 0, none⟩ = some (.pointer (some ⟨b, 0, none⟩)) ∧ ldN (.pointer (some ⟨cb, 1 + (p + 1) * 16, none⟩)) w' = .ok (.value (AV kn)) w') (by kernel_rfl) ⟨r0, r1⟩ (fun hHeld => ?_)
      (try dsimp only at hHeld)
      refine wpAnyH_take (i := 1) (v := ?v6) rfl (by kernel_rfl) (by kernel_rfl) (by kernel_rfl) (fun _ _ _ h => h) (Or.inl ⟨by rfl, ?hy6⟩) hHeld ?_
      case hy6 => (intro w hSw; (try dsimp only at hSw); (try simp only [List.getElem_toArray, List.getElem_cons_zero, List.getElem_cons_succ]); go_simp <;> with_reducible rfl)
      (try simp only [Act.put, List.setIfInBounds_toArray, List.set_cons_zero, List.set_cons_succ])
      refine wpAnyH_take (i := 2) (v := ?v7) rfl (by kernel_rfl) (by kernel_rfl) (by kernel_rfl) (fun _ _ _ h => h) (Or.inl ⟨by rfl, ?hy7⟩) hHeld ?_
      case hy7 => (intro w hSw; (try dsimp only at hSw); (try simp only [List.getElem_toArray, List.getElem_cons_zero, List.getElem_cons_succ]); go_simp <;> with_reducible rfl)
      (try simp only [Act.put, List.setIfInBounds_toArray, List.set_cons_zero, List.set_cons_succ])
      refine wpAnyH_take (i := 3) (v := ?v8) rfl (by kernel_rfl) (by kernel_rfl) (by kernel_rfl) (fun _ _ _ h => h) (Or.inl ⟨by rfl, ?hy8⟩) hHeld ?_
      case hy8 => (intro w hSw; (try dsimp only at hSw); (try simp only [List.getElem_toArray, List.getElem_cons_zero, List.getElem_cons_succ]); go_simp <;> with_reducible rfl)
      (try simp only [Act.put, List.setIfInBounds_toArray, List.set_cons_zero, List.set_cons_succ])
      refine wpAnyH_take (i := 4) (v := ?v9) rfl (by kernel_rfl) (by kernel_rfl) (by kernel_rfl) (fun _ _ _ h => h) (Or.inl ⟨by rfl, ?hy9⟩) hHeld ?_
      case hy9 => (intro w hSw; (try dsimp only at hSw); (try simp only [List.getElem_toArray, List.getElem_cons_zero, List.getElem_cons_succ]); go_simp <;> with_reducible rfl)
      (try simp only [Act.put, List.setIfInBounds_toArray, List.set_cons_zero, List.set_cons_succ])
      refine wpAnyH_take (i := 5) (v := ?v10) rfl (by kernel_rfl) (by kernel_rfl) (by kernel_rfl) (fun _ _ _ h => h) (Or.inl ⟨by rfl, ?hy10⟩) hHeld ?_
      case hy10 => (intro w hSw; (try dsimp only at hSw); (try simp only [List.getElem_toArray, List.getElem_cons_zero, List.getElem_cons_succ]); go_simp <;> with_reducible rfl)
      (try simp only [Act.put, List.setIfInBounds_toArray, List.set_cons_zero, List.set_cons_succ])
      refine wpAnyH_take (i := 8) (v := ?v11) rfl (by kernel_rfl) (by kernel_rfl) (by kernel_rfl) (fun _ _ _ h => h) (Or.inl ⟨by rfl, ?hy11⟩) hHeld ?_
      case hy11 => (intro w hSw; (try dsimp only at hSw); (try simp only [List.getElem_toArray, List.getElem_cons_zero, List.getElem_cons_succ]); go_simp <;> with_reducible rfl)
      (try simp only [Act.put, List.setIfInBounds_toArray, List.set_cons_zero, List.set_cons_succ])
      refine wpAnyH_take (i := 9) (v := ?v12) rfl (by kernel_rfl) (by kernel_rfl) (by kernel_rfl) (fun _ _ _ h => h) (Or.inl ⟨by rfl, ?hy12⟩) hHeld ?_
      case hy12 => (intro w hSw; (try dsimp only at hSw); (try simp only [List.getElem_toArray, List.getElem_cons_zero, List.getElem_cons_succ]); go_simp <;> with_reducible rfl)
      (try simp only [Act.put, List.setIfInBounds_toArray, List.set_cons_zero, List.set_cons_succ])
      refine wpAnyH_take (i := 11) (v := ?v13) rfl (by kernel_rfl) (by kernel_rfl) (by kernel_rfl) (fun _ _ _ h => h) (Or.inl ⟨by rfl, ?hy13⟩) hHeld ?_
      case hy13 => (intro w hSw; (try dsimp only at hSw); (try simp only [List.getElem_toArray, List.getElem_cons_zero, List.getElem_cons_succ]); go_simp <;> with_reducible rfl)
      (try simp only [Act.put, List.setIfInBounds_toArray, List.set_cons_zero, List.set_cons_succ])
      refine wpAnyH_take (i := 12) (v := ?v14) rfl (by kernel_rfl) (by kernel_rfl) (by kernel_rfl) (fun _ _ _ h => h) (Or.inl ⟨by rfl, ?hy14⟩) hHeld ?_
      case hy14 => (intro w hSw; (try dsimp only at hSw); (try simp only [List.getElem_toArray, List.getElem_cons_zero, List.getElem_cons_succ]); go_simp <;> with_reducible rfl)
      (try simp only [Act.put, List.setIfInBounds_toArray, List.set_cons_zero, List.set_cons_succ])
      refine wpAnyH_take (i := 13) (v := ?v15) rfl (by kernel_rfl) (by kernel_rfl) (by kernel_rfl) (fun _ _ _ h => h) (Or.inl ⟨by rfl, ?hy15⟩) hHeld ?_
      case hy15 => (intro w hSw; (try dsimp only at hSw); (try simp only [List.getElem_toArray, List.getElem_cons_zero, List.getElem_cons_succ]); go_simp <;> with_reducible rfl)
      (try simp only [Act.put, List.setIfInBounds_toArray, List.set_cons_zero, List.set_cons_succ])
      refine wpAnyH_take (i := 14) (v := ?v16) rfl (by kernel_rfl) (by kernel_rfl) (by kernel_rfl) (fun _ _ _ h => h) (Or.inl ⟨by rfl, ?hy16⟩) hHeld ?_
      case hy16 => (intro w hSw; (try dsimp only at hSw); (try simp only [List.getElem_toArray, List.getElem_cons_zero, List.getElem_cons_succ]); go_simp <;> with_reducible rfl)
      (try simp only [Act.put, List.setIfInBounds_toArray, List.set_cons_zero, List.set_cons_succ])
      refine wpAnyH_take (i := 15) (v := ?v17) rfl (by kernel_rfl) (by kernel_rfl) (by kernel_rfl) (fun _ _ _ h => h) (Or.inl ⟨by rfl, ?hy17⟩) hHeld ?_
      case hy17 => (intro w hSw; (try dsimp only at hSw); (try simp only [List.getElem_toArray, List.getElem_cons_zero, List.getElem_cons_succ]); go_simp <;> with_reducible rfl)
      (try simp only [Act.put, List.setIfInBounds_toArray, List.set_cons_zero, List.set_cons_succ])
      refine wpAnyH_take (i := 16) (v := ?v18) rfl (by kernel_rfl) (by kernel_rfl) (by kernel_rfl) (fun _ _ _ h => h) (Or.inl ⟨by rfl, ?hy18⟩) hHeld ?_
      case hy18 => (intro w hSw; (try dsimp only at hSw); (try simp only [List.getElem_toArray, List.getElem_cons_zero, List.getElem_cons_succ]); go_simp <;> with_reducible rfl)
      (try simp only [Act.put, List.setIfInBounds_toArray, List.set_cons_zero, List.set_cons_succ])
      refine wpAnyH_ready (rs := [0]) (by kernel_rfl) (by simp) ?_
      refine AllReadyH.cons rfl (fun K hK => ?_) AllReadyH.nil
      (try simp only [List.getElem_toArray, List.getElem_cons_zero, List.getElem_cons_succ])
      go_simp
      refine hK.out _ _ hHeld (fun hHeld => ?_)
      clear hK K
      (try simp only [Act.put, List.setIfInBounds_toArray, List.set_cons_zero, List.set_cons_succ])
      refine wpAnyH_ready (rs := [6]) (by kernel_rfl) (by simp) ?_
      refine AllReadyH.cons rfl (fun K hK => ?_) AllReadyH.nil
      (try simp only [List.getElem_toArray, List.getElem_cons_zero, List.getElem_cons_succ])
      go_simp
      refine (eachS_any lo b bys (by decide) x0 _ HX0.out (by exact (HK.out _ ((Below.refl wr.heap.size wr).drew)).2.1)).mono ?_; rw [← HE1.out]; rintro e w1 ⟨rfl, hb⟩; have HB1 : Hid (Below wr.heap.size wr w1) := Lib.hid ((Below.refl wr.heap.size wr).drew.trans (show Below wr.heap.size wr.drew w1 from hb)); clear hb; obtain ⟨⟨q0, _⟩, _, q1, q2⟩ := HK.out w1 HB1.out
      (try go_wp2_with fail)
      refine hK.out _ _ ⟨q0, q1⟩ (fun hHeld => ?_)
      clear hK K
      (try simp only [Act.put, List.setIfInBounds_toArray, List.set_cons_zero, List.set_cons_succ])
      refine wpAnyH_ready (rs := [7]) (by kernel_rfl) (by simp) ?_
      refine AllReadyH.cons rfl (fun K hK => ?_) AllReadyH.nil
      (try simp only [List.getElem_toArray, List.getElem_cons_zero, List.getElem_cons_succ])
      go_simp
      refine (shift_any x1 _ HX1.out).mono ?_; rw [← HE2.out]; rintro e w2 ⟨rfl, hb⟩; have HB2 : Hid (Below wr.heap.size wr w2) := Lib.hid (HB1.out.trans (hb.mono HB1.out.size)); clear hb; obtain ⟨⟨q0, _⟩, _, q1, q2⟩ := HK.out w2 HB2.out
      (try go_wp2_with fail)
      refine hK.out _ _ ⟨q0, q1⟩ (fun hHeld => ?_)
      clear hK K
      (try simp only [Act.put, List.setIfInBounds_toArray, List.set_cons_zero, List.set_cons_succ])
      refine wpAnyH_ready (rs := [10]) (by kernel_rfl) (by simp) ?_
      refine AllReadyH.cons rfl (fun K hK => ?_) AllReadyH.nil
      (try simp only [List.getElem_toArray, List.getElem_cons_zero, List.getElem_cons_succ])
      go_simp
      refine (columns_mix cb b lo x2 _ HX2.out (by exact (HK.out _ HB2.out).1)).mono ?_; rw [← HE3.out]; rintro e w3 ⟨rfl, hb⟩; have HB3 : Hid (Below wr.heap.size wr w3) := Lib.hid (HB2.out.trans (hb.mono HB2.out.size)); clear hb; obtain ⟨⟨q0, _⟩, _, q1, q2⟩ := HK.out w3 HB3.out
      (try go_wp2_with fail)
      refine hK.out _ _ ⟨q0, q1⟩ (fun hHeld => ?_)
      clear hK K
      (try simp only [Act.put, List.setIfInBounds_toArray, List.set_cons_zero, List.set_cons_succ])
      refine wpAnyH_ready (rs := [17]) (by kernel_rfl) (by simp) ?_
      refine AllReadyH.cons rfl (fun K hK => ?_) AllReadyH.nil
      (try simp only [List.getElem_toArray, List.getElem_cons_zero, List.getElem_cons_succ])
      go_simp
      refine (sadd_any x3 kn _ HX3.out HKN.out).mono ?_; rw [← HE4.out]; rintro e w4 ⟨rfl, hb⟩; have HB4 : Hid (Below wr.heap.size wr w4) := Lib.hid (HB3.out.trans (hb.mono HB3.out.size)); clear hb; obtain ⟨⟨q0, _⟩, _, q1, q2⟩ := HK.out w4 HB4.out
      (try go_wp2_with fail)
      refine hK.out _ _ ⟨q0, q1⟩ (fun hHeld => ?_)
      clear hK K
      (try simp only [Act.put, List.setIfInBounds_toArray, List.set_cons_zero, List.set_cons_succ])
      refine wpAnyH_ready (rs := [18]) (by kernel_rfl) (by simp) ?_
      refine AllReadyH.cons rfl (fun K hK => ?_) AllReadyH.nil
      (try simp only [List.getElem_toArray, List.getElem_cons_zero, List.getElem_cons_succ])
      go_simp
      refine hK.out _ _ ⟨((HCF.out.below (hb.out.trans (HB4.out.mono hb.out.size))).block (heap_setCells G cb (by have := HGC.out; omega) _ _ _)).ptr, by rw [HKNE.out]; exact (((HCF.out.below (hb.out.trans (HB4.out.mono hb.out.size))).block (heap_setCells G cb (by have := HGC.out; omega) _ _ _)).ldk hk (p + 1) (by omega))⟩ (fun _ => ?_)
      clear hK K
      (try simp only [Act.put, List.setIfInBounds_toArray, List.set_cons_zero, List.set_cons_succ])
      refine wpAnyH_done (by kernel_rfl) ?_ _
      obtain ⟨WX, HWX⟩ : ∃ WX, Hid (WX = w4.setCells G 0 (bvs x4)) := ⟨_, Lib.hid rfl⟩
      rw [← HWX.out]
      have HBX : Hid (Below w.heap.size w WX) := Lib.hid (by rw [HWX.out]; exact below_setCells (hb.out.trans (HB4.out.mono hb.out.size)) (by rw [HG.out]; omega) _ _)
      have HAX : Hid (Ar WX G 0 x4) := Lib.hid (by rw [HWX.out]; exact (HA.out.below HB4.out (HA.out.lt (by rw [HX0.out]; omega))).whole x4 (by rw [HX4.out, HX0.out]))
      have HZX : Hid (Ar WX (G + 1) 0 zeros16) := Lib.hid (by rw [HWX.out]; exact (hz.out.below HB4.out (hz.out.lt (by simp [zeros16]))).setCells (by omega) _ _)
      go_wp2_with fail
      go_roundw
      case rel =>
        have he : encUp key tableL s (p + 1) = x4 := by
          rw [HE4.out, HE3.out, HE2.out, HE1.out, HE0.out, HKNE.out, ← subs_table]
          rw [encUp, if_pos (by omega)]
        exact ⟨p + 1, by omega, by go_num, HBX, Lib.hid (by rw [he]; exact HAX.out), HZX⟩
      case measure => simp [intOf]; omega
    · obtain rfl : p = 9 := by omega
      go_wp2_with fail
      obtain ⟨kn, HKNE⟩ : ∃ kn, Hid (kn = keyF key tableL 10) := ⟨_, Lib.hid rfl⟩
      have HKN : Hid (kn.length = 16) := Lib.hid (by rw [HKNE.out]; exact keyF_len key tableL hk _ (by omega))
      obtain ⟨x0, HE0⟩ : ∃ x0, Hid (x0 = encUp key tableL s 9) := ⟨_, Lib.hid rfl⟩
      have HX0 : Hid (x0.length = 16) := Lib.hid (by rw [HE0.out]; exact encUp_len key tableL s hk HS.out 9 (by omega))
      obtain ⟨x1, HE1⟩ : ∃ x1, Hid (x1 = x0.map subB) := ⟨_, Lib.hid rfl⟩
      have HX1 : Hid (x1.length = 16) := Lib.hid (by rw [HE1.out]; exact (by rw [List.length_map]; exact HX0.out))
      obtain ⟨x2, HE2⟩ : ∃ x2, Hid (x2 = rowsL x1 1) := ⟨_, Lib.hid rfl⟩
      have HX2 : Hid (x2.length = 16) := Lib.hid (by rw [HE2.out]; exact rowsL_len _ _)
      obtain ⟨x3, HE3⟩ : ∃ x3, Hid (x3 = xorL x2 kn) := ⟨_, Lib.hid rfl⟩
      have HX3 : Hid (x3.length = 16) := Lib.hid (by rw [HE3.out]; exact xorL_len16 _ _ HX2.out HKN.out)
      have HA : Hid (Ar wr G 0 x0) := Lib.hid (by rw [HE0.out]; exact ha.out)
      have HK : Hid (∀ W : World, Below wr.heap.size wr W → TabC W cb b lo ∧ Tab W lo b bys true ∧ ldN (.pointer (some ⟨cb, 161, none⟩)) W = .ok (.value (AV kn)) W ∧ W.there (G + 1) 0 16) := Lib.hid (fun W hW => by
        have hc := HCF.out.below (hb.out.trans (hW.mono hb.out.size))
        have ht := HTB.out.below (hb.out.trans (hW.mono hb.out.size))
        exact ⟨⟨hc.ptr, ht⟩, ht, by rw [HKNE.out]; exact hc.ldk hk 10 (by omega), (hz.out.below hW (hz.out.lt (by simp [zeros16]))).there16 rfl⟩)
      have hlx := HX3.out
      have hla : ldN (.pointer (some ⟨G, 0, none⟩)) wr.drew = .ok (.value (AV x0)) wr.drew := ldN_ar _ _ _ _ HA.out.drew HX0.out
      obtain ⟨⟨q0, _⟩, _, q1, q2⟩ := HK.out wr (Below.refl _ _)
      obtain ⟨⟨r0, _⟩, _, r1, r2⟩ := HK.out wr.drew (Below.refl _ _).drew
      have HLD : Hid (∀ W : World, Below wr.heap.size wr W → ldN (.pointer (some ⟨G, 0, none⟩)) W = .ok (.value (AV x0)) W) := Lib.hid (fun W hW => ldN_ar _ _ _ _ (HA.out.below hW (HA.out.lt (by rw [HX0.out]; omega))) HX0.out)
      go_region_held3 (fun w' => ldN (.pointer (some ⟨G, 0, none⟩)) w' = .ok (.value (AV x0)) w' ∧ w'.cell? ⟨cb, 0, none⟩ = some (.pointer (some ⟨b, 0, none⟩)) ∧ ldN (.pointer (some ⟨cb, 161, none⟩)) w' = .ok (.value (AV kn)) w') (first | (exact ⟨by assumption, by assumption, by assumption⟩) | (exact ⟨ldN_ar _ _ _ _ (((HA.out.below HB3.out (HA.out.lt (by rw [HX0.out]; omega)))).setCells (by omega) _ _) HX0.out, ((HCF.out.below (hb.out.trans (HB3.out.mono hb.out.size))).block (heap_setCells (G + 1) cb (by have := HGC.out; omega) _ _ _)).ptr, by rw [HKNE.out]; exact (((HCF.out.below (hb.out.trans (HB3.out.mono hb.out.size))).block (heap_setCells (G + 1) cb (by have := HGC.out; omega) _ _ _)).ldk hk 10 (by omega))⟩)) (first | (go_at_call 63; refine (eachS_any lo b bys (by decide) x0 _ HX0.out (by exact (HK.out _ ((Below.refl wr.heap.size wr).drew)).2.1)).mono ?_; rw [← HE1.out]; rintro e w1 ⟨rfl, hb⟩; have HB1 : Hid (Below wr.heap.size wr w1) := Lib.hid ((Below.refl wr.heap.size wr).drew.trans (show Below wr.heap.size wr.drew w1 from hb)); clear hb; have ql := HLD.out _ HB1.out; obtain ⟨⟨q0, _⟩, _, q1, q2⟩ := HK.out w1 HB1.out) | (go_at_call 65; refine (shift_any x1 _ HX1.out).mono ?_; rw [← HE2.out]; rintro e w2 ⟨rfl, hb⟩; have HB2 : Hid (Below wr.heap.size wr w2) := Lib.hid (HB1.out.trans (hb.mono HB1.out.size)); clear hb; have ql := HLD.out _ HB2.out; obtain ⟨⟨q0, _⟩, _, q1, q2⟩ := HK.out w2 HB2.out) | (go_at_call 62; refine (sadd_any x2 kn _ HX2.out HKN.out).mono ?_; rw [← HE3.out]; rintro e w3 ⟨rfl, hb⟩; have HB3 : Hid (Below wr.heap.size wr w3) := Lib.hid (HB2.out.trans (hb.mono HB2.out.size)); clear hb; have ql := HLD.out _ HB3.out; obtain ⟨⟨q0, _⟩, _, q1, q2⟩ := HK.out w3 HB3.out))
      obtain ⟨WX, HWX⟩ : ∃ WX, Hid (WX = w3.setCells (G + 1) 0 (bvs x3)) := ⟨_, Lib.hid rfl⟩
      rw [← HWX.out]
      have HBX : Hid (Below w.heap.size w WX) := Lib.hid (by rw [HWX.out]; exact below_setCells (hb.out.trans (HB3.out.mono hb.out.size)) (by rw [HG.out]; omega) _ _)
      go_wp2_with fail
      have he : R = x3 := by
        rw [HR.out, HE3.out, HE2.out, HE1.out, HE0.out, HKNE.out, ← subs_table]
        unfold encL
        rw [encUp, if_neg (by omega)]
      have HZF : Ar WX (G + 1) 0 x3 := by rw [HWX.out]; exact (hz.out.below HB3.out (hz.out.lt (by simp [zeros16]))).whole x3 (by rw [HX3.out]; rfl)
      rw [he]
      exact bodyPost_ret (v := AV x3) (res_cell rfl _ _ (G + 1) 4 _ x3 rfl HZF up_sq (by rw [HX3.out]; exact sz_sq)) rfl ⟨rfl, HBX.out⟩
end Go.Proofs.YtmpidjadpcpbfaaGreat

/- aes's decrypt of a square. Condition: the cipher is as New leaves it. (Written by wip/tools/gen_crypt.py.) -/
namespace Go.Proofs.YtmpidjadpcpbfaaGreat
attribute [local irreducible] wsW keyUpTo keyF lastW turn0 encUp decUp
open Go.RowKit
set_option linter.unusedVariables false
set_option linter.unusedSimpArgs false

end Go.Proofs.YtmpidjadpcpbfaaGreat

