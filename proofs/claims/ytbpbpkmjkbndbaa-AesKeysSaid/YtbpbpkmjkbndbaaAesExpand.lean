/- aes's expand: the round keys. Condition: the cipher is as New lays it. -/
import Derived.Test.YtbpbpkmjkbndbaaAesObj
import Derived.Test.YtbpbpkmjkbndbaaAesSqMem
namespace Go.Proofs.Ytbpbpkmjkbndbaa
attribute [local irreducible] wsW keyUpTo keyF lastW turn0
open Go.RowKit
set_option linter.unusedVariables false

theorem last0_len (key t : List UInt8) (n : Nat) : (lastW key t n 0).length = 4 := by unfold lastW; rw [if_pos rfl]; exact turn0_len _ _ _
/-- What expand leaves. -/
def Expanded (B cb lo b : Nat) (v : Value) (key : List UInt8) (w : World) (e : Ending) (w' : World) : Prop :=
  e = .returned (.tuple #[]) ∧ Below B w w' ∧ Tab w' lo b bys true ∧ Cf cb b v w' (keysF key tableL)

set_option maxRecDepth 100000 in
set_option maxHeartbeats 4000000 in
theorem expand_any (B cb lo b : Nat) (v : Value) (key : List UInt8) (d : Bool) (w : World) (hk : key.length = 16) (hB : B ≤ cb ∧ B ≤ b) (h : Tab w lo b bys d) (hc : Cf cb b v w (List.replicate 176 0)) :
    Calls Try.prog 23 #[.pointer (some ⟨cb, 0, none⟩), AV key] w (Expanded B cb lo b v key w) := by
  have HK := Lib.hid hk
  have HB := Lib.hid hB
  obtain ⟨G, HG⟩ : ∃ G, Hid (G = w.heap.size) := ⟨_, Lib.hid rfl⟩
  obtain ⟨W0, HW0⟩ : ∃ W0, Hid (W0 = w.alloc (.cells (bvs key).toArray 49)) := ⟨_, Lib.hid rfl⟩
  have hbel : Below w.heap.size w W0 := by rw [HW0.out]; exact below_alloc w _
  have hBw : B ≤ w.heap.size := by have := hc.lt; omega
  have HBEL : Hid (Below B w W0) := Lib.hid (hbel.mono hBw)
  have HT := Lib.hid (h.below hbel)
  have hcf := hc.below hbel
  have HC := Lib.hid hcf
  have hcg : cb ≠ G := by have := hc.lt; have := HG.out; omega
  have HAG : Hid (Ar W0.drew G 0 key) := Lib.hid (by rw [HW0.out, HG.out]; exact (Ar.new w key _).drew)
  have hr : ldN (.pointer (some ⟨G, 0, none⟩)) W0.drew = .ok (.value (AV key)) W0.drew := ldN_ar _ _ _ _ HAG.out hk
  have ht : W0.there cb 1 16 := fun j hj => (hcf.ar.part 0 16 (by simp)).2 j (by rw [bvs_length, cutL_len _ _ _ (by simp)]; exact hj)
  clear hB h hc hbel hcf
  go_enter Try.func23, Try.ntmps23
  go_wp2_with (first | (refine wpList_boxA rfl _ (.tmp 1) rfl key rfl ?_))
  rw [← HW0.out, ← HG.out]
  go_region_held3 (fun w' => ldN (.pointer (some ⟨G, 0, none⟩)) w' = .ok (.value (AV key)) w') (first | assumption | (exact ldN_ar _ _ _ _ (HAG.out.setCells hcg _ _) hk)) (fail)
  obtain ⟨W1, HW1⟩ : ∃ W1, Hid (W1 = W0.drew.setCells cb 1 (bvs key)) := ⟨_, Lib.hid rfl⟩
  rw [← HW1.out]
  have HC1 : Hid (Cf cb b v W1 (keyUpTo key tableL 4)) := Lib.hid (by
    have := HC.out.drew.lay 0 key (by omega)
    rw [keyUpTo_first key tableL hk] at this
    rw [HW1.out]; exact this)
  have HB1 : Hid (Below B w W1) := Lib.hid (by rw [HW1.out]; exact below_setCells HBEL.out.drew HB.out.1 _ _)
  have HT1 : Hid (Tab W1 lo b bys d) := Lib.hid (by
    refine HT.out.apartJ (by decide) 0 (by omega) HC.out.nob HC.out.ne (fun q _ hq => ?_)
    rw [HW1.out]
    exact heap_setCells cb q hq _ _ _)
  clear hr ht hcg HAG HT HC HBEL
  go_wp2_with fail
  go_loopw [4] (fun i wr => ∃ (p : Nat) (d' : Bool), p ≤ 10 ∧ i = .int .i64 ((p : Int) + 1) ∧ Hid (Tab wr lo b bys d') ∧ Hid (0 < p → d' = true) ∧ Hid (Below B w wr) ∧ Hid (Cf cb b v wr (keyUpTo key tableL (4 * (p + 1))))) (fun i _ => 11 - (intOf i).toNat)
  case atStart => exact ⟨0, d, by omega, rfl, HT1, Lib.hid (fun h => absurd h (by omega)), HB1, HC1⟩
  case round =>
    clear HC1 HB1 HT1
    obtain ⟨p, d', hp, rfl, htb, hd', hb, hc⟩ := hrel
    by_cases hlt : p < 10
    · have hdec : decide ((p : Int) + 1 ≤ 10) = true := decide_eq_true (by omega)
      obtain ⟨kp, HKP⟩ : ∃ kp, Hid (kp = keyF key tableL p) := ⟨_, Lib.hid rfl⟩
      have HKL : Hid (kp.length = 16) := Lib.hid (by rw [HKP.out]; exact keyF_len key tableL hk p (by omega))
      have HP : Hid (Ar wr cb (1 + p * 16) kp) := Lib.hid (by
        have := hc.out.ar.part (16 * p) 16 (by rw [hc.out.len]; omega)
        rw [keyUpTo_cut16 key tableL hk p (4 * (p + 1)) (by omega) (by omega), ← HKP.out, Nat.mul_comm 16 p] at this
        exact this)
      have HZA : Hid (Ar (wr.alloc (.cells (bvs zeros16).toArray 49)) wr.heap.size 0 zeros16) := Lib.hid (Ar.new _ _ _)
      have h1 : IntKind.i64.wrap (p : Int) = (p : Int) := IntWalk.i64_in _ (by omega)
      have h2 : (p : Int) < 11 := by omega
      obtain ⟨W5, HW5⟩ : ∃ W5, Hid (W5 = (wr.alloc (.cells (bvs zeros16).toArray 49)).setCells wr.heap.size 0 (bvs kp)) := ⟨_, Lib.hid rfl⟩
      obtain ⟨g5, Hg5⟩ : ∃ g5, Hid (g5 = wr.heap.size) := ⟨_, Lib.hid rfl⟩
      have hb5 : Below wr.heap.size wr W5 := by rw [HW5.out]; exact below_setCells (below_alloc wr _) (Nat.le_refl _) _ _
      have HB5 := Lib.hid hb5
      have hA5 : Ar ((wr.alloc (.cells (bvs zeros16).toArray 49)).setCells wr.heap.size 0 (bvs kp)) wr.heap.size 0 kp := HZA.out.whole kp (by rw [HKL.out]; rfl)
      have HA5 : Hid (Ar W5 g5 0 kp) := Lib.hid (by rw [HW5.out, Hg5.out]; exact hA5)
      obtain ⟨l3, HL3⟩ : ∃ l3, Hid (l3 = wsW key tableL (4 * (p + 1) - 1)) := ⟨_, Lib.hid rfl⟩
      have HL34 : Hid (l3.length = 4) := Lib.hid (by rw [HL3.out]; exact wsW_len key tableL hk _ (by omega))
      have HA3 : Hid (Ar ((wr.alloc (.cells (bvs zeros16).toArray 49)).setCells wr.heap.size 0 (bvs kp)) wr.heap.size 12 l3) := Lib.hid (by
        have := hA5.part 12 4 (by rw [HKL.out]; omega)
        rw [HKP.out, show (12 : Nat) = 4 * 3 from rfl, keyF_cut key tableL hk p 3 (by omega) (by omega), show 4 * p + 3 = 4 * (p + 1) - 1 by omega, ← HL3.out, ← HKP.out] at this
        exact this)
      clear hA5 hb5
      obtain ⟨l0, HL0⟩ : ∃ l0, Hid (l0 = lastW key tableL (p + 1) 0) := ⟨_, Lib.hid rfl⟩
      have HL04 : Hid (l0.length = 4) := Lib.hid (by rw [HL0.out]; exact last0_len _ _ _)
      have HTURN : Hid (turn0 tableL l3 (p + 1 - 1) = l0) := Lib.hid (by rw [HL3.out, HL0.out]; unfold lastW; rw [if_pos rfl])
      have HTB5 : Hid (Tab ((wr.alloc (.cells (bvs zeros16).toArray 49)).setCells wr.heap.size 0 (bvs kp)) lo b bys d') := Lib.hid (htb.out.below (by rw [← HW5.out]; exact HB5.out))
      have HC5 : Hid (Cf cb b v ((wr.alloc (.cells (bvs zeros16).toArray 49)).setCells wr.heap.size 0 (bvs kp)) (keyUpTo key tableL (4 * (p + 1)))) := Lib.hid (hc.out.below (by rw [← HW5.out]; exact HB5.out))
      go_wp2_with (first | (refine wpList_ldA rfl _ (.tmp 23) rfl cb (1 + p * 16) 4 _ rfl kp (by exact HP.out) up_sq (by rw [HKL.out]; exact sz_sq) ?_) | (refine wpList_stA rfl _ (.tmp 5) (.tmp 24) rfl wr.heap.size 0 rfl kp zeros16 rfl (by exact HZA.out) (by rw [HKL.out]; rfl) (by rw [HKL.out]; exact sz_sq) ?_) | (refine wpList_ldA rfl _ (.tmp 26) rfl wr.heap.size 12 4 _ rfl l3 (by exact HA3.out) up_word (by rw [HL34.out]; exact sz_word) ?_))
      refine (turn_any cb lo b bys l3 d' (p + 1) _ HL34.out (by decide) (by omega) HC5.out.ne (by exact HC5.out.ptr) (by exact HTB5.out)).mono ?_
      rw [HTURN.out, ← Hg5.out]
      rintro e w1 ⟨rfl, hb1, ht1, _⟩
      have hbu : But b W5 w1 := by rw [HW5.out, ← Hg5.out]; exact hb1
      have hc5 : Cf cb b v W5 (keyUpTo key tableL (4 * (p + 1))) := by rw [HW5.out]; exact HC5.out
      have hbw : b < wr.heap.size := htb.out.lt
      have HC1 := Lib.hid (hc5.but hbu)
      have HA51 : Hid (Ar w1 g5 0 kp) := Lib.hid (HA5.out.block (hbu.block g5 (HA5.out.lt (by rw [HKL.out]; omega)) (by have := Hg5.out; omega)))
      have HT1 := Lib.hid ht1
      have HB1 : Hid (Below B w w1) := Lib.hid ((hb.out.trans (HB5.out.mono (Nat.le_trans hBw hb.out.size))).trans (hbu.below HB.out.2 (Nat.lt_of_lt_of_le hbw HB5.out.size)))
      obtain ⟨g6, Hg6⟩ : ∃ g6, Hid (g6 = w1.heap.size) := ⟨_, Lib.hid rfl⟩
      have HZ6 : Hid (Ar (w1.alloc (.cells (bvs [0, 0, 0, 0]).toArray 47)) w1.heap.size 0 [0, 0, 0, 0]) := Lib.hid (Ar.new _ _ _)
      obtain ⟨W6, HW6⟩ : ∃ W6, Hid (W6 = (w1.alloc (.cells (bvs [0, 0, 0, 0]).toArray 47)).setCells w1.heap.size 0 (bvs l0)) := ⟨_, Lib.hid rfl⟩
      have hb6 : Below w1.heap.size w1 W6 := by rw [HW6.out]; exact below_setCells (below_alloc w1 _) (Nat.le_refl _) _ _
      have HB6 : Hid (Below B w W6) := Lib.hid (HB1.out.trans (hb6.mono (Nat.le_trans hBw HB1.out.size)))
      have HC6 := Lib.hid (HC1.out.below hb6)
      have HT6 := Lib.hid (HT1.out.below hb6)
      have HA6 : Hid (Ar W6 g6 0 l0) := Lib.hid (by rw [HW6.out, Hg6.out]; exact HZ6.out.whole l0 (by rw [HL04.out]; rfl))
      have HA56 : Hid (Ar ((w1.alloc (.cells (bvs [0, 0, 0, 0]).toArray 47)).setCells w1.heap.size 0 (bvs l0)) g5 0 kp) := Lib.hid (HA51.out.below (by rw [← HW6.out]; exact hb6) (HA51.out.lt (by rw [HKL.out]; omega)))
      have HN6 : Hid (¬ ∃ x : UInt8, W6.cell? ⟨g6, 4, none⟩ = some (bv x)) := Lib.hid (by
        rw [HW6.out, Hg6.out, World.cell?_setCells_out _ (bvs l0) 0 _ ⟨w1.heap.size, 4, none⟩ (fun _ _ => by rw [bvs_length, HL04.out]; right; exact Nat.le_refl _), World.cell?_alloc_at _ _ _ _ rfl]
        simp [bvs])
      have HG6 : Hid (g6 ≠ cb ∧ g6 ≠ b ∧ B ≤ g6) := Lib.hid (by have h1 := HC1.out.lt; have h2 := HT1.out.lt; have h3 := Hg6.out; have h4 := HB.out; omega)
      clear hbu hc5 hb1 ht1 hb6 HC5 HTB5 HA3 HZA HP HA5 HA51 HC1 HT1 HB1 hc htb hb
      go_wp2_with (first | (refine wpList_stA rfl _ (.tmp 6) (.tmp 29) rfl w1.heap.size 0 rfl l0 [0, 0, 0, 0] rfl (by exact HZ6.out) (by rw [HL04.out]; rfl) (by rw [HL04.out]; exact sz_word) ?_) | (refine wpList_ldA rfl _ (.tmp 5) rfl g5 0 4 _ rfl kp (by exact HA56.out) up_sq (by rw [HKL.out]; exact sz_sq) ?_))
      show Code.wp _ _ _ _ ((w1.alloc (.cells (bvs [0, 0, 0, 0]).toArray 47)).setCells w1.heap.size 0 (bvs l0))
      rw [← HW6.out, ← Hg6.out]
      clear HZ6 HA56
      go_loopw [31] (fun i ws => ∃ j : Nat, j ≤ 4 ∧ i = .int .i64 j ∧ Hid (Tab ws lo b bys true) ∧ Hid (Below B w ws) ∧ Hid (Cf cb b v ws (keyUpTo key tableL (4 * (p + 1) + j))) ∧ Hid (Ar ws g6 0 (lastW key tableL (p + 1) j)) ∧ Hid (¬ ∃ x : UInt8, ws.cell? ⟨g6, 4, none⟩ = some (bv x))) (fun i _ => 4 - (intOf i).toNat)
      case atStart => exact ⟨0, by omega, rfl, HT6, HB6, HC6, Lib.hid (by rw [← HL0.out]; exact HA6.out), HN6⟩
      case round =>
        clear HT6 HB6 HC6 HA6 HN6
        obtain ⟨j, hj, rfl, ht, hb, hc, ha, hn4⟩ := hrel
        by_cases hlt2 : j < 4
        · obtain ⟨m, HM⟩ : ∃ m, Hid (m = wsW key tableL (4 * p + j)) := ⟨_, Lib.hid rfl⟩
          have HM4 : Hid (m.length = 4) := Lib.hid (by rw [HM.out]; exact wsW_len key tableL hk _ (by omega))
          obtain ⟨la, HLA⟩ : ∃ la, Hid (la = lastW key tableL (p + 1) j) := ⟨_, Lib.hid rfl⟩
          rw [← HLA.out] at ha
          obtain ⟨hnx, hny⟩ := lastW_next key tableL (p + 1) j (by omega) hlt2
          rw [show p + 1 - 1 = p by omega, ← HLA.out, ← HM.out] at hnx
          obtain ⟨nx, HNX⟩ : ∃ nx, Hid (nx = wsW key tableL (4 * (p + 1) + j)) := ⟨_, Lib.hid rfl⟩
          rw [← HNX.out] at hnx hny
          have HN4 : Hid (nx.length = 4) := Lib.hid (by rw [HNX.out]; exact wsW_len key tableL hk _ (by omega))
          have HL4 : Hid (la.length = 4) := Lib.hid (by
            rw [HLA.out]; unfold lastW; split
            · exact turn0_len _ _ _
            · exact wsW_len key tableL hk _ (by omega))
          have HADD := Lib.hid hnx
          have HNY := Lib.hid hny
          have hidx : ∀ W : World, (Instr.index 49 (AV kp) (.int .i64 (j : Int))).run Try.prog W = .ok (AV m) W := fun W => by
            rw [HM.out, ← keyF_cut key tableL hk p j (by omega) hlt2, ← HKP.out]
            exact sidx kp HKL.out j hlt2 W
          have HZ8 : Hid (Ar (wr.alloc (.cells (bvs [0, 0, 0, 0]).toArray 47)) wr.heap.size 0 [0, 0, 0, 0]) := Lib.hid (Ar.new _ _ _)
          have hb8 : Below wr.heap.size wr ((wr.alloc (.cells (bvs [0, 0, 0, 0]).toArray 47)).setCells wr.heap.size 0 (bvs m)) := below_setCells (below_alloc wr _) (Nat.le_refl _) _ _
          have hgw : g6 < wr.heap.size := ha.out.lt (by rw [HL4.out]; omega)
          have HA8 : Hid (Ar ((wr.alloc (.cells (bvs [0, 0, 0, 0]).toArray 47)).setCells wr.heap.size 0 (bvs m)) g6 0 la) := Lib.hid (ha.out.below hb8 hgw)
          have HM8 : Hid (Ar ((wr.alloc (.cells (bvs [0, 0, 0, 0]).toArray 47)).setCells wr.heap.size 0 (bvs m)) wr.heap.size 0 m) := Lib.hid (HZ8.out.whole m (by rw [HM4.out]; rfl))
          have HB8 := Lib.hid hb8
          clear hnx hny hb8
          go_wp2_with (first | (refine wpList_stA rfl _ (.tmp 8) (.tmp 34) rfl wr.heap.size 0 rfl m [0, 0, 0, 0] rfl (by exact HZ8.out) (by rw [HM4.out]; rfl) (by rw [HM4.out]; exact sz_word) ?_) | (refine wpList_ldA rfl _ (.tmp 6) rfl g6 0 4 _ rfl la (by exact HA8.out) up_word (by rw [HL4.out]; exact sz_word) ?_) | (refine wpList_ldA rfl _ (.tmp 8) rfl wr.heap.size 0 4 _ rfl m (by exact HM8.out) up_word (by rw [HM4.out]; exact sz_word) ?_))
          refine (wadd_any la m _ HL4.out HM4.out).mono ?_
          rw [HADD.out]
          rintro e w2 ⟨rfl, hb2⟩
          have hb2' : Below wr.heap.size wr w2 := HB8.out.trans (hb2.mono HB8.out.size)
          have HA2 : Hid (Ar w2 g6 0 la) := Lib.hid (ha.out.below hb2' hgw)
          obtain ⟨W10, HW10⟩ : ∃ W10, Hid (W10 = w2.setCells g6 0 (bvs nx)) := ⟨_, Lib.hid rfl⟩
          have HB10 : Hid (Below B w W10) := Lib.hid (by
            rw [HW10.out]; exact below_setCells (hb.out.trans (hb2'.mono (by have := HG6.out; omega))) HG6.out.2.2 _ _)
          have hn2 : ¬ ∃ x : UInt8, w2.cell? ⟨g6, 4, none⟩ = some (bv x) := by rw [hb2'.cell (p := ⟨g6, 4, none⟩) hgw]; exact hn4.out
          have HT10 : Hid (Tab W10 lo b bys true) := Lib.hid (by
            rw [HW10.out]; exact (ht.out.below hb2').apart (by decide) hn2 HG6.out.2.1 (fun q hq => heap_setCells g6 q hq _ _ _))
          have HC10 : Hid (Cf cb b v W10 (keyUpTo key tableL (4 * (p + 1) + j))) := Lib.hid (by
            rw [HW10.out]; exact (hc.out.below hb2').block (heap_setCells g6 cb (fun e => HG6.out.1 e.symm) _ _ _))
          have HN10 : Hid (¬ ∃ x : UInt8, W10.cell? ⟨g6, 4, none⟩ = some (bv x)) := Lib.hid (by
            rw [HW10.out, World.cell?_setCells_out _ (bvs nx) 0 _ ⟨g6, 4, none⟩ (fun _ _ => by rw [bvs_length, HN4.out]; right; exact Nat.le_refl _)]; exact hn2)
          have HA10 : Hid (Ar W10 g6 0 nx) := Lib.hid (by rw [HW10.out]; exact HA2.out.whole nx (by rw [HN4.out, HL4.out]))
          clear hb2 hb2' hn2 HA8 HM8 HZ8 HB8 ha hb ht hc hn4
          go_wp2_with (first | (refine wpList_stA rfl _ (.tmp 6) (.tmp 37) rfl g6 0 rfl nx la rfl (by exact HA2.out) (by rw [HN4.out, HL4.out]) (by rw [HN4.out]; exact sz_word) ?_))
          rw [← HW10.out]
          have hld : ldW (.pointer (some ⟨g6, 0, none⟩)) W10.drew = .ok (.value (AV nx)) W10.drew := ldW_ar _ _ _ _ HA10.out.drew HN4.out
          have hnl := HN4.out
          have hj4 : (j : Int) < 4 := by omega
          have hth : W10.there cb (1 + (p + 1) * 16 + j * 4) 4 := by
            have := (HC10.out.ar.part (16 * (p + 1) + 4 * j) 4 (by rw [HC10.out.len]; omega)).there4 (cutL_len _ _ _ (by rw [HC10.out.len]; omega))
            rw [show 1 + (16 * (p + 1) + 4 * j) = 1 + (p + 1) * 16 + j * 4 by omega] at this
            exact this
          have hq1 : (0 : Int) ≤ (p : Int) + 1 := by omega
          have hq2 : (p : Int) + 1 < 11 := by omega
          go_region_held3 (fun w' => ldW (.pointer (some ⟨g6, 0, none⟩)) w' = .ok (.value (AV nx)) w') (first | assumption | (exact ldW_ar _ _ _ _ (HA10.out.drew.setCells (fun e => HG6.out.1 e.symm) _ _) HN4.out)) (fail)
          go_wp2_with fail
          go_roundw
          case rel =>
            have hlay := HC10.out.drew.lay (16 * (p + 1) + 4 * j) nx (by rw [HN4.out]; omega)
            rw [show 16 * (p + 1) + 4 * j = 4 * (4 * (p + 1) + j) by omega, HNX.out, keyUpTo_lay key tableL hk (4 * (p + 1) + j) (by omega), ← HNX.out, show 1 + 4 * (4 * (p + 1) + j) = 1 + (p + 1) * 16 + j * 4 by omega] at hlay
            refine ⟨j + 1, by omega, by go_num, Lib.hid ?_, Lib.hid (below_setCells HB10.out.drew HB.out.1 _ _), Lib.hid hlay, Lib.hid ?_, Lib.hid ?_⟩
            · exact HT10.out.apartJ (by decide) 0 (by omega) HC10.out.nob HC10.out.ne (fun q _ hq => heap_setCells cb q hq _ _ _)
            · rw [HNY.out]; exact HA10.out.drew.setCells (fun e => HG6.out.1 e.symm) _ _
            · rw [World.cell?_setCells_out _ (bvs nx) _ _ ⟨g6, 4, none⟩ (fun e _ => absurd e HG6.out.1)]
              exact HN10.out
          case measure => simp [intOf]; omega
        · obtain rfl : j = 4 := by omega
          have e4 : ((4 : Nat) : Int) = 4 := rfl
          rw [e4]
          clear e4
          go_wp2_with fail
          go_roundw
          case rel => exact ⟨p + 1, true, by omega, by go_num, ht, Lib.hid (fun _ => rfl), hb, Lib.hid hc.out⟩
          case measure => simp [intOf]; omega
    · obtain rfl : p = 10 := by omega
      have h := hd'.out (by omega)
      subst h
      go_wp2_with fail
      go_end0
      exact ⟨rfl, hb.out, htb.out, hc.out⟩
end Go.Proofs.Ytbpbpkmjkbndbaa
