/- Layer 15's statement FeistSteps, walked. No condition. -/
import Derived.Test.YtgmedeldjlmlmaaFsV
import Derived.Test.YtgmedeldjlmlmaaFsB
import Derived.Test.YtgmedeldjlmlmaaOpen
namespace Go.Proofs.Ytgmedeldjlmlmaa
open Go.RowKit
set_option linter.unusedVariables false
set_option linter.unusedSimpArgs false
attribute [local irreducible] foursL pairsL cutR trimL joinL blockL joinR trimR blockR maskB edgeN szI szN encL tableL xorL addL passP passesP mixL ontoR passR passesR atP carR cntM cntP okP
theorem mem_two {α : Type} {P : α → Prop} {a b : α} (ha : P a) (hb : P b) : ∀ r ∈ [a, b], P r := by
  intro r hr
  rcases List.mem_cons.1 hr with rfl | hr
  · exact ha
  · rcases List.mem_cons.1 hr with rfl | hr
    · exact hb
    · cases hr
theorem RB.cellOf {w : World} {B n k g q : Nat} {l : List UInt8} {x : UInt8} (h : RB w B (some ⟨g, q, none⟩) n l) (hx : l[k]? = some x) : w.cell? ⟨g, q + k, none⟩ = some (.int .u8 (x.toNat : Int)) := by
  have hk : k < l.length := (List.getElem?_eq_some_iff.1 hx).1
  obtain ⟨g2, q2, e, _, y, hy, hc⟩ := h.at_ (k := k) (by rw [← h.len]; exact hk)
  injection e with e
  injection e with e1 e2
  subst e1
  subst e2
  rw [hx] at hy
  injection hy with hy
  subst hy
  exact hc
theorem fs_at {l2 : List UInt8} {k : Nat} {x : UInt8} (h : l2[k]? = some x) : (l2.map (fun b => (b.toNat : Int)))[k]? = some (x.toNat : Int) := by rw [List.getElem?_map, h]; rfl
theorem fs_all (l2 : List UInt8) : (l2.map (fun b => (b.toNat : Int))).all okP = true := by
  rw [List.all_eq_true]
  intro x hx
  obtain ⟨b, _, rfl⟩ := List.mem_map.1 hx
  exact okP_mk b.toNat (by have := b.toNat_lt; omega)
theorem OwnB.newer {w : World} {base n c g : Nat} {A : Option Addr} {l : List UInt8} (h : OwnB w base A n c l) (hg : w.heap.size ≤ g) : Away A g := fun g2 o e => by
  subst e
  have := (World.ownsRow.lt h g2 rfl).2
  omega
set_option maxRecDepth 100000 in
set_option maxHeartbeats 8000000 in
theorem FeistSteps_walk (A0 : Option Addr) (n0 c0 : Nat) (l0 : List UInt8) (A1 : Option Addr) (n1 c1 : Nat) (l1 : List UInt8) (A2 : Option Addr) (n2 c2 : Nat) (l2 : List UInt8) (x3 : Int) (w : World) (h0 : RB w w.heap.size A0 n0 l0) (m0 : n0 ≤ c0 ∧ c0 ≤ maxLen) (h1 : RB w w.heap.size A1 n1 l1) (m1 : n1 ≤ c1 ∧ c1 ≤ maxLen) (h2 : RB w w.heap.size A2 n2 l2) (m2 : n2 ≤ c2 ∧ c2 ≤ maxLen) (h3 : (Lit.int .u8 x3).wf = true) :
    Calls Try.prog 4 #[.slice A0 n0 c0, .slice A1 n1 c1, .slice A2 n2 c2, .int .u8 x3] w fun e w' => e = .returned (.bool true) ∧ Below w.heap.size w w' := by
  obtain ⟨p, hp, hp255⟩ : ∃ p : Nat, (p : Int) = x3 ∧ p ≤ 255 := by have := bounds_u8 h3; exact ⟨x3.toNat, by omega, by omega⟩
  subst hp
  have HL0 := Lib.hid h0.len
  have HL1 := Lib.hid h1.len
  have HL2 := Lib.hid h2.len
  have K0 := Lib.hid ((((HW.start w).add h2 m2.1 m2.2).add h1 m1.1 m1.2).add h0 m0.1 m0.2)
  clear h0 h1 h2 h3
  by_cases t0 : ¬ n0 = 16
  · have d0 : ((n0 : Int) != 16) = true := by rw [bne_iff_ne]; omega
    go_enter Try.func4, Try.ntmps4
    go_wp2_with fail
    refine (falive_any _).mono ?_
    rintro e w1 ⟨rfl, hb⟩
    have K1 := Lib.hid (K0.out.step hb)
    clear K0
    clear hb
    go_wp2_with fail
    go_ret
    exact ⟨rfl, K1.out.bel⟩
  replace t0 := Decidable.not_not.1 t0
  subst t0
  by_cases t1 : n1 < 2
  · have d1 : decide ((n1 : Int) < 2) = true := decide_eq_true (by omega)
    go_enter Try.func4, Try.ntmps4
    go_wp2_with fail
    refine (falive_any _).mono ?_
    rintro e w1 ⟨rfl, hb⟩
    have K1 := Lib.hid (K0.out.step hb)
    clear K0
    clear hb
    go_wp2_with fail
    go_ret
    exact ⟨rfl, K1.out.bel⟩
  have d1 : decide ((n1 : Int) < 2) = false := decide_eq_false (by omega)
  by_cases t2 : 28 < n1
  · have d2 : decide (28 < (n1 : Int)) = true := decide_eq_true (by omega)
    go_enter Try.func4, Try.ntmps4
    go_wp2_with fail
    refine (falive_any _).mono ?_
    rintro e w1 ⟨rfl, hb⟩
    have K1 := Lib.hid (K0.out.step hb)
    clear K0
    clear hb
    go_wp2_with fail
    go_ret
    exact ⟨rfl, K1.out.bel⟩
  have d2 : decide (28 < (n1 : Int)) = false := decide_eq_false (by omega)
  by_cases t3 : 8 < n2
  · have d3 : decide (8 < (n2 : Int)) = true := decide_eq_true (by omega)
    go_enter Try.func4, Try.ntmps4
    go_wp2_with fail
    refine (falive_any _).mono ?_
    rintro e w1 ⟨rfl, hb⟩
    have K1 := Lib.hid (K0.out.step hb)
    clear K0
    clear hb
    go_wp2_with fail
    go_ret
    exact ⟨rfl, K1.out.bel⟩
  have d3 : decide (8 < (n2 : Int)) = false := decide_eq_false (by omega)
  have HN : Hid (2 ≤ l1.length ∧ l1.length ≤ 28) := Lib.hid (by rw [HL1.out]; omega)
  have HEE := Lib.hid (enc_G HL0.out)
  obtain ⟨E, HE⟩ : ∃ E, Hid (encL l0 tableL = E) := ⟨_, Lib.hid rfl⟩
  rw [HE.out] at HEE
  have hoa := fs_all l2
  have HAT := Lib.hid (fun (k : Nat) (x : UInt8) (h : l2[k]? = some x) => fs_at h)
  obtain ⟨O, HO⟩ : ∃ O, l2.map (fun b => (b.toNat : Int)) = O := ⟨_, rfl⟩
  have HOL : Hid (O.length = n2) := Lib.hid (by rw [← HO, List.length_map]; exact HL2.out)
  rw [HO] at hoa HAT
  have HOA := Lib.hid hoa
  clear HO hoa
  obtain ⟨X, HA, HX, _⟩ := fb_mix HEE.out l1 O HN.out.1 HN.out.2 HOA.out
  have HJ := atP_join HEE.out l1 O n2 HOL.out HN.out.1 HN.out.2 HOA.out
  rw [HA, HL1.out] at HJ
  replace HJ := Lib.hid HJ
  replace HA := Lib.hid HA
  replace HX := Lib.hid (HX.trans HL1.out)
  have HTW := Lib.hid (fb_twice HEE.out l1 p HN.out.1 HN.out.2 hp255)
  have hcp := cut_parts l1 HN.out.1 HN.out.2
  obtain ⟨s, hs⟩ : ∃ s, szN n1 = s := ⟨_, rfl⟩
  have hs14 : s ≤ 14 := by rw [← hs]; exact szN_le n1 (by omega)
  have HS := Lib.hid hs
  obtain ⟨L, R, q, hLR⟩ : ∃ L R q, cutR l1 = (L, R, q) := ⟨_, _, _, rfl⟩
  have HZ : Hid (atP E l1 O 0 = (L, R)) := Lib.hid (by rw [atP_zero, hLR])
  rw [hLR] at hcp
  dsimp only at hcp
  obtain rfl : q = 0 := hcp.1
  have HC := Lib.hid hLR
  have HLs : Hid (L.length = s) := Lib.hid (by rw [hcp.2.1, HL1.out, hs])
  have HRs : Hid (R.length = s) := Lib.hid (by rw [hcp.2.2.1, HL1.out, hs])
  clear hcp hLR hs
  have HVH : Hid (∀ j, VH n1 (atP E l1 O j)) := Lib.hid (fun j => by rw [← HL1.out]; exact atP_vh HEE.out l1 O j HN.out.1 HN.out.2)
  have HVL : Hid (∀ j, (atP E l1 O j).1.length = s ∧ (atP E l1 O j).2.length = s) := Lib.hid (fun j => by
    have e1 := (HVH.out j).l
    have e2 := (HVH.out j).r
    rw [HS.out] at e1 e2
    exact ⟨e1, e2⟩)
  have HPS := Lib.hid (fun j y (h : O[j]? = some y) => atP_pass HEE.out l1 O j y HN.out.1 HN.out.2 h (List.all_eq_true.1 HOA.out y (List.mem_of_getElem? h)))
  rw [HL1.out] at HPS
  have HFP := Lib.hid (pass_ok E (atP E l1 O n2).1 (atP E l1 O n2).2 n1 p (by omega) (by omega) (HVH.out n2).l (HVH.out n2).r hp255)
  have HF1 := Lib.hid (fb_one E n1 p ((atP E l1 O n2).1, (atP E l1 O n2).2))
  obtain ⟨FP, HFPn⟩ : ∃ FP, passP E n1 ((atP E l1 O n2).1, (atP E l1 O n2).2) p = FP := ⟨_, rfl⟩
  rw [HFPn] at HFP HF1
  have hn28 : n1 ≤ 28 := by omega
  have hn8 : n2 ≤ 8 := by omega
  clear HFPn t1 t2 t3
  go_enter Try.func4, Try.ntmps4
  go_wp2_with fail
  refine (falive_any _).mono ?_
  rintro e w1 ⟨rfl, hb⟩
  have K1 := Lib.hid (K0.out.step hb)
  clear K0
  clear hb
  go_wp2_with fail
  refine (anew_any c0 A0 l0 _ (by exact (K1.out.row _ (.head _)).1) (m0.1)).mono ?_
  rintro e w2 ⟨cb, b0, lo, rfl, hb, hcb, _, hob⟩
  have U0 := Lib.hid (And.intro (K1.out.bel.trans (hb.mono K1.out.bel.size)) (Nat.le_trans K1.out.bel.size hcb))
  have K2 := Lib.hid (K1.out.cip hb hcb hob)
  clear K1
  clear hb hcb hob
  go_wp2_with fail
  refine (hcut_any A1 n1 c1 l1 _ (by exact (K2.out.row _ (.tail _ (.head _))).1) (by exact m1.1) (by omega)).mono ?_
  rw [HC.out]
  rintro e w3 ⟨Al, nl, cl, Ar, nr, cr, rfl, ho1, ho2, hb⟩
  obtain rfl : s = nl := HLs.out.symm.trans ho1.len
  obtain rfl : s = nr := HRs.out.symm.trans ho2.len
  have K3 := Lib.hid (K2.out.own2 hb ho1 ho2)
  clear K2
  have HAW : Hid (∀ g, w3.heap.size ≤ g → Away Al g ∧ Away Ar g) := Lib.hid (fun g hg => ⟨ho1.newer hg, ho2.newer hg⟩)
  clear ho1 ho2 hb
  go_wp2_with fail
  have HOS := Lib.hid ((K3.out.row _ (.tail _ (.tail _ (.tail _ (.tail _ (.head _)))))))
  have HKS := Lib.hid (And.intro K3.out.ob K3.out.here)
  go_loopw [11, 12, 13, 14, 15] (fun v y e q i wr => ∃ (j c3 c4 c9 : Nat) (Al Ar A9 : Option Addr), j ≤ n2 ∧ v = .slice Al s c3 ∧ y = .slice Ar s c4 ∧ e = .int .i64 0 ∧ q = .slice A9 j c9 ∧ i = .int .i64 j ∧ Hid (CW w3 cb b0 lo l0 (0 + j) [(Ar, s, c4, (atP E l1 O j).2), (Al, s, c3, (atP E l1 O j).1)] wr) ∧ Hid (OwnZ wr w3.heap.size A9 j c9 (O.take j)) ∧ Hid (∀ g, Value.ownBlock (.slice A9 j c9) = some g → Away Al g ∧ Away Ar g)) (fun _ _ _ _ i _ => n2 - (intOf i).toNat)
  case atStart =>
    have hz : OwnZ (w3.alloc (.cells #[] 3)) w3.heap.size (some ⟨w3.heap.size, 0, none⟩) 0 0 [] := OwnZ.lit w3 _ [] #[] 0 rfl rfl (by unfold maxLen; omega) (Nat.le_refl _) (by simp)
    have hk : CW w3 cb b0 lo l0 (0 + 0) [(Ar, s, cr, (atP E l1 O 0).2), (Al, s, cl, (atP E l1 O 0).1)] (w3.alloc (.cells #[] 3)) := by
      rw [HZ.out]
      exact CW.step (K3.out.now.few (fun r hr => by
        rcases List.mem_cons.1 hr with rfl | hr
        · exact .head _
        · rcases List.mem_cons.1 hr with rfl | hr
          · exact .tail _ (.head _)
          · cases hr)) (below_alloc _ _)
    exact ⟨0, cl, cr, 0, Al, Ar, some ⟨w3.heap.size, 0, none⟩, Nat.zero_le _, rfl, rfl, rfl, rfl, rfl, Lib.hid hk, Lib.hid (by rw [List.take_zero]; exact hz), Lib.hid (fun g hg => HAW.out g (hz.notin g hg).1)⟩
  case round =>
    clear HAW
    obtain ⟨j, c3, c4, c9, Al, Ar, A9, hj, rfl, rfl, rfl, rfl, rfl, K, ho, haw⟩ := hrel
    by_cases hlt : j < n2
    · have HB2 := Lib.hid (HOS.out.1.asd K.out.but HOS.out.2.2)
      obtain ⟨gg, qq, rfl, hg, y, hy, hc⟩ := HB2.out.at_ hlt
      have HP := Lib.hid (HAT.out j y hy)
      obtain ⟨z, hz⟩ : ∃ z : Nat, y.toNat = z := ⟨_, rfl⟩
      have hz255 : z ≤ 255 := by have := y.toNat_lt; omega
      have HY := Lib.hid hy
      have HYZ := Lib.hid hz
      rw [hz] at hc HP
      clear hy hg hz
      have HT : Hid (O.take (j + 1) = O.take j ++ [(z : Int)]) := Lib.hid (by rw [List.take_add_one, HP.out]; rfl)
      have HPB : Hid (∀ x ∈ [(z : Int)], -9223372036854775808 ≤ x ∧ x ≤ 9223372036854775807) := Lib.hid (by intro x hx; obtain rfl := List.mem_singleton.1 hx; omega)
      have hsz := K.out.but.size
      have HPP := Lib.hid (HPS.out j (z : Int) HP.out)
      go_wp2_with (at_builtin; refine wpList_appZ rfl (.tmp 65) (.tmp 71) rfl w3.heap.size _ _ _ _ rfl (by exact ho.out.alloc _) _ (some ⟨wr.heap.size, 0, none⟩) 1 1 [(z : Int)] rfl (by exact ZL.lit wr [(z : Int)] _ 1 wr.heap.size _ (by rfl) rfl rfl HPB.out) (by omega) (by rw [World.size_alloc]; omega) ?_; intro A4 c5 w4 ho4 hg4 hb4; have K4 := Lib.hid (CW.grow (K.out.step (below_alloc wr _)) HKS.out.1 hb4 hg4 (mem_two (fun g hg => (haw.out g hg).2) (fun g hg => (haw.out g hg).1))); have HO4 : Hid (OwnZ w4 w3.heap.size A4 (j + 1) c5 (O.take (j + 1))) := Lib.hid (by rw [HT.out]; exact ho4); have hc4 := (HOS.out.1.asd K4.out.but HOS.out.2.2).cellOf HY.out; rw [HYZ.out] at hc4; clear ho4 hg4 hb4 ho K haw hc)
      all_goals
        have HQ := Lib.hid (fpass_any cb b0 lo (0 + j) s c3 s c4 l0 (atP E l1 O j).1 (atP E l1 O j).2 Al Ar (n1 : Int) (z : Int) w4 K4.out.ob (by omega) (K4.out.row _ (.tail _ (.head _))).1 (K4.out.row _ (.head _)).1 (K4.out.row _ (.tail _ (.head _))).2.2 (K4.out.row _ (.head _)).2.2 (by omega) (by omega) (by omega) (by omega))
        rw [HE.out, HPP.out] at HQ
        dsimp only at HQ
        rw [cntM_ok] at HQ
        refine HQ.out.mono ?_
        rintro e w5 ⟨A5, n5, c6, A6, n6, c7, rfl, ho5, ho6, hbu, hob⟩
        obtain rfl : s = n5 := (HVL.out (j + 1)).1.symm.trans ho5.len
        obtain rfl : s = n6 := (HVL.out (j + 1)).2.symm.trans ho6.len
        have K5 : Hid (CW w3 cb b0 lo l0 (0 + (j + 1)) [(A6, s, c7, (atP E l1 O (j + 1)).2), (A5, s, c6, (atP E l1 O (j + 1)).1)] w5) := Lib.hid ((K4.out.ret2 hbu hob ho5 ho6).few (fun r hr => by
          rcases List.mem_cons.1 hr with rfl | hr
          · exact .head _
          · rcases List.mem_cons.1 hr with rfl | hr
            · exact .tail _ (.head _)
            · cases hr))
        have HO5 := Lib.hid (HO4.out.but hbu HKS.out.2)
        have HA5 : Hid (∀ g, Value.ownBlock (.slice A4 (j + 1) c5) = some g → Away A5 g ∧ Away A6 g) := Lib.hid (fun g hg => ⟨ho5.far (HO4.out.notin g hg).2, ho6.far (HO4.out.notin g hg).2⟩)
        clear ho5 ho6 hbu hob HQ HO4 K4 hc4
        go_wp2_with fail
        go_roundw
        case rel => exact ⟨j + 1, c6, c7, c5, A5, A6, A4, by omega, rfl, rfl, rfl, rfl, by go_num, K5, HO5, HA5⟩
        case measure => simp [intOf]; omega
    · obtain rfl : j = n2 := by omega
      rw [List.take_of_length_le (by rw [HOL.out]; exact Nat.le_refl _)] at ho
      have HBZ := Lib.hid ho.out
      clear hlt haw ho
      have K600 := Lib.hid (K3.out.over K.out)
      clear K
      go_wp2_with fail
      refine (hjoin_any Al Ar s c3 s c4 (atP E l1 O j).1 (atP E l1 O j).2 (n1 : Int) _ (by exact (K600.out.row _ (.tail _ (.head _))).1) (by exact (K600.out.row _ (.head _)).1) (by omega) (by omega) (by omega)).mono ?_
      rw [HJ.out]; dsimp only; rw [HX.out]
      rintro e w4 ⟨Aa, ca, rfl, ho, hb⟩
      have K601 := Lib.hid (K600.out.own hb ho)
      clear K600
      have HBY := Lib.hid (HBZ.out.below hb)
      clear ho hb HBZ
      go_wp2_with fail
      refine (fpasses_any cb b0 lo (0 + j) n1 c1 j c9 l0 l1 O A1 A9 _ (by exact K601.out.ob) (by omega) (by exact (K601.out.row _ (.tail _ (.tail _ (.tail _ (.tail _ (.tail _ (.tail _ (.head _)))))))).1) (by exact HBY.out.zl) (by exact (K601.out.row _ (.tail _ (.tail _ (.tail _ (.tail _ (.tail _ (.tail _ (.head _)))))))).2.2) (fun _ => HBY.out.far HKS.out.2) (by omega) (by exact m1.1) (by omega)).mono ?_
      rw [HE.out, HA.out]
      dsimp only
      rw [HX.out, cntP_ok]
      rintro e w5 ⟨Abx, cbx, rfl, ho, hbu, hob⟩
      have K602 := Lib.hid (K601.out.ret hbu hob ho)
      clear K601
      clear ho hbu hob
      go_wp2_with fail
      have Z1 := Lib.hid (ZL.lit w5 [(p : Int), (p : Int)] #[.int .i64 (p : Int), .int .i64 (p : Int)] 2 w5.heap.size 3 rfl rfl rfl (by intro x hx; simp at hx; omega))
      have ZF := Lib.hid (K602.out.here)
      have K603 := Lib.hid (K602.out.step (below_alloc w5 (.cells #[.int .i64 (p : Int), .int .i64 (p : Int)] 3)))
      clear K602
      refine (fpasses_any cb b0 lo (0 + j + j) n1 c1 2 2 l0 l1 [(p : Int), (p : Int)] A1 (some ⟨w5.heap.size, 0, none⟩) _ (by exact K603.out.ob) (by omega) (by exact (K603.out.row _ (.tail _ (.tail _ (.tail _ (.tail _ (.tail _ (.tail _ (.tail _ (.head _))))))))).1) (by exact Z1.out) (by exact (K603.out.row _ (.tail _ (.tail _ (.tail _ (.tail _ (.tail _ (.tail _ (.tail _ (.head _))))))))).2.2) (fun _ g o e => by injection e with e; injection e with e; have := ZF.out; omega) (by omega) (by exact m1.1) (by decide)).mono ?_
      rw [HE.out, HTW.out]
      dsimp only
      rw [HL1.out, cntP_ok]
      rintro e w6 ⟨Atw, ctw, rfl, ho, hbu, hob⟩
      have K604 := Lib.hid (K603.out.ret hbu hob ho)
      clear K603
      clear ho hbu hob
      go_wp2_with fail
      refine (al_same _ _ _ _ _ _ X X _ (by exact (K604.out.row _ (.tail _ (.tail _ (.head _)))).1) (by exact (K604.out.row _ (.tail _ (.head _))).1) (by exact Nat.le_trans (K604.out.row _ (.tail _ (.tail _ (.head _)))).2.1.1 (K604.out.row _ (.tail _ (.tail _ (.head _)))).2.1.2) (by exact Nat.le_trans (K604.out.row _ (.tail _ (.head _))).2.1.1 (K604.out.row _ (.tail _ (.head _))).2.1.2) true (beq_self_eq_true _)).mono ?_
      rintro e w7 ⟨rfl, hb⟩
      have K605 := Lib.hid (K604.out.step hb)
      clear K604
      clear hb
      go_wp2_with fail
      refine (al_same _ _ _ _ _ _ l1 l1 _ (by exact (K605.out.row _ (.head _)).1) (by exact (K605.out.row _ (.tail _ (.tail _ (.tail _ (.tail _ (.tail _ (.tail _ (.tail _ (.tail _ (.head _)))))))))).1) (by exact Nat.le_trans (K605.out.row _ (.head _)).2.1.1 (K605.out.row _ (.head _)).2.1.2) (by exact Nat.le_trans (K605.out.row _ (.tail _ (.tail _ (.tail _ (.tail _ (.tail _ (.tail _ (.tail _ (.tail _ (.head _)))))))))).2.1.1 (K605.out.row _ (.tail _ (.tail _ (.tail _ (.tail _ (.tail _ (.tail _ (.tail _ (.tail _ (.head _)))))))))).2.1.2) true (beq_self_eq_true _)).mono ?_
      rintro e w8 ⟨rfl, hb⟩
      have K606 := Lib.hid (K605.out.step hb)
      clear K605
      clear hb
      go_wp2_with fail
      refine (fpass_any cb b0 lo (0 + j + j + 2) s c3 s c4 l0 (atP E l1 O j).1 (atP E l1 O j).2 Al Ar (n1 : Int) (p : Int) _ (by exact K606.out.ob) (by omega) (by exact (K606.out.row _ (.tail _ (.tail _ (.tail _ (.tail _ (.head _)))))).1) (by exact (K606.out.row _ (.tail _ (.tail _ (.tail _ (.head _))))).1) (by exact (K606.out.row _ (.tail _ (.tail _ (.tail _ (.tail _ (.head _)))))).2.2) (by exact (K606.out.row _ (.tail _ (.tail _ (.tail _ (.head _))))).2.2) (by omega) (by omega) (by omega) (by omega)).mono ?_
      rw [HE.out, HFP.out]
      dsimp only
      rw [cntM_ok]
      rintro e w9 ⟨Ax, nx, cx, Ay, ny, cy, rfl, ho1, ho2, hbu, hob⟩
      have K607 := Lib.hid (K606.out.ret2 hbu hob ho1 ho2)
      clear K606
      clear ho1 ho2 hbu hob
      by_cases hpar : p % 2 = 1
      · have e0 : (p : Int) % 2 = 1 := by omega
        have HEQ := Lib.hid (HF1.out.1 hpar)
        clear hpar
        go_wp2_with fail
        refine (al_same _ _ _ _ _ _ FP.1 (atP E l1 O j).1 _ (by exact (K607.out.row _ (.tail _ (.head _))).1) (by exact (K607.out.row _ (.tail _ (.tail _ (.tail _ (.tail _ (.tail _ (.tail _ (.head _)))))))).1) (by exact Nat.le_trans (K607.out.row _ (.tail _ (.head _))).2.1.1 (K607.out.row _ (.tail _ (.head _))).2.1.2) (by exact Nat.le_trans (K607.out.row _ (.tail _ (.tail _ (.tail _ (.tail _ (.tail _ (.tail _ (.head _)))))))).2.1.1 (K607.out.row _ (.tail _ (.tail _ (.tail _ (.tail _ (.tail _ (.tail _ (.head _)))))))).2.1.2) true (beq_iff_eq.2 HEQ.out)).mono ?_
        rintro e w10 ⟨rfl, hb⟩
        have K608 := Lib.hid (K607.out.step hb)
        clear K607
        clear hb
        go_wp2_with fail
        go_ret
        exact ⟨rfl, K608.out.bel U0.out.1 U0.out.2⟩
      · have e0 : (p : Int) % 2 = 0 := by omega
        have HEQ := Lib.hid (HF1.out.2 (by omega))
        clear hpar
        go_wp2_with fail
        refine (al_same _ _ _ _ _ _ FP.2 (atP E l1 O j).2 _ (by exact (K607.out.row _ (.head _)).1) (by exact (K607.out.row _ (.tail _ (.tail _ (.tail _ (.tail _ (.tail _ (.head _))))))).1) (by exact Nat.le_trans (K607.out.row _ (.head _)).2.1.1 (K607.out.row _ (.head _)).2.1.2) (by exact Nat.le_trans (K607.out.row _ (.tail _ (.tail _ (.tail _ (.tail _ (.tail _ (.head _))))))).2.1.1 (K607.out.row _ (.tail _ (.tail _ (.tail _ (.tail _ (.tail _ (.head _))))))).2.1.2) true (beq_iff_eq.2 HEQ.out)).mono ?_
        rintro e w10 ⟨rfl, hb⟩
        have K608 := Lib.hid (K607.out.step hb)
        clear K607
        clear hb
        go_wp2_with fail
        go_ret
        exact ⟨rfl, K608.out.bel U0.out.1 U0.out.2⟩
end Go.Proofs.Ytgmedeldjlmlmaa
