/- Layer 15's Passes, Mix and Unmix. Conditions: the slices' cells are readable and lie away from the cipher, lengths are at most a million, at most a thousand passes. -/
import Derived.Test.YtfipdaekfdbaeaaGreatFsC
namespace Go.Proofs.YtfipdaekfdbaeaaGreat
open Go.RowKit
set_option linter.unusedVariables false
set_option linter.unusedSimpArgs false
theorem cntM_ok (m : Nat) : cntM m 0 = m + 1 := by unfold cntM; rw [if_pos rfl]
/-- A cipher's count behind passes. -/
def cntP (m k : Nat) (code : Int) : Nat := if code = 0 then m + k else m
theorem cntP_ok (m k : Nat) : cntP m k 0 = m + k := by unfold cntP; rw [if_pos rfl]
theorem cntP_no (m k : Nat) : cntP m k 11 = m := by unfold cntP; rw [if_neg (by decide)]
theorem cntP_le (m k : Nat) (code : Int) : cntP m k code ≤ m + k := by unfold cntP; split <;> omega
theorem cntM_le (m : Nat) (code : Int) : cntM m code ≤ m + 1 := by unfold cntM; split <;> omega
theorem enc_G {key : List UInt8} (hk : key.length = 16) : ∀ b : List UInt8, b.length = 16 → (encL key tableL b).length = 16 := fun b hb => encL_len key tableL b hk hb
attribute [local irreducible] foursL pairsL cutR trimL joinL blockL joinR trimR blockR maskB edgeN szI szN encL tableL xorL addL passP passesP mixL ontoR passR passesR atP carR cntM cntP okP

set_option maxRecDepth 100000 in
set_option maxHeartbeats 2000000 in
theorem foutside_any (p : Int) (v : Bool) (hv : (!okP p) = v) (hp : -9223372036854775808 ≤ p ∧ p ≤ 9223372036854775807) (w : World) :
    Calls Tryz.prog 79 #[.int .i64 p] w fun e w' => e = .returned (.bool v) ∧ w = w' := by
  unfold okP at hv
  by_cases h0 : p < 0
  · have d0 : decide (p < 0) = true := decide_eq_true h0
    have e : v = true := by rw [← hv, decide_eq_false (by omega)]; rfl
    subst e
    clear hv h0
    go_enter Tryz.func79, Tryz.ntmps79
    go_wp2_with fail
    go_ret
    exact ⟨rfl, rfl⟩
  · have d0 : decide (p < 0) = false := decide_eq_false h0
    have e : decide (255 < p) = v := by
      rw [← hv, Bool.eq_iff_iff, decide_eq_true_eq, Bool.not_eq_true', decide_eq_false_iff_not]
      omega
    clear hv h0
    go_enter Tryz.func79, Tryz.ntmps79
    go_wp2_with fail
    go_ret
    exact ⟨by first | rfl | simp [e], rfl⟩
set_option maxRecDepth 100000 in
set_option maxHeartbeats 2000000 in
theorem findexf_any (A : Option Addr) (n c : Nat) (o : List Int) (w : World) (h : ZL w w.heap.size A n o) (hn : n ≤ 1000) :
    Calls Tryz.prog 99 #[.slice A n c, .func (.func 79) #[] #[]] w fun e w' => ∃ z : Int, e = .returned (.int .i64 z) ∧ w = w' ∧ decide (0 ≤ z) = !(o.all okP) := by
  have H := Lib.hid h
  have HL := Lib.hid h.len
  clear h
  go_enter Tryz.func99, Tryz.ntmps99
  go_wp2_with fail
  go_loopw [8] (fun i wr => ∃ k : Nat, k ≤ n ∧ i = .int .i64 k ∧ w = wr ∧ Hid (∀ j p, j < k → o[j]? = some p → okP p = true)) (fun i _ => n - (intOf i).toNat)
  case atStart => exact ⟨0, by omega, rfl, rfl, Lib.hid (fun j p hj => absurd hj (Nat.not_lt_zero _))⟩
  case round =>
    obtain ⟨k, hk, rfl, rfl, HA⟩ := hrel
    by_cases hlt : k < n
    · obtain ⟨g, q, rfl, hg, p, hp, hpb, hc⟩ := H.out.at_ hlt
      have HP := Lib.hid hp
      cases h20 : okP p
      · have HC := Lib.hid (foutside_any p true (by rw [h20]; rfl) hpb w)
        have H20 := Lib.hid h20
        clear hp h20 hpb
        go_wp2_with fail
        refine HC.out.mono ?_
        rintro e w1 ⟨rfl, rfl⟩
        go_wp2_with fail
        go_ret
        exact ⟨_, rfl, rfl, by
          rw [decide_eq_true (by omega : (0 : Int) ≤ (k : Int)), eq_comm, Bool.not_eq_true', List.all_eq_false]
          exact ⟨p, List.mem_of_getElem? HP.out, by rw [H20.out]; decide⟩⟩
      · have HC := Lib.hid (foutside_any p false (by rw [h20]; rfl) hpb w)
        have H20 := Lib.hid h20
        clear hp h20 hpb
        go_wp2_with fail
        refine HC.out.mono ?_
        rintro e w1 ⟨rfl, rfl⟩
        go_wp2_with fail
        go_roundw
        case rel => exact ⟨k + 1, by omega, by go_num, trivial, Lib.hid (fun j q hj hq => by
          rcases Nat.lt_or_eq_of_le (Nat.le_of_lt_succ hj) with h1 | h1
          · exact HA.out j q h1 hq
          · subst h1
            rw [HP.out] at hq
            rw [← Option.some.inj hq]
            exact H20.out)⟩
        case measure => simp [intOf]; omega
    · have hkn : k = n := by omega
      subst hkn
      go_wp2_with fail
      go_ret
      exact ⟨_, rfl, rfl, by
        rw [show decide ((0 : Int) ≤ -1) = false by decide, eq_comm, Bool.not_eq_false', List.all_eq_true]
        intro p hp
        obtain ⟨j, hj, hpj⟩ := List.mem_iff_getElem.1 hp
        exact HA.out j p (by rw [HL.out] at hj; exact hj) (by rw [← hpj]; exact List.getElem?_eq_getElem hj)⟩
set_option maxRecDepth 100000 in
set_option maxHeartbeats 2000000 in
theorem fcontains_any (A : Option Addr) (n c : Nat) (o : List Int) (w : World) (h : ZL w w.heap.size A n o) (hn : n ≤ 1000) (v : Bool) (hv : (!(o.all okP)) = v) :
    Calls Tryz.prog 78 #[.slice A n c, .func (.func 79) #[] #[]] w fun e w' => e = .returned (.bool v) ∧ w = w' := by
  have HI := Lib.hid (findexf_any A n c o w h hn)
  have HV := Lib.hid hv
  clear h hv hn
  go_enter Tryz.func78, Tryz.ntmps78
  go_wp2_with fail
  refine HI.out.mono ?_
  rintro e w1 ⟨z, rfl, rfl, hz⟩
  rw [HV.out] at hz
  go_wp2_with fail
  go_ret
  exact ⟨rfl, rfl⟩

set_option maxRecDepth 100000 in
set_option maxHeartbeats 4000000 in
theorem fpasses_any (cb b0 lo mc n c m d : Nat) (key b : List UInt8) (o : List Int) (A C : Option Addr) (w : World) (hob : Ob cb b0 lo key mc w) (hmc : mc + 1000 ≤ 1000000000) (h : RB w w.heap.size A n b) (k : ZL w w.heap.size C m o) (ha : 0 < n → Away A cb) (hc : 0 < m → Away C cb) (hn : n ≤ 1000000) (hnc : n ≤ c) (hm : m ≤ 1000) :
    Calls Tryz.prog 52 #[.pointer (some ⟨cb, 0, none⟩), .slice A n c, .slice C m d] w (RetM (passesR (encL key tableL) b o).1.length (passesR (encL key tableL) b o).1 (passesR (encL key tableL) b o).2 key cb b0 lo (cntP mc m (passesR (encL key tableL) b o).2) w) := by
  have HOB := Lib.hid hob
  have HMC := Lib.hid hmc
  have HO := Lib.hid k
  have HAC := Lib.hid hc
  have HL := Lib.hid h.len
  have HM := Lib.hid k.len
  have HLT := Lib.hid hob.lt
  have HEE := Lib.hid (enc_G hob.len)
  have HCT := Lib.hid (hcut_any A n c b w h hnc hn)
  obtain ⟨E, HEN⟩ : ∃ E, Hid (E = encL key tableL) := ⟨_, Lib.hid rfl⟩
  have HPA := Lib.hid (fun (A B : Option Addr) (mc n c s d : Nat) (l r : List UInt8) (z p : Int) (v : World) (hob : Ob cb b0 lo key mc v) (hmc : mc + 1 ≤ 1000000000) (h : RB v v.heap.size A n l) (k : RB v v.heap.size B s r) (ha : 0 < n → Away A cb) (hb : 0 < s → Away B cb) (hn : n ≤ 1000000) (hs : s ≤ 1000000) (hz : z ≤ 9223372036854775807) (hp : -9223372036854775808 ≤ p ∧ p ≤ 9223372036854775807) => fpass_any cb b0 lo mc n c s d key l r A B z p v hob hmc h k ha hb hn hs hz hp)
  rw [← HEN.out] at HPA HEE ⊢
  have hn' : (n : Int) ≤ 9223372036854775807 := by omega
  clear hob hmc h k ha hc
  by_cases hg : 2 ≤ b.length ∧ b.length ≤ 28
  · have hcp := cut_parts b hg.1 hg.2
    have v0 := cut_vh b hg.1 hg.2
    obtain ⟨s, hs⟩ : ∃ s, szN n = s := ⟨_, rfl⟩
    have hs14 : s ≤ 14 := by rw [← hs]; exact szN_le n (by rw [← HL.out]; exact hg.2)
    have HS := Lib.hid hs
    obtain ⟨L, R, q, hLR⟩ : ∃ L R q, cutR b = (L, R, q) := ⟨_, _, _, rfl⟩
    have HZ : Hid (atP E b o 0 = (L, R)) := Lib.hid (by rw [atP_zero, hLR])
    rw [hLR] at hcp HCT
    dsimp only at hcp HCT
    obtain rfl : q = 0 := hcp.1
    have HLs : Hid (L.length = s) := Lib.hid (by rw [hcp.2.1, HL.out, hs])
    have HRs : Hid (R.length = s) := Lib.hid (by rw [hcp.2.2.1, HL.out, hs])
    have HG := Lib.hid hg
    clear hcp v0 hLR hs hg
    cases hall : o.all okP
    · have HE : Hid (passesR E b o = ([], 11)) := Lib.hid (passes_no (fun e => by rw [hall] at e; exact absurd e.2.2 (by decide)))
      have HCF := Lib.hid (fun (v : World) (h : ZL v v.heap.size C m o) => fcontains_any C m d o v h hm true (by rw [hall]; rfl))
      clear hall
      go_enter Tryz.func52, Tryz.ntmps52
      go_wp2_with fail
      refine HCT.out.mono ?_
      rintro e w1 ⟨A1, n1, c1, A2, n2, c2, rfl, ho1, ho2, hb⟩
      have B1 := Lib.hid hb
      clear ho1 ho2 hb HCT
      go_wp2_with fail
      refine (HCF.out _ (HO.out.step B1.out)).mono ?_
      rintro e w2 ⟨rfl, rfl⟩
      go_wp2_with fail
      go_ret2
      rw [HE.out]
      exact ⟨none, 0, rfl, OwnB.nil_ _ _, But.of_below B1.out, by dsimp only; rw [cntP_no]; exact HOB.out.below B1.out⟩
    · have HJ := Lib.hid (atP_join HEE.out b o m HM.out HG.out.1 HG.out.2 hall)
      have HPL := Lib.hid (passes_len (E := E) HG.out.1 HG.out.2 hall)
      have HAL := Lib.hid (fun (p : Int) (j : Nat) (hp : o[j]? = some p) => List.all_eq_true.1 hall p (List.mem_of_getElem? hp))
      have HCF := Lib.hid (fun (v : World) (h : ZL v v.heap.size C m o) => fcontains_any C m d o v h hm false (by rw [hall]; rfl))
      have HVL : Hid (∀ j, (atP E b o j).1.length = s ∧ (atP E b o j).2.length = s) := Lib.hid (fun j => by
        have v := atP_vh HEE.out b o j HG.out.1 HG.out.2
        have e1 := v.l
        have e2 := v.r
        rw [HL.out, HS.out] at e1 e2
        exact ⟨e1, e2⟩)
      clear hall
      go_enter Tryz.func52, Tryz.ntmps52
      go_wp2_with fail
      refine HCT.out.mono ?_
      rintro e w1 ⟨A1, n1, c1, A2, n2, c2, rfl, ho1, ho2, hb⟩
      obtain rfl : s = n1 := HLs.out.symm.trans ho1.len
      obtain rfl : s = n2 := HRs.out.symm.trans ho2.len
      have K1 := Lib.hid (((CW.start HOB.out).own2 hb ho1 ho2))
      have B1 := Lib.hid hb
      clear ho1 ho2 hb HCT
      go_wp2_with fail
      refine (HCF.out _ (HO.out.step B1.out)).mono ?_
      rintro e w2 ⟨rfl, rfl⟩
      clear B1 HCF
      go_wp2_with fail
      go_loopw [8, 9, 27] (fun v y i wr => ∃ (j c1 c2 : Nat) (A1 A2 : Option Addr), j ≤ m ∧ v = .slice A1 s c1 ∧ y = .slice A2 s c2 ∧ i = .int .i64 j ∧ Hid (CW w cb b0 lo key (mc + j) [(A2, s, c2, (atP E b o j).2), (A1, s, c1, (atP E b o j).1)] wr)) (fun _ _ i _ => m - (intOf i).toNat)
      case atStart => exact ⟨0, c1, c2, A1, A2, Nat.zero_le _, rfl, rfl, rfl, Lib.hid (by rw [HZ.out]; exact K1.out)⟩
      case round =>
        clear K1
        obtain ⟨j, c1, c2, A1, A2, hj, rfl, rfl, rfl, K⟩ := hrel
        by_cases hlt : j < m
        · have HO2 : Hid (ZL wr wr.heap.size C m o) := Lib.hid (HO.out.asd K.out.but HAC.out)
          obtain ⟨g, q, rfl, hg, p, hp, hpb, hcell⟩ := HO2.out.at_ hlt
          have HQ := Lib.hid (HPA.out A1 A2 (mc + j) s c1 s c2 (atP E b o j).1 (atP E b o j).2 (n : Int) p wr K.out.ob (by have := HMC.out; omega) (K.out.row _ (.tail _ (.head _))).1 (K.out.row _ (.head _)).1 (K.out.row _ (.tail _ (.head _))).2.2 (K.out.row _ (.head _)).2.2 (by omega) (by omega) hn' hpb)
          have HPP := atP_pass HEE.out b o j p HG.out.1 HG.out.2 hp (HAL.out p j hp)
          rw [HL.out] at HPP
          rw [HPP] at HQ
          dsimp only at HQ
          rw [cntM_ok] at HQ
          clear hp hpb HPP
          go_wp2_with fail
          refine HQ.out.mono ?_
          rintro e w3 ⟨A3, n3, c3, A4, n4, c4, rfl, ho3, ho4, hbu, hob⟩
          obtain rfl : s = n3 := (HVL.out (j + 1)).1.symm.trans ho3.len
          obtain rfl : s = n4 := (HVL.out (j + 1)).2.symm.trans ho4.len
          have K3 : Hid (CW w cb b0 lo key (mc + (j + 1)) [(A4, s, c4, (atP E b o (j + 1)).2), (A3, s, c3, (atP E b o (j + 1)).1)] w3) := Lib.hid ((K.out.ret2 hbu hob ho3 ho4).few (fun r hr => by
            rcases List.mem_cons.1 hr with rfl | hr
            · exact .head _
            · rcases List.mem_cons.1 hr with rfl | hr
              · exact .tail _ (.head _)
              · cases hr))
          clear ho3 ho4 hbu hob HQ
          go_wp2_with fail
          go_roundw
          case rel => exact ⟨j + 1, c3, c4, A3, A4, by omega, rfl, rfl, by go_num, K3⟩
          case measure => simp [intOf]; omega
        · obtain rfl : j = m := by omega
          have HQ := Lib.hid (hjoin_any A1 A2 s c1 s c2 (atP E b o j).1 (atP E b o j).2 (n : Int) wr (K.out.row _ (.tail _ (.head _))).1 (K.out.row _ (.head _)).1 (by omega) (by omega) hn')
          have HJ2 := HJ.out
          rw [HL.out] at HJ2
          rw [HJ2] at HQ
          clear HJ2 hlt
          go_wp2_with fail
          refine HQ.out.mono ?_
          rintro e w3 ⟨A3, c3, rfl, ho3, hb3⟩
          have K3 := Lib.hid (And.intro (ho3.base_le K.out.but.size) (K.out.step hb3))
          clear ho3 hb3
          go_wp2_with fail
          go_ret2
          exact ⟨A3, c3, rfl, K3.out.1, K3.out.2.but, by rw [HPL.out.2, cntP_ok]; exact K3.out.2.ob⟩
  · have HE : Hid (passesR E b o = ([], 11)) := Lib.hid (passes_no (fun e => hg ⟨e.1, e.2.1⟩))
    have hcn := cut_no hg
    rw [hcn] at HCT
    clear hcn hg
    go_enter Tryz.func52, Tryz.ntmps52
    go_wp2_with fail
    refine HCT.out.mono ?_
    rintro e w1 ⟨A1, n1, c1, A2, n2, c2, rfl, ho1, ho2, hb⟩
    have B1 := Lib.hid hb
    clear ho1 ho2 hb HCT
    go_wp2_with fail
    go_ret2
    rw [HE.out]
    exact ⟨none, 0, rfl, OwnB.nil_ _ _, But.of_below B1.out, by dsimp only; rw [cntP_no]; exact HOB.out.below B1.out⟩
set_option maxRecDepth 100000 in
set_option maxHeartbeats 2000000 in
theorem fmix_any (cb b0 lo mc n c : Nat) (key b : List UInt8) (A : Option Addr) (w : World) (hob : Ob cb b0 lo key mc w) (hmc : mc + 1000 ≤ 1000000000) (h : RB w w.heap.size A n b) (ha : 0 < n → Away A cb) (hn : n ≤ 1000000) (hnc : n ≤ c) :
    Calls Tryz.prog 41 #[.pointer (some ⟨cb, 0, none⟩), .slice A n c] w (RetM (passesR (encL key tableL) b [1, 2, 3, 4]).1.length (passesR (encL key tableL) b [1, 2, 3, 4]).1 (passesR (encL key tableL) b [1, 2, 3, 4]).2 key cb b0 lo (cntP mc 4 (passesR (encL key tableL) b [1, 2, 3, 4]).2) w) := by
  have HLT := Lib.hid hob.lt
  have HB := Lib.hid (below_alloc w (.cells #[.int .i64 1, .int .i64 2, .int .i64 3, .int .i64 4] 3))
  have HPS := Lib.hid (fpasses_any cb b0 lo mc n c 4 4 key b [1, 2, 3, 4] A (some ⟨w.heap.size, 0, none⟩) _ (hob.below HB.out) hmc (h.step HB.out) (ZL.lit w [1, 2, 3, 4] #[.int .i64 1, .int .i64 2, .int .i64 3, .int .i64 4] 4 w.heap.size 3 rfl rfl rfl (by decide)) ha (fun _ g q e => by injection e with e; injection e with e; have := HLT.out; omega) hn hnc (by omega))
  obtain ⟨u, HU⟩ : ∃ u, Hid (passesR (encL key tableL) b [1, 2, 3, 4] = u) := ⟨_, Lib.hid rfl⟩
  rw [HU.out] at HPS ⊢
  clear hob hmc h ha
  go_enter Tryz.func41, Tryz.ntmps41
  go_wp2_with fail
  refine HPS.out.mono ?_
  rintro e w2 ⟨A2, c2, rfl, ho, hbu, hob⟩
  have K2 := Lib.hid (And.intro (ho.base_le HB.out.size) (And.intro ((But.of_below HB.out).trans hbu) hob))
  clear ho hbu hob HPS
  go_wp2_with fail
  go_ret2
  exact ⟨A2, c2, rfl, K2.out.1, K2.out.2.1, K2.out.2.2⟩
set_option maxRecDepth 100000 in
set_option maxHeartbeats 2000000 in
theorem funmix_any (cb b0 lo mc n c : Nat) (key b : List UInt8) (A : Option Addr) (w : World) (hob : Ob cb b0 lo key mc w) (hmc : mc + 1000 ≤ 1000000000) (h : RB w w.heap.size A n b) (ha : 0 < n → Away A cb) (hn : n ≤ 1000000) (hnc : n ≤ c) :
    Calls Tryz.prog 42 #[.pointer (some ⟨cb, 0, none⟩), .slice A n c] w (RetM (passesR (encL key tableL) b [4, 3, 2, 1]).1.length (passesR (encL key tableL) b [4, 3, 2, 1]).1 (passesR (encL key tableL) b [4, 3, 2, 1]).2 key cb b0 lo (cntP mc 4 (passesR (encL key tableL) b [4, 3, 2, 1]).2) w) := by
  have HLT := Lib.hid hob.lt
  have HB := Lib.hid (below_alloc w (.cells #[.int .i64 4, .int .i64 3, .int .i64 2, .int .i64 1] 3))
  have HPS := Lib.hid (fpasses_any cb b0 lo mc n c 4 4 key b [4, 3, 2, 1] A (some ⟨w.heap.size, 0, none⟩) _ (hob.below HB.out) hmc (h.step HB.out) (ZL.lit w [4, 3, 2, 1] #[.int .i64 4, .int .i64 3, .int .i64 2, .int .i64 1] 4 w.heap.size 3 rfl rfl rfl (by decide)) ha (fun _ g q e => by injection e with e; injection e with e; have := HLT.out; omega) hn hnc (by omega))
  obtain ⟨u, HU⟩ : ∃ u, Hid (passesR (encL key tableL) b [4, 3, 2, 1] = u) := ⟨_, Lib.hid rfl⟩
  rw [HU.out] at HPS ⊢
  clear hob hmc h ha
  go_enter Tryz.func42, Tryz.ntmps42
  go_wp2_with fail
  refine HPS.out.mono ?_
  rintro e w2 ⟨A2, c2, rfl, ho, hbu, hob⟩
  have K2 := Lib.hid (And.intro (ho.base_le HB.out.size) (And.intro ((But.of_below HB.out).trans hbu) hob))
  clear ho hbu hob HPS
  go_wp2_with fail
  go_ret2
  exact ⟨A2, c2, rfl, K2.out.1, K2.out.2.1, K2.out.2.2⟩
end Go.Proofs.YtfipdaekfdbaeaaGreat
