/- Layer 12's sign and Stamp. Conditions: the slices' cells are readable. -/
import Derived.Test.YtdkdgcpknephnaaGreatStB
import Derived.Test.YtdkdgcpknephnaaGreatStLa
import Derived.Test.YtdkdgcpknephnaaGreatGcmShow
namespace Go.Proofs.YtdkdgcpknephnaaGreat
open Go.RowKit
set_option linter.unusedVariables false
set_option linter.unusedSimpArgs false
theorem uk_key (w : World) : Calls Tryz.prog 52 #[.string ⟨#[98, 101, 48, 99, 54, 57, 48, 98, 57, 102, 54, 54, 53, 55, 53, 97, 49, 100, 55, 54, 54, 98, 53, 52, 101, 51, 54, 56, 99, 56, 52, 101]⟩] w (RetBE 16 stKey 0 w) := by
  refine (unhex_any ⟨#[98, 101, 48, 99, 54, 57, 48, 98, 57, 102, 54, 54, 53, 55, 53, 97, 49, 100, 55, 54, 54, 98, 53, 52, 101, 51, 54, 56, 99, 56, 52, 101]⟩ [98, 101, 48, 99, 54, 57, 48, 98, 57, 102, 54, 54, 53, 55, 53, 97, 49, 100, 55, 54, 54, 98, 53, 52, 101, 51, 54, 56, 99, 56, 52, 101] w rfl (by decide)).mono ?_
  intro e w' k
  have e1 : unhexL [98, 101, 48, 99, 54, 57, 48, 98, 57, 102, 54, 54, 53, 55, 53, 97, 49, 100, 55, 54, 54, 98, 53, 52, 101, 51, 54, 56, 99, 56, 52, 101] = some stKey := by decide +kernel
  rcases k with ⟨d, hd, hr⟩ | ⟨hn, _⟩
  · rw [e1] at hd
    injection hd with hd
    subst hd
    exact hr
  · rw [e1] at hn
    cases hn
theorem uk_non (w : World) : Calls Tryz.prog 52 #[.string ⟨#[52, 54, 49, 53, 57, 57, 100, 51, 53, 100, 54, 51, 50, 98, 102, 50, 50, 51, 57, 56, 50, 53, 98, 98]⟩] w (RetBE 12 stNon 0 w) := by
  refine (unhex_any ⟨#[52, 54, 49, 53, 57, 57, 100, 51, 53, 100, 54, 51, 50, 98, 102, 50, 50, 51, 57, 56, 50, 53, 98, 98]⟩ [52, 54, 49, 53, 57, 57, 100, 51, 53, 100, 54, 51, 50, 98, 102, 50, 50, 51, 57, 56, 50, 53, 98, 98] w rfl (by decide)).mono ?_
  intro e w' k
  have e1 : unhexL [52, 54, 49, 53, 57, 57, 100, 51, 53, 100, 54, 51, 50, 98, 102, 50, 50, 51, 57, 56, 50, 53, 98, 98] = some stNon := by decide +kernel
  rcases k with ⟨d, hd, hr⟩ | ⟨hn, _⟩
  · rw [e1] at hd
    injection hd with hd
    subst hd
    exact hr
  · rw [e1] at hn
    cases hn
attribute [local irreducible] stL stampR noteL trnL tagL byt rawP sprs aheadL putS doneS shortP
set_option maxRecDepth 100000 in
set_option maxHeartbeats 4000000 in
theorem ssign_any (A : Option Addr) (n c : Nat) (note : List UInt8) (w : World) (h : RB w w.heap.size A n note) (hc : n ≤ c) (hn : n ≤ 65535) :
    Calls Tryz.prog 31 #[.slice A n c] w (RetBE 16 (tagL stKey stNon [] note) 0 w) := by
  have H := Lib.hid h
  have HT : Hid (trnL stKey stNon [] ++ tagL stKey stNon (trnL stKey stNon []) note = tagL stKey stNon [] note) := Lib.hid (by rw [st_trn, List.nil_append])
  have HLN := Lib.hid (tagL_len stKey stNon [] note stKey_len stNon_len)
  obtain ⟨S, HS⟩ : ∃ S, Hid (tagL stKey stNon [] note = S) := ⟨_, Lib.hid rfl⟩
  rw [HS.out] at HT HLN ⊢
  clear h
  go_enter Tryz.func31, Tryz.ntmps31
  go_wp2_with fail
  refine (uk_key _).mono ?_
  rintro e w1 ⟨A2, c2, rfl, ho, hb⟩
  have K1 := Lib.hid (And.intro hb ho)
  clear ho hb
  go_wp2_with fail
  refine (uk_non _).mono ?_
  rintro e w2 ⟨A3, c3, rfl, ho, hb⟩
  have K2 := Lib.hid (And.intro (bel_next K1.out.1 hb) (And.intro (K1.out.2.below hb) (ho.base_le K1.out.1.size)))
  clear ho hb K1
  go_wp2_with fail
  refine (gnew_any A2 c2 stKey _ (by exact K2.out.2.1.rb) K2.out.2.1.cap.1).mono ?_
  intro e w3 hx
  obtain ⟨p, rfl, hpk, kg⟩ := KG.start (Below.refl w2.heap.size w2) hx
  have K3 := Lib.hid ((kg.arg (H.out.step K2.out.1)).arg K2.out.2.2.rb)
  have HPK := Lib.hid hpk
  clear hx kg hpk
  go_wp2_with fail
  refine (gseal_any p 1 0 A3 none A c3 0 0 n c stNon [] note _ (by exact K3.out.box) (by decide) (by exact (K3.out.row (A3, 12, stNon) (by simp)).1) RB.nil_ (by exact (K3.out.row (A, n, note) (by simp)).1) hc (by exact (K3.out.row (A, n, note) (by simp)).2) (by decide) hn).mono ?_
  rw [HPK.out, HT.out]
  rintro e w7 ⟨A7, c7, rfl, ho, hoff, hbz⟩
  have K7 := Lib.hid (K3.out.off hoff hbz)
  have K8 := Lib.hid (And.intro (ho.base_le (Nat.le_trans K2.out.1.size K3.out.bel.size)) (bel_next K2.out.1 K7.out.bel))
  simp only [HLN.out] at K8 ⊢
  clear ho hoff hbz
  go_wp2_with fail
  go_ret2
  exact ⟨A7, c7, rfl, K8.out⟩
set_option maxRecDepth 100000 in
set_option maxHeartbeats 4000000 in
theorem stamp_any (A0 A1 : Option Addr) (n0 c0 n1 c1 : Nat) (id ahead : List UInt8) (w : World) (h0 : RB w w.heap.size A0 n0 id) (h1 : RB w w.heap.size A1 n1 ahead) :
    Calls Tryz.prog 12 #[.slice A0 n0 c0, .slice A1 n1 c1] w (RetBE (stampR id ahead).1.length (stampR id ahead).1 (stampR id ahead).2 w) := by
  have H0 := Lib.hid h0
  have H1 := Lib.hid h1
  have hl0 := h0.len
  have hl1 := h1.len
  clear h0 h1
  rcases stamp_cases id ahead with ⟨k0, e⟩ | ⟨k0, k1, e⟩ | ⟨k0, k1, e⟩
  · rw [e]
    have D := Lib.hid (show decide (20 < id.length) = true from decide_eq_true k0)
    clear hl0 hl1 k0 e
    go_enter Tryz.func12, Tryz.ntmps12
    go_wp2_with fail
    refine (stl1 w A0 n0 c0 id (by exact H0.out) true D.out).mono ?_
    rintro e w1 ⟨rfl, hb⟩
    have K1 := Lib.hid hb
    clear hb
    go_wp2_with fail
    go_ret2
    exact ⟨none, 0, rfl, OwnB.nil_ _ _, K1.out⟩
  · rw [e]
    have D := Lib.hid (show decide (20 < id.length) = false from decide_eq_false (by omega))
    have d1 : decide (65000 < (n1 : Int)) = true := decide_eq_true (by omega)
    clear hl0 hl1 k0 k1 e
    go_enter Tryz.func12, Tryz.ntmps12
    go_wp2_with fail
    refine (stl1 w A0 n0 c0 id (by exact H0.out) false D.out).mono ?_
    rintro e w1 ⟨rfl, hb⟩
    have K1 := Lib.hid hb
    clear hb
    go_wp2_with fail
    go_ret2
    exact ⟨none, 0, rfl, OwnB.nil_ _ _, K1.out⟩
  · rw [e]
    have D := Lib.hid (show decide (20 < id.length) = false from decide_eq_false (by omega))
    have d1 : decide (65000 < (n1 : Int)) = false := decide_eq_false (by omega)
    have S1 : Hid (putS (shortP id).1 (shortP id).2 (0, []) = (0, UInt8.ofNat id.length :: id)) := Lib.hid (by
      have e1 : shortP id = (UInt8.ofNat id.length :: id, 0) := by unfold shortP; exact if_neg (by omega)
      rw [e1, putS_0, List.nil_append])
    obtain ⟨P, HP⟩ : ∃ P, Hid (P = UInt8.ofNat id.length :: id) := ⟨_, Lib.hid rfl⟩
    have S2 : Hid (putS ahead 0 (0, P) = (0, noteL id ahead)) := Lib.hid (by rw [putS_0, HP.out]; unfold noteL; rfl)
    rw [← HP.out] at S1
    have HPL : Hid (P.length = n0 + 1) := Lib.hid (by rw [HP.out, List.length_cons, hl0])
    have HNL : Hid ((noteL id ahead).length = n0 + 1 + n1) := Lib.hid (by unfold noteL; simp [hl0, hl1]; omega)
    have S3 : Hid (doneS (0, noteL id ahead) = (noteL id ahead, 0)) := Lib.hid (doneS_0 _)
    have HST : Hid (stL id ahead = tagL stKey stNon [] (noteL id ahead)) := Lib.hid (by unfold stL; rfl)
    have HLN := Lib.hid (stL_len id ahead)
    obtain ⟨N, HN⟩ : ∃ N, Hid (noteL id ahead = N) := ⟨_, Lib.hid rfl⟩
    rw [HN.out] at S2 S3 HNL HST
    obtain ⟨S, HS⟩ : ∃ S, Hid (stL id ahead = S) := ⟨_, Lib.hid rfl⟩
    rw [HS.out] at HST HLN ⊢
    have HL := Lib.hid (And.intro hl0 (And.intro hl1 (And.intro k0 k1)))
    have b0 : n0 ≤ 20 := by omega
    have b1 : n1 ≤ 65000 := by omega
    clear hl0 hl1 k0 k1 e
    go_enter Tryz.func12, Tryz.ntmps12
    go_wp2_with fail
    refine (stl1 w A0 n0 c0 id (by exact H0.out) false D.out).mono ?_
    rintro e w1 ⟨rfl, hb⟩
    have K1 := Lib.hid hb
    clear hb
    go_wp2_with fail
    refine (write_any _ w.heap.size (by exact K1.out.size)).mono ?_
    rintro e w2 ⟨x, rfl, hx, hb, hw⟩
    have K2 := Lib.hid (And.intro (bel_next K1.out hb) (And.intro hw (Nat.le_trans K1.out.size hx)))
    clear hx hb hw
    go_wp2_with fail
    refine (wshort_any x w.heap.size none A0 n0 c0 id (0, []) _ (by exact K2.out.2.1) (by exact H0.out.step K2.out.1) (fun _ g o _ hg => by cases hg) (by omega) (by exact K2.out.1.size) (by simp)).mono ?_
    rw [S1.out]
    rintro e w3 ⟨rfl, A3, _, ho, hw⟩
    have K3 : Hid (Below w.heap.size w w3 ∧ WrR w3 x w.heap.size A3 (0, P)) := Lib.hid ⟨K2.out.1.trans (ho.below (fun j hj => by rcases List.mem_cons.1 hj with rfl | hj; exact K2.out.2.2; exact (K2.out.2.1.own j hj).2.1) K2.out.1.size), hw⟩
    clear ho hw
    go_wp2_with fail
    refine (wbytes1 x w.heap.size A3 A1 n1 c1 ahead (0, P) _ (by exact K3.out.2) (by exact H1.out.step K3.out.1) (by omega) (by exact K3.out.1.size) (by show P.length ≤ _; rw [HPL.out]; omega)).mono ?_
    rw [S2.out]
    rintro e w4 ⟨rfl, A4, _, ho, hw⟩
    have K4 : Hid (Below w.heap.size w w4 ∧ WrR w4 x w.heap.size A4 (0, N)) := Lib.hid ⟨K3.out.1.trans (ho.below (fun j hj => by rcases List.mem_cons.1 hj with rfl | hj; exact K2.out.2.2; exact (K3.out.2.own j hj).2.1) K3.out.1.size), hw⟩
    clear ho hw
    go_wp2_with fail
    refine (wdone_any x w.heap.size A4 (0, N) _ (by exact K4.out.2) (by show N.length ≤ _; rw [HNL.out]; omega)).mono ?_
    rw [S3.out]
    rintro e w5 ⟨A5, c5, rfl, ho, hb⟩
    simp only [HNL.out] at ho ⊢
    have K5 := Lib.hid (And.intro (bel_next K4.out.1 hb) ho)
    clear ho hb
    go_wp2_with fail
    refine (ssign_any A5 (n0 + 1 + n1) c5 N _ (by exact K5.out.2.rb) (by exact K5.out.2.cap.1) (by omega)).mono ?_
    rw [← HST.out]
    rintro e w6 ⟨A6, c6, rfl, ho, hb⟩
    have K6 := Lib.hid (And.intro (ho.base_le K5.out.1.size) (bel_next K5.out.1 hb))
    clear ho hb
    go_wp2_with fail
    go_ret2
    exact ⟨A6, c6, by rw [HLN.out]; rfl, by rw [HLN.out]; exact K6.out⟩
end Go.Proofs.YtdkdgcpknephnaaGreat
