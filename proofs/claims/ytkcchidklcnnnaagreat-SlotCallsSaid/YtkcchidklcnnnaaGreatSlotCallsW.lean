/- Layer 18: the walk of the statement SlotCalls. No condition. -/
import Derived.Test.YtkcchidklcnnnaaGreatSlV
namespace Go.Proofs.YtkcchidklcnnnaaGreat
open Go.RowKit
set_option linter.unusedVariables false
set_option linter.unusedSimpArgs false
attribute [local irreducible] Cfg.val Cfg.cells rtB Rt zK sizeC zeroC hcel zh pSl rSl aSl hasS ofS tmS tmN Sl.row Sl.tm inB instS retS putS offS doS upTo allS Cl.cells Cl.val pcel zcel codB codM showS shortS pntB prtC wayC idB cU17 s1 s2 upS
attribute [local go_sem ↓] ex_ldC ex_ldPt ex_ldPr ex_ldK18
set_option maxRecDepth 100000 in
set_option maxHeartbeats 4000000 in
theorem calls_long (A0 : Option Addr) (n0 c0 : Nat) (l0 : List Cl) (w : World) (h0 : CLs w w.heap.size A0 n0 l0) (m0 : n0 ≤ c0 ∧ c0 ≤ maxLen) (h : 100 < n0) :
    Calls Tryz.prog 3 #[.slice A0 n0 c0] w fun e w' => e = .returned (.bool true) ∧ Below w.heap.size w w' := by
  have HB := Lib.hid (And.intro h0.2.1 (And.intro h0.len h0))
  have d1 : decide ((100 : Int) < (n0 : Int)) = true := decide_eq_true (by omega)
  have K0 := Lib.hid (SG.start w)
  clear h0 m0 h
  go_enter Tryz.func3, Tryz.ntmps3
  go_wp2_with fail
  refine (slalive_any _).mono ?_
  rintro e w1 ⟨rfl, hb⟩
  have K1 := Lib.hid (K0.out.step hb)
  clear K0
  clear hb
  skip
  skip
  go_wp2_with fail
  go_ret
  exact ⟨rfl, K1.out.bel⟩
set_option maxRecDepth 100000 in
set_option maxHeartbeats 4000000 in
theorem calls_ok (A0 : Option Addr) (n0 c0 : Nat) (l0 : List Cl) (w : World) (h0 : CLs w w.heap.size A0 n0 l0) (m0 : n0 ≤ c0 ∧ c0 ≤ maxLen) (h : n0 ≤ 100) :
    Calls Tryz.prog 3 #[.slice A0 n0 c0] w fun e w' => e = .returned (.bool true) ∧ Below w.heap.size w w' := by
  have HKS := Lib.hid (And.intro h0.2.1 (And.intro h0.len h0))
  have HM := Lib.hid m0
  have d1 : decide ((100 : Int) < (n0 : Int)) = false := decide_eq_false (by omega)
  have K0 := Lib.hid (SG.start w)
  clear h0 m0
  go_enter Tryz.func3, Tryz.ntmps3
  go_wp2_with fail
  refine (slalive_any _).mono ?_
  rintro e w1 ⟨rfl, hb⟩
  have K1 := Lib.hid (K0.out.step hb)
  clear K0
  clear hb
  skip
  skip
  go_wp2_with fail
  refine (new18_any _).mono ?_
  rintro e w2 ⟨p_s, rfl, hc, hx, hb⟩
  have HZs := Lib.hid (Nat.le_trans K1.out.bel.size hx)
  have K2 := Lib.hid (K1.out.new hb hx hc)
  clear K1
  clear hc hx hb
  skip
  skip
  go_wp2_with (first | ((with_reducible show wpList _ _ _ (⟨some 13, .box _ _, _, _, _, _⟩ :: _) _ _); refine wpList_boxB rfl 33 (.tmp 12) rfl (rSl zSl) rz_lit ?_; intro w3 p_r hc1 hb1 hx1; have K3 := Lib.hid (K2.out.new hb1 hx1 hc1); have HZr := Lib.hid (Nat.le_trans K2.out.bel.size hx1); clear hc1 hb1 hx1; skip))
  go_loopw [5] (fun t wr => ∃ i : Nat, i ≤ n0 ∧ t = .int .i64 (i : Int) ∧ Hid (SG w [] [] [(33, p_r, rSl (upTo l0 i)), (69, p_s, pSl (upTo l0 i))] wr)) (fun t _ => n0 - (intOf t).toNat)
  case atStart => exact ⟨0, Nat.zero_le _, rfl, (by rw [upTo_0]; exact K3)⟩
  case round =>
    obtain ⟨i, hi, rfl, K50⟩ := hrel
    by_cases hlt : i < n0
    · obtain ⟨b0, o0, kk, rfl, -, hki0, hko0, hrg⟩ := (HKS.out.2.2.below K50.out.bel).at_ hlt
      have hko := Lib.hid hko0
      have lk := ld_at hko0 hrg
      clear hko0 hrg
      have hki := Lib.hid hki0
      clear hki0
      go_wp2_with fail
      refine (do_any p_s p_r (upTo l0 i) (upTo l0 i) (upTo_ok HKS.out.1 i) (upTo_ok HKS.out.1 i) (Nat.le_trans (upTo_n l0 i) (by have := HKS.out.2.1; omega)) (Nat.le_trans (upTo_n l0 i) (by have := HKS.out.2.1; omega)) kk hko.out _ (by exact (K50.out.blk _ (.tail _ (.head _)))) (by exact (K50.out.blk _ (.head _)))).mono ?_
      rintro e w51 ⟨b, rfl, hbt, hc, hc', ho⟩
      obtain rfl : b = true := hbt rfl
      rw [← upTo_next hki.out] at hc hc'
      have K51 := Lib.hid (K50.out.mut2 (by decide) (by decide) HZr.out HZs.out ho.swap_ hc' hc)
      clear K50
      clear hbt hc hc' ho lk
      go_wp2_with fail
      refine (agree_any p_s p_r (upTo l0 (i + 1)) (upTo_ok HKS.out.1 _) _ (by exact (K51.out.blk _ (.tail _ (.head _)))) (by exact (K51.out.blk _ (.head _)))).mono ?_
      rintro e w51 ⟨rfl, hb⟩
      have K52 := Lib.hid (K51.out.step hb)
      clear K51
      clear hb
      (try clear q_r)
      (try clear f0_r)
      (try clear f1_r)
      (try clear f2_r)
      skip
      go_wp2_with fail
      go_roundw
      case rel => exact ⟨i + 1, by omega, by go_num, K52⟩
      case measure => simp [intOf]; omega
    · go_wp2_with fail
      go_ret
      exact ⟨rfl, K50.out.bel⟩
theorem SlotCalls_walk (A0 : Option Addr) (n0 c0 : Nat) (l0 : List Cl) (w : World) (h0 : CLs w w.heap.size A0 n0 l0) (m0 : n0 ≤ c0 ∧ c0 ≤ maxLen) :
    Calls Tryz.prog 3 #[.slice A0 n0 c0] w fun e w' => e = .returned (.bool true) ∧ Below w.heap.size w w' := by
  by_cases h : 100 < n0
  · exact calls_long A0 n0 c0 l0 w h0 m0 h
  · exact calls_ok A0 n0 c0 l0 w h0 m0 (by omega)
end Go.Proofs.YtkcchidklcnnnaaGreat
