/- MixAnswers' walk: the program's answers are the reference's. -/
import Derived.Test.YtcihincfemiioaaMixApartW
import Derived.Test.YtcihincfemiioaaOpenRows
namespace Go.Proofs.Ytcihincfemiioaa
open Go.RowKit
set_option linter.unusedVariables false
set_option linter.unusedSimpArgs false
theorem RR.more22 {w : World} {B B' n : Nat} {A : Option Addr} {ps : List (List UInt8)} (h : RR w B A n ps) (hB : B ≤ B') : RR w B' A n ps :=
  ⟨h.1, fun hn => by
    obtain ⟨b, o, e, hb, hc⟩ := h.2 hn
    refine ⟨b, o, e, by omega, fun i p hp => ?_⟩
    obtain ⟨Ai, ci, k1, k2⟩ := hc i p hp
    exact ⟨Ai, ci, k1, k2.more hB⟩⟩
attribute [local irreducible] foldF size8 partF partsF endF mixF stepF belowF longB
set_option maxRecDepth 100000 in
set_option maxHeartbeats 2000000 in
theorem MixAnswers_walk (x0 : Int) (A1 : Option Addr) (n1 c1 : Nat) (l1 : List (List UInt8)) (A2 : Option Addr) (n2 c2 : Nat) (l2 : List UInt8) (x3 : Int) (w : World) (h0 : (Lit.int .u64 x0).wf = true) (h1 : RP w w.heap.size A1 n1 l1) (m1 : n1 ≤ c1 ∧ c1 ≤ maxLen) (h2 : RB w w.heap.size A2 n2 l2) (m2 : n2 ≤ c2 ∧ c2 ≤ maxLen) (h3 : (Lit.int .i64 x3).wf = true) :
    Calls Try.prog 3 #[.int .u64 x0, .slice A1 n1 c1, .slice A2 n2 c2, .int .i64 x3] w fun e w' => e = .returned (.bool true) ∧ Below w.heap.size w w' := by
  obtain ⟨s, rfl, hs⟩ := u64_nat h0
  have r3 := bounds_i64 h3
  have hm := len_max m2
  have hm1 : n1 ≤ maxLen := Nat.le_trans m1.1 m1.2
  have hm2 : n2 ≤ maxLen := Nat.le_trans m2.1 m2.2
  have LG := Lib.hid (fun W hW => long_any A1 n1 c1 3000 l1 W hW hm1 (by omega) h1.2)
  generalize longB l1 3000 = t at LG
  have HR1 := Lib.hid h1
  have HR2 := Lib.hid h2
  clear h1 h2 h0 h3
  rcases t with _ | _
  · by_cases hl : 3000 < n2
    · have hd : decide (3000 < (n2 : Int)) = true := decide_eq_true (by omega)
      go_enter Try.func3, Try.ntmps3
      go_wp2_with fail
      refine (alive_any _).mono ?_
      rintro e w1 ⟨rfl, hb1⟩
      go_wp2_with fail
      refine (LG.out _ (by exact (HR1.out.1.below hb1).more22 hb1.size)).mono ?_
      rintro e w2 ⟨rfl, rfl⟩
      go_wp2_with fail
      go_ret
      exact ⟨rfl, hb1⟩
    · have hd : decide (3000 < (n2 : Int)) = false := decide_eq_false (by omega)
      go_enter Try.func3, Try.ntmps3
      go_wp2_with fail
      refine (alive_any _).mono ?_
      rintro e w1 ⟨rfl, hb1⟩
      go_wp2_with fail
      refine (LG.out _ (by exact (HR1.out.1.below hb1).more22 hb1.size)).mono ?_
      rintro e w2 ⟨rfl, rfl⟩
      go_wp2_with fail
      refine (copy_any A2 n2 c2 0 l2 _ (by exact HR2.out.step hb1) (by omega)).mono ?_
      rintro e w2 ⟨A, c, rfl, ho, hb⟩
      have HB2 := bel_next hb1 hb
      have HO := Lib.hid ho
      have hco := ho.cap
      clear hb ho hb1
      go_wp2_with fail
      refine (fold_any s A n2 c _ l2 _ hs (by exact HO.out.rb) hm2).mono ?_
      rintro e w3 ⟨rfl, rfl⟩
      go_wp2_with fail
      refine (rfold_any s A2 n2 c2 _ l2 _ hs (by exact HR2.out.step HB2) hm2).mono ?_
      rintro e w3 ⟨rfl, rfl⟩
      go_wp2_with fail
      refine (end_any s _ hs).mono ?_
      rintro e w3 ⟨rfl, rfl⟩
      go_wp2_with fail
      refine (rend_any s _ hs).mono ?_
      rintro e w3 ⟨rfl, rfl⟩
      go_wp2_with fail
      refine (mix_any s A1 n1 c1 l1 _ hs (by exact (HR1.out.1.below HB2).more22 HB2.size) hm1 HR1.out.2).mono ?_
      rintro e w3 ⟨rfl, hb3⟩
      have HB3 := bel_next HB2 hb3
      have HO3 := Lib.hid (HO.out.below hb3)
      clear hb3 HO HB2
      go_wp2_with fail
      refine (rmix_any s A1 n1 c1 l1 _ hs (by exact (HR1.out.1.below HB3).more22 HB3.size) hm1 HR1.out.2).mono ?_
      rintro e w4 ⟨rfl, hb4⟩
      have HB4 := bel_next HB3 hb4
      have HO4 := Lib.hid (HO3.out.below hb4)
      clear hb4 HO3 HB3
      go_wp2_with fail
      refine (below_any s x3 _ hs r3.2).mono ?_
      rintro e w5 ⟨rfl, rfl⟩
      go_wp2_with fail
      refine (rbelow_any s x3 _ hs r3.2).mono ?_
      rintro e w5 ⟨rfl, rfl⟩
      go_wp2_with fail
      refine (al_same A A2 n2 c n2 c2 l2 l2 _ (by exact HO4.out.rb) (by exact HR2.out.step HB4) hm2 hm2 true (by simp)).mono ?_
      rintro e w5 ⟨rfl, hb5⟩
      go_wp2_with fail
      go_ret
      exact ⟨rfl, bel_next HB4 hb5⟩
  · go_enter Try.func3, Try.ntmps3
    go_wp2_with fail
    refine (alive_any _).mono ?_
    rintro e w1 ⟨rfl, hb1⟩
    go_wp2_with fail
    refine (LG.out _ (by exact (HR1.out.1.below hb1).more22 hb1.size)).mono ?_
    rintro e w2 ⟨rfl, rfl⟩
    go_wp2_with fail
    go_ret
    exact ⟨rfl, hb1⟩
end Go.Proofs.Ytcihincfemiioaa
