/- Layer 11's statements' own first step. No condition. -/
import Derived.Test.YtdagmhngkpbonaaIniK
namespace Go.Proofs.Ytdagmhngkpbonaa
open Go.RowKit
set_option linter.unusedVariables false
set_option linter.unusedSimpArgs false
theorem vi_1 : iprs [192, 0, 0, 0, 1, 0, 0, 2, 7, 8, 9] = (((192, 1, [], []), [7, 8], [9]), 0) := by decide +kernel
theorem vi_2 : iprs [192, 0, 0, 0, 1, 0, 0, 2, 7] = (zeroIP, 12) := by decide +kernel
theorem vi_3 : iprs [208, 0, 0, 0, 1, 0, 0, 0] = (zeroIP, 14) := by decide +kernel
theorem vi_4 : ibyt ((192, 1, [], []), [7, 8], [9]) = ([192, 0, 0, 0, 1, 0, 0, 2, 7, 8, 9], 0) := by decide +kernel
theorem vi_5 : mkI (madeP [] [] [7, 8] [9]) 13 = ([192, 0, 0, 0, 1, 0, 0, 2, 7, 8, 9, 0, 0], 0) := by decide +kernel
theorem vi_6 : mkI (madeP (List.replicate 21 0) [] [] []) 0 = ([], 15) := by decide +kernel
theorem ty_127 (w : World) : Calls Try.prog 12 #[.int .u8 127] w fun e w' => e = .returned (.int .i64 3) ∧ w = w' := typ_any 127 w
theorem ty_224 (w : World) : Calls Try.prog 12 #[.int .u8 224] w fun e w' => e = .returned (.int .i64 2) ∧ w = w' := typ_any 224 w
theorem ty_208 (w : World) : Calls Try.prog 12 #[.int .u8 208] w fun e w' => e = .returned (.int .i64 1) ∧ w = w' := typ_any 208 w
attribute [local irreducible] iprs ibyt mkI
attribute [local go_sem ↓] ex_ldHd ex_stHd ex_ldHr ex_stHr ex_ldI ex_ldIr ex_stI ex_stIr
set_option maxRecDepth 100000 in
set_option maxHeartbeats 8000000 in
theorem ialive_any (w : World) : Calls Try.prog 6 #[] w fun e w' => e = .returned (.bool true) ∧ Below w.heap.size w w' := by
  go_enter Try.func6, Try.ntmps6
  go_wp2_with fail
  have K0 := Lib.hid ((IW.start w).lit [192, 0, 0, 0, 1, 0, 0, 2, 7, 8, 9] _ 11 rfl rfl (by decide))
  refine (iparse_any _ 11 11 [192, 0, 0, 0, 1, 0, 0, 2, 7, 8, 9] _ (by exact (K0.out.row _ (.head _)).1) (by decide)).mono ?_
  rw [vi_1]
  intro e w1 q1
  obtain ⟨i, rfl, hp, ho, k1⟩ := K0.out.ret q1
  have J1 := Lib.hid k1
  have HP := Lib.hid (in_parts hp)
  have HPL := Lib.hid hp
  clear q1 hp ho k1 K0
  go_wp2_with (first
    | (with_reducible show wpList _ _ _ (⟨some 2, .alloc _, _, _, _, none⟩ :: _) _ _; refine wpList_newI rt_ini rfl rfl ?_; intro w1a x hc2 hb2 hx2; have H2 := Lib.hid (And.intro hc2 (And.intro hb2 hx2)); clear hc2 hb2 hx2)
    | (refine wpList_stI rt_ini rfl (.tmp 2) (.tmp 18) rfl x rfl i zeroI rfl (by exact H2.out.1) ?_; intro w1b hc3 ho3 hs3; have K1 := Lib.hid (J1.out.var H2.out.2.1 H2.out.2.2 hc3 ho3); clear hc3 ho3 hs3 H2 J1))
  refine (iparse_any _ 9 11 [192, 0, 0, 0, 1, 0, 0, 2, 7] _ (by exact (K1.out.row ((some ⟨w.heap.size, 0, none⟩), 11, 11, [192, 0, 0, 0, 1, 0, 0, 2, 7, 8, 9]) (by simp)).1.front (j := 9) (show 9 ≤ 11 by decide)) (by decide)).mono ?_
  rw [vi_2]
  intro e w2 q2
  obtain ⟨i2, rfl, hp2, ho2, k2⟩ := K1.out.ret q2
  have J2 := Lib.hid k2
  clear q2 hp2 ho2 k2 K1
  go_wp2_with (first
    | (with_reducible show wpList _ _ _ (⟨some 4, .alloc _, _, _, _, none⟩ :: _) _ _; refine wpList_newI rt_ini rfl rfl ?_; intro w2a x2 hc2 hb2 hx2; have H2 := Lib.hid (And.intro hc2 (And.intro hb2 hx2)); clear hc2 hb2 hx2)
    | (refine wpList_stI rt_ini rfl (.tmp 4) (.tmp 24) rfl x2 rfl i2 zeroI rfl (by exact H2.out.1) ?_; intro w2b hc3 ho3 hs3; have K2 := Lib.hid (J2.out.var H2.out.2.1 H2.out.2.2 hc3 ho3); clear hc3 ho3 hs3 H2 J2))
  have K3 := Lib.hid (K2.out.lit [208, 0, 0, 0, 1, 0, 0, 0] _ 8 rfl rfl (by decide))
  clear K2
  refine (iparse_any _ 8 8 [208, 0, 0, 0, 1, 0, 0, 0] _ (by exact (K3.out.row _ (.head _)).1) (by decide)).mono ?_
  rw [vi_3]
  intro e w3 q3
  obtain ⟨i3, rfl, hp3, ho3, k3⟩ := K3.out.ret q3
  have J3 := Lib.hid k3
  clear q3 hp3 ho3 k3 K3
  go_wp2_with (first
    | (with_reducible show wpList _ _ _ (⟨some 6, .alloc _, _, _, _, none⟩ :: _) _ _; refine wpList_newI rt_ini rfl rfl ?_; intro w3a x3 hc2 hb2 hx2; have H2 := Lib.hid (And.intro hc2 (And.intro hb2 hx2)); clear hc2 hb2 hx2)
    | (refine wpList_stI rt_ini rfl (.tmp 6) (.tmp 29) rfl x3 rfl i3 zeroI rfl (by exact H2.out.1) ?_; intro w3b hc3 ho3 hs3; have K4 := Lib.hid (J3.out.var H2.out.2.1 H2.out.2.2 hc3 ho3); clear hc3 ho3 hs3 H2 J3)
    | (refine wpList_ldI rt_ini rfl (.tmp 2) rfl x rfl i (by exact (K4.out.box (29, x, i) (by simp))) ?_))
  refine (ibytes_any i _ (K4.out.ini i (by simp)) (by rw [HP.out.2.2.2.2.1]; decide) (by rw [HP.out.2.2.2.2.2]; decide) (by rw [HP.out.2.2.2.2.1, HP.out.2.2.2.2.2]; decide)).mono ?_
  rw [HPL.out, vi_4]
  rintro e w5 ⟨A5, c5, rfl, ho, hb⟩
  have K5 := Lib.hid (K4.out.own hb ho)
  clear ho hb K4
  go_wp2_with fail
  have K6 := Lib.hid ((K5.out.lit [7, 8] #[.int .u8 7, .int .u8 8] 2 rfl rfl (by decide)).lit [9] #[.int .u8 9] 1 rfl rfl (by decide))
  refine (make_any none none _ _ 0 0 2 1 [] [] [7, 8] [9] 13 _ RB.nil_ RB.nil_ (by exact (K6.out.row _ (.tail _ (.head _))).1) (by simpa using (K6.out.row _ (.head _)).1) (by decide) (by decide) (by decide) (by decide) (by decide) (by decide) (by decide)).mono ?_
  rw [vi_5]
  rintro e w7 ⟨A7, c7, rfl, ho, hb⟩
  have K7 := Lib.hid (K6.out.own hb ho)
  clear ho hb K6 K5
  go_wp2_with (first
    | (at_make; refine wpList_mk rfl _ _ rfl w7.heap.size .i64 .i64 _ _ 21 rfl rfl rfl rfl (by decide) (Nat.le_refl _) ?_; intro w8 ho8 hs8 hb8; have K8 := Lib.hid (K7.out.own hb8 ho8); clear ho8 hs8 hb8 K7))
  refine (make_any _ none none none 21 0 0 0 (List.replicate 21 0) [] [] [] 0 _ (by exact (K8.out.row _ (.head _)).1) RB.nil_ RB.nil_ RB.nil_ (by decide) (by decide) (by decide) (by decide) (by decide) (by decide) (by decide)).mono ?_
  rw [vi_6]
  rintro e w9 ⟨A9, c9, rfl, ho, hb⟩
  have K9 := Lib.hid (K8.out.step hb)
  clear ho hb K8
  have kt := (K9.out.ini i (by simp))
  have k2 := kt.t
  have k3 := kt.r
  have k4 := kt.ct
  have k5 := kt.cr
  rw [HP.out.2.2.2.2.1] at k2 k4
  rw [HP.out.2.2.2.2.2] at k3 k5
  have K10 := Lib.hid ((K9.out.add (A := i.T) (n := 2) (c := i.e) (l := [7, 8]) k2 k4.1 k4.2).add (A := i.R) (n := 1) (c := i.g) (l := [9]) k3 k5.1 k5.2)
  have m4 := (K10.out.box (29, x, i) (by simp)).c4
  rw [HP.out.2.2.2.2.1] at m4
  clear kt k2 k3 k4 k5 K9
  go_wp2_with fail
  clear m4
  have K11 := Lib.hid (K10.out.lit [7, 8] #[.int .u8 7, .int .u8 8] 2 rfl rfl (by decide))
  refine (al_same _ _ _ _ _ _ [7, 8] [7, 8] _ (by exact (K11.out.row (i.T, 2, i.e, [7, 8]) (by simp)).1) (by exact (K11.out.row _ (.head _)).1) (by decide) (by decide) true rfl).mono ?_
  rintro e w12 ⟨rfl, hb⟩
  have K12 := Lib.hid (K11.out.step hb)
  clear hb K11 K10
  have m5 := (K12.out.box (29, x, i) (by simp)).c5
  rw [HP.out.2.2.2.2.2] at m5
  go_wp2_with fail
  clear m5
  have K13 := Lib.hid (K12.out.lit [9] #[.int .u8 9] 1 rfl rfl (by decide))
  refine (al_same _ _ _ _ _ _ [9] [9] _ (by exact (K13.out.row (i.R, 1, i.g, [9]) (by simp)).1) (by exact (K13.out.row _ (.head _)).1) (by decide) (by decide) true rfl).mono ?_
  rintro e w14 ⟨rfl, hb⟩
  have K14 := Lib.hid (K13.out.step hb)
  clear hb K13 K12
  have m1 := (K14.out.box (29, x, i) (by simp)).c1
  rw [HP.out.2.1] at m1
  go_wp2_with fail
  clear m1
  refine (al_same _ _ _ _ _ _ [192, 0, 0, 0, 1, 0, 0, 2, 7, 8, 9] [192, 0, 0, 0, 1, 0, 0, 2, 7, 8, 9] _ (by exact (K14.out.row (A5, 11, c5, [192, 0, 0, 0, 1, 0, 0, 2, 7, 8, 9]) (by simp)).1) (by exact (K14.out.row ((some ⟨w.heap.size, 0, none⟩), 11, 11, [192, 0, 0, 0, 1, 0, 0, 2, 7, 8, 9]) (by simp)).1) (by decide) (by decide) true rfl).mono ?_
  rintro e w15 ⟨rfl, hb⟩
  have K15 := Lib.hid (K14.out.step hb)
  clear hb K14
  go_wp2_with fail
  refine (copy_any _ 11 11 0 [192, 0, 0, 0, 1, 0, 0, 2, 7, 8, 9] _ (by exact (K15.out.row ((some ⟨w.heap.size, 0, none⟩), 11, 11, [192, 0, 0, 0, 1, 0, 0, 2, 7, 8, 9]) (by simp)).1) (by decide)).mono ?_
  rintro e w16 ⟨A16, c16, rfl, ho, hb⟩
  have O16 := Lib.hid (And.intro ho hb)
  clear ho hb
  have hal := below_alloc w16 (.cells #[.int .u8 0, .int .u8 0] 5)
  have O17 := Lib.hid (And.intro (O16.out.1.below hal) (bel_next O16.out.2 hal))
  have R17 := Lib.hid (RB.lit w16 [0, 0] #[.int .u8 0, .int .u8 0] 2 w16.heap.size rfl rfl rfl)
  clear hal
  go_wp2_with (first
    | (with_reducible show wpList _ _ _ (⟨some 97, _, _, _, _, _⟩ :: _) _ _; refine wpList_appGI (by go_simp) (.tmp 95) (.tmp 96) rfl w15.heap.size A16 11 c16 [192, 0, 0, 0, 1, 0, 0, 2, 7, 8, 9] rfl (by exact O17.out.1) _ (some ⟨w16.heap.size, 0, none⟩) 2 2 [0, 0] rfl (by exact R17.out) (by decide) O17.out.2.size ?_; intro A18 c18 w18 ho hb; have K18 := Lib.hid (K15.out.own (O17.out.2.trans hb) ho); clear ho hb))
  refine (al_same _ _ _ _ _ _ [192, 0, 0, 0, 1, 0, 0, 2, 7, 8, 9, 0, 0] [192, 0, 0, 0, 1, 0, 0, 2, 7, 8, 9, 0, 0] _ (by exact (K18.out.row (A7, 13, c7, [192, 0, 0, 0, 1, 0, 0, 2, 7, 8, 9, 0, 0]) (by simp)).1) (by exact (K18.out.row _ (.head _)).1) (by decide) (by decide) true rfl).mono ?_
  rintro e w19 ⟨rfl, hb⟩
  have K19 := Lib.hid (K18.out.step hb)
  clear hb K18 K15 O16 O17 R17
  go_wp2_with fail
  refine (ty_127 _).mono ?_
  rintro e w20 ⟨rfl, rfl⟩
  go_wp2_with fail
  refine (ty_224 _).mono ?_
  rintro e w20 ⟨rfl, rfl⟩
  go_wp2_with fail
  refine (ty_208 _).mono ?_
  rintro e w20 ⟨rfl, rfl⟩
  have ql := (K19.out.box (29, x, i) (by simp)).ld rt_ini
  go_wp2_with fail
  refine (isame_any i i _ (K19.out.ini i (by simp)) (K19.out.ini i (by simp)) true (decide_eq_true rfl)).mono ?_
  rintro e w21 ⟨rfl, hb⟩
  have K21 := Lib.hid (K19.out.step hb)
  clear hb K19 ql
  have ql := (K21.out.box (29, x, i) (by simp)).ld rt_ini
  go_wp2_with fail
  refine (isame_any i zeroI _ (K21.out.ini i (by simp)) (zeroI_ok _) false (by rw [HPL.out]; exact decide_eq_false (by decide))).mono ?_
  rintro e w22 ⟨rfl, hb⟩
  have K22 := Lib.hid (K21.out.step hb)
  clear hb K21 ql
  go_wp2_with fail
  go_ret
  exact ⟨rfl, K22.out.bel⟩
end Go.Proofs.Ytdagmhngkpbonaa
