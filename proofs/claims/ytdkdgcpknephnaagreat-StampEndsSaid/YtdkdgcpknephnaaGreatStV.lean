/- Layer 12's statements' own first step. No condition. -/
import Derived.Test.YtdkdgcpknephnaaGreatStN
import Derived.Test.YtdkdgcpknephnaaGreatStShow
import Derived.Lib.SmallJoins
namespace Go.Proofs.YtdkdgcpknephnaaGreat
open Go.RowKit
set_option linter.unusedVariables false
set_option linter.unusedSimpArgs false
theorem sh_lens : shB.length = 36 ∧ shId.length = 8 ∧ shFr.length = 8 ∧ shTok.length = 5 ∧ shAh.length = 20 ∧ shSt.length = 16 := ⟨rfl, rfl, rfl, rfl, rfl, rfl⟩
theorem sh_b20 : shB.take 20 = shAh := rfl
theorem sh_b16 : shB.drop 20 = shSt := rfl
theorem RB.litMI (w : World) (l : List UInt8) (cs : Array Value) (n g : Nat) (fr : Nat × Nat) (hc : cs = (bvs l).toArray) (hn : l.length = n) (hg : g = w.heap.size) : RB (w.alloc (.cells cs 5 fr)) (w.alloc (.cells cs 5 fr)).heap.size (some ⟨g, 0, none⟩) n l := by
  subst hg
  subst hn
  subst hc
  refine ⟨rfl, fun hn => ⟨w.heap.size, 0, rfl, by simp, fun i hi => ?_⟩⟩
  have hb : (w.alloc (.cells (bvs l).toArray 5 fr)).heap[w.heap.size]? = some (.cells (bvs l).toArray 5 fr) := heap_alloc_new w _
  rw [cell_of_row _ w.heap.size (0 + i) _ _ fr hb]
  simp [bvs, hi]
theorem IW.litM {v w : World} {rows : List (Option Addr × Nat × Nat × List UInt8)} {is : List In} {bs : List (TypeId × Nat × In)} (k : IW v rows is bs w) (l : List UInt8) (cs : Array Value) (n : Nat) (fr : Nat × Nat) (hc : cs = (bvs l).toArray) (hn : l.length = n) (hm : n ≤ maxLen) : IW v ((some ⟨w.heap.size, 0, none⟩, n, n, l) :: rows) is bs (w.alloc (.cells cs 5 fr)) :=
  (k.step (below_alloc _ _)).add (RB.litMI w l cs n _ fr hc hn rfl) (Nat.le_refl _) hm
theorem smake_n (A0 A1 A2 A3 : Option Addr) (n0 n1 n2 n3 c0 c1 c2 c3 : Nat) (l0 l1 l2 l3 : List UInt8) (w : World)
    (h0 : RB w w.heap.size A0 n0 l0) (h1 : RB w w.heap.size A1 n1 l1) (h2 : RB w w.heap.size A2 n2 l2) (h3 : RB w w.heap.size A3 n3 l3)
    (m0 : n0 ≤ c0 ∧ c0 ≤ maxLen) (m1 : n1 ≤ c1 ∧ c1 ≤ maxLen) (L : List UInt8) (N : Nat) (E : Int) (hL : smakeR l0 l1 l2 l3 = (L, E)) (hN : L.length = N) :
    Calls Tryz.prog 9 #[.slice A0 n0 c0, .slice A1 n1 c1, .slice A2 n2 c2, .slice A3 n3 c3] w (RetBE N L E w) := by
  have e0 := h0.len
  have e1 := h1.len
  have e2 := h2.len
  have e3 := h3.len
  subst e0 e1 e2 e3 hN
  have h := smake_any A0 A1 A2 A3 c0 c1 c2 c3 l0 l1 l2 l3 w h0 h1 h2 h3 m0 m1
  rw [hL] at h
  exact h
theorem stamp_n (A0 A1 : Option Addr) (n0 c0 n1 c1 : Nat) (id ahead : List UInt8) (w : World) (h0 : RB w w.heap.size A0 n0 id) (h1 : RB w w.heap.size A1 n1 ahead) (L : List UInt8) (N : Nat) (E : Int) (hL : stampR id ahead = (L, E)) (hN : L.length = N) :
    Calls Tryz.prog 12 #[.slice A0 n0 c0, .slice A1 n1 c1] w (RetBE N L E w) := by
  subst hN
  have h := stamp_any A0 A1 n0 c0 n1 c1 id ahead w h0 h1
  rw [hL] at h
  exact h
attribute [local irreducible] sprs smakeR stampR scheckR shB shId shFr shTok shAh shSt
attribute [local go_sem ↓] ex_ldHd ex_stHd ex_ldHr ex_stHr ex_ldS ex_ldSr ex_stS ex_stSr
set_option maxRecDepth 100000 in
set_option maxHeartbeats 8000000 in
theorem salive_any (w : World) : Calls Tryz.prog 7 #[] w fun e w' => e = .returned (.bool true) ∧ Below w.heap.size w w' := by
  have kc := fun (w : World) (C : Array Value) (n c : Nat) => Lib.run_convert_bytes_const (P := Tryz.prog) w 22 5 C n c Tryz.underlying22 Tryz.underlying5
  go_enter Tryz.func7, Tryz.ntmps7
  go_wp2_with fail
  refine (sh_ub _).mono ?_
  rintro e w1 ⟨A1, c1, rfl, ho, hb⟩
  have K1 := Lib.hid ((IW.start w).own hb ho)
  clear ho hb
  go_wp2_with fail
  refine (sh_uid _).mono ?_
  rintro e w2 ⟨A2, c2, rfl, ho, hb⟩
  have K2 := Lib.hid (K1.out.own hb ho)
  clear ho hb K1
  go_wp2_with fail
  refine (sh_ufr _).mono ?_
  rintro e w3 ⟨A3, c3, rfl, ho, hb⟩
  have K3 := Lib.hid (K2.out.own hb ho)
  clear ho hb K2
  go_wp2_with fail
  have K4 := Lib.hid (K3.out.litM shTok #[.int .u8 116, .int .u8 111, .int .u8 107, .int .u8 101, .int .u8 110] 5 (5, 6) (by unfold shTok; rfl) sh_lens.2.2.2.1 (by decide))
  clear K3
  refine (smake_n none A3 A2 (some ⟨w3.heap.size, 0, none⟩) 0 8 8 5 0 c3 c2 5 [] shFr shId shTok _ RB.nil_ (by exact (K4.out.row (A3, 8, c3, shFr) (by simp)).1) (by exact (K4.out.row (A2, 8, c2, shId) (by simp)).1) (by exact (K4.out.row _ (.head _)).1) (by decide) (by exact (K4.out.row (A3, 8, c3, shFr) (by simp)).2) shB 36 0 sh_make sh_lens.1).mono ?_
  rintro e w5 ⟨A5, c5, rfl, ho, hb⟩
  have K5 := Lib.hid (K4.out.own hb ho)
  clear ho hb K4
  go_wp2_with fail
  refine (sparse_any A1 36 c1 shB _ (by exact (K5.out.row (A1, 36, c1, shB) (by simp)).1) (by exact (K5.out.row (A1, 36, c1, shB) (by simp)).2) (by decide)).mono ?_
  rw [sh_parse]
  intro e w6 q6
  obtain ⟨i, rfl, hp, _, k6⟩ := K5.out.ret q6
  have J6 := Lib.hid k6
  have HP := Lib.hid (in_parts hp)
  clear q6 hp k6 K5
  go_wp2_with (first
    | (with_reducible show wpList _ _ _ (⟨some 9, .alloc _, _, _, _, none⟩ :: _) _ _; refine wpList_newI rt_st rfl rfl ?_; intro w6a x hc2 hb2 hx2; have H2 := Lib.hid (And.intro hc2 (And.intro hb2 hx2)); clear hc2 hb2 hx2)
    | (refine wpList_stI rt_st rfl (.tmp 9) (.tmp 42) rfl x rfl i zeroI rfl (by exact H2.out.1) ?_; intro w6b hc3 ho3 hs3; have K6 := Lib.hid (J6.out.var H2.out.2.1 H2.out.2.2 hc3 ho3); clear hc3 ho3 hs3 H2 J6))
  refine (smake_n none none none none 0 0 0 0 0 0 0 0 [] [] [] [] _ RB.nil_ RB.nil_ RB.nil_ RB.nil_ (by decide) (by decide) [] 0 11 sh_make0 rfl).mono ?_
  rintro e w7 ⟨A7, c7, rfl, ho, hb⟩
  have K7 := Lib.hid (K6.out.step hb)
  clear ho hb K6
  go_wp2_with (first
    | (at_make; refine wpList_mk rfl _ _ rfl w7.heap.size .i64 .i64 _ _ 21 rfl rfl rfl rfl (by decide) (Nat.le_refl _) ?_; intro w8 ho8 hs8 hb8; have K8 := Lib.hid (K7.out.own hb8 ho8); clear ho8 hs8 hb8 K7))
  refine (smake_n _ none none none 21 0 0 0 21 0 0 0 (List.replicate 21 0) [] [] [] _ (by exact (K8.out.row _ (.head _)).1) RB.nil_ RB.nil_ RB.nil_ (by decide) (by decide) [] 0 15 sh_make21 rfl).mono ?_
  rintro e w9 ⟨A9, c9, rfl, ho, hb⟩
  have K9 := Lib.hid (K8.out.step hb)
  clear ho hb K8
  have hc1 := (K9.out.row (A1, 36, c1, shB) (by simp)).2
  simp only at hc1
  have h30 : 30 ≤ c1 := by omega
  have h20 : 20 ≤ c1 := by omega
  have HC1 := Lib.hid hc1
  clear hc1
  go_wp2_with fail
  refine (sparse_any A1 30 c1 (shB.take 30) _ (by exact (K9.out.row (A1, 36, c1, shB) (by simp)).1.front (j := 30) (show 30 ≤ 36 by decide)) (by exact ⟨h30, HC1.out.2⟩) (by decide)).mono ?_
  rw [sh_parse30]
  intro e w10 q10
  obtain ⟨i2, rfl, _, _, k10⟩ := K9.out.ret q10
  have J10 := Lib.hid k10
  clear q10 k10 K9
  go_wp2_with (first
    | (with_reducible show wpList _ _ _ (⟨some 15, .alloc _, _, _, _, none⟩ :: _) _ _; refine wpList_newI rt_st rfl rfl ?_; intro w10a x2 hc2 hb2 hx2; have H2 := Lib.hid (And.intro hc2 (And.intro hb2 hx2)); clear hc2 hb2 hx2)
    | (refine wpList_stI rt_st rfl (.tmp 15) (.tmp 57) rfl x2 rfl i2 zeroI rfl (by exact H2.out.1) ?_; intro w10b hc3 ho3 hs3; have K10 := Lib.hid (J10.out.var H2.out.2.1 H2.out.2.2 hc3 ho3); clear hc3 ho3 hs3 H2 J10))
  have hah : RB w10b w10b.heap.size A1 20 shAh := by
    have h := (K10.out.row (A1, 36, c1, shB) (by simp)).1.front (j := 20) (show 20 ≤ 36 by decide)
    rw [sh_b20] at h
    exact h
  refine (stamp_n A2 A1 8 c2 20 c1 shId shAh _ (by exact (K10.out.row (A2, 8, c2, shId) (by simp)).1) (by exact hah) shSt 16 0 sh_stamp sh_lens.2.2.2.2.2).mono ?_
  rintro e w11 ⟨A11, c11, rfl, ho, hb⟩
  have K11 := Lib.hid (K10.out.own hb ho)
  clear ho hb K10 hah
  have kp := K11.out.part (i := i) (by simp)
  rw [HP.out.2.2.2.1, HP.out.2.2.2.2.1, HP.out.2.2.2.2.2, sh_lens.2.2.1, sh_lens.2.2.2.1, sh_lens.2.2.2.2.2] at kp
  have K12 := Lib.hid kp
  clear kp K11
  go_wp2_with fail
  refine (al_same _ _ _ _ _ _ shB shB _ (by exact (K12.out.row (A5, 36, c5, shB) (by simp)).1) (by exact (K12.out.row (A1, 36, c1, shB) (by simp)).1) (by decide) (by decide) true (by simp)).mono ?_
  rintro e w13 ⟨rfl, hb⟩
  have K13 := Lib.hid (K12.out.step hb)
  clear hb K12
  have m4 := (K13.out.box (35, x, i) (by simp)).c4
  rw [HP.out.2.2.2.2.1, sh_lens.2.2.2.1] at m4
  go_wp2_with fail
  clear m4
  have K14 := Lib.hid (K13.out.litM shTok #[.int .u8 116, .int .u8 111, .int .u8 107, .int .u8 101, .int .u8 110] 5 (5, 6) (by unfold shTok; rfl) sh_lens.2.2.2.1 (by decide))
  refine (al_same _ _ _ _ _ _ shTok shTok _ (by exact (K14.out.row (i.T, 5, i.e, shTok) (by simp)).1) (by exact (K14.out.row _ (.head _)).1) (by decide) (by decide) true (by simp)).mono ?_
  rintro e w15 ⟨rfl, hb⟩
  have K15 := Lib.hid (K14.out.step hb)
  clear hb K14 K13
  have m3 := (K15.out.box (35, x, i) (by simp)).c3
  rw [HP.out.2.2.2.1, sh_lens.2.2.1] at m3
  go_wp2_with fail
  clear m3
  refine (al_same _ _ _ _ _ _ shFr shFr _ (by exact (K15.out.row (i.h.B, 8, i.h.d, shFr) (by simp)).1) (by exact (K15.out.row (A3, 8, c3, shFr) (by simp)).1) (by decide) (by decide) true (by simp)).mono ?_
  rintro e w16 ⟨rfl, hb⟩
  have K16 := Lib.hid (K15.out.step hb)
  clear hb K15
  have m5 := (K16.out.box (35, x, i) (by simp)).c5
  rw [HP.out.2.2.2.2.2, sh_lens.2.2.2.2.2] at m5
  go_wp2_with fail
  clear m5
  refine (al_same _ _ _ _ _ _ shSt shSt _ (by exact (K16.out.row (i.R, 16, i.g, shSt) (by simp)).1) (by exact (K16.out.row (A11, 16, c11, shSt) (by simp)).1) (by decide) (by decide) true (by simp)).mono ?_
  rintro e w17 ⟨rfl, hb⟩
  have K17 := Lib.hid (K16.out.step hb)
  clear hb K16
  have cutl20 : ∀ W : World, (Instr.slice 22 (.slice A1 36 c1) (some (.int .i64 20)) none none).run Tryz.prog W = .ok (.slice (cutA A1 c1 20) 16 (c1 - 20)) W := cut_l A1 36 c1 20 (by decide)
  have hst : RB w17 w17.heap.size (cutA A1 c1 20) 16 shSt := by
    have h := (K17.out.row (A1, 36, c1, shB) (by simp)).1.part (i := 20) (j := 36) (c := c1) (by decide) (Nat.le_refl 36) HC1.out.1
    rw [List.take_of_length_le (by simp only; rw [sh_lens.1]; exact Nat.le_refl _)] at h
    simp only at h
    rw [sh_b16] at h
    exact h
  have HST := Lib.hid hst
  clear hst
  go_wp2_with fail
  clear cutl20
  refine (al_same _ _ _ _ _ _ shSt shSt _ (by exact (K17.out.row (A11, 16, c11, shSt) (by simp)).1) (by exact HST.out) (by decide) (by decide) true (by simp)).mono ?_
  rintro e w18 ⟨rfl, hb⟩
  have K18 := Lib.hid (K17.out.step hb)
  clear hb K17 HST
  go_wp2_with fail
  refine (scheck_any A1 A2 36 c1 8 c2 shB shId _ (by exact (K18.out.row (A1, 36, c1, shB) (by simp)).1) (by exact (K18.out.row (A1, 36, c1, shB) (by simp)).2) (by decide) (by exact (K18.out.row (A2, 8, c2, shId) (by simp)).1) (by exact (K18.out.row (A2, 8, c2, shId) (by simp)).2)).mono ?_
  rw [sh_ok]
  rintro e w19 ⟨rfl, hb⟩
  have K19 := Lib.hid (K18.out.step hb)
  clear hb K18
  go_wp2_with fail
  refine (scheck_any A1 A3 36 c1 8 c3 shB shFr _ (by exact (K19.out.row (A1, 36, c1, shB) (by simp)).1) (by exact (K19.out.row (A1, 36, c1, shB) (by simp)).2) (by decide) (by exact (K19.out.row (A3, 8, c3, shFr) (by simp)).1) (by exact (K19.out.row (A3, 8, c3, shFr) (by simp)).2)).mono ?_
  rw [sh_bad]
  rintro e w20 ⟨rfl, hb⟩
  have K20 := Lib.hid (K19.out.step hb)
  clear hb K19
  go_wp2_with fail
  go_ret
  exact ⟨rfl, K20.out.bel⟩
end Go.Proofs.YtdkdgcpknephnaaGreat
