/- Layer 12's statement StampBack, walked. No condition. -/
import Derived.Test.YtdkdgcpknephnaaGreatStV
import Derived.Test.YtdkdgcpknephnaaGreatStS
import Derived.Test.YtdkdgcpknephnaaGreatStC
import Derived.Test.YtdkdgcpknephnaaGreatOpen
namespace Go.Proofs.YtdkdgcpknephnaaGreat
open Go.RowKit
set_option linter.unusedVariables false
set_option linter.unusedSimpArgs false
theorem stamp_made (to frm id tok : List UInt8) : (aheadL to frm tok ++ stL id (aheadL to frm tok)).length = 23 + to.length + frm.length + tok.length := by rw [List.length_append, ahead_len, stL_len]; omega
theorem ahead_0 (to frm tok s : List UInt8) : (aheadL to frm tok ++ s)[0]? = some 255 := rfl
theorem set_back (l s : List UInt8) (k : Nat) (y : UInt8) : (l ++ s).set (l.length + k) y = l ++ s.set k y := by
  rw [List.set_append_right _ _ (by omega)]
  simp
attribute [local irreducible] sprs smakeR stampR scheckR aheadL iprs stL
attribute [local go_sem ↓] ex_ldHd ex_stHd ex_ldHr ex_stHr ex_ldS ex_ldSr ex_stS ex_stSr ex_ldI ex_stI
set_option maxRecDepth 100000 in
set_option maxHeartbeats 8000000 in
theorem StampBack_walk (A0 : Option Addr) (n0 c0 : Nat) (l0 : List UInt8) (A1 : Option Addr) (n1 c1 : Nat) (l1 : List UInt8) (A2 : Option Addr) (n2 c2 : Nat) (l2 : List UInt8) (A3 : Option Addr) (n3 c3 : Nat) (l3 : List UInt8) (x4 x5 : Int) (w : World) (h0 : RB w w.heap.size A0 n0 l0) (m0 : n0 ≤ c0 ∧ c0 ≤ maxLen) (h1 : RB w w.heap.size A1 n1 l1) (m1 : n1 ≤ c1 ∧ c1 ≤ maxLen) (h2 : RB w w.heap.size A2 n2 l2) (m2 : n2 ≤ c2 ∧ c2 ≤ maxLen) (h3 : RB w w.heap.size A3 n3 l3) (m3 : n3 ≤ c3 ∧ c3 ≤ maxLen) (h4 : (Lit.int .i64 x4).wf = true) (h5 : (Lit.int .u8 x5).wf = true) :
    Calls Tryz.prog 5 #[.slice A0 n0 c0, .slice A1 n1 c1, .slice A2 n2 c2, .slice A3 n3 c3, .int .i64 x4, .int .u8 x5] w fun e w' => e = .returned (.bool true) ∧ Below w.heap.size w w' := by
  obtain ⟨by5, rfl⟩ := byte_of h5
  have hz4 := bounds_i64 h4
  clear h4 h5
  have hl0 := h0.len
  subst hl0
  have hl1 := h1.len
  subst hl1
  have hl2 := h2.len
  subst hl2
  have hl3 := h3.len
  subst hl3
  have K0 := Lib.hid (((((IW.start w).add h0 m0.1 m0.2).add h1 m1.1 m1.2).add h2 m2.1 m2.2).add h3 m3.1 m3.2)
  have HA2 := Lib.hid (And.intro h2 m2)
  clear h0 m0 h1 m1 h2 m2 h3 m3
  by_cases t0 : 20 < l0.length
  · have d0 : decide (20 < (l0.length : Int)) = true := decide_eq_true (by omega)
    go_enter Tryz.func5, Tryz.ntmps5
    go_wp2_with fail
    refine (salive_any _).mono ?_
    rintro e w1 ⟨rfl, hb1⟩
    have K1 := Lib.hid (K0.out.step hb1)
    clear hb1 K0
    go_wp2_with fail
    go_ret
    exact ⟨rfl, K1.out.bel⟩
  have d0 : decide (20 < (l0.length : Int)) = false := decide_eq_false (by omega)
  by_cases t1 : 20 < l1.length
  · have d1 : decide (20 < (l1.length : Int)) = true := decide_eq_true (by omega)
    go_enter Tryz.func5, Tryz.ntmps5
    go_wp2_with fail
    refine (salive_any _).mono ?_
    rintro e w1 ⟨rfl, hb1⟩
    have K1 := Lib.hid (K0.out.step hb1)
    clear hb1 K0
    go_wp2_with fail
    go_ret
    exact ⟨rfl, K1.out.bel⟩
  have d1 : decide (20 < (l1.length : Int)) = false := decide_eq_false (by omega)
  by_cases t2 : 20 < l2.length
  · have d2 : decide (20 < (l2.length : Int)) = true := decide_eq_true (by omega)
    go_enter Tryz.func5, Tryz.ntmps5
    go_wp2_with fail
    refine (salive_any _).mono ?_
    rintro e w1 ⟨rfl, hb1⟩
    have K1 := Lib.hid (K0.out.step hb1)
    clear hb1 K0
    go_wp2_with fail
    go_ret
    exact ⟨rfl, K1.out.bel⟩
  have d2 : decide (20 < (l2.length : Int)) = false := decide_eq_false (by omega)
  by_cases t3 : l3.length < 1
  · have d3 : decide ((l3.length : Int) < 1) = true := decide_eq_true (by omega)
    go_enter Tryz.func5, Tryz.ntmps5
    go_wp2_with fail
    refine (salive_any _).mono ?_
    rintro e w1 ⟨rfl, hb1⟩
    have K1 := Lib.hid (K0.out.step hb1)
    clear hb1 K0
    go_wp2_with fail
    go_ret
    exact ⟨rfl, K1.out.bel⟩
  have d3 : decide ((l3.length : Int) < 1) = false := decide_eq_false (by omega)
  by_cases t4 : 200 < l3.length
  · have d4 : decide (200 < (l3.length : Int)) = true := decide_eq_true (by omega)
    go_enter Tryz.func5, Tryz.ntmps5
    go_wp2_with fail
    refine (salive_any _).mono ?_
    rintro e w1 ⟨rfl, hb1⟩
    have K1 := Lib.hid (K0.out.step hb1)
    clear hb1 K0
    go_wp2_with fail
    go_ret
    exact ⟨rfl, K1.out.bel⟩
  have d4 : decide (200 < (l3.length : Int)) = false := decide_eq_false (by omega)
  have HL : Hid (l0.length ≤ 20 ∧ l1.length ≤ 20 ∧ l2.length ≤ 20 ∧ 1 ≤ l3.length ∧ l3.length ≤ 200 ∧ -9223372036854775808 ≤ x4 ∧ x4 ≤ 9223372036854775807) := Lib.hid (by omega)
  obtain ⟨AH, HAH⟩ : ∃ L, Hid (aheadL l0 l1 l3 = L) := ⟨_, Lib.hid rfl⟩
  obtain ⟨S, HS⟩ : ∃ L, Hid (stL l2 AH = L) := ⟨_, Lib.hid rfl⟩
  obtain ⟨L, HLL⟩ : ∃ L, Hid (AH ++ S = L) := ⟨_, Lib.hid rfl⟩
  have HMK : Hid (smakeR l0 l1 l2 l3 = (L, 0)) := Lib.hid (by rw [smake_ok (by omega) (by omega) (by omega) (by omega) (by omega), HAH.out, HS.out, HLL.out])
  have hSl : S.length = 16 := by rw [← HS.out]; exact stL_len _ _
  obtain ⟨m, hm⟩ : ∃ m, AH.length = m := ⟨_, rfl⟩
  have hml : m = 7 + l0.length + l1.length + l3.length := by rw [← hm, ← HAH.out]; exact ahead_len _ _ _
  have HLN : Hid (L.length = m + 16 ∧ S.length = 16 ∧ AH.length = m ∧ 8 ≤ m ∧ m ≤ 300) := Lib.hid ⟨by rw [← HLL.out, List.length_append, hm, hSl], hSl, hm, by omega, by omega⟩
  have HPR : Hid (sprs L = (((255, 1, l0, l1), l3, S), 0)) := Lib.hid (by rw [← HLL.out, ← HAH.out]; exact sprs_made l0 l1 l3 S (by omega) (by omega) (by omega) hSl)
  have HIP : Hid (iprs L = (zeroIP, 14)) := Lib.hid (by rw [← HLL.out, ← HAH.out]; exact iprs_made12 l0 l1 l3 S (by omega) (by omega))
  have HCK : Hid (∀ s : List UInt8, s.length = 16 → scheckR (AH ++ s) l2 = if S = s then 0 else 13) := Lib.hid (fun s hs => by
    have h := scheck_made l0 l1 l3 s l2 (by omega) (by omega) (by omega) hs (by omega) (by omega)
    rw [HAH.out, HS.out] at h
    exact h)
  have HL0 : Hid (L[0]? = some 255) := Lib.hid (by rw [← HLL.out, ← HAH.out]; exact ahead_0 _ _ _ _)
  clear hSl hm hml t0 t1 t2 t3 t4 hz4
  go_enter Tryz.func5, Tryz.ntmps5
  go_wp2_with fail
  refine (salive_any _).mono ?_
  rintro e w1 ⟨rfl, hb1⟩
  have K1 := Lib.hid (K0.out.step hb1)
  clear hb1 K0
  go_wp2_with fail
  refine (smake_n A0 A1 A2 A3 l0.length l1.length l2.length l3.length c0 c1 c2 c3 l0 l1 l2 l3 _ (by exact (K1.out.row (A0, l0.length, c0, l0) (by simp)).1) (by exact (K1.out.row (A1, l1.length, c1, l1) (by simp)).1) (by exact (K1.out.row (A2, l2.length, c2, l2) (by simp)).1) (by exact (K1.out.row (A3, l3.length, c3, l3) (by simp)).1) (by exact (K1.out.row (A0, l0.length, c0, l0) (by simp)).2) (by exact (K1.out.row (A1, l1.length, c1, l1) (by simp)).2) L (m + 16) 0 HMK.out HLN.out.1).mono ?_
  rintro e w2 ⟨A4, c4, rfl, ho, hb⟩
  have O2 := Lib.hid (ho.base_le K1.out.bel.size)
  have K2 := Lib.hid (K1.out.own hb ho)
  have C4 := Lib.hid ho.cap
  clear ho hb K1
  obtain ⟨M, hM⟩ : ∃ M, M = m + 16 := ⟨_, rfl⟩
  rw [← hM] at O2 K2 C4 ⊢
  have HMM := Lib.hid hM
  have hM1 : M ≤ 400 := by have := HLN.out; omega
  have hM2 : 0 < M := by omega
  clear hM
  go_wp2_with fail
  refine (sparse_any A4 M c4 L _ (by exact (K2.out.row _ (.head _)).1) (by exact (K2.out.row _ (.head _)).2) (by omega)).mono ?_
  rw [HPR.out]
  rintro e w3 ⟨i, rfl, hp, hio, hb⟩
  have O3 := Lib.hid (O2.out.below hb)
  have k3 := ((K2.out.step hb).addi hio.ok).part (i := i) (by simp)
  have hpp := in_parts hp
  rw [hpp.2.2.1, hpp.2.2.2.1, hpp.2.2.2.2.1, hpp.2.2.2.2.2, HLN.out.2.1] at k3
  have K3 := Lib.hid k3
  have HP := Lib.hid hpp
  clear hp hio hb k3 hpp K2 O2
  go_wp2_with (first
    | (with_reducible show wpList _ _ _ (⟨some 15, .alloc _, _, _, _, none⟩ :: _) _ _; refine wpList_newI rt_st rfl rfl ?_; intro w3a x hc2 hb2 hx2; have H2 := Lib.hid (And.intro hc2 (And.intro hb2 hx2)); clear hc2 hb2 hx2)
    | (refine wpList_stI rt_st rfl (.tmp 15) (.tmp 55) rfl x rfl i zeroI rfl (by exact H2.out.1) ?_; intro w3b hc3 ho3 hs3; have K4 := Lib.hid (K3.out.var H2.out.2.1 H2.out.2.2 hc3 ho3); have OK4 := Lib.hid (O3.out.below (H2.out.2.1.trans (ho3.below (fun j hj => by rw [List.mem_singleton.1 hj]; exact H2.out.2.2) H2.out.2.1.size))); have a2 := (K4.out.box (35, x, i) (by simp)).c2; rw [HP.out.2.2.1] at a2; clear hc3 ho3 hs3 H2 K3))
  refine (al_same _ _ _ _ _ _ l0 l0 _ (by exact (K4.out.row (i.h.A, l0.length, i.h.c, l0) (by simp)).1) (by exact (K4.out.row (A0, l0.length, c0, l0) (by simp)).1) (by have := HL.out; unfold maxLen; omega) (by have := HL.out; unfold maxLen; omega) true (by simp)).mono ?_
  rintro e w5 ⟨rfl, hb⟩
  have K5 := Lib.hid (K4.out.step hb)
  have OK5 := Lib.hid (OK4.out.below hb)
  clear hb K4 OK4 a2
  have a3 := (K5.out.box (35, x, i) (by simp)).c3; rw [HP.out.2.2.2.1] at a3
  go_wp2_with fail
  refine (al_same _ _ _ _ _ _ l1 l1 _ (by exact (K5.out.row (i.h.B, l1.length, i.h.d, l1) (by simp)).1) (by exact (K5.out.row (A1, l1.length, c1, l1) (by simp)).1) (by have := HL.out; unfold maxLen; omega) (by have := HL.out; unfold maxLen; omega) true (by simp)).mono ?_
  rintro e w6 ⟨rfl, hb⟩
  have K6 := Lib.hid (K5.out.step hb)
  have OK6 := Lib.hid (OK5.out.below hb)
  clear hb K5 OK5 a3
  have a4 := (K6.out.box (35, x, i) (by simp)).c4; rw [HP.out.2.2.2.2.1] at a4
  go_wp2_with fail
  refine (al_same _ _ _ _ _ _ l3 l3 _ (by exact (K6.out.row (i.T, l3.length, i.e, l3) (by simp)).1) (by exact (K6.out.row (A3, l3.length, c3, l3) (by simp)).1) (by have := HL.out; unfold maxLen; omega) (by have := HL.out; unfold maxLen; omega) true (by simp)).mono ?_
  rintro e w7 ⟨rfl, hb⟩
  have K7 := Lib.hid (K6.out.step hb)
  have OK7 := Lib.hid (OK6.out.below hb)
  clear hb K6 OK6 a4
  have a5 := (K7.out.box (35, x, i) (by simp)).c5; rw [HP.out.2.2.2.2.2, HLN.out.2.1] at a5
  go_wp2_with fail
  refine (scheck_any A4 A2 M c4 l2.length c2 L l2 _ (by exact (K7.out.row (A4, M, c4, L) (by simp)).1) (by exact C4.out) (by omega) (by exact (K7.out.row (A2, l2.length, c2, l2) (by simp)).1) (by exact (K7.out.row (A2, l2.length, c2, l2) (by simp)).2)).mono ?_
  rw [show scheckR L l2 = 0 by rw [← HLL.out, HCK.out S HLN.out.2.1, if_pos rfl]]
  rintro e w8 ⟨rfl, hb⟩
  have K8 := Lib.hid (K7.out.step hb)
  have OK8 := Lib.hid (OK7.out.below hb)
  clear hb K7 OK7 a5
  go_wp2_with fail
  refine (iparse_any A4 M c4 L _ (by exact (K8.out.row (A4, M, c4, L) (by simp)).1) (by omega)).mono ?_
  rw [HIP.out]
  rintro e w9 ⟨i2, rfl, hp, hio, hb⟩
  have K9 := Lib.hid ((K8.out.step hb).addi hio.ok)
  have OK9 := Lib.hid (OK8.out.below hb)
  clear hp hio hb K8 OK8
  obtain ⟨g, hA4, hg4, _⟩ := OK9.out.form hM2
  subst hA4
  have HG := Lib.hid hg4
  clear hg4
  go_wp2_with (first
    | (with_reducible show wpList _ _ _ (⟨some 17, .alloc _, _, _, _, none⟩ :: _) _ _; refine wpList_newI rt_ini rfl rfl ?_; intro w9a x2 hc2 hb2 hx2; have H2 := Lib.hid (And.intro hc2 (And.intro hb2 hx2)); clear hc2 hb2 hx2)
    | (refine wpList_stI rt_ini rfl (.tmp 17) (.tmp 101) rfl x2 rfl i2 zeroI rfl (by exact H2.out.1) ?_; intro w9b hc3 ho3 hs3; have K10 := Lib.hid (K9.out.var H2.out.2.1 H2.out.2.2 hc3 ho3); have OK10 := Lib.hid (OK9.out.below (H2.out.2.1.trans (ho3.below (fun j hj => by rw [List.mem_singleton.1 hj]; exact H2.out.2.2) H2.out.2.1.size))); have hc0 := OK10.out.cellAt HL0.out; clear hc3 ho3 hs3 H2 K9))
  refine (typ_any 255 _).mono ?_
  rw [show typ 255 = 3 by decide]
  rintro e w11 ⟨rfl, rfl⟩
  clear hc0
  by_cases q1 : x4 < 0
  · have e1 : decide (x4 < 0) = true := decide_eq_true q1
    go_wp2_with fail
    go_ret
    exact ⟨rfl, K10.out.bel⟩
  have e1 : decide (x4 < 0) = false := decide_eq_false q1
  by_cases q2 : 15 < x4
  · have e2 : decide (15 < x4) = true := decide_eq_true q2
    go_wp2_with fail
    go_ret
    exact ⟨rfl, K10.out.bel⟩
  have e2 : decide (15 < x4) = false := decide_eq_false q2
  by_cases q3 : by5.toNat = 0
  · have e3 : ((by5.toNat : Int) == 0) = true := by rw [q3]; rfl
    have e3' : by5 = 0 := UInt8.toNat_inj.1 q3
    subst e3'
    go_wp2_with fail
    go_ret
    exact ⟨rfl, K10.out.bel⟩
  have e3 : ((by5.toNat : Int) == 0) = false := by rw [beq_eq_false_iff_ne]; omega
  obtain ⟨a, rfl⟩ : ∃ a : Nat, x4 = (a : Int) := ⟨x4.toNat, by omega⟩
  have ha : a ≤ 15 := by omega
  obtain ⟨k, hk⟩ : ∃ k, k = m + a := ⟨_, rfl⟩
  have hki : (M : Int) - 16 + (a : Int) = (k : Int) := by have := HMM.out; omega
  have hkM : k < M := by have := HMM.out; omega
  have hS16 := HLN.out.2.1
  obtain ⟨y, hy⟩ : ∃ y, S[a]? = some y := ⟨_, List.getElem?_eq_getElem (by omega)⟩
  have hLk : L[k]? = some y := by
    rw [← HLL.out, hk, ← HLN.out.2.2.1, List.getElem?_append_right (by omega), Nat.add_sub_cancel_left]
    exact hy
  have hc := OK10.out.cellAt hLk
  have hf := OK10.out.freeAt k
  have hy8 := y.toNat_lt
  have HY := Lib.hid (And.intro hy (And.intro hLk hk))
  have HQ3 := Lib.hid q3
  clear hy hLk hk hS16 q1 q2 q3
  go_wp2_with fail
  obtain ⟨Y, HYY⟩ : ∃ Y, Hid (Y = y ^^^ by5) := ⟨_, Lib.hid rfl⟩
  have hval : Value.int .u8 (bits .xor .u8 (y.toNat : Int) (by5.toNat : Int)) = bv Y := by rw [HYY.out, xor_byte]; rfl
  have hown2 := OK10.out.stored k Y _ hval
  have hbel2 : Below w.heap.size w (w9b.setCell ⟨g, k, none⟩ (Value.int .u8 (bits .xor .u8 (y.toNat : Int) (by5.toNat : Int)))) := K10.out.bel.trans (((Oth.refl [g] w9b).set (x := g) (by simp) k _).below (fun j hj => by rw [List.mem_singleton.1 hj]; exact HG.out) K10.out.bel.size)
  obtain ⟨w12, HW⟩ : ∃ w12, Hid (w9b.setCell ⟨g, k, none⟩ (Value.int .u8 (bits .xor .u8 (y.toNat : Int) (by5.toNat : Int))) = w12) := ⟨_, Lib.hid rfl⟩
  rw [HW.out] at hown2 hbel2 ⊢
  have hne : S ≠ S.set a Y := fun e => by
    have h1 : S[a]? = (S.set a Y)[a]? := congrArg (fun l => l[a]?) e
    rw [List.getElem?_set_self (by have := HLN.out.2.1; omega), HY.out.1] at h1
    injection h1 with h1
    have h2 : y ^^^ (y ^^^ by5) = y ^^^ y := by rw [← HYY.out, ← h1]
    rw [← UInt8.xor_assoc, UInt8.xor_self, UInt8.zero_xor] at h2
    exact HQ3.out (by rw [h2]; rfl)
  have hck : scheckR (L.set k Y) l2 = 13 := by
    have h1 := set_back AH S a Y
    rw [HLN.out.2.2.1, ← HY.out.2.2, HLL.out] at h1
    rw [h1, HCK.out _ (by rw [List.length_set]; exact HLN.out.2.1), if_neg hne]
  have HCK2 := Lib.hid hck
  have O12 := Lib.hid hown2
  have B12 := Lib.hid hbel2
  clear hck hne hown2 hbel2 hval hc hf
  refine (scheck_any _ A2 M c4 l2.length c2 (L.set k Y) l2 _ (by exact O12.out.rb) (by exact C4.out) (by omega) (by exact HA2.out.1.step B12.out) (by exact HA2.out.2)).mono ?_
  rw [HCK2.out]
  rintro e w13 ⟨rfl, hb⟩
  have B13 := Lib.hid (bel_next B12.out hb)
  clear hb
  go_wp2_with fail
  go_ret
  exact ⟨rfl, B13.out⟩
end Go.Proofs.YtdkdgcpknephnaaGreat
