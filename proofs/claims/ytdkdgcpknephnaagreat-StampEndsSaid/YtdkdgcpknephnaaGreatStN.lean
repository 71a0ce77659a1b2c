/- Layer 12's Check, Make. Conditions: at most a million bytes. -/
import Derived.Test.YtdkdgcpknephnaaGreatStL
import Derived.Test.YtdkdgcpknephnaaGreatStM
namespace Go.Proofs.YtdkdgcpknephnaaGreat
open Go.RowKit
set_option linter.unusedVariables false
set_option linter.unusedSimpArgs false
attribute [local go_sem ↓] ex_ldHd ex_stHd ex_ldHr ex_stHr ex_ldS ex_ldSr ex_stS ex_stSr
attribute [local irreducible] stL stampR noteL trnL tagL byt rawP sprs aheadL prs schk typ
set_option maxRecDepth 100000 in
set_option maxHeartbeats 4000000 in
theorem scheck_any (A0 A1 : Option Addr) (n0 c0 n1 c1 : Nat) (b id : List UInt8) (w : World) (h0 : RB w w.heap.size A0 n0 b) (m0 : n0 ≤ c0 ∧ c0 ≤ maxLen) (hn : n0 ≤ 1000000) (h1 : RB w w.heap.size A1 n1 id) (m1 : n1 ≤ c1 ∧ c1 ≤ maxLen) :
    Calls Tryz.prog 18 #[.slice A0 n0 c0, .slice A1 n1 c1] w fun e w' => e = .returned (.int .i64 (scheckR b id)) ∧ Below w.heap.size w w' := by
  have HL0 := Lib.hid h0.len
  have HM := Lib.hid m0
  have K0 := Lib.hid (((IW.start w).add h1 m1.1 m1.2).add h0 m0.1 m0.2)
  clear h0 h1 m0 m1
  obtain ⟨r, HR⟩ : ∃ r, Hid (r = sprs b) := ⟨_, Lib.hid rfl⟩
  obtain ⟨X, HX⟩ : ∃ X, Hid (X = scheckR b id) := ⟨_, Lib.hid rfl⟩
  rw [← HX.out]
  unfold scheckR at HX
  rw [← HR.out, HL0.out] at HX
  by_cases he : r.2 = 0
  rotate_left
  · have hb' : (r.2 != 0) = true := by simpa using he
    have HE : Hid (X = r.2) := Lib.hid (by rw [HX.out, if_pos he])
    go_enter Tryz.func18, Tryz.ntmps18
    go_wp2_with fail
    refine (sparse_any A0 n0 c0 b _ (by exact (K0.out.row _ (.head _)).1) HM.out hn).mono ?_
    rw [← HR.out]
    rintro e w1 ⟨i, rfl, hp, ho, hb⟩
    have J1 := Lib.hid ((K0.out.step hb).addi ho.ok)
    have HP := Lib.hid hp
    clear hp ho hb K0
    go_wp2_with (first
      | (with_reducible show wpList _ _ _ (⟨some 5, .alloc _, _, _, _, none⟩ :: _) _ _; refine wpList_newI rt_st rfl rfl ?_; intro w1a y hc2 hb2 hx2; have H2 := Lib.hid (And.intro hc2 (And.intro hb2 hx2)); clear hc2 hb2 hx2)
      | (refine wpList_stI rt_st rfl (.tmp 5) (.tmp 11) rfl y rfl i zeroI rfl (by exact H2.out.1) ?_; intro w1b hc3 ho3 hs3; have K1 := Lib.hid (J1.out.var H2.out.2.1 H2.out.2.2 hc3 ho3); clear hc3 ho3 hs3 H2 J1))
    rw [HE.out]
    go_ret
    exact ⟨rfl, K1.out.bel⟩
  have hb' : (r.2 != 0) = false := by rw [he]; rfl
  have h17 : 17 ≤ n0 := by have := sprs_long (l := b) (by rw [← HR.out]; exact he); rw [HL0.out] at this; exact this
  obtain ⟨N, hN⟩ : ∃ N, n0 = N + 16 := ⟨n0 - 16, by omega⟩
  have HN := Lib.hid hN
  have hsub : (n0 : Int) - 16 = (N : Int) := by omega
  have hcut := cut_h A0 n0 c0 N (by have := HM.out.1; omega)
  rw [show n0 - 16 = N by omega] at HX
  have HX2 : Hid (X = if (stampR id (b.take N)).2 ≠ 0 then (stampR id (b.take N)).2 else if (stampR id (b.take N)).1 = r.1.2.2 then 0 else 13) := Lib.hid (by rw [HX.out, if_neg (fun k => k he)])
  have HE0 := Lib.hid he
  clear hN h17 he
  go_enter Tryz.func18, Tryz.ntmps18
  go_wp2_with fail
  refine (sparse_any A0 n0 c0 b _ (by exact (K0.out.row _ (.head _)).1) HM.out hn).mono ?_
  rw [← HR.out]
  rintro e w1 ⟨i, rfl, hp, ho, hb⟩
  have J1 := Lib.hid ((K0.out.step hb).addi ho.ok)
  have HP := Lib.hid hp
  clear hp ho hb K0
  go_wp2_with (first
    | (with_reducible show wpList _ _ _ (⟨some 5, .alloc _, _, _, _, none⟩ :: _) _ _; refine wpList_newI rt_st rfl rfl ?_; intro w1a y hc2 hb2 hx2; have H2 := Lib.hid (And.intro hc2 (And.intro hb2 hx2)); clear hc2 hb2 hx2)
    | (refine wpList_stI rt_st rfl (.tmp 5) (.tmp 11) rfl y rfl i zeroI rfl (by exact H2.out.1) ?_; intro w1b hc3 ho3 hs3; have K1 := Lib.hid (J1.out.var H2.out.2.1 H2.out.2.2 hc3 ho3); clear hc3 ho3 hs3 H2 J1))
  clear hcut hsub
  have hf : RB w1b w1b.heap.size (cutA A0 c0 0) N (b.take N) := by
    have h := (K1.out.row (A0, n0, c0, b) (by simp)).1.part (i := 0) (j := N) (c := c0) (Nat.zero_le _) (by simp only; have := HN.out; omega) HM.out.1
    simpa using h
  have HF := Lib.hid hf
  clear hf
  refine (stamp_any A1 (cutA A0 c0 0) n1 c1 N c0 id (b.take N) _ (by exact (K1.out.row (A1, n1, c1, id) (by simp)).1) (by exact HF.out)).mono ?_
  obtain ⟨s, HS⟩ : ∃ s, Hid (s = stampR id (b.take N)) := ⟨_, Lib.hid rfl⟩
  rw [← HS.out] at HX2 ⊢
  rintro e w3 ⟨A3, c3, rfl, ho, hb⟩
  have K3 := Lib.hid (K1.out.own hb ho)
  clear ho hb K1 HF
  obtain ⟨S, code⟩ := s
  simp only at K3 HX2 ⊢
  by_cases hc : code = 0
  rotate_left
  · have hcb : (code != 0) = true := by simpa using hc
    have HE : Hid (X = code) := Lib.hid (by rw [HX2.out, if_pos hc])
    go_wp2_with fail
    rw [HE.out]
    go_ret
    exact ⟨rfl, K3.out.bel⟩
  subst hc
  have HX3 : Hid (X = if S = r.1.2.2 then 0 else 13) := Lib.hid (by rw [HX2.out, if_neg (fun k => k rfl)])
  obtain ⟨v, hv⟩ : ∃ v, (i.r == S) = v := ⟨_, rfl⟩
  have hir : i.r = r.1.2.2 := by have h := congrArg (fun x => x.2.2) HP.out; exact h
  have HE : Hid (X = if v = true then 0 else 13) := Lib.hid (by rw [HX3.out, ← hir, ← hv]; simp only [beq_iff_eq]; (by_cases h : S = i.r); (rw [if_pos h, if_pos h.symm]); (rw [if_neg h, if_neg (Ne.symm h)]))
  have HV := Lib.hid hv
  have q5 := (K3.out.box (35, y, i) (by simp)).c5
  have ki := (K3.out.ini i (by simp))
  have KI := Lib.hid ki
  clear ki hir
  clear hv
  go_wp2_with fail
  refine (equal_any i.R A3 i.r.length i.g S.length c3 _ _ i.r S _ (by exact KI.out.r) (by exact (K3.out.row _ (.head _)).1)).mono ?_
  rw [HV.out]
  rintro e w4 ⟨rfl, rfl⟩
  rcases v with _ | _
  · go_wp2_with fail
    rw [HE.out]
    go_ret
    exact ⟨rfl, K3.out.bel⟩
  · go_wp2_with fail
    rw [HE.out]
    go_ret
    exact ⟨rfl, K3.out.bel⟩
attribute [local irreducible] smakeR
theorem smake_def (l0 l1 l2 l3 : List UInt8) : smakeR l0 l1 l2 l3 = if 20 < l0.length ∨ 20 < l1.length ∨ 20 < l2.length then ([], 15) else if l3.length < 1 ∨ 4096 < l3.length then ([], 11) else (aheadL l0 l1 l3 ++ stL l2 (aheadL l0 l1 l3), 0) := by unfold smakeR; rfl
/-- The header's bytes. -/
theorem hbytes_255 (A0 A1 : Option Addr) (c0 c1 : Nat) (l0 l1 : List UInt8) (w : World) (h0 : RB w w.heap.size A0 l0.length l0) (h1 : RB w w.heap.size A1 l1.length l1) (m0 : l0.length ≤ c0 ∧ c0 ≤ maxLen) (m1 : l1.length ≤ c1 ∧ c1 ≤ maxLen) (b0 : l0.length ≤ 20) (b1 : l1.length ≤ 20) :
    Calls Tryz.prog 24 #[.agg #[.int .u8 255, .int .u32 1, .slice A0 l0.length c0, .slice A1 l1.length c1]] w (RetBE (rawP (255, 1, l0, l1)).length (rawP (255, 1, l0, l1)) 0 w) := by
  have hb : byt (Hd.pl ⟨255, 1, A0, c0, l0, A1, c1, l1⟩) = (rawP (255, 1, l0, l1), 0) := byt_good (good_255 (to := l0) (frm := l1) b0 b1)
  have h := hbytes_any ⟨255, 1, A0, c0, l0, A1, c1, l1⟩ w ⟨h0, h1, m0, m1, by simp⟩ (by simp only; omega) (by simp only; omega)
  rw [hb] at h
  exact h
set_option maxRecDepth 100000 in
set_option maxHeartbeats 4000000 in
theorem smake_any (A0 A1 A2 A3 : Option Addr) (c0 c1 c2 c3 : Nat) (l0 l1 l2 l3 : List UInt8) (w : World)
    (h0 : RB w w.heap.size A0 l0.length l0) (h1 : RB w w.heap.size A1 l1.length l1) (h2 : RB w w.heap.size A2 l2.length l2) (h3 : RB w w.heap.size A3 l3.length l3)
    (m0 : l0.length ≤ c0 ∧ c0 ≤ maxLen) (m1 : l1.length ≤ c1 ∧ c1 ≤ maxLen) :
    Calls Tryz.prog 9 #[.slice A0 l0.length c0, .slice A1 l1.length c1, .slice A2 l2.length c2, .slice A3 l3.length c3] w (RetBE (smakeR l0 l1 l2 l3).1.length (smakeR l0 l1 l2 l3).1 (smakeR l0 l1 l2 l3).2 w) := by
  obtain ⟨X, HX⟩ : ∃ X, Hid (X = smakeR l0 l1 l2 l3) := ⟨_, Lib.hid rfl⟩
  rw [← HX.out]
  rw [smake_def] at HX
  have HR := Lib.hid (And.intro h0 (And.intro h1 (And.intro h2 h3)))
  have HM := Lib.hid (And.intro m0 m1)
  clear h0 h1 h2 h3 m0 m1
  by_cases hlong : 20 < l0.length ∨ 20 < l1.length ∨ 20 < l2.length
  · have D : Hid ((decide (20 < l0.length) || (decide (20 < l1.length) || decide (20 < l2.length))) = true) := Lib.hid (by simpa using hlong)
    have HE : Hid (X = ([], 15)) := Lib.hid (by rw [HX.out, if_pos hlong])
    clear hlong
    go_enter Tryz.func9, Tryz.ntmps9
    go_wp2_with fail
    refine (stl3 w A0 A1 A2 l0.length l1.length l2.length c0 c1 c2 l0 l1 l2 (by exact HR.out.1) (by exact HR.out.2.1) (by exact HR.out.2.2.1) true D.out).mono ?_
    rintro e w1 ⟨rfl, hb⟩
    have K0 := Lib.hid hb
    clear hb
    go_wp2_with fail
    rw [HE.out]
    go_ret2
    exact ⟨none, 0, rfl, OwnB.nil_ _ _, K0.out⟩
  have D : Hid ((decide (20 < l0.length) || (decide (20 < l1.length) || decide (20 < l2.length))) = false) := Lib.hid (by rw [decide_eq_false (by omega), decide_eq_false (by omega), decide_eq_false (by omega)]; rfl)
  have HNO := Lib.hid hlong
  by_cases t3 : l3.length < 1
  · have d3 : ((l3.length : Int) == 0) = true := by rw [beq_iff_eq]; omega
    have HE : Hid (X = ([], 11)) := Lib.hid (by rw [HX.out, if_neg hlong, if_pos (.inl t3)])
    clear hlong
    go_enter Tryz.func9, Tryz.ntmps9
    go_wp2_with fail
    refine (stl3 w A0 A1 A2 l0.length l1.length l2.length c0 c1 c2 l0 l1 l2 (by exact HR.out.1) (by exact HR.out.2.1) (by exact HR.out.2.2.1) false D.out).mono ?_
    rintro e w1 ⟨rfl, hb⟩
    have K0 := Lib.hid hb
    clear hb
    go_wp2_with fail
    rw [HE.out]
    go_ret2
    exact ⟨none, 0, rfl, OwnB.nil_ _ _, K0.out⟩
  have d3 : ((l3.length : Int) == 0) = false := by rw [beq_eq_false_iff_ne]; omega
  by_cases t4 : 4096 < l3.length
  · have d4 : decide (4096 < (l3.length : Int)) = true := decide_eq_true (by omega)
    have HE : Hid (X = ([], 11)) := Lib.hid (by rw [HX.out, if_neg hlong, if_pos (.inr t4)])
    clear hlong
    go_enter Tryz.func9, Tryz.ntmps9
    go_wp2_with fail
    refine (stl3 w A0 A1 A2 l0.length l1.length l2.length c0 c1 c2 l0 l1 l2 (by exact HR.out.1) (by exact HR.out.2.1) (by exact HR.out.2.2.1) false D.out).mono ?_
    rintro e w1 ⟨rfl, hb⟩
    have K0 := Lib.hid hb
    clear hb
    go_wp2_with fail
    rw [HE.out]
    go_ret2
    exact ⟨none, 0, rfl, OwnB.nil_ _ _, K0.out⟩
  have d4 : decide (4096 < (l3.length : Int)) = false := decide_eq_false (by omega)
  have HB : Hid (l0.length ≤ 20 ∧ l1.length ≤ 20) := Lib.hid ⟨by omega, by omega⟩
  obtain ⟨L, HL⟩ : ∃ L, Hid (L = aheadL l0 l1 l3) := ⟨_, Lib.hid rfl⟩
  have hL := ahead_len l0 l1 l3
  rw [← HL.out] at hL
  have HRAW : Hid (∀ W : World, Below w.heap.size w W → Calls Tryz.prog 24 #[.agg #[.int .u8 255, .int .u32 1, .slice A0 l0.length c0, .slice A1 l1.length c1]] W (RetBE (rawP (255, 1, l0, l1)).length (rawP (255, 1, l0, l1)) 0 W)) := Lib.hid (fun W hb => hbytes_255 A0 A1 c0 c1 l0 l1 W (HR.out.1.step hb) (HR.out.2.1.step hb) HM.out.1 HM.out.2 HB.out.1 HB.out.2)
  obtain ⟨R, HRR⟩ : ∃ R, Hid (R = rawP (255, 1, l0, l1)) := ⟨_, Lib.hid rfl⟩
  have hR : R.length = 7 + l0.length + l1.length := by rw [HRR.out, raw_len]
  have HRL : Hid (L = R ++ l3) := Lib.hid (by rw [HL.out, HRR.out]; unfold aheadL; rfl)
  have HS : Hid (stampR l2 L = (stL l2 L, 0)) := Lib.hid (by rcases stamp_cases l2 L with k | k | k; exact absurd k.1 (by omega); exact absurd k.2.1 (by omega); exact k.2.2)
  obtain ⟨S, HSS⟩ : ∃ S, Hid (S = stL l2 L) := ⟨_, Lib.hid rfl⟩
  have HSL : Hid (S.length = 16) := Lib.hid (by rw [HSS.out]; exact stL_len _ _)
  have HE : Hid (X = (L ++ S, 0)) := Lib.hid (by rw [HX.out, if_neg hlong, if_neg (by omega), HSS.out, HL.out])
  obtain ⟨m, hm⟩ : ∃ m, R.length = m := ⟨_, rfl⟩
  rw [hm] at hR
  have hb : m ≤ 47 := by omega
  have HMR := Lib.hid hm
  rw [← HRR.out, hm] at HRAW
  rw [← HSS.out] at HS
  have HLL : Hid (L.length = m + l3.length) := Lib.hid (by rw [HRL.out, List.length_append, hm])
  have hl3 : l3.length ≤ 4096 := by omega
  clear hlong t3 t4 hL hR hm
  go_enter Tryz.func9, Tryz.ntmps9
  go_wp2_with fail
  refine (stl3 w A0 A1 A2 l0.length l1.length l2.length c0 c1 c2 l0 l1 l2 (by exact HR.out.1) (by exact HR.out.2.1) (by exact HR.out.2.2.1) false D.out).mono ?_
  rintro e w1 ⟨rfl, hb⟩
  have K0 := Lib.hid hb
  clear hb
  go_wp2_with fail
  refine (HRAW.out _ (by exact K0.out)).mono ?_
  rintro e w3 ⟨A5, c5, rfl, ho, hb1⟩
  have K1 := Lib.hid (And.intro (bel_next K0.out hb1) (ho.base_le K0.out.size))
  clear ho hb1
  have hRR := RR.lit w3 [(A5, c5, R), (A3, c3, l3)] #[.slice A5 m c5, .slice A3 l3.length c3] 22 2 w3.heap.size (by simp [HMR.out]) rfl rfl (fun r hr => by
    simp only [List.mem_cons, List.not_mem_nil, or_false] at hr
    rcases hr with rfl | rfl
    · simp only [HMR.out]; exact K1.out.2.rb
    · exact HR.out.2.2.2.step K1.out.1)
  have HRR2 := Lib.hid hRR
  have BA := Lib.hid (bel_next K1.out.1 (below_alloc w3 (.cells #[.slice A5 m c5, .slice A3 l3.length c3] 22)))
  clear hRR
  go_wp2_with fail
  refine (join_any _ 2 2 _ _ (by exact HRR2.out) (by decide) (by simp [totL, HMR.out]; omega)).mono ?_
  rintro e w4 ⟨A6, c6, rfl, ho, hb2⟩
  have hto : totL (List.map (fun r : Option Addr × Nat × List UInt8 => r.2.2) [(A5, c5, R), (A3, c3, l3)]) = m + l3.length := by simp [totL, HMR.out]
  have hfl : (List.map (fun r : Option Addr × Nat × List UInt8 => r.2.2) [(A5, c5, R), (A3, c3, l3)]).flatten = L := by rw [HRL.out]; simp
  rw [hto, hfl] at ho
  rw [hto]
  have K2 := Lib.hid (And.intro (bel_next BA.out hb2) (ho.base_le BA.out.size))
  clear ho hb2 hto hfl HRR2
  go_wp2_with fail
  refine (stamp_any A2 A6 l2.length c2 (m + l3.length) c6 l2 L _ (by exact HR.out.2.2.1.step K2.out.1) (by exact K2.out.2.rb)).mono ?_
  rw [HS.out]
  rintro e w5 ⟨A7, c7, rfl, ho, hb3⟩
  simp only [HSL.out] at ho ⊢
  have K3 := Lib.hid (And.intro (bel_next K2.out.1 hb3) (And.intro (K2.out.2.below hb3) (ho.base_le K2.out.1.size)))
  clear ho hb3
  have hRR := RR.lit w5 [(A6, c6, L), (A7, c7, S)] #[.slice A6 (m + l3.length) c6, .slice A7 16 c7] 22 2 w5.heap.size (by simp [HLL.out, HSL.out]) rfl rfl (fun r hr => by
    simp only [List.mem_cons, List.not_mem_nil, or_false] at hr
    rcases hr with rfl | rfl
    · simp only [HLL.out]; exact K3.out.2.1.rb
    · simp only [HSL.out]; exact K3.out.2.2.rb)
  have HRR3 := Lib.hid hRR
  have BB := Lib.hid (bel_next K3.out.1 (below_alloc w5 (.cells #[.slice A6 (m + l3.length) c6, .slice A7 16 c7] 22)))
  clear hRR
  go_wp2_with fail
  refine (join_any _ 2 2 _ _ (by exact HRR3.out) (by decide) (by simp [totL, HLL.out, HSL.out]; omega)).mono ?_
  rintro e w6 ⟨A8, c8, rfl, ho, hb4⟩
  have hto : totL (List.map (fun r : Option Addr × Nat × List UInt8 => r.2.2) [(A6, c6, L), (A7, c7, S)]) = (L ++ S).length := by simp [totL]
  have hfl : (List.map (fun r : Option Addr × Nat × List UInt8 => r.2.2) [(A6, c6, L), (A7, c7, S)]).flatten = L ++ S := by simp
  rw [hto, hfl] at ho
  rw [hto]
  obtain ⟨G, HG⟩ : ∃ G, Hid (L ++ S = G) := ⟨_, Lib.hid rfl⟩
  rw [HG.out] at ho ⊢
  have K4 := Lib.hid (And.intro (ho.base_le BB.out.size) (bel_next BB.out hb4))
  clear ho hb4 hto hfl HRR3
  go_wp2_with fail
  rw [HE.out, HG.out]
  go_ret2
  exact ⟨A8, c8, rfl, K4.out⟩
end Go.Proofs.YtdkdgcpknephnaaGreat
