/- Layer 12's reference: Check. Condition: at most a million bytes. -/
import Derived.Test.YtdkdgcpknephnaaGreatStB
import Derived.Test.YtdkdgcpknephnaaGreatStR
namespace Go.Proofs.YtdkdgcpknephnaaGreat
open Go.RowKit
set_option linter.unusedVariables false
set_option linter.unusedSimpArgs false
attribute [local go_sem ↓] ex_ldHd ex_stHd ex_ldHr ex_stHr ex_ldS ex_ldSr ex_stS ex_stSr
attribute [local irreducible] sprs stampR stL
set_option maxRecDepth 100000 in
set_option maxHeartbeats 4000000 in
theorem rscheck_any (A0 A1 : Option Addr) (n0 c0 n1 c1 : Nat) (b id : List UInt8) (w : World) (h0 : RB w w.heap.size A0 n0 b) (m0 : n0 ≤ c0 ∧ c0 ≤ maxLen) (hn : n0 ≤ 1000000) (h1 : RB w w.heap.size A1 n1 id) (m1 : n1 ≤ c1 ∧ c1 ≤ maxLen) :
    Calls Tryz.prog 19 #[.slice A0 n0 c0, .slice A1 n1 c1] w fun e w' => e = .returned (.int .i64 (scheckR b id)) ∧ Below w.heap.size w w' := by
  have HL0 := Lib.hid h0.len
  have HM := Lib.hid m0
  have K0 := Lib.hid (((IW.start w).add h1 m1.1 m1.2).add h0 m0.1 m0.2)
  clear h0 h1 m0 m1
  obtain ⟨r, HR⟩ : ∃ r, Hid (r = sprs b) := ⟨_, Lib.hid rfl⟩
  obtain ⟨X, HX⟩ : ∃ X, Hid (X = scheckR b id) := ⟨_, Lib.hid rfl⟩
  rw [← HX.out]
  unfold scheckR at HX
  rw [← HR.out, HL0.out] at HX
  by_cases he : r.2 = 0
  rotate_left
  · have hb' : (r.2 != 0) = true := by simpa using he
    have HE : Hid (X = r.2) := Lib.hid (by rw [HX.out, if_pos he])
    go_enter Tryz.func19, Tryz.ntmps19
    go_wp2_with fail
    refine (rsparse_any A0 n0 c0 b _ (by exact (K0.out.row _ (.head _)).1) HM.out hn).mono ?_
    rw [← HR.out]
    rintro e w1 ⟨i, rfl, hp, ho, hb⟩
    have J1 := Lib.hid ((K0.out.step hb).addi ho)
    have HP := Lib.hid hp
    clear hp ho hb K0
    go_wp2_with (first
      | (with_reducible show wpList _ _ _ (⟨some 5, .alloc _, _, _, _, none⟩ :: _) _ _; refine wpList_newI rt_sr rfl rfl ?_; intro w1a y hc2 hb2 hx2; have H2 := Lib.hid (And.intro hc2 (And.intro hb2 hx2)); clear hc2 hb2 hx2)
      | (refine wpList_stI rt_sr rfl (.tmp 5) (.tmp 11) rfl y rfl i zeroI rfl (by exact H2.out.1) ?_; intro w1b hc3 ho3 hs3; have K1 := Lib.hid (J1.out.var H2.out.2.1 H2.out.2.2 hc3 ho3); clear hc3 ho3 hs3 H2 J1))
    rw [HE.out]
    go_ret
    exact ⟨rfl, K1.out.bel⟩
  have hb' : (r.2 != 0) = false := by rw [he]; rfl
  have h17 : 17 ≤ n0 := by have := sprs_long (l := b) (by rw [← HR.out]; exact he); rw [HL0.out] at this; exact this
  obtain ⟨N, hN⟩ : ∃ N, n0 = N + 16 := ⟨n0 - 16, by omega⟩
  have HN := Lib.hid hN
  have hsub : (n0 : Int) - 16 = (N : Int) := by omega
  have hcut := cut_h A0 n0 c0 N (by have := HM.out.1; omega)
  rw [show n0 - 16 = N by omega] at HX
  have HX2 : Hid (X = if (stampR id (b.take N)).2 ≠ 0 then (stampR id (b.take N)).2 else if (stampR id (b.take N)).1 = r.1.2.2 then 0 else 13) := Lib.hid (by rw [HX.out, if_neg (fun k => k he)])
  have HE0 := Lib.hid he
  clear hN h17 he
  go_enter Tryz.func19, Tryz.ntmps19
  go_wp2_with fail
  refine (rsparse_any A0 n0 c0 b _ (by exact (K0.out.row _ (.head _)).1) HM.out hn).mono ?_
  rw [← HR.out]
  rintro e w1 ⟨i, rfl, hp, ho, hb⟩
  have J1 := Lib.hid ((K0.out.step hb).addi ho)
  have HP := Lib.hid hp
  clear hp ho hb K0
  go_wp2_with (first
    | (with_reducible show wpList _ _ _ (⟨some 5, .alloc _, _, _, _, none⟩ :: _) _ _; refine wpList_newI rt_sr rfl rfl ?_; intro w1a y hc2 hb2 hx2; have H2 := Lib.hid (And.intro hc2 (And.intro hb2 hx2)); clear hc2 hb2 hx2)
    | (refine wpList_stI rt_sr rfl (.tmp 5) (.tmp 11) rfl y rfl i zeroI rfl (by exact H2.out.1) ?_; intro w1b hc3 ho3 hs3; have K1 := Lib.hid (J1.out.var H2.out.2.1 H2.out.2.2 hc3 ho3); clear hc3 ho3 hs3 H2 J1))
  clear hcut hsub
  have hf : RB w1b w1b.heap.size (cutA A0 c0 0) N (b.take N) := by
    have h := (K1.out.row (A0, n0, c0, b) (by simp)).1.part (i := 0) (j := N) (c := c0) (Nat.zero_le _) (by simp only; have := HN.out; omega) HM.out.1
    simpa using h
  have HF := Lib.hid hf
  clear hf
  refine (rstamp_any A1 (cutA A0 c0 0) n1 c1 N c0 id (b.take N) _ (by exact (K1.out.row (A1, n1, c1, id) (by simp)).1) (by exact HF.out)).mono ?_
  obtain ⟨s, HS⟩ : ∃ s, Hid (s = stampR id (b.take N)) := ⟨_, Lib.hid rfl⟩
  rw [← HS.out] at HX2 ⊢
  rintro e w3 ⟨A3, c3, rfl, ho, hb⟩
  have K3 := Lib.hid (K1.out.own hb ho)
  clear ho hb K1 HF
  obtain ⟨S, code⟩ := s
  simp only at K3 HX2 ⊢
  by_cases hc : code = 0
  rotate_left
  · have hcb : (code != 0) = true := by simpa using hc
    have HE : Hid (X = code) := Lib.hid (by rw [HX2.out, if_pos hc])
    go_wp2_with fail
    rw [HE.out]
    go_ret
    exact ⟨rfl, K3.out.bel⟩
  subst hc
  have HX3 : Hid (X = if S = r.1.2.2 then 0 else 13) := Lib.hid (by rw [HX2.out, if_neg (fun k => k rfl)])
  obtain ⟨v, hv⟩ : ∃ v, (S == i.r) = v := ⟨_, rfl⟩
  have hir : i.r = r.1.2.2 := by have h := congrArg (fun x => x.2.2) HP.out; exact h
  have HE : Hid (X = if v = true then 0 else 13) := Lib.hid (by rw [HX3.out, ← hir, ← hv]; simp)
  have HV := Lib.hid hv
  have q5 := (K3.out.box (40, y, i) (by simp)).c5
  have ki := (K3.out.ini i (by simp))
  have KI := Lib.hid ki
  clear ki hir
  have s1 := (strL_beq S i.r).trans hv
  have t1 := run_str (K3.out.row _ (.head _)).1 c3
  have t2 := run_str KI.out.r i.g
  simp only at t1
  clear hv
  rcases v with _ | _
  · have s2 : ((strL S).toList != (strL i.r).toList) = true := by rw [bne, s1]; rfl
    go_wp2_with fail
    rw [HE.out]
    go_ret
    exact ⟨rfl, K3.out.bel⟩
  · have s2 : ((strL S).toList != (strL i.r).toList) = false := by rw [bne, s1]; rfl
    go_wp2_with fail
    rw [HE.out]
    go_ret
    exact ⟨rfl, K3.out.bel⟩
end Go.Proofs.YtdkdgcpknephnaaGreat
