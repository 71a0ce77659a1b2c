/- Layer 10's statement HeadBack, walked. No condition. -/
import Derived.Test.YtpkombfiejdflaaHeadL
namespace Go.Proofs.Ytpkombfiejdflaa
open Go.RowKit
set_option linter.unusedVariables false
set_option linter.unusedSimpArgs false
attribute [local irreducible] prs byt idN longL rawP
attribute [local go_sem ↓] ex_ldHd ex_stHd ex_ldHr ex_stHr

/-- append in a guarded place. -/
theorem wpList_appG {w : World} {ops : Array Oper} {rest : List Oper} {o : Oper} {a : Act} {Q : Exit → Act → World → Prop} (hw : Region.wanted o (yielded ops a.tmps) = true) (s x : Operand)
    (ho : o.op = .call { callee := .builtin .append, args := #[s, x], argTypes := #[22, 22] })
    (base : Nat) (A : Option Addr) (n c : Nat) (l : List UInt8) (hs : a.eval s = .slice A n c) (hown : OwnB w base A n c l)
    (B : Nat) (A' : Option Addr) (m c' : Nat) (l' : List UInt8) (hx : a.eval x = .slice A' m c') (hr : RB w B A' m l')
    (hsum : n + m ≤ 140737488355328) (hbase : base ≤ w.heap.size)
    (h : ∀ A'' c'' w', OwnB w' base A'' (n + m) c'' (l ++ l') → Below base w w' → wpList Try.prog ops Q rest (a.put o.dst (.slice A'' (n + m) c'')) w') : wpList Try.prog ops Q (o :: rest) a w :=
  wpList_step fun _ hK => by
    rw [if_pos hw]
    exact wp_app s x ho base A n c l hs hown B A' m c' l' hx hr hsum hbase fun A'' c'' w' h2 _ h4 => hK _ _ (h A'' c'' w' h2 h4)

set_option maxRecDepth 100000 in
set_option maxHeartbeats 4000000 in
theorem HeadBack_walk (A0 : Option Addr) (n0 c0 : Nat) (l0 : List UInt8) (w : World) (h0 : RB w w.heap.size A0 n0 l0) (m0 : n0 ≤ c0 ∧ c0 ≤ maxLen) :
    Calls Try.prog 5 #[.slice A0 n0 c0] w fun e w' => e = .returned (.bool true) ∧ Below w.heap.size w w' := by
  have hl := h0.len
  by_cases hn : 3000 < n0
  · have d : decide (3000 < (n0 : Int)) = true := decide_eq_true (by omega)
    go_enter Try.func5, Try.ntmps5
    go_wp2_with fail
    refine (alive_any _).mono ?_
    rintro e w1 ⟨rfl, hb⟩
    go_wp2_with fail
    go_ret
    exact ⟨rfl, hb⟩
  have d : decide (3000 < (n0 : Int)) = false := decide_eq_false (by omega)
  have K0 := Lib.hid ((KW.start w).add h0 m0.1 m0.2)
  have HL := Lib.hid hl
  clear h0 hl
  obtain ⟨r, HR⟩ : ∃ r, Hid (r = prs l0) := ⟨_, Lib.hid rfl⟩
  go_enter Try.func5, Try.ntmps5
  go_wp2_with fail
  refine (alive_any _).mono ?_
  rintro e w1 ⟨rfl, hb⟩
  have K1 := Lib.hid (K0.out.step hb)
  clear hb K0
  go_wp2_with fail
  refine (parse_any A0 n0 c0 l0 _ (by exact (K1.out.row _ (.head _)).1) (by omega)).mono ?_
  rw [← HR.out]
  intro e w2 q2
  obtain ⟨h, A2, n2, c2, rfl, hp, hn2, k2⟩ := K1.out.hdr q2
  have K2 := Lib.hid k2
  have HP := Lib.hid hp
  have HN2 := Lib.hid hn2
  clear q2 hp hn2 k2 K1
  by_cases he : r.2.2 = 0
  · have hb : (r.2.2 != 0) = false := by rw [he]; rfl
    have hbk := prs_back (l := l0) (by rw [← HR.out]; exact he)
    rw [← HR.out] at hbk
    have HG := Lib.hid hbk
    clear hbk
    go_wp2_with (first
      | (with_reducible show wpList _ _ _ (⟨some 3, .alloc _, _, _, _, none⟩ :: _) _ _; refine wpList_allocN ht_head rfl rfl ?_; intro w2a x hc2 hb2 hx2; have H2 := Lib.hid (And.intro hc2 (And.intro hb2 hx2)); clear hc2 hb2 hx2)
      | (refine wpList_stH ht_head rfl (.tmp 3) (.tmp 16) rfl x rfl h zeroH rfl (by exact H2.out.1) ?_; intro w2b hc3 ho3 hs3; have K3 := Lib.hid (K2.out.var H2.out.2.1 H2.out.2.2 hc3 ho3); have ql := ldHd_m ht_head (K3.out.box (27, x, h) (by simp)); clear hc3 ho3 hs3 H2 K2))
    refine (hbytes_any h _ (by exact K3.out.hd h (by simp)) (by have := HG.out.1.a; rw [← HP.out] at this; exact Nat.le_trans this (by decide)) (by have := HG.out.1.b; rw [← HP.out] at this; exact Nat.le_trans this (by decide))).mono ?_
    rw [HP.out, byt_good HG.out.1]
    rintro e w4 ⟨A4, c4, rfl, ho, hb4⟩
    have K4 := Lib.hid (K3.out.own hb4 ho)
    have HO := Lib.hid (And.intro ho hb4)
    have hlen : (rawP r.1).length ≤ 1000 := by rw [raw_len]; have := HG.out.1.a; have := HG.out.1.b; omega
    obtain ⟨m4, hm4⟩ : ∃ m, (rawP r.1).length = m := ⟨_, rfl⟩
    have hn0 := Lib.hid (show m4 + n2 = n0 by rw [← HL.out, ← HG.out.2, List.length_append, hm4, HN2.out])
    rw [hm4] at HO hlen K4
    simp only [hm4]
    clear ho hb4 ql hm4
    go_wp2_with (first
      | (with_reducible show wpList _ _ _ (⟨some 39, _, _, _, _, _⟩ :: _) _ _; refine wpList_appG (by go_simp) (.tmp 37) (.tmp 38) rfl w2b.heap.size A4 m4 c4 (rawP r.1) rfl (by exact HO.out.1) w4.heap.size A2 n2 c2 r.2.1 rfl (by exact (K4.out.row (A2, n2, c2, r.2.1) (by simp)).1) (by have := hn0.out; omega) HO.out.2.size ?_; intro A5 c5 w5 ho5 hb5; have K5 := Lib.hid (K3.out.own (HO.out.2.trans hb5) ho5); clear ho5 hb5))
    refine (al_same _ _ _ _ _ _ (rawP r.1 ++ r.2.1) l0 _ (by exact (K5.out.row _ (.head _)).1) (by exact (K5.out.row (A0, n0, c0, l0) (by simp)).1) (by have := hn0.out; unfold maxLen; omega) (by unfold maxLen; omega) true (by rw [HG.out.2]; simp)).mono ?_
    rintro e w6 ⟨rfl, hb⟩
    have K6 := Lib.hid (K5.out.step hb)
    clear hb K5 K3 K4 HO
    go_wp2_with fail
    refine (hlong_any A0 n0 c0 l0 _ (by exact (K6.out.row (A0, n0, c0, l0) (by simp)).1) true (by rw [← HG.out.2]; exact long_raw _ HG.out.1 _)).mono ?_
    rintro e w7 ⟨rfl, rfl⟩
    go_wp2_with fail
    go_ret
    exact ⟨rfl, K6.out.bel⟩
  · have hb : (r.2.2 != 0) = true := by simpa using he
    have hz := prs_err (l := l0) (by rw [← HR.out]; exact he)
    rw [← HR.out] at hz
    obtain rfl : 0 = n2 := by rw [← HN2.out, hz.2]; rfl
    have HZ := Lib.hid hz
    clear hz
    go_wp2_with (first
      | (with_reducible show wpList _ _ _ (⟨some 3, .alloc _, _, _, _, none⟩ :: _) _ _; refine wpList_allocN ht_head rfl rfl ?_; intro w2a x hc2 hb2 hx2; have H2 := Lib.hid (And.intro hc2 (And.intro hb2 hx2)); clear hc2 hb2 hx2)
      | (refine wpList_stH ht_head rfl (.tmp 3) (.tmp 16) rfl x rfl h zeroH rfl (by exact H2.out.1) ?_; intro w2b hc3 ho3 hs3; have K3 := Lib.hid (K2.out.var H2.out.2.1 H2.out.2.2 hc3 ho3); have ql := ldHd_m ht_head (K3.out.box (27, x, h) (by simp)); clear hc3 ho3 hs3 H2 K2))
    refine (hsame_any h zeroH _ (by exact K3.out.hd h (by simp)) (zero_ok _) true (decide_eq_true (by rw [HP.out, HZ.out.1]; rfl))).mono ?_
    rintro e w4 ⟨rfl, hb⟩
    have K4 := Lib.hid (K3.out.step hb)
    clear hb K3
    go_wp2_with fail
    go_ret
    exact ⟨rfl, K4.out.bel⟩
end Go.Proofs.Ytpkombfiejdflaa
