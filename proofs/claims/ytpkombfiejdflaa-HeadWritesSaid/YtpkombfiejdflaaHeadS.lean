/- Layer 10's Same, and the reference's. No condition. -/
import Derived.Test.YtpkombfiejdflaaHeadB
namespace Go.Proofs.Ytpkombfiejdflaa
open Go.RowKit
set_option linter.unusedVariables false
set_option linter.unusedSimpArgs false
attribute [local go_sem ↓] ex_ldHd ex_stHd ex_ldHr ex_stHr

set_option maxRecDepth 100000 in
set_option maxHeartbeats 400000 in
theorem hsame_any (h g : Hd) (w : World) (hk : h.ok w) (gk : g.ok w) (v : Bool) (hv : decide (h.pl = g.pl) = v) :
    Calls Try.prog 18 #[h.val, g.val] w fun e w' => e = .returned (.bool v) ∧ Below w.heap.size w w' := by
  obtain ⟨v1, e1⟩ : ∃ v1, ((h.f.toNat : Int) == (g.f.toNat : Int)) = v1 := ⟨_, rfl⟩
  obtain ⟨v2, e2⟩ : ∃ v1, ((h.v : Int) == (g.v : Int)) = v1 := ⟨_, rfl⟩
  obtain ⟨v3, e3⟩ : ∃ v1, (h.a == g.a) = v1 := ⟨_, rfl⟩
  obtain ⟨v4, e4⟩ : ∃ v1, (h.b == g.b) = v1 := ⟨_, rfl⟩
  obtain rfl : v = (v1 && v2 && v3 && v4) := by
    rw [← hv, ← e1, ← e2, ← e3, ← e4, Bool.eq_iff_iff]
    simp only [Hd.pl, decide_eq_true_eq, Bool.and_eq_true, beq_iff_eq, Prod.mk.injEq]
    constructor
    · rintro ⟨a, b, c, d⟩; exact ⟨⟨⟨by rw [a], by rw [b]⟩, c⟩, d⟩
    · rintro ⟨⟨⟨a, b⟩, c⟩, d⟩; exact ⟨UInt8.toNat_inj.1 (by omega), by omega, c, d⟩
  have HK := Lib.hid (And.intro hk gk)
  clear hk gk hv
  rcases v1 with _ | _
  · go_enter Try.func18, Try.ntmps18
    go_wp2_with (first
      | (with_reducible show wpList _ _ _ (⟨_, .box _ (.tmp 0), _, _, _, none⟩ :: _) _ _; refine wpList_boxN rfl _ (.tmp 0) rfl h rfl ?_; intro w1 q hc1 hb1 hx1; have H1 := Lib.hid (And.intro hc1 hb1); clear hc1 hb1 hx1)
      | (with_reducible show wpList _ _ _ (⟨_, .box _ (.tmp 1), _, _, _, none⟩ :: _) _ _; refine wpList_boxN rfl _ (.tmp 1) rfl g rfl ?_; intro w2 p hc2 hb2 hx2; have B2 := Lib.hid (bel_next H1.out.2 hb2); have m2 := hc2.c0; have m3 := hc2.c1; have m4 := hc2.c2; have m5 := hc2.c3; have k2 := (H1.out.1.step hb2).c0; have k3 := (H1.out.1.step hb2).c1; have k4 := (H1.out.1.step hb2).c2; have k5 := (H1.out.1.step hb2).c3; have ra := HK.out.1.a.step B2.out; have rb := HK.out.1.b.step B2.out; have ga := HK.out.2.a.step B2.out; have gb := HK.out.2.b.step B2.out; have RA := Lib.hid (And.intro ra ga); have RBB := Lib.hid (And.intro rb gb); clear hc2 hb2 hx2 ra rb ga gb H1))
    go_ret
    exact ⟨rfl, B2.out⟩
  rcases v2 with _ | _
  · go_enter Try.func18, Try.ntmps18
    go_wp2_with (first
      | (with_reducible show wpList _ _ _ (⟨_, .box _ (.tmp 0), _, _, _, none⟩ :: _) _ _; refine wpList_boxN rfl _ (.tmp 0) rfl h rfl ?_; intro w1 q hc1 hb1 hx1; have H1 := Lib.hid (And.intro hc1 hb1); clear hc1 hb1 hx1)
      | (with_reducible show wpList _ _ _ (⟨_, .box _ (.tmp 1), _, _, _, none⟩ :: _) _ _; refine wpList_boxN rfl _ (.tmp 1) rfl g rfl ?_; intro w2 p hc2 hb2 hx2; have B2 := Lib.hid (bel_next H1.out.2 hb2); have m2 := hc2.c0; have m3 := hc2.c1; have m4 := hc2.c2; have m5 := hc2.c3; have k2 := (H1.out.1.step hb2).c0; have k3 := (H1.out.1.step hb2).c1; have k4 := (H1.out.1.step hb2).c2; have k5 := (H1.out.1.step hb2).c3; have ra := HK.out.1.a.step B2.out; have rb := HK.out.1.b.step B2.out; have ga := HK.out.2.a.step B2.out; have gb := HK.out.2.b.step B2.out; have RA := Lib.hid (And.intro ra ga); have RBB := Lib.hid (And.intro rb gb); clear hc2 hb2 hx2 ra rb ga gb H1))
    go_ret
    exact ⟨rfl, B2.out⟩
  rcases v3 with _ | _
  · go_enter Try.func18, Try.ntmps18
    go_wp2_with (first
      | (with_reducible show wpList _ _ _ (⟨_, .box _ (.tmp 0), _, _, _, none⟩ :: _) _ _; refine wpList_boxN rfl _ (.tmp 0) rfl h rfl ?_; intro w1 q hc1 hb1 hx1; have H1 := Lib.hid (And.intro hc1 hb1); clear hc1 hb1 hx1)
      | (with_reducible show wpList _ _ _ (⟨_, .box _ (.tmp 1), _, _, _, none⟩ :: _) _ _; refine wpList_boxN rfl _ (.tmp 1) rfl g rfl ?_; intro w2 p hc2 hb2 hx2; have B2 := Lib.hid (bel_next H1.out.2 hb2); have m2 := hc2.c0; have m3 := hc2.c1; have m4 := hc2.c2; have m5 := hc2.c3; have k2 := (H1.out.1.step hb2).c0; have k3 := (H1.out.1.step hb2).c1; have k4 := (H1.out.1.step hb2).c2; have k5 := (H1.out.1.step hb2).c3; have ra := HK.out.1.a.step B2.out; have rb := HK.out.1.b.step B2.out; have ga := HK.out.2.a.step B2.out; have gb := HK.out.2.b.step B2.out; have RA := Lib.hid (And.intro ra ga); have RBB := Lib.hid (And.intro rb gb); clear hc2 hb2 hx2 ra rb ga gb H1))
    refine (equal_any h.A g.A h.a.length h.c g.a.length g.c _ _ h.a g.a _ RA.out.1 RA.out.2).mono ?_
    rw [e3]
    rintro e w3 ⟨rfl, rfl⟩
    go_wp2_with fail
    go_ret
    exact ⟨rfl, B2.out⟩
  rcases v4 with _ | _
  · go_enter Try.func18, Try.ntmps18
    go_wp2_with (first
      | (with_reducible show wpList _ _ _ (⟨_, .box _ (.tmp 0), _, _, _, none⟩ :: _) _ _; refine wpList_boxN rfl _ (.tmp 0) rfl h rfl ?_; intro w1 q hc1 hb1 hx1; have H1 := Lib.hid (And.intro hc1 hb1); clear hc1 hb1 hx1)
      | (with_reducible show wpList _ _ _ (⟨_, .box _ (.tmp 1), _, _, _, none⟩ :: _) _ _; refine wpList_boxN rfl _ (.tmp 1) rfl g rfl ?_; intro w2 p hc2 hb2 hx2; have B2 := Lib.hid (bel_next H1.out.2 hb2); have m2 := hc2.c0; have m3 := hc2.c1; have m4 := hc2.c2; have m5 := hc2.c3; have k2 := (H1.out.1.step hb2).c0; have k3 := (H1.out.1.step hb2).c1; have k4 := (H1.out.1.step hb2).c2; have k5 := (H1.out.1.step hb2).c3; have ra := HK.out.1.a.step B2.out; have rb := HK.out.1.b.step B2.out; have ga := HK.out.2.a.step B2.out; have gb := HK.out.2.b.step B2.out; have RA := Lib.hid (And.intro ra ga); have RBB := Lib.hid (And.intro rb gb); clear hc2 hb2 hx2 ra rb ga gb H1))
    refine (equal_any h.A g.A h.a.length h.c g.a.length g.c _ _ h.a g.a _ RA.out.1 RA.out.2).mono ?_
    rw [e3]
    rintro e w3 ⟨rfl, rfl⟩
    go_wp2_with fail
    refine (equal_any h.B g.B h.b.length h.d g.b.length g.d _ _ h.b g.b _ RBB.out.1 RBB.out.2).mono ?_
    rw [e4]
    rintro e w3 ⟨rfl, rfl⟩
    go_wp2_with fail
    go_ret
    exact ⟨rfl, B2.out⟩
  · go_enter Try.func18, Try.ntmps18
    go_wp2_with (first
      | (with_reducible show wpList _ _ _ (⟨_, .box _ (.tmp 0), _, _, _, none⟩ :: _) _ _; refine wpList_boxN rfl _ (.tmp 0) rfl h rfl ?_; intro w1 q hc1 hb1 hx1; have H1 := Lib.hid (And.intro hc1 hb1); clear hc1 hb1 hx1)
      | (with_reducible show wpList _ _ _ (⟨_, .box _ (.tmp 1), _, _, _, none⟩ :: _) _ _; refine wpList_boxN rfl _ (.tmp 1) rfl g rfl ?_; intro w2 p hc2 hb2 hx2; have B2 := Lib.hid (bel_next H1.out.2 hb2); have m2 := hc2.c0; have m3 := hc2.c1; have m4 := hc2.c2; have m5 := hc2.c3; have k2 := (H1.out.1.step hb2).c0; have k3 := (H1.out.1.step hb2).c1; have k4 := (H1.out.1.step hb2).c2; have k5 := (H1.out.1.step hb2).c3; have ra := HK.out.1.a.step B2.out; have rb := HK.out.1.b.step B2.out; have ga := HK.out.2.a.step B2.out; have gb := HK.out.2.b.step B2.out; have RA := Lib.hid (And.intro ra ga); have RBB := Lib.hid (And.intro rb gb); clear hc2 hb2 hx2 ra rb ga gb H1))
    refine (equal_any h.A g.A h.a.length h.c g.a.length g.c _ _ h.a g.a _ RA.out.1 RA.out.2).mono ?_
    rw [e3]
    rintro e w3 ⟨rfl, rfl⟩
    go_wp2_with fail
    refine (equal_any h.B g.B h.b.length h.d g.b.length g.d _ _ h.b g.b _ RBB.out.1 RBB.out.2).mono ?_
    rw [e4]
    rintro e w3 ⟨rfl, rfl⟩
    go_wp2_with fail
    go_ret
    exact ⟨rfl, B2.out⟩

set_option maxRecDepth 100000 in
set_option maxHeartbeats 400000 in
theorem rhsame_any (h g : Hd) (w : World) (hk : h.ok w) (gk : g.ok w) (v : Bool) (hv : decide (h.pl = g.pl) = v) :
    Calls Try.prog 11 #[h.val, g.val] w fun e w' => e = .returned (.bool v) ∧ Below w.heap.size w w' := by
  obtain ⟨v1, e1⟩ : ∃ v1, ((h.f.toNat : Int) == (g.f.toNat : Int)) = v1 := ⟨_, rfl⟩
  obtain ⟨v2, e2⟩ : ∃ v1, ((h.v : Int) == (g.v : Int)) = v1 := ⟨_, rfl⟩
  obtain ⟨v3, e3⟩ : ∃ v1, (h.a == g.a) = v1 := ⟨_, rfl⟩
  obtain ⟨v4, e4⟩ : ∃ v1, (h.b == g.b) = v1 := ⟨_, rfl⟩
  obtain rfl : v = (v1 && v2 && v3 && v4) := by
    rw [← hv, ← e1, ← e2, ← e3, ← e4, Bool.eq_iff_iff]
    simp only [Hd.pl, decide_eq_true_eq, Bool.and_eq_true, beq_iff_eq, Prod.mk.injEq]
    constructor
    · rintro ⟨a, b, c, d⟩; exact ⟨⟨⟨by rw [a], by rw [b]⟩, c⟩, d⟩
    · rintro ⟨⟨⟨a, b⟩, c⟩, d⟩; exact ⟨UInt8.toNat_inj.1 (by omega), by omega, c, d⟩
  have HK := Lib.hid (And.intro hk gk)
  have s3 := (strL_beq h.a g.a).trans e3
  have s4 := (strL_beq h.b g.b).trans e4
  clear hk gk hv
  rcases v1 with _ | _
  · go_enter Try.func11, Try.ntmps11
    go_wp2_with (first
      | (with_reducible show wpList _ _ _ (⟨_, .box _ (.tmp 0), _, _, _, none⟩ :: _) _ _; refine wpList_boxN rfl _ (.tmp 0) rfl h rfl ?_; intro w1 q hc1 hb1 hx1; have H1 := Lib.hid (And.intro hc1 hb1); clear hc1 hb1 hx1)
      | (with_reducible show wpList _ _ _ (⟨_, .box _ (.tmp 1), _, _, _, none⟩ :: _) _ _; refine wpList_boxN rfl _ (.tmp 1) rfl g rfl ?_; intro w2 p hc2 hb2 hx2; have B2 := Lib.hid (bel_next H1.out.2 hb2); have m2 := hc2.c0; have m3 := hc2.c1; have m4 := hc2.c2; have m5 := hc2.c3; have k2 := (H1.out.1.step hb2).c0; have k3 := (H1.out.1.step hb2).c1; have k4 := (H1.out.1.step hb2).c2; have k5 := (H1.out.1.step hb2).c3; have ra := HK.out.1.a.step B2.out; have rb := HK.out.1.b.step B2.out; have ga := HK.out.2.a.step B2.out; have gb := HK.out.2.b.step B2.out; have RA := Lib.hid (And.intro ra ga); have RBB := Lib.hid (And.intro rb gb); have t1 := run_str ra h.c; have t2 := run_str ga g.c; have t3 := run_str rb h.d; have t4 := run_str gb g.d; clear hc2 hb2 hx2 ra rb ga gb H1))
    go_ret
    exact ⟨rfl, B2.out⟩
  rcases v2 with _ | _
  · go_enter Try.func11, Try.ntmps11
    go_wp2_with (first
      | (with_reducible show wpList _ _ _ (⟨_, .box _ (.tmp 0), _, _, _, none⟩ :: _) _ _; refine wpList_boxN rfl _ (.tmp 0) rfl h rfl ?_; intro w1 q hc1 hb1 hx1; have H1 := Lib.hid (And.intro hc1 hb1); clear hc1 hb1 hx1)
      | (with_reducible show wpList _ _ _ (⟨_, .box _ (.tmp 1), _, _, _, none⟩ :: _) _ _; refine wpList_boxN rfl _ (.tmp 1) rfl g rfl ?_; intro w2 p hc2 hb2 hx2; have B2 := Lib.hid (bel_next H1.out.2 hb2); have m2 := hc2.c0; have m3 := hc2.c1; have m4 := hc2.c2; have m5 := hc2.c3; have k2 := (H1.out.1.step hb2).c0; have k3 := (H1.out.1.step hb2).c1; have k4 := (H1.out.1.step hb2).c2; have k5 := (H1.out.1.step hb2).c3; have ra := HK.out.1.a.step B2.out; have rb := HK.out.1.b.step B2.out; have ga := HK.out.2.a.step B2.out; have gb := HK.out.2.b.step B2.out; have RA := Lib.hid (And.intro ra ga); have RBB := Lib.hid (And.intro rb gb); have t1 := run_str ra h.c; have t2 := run_str ga g.c; have t3 := run_str rb h.d; have t4 := run_str gb g.d; clear hc2 hb2 hx2 ra rb ga gb H1))
    go_ret
    exact ⟨rfl, B2.out⟩
  rcases v3 with _ | _
  · go_enter Try.func11, Try.ntmps11
    go_wp2_with (first
      | (with_reducible show wpList _ _ _ (⟨_, .box _ (.tmp 0), _, _, _, none⟩ :: _) _ _; refine wpList_boxN rfl _ (.tmp 0) rfl h rfl ?_; intro w1 q hc1 hb1 hx1; have H1 := Lib.hid (And.intro hc1 hb1); clear hc1 hb1 hx1)
      | (with_reducible show wpList _ _ _ (⟨_, .box _ (.tmp 1), _, _, _, none⟩ :: _) _ _; refine wpList_boxN rfl _ (.tmp 1) rfl g rfl ?_; intro w2 p hc2 hb2 hx2; have B2 := Lib.hid (bel_next H1.out.2 hb2); have m2 := hc2.c0; have m3 := hc2.c1; have m4 := hc2.c2; have m5 := hc2.c3; have k2 := (H1.out.1.step hb2).c0; have k3 := (H1.out.1.step hb2).c1; have k4 := (H1.out.1.step hb2).c2; have k5 := (H1.out.1.step hb2).c3; have ra := HK.out.1.a.step B2.out; have rb := HK.out.1.b.step B2.out; have ga := HK.out.2.a.step B2.out; have gb := HK.out.2.b.step B2.out; have RA := Lib.hid (And.intro ra ga); have RBB := Lib.hid (And.intro rb gb); have t1 := run_str ra h.c; have t2 := run_str ga g.c; have t3 := run_str rb h.d; have t4 := run_str gb g.d; clear hc2 hb2 hx2 ra rb ga gb H1))
    go_ret
    exact ⟨rfl, B2.out⟩
  rcases v4 with _ | _
  · go_enter Try.func11, Try.ntmps11
    go_wp2_with (first
      | (with_reducible show wpList _ _ _ (⟨_, .box _ (.tmp 0), _, _, _, none⟩ :: _) _ _; refine wpList_boxN rfl _ (.tmp 0) rfl h rfl ?_; intro w1 q hc1 hb1 hx1; have H1 := Lib.hid (And.intro hc1 hb1); clear hc1 hb1 hx1)
      | (with_reducible show wpList _ _ _ (⟨_, .box _ (.tmp 1), _, _, _, none⟩ :: _) _ _; refine wpList_boxN rfl _ (.tmp 1) rfl g rfl ?_; intro w2 p hc2 hb2 hx2; have B2 := Lib.hid (bel_next H1.out.2 hb2); have m2 := hc2.c0; have m3 := hc2.c1; have m4 := hc2.c2; have m5 := hc2.c3; have k2 := (H1.out.1.step hb2).c0; have k3 := (H1.out.1.step hb2).c1; have k4 := (H1.out.1.step hb2).c2; have k5 := (H1.out.1.step hb2).c3; have ra := HK.out.1.a.step B2.out; have rb := HK.out.1.b.step B2.out; have ga := HK.out.2.a.step B2.out; have gb := HK.out.2.b.step B2.out; have RA := Lib.hid (And.intro ra ga); have RBB := Lib.hid (And.intro rb gb); have t1 := run_str ra h.c; have t2 := run_str ga g.c; have t3 := run_str rb h.d; have t4 := run_str gb g.d; clear hc2 hb2 hx2 ra rb ga gb H1))
    go_ret
    exact ⟨rfl, B2.out⟩
  · go_enter Try.func11, Try.ntmps11
    go_wp2_with (first
      | (with_reducible show wpList _ _ _ (⟨_, .box _ (.tmp 0), _, _, _, none⟩ :: _) _ _; refine wpList_boxN rfl _ (.tmp 0) rfl h rfl ?_; intro w1 q hc1 hb1 hx1; have H1 := Lib.hid (And.intro hc1 hb1); clear hc1 hb1 hx1)
      | (with_reducible show wpList _ _ _ (⟨_, .box _ (.tmp 1), _, _, _, none⟩ :: _) _ _; refine wpList_boxN rfl _ (.tmp 1) rfl g rfl ?_; intro w2 p hc2 hb2 hx2; have B2 := Lib.hid (bel_next H1.out.2 hb2); have m2 := hc2.c0; have m3 := hc2.c1; have m4 := hc2.c2; have m5 := hc2.c3; have k2 := (H1.out.1.step hb2).c0; have k3 := (H1.out.1.step hb2).c1; have k4 := (H1.out.1.step hb2).c2; have k5 := (H1.out.1.step hb2).c3; have ra := HK.out.1.a.step B2.out; have rb := HK.out.1.b.step B2.out; have ga := HK.out.2.a.step B2.out; have gb := HK.out.2.b.step B2.out; have RA := Lib.hid (And.intro ra ga); have RBB := Lib.hid (And.intro rb gb); have t1 := run_str ra h.c; have t2 := run_str ga g.c; have t3 := run_str rb h.d; have t4 := run_str gb g.d; clear hc2 hb2 hx2 ra rb ga gb H1))
    go_ret
    exact ⟨rfl, B2.out⟩
end Go.Proofs.Ytpkombfiejdflaa
