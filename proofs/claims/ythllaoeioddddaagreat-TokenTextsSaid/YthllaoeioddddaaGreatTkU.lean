/- Layer 20's calls without a ring: tooLong, Text, Untext, Seq, Same, the statements' long and Of. Conditions: what they read can be read. -/
import Derived.Test.YthllaoeioddddaaGreatTkL
import Derived.Test.YthllaoeioddddaaGreatUseBytes
import Derived.Test.YthllaoeioddddaaGreatScanQ
namespace Go.Proofs.YthllaoeioddddaaGreat
open Go.RowKit
set_option linter.unusedVariables false
set_option linter.unusedSimpArgs false
attribute [local irreducible] putS putN shortP doneS putL numS shortS endS numL
attribute [local go_sem ↓] ex_ldF ex_stF ex_ldFr ex_stFr
set_option maxRecDepth 100000 in
set_option maxHeartbeats 1000000 in
theorem toolong20_any (f : Fd) (w : World) (hf : f.ok w) (v : Bool) (hv : decide (20 < f.o.length ∨ 20 < f.s.length) = v) :
    Calls Tryz.prog 32 #[f.val] w fun e w' => e = .returned (.bool v) ∧ Below w.heap.size w w' := by
  have bo : f.o.length ≤ 9223372036854775807 := by have h1 := hf.co.1; have h2 := hf.co.2; unfold maxLen at h2; omega
  have bs : f.s.length ≤ 9223372036854775807 := by have h1 := hf.cs.1; have h2 := hf.cs.2; unfold maxLen at h2; omega
  clear hf
  by_cases h1 : (f.o.length : Int) > 20
  · obtain rfl : v = true := by rw [← hv]; exact decide_eq_true (by omega)
    have d1 : decide ((f.o.length : Int) > 20) = true := decide_eq_true h1
    clear hv h1
    go_enter Tryz.func32, Tryz.ntmps32
    go_wp2_with (first
      | (with_reducible show wpList _ _ _ (⟨_, .box _ (.tmp 0), _, _, _, none⟩ :: _) _ _; refine wpList_boxF rfl _ (.tmp 0) rfl f rfl ?_; intro w1 q hc1 hb1 hx1; have B1 := Lib.hid hb1; have c1 := hc1.c1; have c2 := hc1.c2; clear hc1 hb1 hx1))
    go_ret
    exact ⟨rfl, B1.out⟩
  by_cases h2 : (f.s.length : Int) > 20
  · obtain rfl : v = true := by rw [← hv]; exact decide_eq_true (by omega)
    have d1 : decide ((f.o.length : Int) > 20) = false := decide_eq_false h1
    have d2 : decide ((f.s.length : Int) > 20) = true := decide_eq_true h2
    clear hv h1 h2
    go_enter Tryz.func32, Tryz.ntmps32
    go_wp2_with (first
      | (with_reducible show wpList _ _ _ (⟨_, .box _ (.tmp 0), _, _, _, none⟩ :: _) _ _; refine wpList_boxF rfl _ (.tmp 0) rfl f rfl ?_; intro w1 q hc1 hb1 hx1; have B1 := Lib.hid hb1; have c1 := hc1.c1; have c2 := hc1.c2; clear hc1 hb1 hx1))
    go_ret
    exact ⟨rfl, B1.out⟩
  · obtain rfl : v = false := by rw [← hv]; exact decide_eq_false (by omega)
    have d1 : decide ((f.o.length : Int) > 20) = false := decide_eq_false h1
    have d2 : decide ((f.s.length : Int) > 20) = false := decide_eq_false h2
    clear hv h1 h2
    go_enter Tryz.func32, Tryz.ntmps32
    go_wp2_with (first
      | (with_reducible show wpList _ _ _ (⟨_, .box _ (.tmp 0), _, _, _, none⟩ :: _) _ _; refine wpList_boxF rfl _ (.tmp 0) rfl f rfl ?_; intro w1 q hc1 hb1 hx1; have B1 := Lib.hid hb1; have c1 := hc1.c1; have c2 := hc1.c2; clear hc1 hb1 hx1))
    go_ret
    exact ⟨rfl, B1.out⟩
set_option maxRecDepth 100000 in
set_option maxHeartbeats 1000000 in
theorem long20_any (f : Fd) (w : World) (hf : f.ok w) (v : Bool) (hv : decide (300 < f.o.length ∨ 300 < f.s.length) = v) :
    Calls Tryz.prog 10 #[f.val] w fun e w' => e = .returned (.bool v) ∧ Below w.heap.size w w' := by
  have bo : f.o.length ≤ 9223372036854775807 := by have h1 := hf.co.1; have h2 := hf.co.2; unfold maxLen at h2; omega
  have bs : f.s.length ≤ 9223372036854775807 := by have h1 := hf.cs.1; have h2 := hf.cs.2; unfold maxLen at h2; omega
  clear hf
  by_cases h1 : (f.o.length : Int) > 300
  · obtain rfl : v = true := by rw [← hv]; exact decide_eq_true (by omega)
    have d1 : decide ((f.o.length : Int) > 300) = true := decide_eq_true h1
    clear hv h1
    go_enter Tryz.func10, Tryz.ntmps10
    go_wp2_with (first
      | (with_reducible show wpList _ _ _ (⟨_, .box _ (.tmp 0), _, _, _, none⟩ :: _) _ _; refine wpList_boxF rfl _ (.tmp 0) rfl f rfl ?_; intro w1 q hc1 hb1 hx1; have B1 := Lib.hid hb1; have c1 := hc1.c1; have c2 := hc1.c2; clear hc1 hb1 hx1))
    go_ret
    exact ⟨rfl, B1.out⟩
  by_cases h2 : (f.s.length : Int) > 300
  · obtain rfl : v = true := by rw [← hv]; exact decide_eq_true (by omega)
    have d1 : decide ((f.o.length : Int) > 300) = false := decide_eq_false h1
    have d2 : decide ((f.s.length : Int) > 300) = true := decide_eq_true h2
    clear hv h1 h2
    go_enter Tryz.func10, Tryz.ntmps10
    go_wp2_with (first
      | (with_reducible show wpList _ _ _ (⟨_, .box _ (.tmp 0), _, _, _, none⟩ :: _) _ _; refine wpList_boxF rfl _ (.tmp 0) rfl f rfl ?_; intro w1 q hc1 hb1 hx1; have B1 := Lib.hid hb1; have c1 := hc1.c1; have c2 := hc1.c2; clear hc1 hb1 hx1))
    go_ret
    exact ⟨rfl, B1.out⟩
  · obtain rfl : v = false := by rw [← hv]; exact decide_eq_false (by omega)
    have d1 : decide ((f.o.length : Int) > 300) = false := decide_eq_false h1
    have d2 : decide ((f.s.length : Int) > 300) = false := decide_eq_false h2
    clear hv h1 h2
    go_enter Tryz.func10, Tryz.ntmps10
    go_wp2_with (first
      | (with_reducible show wpList _ _ _ (⟨_, .box _ (.tmp 0), _, _, _, none⟩ :: _) _ _; refine wpList_boxF rfl _ (.tmp 0) rfl f rfl ?_; intro w1 q hc1 hb1 hx1; have B1 := Lib.hid hb1; have c1 := hc1.c1; have c2 := hc1.c2; clear hc1 hb1 hx1))
    go_ret
    exact ⟨rfl, B1.out⟩
set_option maxRecDepth 100000 in
set_option maxHeartbeats 1000000 in
theorem tksame_any (h g : Fd) (w : World) (hk : h.ok w) (gk : g.ok w) (v : Bool) (hv : decide (h.tk = g.tk) = v) :
    Calls Tryz.prog 20 #[h.val, g.val] w fun e w' => e = .returned (.bool v) ∧ Below w.heap.size w w' := by
  obtain ⟨v1, e1⟩ : ∃ v1, ((h.e : Int) == (g.e : Int)) = v1 := ⟨_, rfl⟩
  obtain ⟨v2, e2⟩ : ∃ v1, (h.o == g.o) = v1 := ⟨_, rfl⟩
  obtain ⟨v3, e3⟩ : ∃ v1, (h.s == g.s) = v1 := ⟨_, rfl⟩
  obtain rfl : v = (v1 && v2 && v3) := by
    rw [← hv, ← e1, ← e2, ← e3, Bool.eq_iff_iff]
    simp only [Fd.tk, decide_eq_true_eq, Bool.and_eq_true, beq_iff_eq, Tk.mk.injEq]
    constructor
    · rintro ⟨a, b, c⟩; exact ⟨⟨by rw [a], b⟩, c⟩
    · rintro ⟨⟨a, b⟩, c⟩; exact ⟨by omega, b, c⟩
  have HK := Lib.hid (And.intro hk gk)
  clear hk gk hv
  rcases v1 with _ | _
  · go_enter Tryz.func20, Tryz.ntmps20
    go_wp2_with (first
      | (with_reducible show wpList _ _ _ (⟨_, .box _ (.tmp 0), _, _, _, none⟩ :: _) _ _; refine wpList_boxF rfl _ (.tmp 0) rfl h rfl ?_; intro w1 q hc1 hb1 hx1; have H1 := Lib.hid (And.intro hc1 hb1); clear hc1 hb1 hx1)
      | (with_reducible show wpList _ _ _ (⟨_, .box _ (.tmp 1), _, _, _, none⟩ :: _) _ _; refine wpList_boxF rfl _ (.tmp 1) rfl g rfl ?_; intro w2 p hc2 hb2 hx2; have B2 := Lib.hid (bel_next H1.out.2 hb2); have m2 := hc2.c0; have m3 := hc2.c1; have m4 := hc2.c2; have k2 := (H1.out.1.step hb2).c0; have k3 := (H1.out.1.step hb2).c1; have k4 := (H1.out.1.step hb2).c2; have ra := HK.out.1.o.step B2.out; have rb := HK.out.1.s.step B2.out; have ga := HK.out.2.o.step B2.out; have gb := HK.out.2.s.step B2.out; have RA := Lib.hid (And.intro ra ga); have RBB := Lib.hid (And.intro rb gb); clear hc2 hb2 hx2 ra rb ga gb H1))
    go_ret
    exact ⟨rfl, B2.out⟩
  rcases v2 with _ | _
  · go_enter Tryz.func20, Tryz.ntmps20
    go_wp2_with (first
      | (with_reducible show wpList _ _ _ (⟨_, .box _ (.tmp 0), _, _, _, none⟩ :: _) _ _; refine wpList_boxF rfl _ (.tmp 0) rfl h rfl ?_; intro w1 q hc1 hb1 hx1; have H1 := Lib.hid (And.intro hc1 hb1); clear hc1 hb1 hx1)
      | (with_reducible show wpList _ _ _ (⟨_, .box _ (.tmp 1), _, _, _, none⟩ :: _) _ _; refine wpList_boxF rfl _ (.tmp 1) rfl g rfl ?_; intro w2 p hc2 hb2 hx2; have B2 := Lib.hid (bel_next H1.out.2 hb2); have m2 := hc2.c0; have m3 := hc2.c1; have m4 := hc2.c2; have k2 := (H1.out.1.step hb2).c0; have k3 := (H1.out.1.step hb2).c1; have k4 := (H1.out.1.step hb2).c2; have ra := HK.out.1.o.step B2.out; have rb := HK.out.1.s.step B2.out; have ga := HK.out.2.o.step B2.out; have gb := HK.out.2.s.step B2.out; have RA := Lib.hid (And.intro ra ga); have RBB := Lib.hid (And.intro rb gb); clear hc2 hb2 hx2 ra rb ga gb H1))
    refine (bequal_any h.A g.A h.o.length h.c g.o.length g.c _ _ h.o g.o _ RA.out.1 RA.out.2).mono ?_
    rw [e2]
    rintro e w3 ⟨rfl, rfl⟩
    go_wp2_with fail
    go_ret
    exact ⟨rfl, B2.out⟩
  rcases v3 with _ | _
  · go_enter Tryz.func20, Tryz.ntmps20
    go_wp2_with (first
      | (with_reducible show wpList _ _ _ (⟨_, .box _ (.tmp 0), _, _, _, none⟩ :: _) _ _; refine wpList_boxF rfl _ (.tmp 0) rfl h rfl ?_; intro w1 q hc1 hb1 hx1; have H1 := Lib.hid (And.intro hc1 hb1); clear hc1 hb1 hx1)
      | (with_reducible show wpList _ _ _ (⟨_, .box _ (.tmp 1), _, _, _, none⟩ :: _) _ _; refine wpList_boxF rfl _ (.tmp 1) rfl g rfl ?_; intro w2 p hc2 hb2 hx2; have B2 := Lib.hid (bel_next H1.out.2 hb2); have m2 := hc2.c0; have m3 := hc2.c1; have m4 := hc2.c2; have k2 := (H1.out.1.step hb2).c0; have k3 := (H1.out.1.step hb2).c1; have k4 := (H1.out.1.step hb2).c2; have ra := HK.out.1.o.step B2.out; have rb := HK.out.1.s.step B2.out; have ga := HK.out.2.o.step B2.out; have gb := HK.out.2.s.step B2.out; have RA := Lib.hid (And.intro ra ga); have RBB := Lib.hid (And.intro rb gb); clear hc2 hb2 hx2 ra rb ga gb H1))
    refine (bequal_any h.A g.A h.o.length h.c g.o.length g.c _ _ h.o g.o _ RA.out.1 RA.out.2).mono ?_
    rw [e2]
    rintro e w3 ⟨rfl, rfl⟩
    go_wp2_with fail
    refine (bequal_any h.B g.B h.s.length h.d g.s.length g.d _ _ h.s g.s _ RBB.out.1 RBB.out.2).mono ?_
    rw [e3]
    rintro e w3 ⟨rfl, rfl⟩
    go_wp2_with fail
    go_ret
    exact ⟨rfl, B2.out⟩
  · go_enter Tryz.func20, Tryz.ntmps20
    go_wp2_with (first
      | (with_reducible show wpList _ _ _ (⟨_, .box _ (.tmp 0), _, _, _, none⟩ :: _) _ _; refine wpList_boxF rfl _ (.tmp 0) rfl h rfl ?_; intro w1 q hc1 hb1 hx1; have H1 := Lib.hid (And.intro hc1 hb1); clear hc1 hb1 hx1)
      | (with_reducible show wpList _ _ _ (⟨_, .box _ (.tmp 1), _, _, _, none⟩ :: _) _ _; refine wpList_boxF rfl _ (.tmp 1) rfl g rfl ?_; intro w2 p hc2 hb2 hx2; have B2 := Lib.hid (bel_next H1.out.2 hb2); have m2 := hc2.c0; have m3 := hc2.c1; have m4 := hc2.c2; have k2 := (H1.out.1.step hb2).c0; have k3 := (H1.out.1.step hb2).c1; have k4 := (H1.out.1.step hb2).c2; have ra := HK.out.1.o.step B2.out; have rb := HK.out.1.s.step B2.out; have ga := HK.out.2.o.step B2.out; have gb := HK.out.2.s.step B2.out; have RA := Lib.hid (And.intro ra ga); have RBB := Lib.hid (And.intro rb gb); clear hc2 hb2 hx2 ra rb ga gb H1))
    refine (bequal_any h.A g.A h.o.length h.c g.o.length g.c _ _ h.o g.o _ RA.out.1 RA.out.2).mono ?_
    rw [e2]
    rintro e w3 ⟨rfl, rfl⟩
    go_wp2_with fail
    refine (bequal_any h.B g.B h.s.length h.d g.s.length g.d _ _ h.s g.s _ RBB.out.1 RBB.out.2).mono ?_
    rw [e3]
    rintro e w3 ⟨rfl, rfl⟩
    go_wp2_with fail
    go_ret
    exact ⟨rfl, B2.out⟩
set_option maxRecDepth 100000 in
set_option maxHeartbeats 1000000 in
theorem rtksame_any (h g : Fd) (w : World) (hk : h.ok w) (gk : g.ok w) (v : Bool) (hv : decide (h.tk = g.tk) = v) :
    Calls Tryz.prog 18 #[h.val, g.val] w fun e w' => e = .returned (.bool v) ∧ Below w.heap.size w w' := by
  obtain ⟨v1, e1⟩ : ∃ v1, ((h.e : Int) == (g.e : Int)) = v1 := ⟨_, rfl⟩
  obtain ⟨v2, e2⟩ : ∃ v1, (h.o == g.o) = v1 := ⟨_, rfl⟩
  obtain ⟨v3, e3⟩ : ∃ v1, (h.s == g.s) = v1 := ⟨_, rfl⟩
  obtain rfl : v = (v1 && v2 && v3) := by
    rw [← hv, ← e1, ← e2, ← e3, Bool.eq_iff_iff]
    simp only [Fd.tk, decide_eq_true_eq, Bool.and_eq_true, beq_iff_eq, Tk.mk.injEq]
    constructor
    · rintro ⟨a, b, c⟩; exact ⟨⟨by rw [a], b⟩, c⟩
    · rintro ⟨⟨a, b⟩, c⟩; exact ⟨by omega, b, c⟩
  have HK := Lib.hid (And.intro hk gk)
  have s2 := (strL_beq h.o g.o).trans e2
  have s3 := (strL_beq h.s g.s).trans e3
  clear hk gk hv
  rcases v1 with _ | _
  · go_enter Tryz.func18, Tryz.ntmps18
    go_wp2_with (first
      | (with_reducible show wpList _ _ _ (⟨_, .box _ (.tmp 0), _, _, _, none⟩ :: _) _ _; refine wpList_boxF rfl _ (.tmp 0) rfl h rfl ?_; intro w1 q hc1 hb1 hx1; have H1 := Lib.hid (And.intro hc1 hb1); clear hc1 hb1 hx1)
      | (with_reducible show wpList _ _ _ (⟨_, .box _ (.tmp 1), _, _, _, none⟩ :: _) _ _; refine wpList_boxF rfl _ (.tmp 1) rfl g rfl ?_; intro w2 p hc2 hb2 hx2; have B2 := Lib.hid (bel_next H1.out.2 hb2); have m2 := hc2.c0; have m3 := hc2.c1; have m4 := hc2.c2; have k2 := (H1.out.1.step hb2).c0; have k3 := (H1.out.1.step hb2).c1; have k4 := (H1.out.1.step hb2).c2; have ra := HK.out.1.o.step B2.out; have rb := HK.out.1.s.step B2.out; have ga := HK.out.2.o.step B2.out; have gb := HK.out.2.s.step B2.out; have RA := Lib.hid (And.intro ra ga); have RBB := Lib.hid (And.intro rb gb); have t1 := run_str ra h.c; have t2 := run_str ga g.c; have t3 := run_str rb h.d; have t4 := run_str gb g.d; clear hc2 hb2 hx2 ra rb ga gb H1))
    go_ret
    exact ⟨rfl, B2.out⟩
  rcases v2 with _ | _
  · go_enter Tryz.func18, Tryz.ntmps18
    go_wp2_with (first
      | (with_reducible show wpList _ _ _ (⟨_, .box _ (.tmp 0), _, _, _, none⟩ :: _) _ _; refine wpList_boxF rfl _ (.tmp 0) rfl h rfl ?_; intro w1 q hc1 hb1 hx1; have H1 := Lib.hid (And.intro hc1 hb1); clear hc1 hb1 hx1)
      | (with_reducible show wpList _ _ _ (⟨_, .box _ (.tmp 1), _, _, _, none⟩ :: _) _ _; refine wpList_boxF rfl _ (.tmp 1) rfl g rfl ?_; intro w2 p hc2 hb2 hx2; have B2 := Lib.hid (bel_next H1.out.2 hb2); have m2 := hc2.c0; have m3 := hc2.c1; have m4 := hc2.c2; have k2 := (H1.out.1.step hb2).c0; have k3 := (H1.out.1.step hb2).c1; have k4 := (H1.out.1.step hb2).c2; have ra := HK.out.1.o.step B2.out; have rb := HK.out.1.s.step B2.out; have ga := HK.out.2.o.step B2.out; have gb := HK.out.2.s.step B2.out; have RA := Lib.hid (And.intro ra ga); have RBB := Lib.hid (And.intro rb gb); have t1 := run_str ra h.c; have t2 := run_str ga g.c; have t3 := run_str rb h.d; have t4 := run_str gb g.d; clear hc2 hb2 hx2 ra rb ga gb H1))
    go_ret
    exact ⟨rfl, B2.out⟩
  rcases v3 with _ | _
  · go_enter Tryz.func18, Tryz.ntmps18
    go_wp2_with (first
      | (with_reducible show wpList _ _ _ (⟨_, .box _ (.tmp 0), _, _, _, none⟩ :: _) _ _; refine wpList_boxF rfl _ (.tmp 0) rfl h rfl ?_; intro w1 q hc1 hb1 hx1; have H1 := Lib.hid (And.intro hc1 hb1); clear hc1 hb1 hx1)
      | (with_reducible show wpList _ _ _ (⟨_, .box _ (.tmp 1), _, _, _, none⟩ :: _) _ _; refine wpList_boxF rfl _ (.tmp 1) rfl g rfl ?_; intro w2 p hc2 hb2 hx2; have B2 := Lib.hid (bel_next H1.out.2 hb2); have m2 := hc2.c0; have m3 := hc2.c1; have m4 := hc2.c2; have k2 := (H1.out.1.step hb2).c0; have k3 := (H1.out.1.step hb2).c1; have k4 := (H1.out.1.step hb2).c2; have ra := HK.out.1.o.step B2.out; have rb := HK.out.1.s.step B2.out; have ga := HK.out.2.o.step B2.out; have gb := HK.out.2.s.step B2.out; have RA := Lib.hid (And.intro ra ga); have RBB := Lib.hid (And.intro rb gb); have t1 := run_str ra h.c; have t2 := run_str ga g.c; have t3 := run_str rb h.d; have t4 := run_str gb g.d; clear hc2 hb2 hx2 ra rb ga gb H1))
    go_ret
    exact ⟨rfl, B2.out⟩
  · go_enter Tryz.func18, Tryz.ntmps18
    go_wp2_with (first
      | (with_reducible show wpList _ _ _ (⟨_, .box _ (.tmp 0), _, _, _, none⟩ :: _) _ _; refine wpList_boxF rfl _ (.tmp 0) rfl h rfl ?_; intro w1 q hc1 hb1 hx1; have H1 := Lib.hid (And.intro hc1 hb1); clear hc1 hb1 hx1)
      | (with_reducible show wpList _ _ _ (⟨_, .box _ (.tmp 1), _, _, _, none⟩ :: _) _ _; refine wpList_boxF rfl _ (.tmp 1) rfl g rfl ?_; intro w2 p hc2 hb2 hx2; have B2 := Lib.hid (bel_next H1.out.2 hb2); have m2 := hc2.c0; have m3 := hc2.c1; have m4 := hc2.c2; have k2 := (H1.out.1.step hb2).c0; have k3 := (H1.out.1.step hb2).c1; have k4 := (H1.out.1.step hb2).c2; have ra := HK.out.1.o.step B2.out; have rb := HK.out.1.s.step B2.out; have ga := HK.out.2.o.step B2.out; have gb := HK.out.2.s.step B2.out; have RA := Lib.hid (And.intro ra ga); have RBB := Lib.hid (And.intro rb gb); have t1 := run_str ra h.c; have t2 := run_str ga g.c; have t3 := run_str rb h.d; have t4 := run_str gb g.d; clear hc2 hb2 hx2 ra rb ga gb H1))
    go_ret
    exact ⟨rfl, B2.out⟩
set_option maxRecDepth 100000 in
set_option maxHeartbeats 2000000 in
theorem tkof_any (i : Fd) (w : World) (hk : i.ok w) (ho : i.o.length ≤ 1000000) (hs : i.s.length ≤ 1000000) :
    Calls Tryz.prog 13 #[i.val] w fun e w' => ∃ j : Fd, e = .returned j.val ∧ j.tk = i.tk ∧ j.own w' w.heap.size ∧ Below w.heap.size w w' := by
  have HK := Lib.hid hk
  clear hk
  go_enter Tryz.func13, Tryz.ntmps13
  go_wp2_with (first
    | (with_reducible show wpList _ _ _ (⟨_, .box _ (.tmp 0), _, _, _, none⟩ :: _) _ _; refine wpList_boxF rfl _ (.tmp 0) rfl i rfl ?_; intro w1 q hc1 hb1 hx1; have H1 := Lib.hid (And.intro hc1 (And.intro hb1 hx1)); clear hc1 hb1 hx1)
    | (with_reducible show wpList _ _ _ (⟨_, .alloc _, _, _, _, none⟩ :: _) _ _; refine wpList_newF rt_rtk rfl rfl ?_; intro w2 p hc2 hb2 hx2; have H2 := Lib.hid (And.intro hc2 (And.intro hb2 hx2)); clear hc2 hb2 hx2))
  have hpq : p ≠ q := fun e => by
    have h1 := H1.out.1.blk.lt
    have h2 := H2.out.2.2
    omega
  have HC2 : Fc 25 w2.drew q i := H1.out.1.step H2.out.2.1.drew
  have HP2 : Hid (Fc 32 w2.drew p zeroF) := Lib.hid H2.out.1
  have BL2 : Hid (Below w.heap.size w w2.drew) := Lib.hid (bel_next H1.out.2.1 H2.out.2.1).drew
  have LP : Hid (w.heap.size ≤ p) := Lib.hid (Nat.le_trans H1.out.2.1.size H2.out.2.2)
  clear H1 H2
  refine wp_region_held_drew (S := fun w' => Fc 25 w' q i) (by kernel_rfl) HC2 (fun hHeld => ?_)
  (try dsimp only at hHeld)
  refine wpAnyH_take (i := 0) (v := ?v0_1) rfl (by kernel_rfl) (by kernel_rfl) (by kernel_rfl) (fun _ _ _ h => h) (Or.inl ⟨by rfl, ?hy0_1⟩) hHeld ?_
  case hy0_1 => (intro w hSw; (try dsimp only at hSw); have q0 := hSw.c0; have q1 := hSw.c1; have q2 := hSw.c2; (try simp only [List.getElem_toArray, List.getElem_cons_zero, List.getElem_cons_succ]); go_simp <;> with_reducible rfl)
  (try simp only [Act.put, List.getElem_toArray, List.getElem_cons_zero, List.getElem_cons_succ, List.setIfInBounds_toArray, List.set_cons_zero, List.set_cons_succ])
  refine wpAnyH_take (i := 1) (v := ?v1_2) rfl (by kernel_rfl) (by kernel_rfl) (by kernel_rfl) (fun _ _ _ h => h) (Or.inl ⟨by rfl, ?hy1_2⟩) hHeld ?_
  case hy1_2 => (intro w hSw; (try dsimp only at hSw); have q0 := hSw.c0; have q1 := hSw.c1; have q2 := hSw.c2; (try simp only [List.getElem_toArray, List.getElem_cons_zero, List.getElem_cons_succ]); go_simp <;> with_reducible rfl)
  (try simp only [Act.put, List.getElem_toArray, List.getElem_cons_zero, List.getElem_cons_succ, List.setIfInBounds_toArray, List.set_cons_zero, List.set_cons_succ])
  refine wpAnyH_take (i := 2) (v := ?v2_3) rfl (by kernel_rfl) (by kernel_rfl) (by kernel_rfl) (fun _ _ _ h => h) (Or.inl ⟨by rfl, ?hy2_3⟩) hHeld ?_
  case hy2_3 => (intro w hSw; (try dsimp only at hSw); have q0 := hSw.c0; have q1 := hSw.c1; have q2 := hSw.c2; (try simp only [List.getElem_toArray, List.getElem_cons_zero, List.getElem_cons_succ]); go_simp <;> with_reducible rfl)
  (try simp only [Act.put, List.getElem_toArray, List.getElem_cons_zero, List.getElem_cons_succ, List.setIfInBounds_toArray, List.set_cons_zero, List.set_cons_succ])
  refine wpAnyH_take (i := 3) (v := ?v3_4) rfl (by kernel_rfl) (by kernel_rfl) (by kernel_rfl) (fun _ _ _ h => h) (Or.inl ⟨by rfl, ?hy3_4⟩) hHeld ?_
  case hy3_4 => (intro w hSw; (try dsimp only at hSw); have q0 := hSw.c0; have q1 := hSw.c1; have q2 := hSw.c2; (try simp only [List.getElem_toArray, List.getElem_cons_zero, List.getElem_cons_succ]); go_simp <;> with_reducible rfl)
  (try simp only [Act.put, List.getElem_toArray, List.getElem_cons_zero, List.getElem_cons_succ, List.setIfInBounds_toArray, List.set_cons_zero, List.set_cons_succ])
  refine wpAnyH_take (i := 5) (v := ?v5_5) rfl (by kernel_rfl) (by kernel_rfl) (by kernel_rfl) (fun _ _ _ h => h) (Or.inl ⟨by rfl, ?hy5_5⟩) hHeld ?_
  case hy5_5 => (intro w hSw; (try dsimp only at hSw); have q0 := hSw.c0; have q1 := hSw.c1; have q2 := hSw.c2; (try simp only [List.getElem_toArray, List.getElem_cons_zero, List.getElem_cons_succ]); go_simp <;> with_reducible rfl)
  (try simp only [Act.put, List.getElem_toArray, List.getElem_cons_zero, List.getElem_cons_succ, List.setIfInBounds_toArray, List.set_cons_zero, List.set_cons_succ])
  refine wpAnyH_take (i := 6) (v := ?v6_6) rfl (by kernel_rfl) (by kernel_rfl) (by kernel_rfl) (fun _ _ _ h => h) (Or.inl ⟨by rfl, ?hy6_6⟩) hHeld ?_
  case hy6_6 => (intro w hSw; (try dsimp only at hSw); have q0 := hSw.c0; have q1 := hSw.c1; have q2 := hSw.c2; (try simp only [List.getElem_toArray, List.getElem_cons_zero, List.getElem_cons_succ]); go_simp <;> with_reducible rfl)
  (try simp only [Act.put, List.getElem_toArray, List.getElem_cons_zero, List.getElem_cons_succ, List.setIfInBounds_toArray, List.set_cons_zero, List.set_cons_succ])
  refine wpAnyH_ready (rs := [4]) (by kernel_rfl) (by simp) ?_
  refine AllReadyH.cons rfl (fun K hK => ?_) AllReadyH.nil
  (try simp only [List.getElem_toArray, List.getElem_cons_zero, List.getElem_cons_succ])
  go_simp
  refine (copy_any i.A i.o.length i.c 0 i.o _ (by exact HK.out.o.step BL2.out) (by omega)).mono ?_
  rintro e w3 ⟨A3, c3, rfl, ho3, hb3⟩
  have O3 := Lib.hid (ho3.base_le BL2.out.size)
  have BL3 := Lib.hid (bel_next BL2.out hb3)
  have HP3 := Lib.hid (HP2.out.step hb3)
  have HC3 := HC2.step hb3
  clear ho3 hb3
  (try go_wp2_with fail)
  refine hK.out _ _ HC3 (fun hHeld => ?_)
  clear hK K
  (try simp only [Act.put, List.getElem_toArray, List.getElem_cons_zero, List.getElem_cons_succ, List.setIfInBounds_toArray, List.set_cons_zero, List.set_cons_succ])
  refine wpAnyH_ready (rs := [7]) (by kernel_rfl) (by simp) ?_
  refine AllReadyH.cons rfl (fun K hK => ?_) AllReadyH.nil
  (try simp only [List.getElem_toArray, List.getElem_cons_zero, List.getElem_cons_succ])
  go_simp
  refine (copy_any i.B i.s.length i.d 0 i.s _ (by exact HK.out.s.step BL3.out) (by omega)).mono ?_
  rintro e w4 ⟨A4, c4, rfl, ho4, hb4⟩
  have O4 := Lib.hid (And.intro (O3.out.below hb4) (ho4.base_le BL3.out.size))
  have BL4 := Lib.hid (bel_next BL3.out hb4)
  have HP4 := Lib.hid (HP3.out.step hb4)
  have HC4 := HC3.step hb4
  clear ho4 hb4
  (try go_wp2_with fail)
  refine hK.out _ _ HC4 (fun hHeld => ?_)
  clear hK K
  (try simp only [Act.put, List.getElem_toArray, List.getElem_cons_zero, List.getElem_cons_succ, List.setIfInBounds_toArray, List.set_cons_zero, List.set_cons_succ])
  refine wpAnyH_take (i := 8) (v := ?v8_7) rfl (by kernel_rfl) (by kernel_rfl) (by kernel_rfl) (fun _ _ _ h => h) (Or.inl ⟨by rfl, ?hy8_7⟩) hHeld ?_
  case hy8_7 => (intro w hSw; (try dsimp only at hSw); have q0 := hSw.c0; have q1 := hSw.c1; have q2 := hSw.c2; (try simp only [List.getElem_toArray, List.getElem_cons_zero, List.getElem_cons_succ]); go_simp <;> with_reducible rfl)
  (try simp only [Act.put, List.getElem_toArray, List.getElem_cons_zero, List.getElem_cons_succ, List.setIfInBounds_toArray, List.set_cons_zero, List.set_cons_succ])
  obtain ⟨J, HV⟩ : ∃ J : Fd, Hid (J = ⟨i.e, A3, c3, i.o, A4, c4, i.s⟩) := ⟨_, Lib.hid rfl⟩
  have e9 : J.val = .agg #[.int .u64 (i.e : Int), .slice A3 i.o.length c3, .slice A4 i.s.length c4] := by rw [HV.out]; rfl
  have hpl : J.tk = i.tk := by rw [HV.out]; rfl
  have own9 : J.own w4 w.heap.size := by rw [HV.out]; exact ⟨HK.out.e, O4.out.1, O4.out.2⟩
  have HO9 := Lib.hid (And.intro hpl own9)
  have qs := HP4.out.st rt_rtk J
  have E9 := Lib.hid e9
  rw [e9] at qs
  clear hpl own9 e9
  refine wpAnyH_ready (rs := [9]) (by kernel_rfl) (by simp) ?_
  refine AllReadyH.cons rfl (fun K hK => ?_) AllReadyH.nil
  (try simp only [List.getElem_toArray, List.getElem_cons_zero, List.getElem_cons_succ])
  go_simp
  refine hK.out _ _ (HC4.oth (oth_setCells p _ _ _ _ (Oth.refl _ _)) (by simpa using hpq.symm)) (fun hHeld => ?_)
  clear hK K
  (try simp only [Act.put, List.getElem_toArray, List.getElem_cons_zero, List.getElem_cons_succ, List.setIfInBounds_toArray, List.set_cons_zero, List.set_cons_succ])
  refine wpAnyH_done (by kernel_rfl) ?_ _
  go_wp2_with fail
  have hX : Oth [p] w4 (w4.setCells p 0 J.cells) := oth_setCells p _ _ _ _ (Oth.refl _ _)
  have hnp : NoB [p] w4 := HP4.out.blk.nob (by decide)
  exact bodyPost_ret (v := J.val) (res_rec rt_rtk rfl _ _ p J.cells rfl (HP4.out.whole _) rfl) rfl ⟨J, rfl, HO9.out.1, HO9.out.2.off hX hnp, BL4.out.trans (hX.below (fun j hj => by rw [List.mem_singleton.1 hj]; exact LP.out) BL4.out.size)⟩
/-- What Text's walk carries: the writer x, its bytes at A, the fields' box q. -/
structure TB (v : World) (x q : Nat) (A : Option Addr) (f : Fd) (s : Int × List UInt8) (w : World) : Prop where
  bel : Below v.heap.size v w
  lx : v.heap.size ≤ x
  wr : WrR w x v.heap.size A s
  fd : Fc 25 w q f
section
variable {v w w' : World} {x q n : Nat} {A B : Option Addr} {f : Fd} {s s' : Int × List UInt8} {e : Ending} {val : Value} {l : List UInt8}
theorem TB.step (k : TB v x q A f s w) (hb : Below w.heap.size w w') : TB v x q A f s w' := ⟨bel_next k.bel hb, k.lx, k.wr.step hb, k.fd.step hb⟩
theorem TB.away (k : TB v x q A f s w) (r : RB v v.heap.size B n l) : 0 < n → ∀ g o, B = some ⟨g, o, none⟩ → g ∉ blkO A := fun hn g o e hg => by
  obtain ⟨g', o', e', h1, _⟩ := r.2 hn
  rw [e] at e'
  injection e' with e'
  injection e' with e1
  subst e1
  have h2 := (k.wr.own g hg).2.1
  omega
theorem TB.ret (k : TB v x q A f s w) (r : RetW WrR x v.heap.size A s' val w e w') : e = .returned val ∧ ∃ A', TB v x q A' f s' w' := by
  obtain ⟨he, A', h1, h2, h3⟩ := r
  refine ⟨he, A', k.bel.trans (h2.below (fun j hj => ?_) k.bel.size), k.lx, h3, k.fd.oth h2 (fun hm => ?_)⟩
  · rcases List.mem_cons.1 hj with rfl | hj
    · exact k.lx
    · exact (k.wr.own j hj).2.1
  · rcases List.mem_cons.1 hm with e1 | hm
    · obtain ⟨n, c, t, _⟩ := k.wr
      exact k.fd.nex t (by decide) e1
    · obtain ⟨a, ea, hk⟩ := mem_blkO hm
      obtain ⟨n, c, _, t⟩ := k.wr
      exact (k.fd.blk.nob (by decide)).own t a.block 0 (by rw [ea]; exact congrArg some (t.spot a ea).1) (by simp [hk])
end
theorem putN_8 (v : Nat) (hv : v < 2 ^ 64) : putN v 8 = (putL v 8, 0) := by
  have hd : downL v 8 = 0 := by show v / 256 / 256 / 256 / 256 / 256 / 256 / 256 / 256 = 0; omega
  unfold putN
  exact if_pos ⟨by decide, by decide, hd⟩
theorem shortP_l (p : List UInt8) (h : p.length ≤ 255) : shortP p = (lenL p, 0) := by unfold shortP; exact if_neg (by omega)
set_option maxRecDepth 100000 in
set_option maxHeartbeats 4000000 in
theorem text_long (f : Fd) (w : World) (hf : f.ok w) (hl : 20 < f.o.length ∨ 20 < f.s.length) :
    Calls Tryz.prog 11 #[f.val] w (RetBE 0 [] 15 w) := by
  have HF := Lib.hid hf
  have HL := Lib.hid hl
  clear hf hl
  go_enter Tryz.func11, Tryz.ntmps11
  go_wp2_with (first
    | (with_reducible show wpList _ _ _ (⟨_, .box _ (.tmp 0), _, _, _, none⟩ :: _) _ _; refine wpList_boxF rfl _ (.tmp 0) rfl f rfl ?_; intro w1 q hc1 hb1 hx1; have H1 := Lib.hid (And.intro hc1 hb1); clear hc1 hb1 hx1)
    | (refine wpList_ldF rt_tk rfl (.tmp 1) rfl q rfl f (by exact H1.out.1) ?_))
  refine (toolong20_any f w1 (by exact HF.out.step H1.out.2) true (decide_eq_true HL.out)).mono ?_
  rintro e w2 ⟨rfl, hb⟩
  have B2 := Lib.hid (bel_next H1.out.2 hb)
  clear hb
  go_wp2_with fail
  go_ret2
  exact ⟨none, 0, rfl, OwnB.nil_ _ _, B2.out⟩
set_option maxRecDepth 100000 in
set_option maxHeartbeats 4000000 in
theorem text_few20 (f : Fd) (w : World) (hf : f.ok w) (hl : f.tk.few) :
    Calls Tryz.prog 11 #[f.val] w (RetBE (10 + f.o.length + f.s.length) (rawT f.tk) 0 w) := by
  have HF := Lib.hid hf
  have l1 : f.o.length ≤ 20 := hl.1
  have l2 : f.s.length ≤ 20 := hl.2
  have hp1 : putS (putN f.e 8).1 (putN f.e 8).2 (0, []) = (0, putL f.e 8) := by rw [putN_8 _ hf.e, putS_0]; rfl
  have hp2 : putS (shortP f.o).1 (shortP f.o).2 (0, putL f.e 8) = (0, putL f.e 8 ++ lenL f.o) := by rw [shortP_l _ (by omega), putS_0]
  have hp3 : putS (shortP f.s).1 (shortP f.s).2 (0, putL f.e 8 ++ lenL f.o) = (0, rawT f.tk) := by rw [shortP_l _ (by omega), putS_0]; unfold rawT; rw [List.append_assoc]; rfl
  have P1 := Lib.hid hp1
  have P2 := Lib.hid hp2
  have P3 := Lib.hid hp3
  have PL8 : Hid ((putL f.e 8).length ≤ 10) := Lib.hid (by rw [putL_len]; omega)
  have PL9 : Hid ((putL f.e 8 ++ lenL f.o).length ≤ 100) := Lib.hid (by rw [List.length_append, putL_len]; unfold lenL; rw [List.length_cons]; omega)
  have HRL : Hid ((rawT f.tk).length = 10 + f.o.length + f.s.length) := Lib.hid (rawT_len f.tk)
  have he64 := hf.e
  have HE64 : Hid (f.e ≤ 18446744073709551615) := Lib.hid (by omega)
  clear hf hl hp1 hp2 hp3 he64
  obtain ⟨R, HR⟩ : ∃ R, Hid (rawT f.tk = R) := ⟨_, Lib.hid rfl⟩
  rw [HR.out] at P3 HRL ⊢
  go_enter Tryz.func11, Tryz.ntmps11
  go_wp2_with (first
    | (with_reducible show wpList _ _ _ (⟨_, .box _ (.tmp 0), _, _, _, none⟩ :: _) _ _; refine wpList_boxF rfl _ (.tmp 0) rfl f rfl ?_; intro w1 q hc1 hb1 hx1; have H1 := Lib.hid (And.intro hc1 hb1); clear hc1 hb1 hx1)
    | (refine wpList_ldF rt_tk rfl (.tmp 1) rfl q rfl f (by exact H1.out.1) ?_))
  refine (toolong20_any f w1 (by exact HF.out.step H1.out.2) false (decide_eq_false (by omega))).mono ?_
  rintro e w2 ⟨rfl, hb⟩
  have B2 := Lib.hid (bel_next H1.out.2 hb)
  have C2 := Lib.hid (H1.out.1.step hb)
  clear hb H1
  go_wp2_with fail
  have HCD : Fc 25 w2.drew q f := C2.out
  refine wp_region_held_drew (S := fun w' => Fc 25 w' q f) (by kernel_rfl) HCD (fun hHeld => ?_)
  (try dsimp only at hHeld)
  refine wpAnyH_take (i := 1) (v := ?v1_8) rfl (by kernel_rfl) (by kernel_rfl) (by kernel_rfl) (fun _ _ _ h => h) (Or.inl ⟨by rfl, ?hy1_8⟩) hHeld ?_
  case hy1_8 => (intro w hSw; (try dsimp only at hSw); have q0 := hSw.c0; have q1 := hSw.c1; have q2 := hSw.c2; (try simp only [List.getElem_toArray, List.getElem_cons_zero, List.getElem_cons_succ]); go_simp <;> with_reducible rfl)
  (try simp only [Act.put, List.getElem_toArray, List.getElem_cons_zero, List.getElem_cons_succ, List.setIfInBounds_toArray, List.set_cons_zero, List.set_cons_succ])
  refine wpAnyH_take (i := 2) (v := ?v2_9) rfl (by kernel_rfl) (by kernel_rfl) (by kernel_rfl) (fun _ _ _ h => h) (Or.inl ⟨by rfl, ?hy2_9⟩) hHeld ?_
  case hy2_9 => (intro w hSw; (try dsimp only at hSw); have q0 := hSw.c0; have q1 := hSw.c1; have q2 := hSw.c2; (try simp only [List.getElem_toArray, List.getElem_cons_zero, List.getElem_cons_succ]); go_simp <;> with_reducible rfl)
  (try simp only [Act.put, List.getElem_toArray, List.getElem_cons_zero, List.getElem_cons_succ, List.setIfInBounds_toArray, List.set_cons_zero, List.set_cons_succ])
  refine wpAnyH_take (i := 4) (v := ?v4_10) rfl (by kernel_rfl) (by kernel_rfl) (by kernel_rfl) (fun _ _ _ h => h) (Or.inl ⟨by rfl, ?hy4_10⟩) hHeld ?_
  case hy4_10 => (intro w hSw; (try dsimp only at hSw); have q0 := hSw.c0; have q1 := hSw.c1; have q2 := hSw.c2; (try simp only [List.getElem_toArray, List.getElem_cons_zero, List.getElem_cons_succ]); go_simp <;> with_reducible rfl)
  (try simp only [Act.put, List.getElem_toArray, List.getElem_cons_zero, List.getElem_cons_succ, List.setIfInBounds_toArray, List.set_cons_zero, List.set_cons_succ])
  refine wpAnyH_take (i := 5) (v := ?v5_11) rfl (by kernel_rfl) (by kernel_rfl) (by kernel_rfl) (fun _ _ _ h => h) (Or.inl ⟨by rfl, ?hy5_11⟩) hHeld ?_
  case hy5_11 => (intro w hSw; (try dsimp only at hSw); have q0 := hSw.c0; have q1 := hSw.c1; have q2 := hSw.c2; (try simp only [List.getElem_toArray, List.getElem_cons_zero, List.getElem_cons_succ]); go_simp <;> with_reducible rfl)
  (try simp only [Act.put, List.getElem_toArray, List.getElem_cons_zero, List.getElem_cons_succ, List.setIfInBounds_toArray, List.set_cons_zero, List.set_cons_succ])
  refine wpAnyH_take (i := 7) (v := ?v7_12) rfl (by kernel_rfl) (by kernel_rfl) (by kernel_rfl) (fun _ _ _ h => h) (Or.inl ⟨by rfl, ?hy7_12⟩) hHeld ?_
  case hy7_12 => (intro w hSw; (try dsimp only at hSw); have q0 := hSw.c0; have q1 := hSw.c1; have q2 := hSw.c2; (try simp only [List.getElem_toArray, List.getElem_cons_zero, List.getElem_cons_succ]); go_simp <;> with_reducible rfl)
  (try simp only [Act.put, List.getElem_toArray, List.getElem_cons_zero, List.getElem_cons_succ, List.setIfInBounds_toArray, List.set_cons_zero, List.set_cons_succ])
  refine wpAnyH_take (i := 8) (v := ?v8_13) rfl (by kernel_rfl) (by kernel_rfl) (by kernel_rfl) (fun _ _ _ h => h) (Or.inl ⟨by rfl, ?hy8_13⟩) hHeld ?_
  case hy8_13 => (intro w hSw; (try dsimp only at hSw); have q0 := hSw.c0; have q1 := hSw.c1; have q2 := hSw.c2; (try simp only [List.getElem_toArray, List.getElem_cons_zero, List.getElem_cons_succ]); go_simp <;> with_reducible rfl)
  (try simp only [Act.put, List.getElem_toArray, List.getElem_cons_zero, List.getElem_cons_succ, List.setIfInBounds_toArray, List.set_cons_zero, List.set_cons_succ])
  refine wpAnyH_ready (rs := [0]) (by kernel_rfl) (by simp) ?_
  refine AllReadyH.cons rfl (fun K hK => ?_) AllReadyH.nil
  (try simp only [List.getElem_toArray, List.getElem_cons_zero, List.getElem_cons_succ])
  go_simp
  refine (write_any _ w.heap.size (by exact B2.out.size)).mono ?_
  rintro e w3 ⟨x, rfl, hx, hb3, hw⟩
  have K3 : Hid (TB w x q none f (0, []) w3) := Lib.hid ⟨B2.out.trans (((Below.refl w2.heap.size w2).drew.trans hb3).mono B2.out.size), Nat.le_trans B2.out.size hx, hw, HCD.step hb3⟩
  clear hx hb3 hw
  (try go_wp2_with fail)
  refine hK.out _ _ K3.out.fd (fun hHeld => ?_)
  clear hK K
  (try simp only [Act.put, List.getElem_toArray, List.getElem_cons_zero, List.getElem_cons_succ, List.setIfInBounds_toArray, List.set_cons_zero, List.set_cons_succ])
  refine wpAnyH_ready (rs := [3]) (by kernel_rfl) (by simp) ?_
  refine AllReadyH.cons rfl (fun K hK => ?_) AllReadyH.nil
  (try simp only [List.getElem_toArray, List.getElem_cons_zero, List.getElem_cons_succ])
  go_simp
  refine (wnum_any x w.heap.size none f.e 8 _ _ K3.out.wr K3.out.bel.size (by simp) HE64.out).mono ?_
  rw [P1.out]
  intro e w4 k
  obtain ⟨rfl, A4, k4⟩ := K3.out.ret k
  have K4 := Lib.hid k4
  clear k k4
  (try go_wp2_with fail)
  refine hK.out _ _ K4.out.fd (fun hHeld => ?_)
  clear hK K
  (try simp only [Act.put, List.getElem_toArray, List.getElem_cons_zero, List.getElem_cons_succ, List.setIfInBounds_toArray, List.set_cons_zero, List.set_cons_succ])
  refine wpAnyH_ready (rs := [6]) (by kernel_rfl) (by simp) ?_
  refine AllReadyH.cons rfl (fun K hK => ?_) AllReadyH.nil
  (try simp only [List.getElem_toArray, List.getElem_cons_zero, List.getElem_cons_succ])
  go_simp
  refine (wshort_any x w.heap.size A4 f.A f.o.length f.c f.o _ _ K4.out.wr (HF.out.o.step K4.out.bel) (K4.out.away HF.out.o) (by omega) K4.out.bel.size (Nat.le_trans PL8.out (by omega))).mono ?_
  rw [P2.out]
  intro e w5 k
  obtain ⟨rfl, A5, k5⟩ := K4.out.ret k
  have K5 := Lib.hid k5
  clear k k5
  (try go_wp2_with fail)
  refine hK.out _ _ K5.out.fd (fun hHeld => ?_)
  clear hK K
  (try simp only [Act.put, List.getElem_toArray, List.getElem_cons_zero, List.getElem_cons_succ, List.setIfInBounds_toArray, List.set_cons_zero, List.set_cons_succ])
  refine wpAnyH_ready (rs := [9]) (by kernel_rfl) (by simp) ?_
  refine AllReadyH.cons rfl (fun K hK => ?_) AllReadyH.nil
  (try simp only [List.getElem_toArray, List.getElem_cons_zero, List.getElem_cons_succ])
  go_simp
  refine (wshort_any x w.heap.size A5 f.B f.s.length f.d f.s _ _ K5.out.wr (HF.out.s.step K5.out.bel) (K5.out.away HF.out.s) (by omega) K5.out.bel.size (Nat.le_trans PL9.out (by omega))).mono ?_
  rw [P3.out]
  intro e w6 k
  obtain ⟨rfl, A6, k6⟩ := K5.out.ret k
  have K6 := Lib.hid k6
  clear k k6
  (try go_wp2_with fail)
  refine hK.out _ _ K6.out.fd (fun hHeld => ?_)
  clear hK K
  (try simp only [Act.put, List.getElem_toArray, List.getElem_cons_zero, List.getElem_cons_succ, List.setIfInBounds_toArray, List.set_cons_zero, List.set_cons_succ])
  refine wpAnyH_ready (rs := [10]) (by kernel_rfl) (by simp) ?_
  refine AllReadyH.cons rfl (fun K hK => ?_) AllReadyH.nil
  (try simp only [List.getElem_toArray, List.getElem_cons_zero, List.getElem_cons_succ])
  go_simp
  refine (wdone_any x w.heap.size A6 _ _ K6.out.wr (by show R.length ≤ _; rw [HRL.out]; omega)).mono ?_
  rw [doneS_0 R]
  rintro e w7 ⟨A7, c7, rfl, ho7, hb7⟩
  simp only [HRL.out] at ho7 ⊢
  have K7 := Lib.hid (K6.out.step hb7)
  have O7 := Lib.hid (ho7.base_le K6.out.bel.size)
  clear ho7 hb7
  (try go_wp2_with fail)
  refine hK.out _ _ K7.out.fd (fun hHeld => ?_)
  clear hK K
  (try simp only [Act.put, List.getElem_toArray, List.getElem_cons_zero, List.getElem_cons_succ, List.setIfInBounds_toArray, List.set_cons_zero, List.set_cons_succ])
  refine wpAnyH_take (i := 11) (v := ?v11_14) rfl (by kernel_rfl) (by kernel_rfl) (by kernel_rfl) (fun _ _ _ h => h) (Or.inl ⟨by rfl, ?hy11_14⟩) hHeld ?_
  case hy11_14 => (intro w hSw; (try dsimp only at hSw); have q0 := hSw.c0; have q1 := hSw.c1; have q2 := hSw.c2; (try simp only [List.getElem_toArray, List.getElem_cons_zero, List.getElem_cons_succ]); go_simp <;> with_reducible rfl)
  (try simp only [Act.put, List.getElem_toArray, List.getElem_cons_zero, List.getElem_cons_succ, List.setIfInBounds_toArray, List.set_cons_zero, List.set_cons_succ])
  refine wpAnyH_take (i := 12) (v := ?v12_15) rfl (by kernel_rfl) (by kernel_rfl) (by kernel_rfl) (fun _ _ _ h => h) (Or.inl ⟨by rfl, ?hy12_15⟩) hHeld ?_
  case hy12_15 => (intro w hSw; (try dsimp only at hSw); have q0 := hSw.c0; have q1 := hSw.c1; have q2 := hSw.c2; (try simp only [List.getElem_toArray, List.getElem_cons_zero, List.getElem_cons_succ]); go_simp <;> with_reducible rfl)
  (try simp only [Act.put, List.getElem_toArray, List.getElem_cons_zero, List.getElem_cons_succ, List.setIfInBounds_toArray, List.set_cons_zero, List.set_cons_succ])
  refine wpAnyH_take (i := 13) (v := ?v13_16) rfl (by kernel_rfl) (by kernel_rfl) (by kernel_rfl) (fun _ _ _ h => h) (Or.inl ⟨by rfl, ?hy13_16⟩) hHeld ?_
  case hy13_16 => (intro w hSw; (try dsimp only at hSw); have q0 := hSw.c0; have q1 := hSw.c1; have q2 := hSw.c2; (try simp only [List.getElem_toArray, List.getElem_cons_zero, List.getElem_cons_succ]); go_simp <;> with_reducible rfl)
  (try simp only [Act.put, List.getElem_toArray, List.getElem_cons_zero, List.getElem_cons_succ, List.setIfInBounds_toArray, List.set_cons_zero, List.set_cons_succ])
  refine wpAnyH_take (i := 14) (v := ?v14_17) rfl (by kernel_rfl) (by kernel_rfl) (by kernel_rfl) (fun _ _ _ h => h) (Or.inl ⟨by rfl, ?hy14_17⟩) hHeld ?_
  case hy14_17 => (intro w hSw; (try dsimp only at hSw); have q0 := hSw.c0; have q1 := hSw.c1; have q2 := hSw.c2; (try simp only [List.getElem_toArray, List.getElem_cons_zero, List.getElem_cons_succ]); go_simp <;> with_reducible rfl)
  (try simp only [Act.put, List.getElem_toArray, List.getElem_cons_zero, List.getElem_cons_succ, List.setIfInBounds_toArray, List.set_cons_zero, List.set_cons_succ])
  refine wpAnyH_done (by kernel_rfl) ?_ _
  go_wp2_with fail
  go_ret2
  exact ⟨A7, c7, rfl, O7.out, K7.out.bel⟩
/-- Text, whatever the fields. -/
theorem text20_any (f : Fd) (w : World) (hf : f.ok w) (M : Nat) (L : List UInt8) (E : Int) (hR : textR f.tk = (L, E)) (hM : L.length = M) :
    Calls Tryz.prog 11 #[f.val] w (RetBE M L E w) := by
  subst hM
  by_cases h : 20 < f.o.length ∨ 20 < f.s.length
  · have e : textR f.tk = ([], 15) := by unfold textR; exact if_pos h
    rw [e] at hR
    injection hR with h1 h2
    subst h1 h2
    exact text_long f w hf h
  · have hl : f.tk.few := by unfold Tk.few Fd.tk; simp only; omega
    rw [text_few hl] at hR
    injection hR with h1 h2
    subst h1 h2
    rw [rawT_len]
    exact text_few20 f w hf hl
set_option maxRecDepth 100000 in
set_option maxHeartbeats 1000000 in
theorem seq20_any (A : Option Addr) (n c : Nat) (l : List UInt8) (w : World) (h : RB w w.heap.size A n l) (hn : n ≤ 9223372036854775807) (z : Int) (b : Bool) (hv : seqT l = (z, b)) :
    Calls Tryz.prog 19 #[.slice A n c] w fun e w' => e = .returned (.tuple #[.int .i64 z, .bool b]) ∧ w = w' := by
  have hlen := h.len
  unfold seqT at hv
  rcases Nat.eq_zero_or_pos n with h0 | h0
  · subst h0
    rw [if_neg (by intro hh; exact hh.1 (List.eq_nil_of_length_eq_zero hlen))] at hv
    injection hv with h1 h2
    subst h1 h2
    go_enter Tryz.func19, Tryz.ntmps19
    go_wp2_with fail
    go_ret2
    exact ⟨rfl, rfl⟩
  · obtain ⟨g, o, rfl, hg, x, hx, hc⟩ := h.at_ h0
    rw [Nat.add_zero] at hc
    have hd : ((n : Int) == 0) = false := by rw [beq_eq_false_iff_ne]; omega
    have hf : fstT l = (x.toNat : Int) := by
      unfold fstT
      rw [List.headD_eq_head?_getD, List.head?_eq_getElem?, hx]
      rfl
    have hne : l ≠ [] := fun e => by rw [e] at hlen; simp at hlen; omega
    have hx8 := x.toNat_lt
    by_cases hq : (x.toNat : Int) > 127
    · rw [if_neg (by rw [hf]; omega)] at hv
      injection hv with h1 h2
      subst h1 h2
      have d2 : decide ((x.toNat : Int) > 127) = true := decide_eq_true hq
      clear hq hf hx h
      go_enter Tryz.func19, Tryz.ntmps19
      go_wp2_with fail
      go_ret2
      exact ⟨rfl, rfl⟩
    · rw [if_pos ⟨hne, by rw [hf]; omega⟩] at hv
      injection hv with h1 h2
      subst h1 h2
      rw [hf]
      have d2 : decide ((x.toNat : Int) > 127) = false := decide_eq_false hq
      clear hq hf hx h
      go_enter Tryz.func19, Tryz.ntmps19
      go_wp2_with fail
      go_ret2
      exact ⟨rfl, rfl⟩
theorem untext_eq {b O S : List UInt8} {N0 : Nat} {E : Int} {s1 s2 s3 s4 : Int × List UInt8} (h1 : numS 8 (0, b) = (N0, s1)) (h2 : shortS s1 = (O, s2)) (h3 : shortS s2 = (S, s3)) (h4 : endS s3 = (E, s4.2)) : untextR b = if E = 0 then (if 20 < O.length ∨ 20 < S.length then (zTk, 10) else (⟨N0, O, S⟩, 0)) else (zTk, E) := by
  unfold untextR
  simp only [h1, h2, h3, h4]
/-- What Untext's walk keeps besides: the result's variable rc. -/
structure UB (v : World) (rc x : Nat) (s : Int × List UInt8) (w : World) : Prop where
  bel : Below v.heap.size v w
  lr : v.heap.size ≤ rc
  lx : v.heap.size ≤ x
  rc : Fc 25 w rc zeroF
  rd : RdR w x s
section
variable {v w w' : World} {rc x : Nat} {s s' : Int × List UInt8} {f : Fd}
theorem UB.step (k : UB v rc x s w) (hb : Below w.heap.size w w') : UB v rc x s w' := ⟨bel_next k.bel hb, k.lr, k.lx, k.rc.step hb, k.rd.step hb⟩
theorem Fc.nerd {y : Nat} (h : Fc 25 w y f) (k : RdR w x s) : y ≠ x := by obtain ⟨A, n, c, t, _⟩ := k; exact h.nex t (by decide)
theorem UB.call (k : UB v rc x s w) (ho : Oth [x] w w') (hr : RdR w' x s') : UB v rc x s' w' :=
  ⟨k.bel.trans (ho.below (fun j hj => by rw [List.mem_singleton.1 hj]; exact k.lx) k.bel.size), k.lr, k.lx, k.rc.oth ho (by simpa using k.rc.nerd k.rd), hr⟩
end
set_option maxRecDepth 100000 in
set_option maxHeartbeats 4000000 in
theorem untext20_any (A : Option Addr) (n c : Nat) (l : List UInt8) (w : World) (hr0 : RB w w.heap.size A n l) (hn : n ≤ 1000000) :
    Calls Tryz.prog 15 #[.slice A n c] w (RetTk (untextR l) w) := by
  have H0 := Lib.hid hr0
  clear hr0
  obtain ⟨⟨N0, s1⟩, h1⟩ : ∃ r, numS 8 (0, l) = r := ⟨_, rfl⟩
  obtain ⟨⟨O, s2⟩, h2⟩ : ∃ r, shortS s1 = r := ⟨_, rfl⟩
  obtain ⟨⟨S, s3⟩, h3⟩ : ∃ r, shortS s2 = r := ⟨_, rfl⟩
  obtain ⟨⟨E, s4⟩, h4⟩ : ∃ r, endS s3 = r := ⟨_, rfl⟩
  have HX := Lib.hid (untext_eq (s4 := (0, s4)) h1 h2 h3 h4)
  have HN0 : Hid (N0 < 2 ^ 64) := Lib.hid (by have := numS_lt 8 (0, l); rw [h1] at this; exact this)
  have S1 := Lib.hid h1
  have S2 := Lib.hid h2
  have S3 := Lib.hid h3
  have S4 := Lib.hid h4
  clear h1 h2 h3 h4
  obtain ⟨X, HXX⟩ : ∃ X, Hid (untextR l = X) := ⟨_, Lib.hid rfl⟩
  rw [HXX.out] at HX ⊢
  go_enter Tryz.func15, Tryz.ntmps15
  go_wp2_with (first
    | (with_reducible show wpList _ _ _ (⟨some 2, .alloc _, _, _, _, none⟩ :: _) _ _; refine wpList_newF rt_tk rfl rfl ?_; intro w1 rc hc1 hb1 hx1; have H1 := Lib.hid (And.intro hc1 (And.intro hb1 hx1)); clear hc1 hb1 hx1))
  refine (read_any A n c l w1 (by exact H0.out.step H1.out.2.1) hn).mono ?_
  rintro e w2 ⟨x, rfl, hx, hb, hr⟩
  have K2 : Hid (UB w rc x (0, l) w2) := Lib.hid ⟨bel_next H1.out.2.1 hb, H1.out.2.2, Nat.le_trans H1.out.2.1.size hx, H1.out.1.step hb, hr⟩
  clear hx hb hr H1
  go_wp2_with fail
  refine (rnum_any x 8 (0, l) w2 (by exact K2.out.rd) (by decide)).mono ?_
  rw [S1.out]
  rintro e w3 ⟨rfl, ho, hr⟩
  have K3 := Lib.hid (K2.out.call ho hr)
  clear ho hr K2
  go_wp2_with fail
  refine (rshort_any x s1 w3 (by exact K3.out.rd)).mono ?_
  rw [S2.out]
  rintro e w4 ⟨A4, n4, c4, rfl, ho4, ho, hr⟩
  have K4 := Lib.hid (K3.out.call ho hr)
  have hl4 := ho4.len
  subst hl4
  have O4 := Lib.hid (ho4.base_le K3.out.bel.size)
  clear ho hr ho4 K3
  go_wp2_with fail
  refine (rshort_any x s2 w4 (by exact K4.out.rd)).mono ?_
  rw [S3.out]
  rintro e w5 ⟨A5, n5, c5, rfl, ho5, ho, hr⟩
  have K5 := Lib.hid (K4.out.call ho hr)
  have hl5 := ho5.len
  subst hl5
  obtain ⟨F, HFF⟩ : ∃ F : Fd, Hid (F = ⟨N0, A4, c4, O, A5, c5, S⟩) := ⟨_, Lib.hid rfl⟩
  have HV : Hid (F.val = .agg #[.int .u64 (N0 : Int), .slice A4 O.length c4, .slice A5 S.length c5]) := Lib.hid (by rw [HFF.out]; rfl)
  have O5 : Hid (F.own w5 w.heap.size) := Lib.hid (by rw [HFF.out]; exact ⟨HN0.out, O4.out.offS ho K4.out.rd.nob, ho5.base_le K4.out.bel.size⟩)
  have HFT : Hid (F.tk = ⟨N0, O, S⟩) := Lib.hid (by rw [HFF.out]; rfl)
  clear ho hr ho5 K4 O4
  go_wp2_with (first
    | (with_reducible show wpList _ _ _ (⟨some 5, .alloc _, _, _, _, none⟩ :: _) _ _; refine wpList_newF rt_tk rfl rfl ?_; intro w6 p hc6 hb6 hx6; have H6 := Lib.hid (And.intro hc6 (And.intro hb6 hx6)); clear hc6 hb6 hx6)
    | (refine wpList_stF rt_tk rfl (.tmp 5) (.tmp 15) rfl p rfl F zeroF (by exact HV.out.symm) (by exact H6.out.1) ?_; intro w7 hc7 ho7 hs7; have hb7 := H6.out.2.1.trans (ho7.below (fun j hj => by rw [List.mem_singleton.1 hj]; exact H6.out.2.2) H6.out.2.1.size); have K7 := Lib.hid (K5.out.step hb7); have C7 := Lib.hid hc7; have O7 := Lib.hid (O5.out.step hb7); have LP : Hid (w.heap.size ≤ p ∧ rc < p) := Lib.hid ⟨Nat.le_trans K5.out.bel.size H6.out.2.2, Nat.lt_of_lt_of_le K5.out.rc.blk.lt H6.out.2.2⟩; clear hc7 ho7 hs7 hb7 H6 K5 O5))
  refine (end_any x s3 w7 (by exact K7.out.rd)).mono ?_
  rw [S4.out]
  rintro e w8 ⟨rfl, ho, hr⟩
  have C8 := Lib.hid (C7.out.oth ho (by simpa using C7.out.nerd K7.out.rd))
  have K8 := Lib.hid (K7.out.call ho hr)
  have O8 := Lib.hid (O7.out.off ho K7.out.rd.nob)
  clear ho hr K7 C7 O7
  by_cases hE : E = 0
  rotate_left
  · have hb : (E != 0) = true := by simpa using hE
    have HE : Hid (X = (zTk, E)) := Lib.hid (by rw [HX.out, if_neg hE])
    go_wp2_with (first
      | (refine wpList_stF rt_tk rfl (.tmp 2) (.tmp 20) rfl rc rfl zeroF zeroF rfl (by exact K8.out.rc) ?_; intro w9 hc9 ho9 hs9; have H9 := Lib.hid (And.intro hc9 ho9); clear hc9 ho9 hs9))
    rw [HE.out]
    exact bodyPost_ret (v := .tuple #[zeroF.val, .int .i64 E]) (res_rec2 rt_tk rfl _ _ rc zeroF.cells _ rfl rfl H9.out.1 rfl) rfl ⟨zeroF, rfl, rfl, Fd.own.zero _ _, K8.out.bel.trans (H9.out.2.below (fun j hj => by rw [List.mem_singleton.1 hj]; exact K8.out.lr) K8.out.bel.size)⟩
  have hb : (E != 0) = false := by rw [hE]; rfl
  have HFO : Hid (F.o = O ∧ F.s = S) := Lib.hid (by rw [HFF.out]; exact ⟨rfl, rfl⟩)
  go_wp2_with (first
    | (refine wpList_ldF rt_tk rfl (.tmp 5) rfl p rfl F (by exact C8.out) ?_))
  by_cases hl : 20 < O.length ∨ 20 < S.length
  · have HE : Hid (X = (zTk, 10)) := Lib.hid (by rw [HX.out, if_pos hE, if_pos hl])
    refine (toolong20_any F w8 (by exact O8.out.ok) true (decide_eq_true (by rw [HFO.out.1, HFO.out.2]; exact hl))).mono ?_
    rintro e w9 ⟨rfl, hb9⟩
    have K9 := Lib.hid (K8.out.step hb9)
    clear hb9 hl
    go_wp2_with (first
      | (refine wpList_stF rt_tk rfl (.tmp 2) (.tmp 24) rfl rc rfl zeroF zeroF rfl (by exact K9.out.rc) ?_; intro wa hca hoa hsa; have HA := Lib.hid (And.intro hca hoa); clear hca hoa hsa))
    rw [HE.out]
    exact bodyPost_ret (v := .tuple #[zeroF.val, .int .i64 10]) (res_rec2 rt_tk rfl _ _ rc zeroF.cells _ rfl rfl HA.out.1 rfl) rfl ⟨zeroF, rfl, rfl, Fd.own.zero _ _, K9.out.bel.trans (HA.out.2.below (fun j hj => by rw [List.mem_singleton.1 hj]; exact K9.out.lr) K9.out.bel.size)⟩
  · have HE : Hid (X = (⟨N0, O, S⟩, 0)) := Lib.hid (by rw [HX.out, if_pos hE, if_neg hl])
    refine (toolong20_any F w8 (by exact O8.out.ok) false (decide_eq_false (by rw [HFO.out.1, HFO.out.2]; exact hl))).mono ?_
    rintro e w9 ⟨rfl, hb9⟩
    have K9 := Lib.hid (K8.out.step hb9)
    have C9 := Lib.hid (C8.out.step hb9)
    have O9 := Lib.hid (O8.out.step hb9)
    clear hb9 hl
    go_wp2_with (first
      | (refine wpList_ldF rt_tk rfl (.tmp 5) rfl p rfl F (by exact C9.out) ?_)
      | (refine wpList_stF rt_tk rfl (.tmp 2) (.tmp 25) rfl rc rfl F zeroF rfl (by exact K9.out.rc) ?_; intro wa hca hoa hsa; have HA := Lib.hid (And.intro hca hoa); clear hca hoa hsa))
    rw [HE.out]
    exact bodyPost_ret (v := .tuple #[F.val, .int .i64 0]) (res_rec2 rt_tk rfl _ _ rc F.cells _ rfl rfl HA.out.1 rfl) rfl ⟨F, rfl, HFT.out, O9.out.off HA.out.2 (K9.out.rc.blk.nob (by decide)), K9.out.bel.trans (HA.out.2.below (fun j hj => by rw [List.mem_singleton.1 hj]; exact K9.out.lr) K9.out.bel.size)⟩
end Go.Proofs.YthllaoeioddddaaGreat

/- Layer 20's reference: Text, Untext, note. Conditions: what they read can be read. -/
namespace Go.Proofs.YthllaoeioddddaaGreat
open Go.RowKit
set_option linter.unusedVariables false
set_option linter.unusedSimpArgs false
attribute [local irreducible] putS putN shortP doneS putL numS shortS endS numL
attribute [local go_sem ↓] ex_ldF ex_stF ex_ldFr ex_stFr
theorem lit1T (n : Nat) (hn : n ≤ 255) : #[Value.int .u8 (n : Int)] = (bvs [UInt8.ofNat n]).toArray := by
  simp only [bvs, bv, List.map_cons, List.map_nil, UInt8.toNat_ofNat', Array.mk.injEq, List.cons.injEq, Value.int.injEq, true_and, and_true]
  omega
theorem Fc.app {T : TypeId} {w w' : World} {x base n c : Nat} {f : Fd} {A : Option Addr} {l : List UInt8} (k : Fc T w x f) (hT : T ≠ 5) (r : OwnB w base A n c l) (ho : Oth (blkO A) w w') : Fc T w' x f := k.blk.app hT r ho
set_option maxRecDepth 100000 in
set_option maxHeartbeats 1000000 in
theorem rtext_long0 (f : Fd) (w : World) (hf : f.ok w) (h1 : 20 < f.o.length) :
    Calls Tryz.prog 12 #[f.val] w (RetBE 0 [] 15 w) := by
  have bo : f.o.length ≤ 9223372036854775807 := by have h1 := hf.co.1; have h2 := hf.co.2; unfold maxLen at h2; omega
  have bs : f.s.length ≤ 9223372036854775807 := by have h1 := hf.cs.1; have h2 := hf.cs.2; unfold maxLen at h2; omega
  have d2 : decide ((f.o.length : Int) > 20) = true := decide_eq_true (by omega)
  clear hf h1
  go_enter Tryz.func12, Tryz.ntmps12
  go_wp2_with (first
    | (with_reducible show wpList _ _ _ (⟨_, .box _ (.tmp 0), _, _, _, none⟩ :: _) _ _; refine wpList_boxF rfl _ (.tmp 0) rfl f rfl ?_; intro w1 q hc1 hb1 hx1; have B1 := Lib.hid hb1; have c1 := hc1.c1; have c2 := hc1.c2; clear hc1 hb1 hx1))
  go_ret2
  exact ⟨none, 0, rfl, OwnB.nil_ _ _, B1.out⟩
set_option maxRecDepth 100000 in
set_option maxHeartbeats 1000000 in
theorem rtext_long1 (f : Fd) (w : World) (hf : f.ok w) (h0 : f.o.length ≤ 20) (h1 : 20 < f.s.length) :
    Calls Tryz.prog 12 #[f.val] w (RetBE 0 [] 15 w) := by
  have bo : f.o.length ≤ 9223372036854775807 := by have h1 := hf.co.1; have h2 := hf.co.2; unfold maxLen at h2; omega
  have bs : f.s.length ≤ 9223372036854775807 := by have h1 := hf.cs.1; have h2 := hf.cs.2; unfold maxLen at h2; omega
  have d1 : decide ((f.o.length : Int) > 20) = false := decide_eq_false (by omega)
  have d2 : decide ((f.s.length : Int) > 20) = true := decide_eq_true (by omega)
  clear hf h1 h0
  go_enter Tryz.func12, Tryz.ntmps12
  go_wp2_with (first
    | (with_reducible show wpList _ _ _ (⟨_, .box _ (.tmp 0), _, _, _, none⟩ :: _) _ _; refine wpList_boxF rfl _ (.tmp 0) rfl f rfl ?_; intro w1 q hc1 hb1 hx1; have B1 := Lib.hid hb1; have c1 := hc1.c1; have c2 := hc1.c2; clear hc1 hb1 hx1))
  go_ret2
  exact ⟨none, 0, rfl, OwnB.nil_ _ _, B1.out⟩
set_option maxRecDepth 100000 in
set_option maxHeartbeats 4000000 in
theorem rtext_few (f : Fd) (w : World) (hf : f.ok w) (hl : f.tk.few) :
    Calls Tryz.prog 12 #[f.val] w (RetBE (10 + f.o.length + f.s.length) (rawT f.tk) 0 w) := by
  have HF := Lib.hid hf
  have l1 : f.o.length ≤ 20 := hl.1
  have l2 : f.s.length ≤ 20 := hl.2
  have d1 : decide ((f.o.length : Int) > 20) = false := decide_eq_false (by omega)
  have d2 : decide ((f.s.length : Int) > 20) = false := decide_eq_false (by omega)
  have he64 := hf.e
  have HE64 : Hid (f.e ≤ 18446744073709551615) := Lib.hid (by omega)
  have HP8 := Lib.hid (putN_8 f.e hf.e)
  have hwa : IntKind.u8.wrap (f.o.length : Int) = (f.o.length : Int) := by rw [IntKind.wrap_u8]; omega
  have hwb : IntKind.u8.wrap (f.s.length : Int) = (f.s.length : Int) := by rw [IntKind.wrap_u8]; omega
  have LA1 := Lib.hid (lit1T f.o.length (by omega))
  have LB1 := Lib.hid (lit1T f.s.length (by omega))
  obtain ⟨L0, HL0⟩ : ∃ L0, Hid (putL f.e 8 = L0) := ⟨_, Lib.hid rfl⟩
  have HLL : Hid (L0.length = 8) := Lib.hid (by rw [← HL0.out, putL_len])
  rw [HL0.out] at HP8
  clear hf hl he64
  go_enter Tryz.func12, Tryz.ntmps12
  go_wp2_with (first
    | (with_reducible show wpList _ _ _ (⟨_, .box _ (.tmp 0), _, _, _, none⟩ :: _) _ _; refine wpList_boxF rfl _ (.tmp 0) rfl f rfl ?_; intro w1 q hc1 hb1 hx1; have H1 := Lib.hid (And.intro hc1 hb1); have c0 := hc1.c0; have c1 := hc1.c1; have ch2 := hc1.c2; clear hc1 hb1 hx1))
  refine (ruput_any f.e 8 w1 HE64.out).mono ?_
  rw [HP8.out]
  rintro e w2 ⟨A2, c2, rfl, ho, hb⟩
  simp only [HLL.out] at ho ⊢
  have B2 := Lib.hid (bel_next H1.out.2 hb)
  have OL0 : Hid (OwnB w2.drew w.heap.size A2 8 c2 L0) := Lib.hid (ho.base_le H1.out.2.size).drew
  have BL0 : Hid (Below w.heap.size w w2.drew) := Lib.hid B2.out.drew
  have CL0 : Hid (Fc 32 w2.drew q f) := Lib.hid (H1.out.1.step hb.drew)
  clear ho hb B2 H1 c0 c1 ch2
  go_wp2_with fail
  refine wp_region_held_drew (S := fun w' => Fc 32 w' q f) (by kernel_rfl) CL0.out (fun hHeld => ?_)
  (try dsimp only at hHeld)
  refine wpAnyH_take (i := 0) (v := ?v0_1) rfl (by kernel_rfl) (by kernel_rfl) (by kernel_rfl) (fun _ _ _ h => h) (Or.inl ⟨by rfl, ?hy0_1⟩) hHeld ?_
  case hy0_1 => (intro w hSw; (try dsimp only at hSw); have q0 := hSw.c0; have q1 := hSw.c1; have q2 := hSw.c2; (try simp only [List.getElem_toArray, List.getElem_cons_zero, List.getElem_cons_succ]); go_simp <;> with_reducible rfl)
  (try simp only [Act.put, List.getElem_toArray, List.getElem_cons_zero, List.getElem_cons_succ, List.setIfInBounds_toArray, List.set_cons_zero, List.set_cons_succ])
  refine wpAnyH_take (i := 1) (v := ?v1_2) rfl (by kernel_rfl) (by kernel_rfl) (by kernel_rfl) (fun _ _ _ h => h) (Or.inl ⟨by rfl, ?hy1_2⟩) hHeld ?_
  case hy1_2 => (intro w hSw; (try dsimp only at hSw); have q0 := hSw.c0; have q1 := hSw.c1; have q2 := hSw.c2; (try simp only [List.getElem_toArray, List.getElem_cons_zero, List.getElem_cons_succ]); go_simp <;> with_reducible rfl)
  (try simp only [Act.put, List.getElem_toArray, List.getElem_cons_zero, List.getElem_cons_succ, List.setIfInBounds_toArray, List.set_cons_zero, List.set_cons_succ])
  refine wpAnyH_take (i := 2) (v := ?v2_3) rfl (by kernel_rfl) (by kernel_rfl) (by kernel_rfl) (fun _ _ _ h => h) (Or.inl ⟨by rfl, ?hy2_3⟩) hHeld ?_
  case hy2_3 => (intro w hSw; (try dsimp only at hSw); have q0 := hSw.c0; have q1 := hSw.c1; have q2 := hSw.c2; (try simp only [List.getElem_toArray, List.getElem_cons_zero, List.getElem_cons_succ]); go_simp <;> with_reducible rfl)
  (try simp only [Act.put, List.getElem_toArray, List.getElem_cons_zero, List.getElem_cons_succ, List.setIfInBounds_toArray, List.set_cons_zero, List.set_cons_succ])
  refine wpAnyH_take (i := 3) (v := ?v3_4) rfl (by kernel_rfl) (by kernel_rfl) (by kernel_rfl) (fun _ _ _ h => h) (Or.inl ⟨by rfl, ?hy3_4⟩) hHeld ?_
  case hy3_4 => (intro w hSw; (try dsimp only at hSw); have q0 := hSw.c0; have q1 := hSw.c1; have q2 := hSw.c2; (try simp only [List.getElem_toArray, List.getElem_cons_zero, List.getElem_cons_succ]); go_simp <;> with_reducible rfl)
  (try simp only [Act.put, List.getElem_toArray, List.getElem_cons_zero, List.getElem_cons_succ, List.setIfInBounds_toArray, List.set_cons_zero, List.set_cons_succ])
  refine wpAnyH_take (i := 4) (v := ?v4_5) rfl (by kernel_rfl) (by kernel_rfl) (by kernel_rfl) (fun _ _ _ h => h) (Or.inl ⟨by rfl, ?hy4_5⟩) hHeld ?_
  case hy4_5 => (intro w hSw; (try dsimp only at hSw); have q0 := hSw.c0; have q1 := hSw.c1; have q2 := hSw.c2; (try simp only [List.getElem_toArray, List.getElem_cons_zero, List.getElem_cons_succ]); go_simp <;> with_reducible rfl)
  (try simp only [Act.put, List.getElem_toArray, List.getElem_cons_zero, List.getElem_cons_succ, List.setIfInBounds_toArray, List.set_cons_zero, List.set_cons_succ])
  refine wpAnyH_take (i := 7) (v := ?v7_6) rfl (by kernel_rfl) (by kernel_rfl) (by kernel_rfl) (fun _ _ _ h => h) (Or.inl ⟨by rfl, ?hy7_6⟩) hHeld ?_
  case hy7_6 => (intro w hSw; (try dsimp only at hSw); have q0 := hSw.c0; have q1 := hSw.c1; have q2 := hSw.c2; (try simp only [List.getElem_toArray, List.getElem_cons_zero, List.getElem_cons_succ]); go_simp <;> with_reducible rfl)
  (try simp only [Act.put, List.getElem_toArray, List.getElem_cons_zero, List.getElem_cons_succ, List.setIfInBounds_toArray, List.set_cons_zero, List.set_cons_succ])
  refine wpAnyH_take (i := 8) (v := ?v8_7) rfl (by kernel_rfl) (by kernel_rfl) (by kernel_rfl) (fun _ _ _ h => h) (Or.inl ⟨by rfl, ?hy8_7⟩) hHeld ?_
  case hy8_7 => (intro w hSw; (try dsimp only at hSw); have q0 := hSw.c0; have q1 := hSw.c1; have q2 := hSw.c2; (try simp only [List.getElem_toArray, List.getElem_cons_zero, List.getElem_cons_succ]); go_simp <;> with_reducible rfl)
  (try simp only [Act.put, List.getElem_toArray, List.getElem_cons_zero, List.getElem_cons_succ, List.setIfInBounds_toArray, List.set_cons_zero, List.set_cons_succ])
  refine wpAnyH_ready (rs := [5]) (by kernel_rfl) (by simp) ?_
  refine AllReadyH.cons rfl (fun K hK => ?_) AllReadyH.nil
  (try simp only [List.getElem_toArray, List.getElem_cons_zero, List.getElem_cons_succ])
  go_simp
  (try rw [hwa])
  refine hK.out _ _ (CL0.out.step (below_alloc _ _)) (fun hHeld => ?_)
  clear hK K
  (try simp only [Act.put, List.getElem_toArray, List.getElem_cons_zero, List.getElem_cons_succ, List.setIfInBounds_toArray, List.set_cons_zero, List.set_cons_succ])
  refine wpAnyH_ready (rs := [6]) (by kernel_rfl) (by simp) ?_
  refine AllReadyH.cons rfl (fun K hK => ?_) AllReadyH.nil
  (try simp only [List.getElem_toArray, List.getElem_cons_zero, List.getElem_cons_succ])
  rw [if_pos (by rfl)]
  refine wp_app (.tmp 22) (.tmp 27) rfl w.heap.size _ _ _ L0 rfl (by exact (OL0.out.below (below_alloc _ (.cells #[.int .u8 (f.o.length : Int)] 5)))) _ (some ⟨w2.drew.heap.size, 0, none⟩) 1 1 [UInt8.ofNat f.o.length] rfl (by exact (RB.lit w2.drew [UInt8.ofNat f.o.length] _ 1 _ LA1.out rfl rfl)) (by omega) (by exact (bel_next BL0.out (below_alloc _ (.cells #[.int .u8 (f.o.length : Int)] 5))).size) ?_
  intro A3 k3 v3 ho hg hb
  have OL3 := Lib.hid ho
  have BL3 := Lib.hid ((bel_next BL0.out (below_alloc _ (.cells #[.int .u8 (f.o.length : Int)] 5))).trans hb)
  have CL3 : Hid (Fc 32 v3 q f) := Lib.hid (Fc.app (CL0.out.step (below_alloc _ (.cells #[.int .u8 (f.o.length : Int)] 5))) (by decide) (OL0.out.below (below_alloc _ (.cells #[.int .u8 (f.o.length : Int)] 5))) (Oth.of_grown hg))
  clear ho hg hb
  refine hK.out _ _ CL3.out (fun hHeld => ?_)
  clear hK K
  (try simp only [Act.put, List.getElem_toArray, List.getElem_cons_zero, List.getElem_cons_succ, List.setIfInBounds_toArray, List.set_cons_zero, List.set_cons_succ])
  refine wpAnyH_ready (rs := [9]) (by kernel_rfl) (by simp) ?_
  refine AllReadyH.cons rfl (fun K hK => ?_) AllReadyH.nil
  (try simp only [List.getElem_toArray, List.getElem_cons_zero, List.getElem_cons_succ])
  rw [if_pos (by rfl)]
  refine wp_app (.tmp 28) (.tmp 30) rfl w.heap.size _ _ _ (L0 ++ [UInt8.ofNat f.o.length]) rfl (by exact OL3.out) _ f.A f.o.length f.c f.o rfl (by exact (HF.out.o.below BL3.out)) (by omega) (by exact BL3.out.size) ?_
  intro A4 k4 v4 ho hg hb
  have OL4 := Lib.hid ho
  have BL4 := Lib.hid (BL3.out.trans hb)
  have CL4 : Hid (Fc 32 v4 q f) := Lib.hid (Fc.app (CL3.out) (by decide) OL3.out (Oth.of_grown hg))
  clear ho hg hb
  refine hK.out _ _ CL4.out (fun hHeld => ?_)
  clear hK K
  (try simp only [Act.put, List.getElem_toArray, List.getElem_cons_zero, List.getElem_cons_succ, List.setIfInBounds_toArray, List.set_cons_zero, List.set_cons_succ])
  refine wpAnyH_take (i := 10) (v := ?v10_8) rfl (by kernel_rfl) (by kernel_rfl) (by kernel_rfl) (fun _ _ _ h => h) (Or.inl ⟨by rfl, ?hy10_8⟩) hHeld ?_
  case hy10_8 => (intro w hSw; (try dsimp only at hSw); have q0 := hSw.c0; have q1 := hSw.c1; have q2 := hSw.c2; (try simp only [List.getElem_toArray, List.getElem_cons_zero, List.getElem_cons_succ]); go_simp <;> with_reducible rfl)
  (try simp only [Act.put, List.getElem_toArray, List.getElem_cons_zero, List.getElem_cons_succ, List.setIfInBounds_toArray, List.set_cons_zero, List.set_cons_succ])
  refine wpAnyH_done (by kernel_rfl) ?_ _
  go_wp2_with fail
  obtain ⟨m6, hm6⟩ : ∃ m6, m6 = 9 + f.o.length := ⟨_, rfl⟩
  rw [show 8 + 1 + f.o.length = m6 from by omega] at OL4 ⊢
  (try rw [← hm6])
  have bm6 : m6 ≤ 300 := by omega
  have HM6 := Lib.hid hm6
  clear hm6
  obtain ⟨L2, HL2⟩ : ∃ L2, Hid (L2 = L0 ++ [UInt8.ofNat f.o.length] ++ f.o) := ⟨_, Lib.hid rfl⟩
  rw [← HL2.out] at OL4
  have OD2 : Hid (OwnB v4.drew w.heap.size A4 m6 k4 L2) := Lib.hid OL4.out.drew
  have BD2 : Hid (Below w.heap.size w v4.drew) := Lib.hid BL4.out.drew
  have CD2 : Hid (Fc 32 v4.drew q f) := CL4
  clear OL0 BL0 CL0 OL3 BL3 CL3 OL4 BL4 CL4 hHeld
  refine wp_region_held_drew (S := fun w' => Fc 32 w' q f) (by kernel_rfl) CD2.out (fun hHeld => ?_)
  (try dsimp only at hHeld)
  refine wpAnyH_take (i := 0) (v := ?v0_9) rfl (by kernel_rfl) (by kernel_rfl) (by kernel_rfl) (fun _ _ _ h => h) (Or.inl ⟨by rfl, ?hy0_9⟩) hHeld ?_
  case hy0_9 => (intro w hSw; (try dsimp only at hSw); have q0 := hSw.c0; have q1 := hSw.c1; have q2 := hSw.c2; (try simp only [List.getElem_toArray, List.getElem_cons_zero, List.getElem_cons_succ]); go_simp <;> with_reducible rfl)
  (try simp only [Act.put, List.getElem_toArray, List.getElem_cons_zero, List.getElem_cons_succ, List.setIfInBounds_toArray, List.set_cons_zero, List.set_cons_succ])
  refine wpAnyH_take (i := 1) (v := ?v1_10) rfl (by kernel_rfl) (by kernel_rfl) (by kernel_rfl) (fun _ _ _ h => h) (Or.inl ⟨by rfl, ?hy1_10⟩) hHeld ?_
  case hy1_10 => (intro w hSw; (try dsimp only at hSw); have q0 := hSw.c0; have q1 := hSw.c1; have q2 := hSw.c2; (try simp only [List.getElem_toArray, List.getElem_cons_zero, List.getElem_cons_succ]); go_simp <;> with_reducible rfl)
  (try simp only [Act.put, List.getElem_toArray, List.getElem_cons_zero, List.getElem_cons_succ, List.setIfInBounds_toArray, List.set_cons_zero, List.set_cons_succ])
  refine wpAnyH_take (i := 2) (v := ?v2_11) rfl (by kernel_rfl) (by kernel_rfl) (by kernel_rfl) (fun _ _ _ h => h) (Or.inl ⟨by rfl, ?hy2_11⟩) hHeld ?_
  case hy2_11 => (intro w hSw; (try dsimp only at hSw); have q0 := hSw.c0; have q1 := hSw.c1; have q2 := hSw.c2; (try simp only [List.getElem_toArray, List.getElem_cons_zero, List.getElem_cons_succ]); go_simp <;> with_reducible rfl)
  (try simp only [Act.put, List.getElem_toArray, List.getElem_cons_zero, List.getElem_cons_succ, List.setIfInBounds_toArray, List.set_cons_zero, List.set_cons_succ])
  refine wpAnyH_take (i := 3) (v := ?v3_12) rfl (by kernel_rfl) (by kernel_rfl) (by kernel_rfl) (fun _ _ _ h => h) (Or.inl ⟨by rfl, ?hy3_12⟩) hHeld ?_
  case hy3_12 => (intro w hSw; (try dsimp only at hSw); have q0 := hSw.c0; have q1 := hSw.c1; have q2 := hSw.c2; (try simp only [List.getElem_toArray, List.getElem_cons_zero, List.getElem_cons_succ]); go_simp <;> with_reducible rfl)
  (try simp only [Act.put, List.getElem_toArray, List.getElem_cons_zero, List.getElem_cons_succ, List.setIfInBounds_toArray, List.set_cons_zero, List.set_cons_succ])
  refine wpAnyH_take (i := 4) (v := ?v4_13) rfl (by kernel_rfl) (by kernel_rfl) (by kernel_rfl) (fun _ _ _ h => h) (Or.inl ⟨by rfl, ?hy4_13⟩) hHeld ?_
  case hy4_13 => (intro w hSw; (try dsimp only at hSw); have q0 := hSw.c0; have q1 := hSw.c1; have q2 := hSw.c2; (try simp only [List.getElem_toArray, List.getElem_cons_zero, List.getElem_cons_succ]); go_simp <;> with_reducible rfl)
  (try simp only [Act.put, List.getElem_toArray, List.getElem_cons_zero, List.getElem_cons_succ, List.setIfInBounds_toArray, List.set_cons_zero, List.set_cons_succ])
  refine wpAnyH_take (i := 7) (v := ?v7_14) rfl (by kernel_rfl) (by kernel_rfl) (by kernel_rfl) (fun _ _ _ h => h) (Or.inl ⟨by rfl, ?hy7_14⟩) hHeld ?_
  case hy7_14 => (intro w hSw; (try dsimp only at hSw); have q0 := hSw.c0; have q1 := hSw.c1; have q2 := hSw.c2; (try simp only [List.getElem_toArray, List.getElem_cons_zero, List.getElem_cons_succ]); go_simp <;> with_reducible rfl)
  (try simp only [Act.put, List.getElem_toArray, List.getElem_cons_zero, List.getElem_cons_succ, List.setIfInBounds_toArray, List.set_cons_zero, List.set_cons_succ])
  refine wpAnyH_take (i := 8) (v := ?v8_15) rfl (by kernel_rfl) (by kernel_rfl) (by kernel_rfl) (fun _ _ _ h => h) (Or.inl ⟨by rfl, ?hy8_15⟩) hHeld ?_
  case hy8_15 => (intro w hSw; (try dsimp only at hSw); have q0 := hSw.c0; have q1 := hSw.c1; have q2 := hSw.c2; (try simp only [List.getElem_toArray, List.getElem_cons_zero, List.getElem_cons_succ]); go_simp <;> with_reducible rfl)
  (try simp only [Act.put, List.getElem_toArray, List.getElem_cons_zero, List.getElem_cons_succ, List.setIfInBounds_toArray, List.set_cons_zero, List.set_cons_succ])
  refine wpAnyH_ready (rs := [5]) (by kernel_rfl) (by simp) ?_
  refine AllReadyH.cons rfl (fun K hK => ?_) AllReadyH.nil
  (try simp only [List.getElem_toArray, List.getElem_cons_zero, List.getElem_cons_succ])
  go_simp
  (try rw [hwb])
  refine hK.out _ _ (CD2.out.step (below_alloc _ _)) (fun hHeld => ?_)
  clear hK K
  (try simp only [Act.put, List.getElem_toArray, List.getElem_cons_zero, List.getElem_cons_succ, List.setIfInBounds_toArray, List.set_cons_zero, List.set_cons_succ])
  refine wpAnyH_ready (rs := [6]) (by kernel_rfl) (by simp) ?_
  refine AllReadyH.cons rfl (fun K hK => ?_) AllReadyH.nil
  (try simp only [List.getElem_toArray, List.getElem_cons_zero, List.getElem_cons_succ])
  rw [if_pos (by rfl)]
  refine wp_app (.tmp 32) (.tmp 37) rfl w.heap.size _ _ _ L2 rfl (by exact (OD2.out.below (below_alloc _ (.cells #[.int .u8 (f.s.length : Int)] 5)))) _ (some ⟨v4.drew.heap.size, 0, none⟩) 1 1 [UInt8.ofNat f.s.length] rfl (by exact (RB.lit v4.drew [UInt8.ofNat f.s.length] _ 1 _ LB1.out rfl rfl)) (by omega) (by exact (bel_next BD2.out (below_alloc _ (.cells #[.int .u8 (f.s.length : Int)] 5))).size) ?_
  intro A5 k5 v5 ho hg hb
  have OL5 := Lib.hid ho
  have BL5 := Lib.hid ((bel_next BD2.out (below_alloc _ (.cells #[.int .u8 (f.s.length : Int)] 5))).trans hb)
  have CL5 : Hid (Fc 32 v5 q f) := Lib.hid (Fc.app (CD2.out.step (below_alloc _ (.cells #[.int .u8 (f.s.length : Int)] 5))) (by decide) (OD2.out.below (below_alloc _ (.cells #[.int .u8 (f.s.length : Int)] 5))) (Oth.of_grown hg))
  clear ho hg hb
  refine hK.out _ _ CL5.out (fun hHeld => ?_)
  clear hK K
  (try simp only [Act.put, List.getElem_toArray, List.getElem_cons_zero, List.getElem_cons_succ, List.setIfInBounds_toArray, List.set_cons_zero, List.set_cons_succ])
  refine wpAnyH_ready (rs := [9]) (by kernel_rfl) (by simp) ?_
  refine AllReadyH.cons rfl (fun K hK => ?_) AllReadyH.nil
  (try simp only [List.getElem_toArray, List.getElem_cons_zero, List.getElem_cons_succ])
  rw [if_pos (by rfl)]
  refine wp_app (.tmp 38) (.tmp 40) rfl w.heap.size _ _ _ (L2 ++ [UInt8.ofNat f.s.length]) rfl (by exact OL5.out) _ f.B f.s.length f.d f.s rfl (by exact (HF.out.s.below BL5.out)) (by omega) (by exact BL5.out.size) ?_
  intro A6 k6 v6 ho hg hb
  have OL6 := Lib.hid ho
  have BL6 := Lib.hid (BL5.out.trans hb)
  have CL6 : Hid (Fc 32 v6 q f) := Lib.hid (Fc.app (CL5.out) (by decide) OL5.out (Oth.of_grown hg))
  clear ho hg hb
  refine hK.out _ _ CL6.out (fun hHeld => ?_)
  clear hK K
  (try simp only [Act.put, List.getElem_toArray, List.getElem_cons_zero, List.getElem_cons_succ, List.setIfInBounds_toArray, List.set_cons_zero, List.set_cons_succ])
  refine wpAnyH_take (i := 10) (v := ?v10_16) rfl (by kernel_rfl) (by kernel_rfl) (by kernel_rfl) (fun _ _ _ h => h) (Or.inl ⟨by rfl, ?hy10_16⟩) hHeld ?_
  case hy10_16 => (intro w hSw; (try dsimp only at hSw); have q0 := hSw.c0; have q1 := hSw.c1; have q2 := hSw.c2; (try simp only [List.getElem_toArray, List.getElem_cons_zero, List.getElem_cons_succ]); go_simp <;> with_reducible rfl)
  (try simp only [Act.put, List.getElem_toArray, List.getElem_cons_zero, List.getElem_cons_succ, List.setIfInBounds_toArray, List.set_cons_zero, List.set_cons_succ])
  refine wpAnyH_take (i := 11) (v := ?v11_17) rfl (by kernel_rfl) (by kernel_rfl) (by kernel_rfl) (fun _ _ _ h => h) (Or.inl ⟨by rfl, ?hy11_17⟩) hHeld ?_
  case hy11_17 => (intro w hSw; (try dsimp only at hSw); have q0 := hSw.c0; have q1 := hSw.c1; have q2 := hSw.c2; (try simp only [List.getElem_toArray, List.getElem_cons_zero, List.getElem_cons_succ]); go_simp <;> with_reducible rfl)
  (try simp only [Act.put, List.getElem_toArray, List.getElem_cons_zero, List.getElem_cons_succ, List.setIfInBounds_toArray, List.set_cons_zero, List.set_cons_succ])
  refine wpAnyH_done (by kernel_rfl) ?_ _
  go_wp2_with fail
  go_ret2
  have eL : L2 ++ [UInt8.ofNat f.s.length] ++ f.s = rawT f.tk := by
    rw [HL2.out, ← HL0.out]
    unfold rawT lenL
    simp [Fd.tk]
  have O6 := OL6.out
  rw [eL] at O6
  rw [show m6 + 1 + f.s.length = 10 + f.o.length + f.s.length by rw [HM6.out]; omega] at O6 ⊢
  exact ⟨A6, k6, rfl, O6, BL6.out⟩
theorem rtext20_any (f : Fd) (w : World) (hf : f.ok w) (M : Nat) (L : List UInt8) (E : Int) (hR : textR f.tk = (L, E)) (hM : L.length = M) :
    Calls Tryz.prog 12 #[f.val] w (RetBE M L E w) := by
  subst hM
  by_cases h : 20 < f.o.length ∨ 20 < f.s.length
  · have e : textR f.tk = ([], 15) := by unfold textR; exact if_pos h
    rw [e] at hR
    injection hR with h1 h2
    subst h1 h2
    by_cases h0 : 20 < f.o.length
    · exact rtext_long0 f w hf h0
    · exact rtext_long1 f w hf (by omega) (by omega)
  · have hl : f.tk.few := by unfold Tk.few Fd.tk; simp only; omega
    rw [text_few hl] at hR
    injection hR with h1 h2
    subst h1 h2
    rw [rawT_len]
    exact rtext_few f w hf hl
set_option maxRecDepth 100000 in
set_option maxHeartbeats 1000000 in
theorem rnote_any (Q : Nat) (hQ : Q ≤ 255) (A : Option Addr) (n c : Nat) (l : List UInt8) (w : World) (h : RB w w.heap.size A n l) (hn : n ≤ 1000000) :
    Calls Tryz.prog 52 #[.int .i64 (Q : Int), .slice A n c] w fun e w' => ∃ A' c', e = .returned (.slice A' (1 + n) c') ∧ OwnB w' w.heap.size A' (1 + n) c' (noteT (Q : Int) l) ∧ Below w.heap.size w w' := by
  have hw8 : IntKind.u8.wrap (Q : Int) = (Q : Int) := by rw [IntKind.wrap_u8]; omega
  have HL1 := Lib.hid (lit1T Q hQ)
  have H := Lib.hid h
  clear h
  go_enter Tryz.func52, Tryz.ntmps52
  go_wp2_with (first
    | (at_builtin; refine wpList_app rfl (.tmp 7) (.tmp 8) rfl w.heap.size _ 1 1 [UInt8.ofNat Q] rfl (by exact OwnB.lit w _ [UInt8.ofNat Q] _ 1 HL1.out rfl (by unfold maxLen; omega) (Nat.le_refl _)) w.heap.size A n c l rfl (by exact H.out.alloc (Nat.le_refl _) _) (by omega) (by simp) ?_; intro A1 c1 w1 ho _ hb; have O1 := Lib.hid ho; have B1 := Lib.hid (((Below.refl _ _).alloc (Nat.le_refl _) _).trans hb); clear ho hb))
  go_ret
  exact ⟨A1, c1, rfl, O1.out, B1.out⟩
theorem bld_rtk1 (e : Nat) (W : World) : (Instr.build 32 #[(0, .int .u64 (e : Int))]).run Tryz.prog W = .ok (.agg #[.int .u64 (e : Int), .slice none 0 0, .slice none 0 0]) W := by
  go_simp <;> rfl
theorem wpList_bldF1 {w : World} {ops : Array Oper} {rest : List Oper} {o : Oper} {a : Act} {Q : Exit → Act → World → Prop} (hgd : o.guard = none) (x : Operand) (hop : o.op = .build 32 #[(0, x)]) (e : Nat) (hx : a.eval x = .int .u64 (e : Int))
    (hk : wpList Tryz.prog ops Q rest (a.put o.dst (Fd.val ⟨e, none, 0, [], none, 0, []⟩)) w) : wpList Tryz.prog ops Q (o :: rest) a w := by
  refine wpList_plain hgd fun K hK => ?_
  have hr := bld_rtk1 e w
  unfold Oper.wp execOp
  simp only [hop, List.map_toArray, List.map_cons, List.map_nil, hx, Sem.run_bind, hr, Result.andThen_ok]
  exact hK _ _ hk
theorem RdQ.of_new {w : World} {x n c : Nat} {A : Option Addr} {l : List UInt8} (k : Blk 81 w x [.slice A n c, .int .i64 0]) (h : RB w w.heap.size A n l) (h3 : n ≤ c ∧ c ≤ maxLen ∧ n ≤ 1000000) : RdQ w x (0, l) := ⟨A, n, c, k, h, h3⟩
structure UQ (v : World) (rc x : Nat) (s : Int × List UInt8) (w : World) : Prop where
  bel : Below v.heap.size v w
  lr : v.heap.size ≤ rc
  lx : v.heap.size ≤ x
  rc : Fc 32 w rc zeroF
  rd : RdQ w x s
section
variable {v w w' : World} {rc x : Nat} {s s' : Int × List UInt8} {f : Fd}
theorem UQ.step (k : UQ v rc x s w) (hb : Below w.heap.size w w') : UQ v rc x s w' := ⟨bel_next k.bel hb, k.lr, k.lx, k.rc.step hb, k.rd.step hb⟩
theorem Fc.nerq {y : Nat} (h : Fc 32 w y f) (k : RdQ w x s) : y ≠ x := by obtain ⟨A, n, c, t, _⟩ := k; exact h.nex t (by decide)
theorem UQ.call (k : UQ v rc x s w) (ho : Oth [x] w w') (hr : RdQ w' x s') : UQ v rc x s' w' :=
  ⟨k.bel.trans (ho.below (fun j hj => by rw [List.mem_singleton.1 hj]; exact k.lx) k.bel.size), k.lr, k.lx, k.rc.oth ho (by simpa using k.rc.nerq k.rd), hr⟩
/-- Fields hold no bytes. -/
theorem Fc.far {T : TypeId} {p B n : Nat} {A : Option Addr} {l : List UInt8} (h : Fc T w p f) (r : RB w B A n l) (hn : 0 < n) : ∀ g o, A = some ⟨g, o, none⟩ → g ∉ [p] := by
  intro g o e hg
  obtain rfl : g = p := by simpa using hg
  obtain ⟨g', o', e', _, u, _, hc⟩ := r.at_ (k := 0) hn
  rw [e] at e'
  injection e' with e'
  injection e' with e1 e2
  subst e1
  rw [h.blk.cell, Nat.add_zero] at hc
  rcases o' with _ | _ | _ | k
  · simp [Fd.cells, bv] at hc
  · simp [Fd.cells, bv] at hc
  · simp [Fd.cells, bv] at hc
  · simp [Fd.cells] at hc
/-- A store into fields of the walk's own. -/
theorem RdQ.off {T : TypeId} {p : Nat} (h : RdQ w x s) (hp : Fc T w p f) (ho : Oth [p] w w') (hx : x ∉ [p]) : RdQ w' x s := by
  obtain ⟨A, n, c, h1, h2, h3⟩ := h
  exact ⟨A, n, c, h1.oth ho hx, h2.oth ho (hp.far h2), h3⟩
theorem UQ.put {p : Nat} (k : UQ v rc x s w) (h : Fc 32 w p f) (hp : v.heap.size ≤ p) (hne : p ≠ rc) (ho : Oth [p] w w') : UQ v rc x s w' :=
  ⟨k.bel.trans (ho.below (fun j hj => by rw [List.mem_singleton.1 hj]; exact hp) k.bel.size), k.lr, k.lx, k.rc.oth ho (by simpa using Ne.symm hne), k.rd.off h ho (by simpa using Ne.symm (h.nerq k.rd))⟩
end
set_option maxRecDepth 100000 in
set_option maxHeartbeats 4000000 in
theorem runtext20_any (A : Option Addr) (n c : Nat) (l : List UInt8) (w : World) (hr0 : RB w w.heap.size A n l) (hn : n ≤ 1000000) (hc : n ≤ c ∧ c ≤ maxLen) :
    Calls Tryz.prog 16 #[.slice A n c] w (RetTk (untextR l) w) := by
  have H0 := Lib.hid (And.intro hr0 (And.intro hc.1 (And.intro hc.2 hn)))
  clear hr0 hc hn
  obtain ⟨⟨N0, s1⟩, h1⟩ : ∃ r, numS 8 (0, l) = r := ⟨_, rfl⟩
  obtain ⟨⟨O, s2⟩, h2⟩ : ∃ r, shortS s1 = r := ⟨_, rfl⟩
  obtain ⟨⟨S, s3⟩, h3⟩ : ∃ r, shortS s2 = r := ⟨_, rfl⟩
  obtain ⟨⟨E, s4⟩, h4⟩ : ∃ r, endS s3 = r := ⟨_, rfl⟩
  have HX := Lib.hid (untext_eq (s4 := (0, s4)) h1 h2 h3 h4)
  have HN0 : Hid (N0 < 2 ^ 64) := Lib.hid (by have := numS_lt 8 (0, l); rw [h1] at this; exact this)
  have S1 := Lib.hid h1
  have S2 := Lib.hid h2
  have S3 := Lib.hid h3
  have S4 := Lib.hid h4
  clear h1 h2 h3 h4
  obtain ⟨X, HXX⟩ : ∃ X, Hid (untextR l = X) := ⟨_, Lib.hid rfl⟩
  rw [HXX.out] at HX ⊢
  go_enter Tryz.func16, Tryz.ntmps16
  go_wp2_with (first
    | (with_reducible show wpList _ _ _ (⟨some 2, .alloc _, _, _, _, none⟩ :: _) _ _; refine wpList_newF rt_rtk rfl rfl ?_; intro w1 rc hc1 hb1 hx1; have H1 := Lib.hid (And.intro hc1 (And.intro hb1 hx1)); clear hc1 hb1 hx1)
    | (with_reducible show wpList _ _ _ (⟨some 9, .box _ _, _, _, _, none⟩ :: _) _ _; refine wpList_boxB rfl 81 (.tmp 8) rfl [.slice A n c, .int .i64 0] rfl ?_; intro w2 x k2 hb2 hx2; have K2 : Hid (UQ w rc x (0, l) w2) := Lib.hid ⟨bel_next H1.out.2.1 hb2, H1.out.2.2, Nat.le_trans H1.out.2.1.size hx2, H1.out.1.step hb2, RdQ.of_new k2 ((H0.out.1.step H1.out.2.1).step hb2) H0.out.2⟩; clear k2 hb2 hx2 H1))
  refine (qnum_any x 8 (0, l) w2 (by exact K2.out.rd) (by decide)).mono ?_
  rw [S1.out]
  rintro e w3 ⟨rfl, ho, hr⟩
  have K3 := Lib.hid (K2.out.call ho hr)
  clear ho hr K2
  go_wp2_with (first
    | (refine wpList_bldF1 rfl (.tmp 11) rfl N0 rfl ?_)
    | (with_reducible show wpList _ _ _ (⟨some 5, .alloc _, _, _, _, none⟩ :: _) _ _; refine wpList_newF rt_rtk rfl rfl ?_; intro w4 p hc4 hb4 hx4; have H4 := Lib.hid (And.intro hc4 (And.intro hb4 hx4)); clear hc4 hb4 hx4)
    | (refine wpList_stF rt_rtk rfl (.tmp 5) (.tmp 12) rfl p rfl ⟨N0, none, 0, [], none, 0, []⟩ zeroF rfl (by exact H4.out.1) ?_; intro w5 hc5 ho5 hs5; have hb5 := H4.out.2.1.trans (ho5.below (fun j hj => by rw [List.mem_singleton.1 hj]; exact H4.out.2.2) H4.out.2.1.size); have K5 := Lib.hid (K3.out.step hb5); have C5 : Hid (Blk 32 w5 p [.int .u64 (N0 : Int), .slice none 0 0, .slice none 0 0]) := Lib.hid hc5.blk; have LP : Hid (w.heap.size ≤ p ∧ p ≠ rc) := Lib.hid ⟨Nat.le_trans K3.out.bel.size H4.out.2.2, fun e => by have h1 := K3.out.rc.blk.lt; have h2 := H4.out.2.2; omega⟩; clear hc5 ho5 hs5 hb5 H4 K3))
  refine (qshort_any x s1 w5 (by exact K5.out.rd)).mono ?_
  rw [S2.out]
  rintro e w6 ⟨A6, n6, c6, rfl, ho6, ho, hr⟩
  have hl6 := ho6.len
  subst hl6
  have C6 := Lib.hid (C5.out.oth ho (by simpa using Fc.nerq (f := ⟨N0, none, 0, [], none, 0, []⟩) C5.out K5.out.rd))
  have O6 := Lib.hid (ho6.base_le K5.out.bel.size)
  have K6 := Lib.hid (K5.out.call ho hr)
  clear ho6 ho hr K5 C5
  go_wp2_with (first
    | (refine wpList_stC (ty := 23) (by kernel_rfl) rfl (.tmp 15) (.tmp 14) rfl p 1 rfl (.slice A6 O.length c6) rfl rfl _ (by exact C6.out) (by show _ < 3; decide) ?_; intro w7 hc7 ho7 hs7; have C7 : Hid (Blk 32 w7 p [.int .u64 (N0 : Int), .slice A6 O.length c6, .slice none 0 0]) := Lib.hid hc7; have K7 := Lib.hid (K6.out.put (f := ⟨N0, none, 0, [], none, 0, []⟩) C6.out LP.out.1 LP.out.2 ho7); have O7 := Lib.hid (O6.out.offS ho7 (C6.out.nob (by decide))); clear hc7 ho7 hs7 C6 K6 O6))
  refine (qshort_any x s2 w7 (by exact K7.out.rd)).mono ?_
  rw [S3.out]
  rintro e w8 ⟨A8, n8, c8, rfl, ho8, ho, hr⟩
  have hl8 := ho8.len
  subst hl8
  have C8 := Lib.hid (C7.out.oth ho (by simpa using Fc.nerq (f := ⟨N0, A6, c6, O, none, 0, []⟩) C7.out K7.out.rd))
  have O8 := Lib.hid (And.intro (O7.out.offS ho K7.out.rd.nob) (ho8.base_le K7.out.bel.size))
  have K8 := Lib.hid (K7.out.call ho hr)
  clear ho8 ho hr K7 C7 O7
  obtain ⟨F, HFF⟩ : ∃ F : Fd, Hid (F = ⟨N0, A6, c6, O, A8, c8, S⟩) := ⟨_, Lib.hid rfl⟩
  have HFT : Hid (F.tk = ⟨N0, O, S⟩) := Lib.hid (by rw [HFF.out]; rfl)
  go_wp2_with (first
    | (refine wpList_stC (ty := 23) (by kernel_rfl) rfl (.tmp 18) (.tmp 17) rfl p 2 rfl (.slice A8 S.length c8) rfl rfl _ (by exact C8.out) (by show _ < 3; decide) ?_; intro w9 hc9 ho9 hs9; have C9 : Hid (Fc 32 w9 p F) := Lib.hid (by rw [HFF.out]; exact hc9); have K9 := Lib.hid (K8.out.put (f := ⟨N0, A6, c6, O, none, 0, []⟩) C8.out LP.out.1 LP.out.2 ho9); have O9 : Hid (F.own w9 w.heap.size) := Lib.hid (by rw [HFF.out]; exact ⟨HN0.out, O8.out.1.offS ho9 (C8.out.nob (by decide)), O8.out.2.offS ho9 (C8.out.nob (by decide))⟩); clear hc9 ho9 hs9 C8 K8 O8))
  refine (qend_any x s3 w9 (by exact K9.out.rd)).mono ?_
  rw [S4.out]
  rintro e wa ⟨rfl, ho, hr⟩
  have hca : Fc 32 wa p F := C9.out.oth ho (by simpa using C9.out.nerq K9.out.rd)
  have CA := Lib.hid hca
  have k1 : wa.cell? ⟨p, 1, none⟩ = some (.slice A6 O.length c6) := by have h := hca.c1; rw [HFF.out] at h; exact h
  have k2 : wa.cell? ⟨p, 2, none⟩ = some (.slice A8 S.length c8) := by have h := hca.c2; rw [HFF.out] at h; exact h
  have KA := Lib.hid (K9.out.call ho hr)
  have OA := Lib.hid (O9.out.off ho K9.out.rd.nob)
  have bo : O.length ≤ 9223372036854775807 := by have h := O9.out.ok.co; rw [HFF.out] at h; have h1 := h.1; have h2 := h.2; unfold maxLen at h2; simp only at h1 h2; omega
  have bs : S.length ≤ 9223372036854775807 := by have h := O9.out.ok.cs; rw [HFF.out] at h; have h1 := h.1; have h2 := h.2; unfold maxLen at h2; simp only at h1 h2; omega
  clear ho hr hca K9 C9 O9
  by_cases hE : E = 0
  rotate_left
  · have hb0 : (E == 0) = false := by simpa using hE
    have hb : (E != 0) = true := by simpa using hE
    have HE : Hid (X = (zTk, E)) := Lib.hid (by rw [HX.out, if_neg hE])
    clear hE
    go_wp2_with (first
      | (with_reducible show wpList _ _ _ (⟨none, .store _ _ _, _, _, _, none⟩ :: _) _ _; refine wpList_stF rt_rtk rfl (.tmp 2) (.tmp 37) rfl rc rfl zeroF zeroF rfl (by exact KA.out.rc) ?_; intro wb hcb hob hsb; have HB := Lib.hid (And.intro hcb hob); clear hcb hob hsb))
    rw [HE.out]
    exact bodyPost_ret (v := .tuple #[zeroF.val, .int .i64 E]) (res_rec2 rt_rtk rfl _ _ rc zeroF.cells _ rfl rfl HB.out.1 rfl) rfl ⟨zeroF, rfl, rfl, Fd.own.zero _ _, KA.out.bel.trans (HB.out.2.below (fun j hj => by rw [List.mem_singleton.1 hj]; exact KA.out.lr) KA.out.bel.size)⟩
  subst hE
  by_cases h1 : (O.length : Int) > 20
  · have d1 : decide ((O.length : Int) > 20) = true := decide_eq_true h1
    have HE : Hid (X = (zTk, 10)) := Lib.hid (by rw [HX.out, if_pos rfl, if_pos (.inl (by omega))])
    clear h1
    go_wp2_with (first
      | (with_reducible show wpList _ _ _ (⟨none, .store _ _ _, _, _, _, none⟩ :: _) _ _; refine wpList_stF rt_rtk rfl (.tmp 2) (.tmp 37) rfl rc rfl zeroF zeroF rfl (by exact KA.out.rc) ?_; intro wb hcb hob hsb; have HB := Lib.hid (And.intro hcb hob); clear hcb hob hsb))
    rw [HE.out]
    exact bodyPost_ret (v := .tuple #[zeroF.val, .int .i64 10]) (res_rec2 rt_rtk rfl _ _ rc zeroF.cells _ rfl rfl HB.out.1 rfl) rfl ⟨zeroF, rfl, rfl, Fd.own.zero _ _, KA.out.bel.trans (HB.out.2.below (fun j hj => by rw [List.mem_singleton.1 hj]; exact KA.out.lr) KA.out.bel.size)⟩
  have d1 : decide ((O.length : Int) > 20) = false := decide_eq_false h1
  by_cases h2 : (S.length : Int) > 20
  · have d2 : decide ((S.length : Int) > 20) = true := decide_eq_true h2
    have HE : Hid (X = (zTk, 10)) := Lib.hid (by rw [HX.out, if_pos rfl, if_pos (.inr (by omega))])
    clear h1 h2
    go_wp2_with (first
      | (with_reducible show wpList _ _ _ (⟨none, .store _ _ _, _, _, _, none⟩ :: _) _ _; refine wpList_stF rt_rtk rfl (.tmp 2) (.tmp 37) rfl rc rfl zeroF zeroF rfl (by exact KA.out.rc) ?_; intro wb hcb hob hsb; have HB := Lib.hid (And.intro hcb hob); clear hcb hob hsb))
    rw [HE.out]
    exact bodyPost_ret (v := .tuple #[zeroF.val, .int .i64 10]) (res_rec2 rt_rtk rfl _ _ rc zeroF.cells _ rfl rfl HB.out.1 rfl) rfl ⟨zeroF, rfl, rfl, Fd.own.zero _ _, KA.out.bel.trans (HB.out.2.below (fun j hj => by rw [List.mem_singleton.1 hj]; exact KA.out.lr) KA.out.bel.size)⟩
  have d2 : decide ((S.length : Int) > 20) = false := decide_eq_false h2
  have HE : Hid (X = (⟨N0, O, S⟩, 0)) := Lib.hid (by rw [HX.out, if_pos rfl, if_neg (by omega)])
  clear h1 h2
  go_wp2_with (first
    | (with_reducible show wpList _ _ _ (⟨_, .load _ _, _, _, _, none⟩ :: _) _ _; refine wpList_ldF rt_rtk rfl (.tmp 5) rfl p rfl F (by exact CA.out) ?_)
    | (with_reducible show wpList _ _ _ (⟨none, .store _ _ _, _, _, _, none⟩ :: _) _ _; refine wpList_stF rt_rtk rfl (.tmp 2) (.tmp 39) rfl rc rfl F zeroF rfl (by exact KA.out.rc) ?_; intro wb hcb hob hsb; have HB := Lib.hid (And.intro hcb hob); clear hcb hob hsb))
  rw [HE.out]
  exact bodyPost_ret (v := .tuple #[F.val, .int .i64 0]) (res_rec2 rt_rtk rfl _ _ rc F.cells _ rfl rfl HB.out.1 rfl) rfl ⟨F, rfl, HFT.out, OA.out.off HB.out.2 (KA.out.rc.blk.nob (by decide)), KA.out.bel.trans (HB.out.2.below (fun j hj => by rw [List.mem_singleton.1 hj]; exact KA.out.lr) KA.out.bel.size)⟩
end Go.Proofs.YthllaoeioddddaaGreat

