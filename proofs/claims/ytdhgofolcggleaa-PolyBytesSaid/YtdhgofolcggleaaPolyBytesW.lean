/- PolyBytes' walk. Conditions: the element is one; the slice's cells are readable. -/
import Derived.Test.YtdhgofolcggleaaPolyRun
import Derived.Test.YtdhgofolcggleaaRefPolyBytes
import Derived.Test.YtdhgofolcggleaaOpen
namespace Go.Proofs.Ytdhgofolcggleaa
open Go.RowKit
set_option linter.unusedVariables false

theorem nql_T (l : List Bool) (w : World) (hl : l.length = 128) : (binOp .neq 28 (BV l) (BV l)).run Try.prog w = .ok (.bool false) w := by
  have h := eql_T l w hl
  unfold BV at h ⊢
  rw [run_eql_struct] at h
  rw [run_neq_struct]
  generalize (Op.equalIn 10000 28 (.agg (tvs l).toArray) (.agg (tvs l).toArray)).run Try.prog w = b at h ⊢
  cases b
  case ok b w' =>
    rw [Result.andThen_ok] at h
    injection h with h1 h2
    injection h1 with h1
    rw [Result.andThen_ok, h1, h2]; rfl
  all_goals cases h
theorem pe00 : PE 0 = EV 0 0 := rfl
structure OfB (u : Value) (l : List Bool) : Prop where out : ∃ x, u = PE x ∧ x < 2 ^ 128 ∧ l = co x
theorem of_b (u : Value) (l : List Bool) (w : World) (h : OfB u l) : Calls Try.prog 10 #[u] w fun e w' => e = .returned (BV l) ∧ Below w.heap.size w w' := by
  obtain ⟨x, rfl, hx, rfl⟩ := h.out
  have h1 := pe_lt x hx
  have h := of_any (x / 2 ^ 64) (x % 2 ^ 64) w h1.1 h1.2
  rw [show x / 2 ^ 64 * 2 ^ 64 + x % 2 ^ 64 = x by omega] at h
  exact h
/-- The bytes of a number. -/
def xB (x : Nat) : List UInt8 := eB (x / 2 ^ 64) (x % 2 ^ 64)
theorem xB_len (x : Nat) : (xB x).length = 16 := eB_len _ _
theorem bytes_pe (x : Nat) (w : World) (hx : x < 2 ^ 128) : Calls Try.prog 15 #[PE x] w (RetB 16 (xB x) w) := bytes_any _ _ w (pe_lt x hx).1 (pe_lt x hx).2
theorem rbytes_pe (x : Nat) (w : World) (hx : x < 2 ^ 128) : Calls Try.prog 19 #[BV (co x)] w (RetB 16 (xB x) w) := by
  have h := pbytes_any (xB x) w (xB_len x)
  have e : bitsOf (xB x) = co x := by
    unfold xB
    rw [bits_e _ _ (pe_lt x hx).2, show x / 2 ^ 64 * 2 ^ 64 + x % 2 ^ 64 = x by omega]
  rw [e] at h
  exact h
theorem of_xB (x : Nat) (hx : x < 2 ^ 128) : EV (oH (xB x)) (oL (xB x)) = PE x := by
  unfold xB PE
  rw [(o_eB _ _ (pe_lt x hx).1 (pe_lt x hx).2).1, (o_eB _ _ (pe_lt x hx).1 (pe_lt x hx).2).2]
theorem of_l16 (l : List UInt8) (h : l.length = 16) : ∃ d, d < 2 ^ 128 ∧ EV (oH l) (oL l) = PE d ∧ xB d = l := by
  refine ⟨hl (oH l) (oL l), hl_lt _ _ (oH_lt l h) (oL_lt l h), (pe_hl _ _ (oL_lt l h)).symm, ?_⟩
  unfold xB
  rw [(hl_up _ _ (oL_lt l h)).1, (hl_up _ _ (oL_lt l h)).2]
  exact eB_o l h
/-- What lies there while PolyBytes runs. -/
def Kb (w : World) (G Z V x0 y0 dv : Nat) (A5 A1 : Option Addr) (B0 : List UInt8) (n1 : Nat) (l1 : List UInt8) (W : World) : Prop :=
  Xw W G x0 ∧ Xw W Z y0 ∧ Xw W V dv ∧ RB W W.heap.size A5 16 B0 ∧ RB W W.heap.size A1 n1 l1 ∧ Below w.heap.size w W
theorem Kb.keep {w W W1 : World} {G Z V x0 y0 dv n1 : Nat} {A5 A1 : Option Addr} {B0 l1 : List UInt8} (h : Kb w G Z V x0 y0 dv A5 A1 B0 n1 l1 W) (hb : Below W.heap.size W W1) : Kb w G Z V x0 y0 dv A5 A1 B0 n1 l1 W1 :=
  ⟨h.1.keep hb, h.2.1.keep hb, h.2.2.1.keep hb, h.2.2.2.1.step hb, h.2.2.2.2.1.step hb, h.2.2.2.2.2.trans (hb.mono h.2.2.2.2.2.size)⟩
theorem Kb.drew {w W : World} {G Z V x0 y0 dv n1 : Nat} {A5 A1 : Option Addr} {B0 l1 : List UInt8} (h : Kb w G Z V x0 y0 dv A5 A1 B0 n1 l1 W) : Kb w G Z V x0 y0 dv A5 A1 B0 n1 l1 W.drew := h.keep (Below.refl _ _).drew
theorem Kb.s {w W : World} {G Z V x0 y0 dv n1 : Nat} {A5 A1 : Option Addr} {B0 l1 : List UInt8} (h : Kb w G Z V x0 y0 dv A5 A1 B0 n1 l1 W) : ldP (.pointer (some ⟨G, 0, none⟩)) W = .ok (.value (PE x0)) W ∧ ldP (.pointer (some ⟨Z, 0, none⟩)) W = .ok (.value (PE y0)) W := ⟨ldP_x h.1, ldP_x h.2.1⟩
theorem bel_new (W : World) (o : Obj) (vs : List Value) : Below W.heap.size W ((W.alloc o).setCells W.heap.size 0 vs) := below_setCells (below_alloc _ _) (Nat.le_refl _) _ _
theorem rb_in {w W : World} {A : Option Addr} {n : Nat} {l : List UInt8} (h : RB w w.heap.size A n l) (hb : Below w.heap.size w W) : RB W W.heap.size A n l := h.step hb
attribute [local irreducible] gMul gPow PE gNext co xB eB oH oL

set_option maxRecDepth 100000 in
set_option maxHeartbeats 8000000 in
theorem PolyBytes_walk (x0 : Nat) (A1 : Option Addr) (n1 c1 : Nat) (l1 : List UInt8) (x2 : Int) (w : World) (h0 : x0 < 2 ^ 128) (h1 : RB w w.heap.size A1 n1 l1) (m1 : n1 ≤ c1 ∧ c1 ≤ maxLen) (h2 : (Lit.int .u64 x2).wf = true) :
    Calls Try.prog 4 #[PE x0, .slice A1 n1 c1, .int .u64 x2] w fun e w' => e = .returned (.bool true) ∧ Below w.heap.size w w' := by
  have r2 : 0 ≤ x2 ∧ x2 ≤ 18446744073709551615 := bounds_u64 h2
  obtain ⟨k, rfl⟩ : ∃ k : Nat, x2 = (k : Int) := ⟨x2.toNat, by omega⟩
  have hk : k ≤ 18446744073709551615 := by omega
  clear h2 r2
  have hn1 : n1 ≤ 9223372036854775807 := by have := m1; unfold maxLen at this; omega
  have L0 := Lib.hid h0
  have HR1 := Lib.hid h1
  have HM := Lib.hid m1
  obtain ⟨B0, HB0⟩ : ∃ B0, Hid (B0 = xB x0) := ⟨_, Lib.hid rfl⟩
  obtain ⟨pn, HPN⟩ : ∃ pn, Hid (pn = gPow x0 k ∧ pn < 2 ^ 128) := ⟨_, Lib.hid ⟨rfl, gPow_lt _ h0 k⟩⟩
  obtain ⟨dv, code, HD⟩ : ∃ (dv : Nat) (code : Int), Hid (((n1 = 16 ∧ code = 0 ∧ dv < 2 ^ 128 ∧ xB dv = l1) ∨ (n1 ≠ 16 ∧ code = 11 ∧ dv = 0)) ∧ ∀ (A : Option Addr) (c : Nat) (W : World), RB W W.heap.size A n1 l1 → n1 ≤ c → Calls Try.prog 16 #[.slice A n1 c] W fun e w' => e = .returned (.tuple #[PE dv, .int .i64 code]) ∧ Below W.heap.size W w') := by
    by_cases h16 : n1 = 16
    · subst h16
      obtain ⟨d, hd, hev, hx⟩ := of_l16 l1 h1.len
      exact ⟨d, 0, Lib.hid ⟨.inl ⟨rfl, rfl, hd, hx⟩, fun A c W hr hc => by rw [← hev]; exact of_ok A c l1 W hc hr.len hr⟩⟩
    · exact ⟨0, 11, Lib.hid ⟨.inr ⟨h16, rfl, rfl⟩, fun A c W hr hc => by rw [pe00]; exact of_bad A n1 c W (by unfold maxLen; omega) h16⟩⟩
  have HOX : Hid (∀ (A : Option Addr) (c : Nat) (W : World), RB W W.heap.size A 16 B0 → 16 ≤ c → Calls Try.prog 16 #[.slice A 16 c] W fun e w' => e = .returned (.tuple #[PE x0, .int .i64 0]) ∧ Below W.heap.size W w') := Lib.hid (fun A c W hr hc => by
    have h := of_ok A c B0 W hc hr.len hr
    rw [HB0.out, of_xB x0 L0.out] at h
    exact h)
  obtain ⟨G, HG⟩ : ∃ G, Hid (G = w.heap.size) := ⟨_, Lib.hid rfl⟩
  clear h0 h1 m1
  go_enter Try.func4, Try.ntmps4
  go_wp2_with (first | (refine wpList_boxX rfl _ (.tmp 0) rfl x0 rfl ?_))
  refine (alive_any _).mono ?_
  rintro e w1 ⟨rfl, hb1⟩
  have HA1 : Hid (Xw w1 G x0) := Lib.hid (by rw [HG.out]; exact Xw.keep (Ew.new w _ _ _ rfl) hb1)
  have HW1 : Hid (Below w.heap.size w w1) := Lib.hid ((below_alloc w _).trans (hb1.mono (by simp)))
  clear hb1
  rw [← HG.out]
  by_cases h60 : (100 : Int) < (n1 : Int)
  · go_wp2_with fail
    go_ret
    exact ⟨rfl, HW1.out⟩
  · go_wp2_with (first | (refine wpList_ldX rfl (.tmp 3) rfl G rfl x0 (by exact HA1.out) ?_) | (go_at_call 15; refine (bytes_pe x0 _ L0.out).mono ?_; rw [← HB0.out]; rintro e w2 ⟨A5, c5, rfl, ho2, hb2⟩; have HO2 := Lib.hid ho2; have HB2 := Lib.hid hb2; have hc5 := Lib.hid ho2.cap; clear ho2 hb2) | (go_at_call 16; refine (HOX.out A5 c5 _ (by exact HO2.out.rb) hc5.out.1).mono ?_; rintro e w3 ⟨rfl, hb3⟩; have HB3 := Lib.hid hb3; clear hb3 HOX) | (refine wpList_stX rfl (.tmp 8) (.tmp 22) rfl w3.heap.size rfl x0 0 rfl (by exact Ew.new w3 0 0 _ rfl) ?_; obtain ⟨W4, HW4⟩ : ∃ W4, Hid (W4 = (w3.alloc (.cells #[.int .u64 0, .int .u64 0] 24)).setCells w3.heap.size 0 (es (x0 / 2 ^ 64) (x0 % 2 ^ 64))) := ⟨_, Lib.hid rfl⟩; have HB4 : Hid (Below w3.heap.size w3 W4) := Lib.hid (by rw [HW4.out]; exact bel_new _ _ _); have HWW4 : Hid (Below w.heap.size w W4) := Lib.hid (HW1.out.trans ((HB2.out.trans ((HB3.out.trans (HB4.out.mono HB3.out.size)).mono HB2.out.size)).mono HW1.out.size)); rw [← HW4.out]) | (go_at_call 17; refine (copy_any A1 n1 c1 W4.heap.size l1 W4 (by exact HR1.out.step HWW4.out) (by omega)).mono ?_; rintro e w5 ⟨A6, c6, rfl, ho5, hb5⟩; have HO5 := Lib.hid ho5; have HB5 := Lib.hid hb5; clear ho5 hb5) | (go_at_call 16; refine (HD.out.2 A6 c6 _ (by exact HO5.out.rb) HO5.out.cap.1).mono ?_; rintro e w6 ⟨rfl, hb6⟩; have HB6 := Lib.hid hb6; clear hb6) | (refine wpList_stX rfl (.tmp 10) (.tmp 28) rfl w6.heap.size rfl dv 0 rfl (by exact Ew.new w6 0 0 _ rfl) ?_; obtain ⟨W7, HW7⟩ : ∃ W7, Hid (W7 = (w6.alloc (.cells #[.int .u64 0, .int .u64 0] 24)).setCells w6.heap.size 0 (es (dv / 2 ^ 64) (dv % 2 ^ 64))) := ⟨_, Lib.hid rfl⟩; rw [← HW7.out]))
    try dsimp only [Act.put]
    obtain ⟨Z, HZ⟩ : ∃ Z, Hid (Z = w3.heap.size) := ⟨_, Lib.hid rfl⟩
    obtain ⟨V, HV⟩ : ∃ V, Hid (V = w6.heap.size) := ⟨_, Lib.hid rfl⟩
    have HK : Hid (Kb w G Z V x0 x0 dv A5 A1 B0 n1 l1 W7) := Lib.hid (by
      have b47 : Below W4.heap.size W4 W7 := HB5.out.trans ((HB6.out.trans ((by rw [HW7.out]; exact bel_new _ _ _ : Below w6.heap.size w6 W7).mono HB6.out.size)).mono HB5.out.size)
      have z4 : Xw W4 Z x0 := by rw [HW4.out, HZ.out]; exact Ew.whole (Ew.new w3 0 0 _ rfl) _ _
      have v7 : Xw W7 V dv := by rw [HW7.out, HV.out]; exact Ew.whole (Ew.new w6 0 0 _ rfl) _ _
      have g4 : Xw W4 G x0 := ((HA1.out.keep HB2.out).keep HB3.out).keep HB4.out
      have a4 : RB W4 W4.heap.size A5 16 B0 := (HO2.out.rb.step HB3.out).step HB4.out
      exact ⟨g4.keep b47, z4.keep b47, v7, a4.step b47, (HR1.out.step HWW4.out).step b47, HWW4.out.trans (b47.mono HWW4.out.size)⟩)
    rw [← HZ.out, ← HV.out]
    clear HA1 HW1 HO2 HB2 HB3 HB4 HWW4 HO5 HB5 HB6 HW7 HW4 HZ HV
    have O1 : OfB (PE x0) (co x0) := ⟨x0, rfl, L0.out, rfl⟩
    have O2 : OfB (PE pn) (co pn) := ⟨pn, rfl, HPN.out.2, rfl⟩
    have HRB : Hid (∀ W, Calls Try.prog 19 #[BV (co x0)] W (RetB 16 B0 W)) := Lib.hid (fun W => by rw [HB0.out]; exact rbytes_pe x0 W L0.out)
    have HPW : Hid (∀ W, Calls Try.prog 20 #[PE x0, .int .u64 (k : Int)] W (RetP pn W)) := Lib.hid (fun W => by rw [HPN.out.1]; exact pow_any x0 k W L0.out hk)
    have HRP : Hid (∀ W, Calls Try.prog 21 #[BV (co x0), .int .u64 (k : Int)] W (RetT (co pn) W)) := Lib.hid (fun W => by rw [HPN.out.1]; exact ppow_any x0 k W L0.out hk)
    have NQ := fun W => nql_T (co pn) W (co_len pn)
    go_region_held3 (fun w' => ldP (.pointer (some ⟨G, 0, none⟩)) w' = .ok (.value (PE x0)) w' ∧ ldP (.pointer (some ⟨Z, 0, none⟩)) w' = .ok (.value (PE x0)) w') (first | assumption | (exact HK.out.drew.s) | (exact Kb.s (by assumption)))
      (first
      | (go_at_call 10; refine (of_b _ _ _ (by first | exact O1 | exact O2)).mono ?_; rintro e w5 ⟨rfl, hb5⟩; have hk5 := Kb.keep (by first | assumption | exact HK.out.drew) hb5; clear hb5)
      | (go_at_call 19; refine (HRB.out _).mono ?_; rintro e w5 ⟨A8, c8, rfl, ho8, hb5⟩; have hk5 := Kb.keep (by assumption) hb5; have HO8 := Lib.hid ho8; clear hb5 ho8)
      | (go_at_call 18; refine (al_same A5 A8 16 c5 16 c8 B0 B0 _ (by exact hk5.2.2.2.1) (by exact HO8.out.rb) (by unfold maxLen; omega) (by unfold maxLen; omega) true (by simp)).mono ?_; rintro e w5 ⟨rfl, hb5⟩; have hk5 := Kb.keep (by assumption) hb5; clear hb5)
      | (go_at_call 20; refine (HPW.out _).mono ?_; rintro e w5 ⟨rfl, hb5⟩; have hk5 := Kb.keep (by assumption) hb5; clear hb5)
      | (go_at_call 21; refine (HRP.out _).mono ?_; rintro e w5 ⟨rfl, hb5⟩; have hk5 := Kb.keep (by assumption) hb5; clear hb5))
    have HK9 := Lib.hid hk5
    clear hk5 HK O1 O2 HRB HPW HRP NQ HO8
    obtain ⟨v9, ev9⟩ : ∃ v : World, v = w5 := ⟨_, rfl⟩
    subst ev9
    rcases HD.out.1 with ⟨h16, hcode, hdv, hxl⟩ | ⟨h16, hcode, hd0⟩
    · subst h16
      subst hcode
      have HXL := Lib.hid hxl
      have HDV := Lib.hid hdv
      have hM := HM.out
      unfold maxLen at hM
      clear hxl hdv
      have hlv := ldP_x HK9.out.2.2.1
      go_wp2_with (first | (go_at_call 15; refine (bytes_pe dv _ HDV.out).mono ?_; rw [HXL.out]; rintro e w6 ⟨A9, c9, rfl, ho9, hb9⟩; have HO9 := Lib.hid ho9; have HK10 := Lib.hid (HK9.out.keep hb9); clear ho9 hb9) | (go_at_call 18; refine (al_same A9 A1 16 c9 16 c1 l1 l1 _ (by exact HO9.out.rb) (by exact HK10.out.2.2.2.2.1) (by unfold maxLen; omega) (by unfold maxLen; omega) true (by simp)).mono ?_; rintro e w7 ⟨rfl, hb10⟩; have HK11 := Lib.hid (HK10.out.keep hb10); clear hb10))
      go_ret
      exact ⟨rfl, HK11.out.2.2.2.2.2⟩
    · subst hcode
      subst hd0
      have hne : ((n1 : Int) != 16) = true := by simp; omega
      have hlv := ldP_x HK9.out.2.2.1
      go_wp2_with fail
      go_ret
      exact ⟨by simp, HK9.out.2.2.2.2.2⟩
end Go.Proofs.Ytdhgofolcggleaa
