/- AesBack's walk: what is encrypted is decrypted as it was, and the other way; another block comes to another one. No condition. -/
import Derived.Test.YtbpbpkmjkbndbaaAesAlive
import Derived.Test.YtbpbpkmjkbndbaaUseLong
import Derived.Test.YtbpbpkmjkbndbaaOpenRows
namespace Go.Proofs.Ytbpbpkmjkbndbaa
open Go.RowKit
set_option linter.unusedVariables false
attribute [local irreducible] wsW keyUpTo keyF lastW turn0 encUp decUp encL decL

theorem same_enc (k a b : List UInt8) (hk : k.length = 16) (ha : a.length = 16) (hb : b.length = 16) : (encL k tableL a == encL k tableL b) = (a == b) := by
  by_cases e : a = b
  · subst e; simp
  · have h : encL k tableL a ≠ encL k tableL b := fun h => e (encL_inj k a b hk ha hb h)
    rw [beq_eq_false_iff_ne.2 e, beq_eq_false_iff_ne.2 h]
theorem long200 (A : Option Addr) (n c : Nat) (ps : List (List UInt8)) (w : World) (h : RR w w.heap.size A n ps) (hp : ∀ p ∈ ps, p.length ≤ maxLen) (hn : n ≤ maxLen) (v : Bool) (hv : longB ps 200 = v) :
    Calls Try.prog 21 #[.slice A n c, .int .i64 200] w fun e w' => e = .returned (.bool v) ∧ w = w' := by
  subst hv
  exact long_any A n c 200 ps w h hn (by omega) hp
theorem RR.next {w w' : World} {n : Nat} {A : Option Addr} {ps : List (List UInt8)} (h : RR w w.heap.size A n ps) (hb : Below w.heap.size w w') : RR w' w'.heap.size A n ps := by
  refine ⟨h.1, fun hn => ?_⟩
  obtain ⟨b, o, e, hbb, hc⟩ := (h.below hb).2 hn
  exact ⟨b, o, e, Nat.lt_of_lt_of_le hbb hb.size, fun i p hp => by
    obtain ⟨Ai, ci, h1, h2⟩ := hc i p hp
    exact ⟨Ai, ci, h1, h2.more hb.size⟩⟩
theorem long_few {ps : List (List UInt8)} {m : Nat} (h : longB ps m = false) : ps.length ≤ m := by
  unfold longB at h
  have := of_decide_eq_false h
  omega
set_option maxRecDepth 100000 in
set_option maxHeartbeats 4000000 in
theorem AesBack_skip (A0 : Option Addr) (n0 c0 : Nat) (l0 : List (List UInt8)) (A1 : Option Addr) (n1 c1 : Nat) (A2 : Option Addr) (n2 c2 : Nat) (w : World) (h0 : RPC w w.heap.size A0 n0 l0) (m0 : n0 ≤ c0 ∧ c0 ≤ maxLen)
    (h : longB l0 200 = true ∨ n1 ≠ 16 ∨ n2 ≠ 16) :
    Calls Try.prog 5 #[.slice A0 n0 c0, .slice A1 n1 c1, .slice A2 n2 c2] w fun e w' => e = .returned (.bool true) ∧ Below w.heap.size w w' := by
  have H0 := Lib.hid h0.1
  have M0 := Lib.hid m0
  obtain ⟨v, HV⟩ : ∃ v, Hid (longB l0 200 = v) := ⟨_, Lib.hid rfl⟩
  rw [HV.out] at h
  clear h0 m0
  rcases v with _ | _
  · by_cases h1 : n1 = 16
    · have h2 : n2 ≠ 16 := by
        rcases h with h | h | h
        · cases h
        · exact absurd h1 h
        · exact h
      have hd1 : ((n1 : Int) == 16) = true := by rw [beq_iff_eq]; omega
      have hd2 : ((n2 : Int) == 16) = false := by rw [beq_eq_false_iff_ne]; omega
      have hn1 : ((n1 : Int) != 16) = false := by simp [bne, hd1]
      have hn2 : ((n2 : Int) != 16) = true := by simp [bne, hd2]
      clear h
      go_enter Try.func5, Try.ntmps5
      go_wp2_with fail
      refine (alive_any _).mono ?_
      rintro e w1 ⟨rfl, hb1⟩
      have HB1 := Lib.hid hb1
      clear hb1
      go_wp2_with fail
      refine (long200 A0 n0 c0 l0 _ (by exact H0.out.1.next HB1.out) H0.out.2 (by have := M0.out; omega) _ HV.out).mono ?_
      rintro e w2 ⟨rfl, rfl⟩
      go_wp2_with fail
      go_ret
      exact ⟨rfl, HB1.out⟩
    · have hd1 : ((n1 : Int) == 16) = false := by rw [beq_eq_false_iff_ne]; omega
      have hn1 : ((n1 : Int) != 16) = true := by simp [bne, hd1]
      clear h
      go_enter Try.func5, Try.ntmps5
      go_wp2_with fail
      refine (alive_any _).mono ?_
      rintro e w1 ⟨rfl, hb1⟩
      have HB1 := Lib.hid hb1
      clear hb1
      go_wp2_with fail
      refine (long200 A0 n0 c0 l0 _ (by exact H0.out.1.next HB1.out) H0.out.2 (by have := M0.out; omega) _ HV.out).mono ?_
      rintro e w2 ⟨rfl, rfl⟩
      go_wp2_with fail
      go_ret
      exact ⟨rfl, HB1.out⟩
  · clear h
    go_enter Try.func5, Try.ntmps5
    go_wp2_with fail
    refine (alive_any _).mono ?_
    rintro e w1 ⟨rfl, hb1⟩
    have HB1 := Lib.hid hb1
    clear hb1
    go_wp2_with fail
    refine (long200 A0 n0 c0 l0 _ (by exact H0.out.1.next HB1.out) H0.out.2 (by have := M0.out; omega) _ HV.out).mono ?_
    rintro e w2 ⟨rfl, rfl⟩
    go_wp2_with fail
    go_ret
    exact ⟨rfl, HB1.out⟩
set_option maxRecDepth 100000 in
set_option maxHeartbeats 4000000 in
theorem AesBack_in (A0 : Option Addr) (n0 c0 : Nat) (l0 : List (List UInt8)) (A1 : Option Addr) (c1 : Nat) (l1 : List UInt8) (A2 : Option Addr) (c2 : Nat) (l2 : List UInt8) (w : World) (h0 : RPC w w.heap.size A0 n0 l0) (m0 : n0 ≤ c0 ∧ c0 ≤ maxLen) (h1 : RB w w.heap.size A1 16 l1) (m1 : 16 ≤ c1 ∧ c1 ≤ maxLen) (h2 : RB w w.heap.size A2 16 l2) (m2 : 16 ≤ c2 ∧ c2 ≤ maxLen) (hl : longB l0 200 = false) :
    Calls Try.prog 5 #[.slice A0 n0 c0, .slice A1 16 c1, .slice A2 16 c2] w fun e w' => e = .returned (.bool true) ∧ Below w.heap.size w w' := by
  have H0 := Lib.hid h0
  have H1 := Lib.hid h1
  have H2 := Lib.hid h2
  have M0 := Lib.hid m0
  have M1 := Lib.hid m1
  have M2 := Lib.hid m2
  have HLN := Lib.hid hl
  have hn0 : n0 ≤ 200 := by rw [← h0.1.1.len]; exact long_few hl
  have hp : ∀ (g : Nat) (W : World), (binOp .eql 25 (.pointer (some ⟨g, 0, none⟩)) (.pointer none)).run Try.prog W = .ok (.bool false) W := fun _ _ => by kernel_rfl
  have hq : ∀ (W : World), (binOp .neq 25 (.pointer none) (.pointer none)).run Try.prog W = .ok (.bool false) W := fun _ => by kernel_rfl
  clear h0 h1 h2 m0 m1 m2 hl
  go_enter Try.func5, Try.ntmps5
  go_wp2_with fail
  refine (alive_any _).mono ?_
  rintro e w1 ⟨rfl, hb1⟩
  have HB1 := Lib.hid hb1
  clear hb1
  go_wp2_with fail
  refine (long200 A0 n0 c0 l0 _ (by exact H0.out.1.1.next HB1.out) H0.out.1.2 (by have := M0.out; omega) _ HLN.out).mono ?_
  rintro e w2 ⟨rfl, rfl⟩
  go_wp2_with fail
  go_loopw [7] (fun i wr => ∃ k : Nat, k ≤ n0 ∧ i = .int .i64 k ∧ Hid (Below w.heap.size w wr)) (fun i _ => n0 - (intOf i).toNat)
  case atStart => exact ⟨0, by omega, rfl, HB1⟩
  case round =>
    obtain ⟨k, hk, rfl, hb⟩ := hrel
    clear HB1
    by_cases hlt : k < n0
    · obtain ⟨b0, o0, rfl, hb0, p, hpk, Ai, ci, hcell, hrb⟩ := H0.out.1.1.at_ hlt
      have hcap := H0.out.2 b0 o0 k Ai p.length ci rfl hlt hcell
      have hcw : wr.cell? ⟨b0, o0 + k, none⟩ = some (.slice Ai p.length ci) := (hb.out.cell (p := ⟨b0, o0 + k, none⟩) hb0).trans hcell
      have hpl := H0.out.1.2 p (List.mem_of_getElem? hpk)
      unfold maxLen at hpl
      have HRB := Lib.hid hrb
      have HCAP := Lib.hid hcap
      clear hcell hrb hpk
      by_cases h16 : p.length = 16
      · rw [h16] at hcw
        have HRB16 : Hid (RB w w.heap.size Ai 16 p) := Lib.hid (by have := HRB.out; rw [h16] at this; exact this)
        have HC16 : Hid (16 ≤ ci) := Lib.hid (by have := HCAP.out; omega)
        have HP16 := Lib.hid h16
        clear h16 hpl
        go_wp2_with fail
        refine (anew_any ci Ai p _ (by exact (HRB16.out.below hb.out).more hb.out.size) HC16.out).mono ?_
        rintro e w2 ⟨cb, b, lo, rfl, hb2, hcb, _, hob⟩
        have HB2 := Lib.hid hb2
        have HCB := Lib.hid hcb
        have HO := Lib.hid hob
        clear hb2 hcb hob
        have HWB : Hid (w.heap.size ≤ cb) := Lib.hid (Nat.le_trans hb.out.size HCB.out)
        have HBW : Hid (Below w.heap.size w w2) := Lib.hid (bel_next hb.out HB2.out)
        have hcb0 : b0 < w2.heap.size := Nat.lt_of_lt_of_le hb0 HBW.out.size
        have hcw2 : w2.cell? ⟨b0, o0 + k, none⟩ = some (.slice Ai 16 ci) := (HB2.out.cell (p := ⟨b0, o0 + k, none⟩) (Nat.lt_of_lt_of_le hb0 hb.out.size)).trans hcw
        obtain ⟨E1, HE1⟩ : ∃ E, Hid (E = encL p tableL l1) := ⟨_, Lib.hid rfl⟩
        obtain ⟨D1, HD1⟩ : ∃ E, Hid (E = decL p tableL backL l1) := ⟨_, Lib.hid rfl⟩
        obtain ⟨E2, HE2⟩ : ∃ E, Hid (E = encL p tableL l2) := ⟨_, Lib.hid rfl⟩
        have HDE : Hid (decL p tableL backL E1 = l1) := Lib.hid (by rw [HE1.out]; exact dec_enc p l1 HP16.out H1.out.len)
        have HED : Hid (encL p tableL D1 = l1) := Lib.hid (by rw [HD1.out]; exact enc_dec p l1 HP16.out H1.out.len)
        go_wp2_with fail
        -- a, f := c.Encrypt(block)
        refine (encrypt_any cb b lo 0 c1 p l1 _ _ (by exact HO.out) (by omega) (by exact (H1.out.below HBW.out).more HBW.out.size) M1.out.1 (by exact H1.out.away (by omega) HWB.out)).mono ?_
        rw [← HE1.out]
        rintro e w3 ⟨A3, c3, rfl, ho3, hb3, hob3⟩
        have HO3 := Lib.hid ho3
        have HB3 := Lib.hid hb3
        have HN3 := Lib.hid hob3
        have HA3 : Hid (Away A3 cb) := Lib.hid (ho3.away HO.out.lt)
        have HC3 : Hid (16 ≤ c3) := Lib.hid ho3.cap.1
        clear ho3 hb3 hob3
        go_wp2_with fail
        -- b, g := c.Decrypt(a)
        refine (decrypt_any cb b lo 1 c3 p E1 _ _ (by exact HN3.out) (by omega) (by exact HO3.out.rb) HC3.out HA3.out).mono ?_
        rw [HDE.out]
        rintro e w4 ⟨A4, c4, rfl, ho4, hb4, hob4⟩
        have HO4 := Lib.hid ho4
        have HB4 : Hid (But cb w2 w4) := Lib.hid (HB3.out.trans hb4)
        have HN4 := Lib.hid hob4
        have HA4 : Hid (Away A4 cb) := Lib.hid (ho4.away HN3.out.lt)
        have HX4 : Hid (RB w4 w4.heap.size A3 16 E1) := Lib.hid (HO3.out.rb.aside hb4 HA3.out)
        clear ho4 hb4 hob4
        go_wp2_with fail
        -- d, h := c.Decrypt(block)
        refine (decrypt_any cb b lo 2 c1 p l1 _ _ (by exact HN4.out) (by omega) (by exact ((H1.out.below HBW.out).over HB4.out HBW.out.size HWB.out).more (Nat.le_trans HBW.out.size HB4.out.size)) M1.out.1 (by exact H1.out.away (by omega) HWB.out)).mono ?_
        rw [← HD1.out]
        rintro e w5 ⟨A5, c5, rfl, ho5, hb5, hob5⟩
        have HO5 := Lib.hid ho5
        have HB5 : Hid (But cb w2 w5) := Lib.hid (HB4.out.trans hb5)
        have HN5 := Lib.hid hob5
        have HA5 : Hid (Away A5 cb) := Lib.hid (ho5.away HN4.out.lt)
        have HC5 : Hid (16 ≤ c5) := Lib.hid ho5.cap.1
        have HX5 : Hid (RB w5 w5.heap.size A3 16 E1) := Lib.hid (HX4.out.aside hb5 HA3.out)
        have HY5 : Hid (RB w5 w5.heap.size A4 16 l1) := Lib.hid (HO4.out.rb.aside hb5 HA4.out)
        clear ho5 hb5 hob5
        go_wp2_with fail
        -- x, j := c.Encrypt(d)
        refine (encrypt_any cb b lo 3 c5 p D1 _ _ (by exact HN5.out) (by omega) (by exact HO5.out.rb) HC5.out HA5.out).mono ?_
        rw [HED.out]
        rintro e w6 ⟨A6, c6, rfl, ho6, hb6, hob6⟩
        have HO6 := Lib.hid ho6
        have HB6 : Hid (But cb w2 w6) := Lib.hid (HB5.out.trans hb6)
        have HN6 := Lib.hid hob6
        have HA6 : Hid (Away A6 cb) := Lib.hid (ho6.away HN5.out.lt)
        have HX6 : Hid (RB w6 w6.heap.size A3 16 E1) := Lib.hid (HX5.out.aside hb6 HA3.out)
        have HY6 : Hid (RB w6 w6.heap.size A4 16 l1) := Lib.hid (HY5.out.aside hb6 HA4.out)
        clear ho6 hb6 hob6
        go_wp2_with fail
        -- o, k := c.Encrypt(other)
        refine (encrypt_any cb b lo 4 c2 p l2 _ _ (by exact HN6.out) (by omega) (by exact ((H2.out.below HBW.out).over HB6.out HBW.out.size HWB.out).more (Nat.le_trans HBW.out.size HB6.out.size)) M2.out.1 (by exact H2.out.away (by omega) HWB.out)).mono ?_
        rw [← HE2.out]
        rintro e w7 ⟨A7, c7, rfl, ho7, hb7, hob7⟩
        have HO7 := Lib.hid ho7
        have HB7 : Hid (But cb w2 w7) := Lib.hid (HB6.out.trans hb7)
        have HN7 := Lib.hid hob7
        have HX7 : Hid (RB w7 w7.heap.size A3 16 E1) := Lib.hid (HX6.out.aside hb7 HA3.out)
        have HY7 : Hid (RB w7 w7.heap.size A4 16 l1) := Lib.hid (HY6.out.aside hb7 HA4.out)
        have HZ7 : Hid (RB w7 w7.heap.size A6 16 l1) := Lib.hid (HO6.out.rb.aside hb7 HA6.out)
        have H17 : Hid (RB w7 w7.heap.size A1 16 l1) := Lib.hid (((H1.out.below HBW.out).over HB7.out HBW.out.size HWB.out).more (Nat.le_trans HBW.out.size HB7.out.size))
        have H27 : Hid (RB w7 w7.heap.size A2 16 l2) := Lib.hid (((H2.out.below HBW.out).over HB7.out HBW.out.size HWB.out).more (Nat.le_trans HBW.out.size HB7.out.size))
        clear ho7 hb7 hob7
        clear HO3 HO4 HO5 HO6 HX4 HX5 HX6 HY5 HY6 HB3 HB4 HB5 HB6 HN3 HN4 HN5 HN6 HA3 HA4 HA5 HA6 HC3 HC5
        obtain ⟨v, HV⟩ : ∃ v, Hid ((l2 == l1) = v) := ⟨_, Lib.hid rfl⟩
        have HVE : Hid ((E2 == E1) = v) := Lib.hid (by rw [HE2.out, HE1.out, same_enc p l2 l1 HP16.out H2.out.len H1.out.len]; exact HV.out)
        go_wp2_with fail
        refine (al_same A4 A1 16 c4 16 c1 l1 l1 _ (by exact HY7.out) (by exact H17.out) (by unfold maxLen; omega) (by unfold maxLen; omega) true (by simp)).mono ?_
        rintro e w8 ⟨rfl, hb8⟩
        have HB8 := Lib.hid hb8
        clear hb8
        go_wp2_with fail
        refine (al_same A6 A1 16 c6 16 c1 l1 l1 _ (by exact (HZ7.out.below HB8.out).more HB8.out.size) (by exact (H17.out.below HB8.out).more HB8.out.size) (by unfold maxLen; omega) (by unfold maxLen; omega) true (by simp)).mono ?_
        rintro e w9 ⟨rfl, hb9⟩
        have HB9 : Hid (Below w7.heap.size w7 w9) := Lib.hid (bel_next HB8.out hb9)
        clear hb9
        go_wp2_with fail
        refine (al_same A7 A3 16 c7 16 c3 E2 E1 _ (by exact (HO7.out.rb.below HB9.out).more HB9.out.size) (by exact (HX7.out.below HB9.out).more HB9.out.size) (by unfold maxLen; omega) (by unfold maxLen; omega) v HVE.out).mono ?_
        rintro e w10 ⟨rfl, hb10⟩
        have HB10 : Hid (Below w7.heap.size w7 w10) := Lib.hid (bel_next HB9.out hb10)
        clear hb10
        go_wp2_with fail
        refine (al_same A2 A1 16 c2 16 c1 l2 l1 _ (by exact (H27.out.below HB10.out).more HB10.out.size) (by exact (H17.out.below HB10.out).more HB10.out.size) (by unfold maxLen; omega) (by unfold maxLen; omega) v HV.out).mono ?_
        rintro e w11 ⟨rfl, hb11⟩
        have HB11 : Hid (Below w7.heap.size w7 w11) := Lib.hid (bel_next HB10.out hb11)
        clear hb11
        have hvv : (v != v) = false := by cases v <;> rfl
        go_wp2_with fail
        refine (done_any cb b lo 5 p _ (by exact HN7.out.below HB11.out)).mono ?_
        rintro e w12 ⟨rfl, rfl⟩
        go_wp2_with fail
        go_roundw
        case rel =>
          exact ⟨k + 1, by omega, by go_num, Lib.hid ((HBW.out.trans (HB7.out.below HWB.out HO.out.lt)).trans (HB11.out.mono (Nat.le_trans HBW.out.size HB7.out.size)))⟩
        case measure => simp [intOf]; omega
      · have hd : ((p.length : Int) == 16) = false := by rw [beq_eq_false_iff_ne]; omega
        have hd2 : ((p.length : Int) != 16) = true := by simp [bne, hd]
        go_wp2_with fail
        refine (anew_bad p.length ci Ai _ h16).mono ?_
        rintro e w2 ⟨rfl, rfl⟩
        go_wp2_with fail
        go_roundw
        case rel => exact ⟨k + 1, by omega, by go_num, hb⟩
        case measure => simp [intOf]; omega
    · obtain rfl : k = n0 := by omega
      go_wp2_with fail
      go_ret
      exact ⟨rfl, hb.out⟩
theorem AesBack_walk (A0 : Option Addr) (n0 c0 : Nat) (l0 : List (List UInt8)) (A1 : Option Addr) (n1 c1 : Nat) (l1 : List UInt8) (A2 : Option Addr) (n2 c2 : Nat) (l2 : List UInt8) (w : World) (h0 : RPC w w.heap.size A0 n0 l0) (m0 : n0 ≤ c0 ∧ c0 ≤ maxLen) (h1 : RB w w.heap.size A1 n1 l1) (m1 : n1 ≤ c1 ∧ c1 ≤ maxLen) (h2 : RB w w.heap.size A2 n2 l2) (m2 : n2 ≤ c2 ∧ c2 ≤ maxLen) :
    Calls Try.prog 5 #[.slice A0 n0 c0, .slice A1 n1 c1, .slice A2 n2 c2] w fun e w' => e = .returned (.bool true) ∧ Below w.heap.size w w' := by
  by_cases h : longB l0 200 = true ∨ n1 ≠ 16 ∨ n2 ≠ 16
  · exact AesBack_skip A0 n0 c0 l0 A1 n1 c1 A2 n2 c2 w h0 m0 h
  · have e1 : n1 = 16 := Decidable.byContradiction fun e => h (.inr (.inl e))
    have e2 : n2 = 16 := Decidable.byContradiction fun e => h (.inr (.inr e))
    subst e1
    subst e2
    exact AesBack_in A0 n0 c0 l0 A1 c1 l1 A2 c2 l2 w h0 m0 h1 m1 h2 m2 (by
      cases hl : longB l0 200 with
      | false => rfl
      | true => exact absurd (.inl hl) h)
end Go.Proofs.Ytbpbpkmjkbndbaa
