/- Layer 10's reference: ids, Parse, for any bytes. Condition: at most a million bytes. -/
import Derived.Test.YtppopdjfecabfaaHeadAll
namespace Go.Proofs.Ytppopdjfecabfaa
open Go.RowKit
set_option linter.unusedVariables false
set_option linter.unusedSimpArgs false
/-! Plain. -/
theorem prs_nil : prs [] = (zeroP, [], 12) := rfl
theorem prs_kind (f : UInt8) (t : List UInt8) (h : f.toNat < 128) : prs (f :: t) = (zeroP, [], 14) := if_pos h
theorem prs_few (f : UInt8) (t : List UInt8) (h : ¬ f.toNat < 128) (h4 : t.length < 4) : prs (f :: t) = (zeroP, [], 12) := (if_neg h).trans (if_pos h4)
theorem prs_more (f : UInt8) (t : List UInt8) (h : ¬ f.toNat < 128) (h4 : ¬ t.length < 4) : prs (f :: t) = prs2 f (numL (t.take 4)) (t.drop 4) := (if_neg h).trans (if_neg h4)
theorem idL_some {l a r : List UInt8} (h : idL l = some (a, r)) : ∃ f t, l = f :: t ∧ f.toNat ≤ t.length ∧ a = t.take f.toNat ∧ r = t.drop f.toNat := by
  rcases l with _ | ⟨f, t⟩
  · cases h
  · rw [show idL (f :: t) = if t.length < f.toNat then none else some (t.take f.toNat, t.drop f.toNat) from rfl] at h
    by_cases h1 : t.length < f.toNat
    · rw [if_pos h1] at h; cases h
    · rw [if_neg h1] at h
      injection h with h
      injection h with h2 h3
      exact ⟨f, t, rfl, by omega, h2.symm, h3.symm⟩
attribute [local irreducible] numS shortS restS prs numL

set_option maxRecDepth 100000 in
set_option maxHeartbeats 400000 in
theorem rid_bad (A : Option Addr) (n c : Nat) (l : List UInt8) (w : World) (h : RB w w.heap.size A n l) (hn : n ≤ 1000000) (hi : idL l = none) :
    Calls Try.prog 43 #[.slice A n c] w fun e w' => e = .returned (.tuple #[.slice none 0 0, .slice none 0 0, .bool false]) ∧ w = w' := by
  have hl := h.len
  rcases l with _ | ⟨f, t⟩
  · subst hl
    clear h hi
    go_enter Try.func43, Try.ntmps43
    go_wp2_with fail
    go_ret3
    exact ⟨rfl, rfl⟩
  · have hlt : t.length < f.toNat := by
      by_cases h1 : t.length < f.toNat
      · exact h1
      · exfalso
        rw [show idL (f :: t) = if t.length < f.toNat then none else some (t.take f.toNat, t.drop f.toNat) from rfl, if_neg h1] at hi
        cases hi
    obtain ⟨m, rfl⟩ : ∃ m, n = m + 1 := ⟨t.length, by rw [← hl]; rfl⟩
    obtain ⟨b, o, rfl, hb, x, hx, hcell⟩ := h.at_ (k := 0) (by omega)
    obtain rfl : f = x := by simpa using hx
    rw [Nat.add_zero] at hcell
    have hm : t.length = m := by simpa using hl
    have d0 : (((m + 1 : Nat) : Int) == 0) = false := by rw [beq_eq_false_iff_ne]; omega
    have d1 : m < f.toNat := by omega
    have hf8 := f.toNat_lt
    clear h hi hl hx hlt hm
    go_enter Try.func43, Try.ntmps43
    go_wp2_with fail
    go_ret3
    exact ⟨rfl, rfl⟩

set_option maxRecDepth 100000 in
set_option maxHeartbeats 400000 in
theorem rid_ok (A : Option Addr) (n c : Nat) (f : UInt8) (t : List UInt8) (w : World) (h : RB w w.heap.size A n (f :: t)) (hn : n ≤ 1000000) (hc : n ≤ c ∧ c ≤ maxLen) (k : Nat) (hk : f.toNat = k) (hkt : k ≤ t.length) :
    Calls Try.prog 43 #[.slice A n c] w fun e w' => ∃ A1 c1, e = .returned (.tuple #[.slice A1 k c1, .slice (cutA A c (k + 1)) (n - (k + 1)) (c - (k + 1)), .bool true]) ∧ OwnB w' w.heap.size A1 k c1 (t.take k) ∧ Below w.heap.size w w' := by
  have hl := h.len
  unfold maxLen at hc
  obtain ⟨m, rfl⟩ : ∃ m, n = m + 1 := ⟨t.length, by rw [← hl]; rfl⟩
  have hm : t.length = m := by simpa using hl
  have hpart := h.part (i := 1) (j := k + 1) (c := c) (by omega) (by omega) hc.1
  have hcut := cut_lh A (m + 1) c 1 (k + 1) (by omega) (by omega)
  have hcut2 := cut_l A (m + 1) c (k + 1) (by omega)
  have e : ((f :: t).take (k + 1)).drop 1 = t.take k := by simp
  rw [e, Nat.add_sub_cancel] at hpart
  obtain ⟨b, o, hA, hb, x, hx, hcell⟩ := h.at_ (k := 0) (by omega)
  obtain rfl : f = x := by simpa using hx
  rw [Nat.add_zero] at hcell
  have d0 : (((m + 1 : Nat) : Int) == 0) = false := by rw [beq_eq_false_iff_ne]; omega
  have hf8 := f.toNat_lt
  rw [hk] at hcell hf8
  have d1 : ¬ m < k := by omega
  obtain ⟨j, hj⟩ : ∃ j, j = k + 1 := ⟨_, rfl⟩
  have hw : IntKind.i64.wrap (1 + (k : Int)) = (j : Int) := by
    rw [IntKind.wrap_i64]
    omega
  rw [← hj] at hcut hcut2 ⊢
  have hcut1 : ∀ W : World, (Instr.slice 22 (.slice A (m + 1) c) (some (.int .i64 1)) (some (.int .i64 (j : Int))) none).run Try.prog W = .ok (.slice (cutA A c 1) k (c - 1)) W := by
    have e : j - 1 = k := by omega
    rw [e] at hcut
    exact hcut
  have HP := Lib.hid hpart
  obtain ⟨ca, HCA⟩ : ∃ ca, Hid (ca = cutA A c 1) := ⟨_, Lib.hid rfl⟩
  obtain ⟨cb, HCB⟩ : ∃ ca, Hid (ca = cutA A c j) := ⟨_, Lib.hid rfl⟩
  rw [← HCA.out] at hcut1 HP
  rw [← HCB.out] at hcut2 ⊢
  subst hA
  obtain ⟨p, HPP⟩ : ∃ p, Hid (p = t.take k) := ⟨_, Lib.hid rfl⟩
  rw [← HPP.out] at HP ⊢
  clear h hl hx hm hpart e hk hkt hcut hj
  go_enter Try.func43, Try.ntmps43
  go_wp2_with fail
  go_region_law (refine step_app rfl (.tmp 23) (.tmp 27) rfl w.heap.size _ _ _ [] rfl ((OwnB.lit w _ [] #[] 0 rfl rfl (by unfold maxLen; omega) (Nat.le_refl _))).drew w.heap.size ca k (c - 1) p rfl ((HP.out.alloc (Nat.le_refl _) _).drew) (by omega) (by simp) ?_; intro A2 c2 w2 hown2 _ hb2)
  all_goals
    go_wp2_with fail
    go_ret3
    exact ⟨A2, c2, rfl, by simpa using hown2, ((Below.refl _ _).alloc (Nat.le_refl _) _).drew.trans hb2⟩

/-- What the reference's Parse carries: the header g, the result's variable q. -/
structure QK (v : World) (g q : Nat) (h : Hd) (w : World) : Prop where
  bel : Below v.heap.size v w
  lg : v.heap.size ≤ g
  lq : v.heap.size ≤ q
  gq : g ≠ q
  hd : Hc 40 w g h
  hq : Hc 40 w q zeroH
  own : h.own w v.heap.size
section
variable {v w w' : World} {g q n c : Nat} {h h' : Hd} {A : Option Addr} {l : List UInt8}
theorem QK.step (k : QK v g q h w) (hb : Below w.heap.size w w') : QK v g q h w' :=
  ⟨bel_next k.bel hb, k.lg, k.lq, k.gq, k.hd.step hb, k.hq.step hb, k.own.step hb⟩
theorem QK.put (k : QK v g q h w) (j : Nat) (u : Value) (hh : Hc 40 (w.setCell ⟨g, j, none⟩ u) g h') (ho : Hd.own (w.setCell ⟨g, j, none⟩ u) v.heap.size h') : QK v g q h' (w.setCell ⟨g, j, none⟩ u) := by
  have hO : Oth [g] w (w.setCell ⟨g, j, none⟩ u) := (Oth.refl [g] w).set (x := g) (by simp) j u
  exact ⟨k.bel.trans (hO.below (fun j hj => by rw [List.mem_singleton.1 hj]; exact k.lg) k.bel.size), k.lg, k.lq, k.gq, hh, k.hq.oth hO (by simpa using k.gq.symm), ho⟩
theorem QK.keep (k : QK v g q h w) (j : Nat) (u : Value) {base : Nat} (r : OwnB w base A n c l) : OwnB (w.setCell ⟨g, j, none⟩ u) base A n c l :=
  r.offS ((Oth.refl [g] w).set (x := g) (by simp) j u) (k.hd.nob (by decide))
theorem QK.put1 (k : QK v g q h w) (u : Nat) (hu : u ≤ 4294967295) : QK v g q { h with v := u } (w.setCell ⟨g, 1, none⟩ (.int .u32 (u : Int))) := k.put 1 _ (k.hd.set1 u) ⟨k.keep _ _ k.own.a, k.keep _ _ k.own.b, hu⟩
theorem QK.put2 (k : QK v g q h w) (r : OwnB w v.heap.size A n c l) : QK v g q { h with A := A, c := c, a := l } (w.setCell ⟨g, 2, none⟩ (.slice A n c)) := by
  have hl := r.len
  subst hl
  exact k.put 2 _ (k.hd.set2 A c l) ⟨k.keep _ _ r, k.keep _ _ k.own.b, k.own.v32⟩
theorem QK.put3 (k : QK v g q h w) (r : OwnB w v.heap.size A n c l) : QK v g q { h with B := A, d := c, b := l } (w.setCell ⟨g, 3, none⟩ (.slice A n c)) := by
  have hl := r.len
  subst hl
  exact k.put 3 _ (k.hd.set3 A c l) ⟨k.keep _ _ k.own.a, k.keep _ _ r, k.own.v32⟩
end
attribute [local go_sem ↓] ex_ldHr ex_stHr
theorem numL_lt4 (l : List UInt8) (k : Nat) (hk : k < 4) : (numL (l.take k) : Int) < 16777216 := by
  have h1 := numL_lt _ (l.take k) rfl
  have h2 : (l.take k).length ≤ 3 := by rw [List.length_take]; omega
  have h3 : 256 ^ (l.take k).length ≤ 256 ^ 3 := Nat.pow_le_pow_right (by omega) h2
  have h4 : (256 : Nat) ^ 3 = 16777216 := by decide
  omega

end Go.Proofs.Ytppopdjfecabfaa

/- Layer 10's reference's Parse, for any bytes. Condition: at most a million bytes. -/
namespace Go.Proofs.Ytppopdjfecabfaa
open Go.RowKit
set_option linter.unusedVariables false
set_option linter.unusedSimpArgs false
theorem numL_zero : numL [] = 0 := rfl
attribute [local irreducible] numS shortS restS prs numL prs2 idL
attribute [local go_sem ↓] ex_ldHr ex_stHr

set_option maxRecDepth 100000 in
set_option maxHeartbeats 4000000 in
theorem rparse_bad (A : Option Addr) (n c : Nat) (l : List UInt8) (w : World) (h : RB w w.heap.size A n l) (hn : n ≤ 1000000) (hs : l.length < 5 ∨ ∃ f t, l = f :: t ∧ f.toNat < 128) :
    Calls Try.prog 29 #[.slice A n c] w (RetHd (prs l) w) := by
  have hl := h.len
  have HQ : Hc 40 (w.alloc (.cells zeroH.cells.toArray 40)) w.heap.size zeroH := Hc.new _ _ _ _ rfl
  rcases l with _ | ⟨f, t⟩
  · rw [prs_nil]
    subst hl
    clear h hs
    go_enter Try.func29, Try.ntmps29
    go_wp2_with (first
      | (refine wpList_allocH ht_ref rfl rfl ?_)
      | (refine wpList_stH ht_ref rfl (.tmp 2) (.tmp 14) rfl w.heap.size rfl zeroH zeroH rfl (by exact HQ) ?_; intro w2 hc2 ho2 hs2; have H2 := Lib.hid (And.intro hc2 ho2); clear hc2 ho2 hs2))
    exact bodyPost_ret (v := .tuple #[zeroH.val, .slice none 0 0, .int .i64 12]) (res_hd3 ht_ref rfl _ _ w.heap.size zeroH _ _ rfl rfl rfl H2.out.1) rfl ⟨zeroH, none, 0, 0, rfl, rfl, Hd.own.zero _ _, OwnB.nil_ _ _, (below_alloc _ _).trans (H2.out.2.below (by simp) (by simp))⟩
  obtain ⟨m, rfl⟩ : ∃ m, n = m + 1 := ⟨t.length, by rw [← hl]; rfl⟩
  have hm : t.length = m := by simpa using hl
  obtain ⟨b, o, rfl, hb, x, hx, hcell⟩ := (h.step (below_alloc w (.cells zeroH.cells.toArray 40))).at_ (k := 0) (by omega)
  obtain rfl : f = x := by simpa using hx
  rw [Nat.add_zero] at hcell
  have hf8 := f.toNat_lt
  by_cases hf : f.toNat < 128
  · rw [prs_kind f t hf]
    clear h hl hx hs hm
    go_enter Try.func29, Try.ntmps29
    go_wp2_with (first
      | (refine wpList_allocH ht_ref rfl rfl ?_)
      | (refine wpList_stH ht_ref rfl (.tmp 2) (.tmp 19) rfl w.heap.size rfl zeroH zeroH rfl (by exact HQ) ?_; intro w2 hc2 ho2 hs2; have H2 := Lib.hid (And.intro hc2 ho2); clear hc2 ho2 hs2))
    exact bodyPost_ret (v := .tuple #[zeroH.val, .slice none 0 0, .int .i64 14]) (res_hd3 ht_ref rfl _ _ w.heap.size zeroH _ _ rfl rfl rfl H2.out.1) rfl ⟨zeroH, none, 0, 0, rfl, rfl, Hd.own.zero _ _, OwnB.nil_ _ _, (below_alloc _ _).trans (H2.out.2.below (by simp) (by simp))⟩
  have h4 : t.length < 4 := by
    rcases hs with h4 | ⟨f', t', e, hf'⟩
    · simp only [List.length_cons] at h4; omega
    · injection e with e1 e2
      subst e1
      exact absurd hf' hf
  rw [prs_few f t hf h4]
  have hn5 : m < 4 := by omega
  have d5 : decide ((m : Int) + 1 < 5) = true := decide_eq_true (by omega)
  clear h hl hx hs hm h4
  go_enter Try.func29, Try.ntmps29
  go_wp2_with (first
    | (refine wpList_allocH ht_ref rfl rfl ?_)
    | (refine wpList_stH ht_ref rfl (.tmp 2) (.tmp 23) rfl w.heap.size rfl zeroH zeroH rfl (by exact HQ) ?_; intro w2 hc2 ho2 hs2; have H2 := Lib.hid (And.intro hc2 ho2); clear hc2 ho2 hs2))
  exact bodyPost_ret (v := .tuple #[zeroH.val, .slice none 0 0, .int .i64 12]) (res_hd3 ht_ref rfl _ _ w.heap.size zeroH _ _ rfl rfl rfl H2.out.1) rfl ⟨zeroH, none, 0, 0, rfl, rfl, Hd.own.zero _ _, OwnB.nil_ _ _, (below_alloc _ _).trans (H2.out.2.below (by simp) (by simp))⟩

set_option maxRecDepth 100000 in
set_option maxHeartbeats 4000000 in
theorem rparse_more (A : Option Addr) (n c : Nat) (f : UInt8) (t : List UInt8) (w : World) (h : RB w w.heap.size A n (f :: t)) (hc : n ≤ c ∧ c ≤ maxLen) (hn : n ≤ 1000000) (hf : ¬ f.toNat < 128) (h4 : ¬ t.length < 4) :
    Calls Try.prog 29 #[.slice A n c] w (RetHd (prs2 f (numL (t.take 4)) (t.drop 4)) w) := by
  have hl := h.len
  unfold maxLen at hc
  obtain ⟨m, rfl⟩ : ∃ m, n = m + 1 := ⟨t.length, by rw [← hl]; rfl⟩
  have hm : t.length = m := by simpa using hl
  have hf8 := f.toNat_lt
  have hcut5 : ∀ W : World, (Instr.slice 22 (.slice A (m + 1) c) (some (.int .i64 5)) none none).run Try.prog W = .ok (.slice (cutA A c 5) (m + 1 - 5) (c - 5)) W := cut_l A (m + 1) c 5 (by omega)
  have hpart := h.part (i := 5) (j := m + 1) (c := c) (by omega) (by omega) hc.1
  rw [List.take_of_length_le (by omega), show (f :: t).drop 5 = t.drop 4 from rfl] at hpart
  obtain ⟨b, o, hA, hb, x, hx, hcell⟩ := h.at_ (k := 0) (by omega)
  obtain rfl : f = x := by simpa using hx
  rw [Nat.add_zero] at hcell
  have HA := Lib.hid (fun (k : Nat) (hk : k < m + 1) => h.at_ (k := k) hk)
  have HC := Lib.hid hcell
  have HP := Lib.hid hpart
  have d5 : ¬ (m : Int) + 1 < 5 := by omega
  obtain ⟨ca, HCA⟩ : ∃ ca, Hid (ca = cutA A c 5) := ⟨_, Lib.hid rfl⟩
  rw [← HCA.out] at HP hcut5
  obtain ⟨T4, HT4⟩ : ∃ r, Hid (r = t.drop 4) := ⟨_, Lib.hid rfl⟩
  rw [← HT4.out] at HP ⊢
  obtain ⟨R, HRR⟩ : ∃ R : Pl × List UInt8 × Int, Hid (R = prs2 f (numL (t.take 4)) T4) := ⟨_, Lib.hid rfl⟩
  rw [← HRR.out]
  subst hA
  have HM := Lib.hid hm
  clear h hl hx hcell hpart hm
  go_enter Try.func29, Try.ntmps29
  go_wp2_with (first
    | (with_reducible show wpList _ _ _ (⟨some 2, .alloc _, _, _, _, none⟩ :: _) _ _; refine wpList_allocN ht_ref rfl rfl ?_; intro w1 q hc1 hb1 hx1; have K1 := Lib.hid (And.intro hc1 (And.intro hb1 hx1)); have hcell : w1.cell? ⟨b, o, none⟩ = some (.int .u8 (f.toNat : Int)) := (hb1.cell hb).trans HC.out; clear hc1 hb1 hx1)
    | (with_reducible show wpList _ _ _ (⟨some 5, .alloc _, _, _, _, none⟩ :: _) _ _; refine wpList_allocN ht_ref rfl rfl ?_; intro w2 g hc2 hb2 hx2; have K2 := Lib.hid (And.intro hc2 (And.intro hb2 hx2)); clear hc2 hb2 hx2)
    | (refine wpList_stH ht_ref rfl (.tmp 5) (.tmp 27) rfl g rfl { zeroH with f := f } zeroH rfl (by exact K2.out.1) ?_; intro w3 hc3 ho3 hs3; have H3 := Lib.hid (And.intro hc3 ho3); clear hc3 ho3 hs3))
  have K3 : Hid (QK w g q { zeroH with f := f } w3) := by
    have hbel := bel_next K1.out.2.1 K2.out.2.1
    have hgq : g ≠ q := fun e => by
      have h1 := K1.out.1.lt
      have h2 := K2.out.2.2
      omega
    have hlg := Nat.le_trans K1.out.2.1.size K2.out.2.2
    exact Lib.hid ⟨hbel.trans (H3.out.2.below (fun j hj => by rw [List.mem_singleton.1 hj]; exact hlg) hbel.size), hlg, K1.out.2.2, hgq, H3.out.1, (K1.out.1.step K2.out.2.1).oth H3.out.2 (by simpa using hgq.symm), ⟨OwnB.nil_ _ _, OwnB.nil_ _ _, Nat.zero_le _⟩⟩
  clear K1 K2 H3 hcell
  go_loopw [6] (fun i wr => ∃ j : Nat, 1 ≤ j ∧ j ≤ 5 ∧ i = .int .i64 j ∧ QK w g q ⟨f, numL (t.take (j - 1)), none, 0, [], none, 0, []⟩ wr) (fun i _ => 5 - (intOf i).toNat)
  case atStart => exact ⟨1, Nat.le_refl _, by omega, rfl, by rw [show numL (t.take (1 - 1)) = 0 from numL_zero]; exact K3.out⟩
  case round =>
    obtain ⟨j, hj1, hj5, rfl, hk⟩ := hrel
    by_cases hlt : j < 5
    · obtain ⟨b', o', e, hb', x, hx, hcx⟩ := HA.out j (by omega)
      injection e with e
      injection e with e1 e2
      subst e1
      subst e2
      have hv : (f :: t)[j]? = t[j - 1]? := by
        obtain ⟨i, rfl⟩ : ∃ i, j = i + 1 := ⟨j - 1, by omega⟩
        rfl
      rw [hv] at hx
      have hcw := (hk.bel.cell (p := ⟨b, o + j, none⟩) hb).trans hcx
      have c1 := hk.hd.c1
      have f1 := hk.hd.free 1
      have hx8 := x.toNat_lt
      have h24 := numL_lt4 t (j - 1) (by omega)
      have hnext : numL (t.take (j + 1 - 1)) = numL (t.take (j - 1)) * 256 + x.toNat := by
        rw [show j + 1 - 1 = (j - 1) + 1 from by omega, take_snoc hx, numL_snoc]
      have HK := Lib.hid hk
      have HN := Lib.hid hnext
      obtain ⟨v, HV⟩ : ∃ v, Hid (v = numL (t.take (j - 1))) := ⟨_, Lib.hid rfl⟩
      rw [← HV.out] at c1 h24 HN HK
      have hw1 : IntKind.u32.wrap ((v : Int) * 256) = ((v * 256 : Nat) : Int) := by rw [IntKind.wrap_u32]; omega
      obtain ⟨v2, hv2⟩ : ∃ v2, v2 = v * 256 := ⟨_, rfl⟩
      rw [← hv2] at hw1
      obtain ⟨v3, hv3⟩ : ∃ v3, v3 = v * 256 + x.toNat := ⟨_, rfl⟩
      have hw3 : IntKind.u32.wrap (x.toNat : Int) = (x.toNat : Int) := by rw [IntKind.wrap_u32]; omega
      have hw2 : IntKind.u32.wrap ((v2 : Int) + (x.toNat : Int)) = (v3 : Int) := by rw [IntKind.wrap_u32]; omega
      have h32 : v3 ≤ 4294967295 := by omega
      rw [← hv3] at HN
      clear hk hx hcx hv hnext h24 hv2 hv3
      go_wp2
      go_region
      go_wp2
      go_roundw
      case rel => exact ⟨j + 1, by omega, by omega, by go_num, by rw [HN.out]; exact (HK.out.put1 v3 h32).step (Below.refl _ _).drew⟩
      case measure => simp [intOf]; omega
    · obtain rfl : j = 5 := by omega
      have HK : Hid (QK w g q ⟨f, numL (t.take 4), none, 0, [], none, 0, []⟩ wr) := Lib.hid hk
      clear hk
      obtain ⟨v, HV⟩ : ∃ v, Hid (v = numL (t.take 4)) := ⟨_, Lib.hid rfl⟩
      rw [← HV.out] at HRR HK
      have hv32 := HK.out.own.v32
      rcases hi : idL T4 with _ | ⟨a, r⟩
      · have HE : Hid (R = (zeroP, [], 12)) := Lib.hid (by rw [HRR.out]; unfold prs2; rw [hi])
        have HI := Lib.hid (rid_bad ca (m + 1 - 5) (c - 5) T4 wr (HP.out.step HK.out.bel) (by omega) hi)
        go_wp2_with fail
        refine HI.out.mono ?_
        rintro e w4 ⟨rfl, rfl⟩
        go_wp2_with (first
          | (refine wpList_stH ht_ref rfl (.tmp 2) (.tmp 51) rfl q rfl zeroH zeroH rfl (by exact HK.out.hq) ?_; intro w5 hc2 ho2 hs2; have H2 := Lib.hid (And.intro hc2 ho2); clear hc2 ho2 hs2))
        rw [HE.out]
        exact bodyPost_ret (v := .tuple #[zeroH.val, .slice none 0 0, .int .i64 12]) (res_hd3 ht_ref rfl _ _ q zeroH _ _ rfl rfl rfl H2.out.1) rfl ⟨zeroH, none, 0, 0, rfl, rfl, Hd.own.zero _ _, OwnB.nil_ _ _, HK.out.bel.trans (H2.out.2.below (fun j hj => by rw [List.mem_singleton.1 hj]; exact HK.out.lq) HK.out.bel.size)⟩
      · obtain ⟨f1, t1, ht1, hk1, ha, hr⟩ := idL_some hi
        obtain ⟨k1, hkk⟩ : ∃ k1, f1.toNat = k1 := ⟨_, rfl⟩
        rw [hkk] at hk1 ha hr
        have hT4 : T4.length = m + 1 - 5 := HP.out.len
        rw [ht1, List.length_cons] at hT4
        have HI := Lib.hid (rid_ok ca (m + 1 - 5) (c - 5) f1 t1 wr (by rw [← ht1]; exact HP.out.step HK.out.bel) (by omega) (by unfold maxLen; omega) k1 hkk hk1)
        have hp2 := HP.out.part (i := k1 + 1) (j := m + 1 - 5) (c := c - 5) (by omega) (Nat.le_refl _) (by omega)
        rw [List.take_of_length_le (by rw [ht1, List.length_cons]; omega), ht1, show (f1 :: t1).drop (k1 + 1) = t1.drop k1 from rfl, ← hr] at hp2
        obtain ⟨cb, HCB⟩ : ∃ cb, Hid (cb = cutA ca (c - 5) (k1 + 1)) := ⟨_, Lib.hid rfl⟩
        obtain ⟨m2, hm2⟩ : ∃ m2, m2 = m + 1 - 5 - (k1 + 1) := ⟨_, rfl⟩
        obtain ⟨c2, hc2⟩ : ∃ c2, c2 = c - 5 - (k1 + 1) := ⟨_, rfl⟩
        rw [← HCB.out, ← hm2, ← hc2] at HI
        rw [← HCB.out, ← hm2] at hp2
        have HP2 := Lib.hid hp2
        have b2 : m2 ≤ 1000000 := by omega
        have bc2 : m2 ≤ c2 ∧ c2 ≤ maxLen := by unfold maxLen; omega
        clear hp2 hm2 hc2 hT4 ht1
        rw [← ha] at HI
        clear ha
        go_wp2_with fail
        refine HI.out.mono ?_
        rintro e w4 ⟨A1, c1, rfl, ho, hb4⟩
        have HK4 := Lib.hid (HK.out.step hb4)
        have HO4 := Lib.hid (ho.base_le HK.out.bel.size)
        clear ho hb4 HI HK
        rcases hi2 : idL r with _ | ⟨a2, r2⟩
        · have HE : Hid (R = (zeroP, [], 12)) := Lib.hid (by rw [HRR.out]; unfold prs2; rw [hi]; simp only; rw [hi2])
          have HI2 := Lib.hid (rid_bad cb m2 c2 r w4 (HP2.out.step HK4.out.bel) b2 hi2)
          go_wp2_with fail
          refine HI2.out.mono ?_
          rintro e w5 ⟨rfl, rfl⟩
          go_wp2_with (first
            | (refine wpList_stH ht_ref rfl (.tmp 2) (.tmp 60) rfl q rfl zeroH zeroH rfl (by exact HK4.out.hq) ?_; intro w5 hc2 ho2 hs2; have H2 := Lib.hid (And.intro hc2 ho2); clear hc2 ho2 hs2))
          rw [HE.out]
          exact bodyPost_ret (v := .tuple #[zeroH.val, .slice none 0 0, .int .i64 12]) (res_hd3 ht_ref rfl _ _ q zeroH _ _ rfl rfl rfl H2.out.1) rfl ⟨zeroH, none, 0, 0, rfl, rfl, Hd.own.zero _ _, OwnB.nil_ _ _, HK4.out.bel.trans (H2.out.2.below (fun j hj => by rw [List.mem_singleton.1 hj]; exact HK4.out.lq) HK4.out.bel.size)⟩
        · have HE : Hid (R = ((f, v, a, a2), r2, 0)) := Lib.hid (by rw [HRR.out]; unfold prs2; rw [hi]; simp only; rw [hi2])
          obtain ⟨f2, t2, ht2, hk2, ha2, hr2⟩ := idL_some hi2
          obtain ⟨k2, hkk2⟩ : ∃ k2, f2.toNat = k2 := ⟨_, rfl⟩
          rw [hkk2] at hk2 ha2 hr2
          have hrl : r.length = m2 := HP2.out.len
          rw [ht2, List.length_cons] at hrl
          have HI2 := Lib.hid (rid_ok cb m2 c2 f2 t2 w4 (by rw [← ht2]; exact HP2.out.step HK4.out.bel) b2 bc2 k2 hkk2 hk2)
          have hp3 := HP2.out.part (i := k2 + 1) (j := m2) (c := c2) (by omega) (Nat.le_refl _) bc2.1
          rw [List.take_of_length_le (by rw [ht2, List.length_cons]; omega), ht2, show (f2 :: t2).drop (k2 + 1) = t2.drop k2 from rfl, ← hr2] at hp3
          obtain ⟨cd, HCD⟩ : ∃ cd, Hid (cd = cutA cb c2 (k2 + 1)) := ⟨_, Lib.hid rfl⟩
          obtain ⟨m3, hm3⟩ : ∃ m3, m3 = m2 - (k2 + 1) := ⟨_, rfl⟩
          obtain ⟨c3, hc3⟩ : ∃ c3, c3 = c2 - (k2 + 1) := ⟨_, rfl⟩
          rw [← HCD.out, ← hm3, ← hc3] at HI2
          rw [← HCD.out, ← hm3] at hp3
          have HP3 := Lib.hid hp3
          have b3 : m3 ≤ 1000000 := by omega
          clear hp3 hm3 hc3 hrl ht2
          rw [← ha2] at HI2
          clear ha2
          go_wp2_with fail
          refine HI2.out.mono ?_
          rintro e w5 ⟨A2, c2', rfl, ho, hb5⟩
          have HK5 := Lib.hid (HK4.out.step hb5)
          have HO5 := Lib.hid (ho.base_le HK4.out.bel.size)
          have HO4' := Lib.hid (HO4.out.below hb5)
          have c0 := HK5.out.hd.c2
          have f0 := HK5.out.hd.free 2
          have c00 := HK5.out.hd.c3
          have f00 := HK5.out.hd.free 3
          clear ho hb5 HI2 HK4 HO4
          go_wp2_with fail
          have K6 := HK5.out.put2 HO4'.out
          have O6 : OwnB (w5.setCell ⟨g, 2, none⟩ (.slice A1 k1 c1)) w.heap.size A2 k2 c2' a2 := HK5.out.keep 2 _ HO5.out
          have K7 := K6.put3 O6
          obtain ⟨w6, HW6⟩ : ∃ w6, Hid (w6 = ((w5.setCell ⟨g, 2, none⟩ (.slice A1 k1 c1)).setCell ⟨g, 3, none⟩ (.slice A2 k2 c2'))) := ⟨_, Lib.hid rfl⟩
          rw [← HW6.out] at K7 ⊢
          obtain ⟨H9, KH⟩ : ∃ H9, Hid (QK w g q H9 w6.drew ∧ H9.pl = (f, v, a, a2)) := ⟨_, Lib.hid ⟨K7.step (Below.refl _ _).drew, rfl⟩⟩
          clear K6 K7 O6 c0 f0 c00 f00 HK5 HO5 HO4' 
          refine wp_region_held_drew (S := fun w' => Hc 40 w' g H9) (by kernel_rfl) KH.out.1.hd (fun hHeld => ?_)
          (try dsimp only at hHeld)
          refine wpAnyH_take (i := 0) (v := ?v0_1) rfl (by kernel_rfl) (by kernel_rfl) (by kernel_rfl) (fun _ _ _ h => h) (Or.inl ⟨by rfl, ?hy0_1⟩) hHeld ?_
          case hy0_1 => (intro w hSw; (try dsimp only at hSw); have hq := ldHd_m ht_ref hSw; (try simp only [List.getElem_toArray, List.getElem_cons_zero, List.getElem_cons_succ]); go_simp <;> with_reducible rfl)
          (try simp only [Act.put, List.getElem_toArray, List.getElem_cons_zero, List.getElem_cons_succ, List.setIfInBounds_toArray, List.set_cons_zero, List.set_cons_succ])
          refine wpAnyH_take (i := 2) (v := ?v2_2) rfl (by kernel_rfl) (by kernel_rfl) (by kernel_rfl) (fun _ _ _ h => h) (Or.inl ⟨by rfl, ?hy2_2⟩) hHeld ?_
          case hy2_2 => (intro w hSw; (try dsimp only at hSw); have hq := ldHd_m ht_ref hSw; (try simp only [List.getElem_toArray, List.getElem_cons_zero, List.getElem_cons_succ]); go_simp <;> with_reducible rfl)
          (try simp only [Act.put, List.getElem_toArray, List.getElem_cons_zero, List.getElem_cons_succ, List.setIfInBounds_toArray, List.set_cons_zero, List.set_cons_succ])
          refine wpAnyH_ready (rs := [1]) (by kernel_rfl) (by simp) ?_
          refine AllReadyH.cons rfl (fun K hK => ?_) AllReadyH.nil
          (try simp only [List.getElem_toArray, List.getElem_cons_zero, List.getElem_cons_succ])
          go_simp
          refine hK.out _ _ (KH.out.1.hd.step (below_alloc _ _)) (fun hHeld => ?_)
          clear hK K
          (try simp only [Act.put, List.getElem_toArray, List.getElem_cons_zero, List.getElem_cons_succ, List.setIfInBounds_toArray, List.set_cons_zero, List.set_cons_succ])
          refine wpAnyH_ready (rs := [3]) (by kernel_rfl) (by simp) ?_
          refine AllReadyH.cons rfl (fun K hK => ?_) AllReadyH.nil
          (try simp only [List.getElem_toArray, List.getElem_cons_zero, List.getElem_cons_succ])
          rw [if_pos (by rfl)]
          refine wp_app (.tmp 66) (.tmp 67) rfl w6.drew.heap.size _ _ _ [] rfl (OwnB.lit w6.drew _ [] #[] 0 rfl rfl (by unfold maxLen; omega) (Nat.le_refl _)) (w6.drew.alloc (.cells #[] 5)).heap.size cd m3 c3 r2 rfl (by exact HP3.out.step (bel_next KH.out.1.bel (below_alloc _ _))) (by omega) (by simp) ?_
          intro A7 c7 w7 ho7 hg7 hb7
          have B7 : Below w6.drew.heap.size w6.drew w7 := ((Below.refl _ _).alloc (Nat.le_refl _) _).trans hb7
          have K8 := Lib.hid (KH.out.1.step B7)
          have O8 : Hid (OwnB w7 w.heap.size A7 m3 c7 r2) := Lib.hid (by simpa using ho7.base_le KH.out.1.bel.size)
          have q4 := stHd_m ht_ref K8.out.hq H9
          clear ho7 hg7 hb7 B7
          refine hK.out _ _ K8.out.hd (fun hHeld => ?_)
          clear hK K
          (try simp only [Act.put, List.getElem_toArray, List.getElem_cons_zero, List.getElem_cons_succ, List.setIfInBounds_toArray, List.set_cons_zero, List.set_cons_succ])
          refine wpAnyH_ready (rs := [4]) (by kernel_rfl) (by simp) ?_
          refine AllReadyH.cons rfl (fun K hK => ?_) AllReadyH.nil
          (try simp only [List.getElem_toArray, List.getElem_cons_zero, List.getElem_cons_succ])
          go_simp
          refine hK.out _ _ (K8.out.hd.oth (oth_setCells q _ _ _ _ (Oth.refl _ _)) (by simpa using K8.out.gq)) (fun hHeld => ?_)
          clear hK K
          (try simp only [Act.put, List.getElem_toArray, List.getElem_cons_zero, List.getElem_cons_succ, List.setIfInBounds_toArray, List.set_cons_zero, List.set_cons_succ])
          refine wpAnyH_take (i := 5) (v := ?v5_3) rfl (by kernel_rfl) (by kernel_rfl) (by kernel_rfl) (fun _ _ _ h => h) (Or.inl ⟨by rfl, ?hy5_3⟩) hHeld ?_
          case hy5_3 => (intro w hSw; (try dsimp only at hSw); have hq := ldHd_m ht_ref hSw; (try simp only [List.getElem_toArray, List.getElem_cons_zero, List.getElem_cons_succ]); go_simp <;> with_reducible rfl)
          (try simp only [Act.put, List.getElem_toArray, List.getElem_cons_zero, List.getElem_cons_succ, List.setIfInBounds_toArray, List.set_cons_zero, List.set_cons_succ])
          refine wpAnyH_take (i := 6) (v := ?v6_4) rfl (by kernel_rfl) (by kernel_rfl) (by kernel_rfl) (fun _ _ _ h => h) (Or.inl ⟨by rfl, ?hy6_4⟩) hHeld ?_
          case hy6_4 => (intro w hSw; (try dsimp only at hSw); have hq := ldHd_m ht_ref hSw; (try simp only [List.getElem_toArray, List.getElem_cons_zero, List.getElem_cons_succ]); go_simp <;> with_reducible rfl)
          (try simp only [Act.put, List.getElem_toArray, List.getElem_cons_zero, List.getElem_cons_succ, List.setIfInBounds_toArray, List.set_cons_zero, List.set_cons_succ])
          refine wpAnyH_done (by kernel_rfl) ?_ _
          go_wp2_with fail
          have hX : Oth [q] w7 (w7.setCells q 0 H9.cells) := oth_setCells q _ _ _ _ (Oth.refl _ _)
          have hnq : NoB [q] w7 := K8.out.hq.nob (by decide)
          rw [HE.out]
          exact bodyPost_ret (v := .tuple #[H9.val, .slice A7 m3 c7, .int .i64 0]) (res_hd3 ht_ref rfl _ _ q H9 _ _ rfl rfl rfl (K8.out.hq.whole H9)) rfl ⟨H9, A7, m3, c7, rfl, KH.out.2, K8.out.own.off hX hnq, O8.out.offS hX hnq, K8.out.bel.trans (hX.below (fun j hj => by rw [List.mem_singleton.1 hj]; exact K8.out.lq) K8.out.bel.size)⟩
end Go.Proofs.Ytppopdjfecabfaa

/- Layer 10's reference: Parse together, Bytes. Conditions: at most a million bytes. -/
namespace Go.Proofs.Ytppopdjfecabfaa
open Go.RowKit
set_option linter.unusedVariables false
set_option linter.unusedSimpArgs false
theorem rparse_any (A : Option Addr) (n c : Nat) (l : List UInt8) (w : World) (h : RB w w.heap.size A n l) (hc : n ≤ c ∧ c ≤ maxLen) (hn : n ≤ 1000000) :
    Calls Try.prog 29 #[.slice A n c] w (RetHd (prs l) w) := by
  rcases l with _ | ⟨f, t⟩
  · exact rparse_bad A n c [] w h hn (.inl (by simp))
  · by_cases hf : f.toNat < 128
    · exact rparse_bad A n c _ w h hn (.inr ⟨f, t, rfl, hf⟩)
    · by_cases h4 : t.length < 4
      · exact rparse_bad A n c _ w h hn (.inl (by simp; omega))
      · rw [prs_more f t hf h4]
        exact rparse_more A n c f t w h hc hn hf h4
theorem byt_long (p : Pl) (h : ¬ p.1.toNat < 128) (h1 : 255 < p.2.2.1.length ∨ 255 < p.2.2.2.length) : byt p = ([], 15) := (if_neg h).trans (if_pos h1)
theorem byt_ok (p : Pl) (h : ¬ p.1.toNat < 128) (h1 : ¬ (255 < p.2.2.1.length ∨ 255 < p.2.2.2.length)) : byt p = (rawP p, 0) := (if_neg h).trans (if_neg h1)
theorem putL_four (v : Nat) : putL v 4 = [UInt8.ofNat (v / 256 / 256 / 256), UInt8.ofNat (v / 256 / 256), UInt8.ofNat (v / 256), UInt8.ofNat v] := rfl
theorem lit5 (f : UInt8) (v : Nat) (hv : v ≤ 4294967295) : #[Value.int .u8 (f.toNat : Int), .int .u8 ((v : Int) / 16777216), .int .u8 ((v : Int) / 65536 % 256), .int .u8 ((v : Int) / 256 % 256), .int .u8 ((v : Int) % 256)] = (bvs (f :: putL v 4)).toArray := by
  rw [putL_four]
  simp only [bvs, bv, List.map_cons, List.map_nil, UInt8.toNat_ofNat', Array.mk.injEq, List.cons.injEq, Value.int.injEq, true_and, and_true]
  omega
theorem lit1 (n : Nat) (hn : n ≤ 255) : #[Value.int .u8 (n : Int)] = (bvs [UInt8.ofNat n]).toArray := by
  simp only [bvs, bv, List.map_cons, List.map_nil, UInt8.toNat_ofNat', Array.mk.injEq, List.cons.injEq, Value.int.injEq, true_and, and_true]
  omega
/-- A header beside bytes that grow. -/
theorem Hc.app {T : TypeId} {w w' : World} {x base n c : Nat} {h : Hd} {A : Option Addr} {l : List UInt8} (k : Hc T w x h) (hT : T ≠ 5) (r : OwnB w base A n c l) (ho : Oth (blkO A) w w') : Hc T w' x h :=
  k.oth ho (fun hm => by
    obtain ⟨a, ea, hk⟩ := mem_blkO hm
    exact (k.nob hT).own r a.block 0 (by rw [ea]; exact congrArg some (r.spot a ea).1) (by simp [hk]))
attribute [local irreducible] putL byt
attribute [local go_sem ↓] ex_ldHr ex_stHr
set_option maxRecDepth 100000 in
set_option maxHeartbeats 4000000 in
theorem rhbytes_any (h : Hd) (w : World) (hk : h.ok w) (ha : h.a.length ≤ 1000000) (hb : h.b.length ≤ 1000000) :
    Calls Try.prog 27 #[h.val] w (RetBE (byt h.pl).1.length (byt h.pl).1 (byt h.pl).2 w) := by
  have HK := Lib.hid hk
  have hf8 := h.f.toNat_lt
  by_cases hf : h.f.toNat < 128
  · have he : byt h.pl = ([], 14) := by unfold byt; exact if_pos hf
    rw [he]
    clear hk he
    go_enter Try.func27, Try.ntmps27
    go_wp2_with (first
      | (with_reducible show wpList _ _ _ (⟨_, .box _ (.tmp 0), _, _, _, none⟩ :: _) _ _; refine wpList_boxN rfl _ (.tmp 0) rfl h rfl ?_; intro w1 q hc1 hb1 hx1; have B1 := Lib.hid hb1; have c0 := hc1.c0; clear hc1 hb1 hx1))
    go_ret2
    exact ⟨none, 0, rfl, OwnB.nil_ _ _, B1.out⟩
  by_cases h1 : 255 < h.a.length
  · have he : byt h.pl = ([], 15) := byt_long h.pl hf (.inl h1)
    rw [he]
    have d1 : decide (255 < (h.a.length : Int)) = true := decide_eq_true (by omega)
    clear hk he
    go_enter Try.func27, Try.ntmps27
    go_wp2_with (first
      | (with_reducible show wpList _ _ _ (⟨_, .box _ (.tmp 0), _, _, _, none⟩ :: _) _ _; refine wpList_boxN rfl _ (.tmp 0) rfl h rfl ?_; intro w1 q hc1 hb1 hx1; have B1 := Lib.hid hb1; have c0 := hc1.c0; have c2 := hc1.c2; have c3 := hc1.c3; clear hc1 hb1 hx1))
    go_ret2
    exact ⟨none, 0, rfl, OwnB.nil_ _ _, B1.out⟩
  by_cases h2 : 255 < h.b.length
  · have he : byt h.pl = ([], 15) := byt_long h.pl hf (.inr h2)
    rw [he]
    have d1 : decide (255 < (h.a.length : Int)) = false := decide_eq_false (by omega)
    have d2 : decide (255 < (h.b.length : Int)) = true := decide_eq_true (by omega)
    clear hk he
    go_enter Try.func27, Try.ntmps27
    go_wp2_with (first
      | (with_reducible show wpList _ _ _ (⟨_, .box _ (.tmp 0), _, _, _, none⟩ :: _) _ _; refine wpList_boxN rfl _ (.tmp 0) rfl h rfl ?_; intro w1 q hc1 hb1 hx1; have B1 := Lib.hid hb1; have c0 := hc1.c0; have c2 := hc1.c2; have c3 := hc1.c3; clear hc1 hb1 hx1))
    go_ret2
    exact ⟨none, 0, rfl, OwnB.nil_ _ _, B1.out⟩
  have he : byt h.pl = (rawP h.pl, 0) := byt_ok h.pl hf (by show ¬ (255 < h.a.length ∨ 255 < h.b.length); omega)
  rw [he]
  have d1 : decide (255 < (h.a.length : Int)) = false := decide_eq_false (by omega)
  have d2 : decide (255 < (h.b.length : Int)) = false := decide_eq_false (by omega)
  have hv32 := hk.v32
  clear hk he
  go_enter Try.func27, Try.ntmps27
  go_wp2_with (first
    | (with_reducible show wpList _ _ _ (⟨_, .box _ (.tmp 0), _, _, _, none⟩ :: _) _ _; refine wpList_boxN rfl _ (.tmp 0) rfl h rfl ?_; intro w1 q hc1 hb1 hx1; have B1 := Lib.hid hb1; have C1 := Lib.hid hc1; have c0 := hc1.c0; have c1 := hc1.c1; have c2 := hc1.c2; have c3 := hc1.c3; clear hc1 hb1 hx1))
  have ha255 : h.a.length ≤ 255 := by omega
  have hb255 : h.b.length ≤ 255 := by omega
  have l5 := lit5 h.f h.v hv32
  obtain ⟨L0, HL0⟩ : ∃ L, Hid (L = h.f :: putL h.v 4) := ⟨_, Lib.hid rfl⟩
  rw [← HL0.out] at l5
  have hl5 : L0.length = 5 := by rw [HL0.out]; simp [putL_four]
  obtain ⟨cs, HCS⟩ : ∃ cs, Hid (cs = #[Value.int .u8 (h.f.toNat : Int), .int .u8 ((h.v : Int) / 16777216), .int .u8 ((h.v : Int) / 65536 % 256), .int .u8 ((h.v : Int) / 256 % 256), .int .u8 ((h.v : Int) % 256)]) := ⟨_, Lib.hid rfl⟩
  rw [← HCS.out] at l5 ⊢
  have OL0 : Hid (OwnB (w1.alloc (.cells cs 5)).drew w.heap.size (some ⟨w1.heap.size, 0, none⟩) 5 5 L0) := Lib.hid (OwnB.lit w1 _ L0 cs 5 l5 hl5 (by unfold maxLen; omega) B1.out.size)
  have BL0 : Hid (Below w.heap.size w (w1.alloc (.cells cs 5)).drew) := Lib.hid (bel_next B1.out (below_alloc _ _)).drew
  have CL0 : Hid (Hc 40 (w1.alloc (.cells cs 5)).drew q h) := Lib.hid (C1.out.step (below_alloc _ _).drew)
  obtain ⟨v0, HV0⟩ : ∃ v0, Hid (v0 = w1.alloc (.cells cs 5)) := ⟨_, Lib.hid rfl⟩
  obtain ⟨g0, HG0⟩ : ∃ v0, Hid (v0 = w1.heap.size) := ⟨_, Lib.hid rfl⟩
  rw [← HV0.out] at OL0 BL0 CL0 ⊢
  rw [← HG0.out] at OL0 ⊢
  have hwa : IntKind.u8.wrap (h.a.length : Int) = (h.a.length : Int) := by rw [IntKind.wrap_u8]; omega
  have hwb : IntKind.u8.wrap (h.b.length : Int) = (h.b.length : Int) := by rw [IntKind.wrap_u8]; omega
  have la1 := lit1 h.a.length ha255
  have lb1 := lit1 h.b.length hb255
  have LA1 := Lib.hid la1
  have LB1 := Lib.hid lb1
  clear C1 B1 c0 c1 c2 c3 l5 HCS la1 lb1
  refine wp_region_held_drew (S := fun w' => Hc 40 w' q h) (by kernel_rfl) CL0.out (fun hHeld => ?_)
  (try dsimp only at hHeld)
  refine wpAnyH_take (i := 0) (v := ?v0_1) rfl (by kernel_rfl) (by kernel_rfl) (by kernel_rfl) (fun _ _ _ h => h) (Or.inl ⟨by rfl, ?hy0_1⟩) hHeld ?_
  case hy0_1 => (intro w hSw; (try dsimp only at hSw); have q0 := hSw.c0; have q1 := hSw.c1; have q2 := hSw.c2; have q3 := hSw.c3; (try simp only [List.getElem_toArray, List.getElem_cons_zero, List.getElem_cons_succ]); go_simp <;> with_reducible rfl)
  (try simp only [Act.put, List.getElem_toArray, List.getElem_cons_zero, List.getElem_cons_succ, List.setIfInBounds_toArray, List.set_cons_zero, List.set_cons_succ])
  refine wpAnyH_take (i := 1) (v := ?v1_2) rfl (by kernel_rfl) (by kernel_rfl) (by kernel_rfl) (fun _ _ _ h => h) (Or.inl ⟨by rfl, ?hy1_2⟩) hHeld ?_
  case hy1_2 => (intro w hSw; (try dsimp only at hSw); have q0 := hSw.c0; have q1 := hSw.c1; have q2 := hSw.c2; have q3 := hSw.c3; (try simp only [List.getElem_toArray, List.getElem_cons_zero, List.getElem_cons_succ]); go_simp <;> with_reducible rfl)
  (try simp only [Act.put, List.getElem_toArray, List.getElem_cons_zero, List.getElem_cons_succ, List.setIfInBounds_toArray, List.set_cons_zero, List.set_cons_succ])
  refine wpAnyH_take (i := 2) (v := ?v2_3) rfl (by kernel_rfl) (by kernel_rfl) (by kernel_rfl) (fun _ _ _ h => h) (Or.inl ⟨by rfl, ?hy2_3⟩) hHeld ?_
  case hy2_3 => (intro w hSw; (try dsimp only at hSw); have q0 := hSw.c0; have q1 := hSw.c1; have q2 := hSw.c2; have q3 := hSw.c3; (try simp only [List.getElem_toArray, List.getElem_cons_zero, List.getElem_cons_succ]); go_simp <;> with_reducible rfl)
  (try simp only [Act.put, List.getElem_toArray, List.getElem_cons_zero, List.getElem_cons_succ, List.setIfInBounds_toArray, List.set_cons_zero, List.set_cons_succ])
  refine wpAnyH_take (i := 3) (v := ?v3_4) rfl (by kernel_rfl) (by kernel_rfl) (by kernel_rfl) (fun _ _ _ h => h) (Or.inl ⟨by rfl, ?hy3_4⟩) hHeld ?_
  case hy3_4 => (intro w hSw; (try dsimp only at hSw); have q0 := hSw.c0; have q1 := hSw.c1; have q2 := hSw.c2; have q3 := hSw.c3; (try simp only [List.getElem_toArray, List.getElem_cons_zero, List.getElem_cons_succ]); go_simp <;> with_reducible rfl)
  (try simp only [Act.put, List.getElem_toArray, List.getElem_cons_zero, List.getElem_cons_succ, List.setIfInBounds_toArray, List.set_cons_zero, List.set_cons_succ])
  refine wpAnyH_take (i := 4) (v := ?v4_5) rfl (by kernel_rfl) (by kernel_rfl) (by kernel_rfl) (fun _ _ _ h => h) (Or.inl ⟨by rfl, ?hy4_5⟩) hHeld ?_
  case hy4_5 => (intro w hSw; (try dsimp only at hSw); have q0 := hSw.c0; have q1 := hSw.c1; have q2 := hSw.c2; have q3 := hSw.c3; (try simp only [List.getElem_toArray, List.getElem_cons_zero, List.getElem_cons_succ]); go_simp <;> with_reducible rfl)
  (try simp only [Act.put, List.getElem_toArray, List.getElem_cons_zero, List.getElem_cons_succ, List.setIfInBounds_toArray, List.set_cons_zero, List.set_cons_succ])
  refine wpAnyH_take (i := 7) (v := ?v7_6) rfl (by kernel_rfl) (by kernel_rfl) (by kernel_rfl) (fun _ _ _ h => h) (Or.inl ⟨by rfl, ?hy7_6⟩) hHeld ?_
  case hy7_6 => (intro w hSw; (try dsimp only at hSw); have q0 := hSw.c0; have q1 := hSw.c1; have q2 := hSw.c2; have q3 := hSw.c3; (try simp only [List.getElem_toArray, List.getElem_cons_zero, List.getElem_cons_succ]); go_simp <;> with_reducible rfl)
  (try simp only [Act.put, List.getElem_toArray, List.getElem_cons_zero, List.getElem_cons_succ, List.setIfInBounds_toArray, List.set_cons_zero, List.set_cons_succ])
  refine wpAnyH_take (i := 8) (v := ?v8_7) rfl (by kernel_rfl) (by kernel_rfl) (by kernel_rfl) (fun _ _ _ h => h) (Or.inl ⟨by rfl, ?hy8_7⟩) hHeld ?_
  case hy8_7 => (intro w hSw; (try dsimp only at hSw); have q0 := hSw.c0; have q1 := hSw.c1; have q2 := hSw.c2; have q3 := hSw.c3; (try simp only [List.getElem_toArray, List.getElem_cons_zero, List.getElem_cons_succ]); go_simp <;> with_reducible rfl)
  (try simp only [Act.put, List.getElem_toArray, List.getElem_cons_zero, List.getElem_cons_succ, List.setIfInBounds_toArray, List.set_cons_zero, List.set_cons_succ])
  refine wpAnyH_ready (rs := [5]) (by kernel_rfl) (by simp) ?_
  refine AllReadyH.cons rfl (fun K hK => ?_) AllReadyH.nil
  (try simp only [List.getElem_toArray, List.getElem_cons_zero, List.getElem_cons_succ])
  go_simp
  (try rw [hwa])
  refine hK.out _ _ (CL0.out.step (below_alloc _ _)) (fun hHeld => ?_)
  clear hK K
  (try simp only [Act.put, List.getElem_toArray, List.getElem_cons_zero, List.getElem_cons_succ, List.setIfInBounds_toArray, List.set_cons_zero, List.set_cons_succ])
  refine wpAnyH_ready (rs := [6]) (by kernel_rfl) (by simp) ?_
  refine AllReadyH.cons rfl (fun K hK => ?_) AllReadyH.nil
  (try simp only [List.getElem_toArray, List.getElem_cons_zero, List.getElem_cons_succ])
  rw [if_pos (by rfl)]
  refine wp_app (.tmp 36) (.tmp 41) rfl w.heap.size _ _ _ L0 rfl (by exact (OL0.out.below (below_alloc _ (.cells #[.int .u8 (h.a.length : Int)] 5)))) _ (some ⟨v0.drew.heap.size, 0, none⟩) 1 1 [UInt8.ofNat h.a.length] rfl (by exact (RB.lit v0.drew [UInt8.ofNat h.a.length] _ 1 _ LA1.out rfl rfl)) (by omega) (by exact (bel_next BL0.out (below_alloc _ (.cells #[.int .u8 (h.a.length : Int)] 5))).size) ?_
  intro A1 k1 v1 ho hg hb
  have OL1 := Lib.hid ho
  have BL1 := Lib.hid ((bel_next BL0.out (below_alloc _ (.cells #[.int .u8 (h.a.length : Int)] 5))).trans hb)
  have CL1 : Hid (Hc 40 v1 q h) := Lib.hid (Hc.app (CL0.out.step (below_alloc _ (.cells #[.int .u8 (h.a.length : Int)] 5))) (by decide) (OL0.out.below (below_alloc _ (.cells #[.int .u8 (h.a.length : Int)] 5))) (Oth.of_grown hg))
  clear ho hg hb
  refine hK.out _ _ CL1.out (fun hHeld => ?_)
  clear hK K
  (try simp only [Act.put, List.getElem_toArray, List.getElem_cons_zero, List.getElem_cons_succ, List.setIfInBounds_toArray, List.set_cons_zero, List.set_cons_succ])
  refine wpAnyH_ready (rs := [9]) (by kernel_rfl) (by simp) ?_
  refine AllReadyH.cons rfl (fun K hK => ?_) AllReadyH.nil
  (try simp only [List.getElem_toArray, List.getElem_cons_zero, List.getElem_cons_succ])
  rw [if_pos (by rfl)]
  refine wp_app (.tmp 42) (.tmp 44) rfl w.heap.size _ _ _ (L0 ++ [UInt8.ofNat h.a.length]) rfl (by exact OL1.out) _ h.A h.a.length h.c h.a rfl (by exact (HK.out.a.below BL1.out)) (by omega) (by exact BL1.out.size) ?_
  intro A2 k2 v2 ho hg hb
  have OL2 := Lib.hid ho
  have BL2 := Lib.hid (BL1.out.trans hb)
  have CL2 : Hid (Hc 40 v2 q h) := Lib.hid (Hc.app (CL1.out) (by decide) OL1.out (Oth.of_grown hg))
  clear ho hg hb
  refine hK.out _ _ CL2.out (fun hHeld => ?_)
  clear hK K
  (try simp only [Act.put, List.getElem_toArray, List.getElem_cons_zero, List.getElem_cons_succ, List.setIfInBounds_toArray, List.set_cons_zero, List.set_cons_succ])
  refine wpAnyH_take (i := 10) (v := ?v10_8) rfl (by kernel_rfl) (by kernel_rfl) (by kernel_rfl) (fun _ _ _ h => h) (Or.inl ⟨by rfl, ?hy10_8⟩) hHeld ?_
  case hy10_8 => (intro w hSw; (try dsimp only at hSw); have q0 := hSw.c0; have q1 := hSw.c1; have q2 := hSw.c2; have q3 := hSw.c3; (try simp only [List.getElem_toArray, List.getElem_cons_zero, List.getElem_cons_succ]); go_simp <;> with_reducible rfl)
  (try simp only [Act.put, List.getElem_toArray, List.getElem_cons_zero, List.getElem_cons_succ, List.setIfInBounds_toArray, List.set_cons_zero, List.set_cons_succ])
  refine wpAnyH_done (by kernel_rfl) ?_ _
  go_wp2_with fail
  obtain ⟨m6, hm6⟩ : ∃ m6, m6 = 6 + h.a.length := ⟨_, rfl⟩
  rw [show 5 + 1 + h.a.length = m6 from by omega] at OL2 ⊢
  (try rw [← hm6])
  have bm6 : m6 ≤ 300 := by omega
  clear hm6
  obtain ⟨L2, HL2⟩ : ∃ L2, Hid (L2 = L0 ++ [UInt8.ofNat h.a.length] ++ h.a) := ⟨_, Lib.hid rfl⟩
  rw [← HL2.out] at OL2
  have OD2 : Hid (OwnB v2.drew w.heap.size A2 m6 k2 L2) := Lib.hid OL2.out.drew
  have BD2 : Hid (Below w.heap.size w v2.drew) := Lib.hid BL2.out.drew
  have CD2 : Hid (Hc 40 v2.drew q h) := CL2
  clear OL0 BL0 CL0 OL1 BL1 CL1 OL2 BL2 CL2 hHeld
  refine wp_region_held_drew (S := fun w' => Hc 40 w' q h) (by kernel_rfl) CD2.out (fun hHeld => ?_)
  (try dsimp only at hHeld)
  refine wpAnyH_take (i := 0) (v := ?v0_51) rfl (by kernel_rfl) (by kernel_rfl) (by kernel_rfl) (fun _ _ _ h => h) (Or.inl ⟨by rfl, ?hy0_51⟩) hHeld ?_
  case hy0_51 => (intro w hSw; (try dsimp only at hSw); have q0 := hSw.c0; have q1 := hSw.c1; have q2 := hSw.c2; have q3 := hSw.c3; (try simp only [List.getElem_toArray, List.getElem_cons_zero, List.getElem_cons_succ]); go_simp <;> with_reducible rfl)
  (try simp only [Act.put, List.getElem_toArray, List.getElem_cons_zero, List.getElem_cons_succ, List.setIfInBounds_toArray, List.set_cons_zero, List.set_cons_succ])
  refine wpAnyH_take (i := 1) (v := ?v1_52) rfl (by kernel_rfl) (by kernel_rfl) (by kernel_rfl) (fun _ _ _ h => h) (Or.inl ⟨by rfl, ?hy1_52⟩) hHeld ?_
  case hy1_52 => (intro w hSw; (try dsimp only at hSw); have q0 := hSw.c0; have q1 := hSw.c1; have q2 := hSw.c2; have q3 := hSw.c3; (try simp only [List.getElem_toArray, List.getElem_cons_zero, List.getElem_cons_succ]); go_simp <;> with_reducible rfl)
  (try simp only [Act.put, List.getElem_toArray, List.getElem_cons_zero, List.getElem_cons_succ, List.setIfInBounds_toArray, List.set_cons_zero, List.set_cons_succ])
  refine wpAnyH_take (i := 2) (v := ?v2_53) rfl (by kernel_rfl) (by kernel_rfl) (by kernel_rfl) (fun _ _ _ h => h) (Or.inl ⟨by rfl, ?hy2_53⟩) hHeld ?_
  case hy2_53 => (intro w hSw; (try dsimp only at hSw); have q0 := hSw.c0; have q1 := hSw.c1; have q2 := hSw.c2; have q3 := hSw.c3; (try simp only [List.getElem_toArray, List.getElem_cons_zero, List.getElem_cons_succ]); go_simp <;> with_reducible rfl)
  (try simp only [Act.put, List.getElem_toArray, List.getElem_cons_zero, List.getElem_cons_succ, List.setIfInBounds_toArray, List.set_cons_zero, List.set_cons_succ])
  refine wpAnyH_take (i := 3) (v := ?v3_54) rfl (by kernel_rfl) (by kernel_rfl) (by kernel_rfl) (fun _ _ _ h => h) (Or.inl ⟨by rfl, ?hy3_54⟩) hHeld ?_
  case hy3_54 => (intro w hSw; (try dsimp only at hSw); have q0 := hSw.c0; have q1 := hSw.c1; have q2 := hSw.c2; have q3 := hSw.c3; (try simp only [List.getElem_toArray, List.getElem_cons_zero, List.getElem_cons_succ]); go_simp <;> with_reducible rfl)
  (try simp only [Act.put, List.getElem_toArray, List.getElem_cons_zero, List.getElem_cons_succ, List.setIfInBounds_toArray, List.set_cons_zero, List.set_cons_succ])
  refine wpAnyH_take (i := 4) (v := ?v4_55) rfl (by kernel_rfl) (by kernel_rfl) (by kernel_rfl) (fun _ _ _ h => h) (Or.inl ⟨by rfl, ?hy4_55⟩) hHeld ?_
  case hy4_55 => (intro w hSw; (try dsimp only at hSw); have q0 := hSw.c0; have q1 := hSw.c1; have q2 := hSw.c2; have q3 := hSw.c3; (try simp only [List.getElem_toArray, List.getElem_cons_zero, List.getElem_cons_succ]); go_simp <;> with_reducible rfl)
  (try simp only [Act.put, List.getElem_toArray, List.getElem_cons_zero, List.getElem_cons_succ, List.setIfInBounds_toArray, List.set_cons_zero, List.set_cons_succ])
  refine wpAnyH_take (i := 7) (v := ?v7_56) rfl (by kernel_rfl) (by kernel_rfl) (by kernel_rfl) (fun _ _ _ h => h) (Or.inl ⟨by rfl, ?hy7_56⟩) hHeld ?_
  case hy7_56 => (intro w hSw; (try dsimp only at hSw); have q0 := hSw.c0; have q1 := hSw.c1; have q2 := hSw.c2; have q3 := hSw.c3; (try simp only [List.getElem_toArray, List.getElem_cons_zero, List.getElem_cons_succ]); go_simp <;> with_reducible rfl)
  (try simp only [Act.put, List.getElem_toArray, List.getElem_cons_zero, List.getElem_cons_succ, List.setIfInBounds_toArray, List.set_cons_zero, List.set_cons_succ])
  refine wpAnyH_take (i := 8) (v := ?v8_57) rfl (by kernel_rfl) (by kernel_rfl) (by kernel_rfl) (fun _ _ _ h => h) (Or.inl ⟨by rfl, ?hy8_57⟩) hHeld ?_
  case hy8_57 => (intro w hSw; (try dsimp only at hSw); have q0 := hSw.c0; have q1 := hSw.c1; have q2 := hSw.c2; have q3 := hSw.c3; (try simp only [List.getElem_toArray, List.getElem_cons_zero, List.getElem_cons_succ]); go_simp <;> with_reducible rfl)
  (try simp only [Act.put, List.getElem_toArray, List.getElem_cons_zero, List.getElem_cons_succ, List.setIfInBounds_toArray, List.set_cons_zero, List.set_cons_succ])
  refine wpAnyH_ready (rs := [5]) (by kernel_rfl) (by simp) ?_
  refine AllReadyH.cons rfl (fun K hK => ?_) AllReadyH.nil
  (try simp only [List.getElem_toArray, List.getElem_cons_zero, List.getElem_cons_succ])
  go_simp
  (try rw [hwb])
  refine hK.out _ _ (CD2.out.step (below_alloc _ _)) (fun hHeld => ?_)
  clear hK K
  (try simp only [Act.put, List.getElem_toArray, List.getElem_cons_zero, List.getElem_cons_succ, List.setIfInBounds_toArray, List.set_cons_zero, List.set_cons_succ])
  refine wpAnyH_ready (rs := [6]) (by kernel_rfl) (by simp) ?_
  refine AllReadyH.cons rfl (fun K hK => ?_) AllReadyH.nil
  (try simp only [List.getElem_toArray, List.getElem_cons_zero, List.getElem_cons_succ])
  rw [if_pos (by rfl)]
  refine wp_app (.tmp 46) (.tmp 51) rfl w.heap.size _ _ _ L2 rfl (by exact (OD2.out.below (below_alloc _ (.cells #[.int .u8 (h.b.length : Int)] 5)))) _ (some ⟨v2.drew.heap.size, 0, none⟩) 1 1 [UInt8.ofNat h.b.length] rfl (by exact (RB.lit v2.drew [UInt8.ofNat h.b.length] _ 1 _ LB1.out rfl rfl)) (by omega) (by exact (bel_next BD2.out (below_alloc _ (.cells #[.int .u8 (h.b.length : Int)] 5))).size) ?_
  intro A3 k3 v3 ho hg hb
  have OL3 := Lib.hid ho
  have BL3 := Lib.hid ((bel_next BD2.out (below_alloc _ (.cells #[.int .u8 (h.b.length : Int)] 5))).trans hb)
  have CL3 : Hid (Hc 40 v3 q h) := Lib.hid (Hc.app (CD2.out.step (below_alloc _ (.cells #[.int .u8 (h.b.length : Int)] 5))) (by decide) (OD2.out.below (below_alloc _ (.cells #[.int .u8 (h.b.length : Int)] 5))) (Oth.of_grown hg))
  clear ho hg hb
  refine hK.out _ _ CL3.out (fun hHeld => ?_)
  clear hK K
  (try simp only [Act.put, List.getElem_toArray, List.getElem_cons_zero, List.getElem_cons_succ, List.setIfInBounds_toArray, List.set_cons_zero, List.set_cons_succ])
  refine wpAnyH_ready (rs := [9]) (by kernel_rfl) (by simp) ?_
  refine AllReadyH.cons rfl (fun K hK => ?_) AllReadyH.nil
  (try simp only [List.getElem_toArray, List.getElem_cons_zero, List.getElem_cons_succ])
  rw [if_pos (by rfl)]
  refine wp_app (.tmp 52) (.tmp 54) rfl w.heap.size _ _ _ (L2 ++ [UInt8.ofNat h.b.length]) rfl (by exact OL3.out) _ h.B h.b.length h.d h.b rfl (by exact (HK.out.b.below BL3.out)) (by omega) (by exact BL3.out.size) ?_
  intro A4 k4 v4 ho hg hb
  have OL4 := Lib.hid ho
  have BL4 := Lib.hid (BL3.out.trans hb)
  have CL4 : Hid (Hc 40 v4 q h) := Lib.hid (Hc.app (CL3.out) (by decide) OL3.out (Oth.of_grown hg))
  clear ho hg hb
  refine hK.out _ _ CL4.out (fun hHeld => ?_)
  clear hK K
  (try simp only [Act.put, List.getElem_toArray, List.getElem_cons_zero, List.getElem_cons_succ, List.setIfInBounds_toArray, List.set_cons_zero, List.set_cons_succ])
  refine wpAnyH_take (i := 10) (v := ?v10_58) rfl (by kernel_rfl) (by kernel_rfl) (by kernel_rfl) (fun _ _ _ h => h) (Or.inl ⟨by rfl, ?hy10_58⟩) hHeld ?_
  case hy10_58 => (intro w hSw; (try dsimp only at hSw); have q0 := hSw.c0; have q1 := hSw.c1; have q2 := hSw.c2; have q3 := hSw.c3; (try simp only [List.getElem_toArray, List.getElem_cons_zero, List.getElem_cons_succ]); go_simp <;> with_reducible rfl)
  (try simp only [Act.put, List.getElem_toArray, List.getElem_cons_zero, List.getElem_cons_succ, List.setIfInBounds_toArray, List.set_cons_zero, List.set_cons_succ])
  refine wpAnyH_take (i := 11) (v := ?v11_59) rfl (by kernel_rfl) (by kernel_rfl) (by kernel_rfl) (fun _ _ _ h => h) (Or.inl ⟨by rfl, ?hy11_59⟩) hHeld ?_
  case hy11_59 => (intro w hSw; (try dsimp only at hSw); have q0 := hSw.c0; have q1 := hSw.c1; have q2 := hSw.c2; have q3 := hSw.c3; (try simp only [List.getElem_toArray, List.getElem_cons_zero, List.getElem_cons_succ]); go_simp <;> with_reducible rfl)
  (try simp only [Act.put, List.getElem_toArray, List.getElem_cons_zero, List.getElem_cons_succ, List.setIfInBounds_toArray, List.set_cons_zero, List.set_cons_succ])
  refine wpAnyH_done (by kernel_rfl) ?_ _
  go_wp2_with fail
  go_ret2
  have eL : L2 ++ [UInt8.ofNat h.b.length] ++ h.b = rawP h.pl := by
    rw [HL2.out, HL0.out]
    unfold rawP
    simp [Hd.pl]
  have O4 := OL4.out
  rw [eL] at O4
  have hn := O4.len
  rw [← hn] at O4
  exact ⟨A4, k4, by rw [hn]; rfl, O4, BL4.out⟩
end Go.Proofs.Ytppopdjfecabfaa

