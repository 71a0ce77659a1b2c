/- Layer 10's reference: ids, Parse, for any bytes. Condition: at most a million bytes. -/
import Derived.Test.YtpkombfiejdflaaHeadS
namespace Go.Proofs.Ytpkombfiejdflaa
open Go.RowKit
set_option linter.unusedVariables false
set_option linter.unusedSimpArgs false
/-! Plain. -/
theorem prs_nil : prs [] = (zeroP, [], 12) := rfl
theorem prs_kind (f : UInt8) (t : List UInt8) (h : f.toNat < 128) : prs (f :: t) = (zeroP, [], 14) := if_pos h
theorem prs_few (f : UInt8) (t : List UInt8) (h : ¬ f.toNat < 128) (h4 : t.length < 4) : prs (f :: t) = (zeroP, [], 12) := (if_neg h).trans (if_pos h4)
theorem prs_more (f : UInt8) (t : List UInt8) (h : ¬ f.toNat < 128) (h4 : ¬ t.length < 4) : prs (f :: t) = prs2 f (numL (t.take 4)) (t.drop 4) := (if_neg h).trans (if_neg h4)
theorem idL_some {l a r : List UInt8} (h : idL l = some (a, r)) : ∃ f t, l = f :: t ∧ f.toNat ≤ t.length ∧ a = t.take f.toNat ∧ r = t.drop f.toNat := by
  rcases l with _ | ⟨f, t⟩
  · cases h
  · rw [show idL (f :: t) = if t.length < f.toNat then none else some (t.take f.toNat, t.drop f.toNat) from rfl] at h
    by_cases h1 : t.length < f.toNat
    · rw [if_pos h1] at h; cases h
    · rw [if_neg h1] at h
      injection h with h
      injection h with h2 h3
      exact ⟨f, t, rfl, by omega, h2.symm, h3.symm⟩
attribute [local irreducible] numS shortS restS prs numL

set_option maxRecDepth 100000 in
set_option maxHeartbeats 400000 in
theorem rid_bad (A : Option Addr) (n c : Nat) (l : List UInt8) (w : World) (h : RB w w.heap.size A n l) (hn : n ≤ 1000000) (hi : idL l = none) :
    Calls Try.prog 24 #[.slice A n c] w fun e w' => e = .returned (.tuple #[.slice none 0 0, .slice none 0 0, .bool false]) ∧ w = w' := by
  have hl := h.len
  rcases l with _ | ⟨f, t⟩
  · subst hl
    clear h hi
    go_enter Try.func24, Try.ntmps24
    go_wp2_with fail
    go_ret3
    exact ⟨rfl, rfl⟩
  · have hlt : t.length < f.toNat := by
      by_cases h1 : t.length < f.toNat
      · exact h1
      · exfalso
        rw [show idL (f :: t) = if t.length < f.toNat then none else some (t.take f.toNat, t.drop f.toNat) from rfl, if_neg h1] at hi
        cases hi
    obtain ⟨m, rfl⟩ : ∃ m, n = m + 1 := ⟨t.length, by rw [← hl]; rfl⟩
    obtain ⟨b, o, rfl, hb, x, hx, hcell⟩ := h.at_ (k := 0) (by omega)
    obtain rfl : f = x := by simpa using hx
    rw [Nat.add_zero] at hcell
    have hm : t.length = m := by simpa using hl
    have d0 : (((m + 1 : Nat) : Int) == 0) = false := by rw [beq_eq_false_iff_ne]; omega
    have d1 : m < f.toNat := by omega
    have hf8 := f.toNat_lt
    clear h hi hl hx hlt hm
    go_enter Try.func24, Try.ntmps24
    go_wp2_with fail
    go_ret3
    exact ⟨rfl, rfl⟩

set_option maxRecDepth 100000 in
set_option maxHeartbeats 400000 in
theorem rid_ok (A : Option Addr) (n c : Nat) (f : UInt8) (t : List UInt8) (w : World) (h : RB w w.heap.size A n (f :: t)) (hn : n ≤ 1000000) (hc : n ≤ c ∧ c ≤ maxLen) (k : Nat) (hk : f.toNat = k) (hkt : k ≤ t.length) :
    Calls Try.prog 24 #[.slice A n c] w fun e w' => ∃ A1 c1, e = .returned (.tuple #[.slice A1 k c1, .slice (cutA A c (k + 1)) (n - (k + 1)) (c - (k + 1)), .bool true]) ∧ OwnB w' w.heap.size A1 k c1 (t.take k) ∧ Below w.heap.size w w' := by
  have hl := h.len
  unfold maxLen at hc
  obtain ⟨m, rfl⟩ : ∃ m, n = m + 1 := ⟨t.length, by rw [← hl]; rfl⟩
  have hm : t.length = m := by simpa using hl
  have hpart := h.part (i := 1) (j := k + 1) (c := c) (by omega) (by omega) hc.1
  have hcut := cut_lh A (m + 1) c 1 (k + 1) (by omega) (by omega)
  have hcut2 := cut_l A (m + 1) c (k + 1) (by omega)
  have e : ((f :: t).take (k + 1)).drop 1 = t.take k := by simp
  rw [e, Nat.add_sub_cancel] at hpart
  obtain ⟨b, o, hA, hb, x, hx, hcell⟩ := h.at_ (k := 0) (by omega)
  obtain rfl : f = x := by simpa using hx
  rw [Nat.add_zero] at hcell
  have d0 : (((m + 1 : Nat) : Int) == 0) = false := by rw [beq_eq_false_iff_ne]; omega
  have hf8 := f.toNat_lt
  rw [hk] at hcell hf8
  have d1 : ¬ m < k := by omega
  obtain ⟨j, hj⟩ : ∃ j, j = k + 1 := ⟨_, rfl⟩
  have hw : IntKind.i64.wrap (1 + (k : Int)) = (j : Int) := by
    rw [IntKind.wrap_i64]
    omega
  rw [← hj] at hcut hcut2 ⊢
  have hcut1 : ∀ W : World, (Instr.slice 22 (.slice A (m + 1) c) (some (.int .i64 1)) (some (.int .i64 (j : Int))) none).run Try.prog W = .ok (.slice (cutA A c 1) k (c - 1)) W := by
    have e : j - 1 = k := by omega
    rw [e] at hcut
    exact hcut
  have HP := Lib.hid hpart
  obtain ⟨ca, HCA⟩ : ∃ ca, Hid (ca = cutA A c 1) := ⟨_, Lib.hid rfl⟩
  obtain ⟨cb, HCB⟩ : ∃ ca, Hid (ca = cutA A c j) := ⟨_, Lib.hid rfl⟩
  rw [← HCA.out] at hcut1 HP
  rw [← HCB.out] at hcut2 ⊢
  subst hA
  obtain ⟨p, HPP⟩ : ∃ p, Hid (p = t.take k) := ⟨_, Lib.hid rfl⟩
  rw [← HPP.out] at HP ⊢
  clear h hl hx hm hpart e hk hkt hcut hj
  go_enter Try.func24, Try.ntmps24
  go_wp2_with fail
  go_region_law (refine step_app rfl (.tmp 23) (.tmp 27) rfl w.heap.size _ _ _ [] rfl ((OwnB.lit w _ [] #[] 0 rfl rfl (by unfold maxLen; omega) (Nat.le_refl _))).drew w.heap.size ca k (c - 1) p rfl ((HP.out.alloc (Nat.le_refl _) _).drew) (by omega) (by simp) ?_; intro A2 c2 w2 hown2 _ hb2)
  all_goals
    go_wp2_with fail
    go_ret3
    exact ⟨A2, c2, rfl, by simpa using hown2, ((Below.refl _ _).alloc (Nat.le_refl _) _).drew.trans hb2⟩

/-- What the reference's Parse carries: the header g, the result's variable q. -/
structure QK (v : World) (g q : Nat) (h : Hd) (w : World) : Prop where
  bel : Below v.heap.size v w
  lg : v.heap.size ≤ g
  lq : v.heap.size ≤ q
  gq : g ≠ q
  hd : Hc 31 w g h
  hq : Hc 31 w q zeroH
  own : h.own w v.heap.size
section
variable {v w w' : World} {g q n c : Nat} {h h' : Hd} {A : Option Addr} {l : List UInt8}
theorem QK.step (k : QK v g q h w) (hb : Below w.heap.size w w') : QK v g q h w' :=
  ⟨bel_next k.bel hb, k.lg, k.lq, k.gq, k.hd.step hb, k.hq.step hb, k.own.step hb⟩
theorem QK.put (k : QK v g q h w) (j : Nat) (u : Value) (hh : Hc 31 (w.setCell ⟨g, j, none⟩ u) g h') (ho : Hd.own (w.setCell ⟨g, j, none⟩ u) v.heap.size h') : QK v g q h' (w.setCell ⟨g, j, none⟩ u) := by
  have hO : Oth [g] w (w.setCell ⟨g, j, none⟩ u) := (Oth.refl [g] w).set (x := g) (by simp) j u
  exact ⟨k.bel.trans (hO.below (fun j hj => by rw [List.mem_singleton.1 hj]; exact k.lg) k.bel.size), k.lg, k.lq, k.gq, hh, k.hq.oth hO (by simpa using k.gq.symm), ho⟩
theorem QK.keep (k : QK v g q h w) (j : Nat) (u : Value) {base : Nat} (r : OwnB w base A n c l) : OwnB (w.setCell ⟨g, j, none⟩ u) base A n c l :=
  r.off ((Oth.refl [g] w).set (x := g) (by simp) j u) (k.hd.nob (by decide))
theorem QK.put1 (k : QK v g q h w) (u : Nat) (hu : u ≤ 4294967295) : QK v g q { h with v := u } (w.setCell ⟨g, 1, none⟩ (.int .u32 (u : Int))) := k.put 1 _ (k.hd.set1 u) ⟨k.keep _ _ k.own.a, k.keep _ _ k.own.b, hu⟩
theorem QK.put2 (k : QK v g q h w) (r : OwnB w v.heap.size A n c l) : QK v g q { h with A := A, c := c, a := l } (w.setCell ⟨g, 2, none⟩ (.slice A n c)) := by
  have hl := r.len
  subst hl
  exact k.put 2 _ (k.hd.set2 A c l) ⟨k.keep _ _ r, k.keep _ _ k.own.b, k.own.v32⟩
theorem QK.put3 (k : QK v g q h w) (r : OwnB w v.heap.size A n c l) : QK v g q { h with B := A, d := c, b := l } (w.setCell ⟨g, 3, none⟩ (.slice A n c)) := by
  have hl := r.len
  subst hl
  exact k.put 3 _ (k.hd.set3 A c l) ⟨k.keep _ _ k.own.a, k.keep _ _ r, k.own.v32⟩
end
attribute [local go_sem ↓] ex_ldHr ex_stHr
theorem numL_lt4 (l : List UInt8) (k : Nat) (hk : k < 4) : (numL (l.take k) : Int) < 16777216 := by
  have h1 := numL_lt _ (l.take k) rfl
  have h2 : (l.take k).length ≤ 3 := by rw [List.length_take]; omega
  have h3 : 256 ^ (l.take k).length ≤ 256 ^ 3 := Nat.pow_le_pow_right (by omega) h2
  have h4 : (256 : Nat) ^ 3 = 16777216 := by decide
  omega

end Go.Proofs.Ytpkombfiejdflaa
