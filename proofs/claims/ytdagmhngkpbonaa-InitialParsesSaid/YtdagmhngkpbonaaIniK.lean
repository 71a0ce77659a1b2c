/- What a walk over Initials carries; layer 11's statements' own first step; layer 11, plainly. No condition. -/
import Derived.Test.YtdagmhngkpbonaaIniS
import Derived.Test.YtdagmhngkpbonaaIniM
import Derived.Test.YtdagmhngkpbonaaVariAlive
namespace Go.Proofs.Ytdagmhngkpbonaa
open Go.RowKit
set_option linter.unusedVariables false
set_option linter.unusedSimpArgs false

/-- append in a guarded place. -/
theorem wpList_appGI {w : World} {ops : Array Oper} {rest : List Oper} {o : Oper} {a : Act} {Q : Exit → Act → World → Prop} (hw : Region.wanted o (yielded ops a.tmps) = true) (s x : Operand)
    (ho : o.op = .call { callee := .builtin .append, args := #[s, x], argTypes := #[22, 22] })
    (base : Nat) (A : Option Addr) (n c : Nat) (l : List UInt8) (hs : a.eval s = .slice A n c) (hown : OwnB w base A n c l)
    (B : Nat) (A' : Option Addr) (m c' : Nat) (l' : List UInt8) (hx : a.eval x = .slice A' m c') (hr : RB w B A' m l')
    (hsum : n + m ≤ 140737488355328) (hbase : base ≤ w.heap.size)
    (h : ∀ A'' c'' w', OwnB w' base A'' (n + m) c'' (l ++ l') → Below base w w' → wpList Try.prog ops Q rest (a.put o.dst (.slice A'' (n + m) c'')) w') : wpList Try.prog ops Q (o :: rest) a w :=
  wpList_step fun _ hK => by
    rw [if_pos hw]
    exact wp_app s x ho base A n c l hs hown B A' m c' l' hx hr hsum hbase fun A'' c'' w' h2 _ h4 => hK _ _ (h A'' c'' w' h2 h4)
/-- What a walk over Initials carries: rows of bytes, Initials, variables that hold one. -/
structure IW (v : World) (rows : List (Option Addr × Nat × Nat × List UInt8)) (is : List In) (bs : List (TypeId × Nat × In)) (w : World) : Prop where
  bel : Below v.heap.size v w
  row : ∀ r ∈ rows, RB w w.heap.size r.1 r.2.1 r.2.2.2 ∧ r.2.1 ≤ r.2.2.1 ∧ r.2.2.1 ≤ maxLen
  ini : ∀ i ∈ is, i.ok w
  box : ∀ b ∈ bs, Ic b.1 w b.2.1 b.2.2
section
variable {v w w' w2 w3 : World} {rows : List (Option Addr × Nat × Nat × List UInt8)} {is : List In} {bs : List (TypeId × Nat × In)} {n c base x : Nat} {A : Option Addr} {l : List UInt8} {e : Ending} {T : TypeId} {i : In}
theorem IW.step (k : IW v rows is bs w) (hb : Below w.heap.size w w') : IW v rows is bs w' :=
  ⟨bel_next k.bel hb, fun r hr => ⟨(k.row r hr).1.step hb, (k.row r hr).2⟩, fun i hi => (k.ini i hi).step hb, fun b hm => (k.box b hm).step hb⟩
theorem IW.add (k : IW v rows is bs w) (hr : RB w w.heap.size A n l) (h1 : n ≤ c) (h2 : c ≤ maxLen) : IW v ((A, n, c, l) :: rows) is bs w :=
  ⟨k.bel, fun r hm => by rcases List.mem_cons.1 hm with rfl | hm; exact ⟨hr, h1, h2⟩; exact k.row r hm, k.ini, k.box⟩
theorem IW.own (k : IW v rows is bs w) (hb : Below w.heap.size w w') (ho : OwnB w' base A n c l) : IW v ((A, n, c, l) :: rows) is bs w' := (k.step hb).add ho.rb ho.cap.1 ho.cap.2
theorem IW.lit (k : IW v rows is bs w) (l : List UInt8) (cs : Array Value) (n : Nat) (hc : cs = (bvs l).toArray) (hn : l.length = n) (hm : n ≤ maxLen) : IW v ((some ⟨w.heap.size, 0, none⟩, n, n, l) :: rows) is bs (w.alloc (.cells cs 5)) :=
  (k.step (below_alloc _ _)).add (RB.lit w l cs n _ hc hn rfl) (Nat.le_refl _) hm
theorem IW.addi (k : IW v rows is bs w) (hh : i.ok w) : IW v rows (i :: is) bs w :=
  ⟨k.bel, k.row, fun g hm => by rcases List.mem_cons.1 hm with rfl | hm; exact hh; exact k.ini g hm, k.box⟩
theorem IW.ret {r : IPl × Int} (k : IW v rows is bs w) (q : RetIn r w e w') : ∃ i : In, e = .returned (.tuple #[i.val, .int .i64 r.2]) ∧ i.pl = r.1 ∧ i.own w' w.heap.size ∧ IW v rows (i :: is) bs w' := by
  obtain ⟨i, he, hp, ho, hb⟩ := q
  exact ⟨i, he, hp, ho, (k.step hb).addi ho.ok⟩
theorem IW.var (k : IW v rows is bs w) (hb : Below w.heap.size w w2) (hx : w.heap.size ≤ x) (hc : Ic T w3 x i) (ho : Oth [x] w2 w3) : IW v rows is ((T, x, i) :: bs) w3 := by
  have k' := k.step (hb.trans (ho.below (fun j hj => by rw [List.mem_singleton.1 hj]; exact hx) hb.size))
  exact ⟨k'.bel, k'.row, k'.ini, fun b hm => by rcases List.mem_cons.1 hm with rfl | hm; exact hc; exact k'.box b hm⟩
theorem IW.start (w : World) : IW w [] [] [] w := ⟨Below.refl _ _, fun r hr => (by cases hr), fun r hr => (by cases hr), fun r hr => (by cases hr)⟩
/-- An Initial's own rows. -/
theorem IW.part (k : IW v rows is bs w) (hi : i ∈ is) : IW v ((i.h.A, i.h.a.length, i.h.c, i.h.a) :: (i.h.B, i.h.b.length, i.h.d, i.h.b) :: (i.T, i.t.length, i.e, i.t) :: (i.R, i.r.length, i.g, i.r) :: rows) is bs w := by
  have q := k.ini i hi
  exact (((k.add q.r q.cr.1 q.cr.2).add q.t q.ct.1 q.ct.2).add q.h.b q.h.cb.1 q.h.cb.2).add q.h.a q.h.ca.1 q.h.ca.2
end
theorem zeroI_ok (w : World) : zeroI.ok w := (In.own.zero w w.heap.size).ok
/-- The parts of a plain Initial that is known. -/
theorem in_parts {i : In} {p : Pl} {t r : List UInt8} (e : i.pl = (p, t, r)) : i.h.f = p.1 ∧ i.h.v = p.2.1 ∧ i.h.a = p.2.2.1 ∧ i.h.b = p.2.2.2 ∧ i.t = t ∧ i.r = r := by
  unfold In.pl at e
  injection e with e1 e
  injection e with e2 e3
  subst e1
  exact ⟨rfl, rfl, rfl, rfl, e2, e3⟩

/-! Plainly. -/
theorem class_few {n : Nat} (h : n ≤ 1000000) : clsL n ≤ 3 ∧ n < lim (clsL n) := by
  have hc : clsL n ≤ 3 := by
    rcases Nat.lt_or_ge 3 (clsL n) with h1 | h1
    · have := clsL_le n
      have h4 : clsL n = 4 := by omega
      have := clsL_four.1 h4
      omega
    · exact h1
  exact ⟨hc, clsL_fit rfl hc⟩
theorem tok_app (t r : List UInt8) (h : t.length ≤ 1000000) : tokL (longP t ++ r) = some (t, r) := by
  obtain ⟨hc, hf⟩ := class_few h
  have e : leastL t.length = formL t.length (clsL t.length) := if_pos hc
  have hl := formL_len t.length (clsL t.length)
  obtain ⟨e1, e2, e3⟩ := tk_form hc hf (t ++ r)
  unfold tokL longP
  rw [e, List.append_assoc, e1, e2, e3]
  have hd : (formL t.length (clsL t.length) ++ (t ++ r)).drop (sz (clsL t.length)) = t ++ r := by rw [List.drop_append_of_le_length (by omega), List.drop_of_length_le (by omega), List.nil_append]
  rw [hd, if_pos ⟨rfl, by simp⟩]
  simp
theorem tok_cut (t : List UInt8) (h : t.length ≤ 1000000) (j : Nat) (hj : j < (longP t).length) : tokL ((longP t).take j) = none := by
  obtain ⟨hc, hf⟩ := class_few h
  have e : leastL t.length = formL t.length (clsL t.length) := if_pos hc
  have hl := formL_len t.length (clsL t.length)
  unfold longP at hj ⊢
  rw [e] at hj ⊢
  by_cases h1 : j < sz (clsL t.length)
  · have ht : (formL t.length (clsL t.length) ++ t).take j = (formL t.length (clsL t.length)).take j := by rw [List.take_append_of_le_length (by omega)]
    rw [ht]
    obtain ⟨e1, e2, e3⟩ := tk_cut hc hf h1
    unfold tokL
    rw [e3, if_neg (fun k => absurd k.1 (by decide))]
  · have ht : (formL t.length (clsL t.length) ++ t).take j = formL t.length (clsL t.length) ++ t.take (j - sz (clsL t.length)) := by rw [List.take_append, List.take_of_length_le (by omega), hl]
    rw [ht]
    obtain ⟨e1, e2, e3⟩ := tk_form hc hf (t.take (j - sz (clsL t.length)))
    unfold tokL
    rw [e1, e2]
    rw [List.length_append, hl] at hj
    refine if_neg (fun k => ?_)
    have := k.2
    rw [List.drop_append_of_le_length (by omega), List.drop_of_length_le (by omega), List.nil_append, List.length_take] at this
    omega
theorem iprs_raw (p : Pl) (t r : List UInt8) (hg : Pgood p) (ht : t.length ≤ 1000000) : iprs (irawP (p, t, r)) = if chk p ≠ 0 then (zeroIP, chk p) else ((p, t, r), 0) := by
  unfold iprs irawP
  simp only
  rw [List.append_assoc, prs_raw p hg]
  simp only [ne_eq, not_true_eq_false, if_false]
  by_cases hc : chk p = 0
  · rw [if_neg (fun k => k hc), if_neg (fun k => k hc)]
    unfold itk
    rw [tok_app t r ht]
  · rw [if_pos hc, if_pos hc]
theorem iprs_cut (p : Pl) (t r : List UInt8) (hc : chk p = 0) (ht : t.length ≤ 1000000) (k : Nat) (hk : k + r.length < (irawP (p, t, r)).length) : (iprs ((irawP (p, t, r)).take k)).2 = 12 := by
  have hg := (chk_good hc).1
  unfold irawP at hk ⊢
  simp only at hk ⊢
  rw [List.length_append, List.length_append] at hk
  rw [List.take_append_of_le_length (by rw [List.length_append]; omega)]
  by_cases h : k < (rawP p).length
  · rw [List.take_append_of_le_length (by omega)]
    have h12 := prs_cut p hg k h
    unfold iprs
    rw [if_pos (by rw [h12]; decide)]
    exact h12
  · have e : (rawP p ++ longP t).take k = rawP p ++ (longP t).take (k - (rawP p).length) := by rw [List.take_append, List.take_of_length_le (by omega)]
    rw [e]
    unfold iprs
    rw [prs_raw p hg]
    simp only [ne_eq, not_true_eq_false, if_false]
    rw [if_neg (fun k => k hc)]
    unfold itk
    rw [tok_cut t ht _ (by omega)]
theorem iraw_more (to frm tok rest : List UInt8) (j : Nat) : irawP (madeP to frm tok rest) ++ List.replicate j 0 = irawP (madeP to frm tok (rest ++ List.replicate j 0)) := by
  unfold irawP madeP
  simp
theorem iraw_set (f g : UInt8) (v : Nat) (a b t r : List UInt8) : (irawP ((f, v, a, b), t, r)).set 0 g = irawP ((g, v, a, b), t, r) := by
  unfold irawP rawP
  simp
theorem chk_made (to frm : List UInt8) (h1 : to.length ≤ 20) (h2 : frm.length ≤ 20) : chk (192, 1, to, frm) = 0 := by
  unfold chk
  rw [if_neg (show ¬ ((192 : UInt8).toNat < 128 ∨ (1 : Nat) ≠ 1 ∨ typ 192 ≠ 0) by decide), if_neg (by simp only; omega)]
theorem mk_made (to frm tok rest : List UInt8) (z : Int) (h1 : to.length ≤ 20) (h2 : frm.length ≤ 20) (hz : z ≤ 65535) : mkI (madeP to frm tok rest) z = (irawP (madeP to frm tok (rest ++ List.replicate (z.toNat - (irawP (madeP to frm tok rest)).length) 0)), 0) := by
  unfold mkI
  have hc : chk (madeP to frm tok rest).1 = 0 := chk_made to frm h1 h2
  rw [if_neg (by omega), if_neg (fun k => k hc), iraw_more]
theorem iprs_small (l : List UInt8) : (iprs l).1.1.2.2.1.length ≤ 255 ∧ (iprs l).1.1.2.2.2.length ≤ 255 ∧ (iprs l).1.2.1.length ≤ l.length ∧ (iprs l).1.2.2.length ≤ l.length := by
  unfold iprs
  by_cases h : (prs l).2.2 = 0
  · rw [if_neg (fun k => k h)]
    obtain ⟨g, e⟩ := prs_back h
    by_cases hc : chk (prs l).1 = 0
    · rw [if_neg (fun k => k hc)]
      unfold itk
      have hl : (prs l).2.1.length ≤ l.length := by conv => rhs; rw [← e]
                                                    simp
      rcases ht : tokL (prs l).2.1 with _ | ⟨t, q⟩
      · exact ⟨by simp [zeroIP, zeroP], by simp [zeroIP, zeroP], by simp [zeroIP, zeroP], by simp [zeroIP, zeroP]⟩
      · unfold tokL at ht
        split at ht
        · injection ht with ht
          injection ht with e1 e2
          subst e1 e2
          exact ⟨g.a, g.b, by simp only [List.length_take, List.length_drop]; omega, by simp only [List.length_drop]; omega⟩
        · cases ht
    · rw [if_pos hc]
      exact ⟨by simp [zeroIP, zeroP], by simp [zeroIP, zeroP], by simp [zeroIP, zeroP], by simp [zeroIP, zeroP]⟩
  · rw [if_pos h]
    exact ⟨by simp [zeroIP, zeroP], by simp [zeroIP, zeroP], by simp [zeroIP, zeroP], by simp [zeroIP, zeroP]⟩
end Go.Proofs.Ytdagmhngkpbonaa
