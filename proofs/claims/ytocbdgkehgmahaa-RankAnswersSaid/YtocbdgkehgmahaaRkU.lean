/- Layer 23: the program's first, First. Conditions: what they read is readable. -/
import Derived.Test.YtocbdgkehgmahaaRkT
namespace Go.Proofs.Ytocbdgkehgmahaa
open Go.RowKit Go.Maps
set_option linter.unusedVariables false
set_option linter.unusedSimpArgs false
attribute [local irreducible] mixF scF scE scA okE tabE bestT ordA ordT leftT keepE cmpS cmpI ltS
theorem fst_best {T : Nat → Option Nat} {i : Nat} (h : bestT T 64 = some i) : fstA T = i ∧ fstB T = true := by
  unfold fstA fstB
  rw [h]
  exact ⟨rfl, rfl⟩
theorem fld_sc (x y : Int) (w : World) : (Instr.field 61 (.agg #[.int .i64 x, .int .u64 y]) 0).run Try.prog w = .ok (.int .i64 x) w := by kernel_rfl
theorem fst_none {f : Int × Int → Nat} : fstA (tabE f []) = 0 ∧ fstB (tabE f []) = false := by
  unfold fstA fstB
  rw [show bestT (tabE f []) 64 = none from best_none.2 fun j _ => tab_nil j]
  exact ⟨rfl, rfl⟩
set_option maxRecDepth 100000 in
set_option maxHeartbeats 2000000 in
theorem first0_any (s : Nat) (A : Option Addr) (n c : Nat) (l : List UInt8) (Ae : Option Addr) (ne ce : Nat) (es : List (Int × Int)) (w : World) (hs : s < 18446744073709551616) (h : RB w w.heap.size A n l) (hn : n ≤ maxLen) (he : EL w w.heap.size Ae ne es) (hu : unlP es) (hne : ne ≤ 64) :
    Calls Try.prog 23 #[.int .u64 (s : Int), .slice A n c, .slice Ae ne ce] w fun r w' => r = .returned (.tuple #[.int .i64 (fstA (tabE (scE s l) es) : Int), .bool (fstB (tabE (scE s l) es))]) ∧ Below w.heap.size w w' := by
  have hlen := he.len
  rcases Nat.eq_zero_or_pos ne with h0 | h0
  · subst h0
    obtain rfl := List.eq_nil_of_length_eq_zero hlen
    have HF := Lib.hid (fst_none (f := scE s l))
    rw [HF.out.1, HF.out.2]
    clear he h hlen
    go_enter Try.func23, Try.ntmps23
    go_wp2_with fail
    go_ret2
    exact ⟨rfl, Below.refl _ _⟩
  · have HSC := Lib.hid (scores_any s A n c l Ae ne ce es w hs h hn he hne hu.1)
    have HSY := Lib.hid (says_rows (f := scE s l) hu)
    obtain ⟨T, HT⟩ : ∃ T, Hid (T = tabE (scE s l) es) := ⟨_, Lib.hid rfl⟩
    obtain ⟨L, HL⟩ : ∃ L, Hid (L = rowS (scE s l) es) := ⟨_, Lib.hid rfl⟩
    rw [← HL.out] at HSC HSY
    rw [← HT.out] at HSY ⊢
    have hn0 : ((ne : Int) == 0) = false := by rw [beq_eq_false_iff_ne]; omega
    clear he h hlen hu
    go_enter Try.func23, Try.ntmps23
    go_wp2_with fail
    refine HSC.out.mono ?_
    rintro r w1 ⟨Ao, co, rfl, ho, hb⟩
    have HO := Lib.hid ho
    have HB := Lib.hid hb
    clear ho hb
    go_wp2_with fail
    refine (min_any w.heap.size Ao ne co L w1 HO.out h0 hne).mono ?_
    rintro r w2 ⟨mi, ms, rfl, hm, hb2⟩
    have HB2 := Lib.hid (bel_next HB.out hb2)
    obtain ⟨i, hi, hbst⟩ := says_best HSY.out hm.1 hm.2
    have HF := Lib.hid (fst_best hbst)
    simp only at hi
    subst hi
    clear hbst hm hb2
    have hfl := fld_sc (i : Int) ms w2
    go_wp2_with fail
    go_ret2
    exact ⟨by rw [HF.out.1, HF.out.2]; rfl, HB2.out⟩
set_option maxRecDepth 100000 in
set_option maxHeartbeats 2000000 in
theorem first_any (s : Nat) (A : Option Addr) (n c : Nat) (l : List UInt8) (Ae : Option Addr) (ne ce : Nat) (es : List (Int × Int)) (w : World) (hs : s < 18446744073709551616) (h : RB w w.heap.size A n l) (hn : n ≤ maxLen) (he : EL w w.heap.size Ae ne es) (hne : ne ≤ 1000000) :
    Calls Try.prog 11 #[.int .u64 (s : Int), .slice A n c, .slice Ae ne ce] w fun r w' => r = .returned (.tuple #[.int .i64 (fstA (tabE (scE s l) es) : Int), .bool (fstB (tabE (scE s l) es))]) ∧ Below w.heap.size w w' := by
  have HR := Lib.hid h
  have HC := Lib.hid (counting_any Ae ne ce es w he hne)
  rw [← keep_tab (f := scE s l) (es := es)]
  have hu := keep_unl (es := es)
  have h64 := keep_64 (es := es)
  generalize keepE es = K at HC hu h64 ⊢
  obtain ⟨m, HM⟩ : ∃ m, Hid (m = K.length) := ⟨_, Lib.hid rfl⟩
  rw [← HM.out] at HC h64
  obtain ⟨T, HT⟩ : ∃ T, Hid (T = tabE (scE s l) K) := ⟨_, Lib.hid rfl⟩
  have HF := Lib.hid (fun Ao co W hR hE => first0_any s A n c l Ao m co K W hs hR hn hE hu h64)
  rw [← HT.out] at HF ⊢
  obtain ⟨i, HI⟩ : ∃ i, Hid (i = fstA T) := ⟨_, Lib.hid rfl⟩
  obtain ⟨b, HB⟩ : ∃ b, Hid (b = fstB T) := ⟨_, Lib.hid rfl⟩
  rw [← HI.out, ← HB.out] at HF ⊢
  clear h he hu
  go_enter Try.func11, Try.ntmps11
  go_wp2_with fail
  refine HC.out.mono ?_
  rintro r w1 ⟨Ao, co, rfl, ho, hb⟩
  have HO := Lib.hid ho.el
  have HB1 := Lib.hid hb
  clear ho hb
  go_wp2_with fail
  refine (HF.out Ao co w1 (by exact HR.out.step HB1.out) (by exact HO.out)).mono ?_
  rintro r w2 ⟨rfl, hb2⟩
  have HB2 := Lib.hid (bel_next HB1.out hb2)
  clear hb2
  go_wp2_with fail
  go_ret2
  exact ⟨rfl, HB2.out⟩
end Go.Proofs.Ytocbdgkehgmahaa
