/- Layer 9's writers, third part: the reference's writer puts the same. Conditions: as in ScanW. -/
import Derived.Test.YtakmnfcbfbkloaaScanX
namespace Go.Proofs.Ytakmnfcbfbkloaa
open Go.RowKit
set_option linter.unusedVariables false
set_option linter.unusedSimpArgs false

set_option maxRecDepth 100000 in
theorem yput_1 (x base : Nat) (A : Option Addr) (z : Int) (B : Option Addr) (m k : Nat) (s : Int × List UInt8) (w : World) (h : WrQ w x base A s) (he : s.1 ≠ 0) :
    Calls Try.prog 41 #[.pointer (some ⟨x, 0, none⟩), .slice B m k, .int .i64 z] w (RetW WrQ x base A s (.tuple #[]) w) := by
  have HW := Lib.hid h
  obtain ⟨n, c, t1, t2⟩ := h
  have h1 := t1.c1
  have hb : (s.1 == 0) = false := by simpa using he
  clear t1 t2
  go_enter Try.func41, Try.ntmps41
  go_wp2_with fail
  go_end0
  exact ⟨rfl, A, fun g hg => .inl hg, Oth.refl _ _, HW.out⟩
theorem WrQ.fail {w : World} {x base : Nat} {A : Option Addr} {l : List UInt8} (h : WrQ w x base A (0, l)) (z : Int) : Oth [x] w (w.setCell ⟨x, 1, none⟩ (.int .i64 z)) ∧ WrQ (w.setCell ⟨x, 1, none⟩ (.int .i64 z)) x base A (z, l) := by
  have hown := h.own
  obtain ⟨m, c, h1, h2⟩ := h
  have ho := (Oth.refl [x] w).set (x := x) (by simp) 1 (.int .i64 z)
  exact ⟨ho, m, c, h1.set1 _, h2.oth ho (fun g o e => by simpa using (hown g (by rw [e]; simp [blkO])).1)⟩
set_option maxRecDepth 100000 in
theorem yput_2 (x base : Nat) (A : Option Addr) (z : Int) (B : Option Addr) (m k : Nat) (l : List UInt8) (w : World) (h : WrQ w x base A (0, l)) (hz : z ≠ 0) :
    Calls Try.prog 41 #[.pointer (some ⟨x, 0, none⟩), .slice B m k, .int .i64 z] w (RetW WrQ x base A (z, l) (.tuple #[]) w) := by
  have HF := Lib.hid (h.fail z)
  obtain ⟨n, c, t1, t2⟩ := h
  have h1 := t1.c1
  have hf1 := t1.free 1
  have hd1 := (t1.set1 (.int .i64 z)).c1
  have hb : (z == 0) = false := by simpa using hz
  clear t1 t2
  go_enter Try.func41, Try.ntmps41
  go_wp2_with fail
  go_end0
  exact ⟨rfl, A, fun g hg => .inl hg, HF.out.1.more (fun k hk => by simp only [List.mem_cons, List.not_mem_nil, or_false] at hk; simp [hk]), HF.out.2⟩
set_option maxRecDepth 100000 in
theorem yput_3 (x base : Nat) (A : Option Addr) (B : Option Addr) (m k : Nat) (p l : List UInt8) (w : World) (h : WrQ w x base A (0, l)) (hp : RB w w.heap.size B m p) (hb : base ≤ w.heap.size) (hl : l.length ≤ 1000000000) (hm : m ≤ 1000000000) :
    Calls Try.prog 41 #[.pointer (some ⟨x, 0, none⟩), .slice B m k, .int .i64 0] w (RetW WrQ x base A (0, l ++ p) (.tuple #[]) w) := by
  have hF := h.fail 0
  have hrow := h.row hp
  obtain ⟨n0, c0, u1, _⟩ := h
  have h1 := u1.c1
  have hf1 := u1.free 1
  obtain ⟨w1, HW1⟩ : ∃ w1, Hid (w1 = w.setCell ⟨x, 1, none⟩ (.int .i64 0)) := ⟨_, Lib.hid rfl⟩
  have hst : w.setCell ⟨x, 1, none⟩ (.int .i64 0) = w1 := HW1.out.symm
  rw [hst] at hF
  have HO := Lib.hid hF.1
  have HW := Lib.hid hF.2
  have hX := hF.2
  obtain ⟨n, c, t1, t2⟩ := hX
  have hd1 := t1.c1
  have hd0 := t1.c0
  have hn := t2.len
  simp only at t2 hn
  have HT := Lib.hid t1
  have HOW := Lib.hid t2
  have HB := Lib.hid (hp.oth hF.1 (fun hn g o e => by simpa using hrow hn g o e))
  have hsz : base ≤ w1.heap.size := Nat.le_trans hb hF.1.size
  clear hF t1 t2 u1 hp hrow
  go_enter Try.func41, Try.ntmps41
  go_wp2_with (first
    | (at_builtin; (try rw [hst]); refine wpList_appS rfl (.tmp 24) (.tmp 25) rfl base A n c l rfl HOW.out w1.heap.size B m k p rfl HB.out (by omega) hsz ?_; intro A2 c2 w2 ho2 hg2 hA2; have HO2 := Lib.hid ho2; have HG2 := Lib.hid (Oth.of_grown hg2); have HA2 := Lib.hid hA2; have HX := Lib.hid (HT.out.oth HG2.out (fun hm => (HW.out.own x hm).1 rfl)); have he0 := HX.out.c0; have he2 := HX.out.free 0; clear ho2 hg2 hA2))
  go_end0
  have hX : Oth [x] w2 (w2.setCell ⟨x, 0, none⟩ (.slice A2 (n + m) c2)) := (Oth.refl [x] w2).set (x := x) (by simp) 0 _
  have hsub : ∀ k ∈ [x], k ∈ x :: blkO A := fun k hk => by simp only [List.mem_cons, List.not_mem_nil, or_false] at hk; simp [hk]
  refine ⟨rfl, A2, ?_, ((HO.out.more hsub).trans (HG2.out.more (fun k hk => List.mem_cons_of_mem _ hk))).trans (hX.more hsub), n + m, c2, HX.out.set0 _, HO2.out.oth hX (fun g o e => by simpa using HX.out.own (by decide) HO2.out g o e)⟩
  intro g hg
  rcases HA2.out with rfl | e
  · exact .inl hg
  · rw [e] at hg
    simp only [blkO, List.mem_cons, List.not_mem_nil, or_false] at hg
    exact .inr (by rw [hg]; exact HO.out.size)
theorem yput_any (x base : Nat) (A : Option Addr) (z : Int) (B : Option Addr) (m k : Nat) (p : List UInt8) (s : Int × List UInt8) (w : World) (h : WrQ w x base A s) (hp : RB w w.heap.size B m p) (hb : base ≤ w.heap.size) (hl : s.2.length ≤ 1000000000) (hm : m ≤ 1000000000) :
    Calls Try.prog 41 #[.pointer (some ⟨x, 0, none⟩), .slice B m k, .int .i64 z] w (RetW WrQ x base A (putS p z s) (.tuple #[]) w) := by
  obtain ⟨y, l⟩ := s
  by_cases hy : y = 0
  · subst hy
    by_cases hz : z = 0
    · subst hz
      rw [putS_0]
      exact yput_3 x base A B m k p l w h hp hb hl hm
    · rw [putS_e _ _ hz]
      exact yput_2 x base A z B m k l w h hz
  · rw [putS_1 (s := (y, l)) hy]
    exact yput_1 x base A z B m k (y, l) w h hy
set_option maxRecDepth 100000 in
theorem ynum_any (x base : Nat) (A : Option Addr) (V : Nat) (z : Int) (s : Int × List UInt8) (w : World) (h : WrQ w x base A s) (hb : base ≤ w.heap.size) (hl : s.2.length ≤ 1000000000) (hV : V ≤ 18446744073709551615) :
    Calls Try.prog 40 #[.pointer (some ⟨x, 0, none⟩), .int .u64 (V : Int), .int .i64 z] w (RetW WrQ x base A (putS (putN V z).1 (putN V z).2 s) (.tuple #[]) w) := by
  have HU := Lib.hid (ruput_any V z w hV)
  have HL := Lib.hid (putN_len V z)
  have HW := Lib.hid h
  obtain ⟨r, HR⟩ : ∃ r, Hid (r = putN V z) := ⟨_, Lib.hid rfl⟩
  rw [← HR.out] at HU HL ⊢
  clear h
  go_enter Try.func40, Try.ntmps40
  go_wp2_with fail
  refine HU.out.mono ?_
  rintro e w1 ⟨A1, c1, rfl, ho1, hb1⟩
  have HP := Lib.hid (yput_any x base A r.2 A1 r.1.length c1 r.1 s w1 (HW.out.step hb1) ho1.rb (Nat.le_trans hb hb1.size) hl (by have := HL.out; omega))
  have HB := Lib.hid hb1
  clear ho1 hb1
  go_wp2_with fail
  refine HP.out.mono ?_
  intro e w2 k
  have K := Lib.hid (k.after (Oth.of_below HB.out) (fun g hg => .inl hg))
  obtain ⟨rfl, _⟩ := k
  go_wp2_with fail
  go_end0
  exact K.out
set_option maxRecDepth 100000 in
theorem yvari_any (x base : Nat) (A : Option Addr) (D : Option Addr) (n c : Nat) (l : List Nat) (s : Int × List UInt8) (w : World) (h : WrQ w x base A s) (hu : UL w w.heap.size D n l) (hn : n ≤ 1000) (hb : base ≤ w.heap.size) (hl : s.2.length ≤ 1000000000) :
    Calls Try.prog 42 #[.pointer (some ⟨x, 0, none⟩), .slice D n c] w (RetW WrQ x base A (putS (rowR l) (rowC l) s) (.tuple #[]) w) := by
  have HJ := Lib.hid (rrow_any D n c l w hu (by omega))
  have hlen := rowR_len l
  rw [hu.len] at hlen
  obtain ⟨r, HR⟩ : ∃ r, Hid (r = rowR l) := ⟨_, Lib.hid rfl⟩
  obtain ⟨z, HZ⟩ : ∃ r, Hid (r = rowC l) := ⟨_, Lib.hid rfl⟩
  rw [← HR.out] at HJ hlen ⊢
  rw [← HZ.out] at HJ ⊢
  have HW := Lib.hid h
  clear h hu
  go_enter Try.func42, Try.ntmps42
  go_wp2_with fail
  refine HJ.out.mono ?_
  rintro e w1 ⟨A1, c1, rfl, ho1, hb1⟩
  have HP := Lib.hid (yput_any x base A z A1 r.length c1 r s w1 (HW.out.step hb1) ho1.rb (Nat.le_trans hb hb1.size) hl (by omega))
  have HB := Lib.hid hb1
  clear ho1 hb1
  go_wp2_with fail
  refine HP.out.mono ?_
  intro e w2 k
  have K := Lib.hid (k.after (Oth.of_below HB.out) (fun g hg => .inl hg))
  obtain ⟨rfl, _⟩ := k
  go_wp2_with fail
  go_end0
  exact K.out
set_option maxRecDepth 100000 in
theorem yshort_any (x base : Nat) (A : Option Addr) (B : Option Addr) (m k0 : Nat) (p : List UInt8) (s : Int × List UInt8) (w : World) (h : WrQ w x base A s) (hp : RB w w.heap.size B m p) (hm : m ≤ 1000000) (hb : base ≤ w.heap.size) (hl : s.2.length ≤ 100000000) :
    Calls Try.prog 43 #[.pointer (some ⟨x, 0, none⟩), .slice B m k0] w (RetW WrQ x base A (putS (shortP p).1 (shortP p).2 s) (.tuple #[]) w) := by
  have hlen := hp.len
  by_cases hbig : 255 < m
  · have HE : Hid (shortP p = ([], 15)) := Lib.hid (by unfold shortP; rw [if_pos (by omega)])
    rw [HE.out]
    have HP := Lib.hid (yput_any x base A 15 none 0 0 [] s w h RB.nil_ hb (by omega) (by omega))
    have hgt : decide (255 < (m : Int)) = true := decide_eq_true (by omega)
    clear h hp hlen
    go_enter Try.func43, Try.ntmps43
    go_wp2_with fail
    refine HP.out.mono ?_
    intro e w2 k
    have K := Lib.hid k
    obtain ⟨rfl, _⟩ := k
    go_wp2_with fail
    refine bodyPost_ret (results_none rfl _ _ _) rfl ?_
    exact K.out
  · have HE : Hid (shortP p = (UInt8.ofNat m :: p, 0)) := Lib.hid (by unfold shortP; rw [if_neg (by omega), hlen])
    rw [HE.out]
    have hgt : decide (255 < (m : Int)) = false := decide_eq_false (by omega)
    have HW := Lib.hid h
    have HP := Lib.hid hp
    clear h hp hlen
    go_enter Try.func43, Try.ntmps43
    go_wp2_with (first
      | (at_builtin; refine wpList_app rfl (.tmp 13) (.tmp 14) rfl w.heap.size _ 1 1 [UInt8.ofNat m] rfl (OwnB.lit w _ [UInt8.ofNat m] _ 1 (by simp [bvs, bv]; omega) rfl (by unfold maxLen; omega) (Nat.le_refl _)) w.heap.size B m k0 p rfl (by exact HP.out.alloc (Nat.le_refl _) _) (by omega) (by simp) ?_; intro A1 c1 w1 hown1 _ hb1; have HO := Lib.hid hown1; have HB := Lib.hid ((below_alloc w _).trans hb1); clear hown1 hb1))
    refine (yput_any x base A 0 A1 (1 + m) c1 (UInt8.ofNat m :: p) s w1 (HW.out.step HB.out) HO.out.rb (Nat.le_trans hb HB.out.size) (by omega) (by omega)).mono ?_
    intro e w2 k
    have K := Lib.hid (k.after (Oth.of_below HB.out) (fun g hg => .inl hg))
    obtain ⟨rfl, _⟩ := k
    go_wp2_with fail
    go_end0
    exact K.out
theorem least_pos {n : Nat} (h : n ≤ 1000000) : (leastL n).length ≤ 8 ∧ codeL n = 0 := by
  have hc := row_one h
  have h1 : clsL n ≤ 3 := by
    rcases Nat.lt_or_ge 3 (clsL n) with h1 | h1
    · have := clsL_le n
      have h4 : clsL n = 4 := by omega
      have := clsL_four.1 h4
      omega
    · exact h1
  exact ⟨by rw [leastL_len]; exact sz_le _, by unfold codeL; rw [if_pos h1]⟩
set_option maxRecDepth 100000 in
theorem ylong_any (x base : Nat) (A : Option Addr) (B : Option Addr) (m k0 : Nat) (p : List UInt8) (s : Int × List UInt8) (w : World) (h : WrQ w x base A s) (hp : RB w w.heap.size B m p) (hm : m ≤ 1000000) (hb : base ≤ w.heap.size) (hl : s.2.length ≤ 100000000) :
    Calls Try.prog 44 #[.pointer (some ⟨x, 0, none⟩), .slice B m k0] w (RetW WrQ x base A (putS (longP p) 0 s) (.tuple #[]) w) := by
  have hlen := hp.len
  have HV := Lib.hid (rleast_any m w)
  obtain ⟨e1, e2⟩ := least_pos hm
  obtain ⟨r, HR⟩ : ∃ r, Hid (r = leastL m) := ⟨_, Lib.hid rfl⟩
  have HE : Hid (longP p = r ++ p) := Lib.hid (by rw [HR.out]; unfold longP; rw [hlen])
  rw [HE.out]
  rw [e2, ← HR.out] at HV
  rw [← HR.out] at e1
  have HW := Lib.hid h
  have HP := Lib.hid hp
  clear h hp hlen e2
  go_enter Try.func44, Try.ntmps44
  go_wp2_with fail
  refine HV.out.mono ?_
  rintro e w1 ⟨A1, c1, rfl, ho1, hb1⟩
  have HO1 := Lib.hid ho1
  have HB1 := Lib.hid hb1
  have HP1 := Lib.hid (HP.out.step hb1)
  clear ho1 hb1
  go_wp2_with (first
    | (at_builtin; refine wpList_app rfl (.tmp 14) (.tmp 15) rfl w.heap.size A1 r.length c1 r rfl (by exact HO1.out) w1.heap.size B m k0 p rfl (by exact HP1.out) (by omega) HB1.out.size ?_; intro A2 c2 w2 hown2 _ hb2; have HO := Lib.hid hown2; have HB := Lib.hid (HB1.out.trans hb2); clear hown2 hb2))
  refine (yput_any x base A 0 A2 (r.length + m) c2 (r ++ p) s w2 (HW.out.step HB.out) HO.out.rb (Nat.le_trans hb HB.out.size) (by omega) (by omega)).mono ?_
  intro e w3 k
  have K := Lib.hid (k.after (Oth.of_below HB.out) (fun g hg => .inl hg))
  obtain ⟨rfl, _⟩ := k
  go_wp2_with fail
  go_end0
  exact K.out
set_option maxRecDepth 100000 in
theorem ydone_any (x base : Nat) (A : Option Addr) (s : Int × List UInt8) (w : World) (h : WrQ w x base A s) (hl : s.2.length ≤ 1000000) :
    Calls Try.prog 18 #[.pointer (some ⟨x, 0, none⟩)] w (RetBE (doneS s).1.length (doneS s).1 (doneS s).2 w) := by
  obtain ⟨n, c, h1, h2⟩ := h
  have h0 := h1.c0
  have hc1 := h1.c1
  have hx := h1.lt
  have hn := h2.len
  by_cases he : s.1 = 0
  · obtain ⟨s1, l⟩ := s
    simp only at he
    subst he
    rw [doneS_0]
    simp only at hn hl h2
    have HP := Lib.hid h2.rb
    clear h1 h2
    go_enter Try.func18, Try.ntmps18
    go_wp2_with (first
      | (at_builtin; refine wpList_app rfl (.tmp 13) (.tmp 17) rfl w.heap.size _ 0 0 [] rfl (OwnB.lit w _ [] #[] 0 rfl rfl (by unfold maxLen; omega) (Nat.le_refl _)) w.heap.size A n c l rfl (by exact HP.out.alloc (Nat.le_refl _) _) (by omega) (by simp) ?_; intro A1 c1 w1 hown1 _ hb1; have HO := Lib.hid hown1; have HB := Lib.hid ((below_alloc w _).trans hb1); clear hown1 hb1))
    go_ret2
    have hO := HO.out
    rw [List.nil_append, Nat.zero_add] at hO
    subst hn
    exact ⟨A1, c1, by simp, hO, HB.out⟩
  · rw [doneS_1 he]
    have hb : (s.1 != 0) = true := by simpa using he
    clear h1 h2
    go_enter Try.func18, Try.ntmps18
    go_wp2_with fail
    go_quiet (fail)
    go_wp2
    go_ret2
    exact ⟨none, 0, rfl, OwnB.nil_ _ _, below_drewN (Below.refl _ _) _⟩
end Go.Proofs.Ytakmnfcbfbkloaa
