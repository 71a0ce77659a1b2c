/- Layer 9's readers, third part: the reference's reader answers as the code's. Conditions: as in Scan. -/
import Derived.Test.YthllaoeioddddaaGreatScanRd
namespace Go.Proofs.YthllaoeioddddaaGreat
open Go.RowKit
set_option linter.unusedVariables false
set_option linter.unusedSimpArgs false

theorem qbytes_err (x : Nat) (z : Int) (s : Int × List UInt8) (w : World) (h : RdQ w x s) (he : s.1 ≠ 0) :
    Calls Tryz.prog 73 #[.pointer (some ⟨x, 0, none⟩), .int .i64 z] w (RdL RdQ x ([], s) w) := by
  have HW := Lib.hid h
  obtain ⟨A, m, c, h1, h2⟩ := h
  have hc1 := h1.c1
  have hb : (s.1 == 0) = false := by simpa using he
  have hb2 : (s.1 != 0) = true := by simpa using he
  clear h1 h2
  go_enter Tryz.func73, Tryz.ntmps73
  go_wp2_with fail
  go_ret
  exact ⟨none, 0, 0, rfl, OwnB.nil_ _ _, Oth.refl _ _, HW.out⟩
/-- A reader's error is laid. -/
theorem RdQ.fail {w : World} {x : Nat} {l : List UInt8} (h : RdQ w x (0, l)) (e : Int) : Oth [x] w (w.setCell ⟨x, 1, none⟩ (.int .i64 e)) ∧ RdQ (w.setCell ⟨x, 1, none⟩ (.int .i64 e)) x (e, l) := by
  have hrow : ∀ {B n : Nat} {A : Option Addr} {l : List UInt8} (r : RB w B A n l), 0 < n → ∀ g o, A = some ⟨g, o, none⟩ → g ∉ [x] := fun r => h.row r
  obtain ⟨A, m, c, h1, h2, h3⟩ := h
  have ho := (Oth.refl [x] w).set (x := x) (by simp) 1 (.int .i64 e)
  exact ⟨ho, A, m, c, h1.set1 _, h2.oth ho (hrow h2), h3⟩
set_option maxRecDepth 100000 in
theorem qbytes_neg (x : Nat) (z : Int) (l : List UInt8) (w : World) (h : RdQ w x (0, l)) (hz : z < 0) :
    Calls Tryz.prog 73 #[.pointer (some ⟨x, 0, none⟩), .int .i64 z] w (RdL RdQ x ([], 11, l) w) := by
  have HF := Lib.hid (h.fail 11)
  obtain ⟨A, m, c, h1, h2⟩ := h
  have hc1 := h1.c1
  have hf1 := h1.free 1
  have hc2 := (h1.set1 (.int .i64 11)).c1
  have hd : decide (z < 0) = true := decide_eq_true hz
  clear h1 h2
  go_enter Tryz.func73, Tryz.ntmps73
  go_wp2_with fail
  go_ret
  exact ⟨none, 0, 0, rfl, OwnB.nil_ _ _, HF.out⟩
set_option maxRecDepth 100000 in
theorem qbytes_end (x n : Nat) (l : List UInt8) (w : World) (h : RdQ w x (0, l)) (hl : l.length < n) (hn : n ≤ 9223372036854775807) :
    Calls Tryz.prog 73 #[.pointer (some ⟨x, 0, none⟩), .int .i64 (n : Int)] w (RdL RdQ x ([], 12, l) w) := by
  have HF := Lib.hid (h.fail 12)
  obtain ⟨A, m, c, h1, h2, h3, h4, h5⟩ := h
  have hc1 := h1.c1
  have hc0 := h1.c0
  have hf1 := h1.free 1
  have hc2 := (h1.set1 (.int .i64 12)).c1
  have hm := h2.len
  simp only at hm
  rw [hm] at hl
  have hd : decide ((n : Int) < 0) = false := decide_eq_false (by omega)
  have hd2 : decide ((m : Int) < (n : Int)) = true := decide_eq_true (by omega)
  clear h1 h2 hm
  go_enter Tryz.func73, Tryz.ntmps73
  go_wp2_with fail
  go_ret
  exact ⟨none, 0, 0, rfl, OwnB.nil_ _ _, HF.out⟩
set_option maxRecDepth 100000 in
theorem qbytes_ok (x n : Nat) (l : List UInt8) (w : World) (h : RdQ w x (0, l)) (hl : n ≤ l.length) :
    Calls Tryz.prog 73 #[.pointer (some ⟨x, 0, none⟩), .int .i64 (n : Int)] w (RdL RdQ x (l.take n, 0, l.drop n) w) := by
  have hR := h
  obtain ⟨A, m, c, h1, h2, h3, h4, h5⟩ := h
  have hm := h2.len
  simp only at hm
  rw [hm] at hl
  have h0 := h1.c0
  have hxl := h1.lt
  have hc1 := h1.c1
  have hd : decide ((n : Int) < 0) = false := decide_eq_false (by omega)
  have hd2 : decide ((m : Int) < (n : Int)) = false := decide_eq_false (by omega)
  have hcut := cut_h A m c n (by omega)
  have hcut2 := cut_l A m c n hl
  have hpart := h2.part (i := 0) (j := n) (c := c) (by omega) hl h3
  rw [Nat.sub_zero, List.drop_zero] at hpart
  have hrest := h2.part (i := n) (j := m) (c := c) hl (Nat.le_refl _) h3
  rw [List.take_of_length_le (by simp only; omega)] at hrest
  have HP := Lib.hid hpart
  have HR := Lib.hid hrest
  have HT := Lib.hid h1
  have HW := Lib.hid hR
  obtain ⟨l1, HL1⟩ : ∃ l1, Hid (l1 = l.take n) := ⟨_, Lib.hid rfl⟩
  obtain ⟨l2, HL2⟩ : ∃ l2, Hid (l2 = l.drop n) := ⟨_, Lib.hid rfl⟩
  simp only at HP HR
  rw [← HL1.out] at HP ⊢
  rw [← HL2.out] at HR ⊢
  unfold maxLen at h4
  clear hpart hrest h2 hR h1 hm
  go_enter Tryz.func73, Tryz.ntmps73
  go_wp2_with (first
    | (at_builtin; refine wpList_app rfl (.tmp 40) (.tmp 46) rfl w.heap.size _ _ _ [] rfl (OwnB.lit w _ [] #[] 0 rfl rfl (by unfold maxLen; omega) (Nat.le_refl _)) w.heap.size (cutA A c 0) n c l1 rfl (by exact HP.out.alloc (Nat.le_refl _) _) (by omega) (by simp) ?_; intro A1 c1 w1 hown1 _ hb1; have HO := Lib.hid hown1; have HB := Lib.hid ((below_alloc w _).trans hb1); have T2 := Lib.hid (HT.out.step HB.out); have hd0 := T2.out.c0; have hd1 := T2.out.free 0; clear hown1 hb1))
  go_ret
  have hX : Oth [x] w1 (w1.setCell ⟨x, 0, none⟩ (.slice (cutA A c n) (m - n) (c - n))) := (Oth.refl [x] w1).set (x := x) (by simp) 0 _
  have hS := HW.out.step HB.out
  have hO := HO.out
  rw [List.nil_append, Nat.zero_add] at hO
  refine ⟨A1, n, c1, by simp, hO.oth hX (fun g o e => by simpa using T2.out.own (by decide) hO g o e), (Oth.of_below HB.out).trans hX, cutA A c n, m - n, c - n, T2.out.set0 _, ?_, by omega, by unfold maxLen; omega, by omega⟩
  exact (HR.out.step HB.out).oth hX (hS.row (HR.out.step HB.out))
theorem qbytes_any (x : Nat) (z : Int) (s : Int × List UInt8) (w : World) (h : RdQ w x s) (hz : z ≤ 9223372036854775807) :
    Calls Tryz.prog 73 #[.pointer (some ⟨x, 0, none⟩), .int .i64 z] w (RdL RdQ x (bytesS z s) w) := by
  unfold bytesS
  by_cases he : s.1 = 0
  · obtain ⟨s1, l⟩ := s
    simp only at he
    subst he
    by_cases h0 : z < 0
    · rw [if_pos h0, failS_0]
      exact qbytes_neg x z l w h h0
    · rw [if_neg h0]
      obtain ⟨n, rfl⟩ : ∃ n : Nat, z = (n : Int) := ⟨z.toNat, by omega⟩
      rw [Int.toNat_natCast]
      rcases Nat.lt_or_ge l.length n with hl | hl
      · rw [takeS_end hl]
        exact qbytes_end x n l w h hl (by omega)
      · rw [takeS_ok hl]
        exact qbytes_ok x n l w h hl
  · by_cases h0 : z < 0
    · rw [if_pos h0, failS_1 he]
      exact qbytes_err x z s w h he
    · rw [if_neg h0, takeS_1 he]
      exact qbytes_err x z s w h he

theorem numT_1 {s : Int × List UInt8} (he : s.1 ≠ 0) (z : Int) : numT z s = s := by
  unfold numT
  split
  · exact failS_1 he 11
  · rfl
theorem bytesS_1 {s : Int × List UInt8} (he : s.1 ≠ 0) (z : Int) : bytesS z s = ([], s) := by
  unfold bytesS
  split
  · rw [failS_1 he]
  · rw [takeS_1 he]
set_option maxRecDepth 100000 in
theorem qnum_err (x : Nat) (z : Int) (l : List UInt8) (e0 : Int) (he : e0 ≠ 0) (w : World) (h : RdQ w x (e0, l)) (hz : z ≤ 9223372036854775807) :
    Calls Tryz.prog 42 #[.pointer (some ⟨x, 0, none⟩), .int .i64 z] w (RdN RdQ x (numS z (e0, l)) w) := by
  rw [numS_eq]
  have hl := numT_len z (e0, l)
  obtain ⟨r, HR⟩ : ∃ r, Hid (r = bytesS z (numT z (e0, l))) := ⟨_, Lib.hid rfl⟩
  rw [← HR.out] at hl ⊢
  have HL := Lib.hid hl
  have HB := Lib.hid (qbytes_any x z _ w h hz)
  have HO := Lib.hid (Oth.refl [x] w)
  rw [show bytesS z (e0, l) = r from by rw [HR.out, numT_1 (s := (e0, l)) he z]] at HB
  obtain ⟨A, m, c, h1, h2⟩ := h
  have hc1 := h1.c1
  have hb : (e0 == 0) = false := by simpa using he
  clear h1 h2 hl
  go_enter Tryz.func42, Tryz.ntmps42
  go_wp2_with fail
  refine HB.out.mono ?_
  rintro e w2 ⟨A2, n2, c2, rfl, ho2, hx2, hr2⟩
  have hn := ho2.len
  have HN := Lib.hid (rnum_few A2 n2 c2 _ r.1 w2 ho2.rb (by have := HL.out; omega))
  have HX := Lib.hid (And.intro (HO.out.trans hx2) hr2)
  clear ho2 hx2 hr2 hn
  go_wp2_with fail
  refine HN.out.mono ?_
  rintro e w3 ⟨rfl, rfl⟩
  go_wp2_with fail
  go_ret
  exact ⟨rfl, HX.out⟩
set_option maxRecDepth 100000 in
theorem qnum_neg (x : Nat) (z : Int) (l : List UInt8) (hz0 : z < 0) (w : World) (h : RdQ w x (0, l)) (hz : z ≤ 9223372036854775807) :
    Calls Tryz.prog 42 #[.pointer (some ⟨x, 0, none⟩), .int .i64 z] w (RdN RdQ x (numS z (0, l)) w) := by
  rw [numS_eq]
  have hl := numT_len z (0, l)
  obtain ⟨r, HR⟩ : ∃ r, Hid (r = bytesS z (numT z (0, l))) := ⟨_, Lib.hid rfl⟩
  rw [← HR.out] at hl ⊢
  have HL := Lib.hid hl
  have HF := Lib.hid (h.fail 11)
  have HB := Lib.hid (qbytes_any x z _ _ HF.out.2 hz)
  have HO := Lib.hid HF.out.1
  rw [show bytesS z (11, l) = r from by rw [HR.out, show numT z (0, l) = (0, l) from if_neg (by omega), show bytesS z (0, l) = ([], 11, l) from (if_pos hz0 : bytesS z (0, l) = ([], failS (0, l) 11)), bytesS_1 (s := (11, l)) (by simp)]] at HB
  obtain ⟨A, m, c, h1, h2⟩ := h
  have hc1 := h1.c1
  have hf1 := h1.free 1
  have hd : decide (z < 0) = true := decide_eq_true hz0
  clear h1 h2 hl
  go_enter Tryz.func42, Tryz.ntmps42
  go_wp2_with fail
  refine HB.out.mono ?_
  rintro e w2 ⟨A2, n2, c2, rfl, ho2, hx2, hr2⟩
  have hn := ho2.len
  have HN := Lib.hid (rnum_few A2 n2 c2 _ r.1 w2 ho2.rb (by have := HL.out; omega))
  have HX := Lib.hid (And.intro (HO.out.trans hx2) hr2)
  clear ho2 hx2 hr2 hn
  go_wp2_with fail
  refine HN.out.mono ?_
  rintro e w3 ⟨rfl, rfl⟩
  go_wp2_with fail
  go_ret
  exact ⟨rfl, HX.out⟩
set_option maxRecDepth 100000 in
theorem qnum_big (x : Nat) (z : Int) (l : List UInt8) (hz0 : 8 < z) (w : World) (h : RdQ w x (0, l)) (hz : z ≤ 9223372036854775807) :
    Calls Tryz.prog 42 #[.pointer (some ⟨x, 0, none⟩), .int .i64 z] w (RdN RdQ x (numS z (0, l)) w) := by
  rw [numS_eq]
  have hl := numT_len z (0, l)
  obtain ⟨r, HR⟩ : ∃ r, Hid (r = bytesS z (numT z (0, l))) := ⟨_, Lib.hid rfl⟩
  rw [← HR.out] at hl ⊢
  have HL := Lib.hid hl
  have HF := Lib.hid (h.fail 11)
  have HB := Lib.hid (qbytes_any x z _ _ HF.out.2 hz)
  have HO := Lib.hid HF.out.1
  rw [show bytesS z (11, l) = r from by rw [HR.out, show numT z (0, l) = (11, l) from (if_pos hz0 : numT z (0, l) = failS (0, l) 11)]] at HB
  obtain ⟨A, m, c, h1, h2⟩ := h
  have hc1 := h1.c1
  have hf1 := h1.free 1
  have hd : decide (z < 0) = false := decide_eq_false (by omega)
  have hd2 : decide (8 < z) = true := decide_eq_true hz0
  clear h1 h2 hl
  go_enter Tryz.func42, Tryz.ntmps42
  go_wp2_with fail
  refine HB.out.mono ?_
  rintro e w2 ⟨A2, n2, c2, rfl, ho2, hx2, hr2⟩
  have hn := ho2.len
  have HN := Lib.hid (rnum_few A2 n2 c2 _ r.1 w2 ho2.rb (by have := HL.out; omega))
  have HX := Lib.hid (And.intro (HO.out.trans hx2) hr2)
  clear ho2 hx2 hr2 hn
  go_wp2_with fail
  refine HN.out.mono ?_
  rintro e w3 ⟨rfl, rfl⟩
  go_wp2_with fail
  go_ret
  exact ⟨rfl, HX.out⟩
set_option maxRecDepth 100000 in
theorem qnum_ok (x : Nat) (z : Int) (l : List UInt8) (hz0 : 0 ≤ z) (hz1 : z ≤ 8) (w : World) (h : RdQ w x (0, l)) (hz : z ≤ 9223372036854775807) :
    Calls Tryz.prog 42 #[.pointer (some ⟨x, 0, none⟩), .int .i64 z] w (RdN RdQ x (numS z (0, l)) w) := by
  rw [numS_eq]
  have hl := numT_len z (0, l)
  obtain ⟨r, HR⟩ : ∃ r, Hid (r = bytesS z (numT z (0, l))) := ⟨_, Lib.hid rfl⟩
  rw [← HR.out] at hl ⊢
  have HL := Lib.hid hl
  have HB := Lib.hid (qbytes_any x z _ w h hz)
  have HO := Lib.hid (Oth.refl [x] w)
  rw [show bytesS z (0, l) = r from by rw [HR.out, show numT z (0, l) = (0, l) from if_neg (by omega)]] at HB
  obtain ⟨A, m, c, h1, h2⟩ := h
  have hc1 := h1.c1
  have hd : decide (z < 0) = false := decide_eq_false (by omega)
  have hd2 : decide (8 < z) = false := decide_eq_false (by omega)
  clear h1 h2 hl
  go_enter Tryz.func42, Tryz.ntmps42
  go_wp2_with fail
  refine HB.out.mono ?_
  rintro e w2 ⟨A2, n2, c2, rfl, ho2, hx2, hr2⟩
  have hn := ho2.len
  have HN := Lib.hid (rnum_few A2 n2 c2 _ r.1 w2 ho2.rb (by have := HL.out; omega))
  have HX := Lib.hid (And.intro (HO.out.trans hx2) hr2)
  clear ho2 hx2 hr2 hn
  go_wp2_with fail
  refine HN.out.mono ?_
  rintro e w3 ⟨rfl, rfl⟩
  go_wp2_with fail
  go_ret
  exact ⟨rfl, HX.out⟩
theorem qnum_any (x : Nat) (z : Int) (s : Int × List UInt8) (w : World) (h : RdQ w x s) (hz : z ≤ 9223372036854775807) :
    Calls Tryz.prog 42 #[.pointer (some ⟨x, 0, none⟩), .int .i64 z] w (RdN RdQ x (numS z s) w) := by
  obtain ⟨e0, l⟩ := s
  by_cases he : e0 = 0
  · subst he
    by_cases h0 : z < 0
    · exact qnum_neg x z l h0 w h hz
    · by_cases h8 : 8 < z
      · exact qnum_big x z l h8 w h hz
      · exact qnum_ok x z l (by omega) (by omega) w h hz
  · exact qnum_err x z l e0 he w h hz

set_option maxRecDepth 100000 in
theorem qcounted_err (x n : Nat) (A0 : Option Addr) (m0 k0 : Nat) (t s : Int × List UInt8) (w : World) (h : RdQ w x t) (h0 : RB w w.heap.size A0 m0 s.2) (hm : m0 ≤ k0 ∧ k0 ≤ maxLen ∧ m0 ≤ 1000000) (he : t.1 ≠ 0) :
    Calls Tryz.prog 74 #[.pointer (some ⟨x, 0, none⟩), .slice A0 m0 k0, .int .u64 (n : Int)] w (RdL RdQ x (countS (n, t) s) w) := by
  have HW := Lib.hid h
  have H0 := Lib.hid h0
  obtain ⟨A, m, c, h1, h2⟩ := h
  have hc1 := h1.c1
  have hc0 := h1.c0
  have hf0 := h1.free 0
  have HT := Lib.hid h1
  have hb : (t.1 == 0) = false := by simpa using he
  have hb2 : (t.1 != 0) = true := by simpa using he
  have HE : Hid (countS (n, t) s = ([], t.1, s.2)) := Lib.hid (by
    have e : takeS n t = ([], t) := takeS_1 he n
    exact (countS_no (r := (n, t)) (s := s) (by simp only [e]; exact he)).trans (by simp only [e]))
  clear h1 h2 h0
  go_enter Tryz.func74, Tryz.ntmps74
  go_wp2_with fail
  go_ret
  rw [HE.out]
  have hS : Oth [x] w (w.setCell ⟨x, 0, none⟩ (.slice A0 m0 k0)) := (Oth.refl [x] w).set (x := x) (by simp) 0 _
  exact ⟨none, 0, 0, rfl, OwnB.nil_ _ _, hS, A0, m0, k0, HT.out.set0 _, H0.out.oth hS (HW.out.row H0.out), hm⟩
set_option maxRecDepth 100000 in
theorem qcounted_end (x n : Nat) (A0 : Option Addr) (m0 k0 : Nat) (l : List UInt8) (s : Int × List UInt8) (w : World) (h : RdQ w x (0, l)) (h0 : RB w w.heap.size A0 m0 s.2) (hm : m0 ≤ k0 ∧ k0 ≤ maxLen ∧ m0 ≤ 1000000) (hn : l.length < n) :
    Calls Tryz.prog 74 #[.pointer (some ⟨x, 0, none⟩), .slice A0 m0 k0, .int .u64 (n : Int)] w (RdL RdQ x (countS (n, 0, l) s) w) := by
  have HF := Lib.hid (h.fail 12)
  have HW := Lib.hid h
  have H0 := Lib.hid h0
  obtain ⟨A, m, c, h1, h2, h3, h4, h5⟩ := h
  have hc1 := h1.c1
  have hc0 := h1.c0
  have hf1 := h1.free 1
  have T1 := Lib.hid (h1.set1 (.int .i64 12))
  have hd1 := T1.out.c1
  have hd0 := T1.out.c0
  have hf0 := T1.out.free 0
  have hl := h2.len
  simp only at hl
  rw [hl] at hn
  have hd : decide ((m : Int) < (n : Int)) = true := decide_eq_true (by omega)
  have HE : Hid (countS (n, 0, l) s = ([], 12, s.2)) := Lib.hid (by
    have e : takeS n (0, l) = ([], 12, l) := takeS_end (by omega)
    exact (countS_no (r := (n, 0, l)) (s := s) (by simp only [e]; decide)).trans (by simp only [e]))
  clear h1 h2 h0 hl
  go_enter Tryz.func74, Tryz.ntmps74
  go_wp2_with fail
  go_ret
  rw [HE.out]
  have X1 := (Oth.refl [x] w).set (x := x) (by simp) 1 (.int .i64 12)
  have X2 := X1.set (x := x) (by simp) 0 (.slice A0 m0 k0)
  exact ⟨none, 0, 0, rfl, OwnB.nil_ _ _, X2, A0, m0, k0, T1.out.set0 _, H0.out.oth X2 (HW.out.row H0.out), hm⟩
set_option maxRecDepth 100000 in
theorem qcounted_ok (x n : Nat) (A0 : Option Addr) (m0 k0 : Nat) (l : List UInt8) (s : Int × List UInt8) (w : World) (h : RdQ w x (0, l)) (hn : n ≤ l.length) :
    Calls Tryz.prog 74 #[.pointer (some ⟨x, 0, none⟩), .slice A0 m0 k0, .int .u64 (n : Int)] w (RdL RdQ x (countS (n, 0, l) s) w) := by
  have HQ := Lib.hid (qbytes_ok x n l w h hn)
  obtain ⟨A, m, c, h1, h2, h3, h4, h5⟩ := h
  have hc1 := h1.c1
  have hc0 := h1.c0
  have hl := h2.len
  simp only at hl
  have HE : Hid (countS (n, 0, l) s = (l.take n, 0, l.drop n)) := Lib.hid (by
    have e : takeS n (0, l) = (l.take n, 0, l.drop n) := takeS_ok hn
    exact (countS_ok (r := (n, 0, l)) (s := s) (by simp only [e])).trans e)
  rw [hl] at hn
  have hd : decide ((m : Int) < (n : Int)) = false := decide_eq_false (by omega)
  clear h1 h2 hl
  go_enter Tryz.func74, Tryz.ntmps74
  go_wp2_with fail
  refine HQ.out.mono ?_
  rintro e w1 ⟨A1, n1, c1, rfl, hr⟩
  go_wp2_with fail
  go_ret
  rw [HE.out]
  exact ⟨A1, n1, c1, rfl, hr⟩
theorem qcounted_any (x n : Nat) (A0 : Option Addr) (m0 k0 : Nat) (t s : Int × List UInt8) (w : World) (h : RdQ w x t) (h0 : RB w w.heap.size A0 m0 s.2) (hm : m0 ≤ k0 ∧ k0 ≤ maxLen ∧ m0 ≤ 1000000) :
    Calls Tryz.prog 74 #[.pointer (some ⟨x, 0, none⟩), .slice A0 m0 k0, .int .u64 (n : Int)] w (RdL RdQ x (countS (n, t) s) w) := by
  by_cases he : t.1 = 0
  · obtain ⟨t1, l⟩ := t
    simp only at he
    subst he
    rcases Nat.lt_or_ge l.length n with hl | hl
    · exact qcounted_end x n A0 m0 k0 l s w h h0 hm hl
    · exact qcounted_ok x n A0 m0 k0 l s w h hl
  · exact qcounted_err x n A0 m0 k0 t s w h h0 hm he
theorem qshort_any (x : Nat) (s : Int × List UInt8) (w : World) (h : RdQ w x s) :
    Calls Tryz.prog 43 #[.pointer (some ⟨x, 0, none⟩)] w (RdL RdQ x (shortS s) w) := by
  have HW := Lib.hid h
  have HN := Lib.hid (qnum_any x 1 s w h (by decide))
  obtain ⟨A, m, c, h1, h2, h3⟩ := h
  have hc0 := h1.c0
  have H2 := Lib.hid (And.intro h2 h3)
  obtain ⟨v, HV⟩ : ∃ v, Hid (v = (numS 1 s)) := ⟨_, Lib.hid rfl⟩
  have HE : Hid (shortS s = countS v s) := Lib.hid (by rw [HV.out]; rfl)
  rw [← HV.out] at HN
  clear h1 h2 h3
  go_enter Tryz.func43, Tryz.ntmps43
  go_wp2_with fail
  refine HN.out.mono ?_
  rintro e w1 ⟨rfl, ho, hr⟩
  have HC := Lib.hid (qcounted_any x v.1 A m c v.2 s w1 hr (H2.out.1.oth ho (HW.out.row H2.out.1)) H2.out.2)
  have HO := Lib.hid ho
  clear ho hr
  go_wp2_with fail
  refine HC.out.mono ?_
  intro e w2 hr
  obtain ⟨A2, n2, c2, rfl, hr2⟩ := hr.base HO.out
  clear hr
  go_wp2_with fail
  go_ret
  rw [HE.out]
  exact ⟨A2, n2, c2, rfl, hr2⟩
theorem qend_any (x : Nat) (s : Int × List UInt8) (w : World) (h : RdQ w x s) :
    Calls Tryz.prog 44 #[.pointer (some ⟨x, 0, none⟩)] w fun e w' => e = .returned (.int .i64 (endS s).1) ∧ Oth [x] w w' ∧ RdQ w' x (endS s) := by
  have HW := Lib.hid h
  have hh := h
  obtain ⟨A, m, c, h1, h2, h3, h4, h5⟩ := hh
  have hc0 := h1.c0
  have hc1 := h1.c1
  have hl := h2.len
  by_cases he : s.1 = 0
  · obtain ⟨s1, l⟩ := s
    simp only at he
    subst he
    simp only at hl
    have HF := Lib.hid (h.fail 10)
    by_cases hm : 0 < m
    · have hE : endS (0, l) = (10, l) := (if_pos (by simp only; omega) : endS (0, l) = failS (0, l) 10)
      rw [hE]
      have hd : decide (0 < (m : Int)) = true := decide_eq_true (by omega)
      have hf1 := h1.free 1
      have hd1 := (h1.set1 (.int .i64 10)).c1
      clear h h1 h2 hl hE
      go_enter Tryz.func44, Tryz.ntmps44
      go_wp2_with fail
      go_ret
      exact ⟨rfl, HF.out⟩
    · have hE : endS (0, l) = (0, l) := if_neg (by simp only; omega)
      rw [hE]
      have hd : decide (0 < (m : Int)) = false := decide_eq_false (by omega)
      clear h h1 h2 hl hE
      go_enter Tryz.func44, Tryz.ntmps44
      go_wp2_with fail
      go_ret
      exact ⟨rfl, Oth.refl _ _, HW.out⟩
  · have hE : endS s = s := by
      unfold endS
      split
      · exact failS_1 he 10
      · rfl
    rw [hE]
    have hb : (s.1 == 0) = false := by simpa using he
    clear h h1 h2 hl hE
    go_enter Tryz.func44, Tryz.ntmps44
    go_wp2_with fail
    go_ret
    exact ⟨rfl, Oth.refl _ _, HW.out⟩
end Go.Proofs.YthllaoeioddddaaGreat
