/- Layer 9's writers, second part: Num, Bytes, Vari, Short, Long, Done, Write of the code. Conditions: as in ScanW. -/
import Derived.Test.YtpkombfiejdflaaScanW
namespace Go.Proofs.Ytpkombfiejdflaa
open Go.RowKit
set_option linter.unusedVariables false
set_option linter.unusedSimpArgs false

/-- A number's bytes, or its error. -/
def putN (V : Nat) (z : Int) : List UInt8 × Int := if 0 ≤ z ∧ z ≤ 8 ∧ downL V z.toNat = 0 then (putL V z.toNat, 0) else ([], 11)
theorem putN_len (V : Nat) (z : Int) : (putN V z).1.length ≤ 8 := by
  unfold putN
  split
  · rename_i h; simp only [putL_len]; omega
  · simp
theorem uput_any (V : Nat) (z : Int) (w : World) (hV : V ≤ 18446744073709551615) :
    Calls Try.prog 39 #[.int .u64 (V : Int), .int .i64 z] w (RetBE (putN V z).1.length (putN V z).1 (putN V z).2 w) := by
  by_cases hz : 0 ≤ z ∧ z ≤ 8
  · obtain ⟨s, rfl⟩ : ∃ s : Nat, z = (s : Int) := ⟨z.toNat, by omega⟩
    refine (put_ok V s w hV (by omega)).mono ?_
    rintro e w' (⟨hd, A, c, rfl, h1, h2⟩ | ⟨hd, rfl, h2⟩)
    · have e : putN V (s : Int) = (putL V s, 0) := if_pos ⟨hz.1, hz.2, by simpa using hd⟩
      rw [e]
      exact ⟨A, c, by simp only [putL_len], by simp only [putL_len]; exact h1, h2⟩
    · have e : putN V (s : Int) = ([], 11) := if_neg (fun h => hd (by simpa using h.2.2))
      rw [e]
      exact ⟨none, 0, rfl, OwnB.nil_ _ _, h2⟩
  · have e : putN V z = ([], 11) := if_neg (fun h => hz ⟨h.1, h.2.1⟩)
    rw [e]
    refine (put_bad V z w (by omega)).mono ?_
    rintro e w' ⟨rfl, rfl⟩
    exact ⟨none, 0, rfl, OwnB.nil_ _ _, Below.refl _ _⟩
set_option maxRecDepth 100000 in
theorem wnum_any (x base : Nat) (A : Option Addr) (V : Nat) (z : Int) (s : Int × List UInt8) (w : World) (h : WrR w x base A s) (hb : base ≤ w.heap.size) (hl : s.2.length ≤ 1000000000) (hV : V ≤ 18446744073709551615) :
    Calls Try.prog 28 #[.pointer (some ⟨x, 0, none⟩), .int .u64 (V : Int), .int .i64 z] w (RetW WrR x base A (putS (putN V z).1 (putN V z).2 s) (.pointer (some ⟨x, 0, none⟩)) w) := by
  have HU := Lib.hid (uput_any V z w hV)
  have HL := Lib.hid (putN_len V z)
  have HW := Lib.hid h
  obtain ⟨r, HR⟩ : ∃ r, Hid (r = putN V z) := ⟨_, Lib.hid rfl⟩
  rw [← HR.out] at HU HL ⊢
  clear h
  go_enter Try.func28, Try.ntmps28
  go_wp2_with fail
  refine HU.out.mono ?_
  rintro e w1 ⟨A1, c1, rfl, ho1, hb1⟩
  have HP := Lib.hid (wput_any x base A r.2 A1 r.1.length c1 r.1 s w1 (HW.out.step hb1) ho1.rb (Nat.le_trans hb hb1.size) hl (by have := HL.out; omega))
  have HB := Lib.hid hb1
  clear ho1 hb1
  go_wp2_with fail
  refine HP.out.mono ?_
  intro e w2 k
  have K := Lib.hid (k.after (Oth.of_below HB.out) (fun g hg => .inl hg))
  obtain ⟨rfl, _⟩ := k
  go_wp2_with fail
  go_ret
  exact K.out
set_option maxRecDepth 100000 in
theorem wbytes_any (x base : Nat) (A : Option Addr) (D : Option Addr) (n c : Nat) (ps : List (List UInt8)) (p : List UInt8) (s : Int × List UInt8) (w : World) (h : WrR w x base A s) (hr : RR w w.heap.size D n ps) (hp : ps.flatten = p) (hn : n ≤ 1000) (ht : p.length ≤ 1000000) (hb : base ≤ w.heap.size) (hl : s.2.length ≤ 1000000000) :
    Calls Try.prog 40 #[.pointer (some ⟨x, 0, none⟩), .slice D n c] w (RetW WrR x base A (putS p 0 s) (.pointer (some ⟨x, 0, none⟩)) w) := by
  have htt : totL ps = p.length := by rw [← hp, totL_flat]
  have HJ := Lib.hid (join_any D n c ps w hr (by unfold maxLen; omega) (by omega))
  rw [hp, htt] at HJ
  have HW := Lib.hid h
  clear h hr hp htt
  go_enter Try.func40, Try.ntmps40
  go_wp2_with fail
  refine HJ.out.mono ?_
  rintro e w1 ⟨A1, c1, rfl, ho1, hb1⟩
  have HP := Lib.hid (wput_any x base A 0 A1 p.length c1 p s w1 (HW.out.step hb1) ho1.rb (Nat.le_trans hb hb1.size) hl (by omega))
  have HB := Lib.hid hb1
  clear ho1 hb1
  go_wp2_with fail
  refine HP.out.mono ?_
  intro e w2 k
  have K := Lib.hid (k.after (Oth.of_below HB.out) (fun g hg => .inl hg))
  obtain ⟨rfl, _⟩ := k
  go_wp2_with fail
  go_ret
  exact K.out
theorem rowR_len (l : List Nat) : (rowR l).length ≤ 8 * l.length := by
  unfold rowR
  split
  · exact rowL_le l
  · simp
/-- Bytes of one row. -/
theorem wbytes1 (x base : Nat) (A : Option Addr) (B : Option Addr) (m k : Nat) (p : List UInt8) (s : Int × List UInt8) (w : World) (h : WrR w x base A s) (hp : RB w w.heap.size B m p) (hm : m ≤ 1000000) (hb : base ≤ w.heap.size) (hl : s.2.length ≤ 1000000000) :
    Calls Try.prog 40 #[.pointer (some ⟨x, 0, none⟩), .slice (some ⟨w.heap.size, 0, none⟩) 1 1] (w.alloc (.cells #[.slice B m k] 22)) (RetW WrR x base A (putS p 0 s) (.pointer (some ⟨x, 0, none⟩)) w) := by
  have e1 := hp.len
  have hrr := RR.lit w [(B, k, p)] #[.slice B m k] 22 1 w.heap.size (by simp [e1]) rfl rfl (fun r hr => by
    simp only [List.mem_cons, List.not_mem_nil, or_false] at hr
    subst hr
    rw [e1]; exact hp)
  have hal := below_alloc w (.cells #[.slice B m k] 22)
  refine (wbytes_any x base A _ 1 1 [p] p s _ (h.step hal) hrr (by simp) (by omega) (by omega) (Nat.le_trans hb hal.size) hl).mono ?_
  intro e w' k
  exact k.after (Oth.of_below hal) (fun g hg => .inl hg)
/-- A row that is not the writer's own survives its calls. -/
theorem RB.aft {w w1 : World} {x base : Nat} {A : Option Addr} {s : Int × List UInt8} {B : Option Addr} {m : Nat} {p : List UInt8} (hp : RB w w.heap.size B m p) (h : WrR w x base A s) (ho : Oth (x :: blkO A) w w1) (hA : 0 < m → ∀ g o, B = some ⟨g, o, none⟩ → g ∉ blkO A) : RB w1 w1.heap.size B m p :=
  hp.oth ho (fun hn g o e hm => by
    rcases List.mem_cons.1 hm with e1 | e1
    · exact h.row hp hn g o e e1
    · exact hA hn g o e e1)
/-- What Short puts, and Long. -/
def shortP (p : List UInt8) : List UInt8 × Int := if 255 < p.length then ([], 15) else (UInt8.ofNat p.length :: p, 0)
def longP (p : List UInt8) : List UInt8 := leastL p.length ++ p
theorem putN_one {n : Nat} (h : n ≤ 255) : putN n 1 = ([UInt8.ofNat n], 0) := by
  have hd : downL n 1 = 0 := by show n / 256 = 0; omega
  have e : putN n 1 = (putL n 1, 0) := if_pos ⟨by decide, by decide, hd⟩
  rw [e]
  simp [putL]
theorem row_one {n : Nat} (h : n ≤ 1000000) : rowR [n] = leastL n ∧ rowC [n] = 0 := by
  have hc : clsL n ≤ 3 := by
    rcases Nat.lt_or_ge 3 (clsL n) with h1 | h1
    · have := clsL_le n
      have h4 : clsL n = 4 := by omega
      have := clsL_four.1 h4
      omega
    · exact h1
  have ho : rowOk [n] = true := rowOk_all (fun x hx => by rw [List.mem_singleton.1 hx]; exact hc)
  unfold rowR rowC
  rw [ho]
  exact ⟨by simp [rowL], rfl⟩
set_option maxRecDepth 100000 in
theorem wshort_any (x base : Nat) (A : Option Addr) (B : Option Addr) (m k0 : Nat) (p : List UInt8) (s : Int × List UInt8) (w : World) (h : WrR w x base A s) (hp : RB w w.heap.size B m p) (hA : 0 < m → ∀ g o, B = some ⟨g, o, none⟩ → g ∉ blkO A) (hm : m ≤ 1000000) (hb : base ≤ w.heap.size) (hl : s.2.length ≤ 100000000) :
    Calls Try.prog 29 #[.pointer (some ⟨x, 0, none⟩), .slice B m k0] w (RetW WrR x base A (putS (shortP p).1 (shortP p).2 s) (.pointer (some ⟨x, 0, none⟩)) w) := by
  have hlen := hp.len
  have HP := Lib.hid (And.intro hp hA)
  have HW := Lib.hid h
  by_cases hbig : 255 < m
  · have HE : Hid (putS (shortP p).1 (shortP p).2 s = putS [] 15 s) := Lib.hid (by unfold shortP; rw [if_pos (by omega)])
    have HF := Lib.hid (fail_wr x base A 15 s w h)
    have hgt : decide (255 < (m : Int)) = true := decide_eq_true (by omega)
    obtain ⟨r, HR⟩ : ∃ r, Hid (r = putN m 1) := ⟨_, Lib.hid rfl⟩
    have hrl := putN_len m 1
    rw [← HR.out] at hrl
    have hfl : (failS s 15).2.length ≤ 100000000 := by unfold failS; split <;> exact hl
    clear h hp hA hlen
    go_enter Try.func29, Try.ntmps29
    go_wp2_with fail
    refine HF.out.mono ?_
    rintro e w1 ⟨rfl, ho1, hw1⟩
    have HO1 := Lib.hid (ho1.more (S' := x :: blkO A) (fun k hk => by simp only [List.mem_cons, List.not_mem_nil, or_false] at hk; simp [hk]))
    have HN := Lib.hid (wnum_any x base A m 1 _ w1 hw1 (Nat.le_trans hb ho1.size) (by omega) (by omega))
    rw [← HR.out] at HN
    clear ho1 hw1
    go_wp2_with fail
    refine HN.out.mono ?_
    intro e w2 k
    have K := Lib.hid (k.after HO1.out (fun g hg => .inl hg))
    obtain ⟨rfl, _⟩ := k
    obtain ⟨_, A2, q1, q2, q3⟩ := K.out
    have HQ := Lib.hid (And.intro q1 q2)
    have h2l : (putS r.1 r.2 (failS s 15)).2.length ≤ 1000000000 := by have := putS_len r.1 r.2 (failS s 15); omega
    have HB := Lib.hid (wbytes1 x base A2 B m k0 p _ w2 q3 (HP.out.1.aft HW.out q2 HP.out.2) hm (Nat.le_trans hb q2.size) h2l)
    clear q1 q2 q3 HN
    go_wp2_with fail
    refine HB.out.mono ?_
    intro e w3 k
    have K3 := Lib.hid (k.after HQ.out.2 HQ.out.1)
    obtain ⟨rfl, _⟩ := k
    go_wp2_with fail
    go_ret
    rw [HE.out, ← putS_fail p 0 15 (by decide), show failS s 15 = putS r.1 r.2 (failS s 15) from (putS_1 (failS_ne s (by decide)) _ _).symm]
    exact K3.out
  · have HE : Hid (putS (shortP p).1 (shortP p).2 s = putS p 0 (putS [UInt8.ofNat m] 0 s)) := Lib.hid (by unfold shortP; rw [if_neg (by omega), putS_two, hlen]; rfl)
    have hgt : decide (255 < (m : Int)) = false := decide_eq_false (by omega)
    have HN := Lib.hid (wnum_any x base A m 1 s w h hb (by omega) (by omega))
    rw [putN_one (by omega)] at HN
    obtain ⟨r, HR⟩ : ∃ r, Hid (r = [UInt8.ofNat m]) := ⟨_, Lib.hid rfl⟩
    have hrl : r.length = 1 := by rw [HR.out]; rfl
    simp only at HN
    rw [← HR.out] at HN HE
    clear h hp hA hlen
    go_enter Try.func29, Try.ntmps29
    go_wp2_with fail
    refine HN.out.mono ?_
    intro e w2 k
    obtain ⟨rfl, A2, q1, q2, q3⟩ := k
    have HQ := Lib.hid (And.intro q1 q2)
    have h2l : (putS r 0 s).2.length ≤ 1000000000 := by have := putS_len r 0 s; omega
    have HB := Lib.hid (wbytes1 x base A2 B m k0 p _ w2 q3 (HP.out.1.aft HW.out q2 HP.out.2) hm (Nat.le_trans hb q2.size) h2l)
    clear q1 q2 q3 HN
    go_wp2_with fail
    refine HB.out.mono ?_
    intro e w3 k
    have K3 := Lib.hid (k.after HQ.out.2 HQ.out.1)
    obtain ⟨rfl, _⟩ := k
    go_wp2_with fail
    go_ret
    rw [HE.out]
    exact K3.out
/-- What Done answers. -/
def doneS (s : Int × List UInt8) : List UInt8 × Int := if s.1 = 0 then (s.2, 0) else ([], s.1)
theorem doneS_0 (l : List UInt8) : doneS (0, l) = (l, 0) := if_pos rfl
theorem doneS_1 {s : Int × List UInt8} (h : s.1 ≠ 0) : doneS s = ([], s.1) := if_neg h
set_option maxRecDepth 100000 in
theorem wdone_any (x base : Nat) (A : Option Addr) (s : Int × List UInt8) (w : World) (h : WrR w x base A s) (hl : s.2.length ≤ 1000000) :
    Calls Try.prog 30 #[.pointer (some ⟨x, 0, none⟩)] w (RetBE (doneS s).1.length (doneS s).1 (doneS s).2 w) := by
  obtain ⟨n, c, h1, h2⟩ := h
  have h0 := h1.c0
  have hc1 := h1.c1
  have hn := h2.len
  by_cases he : s.1 = 0
  · obtain ⟨s1, l⟩ := s
    simp only at he
    subst he
    rw [doneS_0]
    simp only at hn hl h2
    have HJ := Lib.hid (sjoin1 w A n c l h2.rb (by omega))
    clear h1 h2
    go_enter Try.func30, Try.ntmps30
    go_wp2_with fail
    refine (failed_any _ 0 false rfl _ h0).mono ?_
    rintro e w2 ⟨rfl, rfl⟩
    go_wp2_with fail
    refine HJ.out.mono ?_
    rintro e w1 ⟨A1, c1, rfl, ho, hb⟩
    have HO := Lib.hid (And.intro ho hb)
    clear ho hb
    go_wp2_with fail
    go_ret2
    subst hn
    exact ⟨A1, c1, rfl, HO.out⟩
  · rw [doneS_1 he]
    have hb : (s.1 != 0) = true := by simpa using he
    clear h1 h2
    go_enter Try.func30, Try.ntmps30
    go_wp2_with fail
    refine (failed_any _ _ true hb _ h0).mono ?_
    rintro e w2 ⟨rfl, rfl⟩
    go_wp2_with fail
    go_quiet (fail)
    go_wp2
    go_ret2
    exact ⟨none, 0, rfl, OwnB.nil_ _ _, below_drewN (Below.refl _ _) _⟩
theorem write_any (w : World) (base : Nat) (hb : base ≤ w.heap.size) :
    Calls Try.prog 27 #[] w fun e w' => ∃ x, e = .returned (.pointer (some ⟨x, 0, none⟩)) ∧ w.heap.size ≤ x ∧ Below w.heap.size w w' ∧ WrR w' x base none (0, []) := by
  go_enter Try.func27, Try.ntmps27
  go_wp2_with fail
  go_ret
  exact ⟨w.heap.size, rfl, Nat.le_refl _, below_alloc _ _, 0, 0, Two.new _ _ _ _, OwnB.nil_ _ _⟩
end Go.Proofs.Ytpkombfiejdflaa
