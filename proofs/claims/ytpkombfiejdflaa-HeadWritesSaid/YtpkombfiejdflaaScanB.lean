/- Layer 9's readers, second part: Short, Long, Rest, Read; the reference's reader answers the same. Conditions: as in Scan. -/
import Derived.Test.YtpkombfiejdflaaScan
namespace Go.Proofs.Ytpkombfiejdflaa
open Go.RowKit
set_option linter.unusedVariables false
set_option linter.unusedSimpArgs false

theorem RdL.base {R : World → Nat → Int × List UInt8 → Prop} {x : Nat} {r : List UInt8 × Int × List UInt8} {w w1 w' : World} {e : Ending} (h : RdL R x r w1 e w') (ho : Oth [x] w w1) : RdL R x r w e w' := by
  obtain ⟨A, n, c, he, h1, h2, h3⟩ := h
  exact ⟨A, n, c, he, h1.base_le ho.size, ho.trans h2, h3⟩
theorem countS_ok {r : Nat × Int × List UInt8} {s : Int × List UInt8} (h : (takeS r.1 r.2).2.1 = 0) : countS r s = takeS r.1 r.2 := if_pos h
theorem countS_no {r : Nat × Int × List UInt8} {s : Int × List UInt8} (h : (takeS r.1 r.2).2.1 ≠ 0) : countS r s = ([], (takeS r.1 r.2).2.1, s.2) := if_neg h
/-- A pointer's cell that a closure captured. -/
def capV (q : Nat) : Value := .pointer (some ⟨q, 0, none⟩)

set_option maxRecDepth 100000 in
theorem counted_short (x : Nat) (q : Nat) (r : Nat × Int × List UInt8) (s : Int × List UInt8) (w : World) (h : RdR w x s) (hn : r.1 ≤ 18446744073709551615)
    (HC : Calls Try.prog 36 #[.pointer (some ⟨q, 0, none⟩)] w (RdN RdR x r w)) :
    Calls Try.prog 35 #[.pointer (some ⟨x, 0, none⟩), .func (.func 36) #[] #[.pointer (some ⟨q, 0, none⟩)]] w (RdL RdR x (countS r s) w) := by
  have HW := Lib.hid h
  obtain ⟨A, m, c, h1, h2, h3⟩ := h
  have hc1 := h1.c1
  have H2 := Lib.hid (And.intro h2 h3)
  have HL := Lib.hid HC
  have HN := Lib.hid hn
  clear h1 h2 h3 HC hn
  go_enter Try.func35, Try.ntmps35
  go_wp2_with fail
  refine HL.out.mono ?_
  rintro e w1 ⟨rfl, ho1, hr1⟩
  have HO1 := Lib.hid ho1
  have HTK := Lib.hid (rdtake_any x r.1 r.2 w1 hr1 HN.out)
  clear ho1 hr1 hc1
  go_wp2_with fail
  refine HTK.out.mono ?_
  rintro e w2 ⟨A2, n2, c2, rfl, ho2, hx2, hr2⟩
  have HX := Lib.hid (HO1.out.trans hx2)
  have HB := Lib.hid (ho2.base_le HO1.out.size)
  have HR2 := Lib.hid hr2
  obtain ⟨A3, n3, c3, t1, t2⟩ := hr2
  have h0 := t1.c0
  have ht1 := t1.c1
  have hf1 := t1.free 1
  have HT := Lib.hid t1
  clear ho2 hx2 t1 t2
  by_cases hq : (takeS r.1 r.2).2.1 = 0
  · have HE := Lib.hid (countS_ok (s := s) hq)
    have hb : ((takeS r.1 r.2).2.1 != 0) = false := by simpa using hq
    go_wp2_with fail
    refine (failed_any _ _ false hb _ h0).mono ?_
    rintro e w3 ⟨rfl, rfl⟩
    go_wp2_with fail
    go_ret
    rw [HE.out]
    exact ⟨A2, n2, c2, rfl, HB.out, HX.out, HR2.out⟩
  · have HE := Lib.hid (countS_no (s := s) hq)
    have hnil := takeS_nil hq
    have hb : ((takeS r.1 r.2).2.1 != 0) = true := by simpa using hq
    have HQ := Lib.hid hnil
    clear hnil
    go_wp2_with fail
    refine (failed_any _ _ true hb _ h0).mono ?_
    rintro e w3 ⟨rfl, rfl⟩
    go_wp2_with fail
    go_ret
    rw [HE.out]
    have hS : Oth [x] w2 (w2.setCell ⟨x, 1, none⟩ (.slice A m c)) := (Oth.refl [x] w2).set (x := x) (by simp) 1 _
    have hrb := H2.out.1.oth HX.out HW.out.nob
    refine ⟨A2, n2, c2, rfl, ?_, HX.out.trans hS, A, m, c, HT.out.set1 _, hrb.oth hS HR2.out.nob, H2.out.2⟩
    have := HB.out
    rw [HQ.out] at this
    exact this.oth hS (fun g o e => by simpa using HT.out.own (by decide) this g o e)

theorem numL_one (l : List UInt8) (h : l.length ≤ 1) : numL l ≤ 255 := by
  rcases l with _ | ⟨a, _ | ⟨b, t⟩⟩
  · exact Nat.zero_le _
  · have := a.toNat_lt
    show 0 * 256 + a.toNat ≤ 255
    omega
  · simp at h
theorem num1_le (s : Int × List UInt8) : (numS 1 s).1 ≤ 255 := by
  rw [numS_eq]
  refine numL_one _ ?_
  unfold bytesS
  rw [if_neg (by decide)]
  exact takeS_len _ _
theorem vari_le (s : Int × List UInt8) : (variS s).1 ≤ 4611686018427387904 := by
  unfold variS
  split
  · exact tkV_lt _
  · simp
theorem short1_any (x q : Nat) (s : Int × List UInt8) (w : World) (h : RdR w x s) (hq : w.cell? ⟨q, 0, none⟩ = some (.pointer (some ⟨x, 0, none⟩))) :
    Calls Try.prog 36 #[.pointer (some ⟨q, 0, none⟩)] w (RdN RdR x (numS 1 s) w) := by
  have HN := Lib.hid (rnum_any x 1 s w h (by decide))
  clear h
  go_enter Try.func36, Try.ntmps36
  go_wp2_with fail
  refine HN.out.mono ?_
  rintro e w1 ⟨rfl, hr⟩
  go_wp2_with fail
  go_ret
  exact ⟨rfl, hr⟩
theorem rshort_any (x : Nat) (s : Int × List UInt8) (w : World) (h : RdR w x s) :
    Calls Try.prog 21 #[.pointer (some ⟨x, 0, none⟩)] w (RdL RdR x (shortS s) w) := by
  have hmf : ∀ (fn : Fn) (first cap : Array Value) (w : World), (Instr.makeFunc fn first cap).run Try.prog w = .ok (.func fn first cap) w := fun _ _ _ _ => rfl
  have hb := below_alloc w (.cells #[.pointer (some ⟨x, 0, none⟩)] 46)
  have h1 := h.step hb
  have hq : (w.alloc (.cells #[.pointer (some ⟨x, 0, none⟩)] 46)).cell? ⟨w.heap.size, 0, none⟩ = some (.pointer (some ⟨x, 0, none⟩)) := World.cell?_alloc_at _ _ _ _ rfl
  have HC := Lib.hid (counted_short x w.heap.size (numS 1 s) s _ h1 (by have := num1_le s; omega) (short1_any x _ s _ h1 hq))
  have HB := Lib.hid hb
  clear h h1 hq hb
  go_enter Try.func21, Try.ntmps21
  go_wp2_with fail
  refine HC.out.mono ?_
  intro e w1 hr
  obtain ⟨A, n, c, rfl, hr2⟩ := hr.base (Oth.of_below HB.out)
  clear hr
  go_wp2_with fail
  go_ret
  exact ⟨A, n, c, rfl, hr2⟩
theorem RdR.few {w : World} {x : Nat} {s : Int × List UInt8} (h : RdR w x s) : s.2.length ≤ 1000000 := by
  obtain ⟨A, m, c, h1, h2, h3, h4, h5⟩ := h
  have := h2.len
  omega
theorem bytesS_len (n : Nat) (s : Int × List UInt8) : bytesS (n : Int) s = takeS n s := by
  unfold bytesS
  rw [if_neg (by omega), Int.toNat_natCast]
theorem rrest_any (x : Nat) (s : Int × List UInt8) (w : World) (h : RdR w x s) :
    Calls Try.prog 23 #[.pointer (some ⟨x, 0, none⟩)] w (RdL RdR x (restS s) w) := by
  have HL := Lib.hid (left_any x s w h)
  have hf := h.few
  have HB := Lib.hid (rbytes_any x (s.2.length : Int) s w h (by omega))
  rw [bytesS_len] at HB
  clear h
  unfold restS
  go_enter Try.func23, Try.ntmps23
  go_wp2_with fail
  refine HL.out.mono ?_
  rintro e w1 ⟨rfl, rfl⟩
  go_wp2_with fail
  refine HB.out.mono ?_
  rintro e w1 ⟨A, n, c, rfl, hr⟩
  go_wp2_with fail
  go_ret
  exact ⟨A, n, c, rfl, hr⟩
/-- Read: a new reader of a copy. -/
theorem read_any (A : Option Addr) (n c : Nat) (l : List UInt8) (w : World) (h : RB w w.heap.size A n l) (hn : n ≤ 1000000) :
    Calls Try.prog 19 #[.slice A n c] w fun e w' => ∃ x, e = .returned (.pointer (some ⟨x, 0, none⟩)) ∧ w.heap.size ≤ x ∧ Below w.heap.size w w' ∧ RdR w' x (0, l) := by
  have HJ := Lib.hid (sjoin1 w A n c l h hn)
  clear h
  go_enter Try.func19, Try.ntmps19
  go_wp2_with fail
  refine HJ.out.mono ?_
  rintro e w1 ⟨A1, c1, rfl, ho, hb⟩
  have HB := Lib.hid hb
  have HO := Lib.hid ho
  clear ho hb
  go_wp2_with fail
  go_ret
  exact ⟨w1.heap.size, rfl, HB.out.size, bel_next HB.out (below_alloc _ _), A1, n, c1, Two.new _ _ _ _, (RBo.of_own HO.out).step (below_alloc _ _), HO.out.cap.1, HO.out.cap.2, hn⟩
end Go.Proofs.Ytpkombfiejdflaa
