/- Layer 23: the reference's First; entries as the references have them; are they more than are looked at? Conditions: what they read is readable. -/
import Derived.Test.YtocbdgkehgmahaaRkO
import Derived.Test.YtocbdgkehgmahaaSameZ
import Derived.RegionTactic
import Derived.Deep.RegionLaw
namespace Go.Proofs.Ytocbdgkehgmahaa
open Go.RowKit
set_option linter.unusedVariables false
set_option linter.unusedSimpArgs false
/-- First's answer. -/
def fstA (T : Nat → Option Nat) : Nat := (bestT T 64).getD 0
def fstB (T : Nat → Option Nat) : Bool := (bestT T 64).isSome
theorem fst_nil {T : Nat → Option Nat} (h : ordA T = []) : fstA T = 0 ∧ fstB T = false := by
  have := ordA_head T
  rw [h] at this
  have : bestT T 64 = none := this.symm
  unfold fstA fstB
  rw [this]
  exact ⟨rfl, rfl⟩
theorem fst_cons {T : Nat → Option Nat} {i : Nat} (h : (ordA T)[0]? = some i) : fstA T = i ∧ fstB T = true := by
  have h2 := ordA_head T
  rw [List.head?_eq_getElem?, h] at h2
  unfold fstA fstB
  rw [← h2]
  exact ⟨rfl, rfl⟩
attribute [local irreducible] mixF scF scE scA okE tabE bestT ordA ordT leftT
set_option maxRecDepth 100000 in
set_option maxHeartbeats 2000000 in
theorem rfirst_any (s : Nat) (A : Option Addr) (n c : Nat) (l : List UInt8) (Ae : Option Addr) (ne ce : Nat) (es : List (Int × Int)) (w : World) (hs : s < 18446744073709551616) (h : RB w w.heap.size A n l) (hn : n ≤ maxLen) (he : EL w w.heap.size Ae ne es) (hne : ne ≤ 1000000) :
    Calls Try.prog 12 #[.int .u64 (s : Int), .slice A n c, .slice Ae ne ce] w fun r w' => r = .returned (.tuple #[.int .i64 (fstA (tabE (scE s l) es) : Int), .bool (fstB (tabE (scE s l) es))]) ∧ Below w.heap.size w w' := by
  have HO := Lib.hid (rorder_any s A n c l Ae ne ce es w hs h hn he hne)
  obtain ⟨T, HT⟩ : ∃ T, Hid (T = tabE (scE s l) es) := ⟨_, Lib.hid rfl⟩
  rw [← HT.out] at HO ⊢
  clear h he
  rcases hO : ordA T with _ | ⟨x, r⟩
  · have HF := fst_nil hO
    rw [hO] at HO
    rw [HF.1, HF.2]
    go_enter Try.func12, Try.ntmps12
    go_wp2_with fail
    refine HO.out.mono ?_
    rintro r w1 ⟨Ao, co, rfl, ho, hb⟩
    have HB := Lib.hid hb
    clear ho hb
    go_wp2_with fail
    go_ret2
    exact ⟨rfl, HB.out⟩
  · have HF := fst_cons (T := T) (i := x) (by rw [hO]; rfl)
    rw [hO] at HO
    rw [HF.1, HF.2]
    obtain ⟨m, HM⟩ : ∃ m, Hid (m = r.length) := ⟨_, Lib.hid rfl⟩
    rw [List.length_cons, ← HM.out] at HO
    have hm : m < 64 := by
      have h1 := ordA_len T
      have h2 := cnt_le T 64
      rw [hO, List.length_cons] at h1
      have := HM.out
      omega
    obtain ⟨p, HP⟩ : ∃ p, Hid (p = m + 1) := ⟨_, Lib.hid rfl⟩
    rw [← HP.out] at HO
    have hp : 0 < p := by have := HP.out; omega
    have hp0 : ((p : Int) == 0) = false := by rw [beq_eq_false_iff_ne]; omega
    go_enter Try.func12, Try.ntmps12
    go_wp2_with fail
    refine HO.out.mono ?_
    rintro r1 w1 ⟨Ao, co, rfl, ho, hb⟩
    obtain ⟨b, o, rfl, hbb, y, hy, _, hc⟩ := ho.zl.at_ hp
    have hyx : y = (x : Int) := by
      unfold intsN at hy
      simp at hy
      exact hy.symm
    subst hyx
    have HB := Lib.hid hb
    rw [Nat.add_zero] at hc
    clear ho hb hy
    go_wp2_with fail
    go_ret2
    exact ⟨rfl, HB.out⟩
/-- Are keys or entries more than are looked at? -/
def greatB (ps : List (List UInt8)) (n : Nat) : Bool := longB ps 1000 || decide (80 < n)
set_option maxHeartbeats 1000000 in
theorem great_any (A : Option Addr) (n c : Nat) (ps : List (List UInt8)) (Ae : Option Addr) (ne ce : Nat) (w : World) (h : RR w w.heap.size A n ps) (hn : n ≤ maxLen) (hp : ∀ p ∈ ps, p.length ≤ maxLen) (hne : ne ≤ maxLen) :
    Calls Try.prog 8 #[.slice A n c, .slice Ae ne ce] w fun r w' => r = .returned (.bool (greatB ps ne)) ∧ w = w' := by
  have HL := Lib.hid (long_any A n c 1000 ps w h hn (by omega) hp)
  unfold greatB
  generalize longB ps 1000 = t at HL
  unfold maxLen at hne
  clear h
  rcases t with _ | _
  · rcases hd : decide (80 < ne) with _ | _
    · have d : decide (80 < (ne : Int)) = false := decide_eq_false (by have := of_decide_eq_false hd; omega)
      go_enter Try.func8, Try.ntmps8
      go_wp2_with fail
      refine HL.out.mono ?_
      rintro r w1 ⟨rfl, rfl⟩
      go_wp2_with fail
      go_ret
      exact ⟨rfl, rfl⟩
    · have d : decide (80 < (ne : Int)) = true := decide_eq_true (by have := of_decide_eq_true hd; omega)
      go_enter Try.func8, Try.ntmps8
      go_wp2_with fail
      refine HL.out.mono ?_
      rintro r w1 ⟨rfl, rfl⟩
      go_wp2_with fail
      go_ret
      exact ⟨rfl, rfl⟩
  · go_enter Try.func8, Try.ntmps8
    go_wp2_with fail
    refine HL.out.mono ?_
    rintro r w1 ⟨rfl, rfl⟩
    go_wp2_with fail
    go_ret
    exact ⟨rfl, rfl⟩
end Go.Proofs.Ytocbdgkehgmahaa
