/- Layer 14's Size and fit, and the references' Size and fit. Conditions: the slices' cells are readable. -/
import Derived.Test.YtfipdaekfdbaeaaGreatHvP
import Derived.Test.YtfipdaekfdbaeaaGreatRowsIn
namespace Go.Proofs.YtfipdaekfdbaeaaGreat
open Go.RowKit
set_option linter.unusedVariables false
set_option linter.unusedSimpArgs false
theorem szI_lt {z : Int} (h : z < 1) : szI z = 0 := by unfold szI; rw [if_pos h]
theorem szI_ge {z : Int} (h : ¬ z < 1) : z / 2 + z % 2 = szI z := by unfold szI szN; rw [if_neg h]; omega
set_option maxRecDepth 100000 in
theorem hsize_any (z : Int) (hz : z ≤ 9223372036854775807) (w : World) :
    Calls Tryz.prog 97 #[.int .i64 z] w fun e w' => e = .returned (.int .i64 (szI z)) ∧ w = w' := by
  by_cases h : z < 1
  · rw [szI_lt h]
    go_enter Tryz.func97, Tryz.ntmps97
    go_wp2_with fail
    go_ret
    exact ⟨rfl, rfl⟩
  · have e := szI_ge h
    go_enter Tryz.func97, Tryz.ntmps97
    go_wp2_with fail
    go_ret
    exact ⟨rfl, rfl⟩
set_option maxRecDepth 100000 in
theorem rhsize_any (z : Int) (hz : z ≤ 9223372036854775807) (w : World) :
    Calls Tryz.prog 108 #[.int .i64 z] w fun e w' => e = .returned (.int .i64 (szI z)) ∧ w = w' := by
  by_cases h : z < 1
  · rw [szI_lt h]
    go_enter Tryz.func108, Tryz.ntmps108
    go_wp2_with fail
    go_ret
    exact ⟨rfl, rfl⟩
  · have e := szI_ge h
    go_enter Tryz.func108, Tryz.ntmps108
    go_wp2_with fail
    go_ret
    exact ⟨rfl, rfl⟩
set_option maxRecDepth 100000 in
set_option maxHeartbeats 2000000 in
theorem rhfit_any (A : Option Addr) (n c : Nat) (z : Int) (w : World) (v : Bool) (hv : fitB z n = v) :
    Calls Tryz.prog 85 #[.slice A n c, .int .i64 z] w fun e w' => e = .returned (.bool v) ∧ w = w' := by
  unfold fitB at hv
  by_cases h2 : 2 ≤ z
  · by_cases h28 : z ≤ 28
    · have HS := Lib.hid (rhsize_any z (by omega))
      obtain ⟨q, hq⟩ : ∃ q, szI z = q := ⟨_, rfl⟩
      rw [hq] at HS hv
      have hv2 : ((n : Int) == q) = v := by
        rw [← hv, Bool.eq_iff_iff, beq_iff_eq, decide_eq_true_eq]
        exact ⟨fun e => ⟨h2, h28, e⟩, fun e => e.2.2⟩
      clear hv hq
      go_enter Tryz.func85, Tryz.ntmps85
      go_wp2_with fail
      refine (HS.out _).mono ?_
      rintro e w1 ⟨rfl, rfl⟩
      go_wp2_with fail
      go_ret
      exact ⟨rfl, rfl⟩
    · have e : v = false := by rw [← hv]; exact decide_eq_false (fun e => h28 e.2.1)
      subst e
      clear hv
      go_enter Tryz.func85, Tryz.ntmps85
      go_wp2_with fail
      go_ret
      exact ⟨rfl, rfl⟩
  · have e : v = false := by rw [← hv]; exact decide_eq_false (fun e => h2 e.1)
    subst e
    clear hv
    go_enter Tryz.func85, Tryz.ntmps85
    go_wp2_with fail
    go_ret
    exact ⟨rfl, rfl⟩

set_option maxRecDepth 100000 in
set_option maxHeartbeats 2000000 in
theorem hfit1_any (A : Option Addr) (n c g : Nat) (z q : Int) (w : World) (hg : w.cell? ⟨g, 0, none⟩ = some (.int .i64 z)) (hz : z ≤ 9223372036854775807) (hq : szI z = q) (v : Bool) (hv : ((n : Int) != q) = v) :
    Calls Tryz.prog 119 #[.slice A n c, .pointer (some ⟨g, 0, none⟩)] w fun e w' => e = .returned (.bool v) ∧ w = w' := by
  have HS := Lib.hid (hsize_any z hz)
  rw [hq] at HS
  clear hq
  go_enter Tryz.func119, Tryz.ntmps119
  go_wp2_with fail
  refine (HS.out _).mono ?_
  rintro e w1 ⟨rfl, rfl⟩
  go_wp2_with fail
  go_ret
  exact ⟨rfl, rfl⟩
set_option maxRecDepth 100000 in
set_option maxHeartbeats 2000000 in
theorem hindexf_any (A : Option Addr) (n c g : Nat) (z q : Int) (ps : List (List UInt8)) (w : World) (h : RR w w.heap.size A n ps) (hn : n ≤ 1000) (hg : w.cell? ⟨g, 0, none⟩ = some (.int .i64 z)) (hz : z ≤ 9223372036854775807) (hq : szI z = q) :
    Calls Tryz.prog 129 #[.slice A n c, .func (.func 119) #[] #[.pointer (some ⟨g, 0, none⟩)]] w fun e w' => ∃ i : Int, e = .returned (.int .i64 i) ∧ w = w' ∧ decide (0 ≤ i) = ps.any (fun p => ((p.length : Int) != q)) := by
  have H := Lib.hid h
  have HL := Lib.hid h.len
  have HG := Lib.hid hg
  have HQ := Lib.hid hq
  clear h hg hq
  go_enter Tryz.func129, Tryz.ntmps129
  go_wp2_with fail
  go_loopw [8] (fun i wr => ∃ k : Nat, k ≤ n ∧ i = .int .i64 k ∧ w = wr ∧ Hid (∀ j p, j < k → ps[j]? = some p → ((p.length : Int) != q) = false)) (fun i _ => n - (intOf i).toNat)
  case atStart => exact ⟨0, by omega, rfl, rfl, Lib.hid (fun j p hj => absurd hj (Nat.not_lt_zero _))⟩
  case round =>
    obtain ⟨k, hk, rfl, rfl, HA⟩ := hrel
    by_cases hlt : k < n
    · obtain ⟨b, o, rfl, hb, p, hp, Ai, ci, hc, hr⟩ := H.out.at_ hlt
      have HP := Lib.hid hp
      cases h20 : ((p.length : Int) != q)
      · have HC := Lib.hid (hfit1_any Ai p.length ci g z q w HG.out hz HQ.out false h20)
        have H20 := Lib.hid h20
        clear hp h20
        go_wp2_with fail
        refine HC.out.mono ?_
        rintro e w1 ⟨rfl, rfl⟩
        go_wp2_with fail
        go_roundw
        case rel => exact ⟨k + 1, by omega, by go_num, trivial, Lib.hid (fun j q hj hq => by
          rcases Nat.lt_or_eq_of_le (Nat.le_of_lt_succ hj) with h1 | h1
          · exact HA.out j q h1 hq
          · subst h1
            rw [HP.out] at hq
            rw [← Option.some.inj hq]
            exact H20.out)⟩
        case measure => simp [intOf]; omega
      · have HC := Lib.hid (hfit1_any Ai p.length ci g z q w HG.out hz HQ.out true h20)
        have H20 := Lib.hid h20
        clear hp h20
        go_wp2_with fail
        refine HC.out.mono ?_
        rintro e w1 ⟨rfl, rfl⟩
        go_wp2_with fail
        go_ret
        exact ⟨_, rfl, rfl, by
          rw [decide_eq_true (by omega : (0 : Int) ≤ (k : Int))]
          exact (List.any_eq_true.2 ⟨p, List.mem_of_getElem? HP.out, H20.out⟩).symm⟩
    · have hkn : k = n := by omega
      subst hkn
      go_wp2_with fail
      go_ret
      exact ⟨_, rfl, rfl, by
        symm
        rw [show decide ((0 : Int) ≤ -1) = false by decide, List.any_eq_false]
        intro p hp
        obtain ⟨j, hj, hpj⟩ := List.mem_iff_getElem.1 hp
        have := HA.out j p (by rw [HL.out] at hj; exact hj) (by rw [← hpj]; exact List.getElem?_eq_getElem hj)
        rw [this]; decide⟩
set_option maxRecDepth 100000 in
set_option maxHeartbeats 2000000 in
theorem hcontf_any (A : Option Addr) (n c g : Nat) (z q : Int) (ps : List (List UInt8)) (w : World) (h : RR w w.heap.size A n ps) (hn : n ≤ 1000) (hg : w.cell? ⟨g, 0, none⟩ = some (.int .i64 z)) (hz : z ≤ 9223372036854775807) (hq : szI z = q) (v : Bool) (hv : ps.any (fun p => ((p.length : Int) != q)) = v) :
    Calls Tryz.prog 118 #[.slice A n c, .func (.func 119) #[] #[.pointer (some ⟨g, 0, none⟩)]] w fun e w' => e = .returned (.bool v) ∧ w = w' := by
  have HI := Lib.hid (hindexf_any A n c g z q ps w h hn hg hz hq)
  have HV := Lib.hid hv
  clear h hv hn hg hq
  go_enter Tryz.func118, Tryz.ntmps118
  go_wp2_with fail
  refine HI.out.mono ?_
  rintro e w1 ⟨i, rfl, rfl, hi⟩
  rw [HV.out] at hi
  go_wp2_with fail
  go_ret
  exact ⟨rfl, rfl⟩
theorem RR.more2 {w : World} {B B' n : Nat} {A : Option Addr} {ps : List (List UInt8)} (h : RR w B A n ps) (hB : B ≤ B') : RR w B' A n ps :=
  ⟨h.1, fun h0 => by
    obtain ⟨b, o, e, hbb, hc⟩ := h.2 h0
    exact ⟨b, o, e, Nat.lt_of_lt_of_le hbb hB, fun i p hp => by
      obtain ⟨Ai, ci, h1, h2⟩ := hc i p hp
      exact ⟨Ai, ci, h1, h2.more hB⟩⟩⟩
set_option maxRecDepth 100000 in
set_option maxHeartbeats 2000000 in
theorem hfit_any (B : Option Addr) (n c : Nat) (z : Int) (ps : List (List UInt8)) (w : World) (h : RR w w.heap.size B n ps) (hn : n ≤ 1000) (hz : z ≤ 9223372036854775807) (v : Bool) (hv : (decide (2 ≤ z ∧ z ≤ 28) && ps.all (fun p => ((p.length : Int) == szI z))) = v) :
    Calls Tryz.prog 102 #[.int .i64 z, .slice B n c] w fun e w' => e = .returned (.bool v) ∧ Below w.heap.size w w' := by
  have hmf : ∀ (fn : Fn) (first cap : Array Value) (w : World), (Instr.makeFunc fn first cap).run Tryz.prog w = .ok (.func fn first cap) w := fun _ _ _ _ => rfl
  by_cases h2 : 2 ≤ z
  · by_cases h28 : z ≤ 28
    · have e1 : ps.any (fun p => ((p.length : Int) != szI z)) = !v := by
        rw [← hv, decide_eq_true ⟨h2, h28⟩, Bool.true_and, List.any_eq_not_all_not]
        simp only [bne, Bool.not_not]
      have HC := Lib.hid (hcontf_any B n c w.heap.size z _ ps (w.alloc (.cells #[.int .i64 z] 3)) ((h.below (below_alloc w _)).more2 (below_alloc w _).size) hn (World.cell?_alloc_at _ _ _ _ rfl) hz rfl _ e1)
      clear h hv e1
      go_enter Tryz.func102, Tryz.ntmps102
      go_wp2_with fail
      refine HC.out.mono ?_
      rintro e w1 ⟨rfl, rfl⟩
      cases v
      · go_wp2_with fail
        go_ret
        exact ⟨rfl, below_alloc _ _⟩
      · go_wp2_with fail
        go_ret
        exact ⟨rfl, below_alloc _ _⟩
    · have e : v = false := by rw [← hv, decide_eq_false (fun e => h28 e.2), Bool.false_and]
      subst e
      clear hv h
      go_enter Tryz.func102, Tryz.ntmps102
      go_wp2_with fail
      go_ret
      exact ⟨rfl, below_alloc _ _⟩
  · have e : v = false := by rw [← hv, decide_eq_false (fun e => h2 e.1), Bool.false_and]
    subst e
    clear hv h
    go_enter Tryz.func102, Tryz.ntmps102
    go_wp2_with fail
    go_ret
    exact ⟨rfl, below_alloc _ _⟩
theorem fit_eq (z : Int) (k : Nat) : fitB z k = (decide (2 ≤ z ∧ z ≤ 28) && ((k : Int) == szI z)) := by
  unfold fitB
  rw [Bool.eq_iff_iff, Bool.and_eq_true, decide_eq_true_eq, decide_eq_true_eq, beq_iff_eq, and_assoc]
/-- One part, two parts. -/
theorem hfit_1 (w : World) (A : Option Addr) (n c : Nat) (z : Int) (l : List UInt8) (h : RB w w.heap.size A n l) (hz : z ≤ 9223372036854775807) (v : Bool) (hv : fitB z l.length = v) :
    Calls Tryz.prog 102 #[.int .i64 z, .slice (some ⟨w.heap.size, 0, none⟩) 1 1] (w.alloc (.cells #[.slice A n c] 25)) (fun e w' => e = .returned (.bool v) ∧ Below w.heap.size w w') := by
  have e1 := h.len
  have hrr := RR.lit w [(A, c, l)] #[.slice A n c] 25 1 w.heap.size (by simp [e1]) rfl rfl (fun r hr => by
    simp only [List.mem_cons, List.not_mem_nil, or_false] at hr
    subst hr
    rw [e1]; exact h)
  refine (hfit_any _ 1 1 z [l] _ hrr (by omega) hz v (by rw [← hv, fit_eq]; simp only [List.all_cons, List.all_nil, Bool.and_true])).mono ?_
  rintro e w' ⟨rfl, hb⟩
  exact ⟨rfl, (below_alloc w _).trans (hb.mono (by simp))⟩
theorem hfit_2 (w : World) (A1 A2 : Option Addr) (n1 n2 c1 c2 : Nat) (z : Int) (l1 l2 : List UInt8) (h1 : RB w w.heap.size A1 n1 l1) (h2 : RB w w.heap.size A2 n2 l2) (hz : z ≤ 9223372036854775807) (v : Bool) (hv : (fitB z l1.length && fitB z l2.length) = v) :
    Calls Tryz.prog 102 #[.int .i64 z, .slice (some ⟨w.heap.size, 0, none⟩) 2 2] (w.alloc (.cells #[.slice A1 n1 c1, .slice A2 n2 c2] 25)) (fun e w' => e = .returned (.bool v) ∧ Below w.heap.size w w') := by
  have e1 := h1.len
  have e2 := h2.len
  have hrr := RR.lit w [(A1, c1, l1), (A2, c2, l2)] #[.slice A1 n1 c1, .slice A2 n2 c2] 25 2 w.heap.size (by simp [e1, e2]) rfl rfl (fun r hr => by
    simp only [List.mem_cons, List.not_mem_nil, or_false] at hr
    rcases hr with rfl | rfl
    · rw [e1]; exact h1
    · rw [e2]; exact h2)
  refine (hfit_any _ 2 2 z [l1, l2] _ hrr (by omega) hz v (by
    rw [← hv, fit_eq, fit_eq]
    simp only [List.all_cons, List.all_nil, Bool.and_true]
    cases decide (2 ≤ z ∧ z ≤ 28) <;> simp)).mono ?_
  rintro e w' ⟨rfl, hb⟩
  exact ⟨rfl, (below_alloc w _).trans (hb.mono (by simp))⟩
end Go.Proofs.YtfipdaekfdbaeaaGreat
