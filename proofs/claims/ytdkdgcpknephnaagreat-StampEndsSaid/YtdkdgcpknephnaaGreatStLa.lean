/- Layer 12's tooLong and sign and Stamp. Conditions: the slices' cells are readable, ids of at most a million bytes. -/
import Derived.Test.YtdkdgcpknephnaaGreatStR
namespace Go.Proofs.YtdkdgcpknephnaaGreat
open Go.RowKit
set_option linter.unusedVariables false
set_option linter.unusedSimpArgs false
set_option maxRecDepth 100000 in
theorem slong1_any (A : Option Addr) (n c : Nat) (w : World) (v : Bool) (hv : decide (20 < (n : Int)) = v) :
    Calls Tryz.prog 46 #[.slice A n c] w fun e w' => e = .returned (.bool v) ∧ w = w' := by
  go_enter Tryz.func46, Tryz.ntmps46
  go_wp2_with fail
  go_ret
  exact ⟨by first | rfl | simp [hv], rfl⟩
set_option maxRecDepth 100000 in
set_option maxHeartbeats 2000000 in
theorem sindexf_any (A : Option Addr) (n c : Nat) (ps : List (List UInt8)) (w : World) (h : RR w w.heap.size A n ps) (hn : n ≤ 1000) :
    Calls Tryz.prog 69 #[.slice A n c, .func (.func 46) #[] #[]] w fun e w' => ∃ z : Int, e = .returned (.int .i64 z) ∧ w = w' ∧ decide (0 ≤ z) = ps.any (fun p => decide (20 < p.length)) := by
  have H := Lib.hid h
  have HL := Lib.hid h.len
  clear h
  go_enter Tryz.func69, Tryz.ntmps69
  go_wp2_with fail
  go_loopw [8] (fun i wr => ∃ k : Nat, k ≤ n ∧ i = .int .i64 k ∧ w = wr ∧ Hid (∀ j p, j < k → ps[j]? = some p → p.length ≤ 20)) (fun i _ => n - (intOf i).toNat)
  case atStart => exact ⟨0, by omega, rfl, rfl, Lib.hid (fun j p hj => absurd hj (Nat.not_lt_zero _))⟩
  case round =>
    obtain ⟨k, hk, rfl, rfl, HA⟩ := hrel
    by_cases hlt : k < n
    · obtain ⟨b, o, rfl, hb, p, hp, Ai, ci, hc, hr⟩ := H.out.at_ hlt
      have HP := Lib.hid hp
      by_cases h20 : 20 < p.length
      · have HC := Lib.hid (slong1_any Ai p.length ci w true (decide_eq_true (by omega)))
        have H20 := Lib.hid h20
        clear hp h20
        go_wp2_with fail
        refine HC.out.mono ?_
        rintro e w1 ⟨rfl, rfl⟩
        go_wp2_with fail
        go_ret
        exact ⟨_, rfl, rfl, by
          rw [decide_eq_true (by omega : (0 : Int) ≤ (k : Int))]
          exact (List.any_eq_true.2 ⟨p, List.mem_of_getElem? HP.out, decide_eq_true H20.out⟩).symm⟩
      · have HC := Lib.hid (slong1_any Ai p.length ci w false (decide_eq_false (by omega)))
        have H20 := Lib.hid h20
        clear hp h20
        go_wp2_with fail
        refine HC.out.mono ?_
        rintro e w1 ⟨rfl, rfl⟩
        go_wp2_with fail
        go_roundw
        case rel => exact ⟨k + 1, by omega, by go_num, trivial, Lib.hid (fun j q hj hq => by
          rcases Nat.lt_or_eq_of_le (Nat.le_of_lt_succ hj) with h1 | h1
          · exact HA.out j q h1 hq
          · subst h1
            rw [HP.out] at hq
            rw [← Option.some.inj hq]
            exact Nat.le_of_not_lt H20.out)⟩
        case measure => simp [intOf]; omega
    · have hkn : k = n := by omega
      subst hkn
      go_wp2_with fail
      go_ret
      exact ⟨_, rfl, rfl, by
        symm
        rw [show decide ((0 : Int) ≤ -1) = false by decide, List.any_eq_false]
        intro p hp
        obtain ⟨j, hj, hpj⟩ := List.mem_iff_getElem.1 hp
        have := HA.out j p (by rw [HL.out] at hj; exact hj) (by rw [← hpj]; exact List.getElem?_eq_getElem hj)
        simp only [decide_eq_true_eq]
        omega⟩
set_option maxRecDepth 100000 in
set_option maxHeartbeats 2000000 in
theorem scontainsf_any (A : Option Addr) (n c : Nat) (ps : List (List UInt8)) (w : World) (h : RR w w.heap.size A n ps) (hn : n ≤ 1000) (v : Bool) (hv : ps.any (fun p => decide (20 < p.length)) = v) :
    Calls Tryz.prog 45 #[.slice A n c, .func (.func 46) #[] #[]] w fun e w' => e = .returned (.bool v) ∧ w = w' := by
  have HI := Lib.hid (sindexf_any A n c ps w h hn)
  have HV := Lib.hid hv
  clear h hv hn
  go_enter Tryz.func45, Tryz.ntmps45
  go_wp2_with fail
  refine HI.out.mono ?_
  rintro e w1 ⟨z, rfl, rfl, hz⟩
  rw [HV.out] at hz
  go_wp2_with fail
  go_ret
  exact ⟨rfl, rfl⟩
set_option maxRecDepth 100000 in
set_option maxHeartbeats 2000000 in
theorem stlong_any (B : Option Addr) (n c : Nat) (ps : List (List UInt8)) (w : World) (h : RR w w.heap.size B n ps) (hn : n ≤ 1000) (v : Bool) (hv : ps.any (fun p => decide (20 < p.length)) = v) :
    Calls Tryz.prog 23 #[.slice B n c] w fun e w' => e = .returned (.bool v) ∧ w = w' := by
  have HC := Lib.hid (scontainsf_any B n c ps w h hn v hv)
  clear h hv hn
  go_enter Tryz.func23, Tryz.ntmps23
  go_wp2_with fail
  refine HC.out.mono ?_
  rintro e w1 ⟨rfl, rfl⟩
  go_wp2_with fail
  go_ret
  exact ⟨rfl, rfl⟩
/-- One id, two, three. -/
theorem stl1 (w : World) (A : Option Addr) (n c : Nat) (l : List UInt8) (h : RB w w.heap.size A n l) (v : Bool) (hv : decide (20 < l.length) = v) :
    Calls Tryz.prog 23 #[.slice (some ⟨w.heap.size, 0, none⟩) 1 1] (w.alloc (.cells #[.slice A n c] 22)) (fun e w' => e = .returned (.bool v) ∧ Below w.heap.size w w') := by
  have e1 := h.len
  have hrr := RR.lit w [(A, c, l)] #[.slice A n c] 22 1 w.heap.size (by simp [e1]) rfl rfl (fun r hr => by
    simp only [List.mem_cons, List.not_mem_nil, or_false] at hr
    subst hr
    rw [e1]; exact h)
  refine (stlong_any _ 1 1 [l] _ hrr (by omega) v (by simp only [List.any_cons, List.any_nil, Bool.or_false]; exact hv)).mono ?_
  rintro e w' ⟨rfl, rfl⟩
  exact ⟨rfl, below_alloc w _⟩
theorem stl2 (w : World) (A1 A2 : Option Addr) (n1 n2 c1 c2 : Nat) (l1 l2 : List UInt8) (h1 : RB w w.heap.size A1 n1 l1) (h2 : RB w w.heap.size A2 n2 l2) (v : Bool) (hv : (decide (20 < l1.length) || decide (20 < l2.length)) = v) :
    Calls Tryz.prog 23 #[.slice (some ⟨w.heap.size, 0, none⟩) 2 2] (w.alloc (.cells #[.slice A1 n1 c1, .slice A2 n2 c2] 22)) (fun e w' => e = .returned (.bool v) ∧ Below w.heap.size w w') := by
  have e1 := h1.len
  have e2 := h2.len
  have hrr := RR.lit w [(A1, c1, l1), (A2, c2, l2)] #[.slice A1 n1 c1, .slice A2 n2 c2] 22 2 w.heap.size (by simp [e1, e2]) rfl rfl (fun r hr => by
    simp only [List.mem_cons, List.not_mem_nil, or_false] at hr
    rcases hr with rfl | rfl
    · rw [e1]; exact h1
    · rw [e2]; exact h2)
  refine (stlong_any _ 2 2 [l1, l2] _ hrr (by omega) v (by simp only [List.any_cons, List.any_nil, Bool.or_false]; exact hv)).mono ?_
  rintro e w' ⟨rfl, rfl⟩
  exact ⟨rfl, below_alloc w _⟩
theorem stl3 (w : World) (A1 A2 A3 : Option Addr) (n1 n2 n3 c1 c2 c3 : Nat) (l1 l2 l3 : List UInt8) (h1 : RB w w.heap.size A1 n1 l1) (h2 : RB w w.heap.size A2 n2 l2) (h3 : RB w w.heap.size A3 n3 l3) (v : Bool) (hv : (decide (20 < l1.length) || (decide (20 < l2.length) || decide (20 < l3.length))) = v) :
    Calls Tryz.prog 23 #[.slice (some ⟨w.heap.size, 0, none⟩) 3 3] (w.alloc (.cells #[.slice A1 n1 c1, .slice A2 n2 c2, .slice A3 n3 c3] 22)) (fun e w' => e = .returned (.bool v) ∧ Below w.heap.size w w') := by
  have e1 := h1.len
  have e2 := h2.len
  have e3 := h3.len
  have hrr := RR.lit w [(A1, c1, l1), (A2, c2, l2), (A3, c3, l3)] #[.slice A1 n1 c1, .slice A2 n2 c2, .slice A3 n3 c3] 22 3 w.heap.size (by simp [e1, e2, e3]) rfl rfl (fun r hr => by
    simp only [List.mem_cons, List.not_mem_nil, or_false] at hr
    rcases hr with rfl | rfl | rfl
    · rw [e1]; exact h1
    · rw [e2]; exact h2
    · rw [e3]; exact h3)
  refine (stlong_any _ 3 3 [l1, l2, l3] _ hrr (by omega) v (by simp only [List.any_cons, List.any_nil, Bool.or_false]; exact hv)).mono ?_
  rintro e w' ⟨rfl, rfl⟩
  exact ⟨rfl, below_alloc w _⟩
end Go.Proofs.YtdkdgcpknephnaaGreat
