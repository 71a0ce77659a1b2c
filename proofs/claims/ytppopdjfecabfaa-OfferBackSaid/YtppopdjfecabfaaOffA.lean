/- Layer 13's Make, and slices.Contains of versions. Conditions: the slices' cells are readable, ids of at most a million bytes. -/
import Derived.Test.YtppopdjfecabfaaOffK
namespace Go.Proofs.Ytppopdjfecabfaa
open Go.RowKit
set_option linter.unusedVariables false
set_option linter.unusedSimpArgs false
set_option maxRecDepth 100000 in
set_option maxHeartbeats 2000000 in
theorem vindex_any (A : Option Addr) (n c : Nat) (l : List Nat) (v : Nat) (w : World) (h : VL w w.heap.size A n l) (hn : n ≤ 1000000) :
    Calls Try.prog 46 #[.slice A n c, .int .u32 (v : Int)] w fun e w' => ∃ z : Int, e = .returned (.int .i64 z) ∧ w = w' ∧ decide (0 ≤ z) = l.contains v := by
  have H := Lib.hid h
  have HL := Lib.hid h.len
  clear h
  go_enter Try.func46, Try.ntmps46
  go_wp2_with fail
  go_loopw [5, 8] (fun _ i wr => ∃ k : Nat, k ≤ n ∧ i = .int .i64 k ∧ w = wr ∧ Hid ((l.take k).contains v = false)) (fun _ i _ => n - (intOf i).toNat)
  case atStart => exact ⟨0, by omega, rfl, rfl, Lib.hid (by simp)⟩
  case round =>
    obtain ⟨k, hk, rfl, rfl, HC⟩ := hrel
    by_cases hlt : k < n
    · obtain ⟨b, o, rfl, hb, x, hx, hx32, hcl⟩ := H.out.at_ hlt
      have HX := Lib.hid hx
      clear hx
      by_cases hxv : v = x
      · subst hxv
        go_wp2_with fail
        go_ret
        exact ⟨_, rfl, rfl, by
          rw [decide_eq_true (by omega : (0 : Int) ≤ (k : Int))]
          symm
          rw [List.contains_iff_mem]; exact List.mem_of_getElem? HX.out⟩
      · have hne : ((v : Int) == (x : Int)) = false := by rw [beq_eq_false_iff_ne]; omega
        go_wp2_with fail
        go_roundw
        case rel => exact ⟨k + 1, by omega, by go_num, trivial, Lib.hid (by rw [vtk_snoc HX.out]; simpa [hxv] using HC.out)⟩
        case measure => simp [intOf]; omega
    · have hkn : k = n := by omega
      subst hkn
      have e : l.take k = l := List.take_of_length_le (by have := HL.out; omega)
      rw [e] at HC
      clear e
      go_wp2_with fail
      go_ret
      exact ⟨_, rfl, rfl, by rw [HC.out]; decide⟩
set_option maxRecDepth 100000 in
set_option maxHeartbeats 2000000 in
theorem contains_any (A : Option Addr) (n c : Nat) (l : List Nat) (v : Nat) (w : World) (h : VL w w.heap.size A n l) (hn : n ≤ 1000000) (u : Bool) (hu : l.contains v = u) :
    Calls Try.prog 31 #[.slice A n c, .int .u32 (v : Int)] w fun e w' => e = .returned (.bool u) ∧ w = w' := by
  have HI := Lib.hid (vindex_any A n c l v w h hn)
  rw [hu] at HI
  clear h hu
  go_enter Try.func31, Try.ntmps31
  go_wp2_with fail
  refine HI.out.mono ?_
  rintro e w1 ⟨z, rfl, rfl, hz⟩
  go_wp2_with fail
  go_ret
  exact ⟨rfl, rfl⟩
theorem putS_ver (P : List UInt8) {l : List Nat} {k x : Nat} (h : l[k]? = some x) (hx : x ≤ 4294967295) : putS (putN x 4).1 (putN x 4).2 (0, P ++ verL (l.take k)) = (0, P ++ verL (l.take (k + 1))) := by
  rw [putN_4 x hx, putS_0, verL_step h, List.append_assoc]
attribute [local irreducible] putL byt mkO offL rawP verL putS doneS putN
set_option maxRecDepth 100000 in
set_option maxHeartbeats 4000000 in
theorem omake_any (f : UInt8) (A0 A1 A : Option Addr) (c0 c1 n c : Nat) (a b : List UInt8) (l : List Nat) (w : World) (h0 : RB w w.heap.size A0 a.length a) (m0 : a.length ≤ c0 ∧ c0 ≤ maxLen) (h1 : RB w w.heap.size A1 b.length b) (m1 : b.length ≤ c1 ∧ c1 ≤ maxLen) (ha : a.length ≤ 1000000) (hb : b.length ≤ 1000000) (h : VL w w.heap.size A n l) (hn : n ≤ maxLen) :
    Calls Try.prog 8 #[.int .u8 (f.toNat : Int), .slice A0 a.length c0, .slice A1 b.length c1, .slice A n c] w (RetBE (mkO f a b l).1.length (mkO f a b l).1 (mkO f a b l).2 w) := by
  have hl := h.len
  unfold maxLen at hn
  have H := Lib.hid h
  have hf8 := f.toNat_lt
  have HB := Lib.hid (hbytes_any ⟨f128 f, 0, A0, c0, a, A1, c1, b⟩ w ⟨h0, h1, m0, m1, Nat.zero_le _⟩ ha hb)
  have ep : (⟨f128 f, 0, A0, c0, a, A1, c1, b⟩ : Hd).pl = (f128 f, 0, a, b) := rfl
  rw [ep] at HB
  have hfe := f128_or f
  clear h h0 h1 ep
  rcases mk_cases f a b l with ⟨k, e⟩ | ⟨k, e⟩ | ⟨k1, k2, k3, kb, e⟩ | ⟨k1, k2, kb, e, ka, kbb⟩
  · rw [e]
    have d : ((n : Int) == 0) = true := by rw [beq_iff_eq]; omega
    clear k e hl
    go_enter Try.func8, Try.ntmps8
    go_wp2_with fail
    go_ret2
    exact ⟨none, 0, rfl, OwnB.nil_ _ _, Below.refl _ _⟩
  · rw [e]
    have d : ((n : Int) == 0) = false := by rw [beq_eq_false_iff_ne]; omega
    have d2 : decide (64 < (n : Int)) = true := decide_eq_true (by omega)
    clear k e hl
    go_enter Try.func8, Try.ntmps8
    go_wp2_with fail
    go_ret2
    exact ⟨none, 0, rfl, OwnB.nil_ _ _, Below.refl _ _⟩
  · rw [e]
    rw [kb] at HB
    have d : ((n : Int) == 0) = false := by rw [beq_eq_false_iff_ne]; omega
    have d2 : decide (64 < (n : Int)) = false := decide_eq_false (by omega)
    clear k1 k2 k3 kb e hl
    go_enter Try.func8, Try.ntmps8
    go_wp2_with fail
    refine HB.out.mono ?_
    rintro e w1 ⟨A2, c2, rfl, ho, hb⟩
    have B1 := Lib.hid hb
    clear ho hb
    go_wp2_with fail
    go_ret2
    exact ⟨none, 0, rfl, OwnB.nil_ _ _, B1.out⟩
  · rw [e]
    rw [kb] at HB
    have d : ((n : Int) == 0) = false := by rw [beq_eq_false_iff_ne]; omega
    have d2 : decide (64 < (n : Int)) = false := decide_eq_false (by omega)
    obtain ⟨P, HP⟩ : ∃ P, Hid (P = rawP (f128 f, 0, a, b) ∧ P.length ≤ 600) := ⟨_, Lib.hid ⟨rfl, by rw [raw_len]; simp only; omega⟩⟩
    rw [← HP.out.1] at HB
    have HE : Hid (offL f a b l = P ++ verL l) := Lib.hid (by rw [HP.out.1]; unfold offL; rfl)
    rw [HE.out]
    have HL := Lib.hid hl
    have n64 : n ≤ 64 := by omega
    obtain ⟨m, hm⟩ : ∃ m, m = P.length := ⟨_, rfl⟩
    rw [← hm] at HB
    have HPM := Lib.hid hm
    have m600 : m ≤ 600 := by rw [hm]; exact HP.out.2
    clear k1 k2 kb e hl HE ka kbb hm
    go_enter Try.func8, Try.ntmps8
    go_wp2_with fail
    refine HB.out.mono ?_
    rintro e w1 ⟨A2, c2, rfl, ho, hb⟩
    have K1 := Lib.hid (And.intro ho hb)
    clear ho hb HB
    go_wp2_with fail
    refine (write_any _ w.heap.size (by exact K1.out.2.size)).mono ?_
    rintro e w2 ⟨x, rfl, hx, hb, hw⟩
    have K2 := Lib.hid (And.intro (bel_next K1.out.2 hb) (And.intro hw (And.intro (Nat.le_trans K1.out.2.size hx) (K1.out.1.below hb))))
    clear hx hb hw K1
    go_wp2_with fail
    refine (wbytes1 x w.heap.size none A2 m c2 P (0, []) _ (by exact K2.out.2.1) (by exact K2.out.2.2.2.rb) (by omega) (by exact K2.out.1.size) (by simp)).mono ?_
    rw [putS_0, List.nil_append]
    rintro e w3 ⟨rfl, A3, _, ho, hw⟩
    have K3 : Hid (Below w.heap.size w w3 ∧ WrR w3 x w.heap.size A3 (0, P)) := Lib.hid ⟨K2.out.1.trans (ho.below (fun j hj => by rcases List.mem_cons.1 hj with rfl | hj; exact K2.out.2.2.1; exact (K2.out.2.1.own j hj).2.1) K2.out.1.size), hw⟩
    have LX := Lib.hid K2.out.2.2.1
    clear ho hw K2
    go_wp2_with fail
    go_loopw [14, 41] (fun _ i wr => ∃ (k : Nat) (A4 : Option Addr), k ≤ n ∧ i = .int .i64 (k : Int) ∧ Hid (Below w.heap.size w wr ∧ WrR wr x w.heap.size A4 (0, P ++ verL (l.take k)))) (fun _ i _ => n - (intOf i).toNat)
    case atStart => exact ⟨0, A3, Nat.zero_le _, rfl, Lib.hid ⟨K3.out.1, by simpa [show verL [] = [] from by unfold verL; rfl] using K3.out.2⟩⟩
    case round =>
      obtain ⟨k, A4, hk, rfl, HR⟩ := hrel
      by_cases hlt : k < n
      · obtain ⟨b2, o2, rfl, hb2, y, hy, hy32, hcl⟩ := (H.out.below HR.out.1).at_ hlt
        have HX := Lib.hid (putS_ver P hy hy32)
        have HLL : Hid ((P ++ verL (l.take k)).length ≤ 1000000) := Lib.hid (by rw [List.length_append, verL_len, List.length_take]; have := HPM.out; omega)
        have HN := Lib.hid (wnum_any x w.heap.size A4 y 4 (0, P ++ verL (l.take k)) wr HR.out.2 HR.out.1.size (Nat.le_trans HLL.out (by decide)) (by omega))
        rw [HX.out] at HN
        clear hy
        go_wp2_with fail
        refine HN.out.mono ?_
        rintro e w5 ⟨rfl, A5, _, ho, hw⟩
        have K5 : Hid (Below w.heap.size w w5 ∧ WrR w5 x w.heap.size A5 (0, P ++ verL (l.take (k + 1)))) := Lib.hid ⟨HR.out.1.trans (ho.below (fun j hj => by rcases List.mem_cons.1 hj with rfl | hj; exact LX.out; exact (HR.out.2.own j hj).2.1) HR.out.1.size), hw⟩
        clear ho hw
        go_wp2_with fail
        go_roundw
        case rel => exact ⟨k + 1, A5, by omega, by go_num, K5⟩
        case measure => simp [intOf]; omega
      · obtain rfl : k = n := by omega
        have e : l.take k = l := List.take_of_length_le (by have := HL.out; omega)
        rw [e] at HR
        clear e
        have HD : Hid (doneS (0, P ++ verL l) = (P ++ verL l, 0)) := Lib.hid (doneS_0 _)
        have HLL : Hid ((P ++ verL l).length ≤ 1000000) := Lib.hid (by rw [List.length_append, verL_len]; have := HPM.out; have := HL.out; omega)
        have HW := Lib.hid (wdone_any x w.heap.size A4 (0, P ++ verL l) wr HR.out.2 HLL.out)
        rw [HD.out] at HW
        go_wp2_with fail
        refine HW.out.mono ?_
        rintro e w6 ⟨A6, c6, rfl, ho, hb⟩
        have K6 := Lib.hid (And.intro (ho.base_le HR.out.1.size) (bel_next HR.out.1 hb))
        clear ho hb
        go_wp2_with fail
        go_ret2
        exact ⟨A6, c6, by rw [List.length_append]; rfl, K6.out.1, K6.out.2⟩
end Go.Proofs.Ytppopdjfecabfaa
