/- Layer 8's numbers: a number's forms and their sizes, and what vari's functions and the references' answer of them. Condition: the slices' cells are readable. -/
import Derived.Test.YtakmnfcbfbkloaaOctAll
namespace Go.Proofs.Ytakmnfcbfbkloaa
open Go.RowKit
set_option linter.unusedVariables false

/-- What the form of the class k cannot have. -/
def lim : Nat → Nat | 0 => 64 | 1 => 16384 | 2 => 1073741824 | _ => 4611686018427387904
/-- The class of a number's least form; 4: there is none. -/
def clsL (n : Nat) : Nat := if n < 64 then 0 else if n < 16384 then 1 else if n < 1073741824 then 2 else if n < 4611686018427387904 then 3 else 4
/-- A class's bytes. -/
def sz : Nat → Nat | 0 => 1 | 1 => 2 | 2 => 4 | 3 => 8 | _ => 0
/-- A number's form of the class k. -/
def formL (n k : Nat) : List UInt8 := putL (k * lim k + n) (sz k)
theorem clsL_le (n : Nat) : clsL n ≤ 4 := by unfold clsL; (repeat' split) <;> omega
theorem clsL_lt {n k : Nat} (h : k < clsL n) : ¬ n < lim k := by
  have := clsL_le n
  rcases k with _ | _ | _ | _ | k <;> unfold clsL at h <;> simp only [lim] <;> (try omega) <;> (repeat' split at h) <;> omega
theorem clsL_fit {n k : Nat} (h : clsL n = k) (hk : k ≤ 3) : n < lim k := by
  rcases k with _ | _ | _ | _ | k <;> unfold clsL at h <;> simp only [lim] <;> (try omega) <;> (repeat' split at h) <;> omega
theorem clsL_four {n : Nat} : clsL n = 4 ↔ 4611686018427387904 ≤ n := by
  unfold clsL; constructor <;> intro h <;> (repeat' split at h) <;> (repeat' split) <;> omega
theorem lim_mono {a b : Nat} (h : a ≤ b) (hb : b ≤ 3) : lim a ≤ lim b := by
  rcases a with _ | _ | _ | _ | a <;> rcases b with _ | _ | _ | _ | b <;> simp only [lim] <;> omega
theorem clsL_of_fit {n k : Nat} (hk : k ≤ 3) (h : n < lim k) : clsL n ≤ k := by
  rcases Nat.lt_or_ge k (clsL n) with h2 | h2
  · exact absurd h (clsL_lt h2)
  · exact h2
theorem formL_len (n k : Nat) : (formL n k).length = sz k := putL_len _ _
theorem down_form {n k : Nat} (hk : k ≤ 3) (h : n < lim k) : downL (k * lim k + n) (sz k) = 0 := by
  rcases k with _ | _ | _ | _ | k <;> simp only [lim] at h <;> simp only [sz, lim, downL] <;> omega
theorem down_fit {n k : Nat} (hk : k ≤ 3) (h : n < lim k) : downL n (sz k) = 0 := by
  rcases k with _ | _ | _ | _ | k <;> simp only [lim] at h <;> simp only [sz, downL] <;> omega
theorem num_putV : ∀ (k n : Nat), numL (putL n k) + 256 ^ k * downL n k = n
  | 0, n => by simp [putL, numL, downL]
  | k + 1, n => by
    have ih := num_putV k (n / 256)
    rw [putL, numL_snoc, ← downL_comm]
    have e : (UInt8.ofNat n).toNat = n % 256 := by simp
    rw [e, Nat.pow_succ]
    have h2 : 256 ^ k * 256 * downL (n / 256) k = 256 * (256 ^ k * downL (n / 256) k) := by rw [Nat.mul_comm (256 ^ k) 256, Nat.mul_assoc]
    rw [h2]
    omega
theorem num_form {n k : Nat} (hk : k ≤ 3) (h : n < lim k) : numL (formL n k) = k * lim k + n := by
  have := num_putV (sz k) (k * lim k + n)
  rw [down_form hk h] at this
  unfold formL
  omega
/-- The first byte of a form: what octet.Put gave, and the class's bits. -/
theorem form_set {n k : Nat} (hk : k ≤ 3) (h : n < lim k) : ∃ x : UInt8, (putL n (sz k))[0]? = some x ∧ x.toNat < 64 ∧ formL n k = (putL n (sz k)).set 0 (UInt8.ofNat (k * 64 + x.toNat)) := by
  rcases k with _ | _ | _ | _ | k
  · simp only [lim] at h
    refine ⟨UInt8.ofNat n, rfl, by simp; omega, ?_⟩
    simp only [formL, sz, putL, lim, List.nil_append, List.set_cons_zero, List.cons.injEq, and_true]
    simp only [← UInt8.toNat_inj, UInt8.toNat_ofNat']
    omega
  · simp only [lim] at h
    refine ⟨UInt8.ofNat (n / 256), rfl, by simp; omega, ?_⟩
    simp only [formL, sz, putL, lim, List.nil_append, List.cons_append, List.set_cons_zero, List.cons.injEq, and_true]
    simp only [← UInt8.toNat_inj, UInt8.toNat_ofNat']
    omega
  · simp only [lim] at h
    refine ⟨UInt8.ofNat (n / 256 / 256 / 256), rfl, by simp; omega, ?_⟩
    simp only [formL, sz, putL, lim, List.nil_append, List.cons_append, List.set_cons_zero, List.cons.injEq, and_true]
    simp only [← UInt8.toNat_inj, UInt8.toNat_ofNat']
    omega
  · simp only [lim] at h
    refine ⟨UInt8.ofNat (n / 256 / 256 / 256 / 256 / 256 / 256 / 256), rfl, by simp; omega, ?_⟩
    simp only [formL, sz, putL, lim, List.nil_append, List.cons_append, List.set_cons_zero, List.cons.injEq, and_true]
    simp only [← UInt8.toNat_inj, UInt8.toNat_ofNat']
    omega
  · omega

theorem most_any (k : Nat) (hk : k ≤ 3) (w : World) :
    Calls Try.prog 61 #[.int .i64 (k : Int)] w fun e w' => e = .returned (.int .u64 ((lim k - 1 : Nat) : Int)) ∧ w = w' := by
  rcases k with _ | _ | _ | _ | k
  · go_enter Try.func61, Try.ntmps61
    go_wp2
    go_ret
    exact ⟨rfl, rfl⟩
  · go_enter Try.func61, Try.ntmps61
    go_wp2
    go_ret
    exact ⟨rfl, rfl⟩
  · go_enter Try.func61, Try.ntmps61
    go_wp2
    go_ret
    exact ⟨rfl, rfl⟩
  · go_enter Try.func61, Try.ntmps61
    go_wp2
    go_ret
    exact ⟨rfl, rfl⟩
  · omega
theorem lim_pos (k : Nat) : 1 ≤ lim k := by rcases k with _ | _ | _ | k <;> simp [lim]
theorem lim_le (k : Nat) : lim k ≤ 4611686018427387904 := by rcases k with _ | _ | _ | k <;> simp [lim]
theorem fits_any (n k : Nat) (hk : k ≤ 3) (v : Bool) (hv : decide (n < lim k) = v) (w : World) :
    Calls Try.prog 69 #[.int .u64 (n : Int), .int .i64 (k : Int)] w fun e w' => e = .returned (.bool v) ∧ w = w' := by
  have h1 := lim_pos k
  obtain ⟨m, HM⟩ : ∃ m, Hid (m = lim k - 1) := ⟨_, Lib.hid rfl⟩
  have HV := Lib.hid hv
  clear hv
  go_enter Try.func69, Try.ntmps69
  go_wp2_with fail
  refine (most_any k hk _).mono ?_
  rintro e w1 ⟨rfl, rfl⟩
  rw [← HM.out]
  go_wp2_with fail
  go_ret
  exact ⟨ret1b (by rw [← HV.out, HM.out]; exact decide_eq_decide.2 (by omega)), rfl⟩

set_option maxHeartbeats 1000000 in
theorem size_any (n : Nat) (w : World) :
    Calls Try.prog 67 #[.int .u64 (n : Int)] w fun e w' => e = .returned (.int .i64 (sz (clsL n) : Int)) ∧ w = w' := by
  have hc := clsL_le n
  obtain ⟨c, HC⟩ : ∃ c, Hid (clsL n = c) := ⟨_, Lib.hid rfl⟩
  rw [HC.out] at hc ⊢
  go_enter Try.func67, Try.ntmps67
  go_wp2
  go_loop [3, 4] (fun _ i => ∃ j : Nat, j ≤ c ∧ i = .int .i64 j) (fun _ i => 4 - (intOf i).toNat)
  case atStart => exact ⟨0, Nat.zero_le _, rfl⟩
  case round =>
    obtain ⟨j, hj, rfl⟩ := hrel
    by_cases hlt : j < c
    · have hf := decide_eq_false (clsL_lt (n := n) (k := j) (by rw [HC.out]; exact hlt))
      have HF := Lib.hid hf
      clear hf
      go_wp2_with fail
      refine (fits_any n j (by omega) false HF.out _).mono ?_
      rintro e w1 ⟨rfl, rfl⟩
      go_wp2_with fail
      go_round
      case rel => exact ⟨j + 1, by omega, by go_num⟩
      case measure => simp [intOf]; omega
    · obtain rfl : j = c := by omega
      by_cases h4 : j = 4
      · subst h4
        go_wp2
        go_ret
        exact ⟨rfl, rfl⟩
      · have hf := decide_eq_true (clsL_fit (n := n) (k := j) HC.out (by omega))
        have HF := Lib.hid hf
        clear hf
        go_wp2_with fail
        refine (fits_any n j (by omega) true HF.out _).mono ?_
        rintro e w1 ⟨rfl, rfl⟩
        rcases j with _ | _ | _ | _ | j
        · go_wp2_with fail
          go_ret
          exact ⟨rfl, rfl⟩
        · go_wp2_with fail
          go_ret
          exact ⟨rfl, rfl⟩
        · go_wp2_with fail
          go_ret
          exact ⟨rfl, rfl⟩
        · go_wp2_with fail
          go_ret
          exact ⟨rfl, rfl⟩
        · omega

theorem or_topv (x : UInt8) (k : Nat) (hx : x.toNat < 64) (hk : k ≤ 3) : Value.int .u8 (bits .or .u8 (x.toNat : Int) ((k : Int) * 64)) = bv (UInt8.ofNat (k * 64 + x.toNat)) := by
  have h : ∀ (a : Fin 64) (b : Fin 4), bits .or .u8 ((a.val : Nat) : Int) ((b.val : Int) * 64) = ((b.val * 64 + a.val : Nat) : Int) := by decide +kernel
  have := h ⟨x.toNat, hx⟩ ⟨k, by omega⟩
  unfold bv
  congr 1
  refine this.trans ?_
  simp
  omega
theorem pow_named (k : Nat) (hk : k ≤ 3) : ∃ P : Nat, (2 : Int) ^ k = (P : Int) ∧ P = sz k ∧ 1 ≤ P ∧ P ≤ 8 := by
  rcases k with _ | _ | _ | _ | k
  · exact ⟨1, rfl, rfl, by omega, by omega⟩
  · exact ⟨2, rfl, rfl, by omega, by omega⟩
  · exact ⟨4, rfl, rfl, by omega, by omega⟩
  · exact ⟨8, rfl, rfl, by omega, by omega⟩
  · omega
theorem sz_lt {a b : Nat} (h : a < b) (hb : b ≤ 3) : sz a < sz b := by
  rcases a with _ | _ | _ | _ | a <;> rcases b with _ | _ | _ | _ | b <;> simp only [sz] <;> omega

set_option maxHeartbeats 1000000 in
theorem wide_0 (n : Nat) (w : World) (hn : n < lim 0) :
    Calls Try.prog 66 #[.int .u64 (n : Int), .int .i64 1] w (RetBE 1 (formL n 0) 0 w) := by
  obtain ⟨x, hx0, hx1, hx2⟩ := form_set (k := 0) (by omega) hn
  have hd := down_fit (k := 0) (by omega) hn
  have HD := Lib.hid hd
  have HX := Lib.hid hx2
  have hn64 : n ≤ 18446744073709551615 := by have := lim_le 0; omega
  have HT := Lib.hid (decide_eq_true hn)
  clear hd hx2
  go_enter Try.func66, Try.ntmps66
  go_wp2
  go_loopw [6, 7, 8, 9] (fun _ _ _ i wr => ∃ j : Nat, j ≤ 0 ∧ i = .int .i64 j ∧ wr = w) (fun _ _ _ i _ => 4 - (intOf i).toNat)
  case atStart => exact ⟨0, Nat.zero_le _, rfl, rfl⟩
  case round =>
    obtain ⟨j, hj, rfl, rfl⟩ := hrel
    by_cases hlt : j < 0
    · omega
    · obtain rfl : j = 0 := by omega
      go_wp2_with fail
      refine (fits_any n 0 (by omega) true HT.out _).mono ?_
      rintro e w1 ⟨rfl, rfl⟩
      go_wp2_with fail
      refine (put_ok n 1 _ hn64 (by omega)).mono ?_
      rintro e w1 (⟨_, A1, c1, rfl, hown, hb1⟩ | ⟨h, _⟩)
      · obtain ⟨g, rfl, hg1, hg2⟩ := hown.form (by omega)
        have hc0 := hown.cellAt hx0
        have hf0 := hown.freeAt 0
        go_wp2_with fail
        go_ret2
        exact ⟨_, _, rfl, by rw [HX.out]; exact hown.stored 0 (UInt8.ofNat (0 * 64 + x.toNat)) _ (or_topv x 0 hx1 (by omega)), hb1.setCell hg1 _⟩
      · exact absurd HD.out h

set_option maxHeartbeats 1000000 in
theorem wide_1 (n : Nat) (w : World) (hn : n < lim 1) :
    Calls Try.prog 66 #[.int .u64 (n : Int), .int .i64 2] w (RetBE 2 (formL n 1) 0 w) := by
  obtain ⟨x, hx0, hx1, hx2⟩ := form_set (k := 1) (by omega) hn
  have hd := down_fit (k := 1) (by omega) hn
  have HD := Lib.hid hd
  have HX := Lib.hid hx2
  have hn64 : n ≤ 18446744073709551615 := by have := lim_le 1; omega
  have HT := Lib.hid (decide_eq_true hn)
  clear hd hx2
  go_enter Try.func66, Try.ntmps66
  go_wp2
  go_loopw [6, 7, 8, 9] (fun _ _ _ i wr => ∃ j : Nat, j ≤ 1 ∧ i = .int .i64 j ∧ wr = w) (fun _ _ _ i _ => 4 - (intOf i).toNat)
  case atStart => exact ⟨0, Nat.zero_le _, rfl, rfl⟩
  case round =>
    obtain ⟨j, hj, rfl, rfl⟩ := hrel
    by_cases hlt : j < 1
    · obtain ⟨P, hp1, hp2, hp3, hp4⟩ := pow_named j (by omega)
      have hne : ((2 : Int) == (P : Int)) = false := by
        have : P < 2 := by rw [hp2]; exact sz_lt (b := 1) hlt (by omega)
        rw [beq_eq_false_iff_ne]; omega
      clear hp2
      go_wp2
      go_roundw
      case rel => exact ⟨j + 1, by omega, by go_num, trivial⟩
      case measure => simp [intOf]; omega
    · obtain rfl : j = 1 := by omega
      go_wp2_with fail
      refine (fits_any n 1 (by omega) true HT.out _).mono ?_
      rintro e w1 ⟨rfl, rfl⟩
      go_wp2_with fail
      refine (put_ok n 2 _ hn64 (by omega)).mono ?_
      rintro e w1 (⟨_, A1, c1, rfl, hown, hb1⟩ | ⟨h, _⟩)
      · obtain ⟨g, rfl, hg1, hg2⟩ := hown.form (by omega)
        have hc0 := hown.cellAt hx0
        have hf0 := hown.freeAt 0
        go_wp2_with fail
        go_ret2
        exact ⟨_, _, rfl, by rw [HX.out]; exact hown.stored 0 (UInt8.ofNat (1 * 64 + x.toNat)) _ (or_topv x 1 hx1 (by omega)), hb1.setCell hg1 _⟩
      · exact absurd HD.out h

set_option maxHeartbeats 1000000 in
theorem wide_2 (n : Nat) (w : World) (hn : n < lim 2) :
    Calls Try.prog 66 #[.int .u64 (n : Int), .int .i64 4] w (RetBE 4 (formL n 2) 0 w) := by
  obtain ⟨x, hx0, hx1, hx2⟩ := form_set (k := 2) (by omega) hn
  have hd := down_fit (k := 2) (by omega) hn
  have HD := Lib.hid hd
  have HX := Lib.hid hx2
  have hn64 : n ≤ 18446744073709551615 := by have := lim_le 2; omega
  have HT := Lib.hid (decide_eq_true hn)
  clear hd hx2
  go_enter Try.func66, Try.ntmps66
  go_wp2
  go_loopw [6, 7, 8, 9] (fun _ _ _ i wr => ∃ j : Nat, j ≤ 2 ∧ i = .int .i64 j ∧ wr = w) (fun _ _ _ i _ => 4 - (intOf i).toNat)
  case atStart => exact ⟨0, Nat.zero_le _, rfl, rfl⟩
  case round =>
    obtain ⟨j, hj, rfl, rfl⟩ := hrel
    by_cases hlt : j < 2
    · obtain ⟨P, hp1, hp2, hp3, hp4⟩ := pow_named j (by omega)
      have hne : ((4 : Int) == (P : Int)) = false := by
        have : P < 4 := by rw [hp2]; exact sz_lt (b := 2) hlt (by omega)
        rw [beq_eq_false_iff_ne]; omega
      clear hp2
      go_wp2
      go_roundw
      case rel => exact ⟨j + 1, by omega, by go_num, trivial⟩
      case measure => simp [intOf]; omega
    · obtain rfl : j = 2 := by omega
      go_wp2_with fail
      refine (fits_any n 2 (by omega) true HT.out _).mono ?_
      rintro e w1 ⟨rfl, rfl⟩
      go_wp2_with fail
      refine (put_ok n 4 _ hn64 (by omega)).mono ?_
      rintro e w1 (⟨_, A1, c1, rfl, hown, hb1⟩ | ⟨h, _⟩)
      · obtain ⟨g, rfl, hg1, hg2⟩ := hown.form (by omega)
        have hc0 := hown.cellAt hx0
        have hf0 := hown.freeAt 0
        go_wp2_with fail
        go_ret2
        exact ⟨_, _, rfl, by rw [HX.out]; exact hown.stored 0 (UInt8.ofNat (2 * 64 + x.toNat)) _ (or_topv x 2 hx1 (by omega)), hb1.setCell hg1 _⟩
      · exact absurd HD.out h

set_option maxHeartbeats 1000000 in
theorem wide_3 (n : Nat) (w : World) (hn : n < lim 3) :
    Calls Try.prog 66 #[.int .u64 (n : Int), .int .i64 8] w (RetBE 8 (formL n 3) 0 w) := by
  obtain ⟨x, hx0, hx1, hx2⟩ := form_set (k := 3) (by omega) hn
  have hd := down_fit (k := 3) (by omega) hn
  have HD := Lib.hid hd
  have HX := Lib.hid hx2
  have hn64 : n ≤ 18446744073709551615 := by have := lim_le 3; omega
  have HT := Lib.hid (decide_eq_true hn)
  clear hd hx2
  go_enter Try.func66, Try.ntmps66
  go_wp2
  go_loopw [6, 7, 8, 9] (fun _ _ _ i wr => ∃ j : Nat, j ≤ 3 ∧ i = .int .i64 j ∧ wr = w) (fun _ _ _ i _ => 4 - (intOf i).toNat)
  case atStart => exact ⟨0, Nat.zero_le _, rfl, rfl⟩
  case round =>
    obtain ⟨j, hj, rfl, rfl⟩ := hrel
    by_cases hlt : j < 3
    · obtain ⟨P, hp1, hp2, hp3, hp4⟩ := pow_named j (by omega)
      have hne : ((8 : Int) == (P : Int)) = false := by
        have : P < 8 := by rw [hp2]; exact sz_lt (b := 3) hlt (by omega)
        rw [beq_eq_false_iff_ne]; omega
      clear hp2
      go_wp2
      go_roundw
      case rel => exact ⟨j + 1, by omega, by go_num, trivial⟩
      case measure => simp [intOf]; omega
    · obtain rfl : j = 3 := by omega
      go_wp2_with fail
      refine (fits_any n 3 (by omega) true HT.out _).mono ?_
      rintro e w1 ⟨rfl, rfl⟩
      go_wp2_with fail
      refine (put_ok n 8 _ hn64 (by omega)).mono ?_
      rintro e w1 (⟨_, A1, c1, rfl, hown, hb1⟩ | ⟨h, _⟩)
      · obtain ⟨g, rfl, hg1, hg2⟩ := hown.form (by omega)
        have hc0 := hown.cellAt hx0
        have hf0 := hown.freeAt 0
        go_wp2_with fail
        go_ret2
        exact ⟨_, _, rfl, by rw [HX.out]; exact hown.stored 0 (UInt8.ofNat (3 * 64 + x.toNat)) _ (or_topv x 3 hx1 (by omega)), hb1.setCell hg1 _⟩
      · exact absurd HD.out h

theorem wide_ok (n k : Nat) (w : World) (hk : k ≤ 3) (hn : n < lim k) :
    Calls Try.prog 66 #[.int .u64 (n : Int), .int .i64 (sz k : Int)] w (RetBE (sz k) (formL n k) 0 w) := by
  rcases k with _ | _ | _ | _ | k
  · exact wide_0 n w hn
  · exact wide_1 n w hn
  · exact wide_2 n w hn
  · exact wide_3 n w hn
  · omega

set_option maxHeartbeats 1000000 in
theorem wide_bad (n : Nat) (z : Int) (w : World) (hz : ∀ k, k ≤ 3 → z = (sz k : Int) → ¬ n < lim k) :
    Calls Try.prog 66 #[.int .u64 (n : Int), .int .i64 z] w fun e w' => e = .returned (.tuple #[.slice none 0 0, .int .i64 11]) ∧ w = w' := by
  have HZ := Lib.hid hz
  clear hz
  go_enter Try.func66, Try.ntmps66
  go_wp2
  go_loopw [6, 7, 8, 9] (fun _ _ _ i wr => ∃ j : Nat, j ≤ 4 ∧ i = .int .i64 j ∧ wr = w) (fun _ _ _ i _ => 4 - (intOf i).toNat)
  case atStart => exact ⟨0, Nat.zero_le _, rfl, rfl⟩
  case round =>
    obtain ⟨j, hj, rfl, rfl⟩ := hrel
    by_cases hlt : j < 4
    · obtain ⟨P, hp1, hp2, hp3, hp4⟩ := pow_named j (by omega)
      by_cases he : z = (P : Int)
      · have hf := Lib.hid (decide_eq_false (HZ.out j (by omega) (by rw [he, hp2])))
        subst he
        clear hp2
        go_wp2_with fail
        refine (fits_any n j (by omega) false hf.out _).mono ?_
        rintro e w1 ⟨rfl, rfl⟩
        go_wp2_with fail
        go_roundw
        case rel => exact ⟨j + 1, by omega, by go_num, trivial⟩
        case measure => simp [intOf]; omega
      · have hne : (z == (P : Int)) = false := by rw [beq_eq_false_iff_ne]; exact he
        clear hp2 he
        go_wp2
        go_roundw
        case rel => exact ⟨j + 1, by omega, by go_num, trivial⟩
        case measure => simp [intOf]; omega
    · obtain rfl : j = 4 := by omega
      go_wp2
      go_ret2
      exact ⟨rfl, rfl⟩

theorem vput_any (n : Nat) (w : World) :
    Calls Try.prog 62 #[.int .u64 (n : Int)] w fun e w' => (clsL n ≤ 3 ∧ RetBE (sz (clsL n)) (formL n (clsL n)) 0 w e w') ∨ (clsL n = 4 ∧ e = .returned (.tuple #[.slice none 0 0, .int .i64 11]) ∧ w = w') := by
  have hc := clsL_le n
  have hs := size_any n
  have hfit := fun h => clsL_fit (n := n) (k := clsL n) rfl h
  have h4 := (clsL_four (n := n)).1
  obtain ⟨c, HC⟩ : ∃ c, Hid (clsL n = c) := ⟨_, Lib.hid rfl⟩
  rw [HC.out] at hc hfit hs h4 ⊢
  by_cases h3 : c ≤ 3
  · have hw := fun W => wide_ok n c W h3 (hfit h3)
    obtain ⟨s, HS⟩ : ∃ s : Nat, Hid (sz c = s) := ⟨_, Lib.hid rfl⟩
    rw [HS.out] at hs hw
    have H1 := Lib.hid hs
    have H2 := Lib.hid hw
    clear hs hw hfit h4
    go_enter Try.func62, Try.ntmps62
    go_wp2_with fail
    refine (H1.out _).mono ?_
    rintro e w1 ⟨rfl, rfl⟩
    go_wp2_with fail
    refine (H2.out _).mono ?_
    rintro e w1 ⟨A1, c1, rfl, hown, hb1⟩
    go_wp2_with fail
    go_ret2
    exact .inl ⟨h3, by rw [HS.out]; exact ⟨_, _, rfl, hown, hb1⟩⟩
  · obtain rfl : c = 4 := by omega
    have hw := fun W => wide_bad n 0 W (by
      intro k hk hz
      rcases k with _ | _ | _ | _ | k <;> simp only [sz] at hz <;> omega)
    have H1 := Lib.hid hs
    have H2 := Lib.hid hw
    clear hs hw hfit h4
    go_enter Try.func62, Try.ntmps62
    go_wp2_with fail
    refine (H1.out _).mono ?_
    rintro e w1 ⟨rfl, rfl⟩
    go_wp2_with fail
    refine (H2.out _).mono ?_
    rintro e w1 ⟨rfl, rfl⟩
    go_wp2_with fail
    go_ret2
    exact .inr ⟨trivial, rfl, rfl⟩

/-- The references' limit of a size. -/
def limZ (z : Int) : Nat := if z = 1 then 64 else if z = 2 then 16384 else if z = 4 then 1073741824 else if z = 8 then 4611686018427387904 else 0
theorem limZ_sz (k : Nat) (hk : k ≤ 3) : limZ (sz k : Int) = lim k := by
  rcases k with _ | _ | _ | _ | k
  · rfl
  · rfl
  · rfl
  · rfl
  · omega
theorem limZ_bad {n : Nat} {z : Int} (hz : ∀ k, k ≤ 3 → z = (sz k : Int) → ¬ n < lim k) : ¬ n < limZ z := by
  unfold limZ
  split
  · exact hz 0 (by omega) (by assumption)
  · split
    · exact hz 1 (by omega) (by assumption)
    · split
      · exact hz 2 (by omega) (by assumption)
      · split
        · exact hz 3 (by omega) (by assumption)
        · omega
theorem limZ_le (z : Int) : limZ z ≤ 4611686018427387904 := by unfold limZ; (repeat' split) <;> omega
theorem rlimit_any (z : Int) (w : World) :
    Calls Try.prog 63 #[.int .i64 z] w fun e w' => e = .returned (.int .u64 (limZ z : Int)) ∧ w = w' := by
  by_cases h1 : z = 1
  · subst h1
    go_enter Try.func63, Try.ntmps63
    go_wp2
    go_ret
    exact ⟨rfl, rfl⟩
  · by_cases h2 : z = 2
    · subst h2
      go_enter Try.func63, Try.ntmps63
      go_wp2
      go_ret
      exact ⟨rfl, rfl⟩
    · by_cases h4 : z = 4
      · subst h4
        go_enter Try.func63, Try.ntmps63
        go_wp2
        go_ret
        exact ⟨rfl, rfl⟩
      · by_cases h8 : z = 8
        · subst h8
          go_enter Try.func63, Try.ntmps63
          go_wp2
          go_ret
          exact ⟨rfl, rfl⟩
        · have e1 : (z == 1) = false := by simpa using h1
          have e2 : (z == 2) = false := by simpa using h2
          have e4 : (z == 4) = false := by simpa using h4
          have e8 : (z == 8) = false := by simpa using h8
          have hz : limZ z = 0 := by unfold limZ; rw [if_neg h1, if_neg h2, if_neg h4, if_neg h8]
          rw [hz]
          clear hz h1 h2 h4 h8
          go_enter Try.func63, Try.ntmps63
          go_wp2
          go_ret
          exact ⟨rfl, rfl⟩
theorem rclass_any (k : Nat) (hk : k ≤ 3) (w : World) :
    Calls Try.prog 68 #[.int .i64 (sz k : Int)] w fun e w' => e = .returned (.int .u64 (k : Int)) ∧ w = w' := by
  rcases k with _ | _ | _ | _ | k
  · simp only [sz]
    go_enter Try.func68, Try.ntmps68
    go_wp2
    go_ret
    exact ⟨rfl, rfl⟩
  · simp only [sz]
    go_enter Try.func68, Try.ntmps68
    go_wp2
    go_ret
    exact ⟨rfl, rfl⟩
  · simp only [sz]
    go_enter Try.func68, Try.ntmps68
    go_wp2
    go_ret
    exact ⟨rfl, rfl⟩
  · simp only [sz]
    go_enter Try.func68, Try.ntmps68
    go_wp2
    go_ret
    exact ⟨rfl, rfl⟩
  · omega

set_option maxHeartbeats 1000000 in
theorem rsize_any (n : Nat) (w : World) :
    Calls Try.prog 65 #[.int .u64 (n : Int)] w fun e w' => e = .returned (.int .i64 (sz (clsL n) : Int)) ∧ w = w' := by
  have hc := clsL_le n
  obtain ⟨c, HC⟩ : ∃ c, Hid (clsL n = c) := ⟨_, Lib.hid rfl⟩
  rw [HC.out] at hc ⊢
  go_enter Try.func65, Try.ntmps65
  go_wp2
  go_loop [3] (fun i => ∃ j : Nat, j ≤ c ∧ i = .int .i64 (if j = 4 then 16 else sz j : Nat)) (fun i => 16 - (intOf i).toNat)
  case atStart => exact ⟨0, Nat.zero_le _, rfl⟩
  case round =>
    obtain ⟨j, hj, rfl⟩ := hrel
    by_cases hlt : j < c
    · rw [if_neg (by omega)]
      have hl := rlimit_any (sz j : Int)
      rw [limZ_sz j (by omega)] at hl
      have hf := clsL_lt (n := n) (k := j) (by rw [HC.out]; exact hlt)
      obtain ⟨P, hp1, hp2, hp3, hp4⟩ := pow_named j (by omega)
      have hP : (P * 2 : Nat) = if j + 1 = 4 then 16 else sz (j + 1) := by
        subst hp2
        rcases j with _ | _ | _ | _ | j
        · rfl
        · rfl
        · rfl
        · rfl
        · omega
      rw [← hp2] at hl ⊢
      obtain ⟨m, HM⟩ : ∃ m, Hid (m = lim j) := ⟨_, Lib.hid rfl⟩
      rw [← HM.out] at hl hf
      have HL := Lib.hid hl
      have HP := Lib.hid hP
      clear hl hp1 hp2 hP
      go_wp2_with fail
      refine (HL.out _).mono ?_
      rintro e w1 ⟨rfl, rfl⟩
      go_wp2_with fail
      go_round
      case rel => exact ⟨j + 1, by omega, by rw [← HP.out]; go_num⟩
      case measure => simp [intOf]; omega
    · obtain rfl : j = c := by omega
      by_cases h4 : j = 4
      · subst h4
        go_wp2
        go_ret
        exact ⟨rfl, rfl⟩
      · rw [if_neg h4]
        have hl := rlimit_any (sz j : Int)
        rw [limZ_sz j (by omega)] at hl
        have hf := clsL_fit (n := n) (k := j) HC.out (by omega)
        obtain ⟨P, hp1, hp2, hp3, hp4⟩ := pow_named j (by omega)
        have HE := Lib.hid hp2
        rw [← hp2] at hl ⊢
        obtain ⟨m, HM⟩ : ∃ m, Hid (m = lim j) := ⟨_, Lib.hid rfl⟩
        rw [← HM.out] at hl hf
        have HL := Lib.hid hl
        clear hl hp1 hp2
        go_wp2_with fail
        refine (HL.out _).mono ?_
        rintro e w1 ⟨rfl, rfl⟩
        go_wp2_with fail
        go_ret
        exact ⟨by rw [← HE.out]; rfl, rfl⟩

set_option maxHeartbeats 1000000 in
theorem rwide_bad (n : Nat) (z : Int) (w : World) (hz : ∀ k, k ≤ 3 → z = (sz k : Int) → ¬ n < lim k) :
    Calls Try.prog 64 #[.int .u64 (n : Int), .int .i64 z] w fun e w' => e = .returned (.tuple #[.slice none 0 0, .int .i64 11]) ∧ w = w' := by
  have hb := limZ_bad hz
  have hl := rlimit_any z
  obtain ⟨m, HM⟩ : ∃ m, Hid (m = limZ z) := ⟨_, Lib.hid rfl⟩
  rw [← HM.out] at hl hb
  have HL := Lib.hid hl
  clear hl hz
  go_enter Try.func64, Try.ntmps64
  go_wp2_with fail
  refine (HL.out _).mono ?_
  rintro e w1 ⟨rfl, rfl⟩
  go_wp2_with fail
  go_ret2
  exact ⟨rfl, rfl⟩

set_option maxHeartbeats 1000000 in
theorem rwide_ok (n k : Nat) (w : World) (hk : k ≤ 3) (hn : n < lim k) :
    Calls Try.prog 64 #[.int .u64 (n : Int), .int .i64 (sz k : Int)] w (RetBE (sz k) (formL n k) 0 w) := by
  have hl := rlimit_any (sz k : Int)
  rw [limZ_sz k hk] at hl
  have hcl := rclass_any k hk
  have hm4 := lim_le k
  have hd := Lib.hid (down_form hk hn)
  have hput := fun W => rput_ok (k * lim k + n) (sz k) W (by
    have : k * lim k ≤ 3 * 4611686018427387904 := Nat.mul_le_mul hk hm4
    omega) (by rcases k with _ | _ | _ | _ | k <;> simp [sz])
  have HF : Hid (formL n k = putL (k * lim k + n) (sz k)) := Lib.hid rfl
  have hkm : k * lim k ≤ 3 * 4611686018427387904 := Nat.mul_le_mul hk hm4
  obtain ⟨m, HM⟩ : ∃ m, Hid (m = lim k) := ⟨_, Lib.hid rfl⟩
  obtain ⟨s, HS⟩ : ∃ s : Nat, Hid (sz k = s) := ⟨_, Lib.hid rfl⟩
  rw [HS.out] at hl hcl hput ⊢
  rw [← HM.out] at hl hn hput hkm hm4
  obtain ⟨q, HQ⟩ : ∃ q : Nat, Hid (q = k * m) := ⟨_, Lib.hid rfl⟩
  have hq : (k : Int) * (m : Int) = (q : Int) := by rw [HQ.out]; simp
  have hq2 : IntKind.u64.wrap ((k : Int) * (m : Int)) = (q : Int) := by
    rw [hq]
    rw [← HQ.out] at hkm
    rw [IntKind.wrap_u64]
    omega
  rw [← HQ.out] at hput hkm
  simp only [Int.natCast_add] at hput
  have HL := Lib.hid hl
  have HC := Lib.hid hcl
  have HP := Lib.hid hput
  clear hl hcl hput
  go_enter Try.func64, Try.ntmps64
  go_wp2_with fail
  refine (HL.out _).mono ?_
  rintro e w1 ⟨rfl, rfl⟩
  go_wp2_with fail
  refine (HC.out _).mono ?_
  rintro e w1 ⟨rfl, rfl⟩
  go_wp2_with fail
  refine (HL.out _).mono ?_
  rintro e w1 ⟨rfl, rfl⟩
  go_wp2_with fail
  refine (HP.out _).mono ?_
  rintro e w1 (⟨_, A1, c1, rfl, hown, hb1⟩ | ⟨h, _⟩)
  · go_wp2_with fail
    go_ret2
    exact ⟨_, _, rfl, by rw [HF.out, HS.out, ← HM.out, ← HQ.out]; exact hown, hb1⟩
  · exact absurd hd.out (by rw [HS.out, ← HM.out, ← HQ.out]; exact h)

/-- What ours and the reference's Wide both answer. -/
theorem wide_both (n : Nat) (z : Int) : ∃ (m : Nat) (r : List UInt8) (code : Int), m ≤ 8 ∧
    Hid (∀ W : World, Calls Try.prog 66 #[.int .u64 (n : Int), .int .i64 z] W (RetBE m r code W)) ∧
    Hid (∀ W : World, Calls Try.prog 64 #[.int .u64 (n : Int), .int .i64 z] W (RetBE m r code W)) := by
  by_cases h : ∃ k, k ≤ 3 ∧ z = (sz k : Int) ∧ n < lim k
  · obtain ⟨k, hk, rfl, hn⟩ := h
    exact ⟨sz k, formL n k, 0, by rcases k with _ | _ | _ | _ | k <;> simp [sz], Lib.hid fun W => wide_ok n k W hk hn, Lib.hid fun W => rwide_ok n k W hk hn⟩
  · have hz : ∀ k, k ≤ 3 → z = (sz k : Int) → ¬ n < lim k := fun k h1 h2 h3 => h ⟨k, h1, h2, h3⟩
    refine ⟨0, [], 11, by omega, Lib.hid (fun W => (wide_bad n z W hz).mono ?_), Lib.hid (fun W => (rwide_bad n z W hz).mono ?_)⟩ <;>
    · rintro e w' ⟨rfl, rfl⟩
      exact ⟨none, 0, rfl, OwnB.nil_ _ _, Below.refl _ _⟩
/-- The least form's bytes; none where there is none. -/
def leastL (n : Nat) : List UInt8 := if clsL n ≤ 3 then formL n (clsL n) else []
def codeL (n : Nat) : Int := if clsL n ≤ 3 then 0 else 11
theorem leastL_len (n : Nat) : (leastL n).length = sz (clsL n) := by
  unfold leastL
  split
  · exact formL_len _ _
  · have := clsL_le n
    rw [show clsL n = 4 from by omega]
    rfl
theorem sz_le (k : Nat) : sz k ≤ 8 := by rcases k with _ | _ | _ | _ | k <;> simp [sz]
theorem least_any (n : Nat) (w : World) :
    Calls Try.prog 62 #[.int .u64 (n : Int)] w (RetBE (leastL n).length (leastL n) (codeL n) w) :=
  (vput_any n w).mono fun e w' h => by
    rw [leastL_len]
    unfold leastL codeL
    rcases h with ⟨h, hr⟩ | ⟨h, rfl, rfl⟩
    · rw [if_pos h, if_pos h]; exact hr
    · rw [if_neg (by omega), if_neg (by omega), h]; exact ⟨none, 0, rfl, OwnB.nil_ _ _, Below.refl _ _⟩
theorem rleast_any (n : Nat) (w : World) :
    Calls Try.prog 60 #[.int .u64 (n : Int)] w (RetBE (leastL n).length (leastL n) (codeL n) w) := by
  have hw : ∀ W : World, Calls Try.prog 64 #[.int .u64 (n : Int), .int .i64 (sz (clsL n) : Int)] W (RetBE (leastL n).length (leastL n) (codeL n) W) := by
    intro W
    rw [leastL_len]
    unfold leastL codeL
    by_cases h : clsL n ≤ 3
    · rw [if_pos h, if_pos h]
      exact rwide_ok n _ W h (clsL_fit rfl h)
    · rw [if_neg h, if_neg h, show clsL n = 4 from by have := clsL_le n; omega]
      refine (rwide_bad n _ W (by
        intro k hk hz
        rcases k with _ | _ | _ | _ | k <;> simp only [sz] at hz <;> omega)).mono ?_
      rintro e w' ⟨rfl, rfl⟩
      exact ⟨none, 0, rfl, OwnB.nil_ _ _, Below.refl _ _⟩
  have hs := rsize_any n
  obtain ⟨s, HS⟩ : ∃ s : Nat, Hid (sz (clsL n) = s) := ⟨_, Lib.hid rfl⟩
  rw [HS.out] at hs hw
  obtain ⟨r, HR⟩ : ∃ r, Hid (leastL n = r) := ⟨_, Lib.hid rfl⟩
  obtain ⟨c, HC⟩ : ∃ c, Hid (codeL n = c) := ⟨_, Lib.hid rfl⟩
  rw [HR.out, HC.out] at hw ⊢
  have H1 := Lib.hid hs
  have H2 := Lib.hid hw
  clear hs hw
  go_enter Try.func60, Try.ntmps60
  go_wp2_with fail
  refine (H1.out _).mono ?_
  rintro e w1 ⟨rfl, rfl⟩
  go_wp2_with fail
  refine (H2.out _).mono ?_
  rintro e w1 ⟨A1, c1, rfl, hown, hb1⟩
  go_wp2_with fail
  go_ret2
  exact ⟨_, _, rfl, hown, hb1⟩
end Go.Proofs.Ytakmnfcbfbkloaa
