/- Layer 8's numbers: a number's forms and their sizes, and what vari's functions and the references' answer of them. Condition: the slices' cells are readable. -/
import Derived.Test.YtdagmhngkpbonaaOctAll
namespace Go.Proofs.Ytdagmhngkpbonaa
open Go.RowKit
set_option linter.unusedVariables false

/-- What the form of the class k cannot have. -/
def lim : Nat → Nat | 0 => 64 | 1 => 16384 | 2 => 1073741824 | _ => 4611686018427387904
/-- The class of a number's least form; 4: there is none. -/
def clsL (n : Nat) : Nat := if n < 64 then 0 else if n < 16384 then 1 else if n < 1073741824 then 2 else if n < 4611686018427387904 then 3 else 4
/-- A class's bytes. -/
def sz : Nat → Nat | 0 => 1 | 1 => 2 | 2 => 4 | 3 => 8 | _ => 0
/-- A number's form of the class k. -/
def formL (n k : Nat) : List UInt8 := putL (k * lim k + n) (sz k)
theorem clsL_le (n : Nat) : clsL n ≤ 4 := by unfold clsL; (repeat' split) <;> omega
theorem clsL_lt {n k : Nat} (h : k < clsL n) : ¬ n < lim k := by
  have := clsL_le n
  rcases k with _ | _ | _ | _ | k <;> unfold clsL at h <;> simp only [lim] <;> (try omega) <;> (repeat' split at h) <;> omega
theorem clsL_fit {n k : Nat} (h : clsL n = k) (hk : k ≤ 3) : n < lim k := by
  rcases k with _ | _ | _ | _ | k <;> unfold clsL at h <;> simp only [lim] <;> (try omega) <;> (repeat' split at h) <;> omega
theorem clsL_four {n : Nat} : clsL n = 4 ↔ 4611686018427387904 ≤ n := by
  unfold clsL; constructor <;> intro h <;> (repeat' split at h) <;> (repeat' split) <;> omega
theorem lim_mono {a b : Nat} (h : a ≤ b) (hb : b ≤ 3) : lim a ≤ lim b := by
  rcases a with _ | _ | _ | _ | a <;> rcases b with _ | _ | _ | _ | b <;> simp only [lim] <;> omega
theorem clsL_of_fit {n k : Nat} (hk : k ≤ 3) (h : n < lim k) : clsL n ≤ k := by
  rcases Nat.lt_or_ge k (clsL n) with h2 | h2
  · exact absurd h (clsL_lt h2)
  · exact h2
theorem formL_len (n k : Nat) : (formL n k).length = sz k := putL_len _ _
theorem down_form {n k : Nat} (hk : k ≤ 3) (h : n < lim k) : downL (k * lim k + n) (sz k) = 0 := by
  rcases k with _ | _ | _ | _ | k <;> simp only [lim] at h <;> simp only [sz, lim, downL] <;> omega
theorem down_fit {n k : Nat} (hk : k ≤ 3) (h : n < lim k) : downL n (sz k) = 0 := by
  rcases k with _ | _ | _ | _ | k <;> simp only [lim] at h <;> simp only [sz, downL] <;> omega
theorem num_putV : ∀ (k n : Nat), numL (putL n k) + 256 ^ k * downL n k = n
  | 0, n => by simp [putL, numL, downL]
  | k + 1, n => by
    have ih := num_putV k (n / 256)
    rw [putL, numL_snoc, ← downL_comm]
    have e : (UInt8.ofNat n).toNat = n % 256 := by simp
    rw [e, Nat.pow_succ]
    have h2 : 256 ^ k * 256 * downL (n / 256) k = 256 * (256 ^ k * downL (n / 256) k) := by rw [Nat.mul_comm (256 ^ k) 256, Nat.mul_assoc]
    rw [h2]
    omega
theorem num_form {n k : Nat} (hk : k ≤ 3) (h : n < lim k) : numL (formL n k) = k * lim k + n := by
  have := num_putV (sz k) (k * lim k + n)
  rw [down_form hk h] at this
  unfold formL
  omega
/-- The first byte of a form: what octet.Put gave, and the class's bits. -/
theorem form_set {n k : Nat} (hk : k ≤ 3) (h : n < lim k) : ∃ x : UInt8, (putL n (sz k))[0]? = some x ∧ x.toNat < 64 ∧ formL n k = (putL n (sz k)).set 0 (UInt8.ofNat (k * 64 + x.toNat)) := by
  rcases k with _ | _ | _ | _ | k
  · simp only [lim] at h
    refine ⟨UInt8.ofNat n, rfl, by simp; omega, ?_⟩
    simp only [formL, sz, putL, lim, List.nil_append, List.set_cons_zero, List.cons.injEq, and_true]
    simp only [← UInt8.toNat_inj, UInt8.toNat_ofNat']
    omega
  · simp only [lim] at h
    refine ⟨UInt8.ofNat (n / 256), rfl, by simp; omega, ?_⟩
    simp only [formL, sz, putL, lim, List.nil_append, List.cons_append, List.set_cons_zero, List.cons.injEq, and_true]
    simp only [← UInt8.toNat_inj, UInt8.toNat_ofNat']
    omega
  · simp only [lim] at h
    refine ⟨UInt8.ofNat (n / 256 / 256 / 256), rfl, by simp; omega, ?_⟩
    simp only [formL, sz, putL, lim, List.nil_append, List.cons_append, List.set_cons_zero, List.cons.injEq, and_true]
    simp only [← UInt8.toNat_inj, UInt8.toNat_ofNat']
    omega
  · simp only [lim] at h
    refine ⟨UInt8.ofNat (n / 256 / 256 / 256 / 256 / 256 / 256 / 256), rfl, by simp; omega, ?_⟩
    simp only [formL, sz, putL, lim, List.nil_append, List.cons_append, List.set_cons_zero, List.cons.injEq, and_true]
    simp only [← UInt8.toNat_inj, UInt8.toNat_ofNat']
    omega
  · omega

theorem most_any (k : Nat) (hk : k ≤ 3) (w : World) :
    Calls Try.prog 61 #[.int .i64 (k : Int)] w fun e w' => e = .returned (.int .u64 ((lim k - 1 : Nat) : Int)) ∧ w = w' := by
  rcases k with _ | _ | _ | _ | k
  · go_enter Try.func61, Try.ntmps61
    go_wp2
    go_ret
    exact ⟨rfl, rfl⟩
  · go_enter Try.func61, Try.ntmps61
    go_wp2
    go_ret
    exact ⟨rfl, rfl⟩
  · go_enter Try.func61, Try.ntmps61
    go_wp2
    go_ret
    exact ⟨rfl, rfl⟩
  · go_enter Try.func61, Try.ntmps61
    go_wp2
    go_ret
    exact ⟨rfl, rfl⟩
  · omega
theorem lim_pos (k : Nat) : 1 ≤ lim k := by rcases k with _ | _ | _ | k <;> simp [lim]
theorem lim_le (k : Nat) : lim k ≤ 4611686018427387904 := by rcases k with _ | _ | _ | k <;> simp [lim]
theorem fits_any (n k : Nat) (hk : k ≤ 3) (v : Bool) (hv : decide (n < lim k) = v) (w : World) :
    Calls Try.prog 65 #[.int .u64 (n : Int), .int .i64 (k : Int)] w fun e w' => e = .returned (.bool v) ∧ w = w' := by
  have h1 := lim_pos k
  obtain ⟨m, HM⟩ : ∃ m, Hid (m = lim k - 1) := ⟨_, Lib.hid rfl⟩
  have HV := Lib.hid hv
  clear hv
  go_enter Try.func65, Try.ntmps65
  go_wp2_with fail
  refine (most_any k hk _).mono ?_
  rintro e w1 ⟨rfl, rfl⟩
  rw [← HM.out]
  go_wp2_with fail
  go_ret
  exact ⟨ret1b (by rw [← HV.out, HM.out]; exact decide_eq_decide.2 (by omega)), rfl⟩

set_option maxHeartbeats 1000000 in
theorem size_any (n : Nat) (w : World) :
    Calls Try.prog 64 #[.int .u64 (n : Int)] w fun e w' => e = .returned (.int .i64 (sz (clsL n) : Int)) ∧ w = w' := by
  have hc := clsL_le n
  obtain ⟨c, HC⟩ : ∃ c, Hid (clsL n = c) := ⟨_, Lib.hid rfl⟩
  rw [HC.out] at hc ⊢
  go_enter Try.func64, Try.ntmps64
  go_wp2
  go_loop [3, 4] (fun _ i => ∃ j : Nat, j ≤ c ∧ i = .int .i64 j) (fun _ i => 4 - (intOf i).toNat)
  case atStart => exact ⟨0, Nat.zero_le _, rfl⟩
  case round =>
    obtain ⟨j, hj, rfl⟩ := hrel
    by_cases hlt : j < c
    · have hf := decide_eq_false (clsL_lt (n := n) (k := j) (by rw [HC.out]; exact hlt))
      have HF := Lib.hid hf
      clear hf
      go_wp2_with fail
      refine (fits_any n j (by omega) false HF.out _).mono ?_
      rintro e w1 ⟨rfl, rfl⟩
      go_wp2_with fail
      go_round
      case rel => exact ⟨j + 1, by omega, by go_num⟩
      case measure => simp [intOf]; omega
    · obtain rfl : j = c := by omega
      by_cases h4 : j = 4
      · subst h4
        go_wp2
        go_ret
        exact ⟨rfl, rfl⟩
      · have hf := decide_eq_true (clsL_fit (n := n) (k := j) HC.out (by omega))
        have HF := Lib.hid hf
        clear hf
        go_wp2_with fail
        refine (fits_any n j (by omega) true HF.out _).mono ?_
        rintro e w1 ⟨rfl, rfl⟩
        rcases j with _ | _ | _ | _ | j
        · go_wp2_with fail
          go_ret
          exact ⟨rfl, rfl⟩
        · go_wp2_with fail
          go_ret
          exact ⟨rfl, rfl⟩
        · go_wp2_with fail
          go_ret
          exact ⟨rfl, rfl⟩
        · go_wp2_with fail
          go_ret
          exact ⟨rfl, rfl⟩
        · omega

theorem or_topv (x : UInt8) (k : Nat) (hx : x.toNat < 64) (hk : k ≤ 3) : Value.int .u8 (bits .or .u8 (x.toNat : Int) ((k : Int) * 64)) = bv (UInt8.ofNat (k * 64 + x.toNat)) := by
  have h : ∀ (a : Fin 64) (b : Fin 4), bits .or .u8 ((a.val : Nat) : Int) ((b.val : Int) * 64) = ((b.val * 64 + a.val : Nat) : Int) := by decide +kernel
  have := h ⟨x.toNat, hx⟩ ⟨k, by omega⟩
  unfold bv
  congr 1
  refine this.trans ?_
  simp
  omega
theorem pow_named (k : Nat) (hk : k ≤ 3) : ∃ P : Nat, (2 : Int) ^ k = (P : Int) ∧ P = sz k ∧ 1 ≤ P ∧ P ≤ 8 := by
  rcases k with _ | _ | _ | _ | k
  · exact ⟨1, rfl, rfl, by omega, by omega⟩
  · exact ⟨2, rfl, rfl, by omega, by omega⟩
  · exact ⟨4, rfl, rfl, by omega, by omega⟩
  · exact ⟨8, rfl, rfl, by omega, by omega⟩
  · omega
theorem sz_lt {a b : Nat} (h : a < b) (hb : b ≤ 3) : sz a < sz b := by
  rcases a with _ | _ | _ | _ | a <;> rcases b with _ | _ | _ | _ | b <;> simp only [sz] <;> omega

set_option maxHeartbeats 1000000 in
theorem wide_0 (n : Nat) (w : World) (hn : n < lim 0) :
    Calls Try.prog 63 #[.int .u64 (n : Int), .int .i64 1] w (RetBE 1 (formL n 0) 0 w) := by
  obtain ⟨x, hx0, hx1, hx2⟩ := form_set (k := 0) (by omega) hn
  have hd := down_fit (k := 0) (by omega) hn
  have HD := Lib.hid hd
  have HX := Lib.hid hx2
  have hn64 : n ≤ 18446744073709551615 := by have := lim_le 0; omega
  have HT := Lib.hid (decide_eq_true hn)
  clear hd hx2
  go_enter Try.func63, Try.ntmps63
  go_wp2
  go_loopw [6, 7, 8, 9] (fun _ _ _ i wr => ∃ j : Nat, j ≤ 0 ∧ i = .int .i64 j ∧ wr = w) (fun _ _ _ i _ => 4 - (intOf i).toNat)
  case atStart => exact ⟨0, Nat.zero_le _, rfl, rfl⟩
  case round =>
    obtain ⟨j, hj, rfl, rfl⟩ := hrel
    by_cases hlt : j < 0
    · omega
    · obtain rfl : j = 0 := by omega
      go_wp2_with fail
      refine (fits_any n 0 (by omega) true HT.out _).mono ?_
      rintro e w1 ⟨rfl, rfl⟩
      go_wp2_with fail
      refine (put_ok n 1 _ hn64 (by omega)).mono ?_
      rintro e w1 (⟨_, A1, c1, rfl, hown, hb1⟩ | ⟨h, _⟩)
      · obtain ⟨g, rfl, hg1, hg2⟩ := hown.form (by omega)
        have hc0 := hown.cellAt hx0
        have hf0 := hown.freeAt 0
        go_wp2_with fail
        go_ret2
        exact ⟨_, _, rfl, by rw [HX.out]; exact hown.stored 0 (UInt8.ofNat (0 * 64 + x.toNat)) _ (or_topv x 0 hx1 (by omega)), hb1.setCell hg1 _⟩
      · exact absurd HD.out h

set_option maxHeartbeats 1000000 in
theorem wide_1 (n : Nat) (w : World) (hn : n < lim 1) :
    Calls Try.prog 63 #[.int .u64 (n : Int), .int .i64 2] w (RetBE 2 (formL n 1) 0 w) := by
  obtain ⟨x, hx0, hx1, hx2⟩ := form_set (k := 1) (by omega) hn
  have hd := down_fit (k := 1) (by omega) hn
  have HD := Lib.hid hd
  have HX := Lib.hid hx2
  have hn64 : n ≤ 18446744073709551615 := by have := lim_le 1; omega
  have HT := Lib.hid (decide_eq_true hn)
  clear hd hx2
  go_enter Try.func63, Try.ntmps63
  go_wp2
  go_loopw [6, 7, 8, 9] (fun _ _ _ i wr => ∃ j : Nat, j ≤ 1 ∧ i = .int .i64 j ∧ wr = w) (fun _ _ _ i _ => 4 - (intOf i).toNat)
  case atStart => exact ⟨0, Nat.zero_le _, rfl, rfl⟩
  case round =>
    obtain ⟨j, hj, rfl, rfl⟩ := hrel
    by_cases hlt : j < 1
    · obtain ⟨P, hp1, hp2, hp3, hp4⟩ := pow_named j (by omega)
      have hne : ((2 : Int) == (P : Int)) = false := by
        have : P < 2 := by rw [hp2]; exact sz_lt (b := 1) hlt (by omega)
        rw [beq_eq_false_iff_ne]; omega
      clear hp2
      go_wp2
      go_roundw
      case rel => exact ⟨j + 1, by omega, by go_num, trivial⟩
      case measure => simp [intOf]; omega
    · obtain rfl : j = 1 := by omega
      go_wp2_with fail
      refine (fits_any n 1 (by omega) true HT.out _).mono ?_
      rintro e w1 ⟨rfl, rfl⟩
      go_wp2_with fail
      refine (put_ok n 2 _ hn64 (by omega)).mono ?_
      rintro e w1 (⟨_, A1, c1, rfl, hown, hb1⟩ | ⟨h, _⟩)
      · obtain ⟨g, rfl, hg1, hg2⟩ := hown.form (by omega)
        have hc0 := hown.cellAt hx0
        have hf0 := hown.freeAt 0
        go_wp2_with fail
        go_ret2
        exact ⟨_, _, rfl, by rw [HX.out]; exact hown.stored 0 (UInt8.ofNat (1 * 64 + x.toNat)) _ (or_topv x 1 hx1 (by omega)), hb1.setCell hg1 _⟩
      · exact absurd HD.out h

set_option maxHeartbeats 1000000 in
theorem wide_2 (n : Nat) (w : World) (hn : n < lim 2) :
    Calls Try.prog 63 #[.int .u64 (n : Int), .int .i64 4] w (RetBE 4 (formL n 2) 0 w) := by
  obtain ⟨x, hx0, hx1, hx2⟩ := form_set (k := 2) (by omega) hn
  have hd := down_fit (k := 2) (by omega) hn
  have HD := Lib.hid hd
  have HX := Lib.hid hx2
  have hn64 : n ≤ 18446744073709551615 := by have := lim_le 2; omega
  have HT := Lib.hid (decide_eq_true hn)
  clear hd hx2
  go_enter Try.func63, Try.ntmps63
  go_wp2
  go_loopw [6, 7, 8, 9] (fun _ _ _ i wr => ∃ j : Nat, j ≤ 2 ∧ i = .int .i64 j ∧ wr = w) (fun _ _ _ i _ => 4 - (intOf i).toNat)
  case atStart => exact ⟨0, Nat.zero_le _, rfl, rfl⟩
  case round =>
    obtain ⟨j, hj, rfl, rfl⟩ := hrel
    by_cases hlt : j < 2
    · obtain ⟨P, hp1, hp2, hp3, hp4⟩ := pow_named j (by omega)
      have hne : ((4 : Int) == (P : Int)) = false := by
        have : P < 4 := by rw [hp2]; exact sz_lt (b := 2) hlt (by omega)
        rw [beq_eq_false_iff_ne]; omega
      clear hp2
      go_wp2
      go_roundw
      case rel => exact ⟨j + 1, by omega, by go_num, trivial⟩
      case measure => simp [intOf]; omega
    · obtain rfl : j = 2 := by omega
      go_wp2_with fail
      refine (fits_any n 2 (by omega) true HT.out _).mono ?_
      rintro e w1 ⟨rfl, rfl⟩
      go_wp2_with fail
      refine (put_ok n 4 _ hn64 (by omega)).mono ?_
      rintro e w1 (⟨_, A1, c1, rfl, hown, hb1⟩ | ⟨h, _⟩)
      · obtain ⟨g, rfl, hg1, hg2⟩ := hown.form (by omega)
        have hc0 := hown.cellAt hx0
        have hf0 := hown.freeAt 0
        go_wp2_with fail
        go_ret2
        exact ⟨_, _, rfl, by rw [HX.out]; exact hown.stored 0 (UInt8.ofNat (2 * 64 + x.toNat)) _ (or_topv x 2 hx1 (by omega)), hb1.setCell hg1 _⟩
      · exact absurd HD.out h

set_option maxHeartbeats 1000000 in
theorem wide_3 (n : Nat) (w : World) (hn : n < lim 3) :
    Calls Try.prog 63 #[.int .u64 (n : Int), .int .i64 8] w (RetBE 8 (formL n 3) 0 w) := by
  obtain ⟨x, hx0, hx1, hx2⟩ := form_set (k := 3) (by omega) hn
  have hd := down_fit (k := 3) (by omega) hn
  have HD := Lib.hid hd
  have HX := Lib.hid hx2
  have hn64 : n ≤ 18446744073709551615 := by have := lim_le 3; omega
  have HT := Lib.hid (decide_eq_true hn)
  clear hd hx2
  go_enter Try.func63, Try.ntmps63
  go_wp2
  go_loopw [6, 7, 8, 9] (fun _ _ _ i wr => ∃ j : Nat, j ≤ 3 ∧ i = .int .i64 j ∧ wr = w) (fun _ _ _ i _ => 4 - (intOf i).toNat)
  case atStart => exact ⟨0, Nat.zero_le _, rfl, rfl⟩
  case round =>
    obtain ⟨j, hj, rfl, rfl⟩ := hrel
    by_cases hlt : j < 3
    · obtain ⟨P, hp1, hp2, hp3, hp4⟩ := pow_named j (by omega)
      have hne : ((8 : Int) == (P : Int)) = false := by
        have : P < 8 := by rw [hp2]; exact sz_lt (b := 3) hlt (by omega)
        rw [beq_eq_false_iff_ne]; omega
      clear hp2
      go_wp2
      go_roundw
      case rel => exact ⟨j + 1, by omega, by go_num, trivial⟩
      case measure => simp [intOf]; omega
    · obtain rfl : j = 3 := by omega
      go_wp2_with fail
      refine (fits_any n 3 (by omega) true HT.out _).mono ?_
      rintro e w1 ⟨rfl, rfl⟩
      go_wp2_with fail
      refine (put_ok n 8 _ hn64 (by omega)).mono ?_
      rintro e w1 (⟨_, A1, c1, rfl, hown, hb1⟩ | ⟨h, _⟩)
      · obtain ⟨g, rfl, hg1, hg2⟩ := hown.form (by omega)
        have hc0 := hown.cellAt hx0
        have hf0 := hown.freeAt 0
        go_wp2_with fail
        go_ret2
        exact ⟨_, _, rfl, by rw [HX.out]; exact hown.stored 0 (UInt8.ofNat (3 * 64 + x.toNat)) _ (or_topv x 3 hx1 (by omega)), hb1.setCell hg1 _⟩
      · exact absurd HD.out h

theorem wide_ok (n k : Nat) (w : World) (hk : k ≤ 3) (hn : n < lim k) :
    Calls Try.prog 63 #[.int .u64 (n : Int), .int .i64 (sz k : Int)] w (RetBE (sz k) (formL n k) 0 w) := by
  rcases k with _ | _ | _ | _ | k
  · exact wide_0 n w hn
  · exact wide_1 n w hn
  · exact wide_2 n w hn
  · exact wide_3 n w hn
  · omega

set_option maxHeartbeats 1000000 in
theorem wide_bad (n : Nat) (z : Int) (w : World) (hz : ∀ k, k ≤ 3 → z = (sz k : Int) → ¬ n < lim k) :
    Calls Try.prog 63 #[.int .u64 (n : Int), .int .i64 z] w fun e w' => e = .returned (.tuple #[.slice none 0 0, .int .i64 11]) ∧ w = w' := by
  have HZ := Lib.hid hz
  clear hz
  go_enter Try.func63, Try.ntmps63
  go_wp2
  go_loopw [6, 7, 8, 9] (fun _ _ _ i wr => ∃ j : Nat, j ≤ 4 ∧ i = .int .i64 j ∧ wr = w) (fun _ _ _ i _ => 4 - (intOf i).toNat)
  case atStart => exact ⟨0, Nat.zero_le _, rfl, rfl⟩
  case round =>
    obtain ⟨j, hj, rfl, rfl⟩ := hrel
    by_cases hlt : j < 4
    · obtain ⟨P, hp1, hp2, hp3, hp4⟩ := pow_named j (by omega)
      by_cases he : z = (P : Int)
      · have hf := Lib.hid (decide_eq_false (HZ.out j (by omega) (by rw [he, hp2])))
        subst he
        clear hp2
        go_wp2_with fail
        refine (fits_any n j (by omega) false hf.out _).mono ?_
        rintro e w1 ⟨rfl, rfl⟩
        go_wp2_with fail
        go_roundw
        case rel => exact ⟨j + 1, by omega, by go_num, trivial⟩
        case measure => simp [intOf]; omega
      · have hne : (z == (P : Int)) = false := by rw [beq_eq_false_iff_ne]; exact he
        clear hp2 he
        go_wp2
        go_roundw
        case rel => exact ⟨j + 1, by omega, by go_num, trivial⟩
        case measure => simp [intOf]; omega
    · obtain rfl : j = 4 := by omega
      go_wp2
      go_ret2
      exact ⟨rfl, rfl⟩

theorem vput_any (n : Nat) (w : World) :
    Calls Try.prog 62 #[.int .u64 (n : Int)] w fun e w' => (clsL n ≤ 3 ∧ RetBE (sz (clsL n)) (formL n (clsL n)) 0 w e w') ∨ (clsL n = 4 ∧ e = .returned (.tuple #[.slice none 0 0, .int .i64 11]) ∧ w = w') := by
  have hc := clsL_le n
  have hs := size_any n
  have hfit := fun h => clsL_fit (n := n) (k := clsL n) rfl h
  have h4 := (clsL_four (n := n)).1
  obtain ⟨c, HC⟩ : ∃ c, Hid (clsL n = c) := ⟨_, Lib.hid rfl⟩
  rw [HC.out] at hc hfit hs h4 ⊢
  by_cases h3 : c ≤ 3
  · have hw := fun W => wide_ok n c W h3 (hfit h3)
    obtain ⟨s, HS⟩ : ∃ s : Nat, Hid (sz c = s) := ⟨_, Lib.hid rfl⟩
    rw [HS.out] at hs hw
    have H1 := Lib.hid hs
    have H2 := Lib.hid hw
    clear hs hw hfit h4
    go_enter Try.func62, Try.ntmps62
    go_wp2_with fail
    refine (H1.out _).mono ?_
    rintro e w1 ⟨rfl, rfl⟩
    go_wp2_with fail
    refine (H2.out _).mono ?_
    rintro e w1 ⟨A1, c1, rfl, hown, hb1⟩
    go_wp2_with fail
    go_ret2
    exact .inl ⟨h3, by rw [HS.out]; exact ⟨_, _, rfl, hown, hb1⟩⟩
  · obtain rfl : c = 4 := by omega
    have hw := fun W => wide_bad n 0 W (by
      intro k hk hz
      rcases k with _ | _ | _ | _ | k <;> simp only [sz] at hz <;> omega)
    have H1 := Lib.hid hs
    have H2 := Lib.hid hw
    clear hs hw hfit h4
    go_enter Try.func62, Try.ntmps62
    go_wp2_with fail
    refine (H1.out _).mono ?_
    rintro e w1 ⟨rfl, rfl⟩
    go_wp2_with fail
    refine (H2.out _).mono ?_
    rintro e w1 ⟨rfl, rfl⟩
    go_wp2_with fail
    go_ret2
    exact .inr ⟨trivial, rfl, rfl⟩

/-- The references' limit of a size. -/
def limZ (z : Int) : Nat := if z = 1 then 64 else if z = 2 then 16384 else if z = 4 then 1073741824 else if z = 8 then 4611686018427387904 else 0
theorem limZ_sz (k : Nat) (hk : k ≤ 3) : limZ (sz k : Int) = lim k := by
  rcases k with _ | _ | _ | _ | k
  · rfl
  · rfl
  · rfl
  · rfl
  · omega
theorem limZ_bad {n : Nat} {z : Int} (hz : ∀ k, k ≤ 3 → z = (sz k : Int) → ¬ n < lim k) : ¬ n < limZ z := by
  unfold limZ
  split
  · exact hz 0 (by omega) (by assumption)
  · split
    · exact hz 1 (by omega) (by assumption)
    · split
      · exact hz 2 (by omega) (by assumption)
      · split
        · exact hz 3 (by omega) (by assumption)
        · omega
theorem limZ_le (z : Int) : limZ z ≤ 4611686018427387904 := by unfold limZ; (repeat' split) <;> omega
theorem rlimit_any (z : Int) (w : World) :
    Calls Try.prog 46 #[.int .i64 z] w fun e w' => e = .returned (.int .u64 (limZ z : Int)) ∧ w = w' := by
  by_cases h1 : z = 1
  · subst h1
    go_enter Try.func46, Try.ntmps46
    go_wp2
    go_ret
    exact ⟨rfl, rfl⟩
  · by_cases h2 : z = 2
    · subst h2
      go_enter Try.func46, Try.ntmps46
      go_wp2
      go_ret
      exact ⟨rfl, rfl⟩
    · by_cases h4 : z = 4
      · subst h4
        go_enter Try.func46, Try.ntmps46
        go_wp2
        go_ret
        exact ⟨rfl, rfl⟩
      · by_cases h8 : z = 8
        · subst h8
          go_enter Try.func46, Try.ntmps46
          go_wp2
          go_ret
          exact ⟨rfl, rfl⟩
        · have e1 : (z == 1) = false := by simpa using h1
          have e2 : (z == 2) = false := by simpa using h2
          have e4 : (z == 4) = false := by simpa using h4
          have e8 : (z == 8) = false := by simpa using h8
          have hz : limZ z = 0 := by unfold limZ; rw [if_neg h1, if_neg h2, if_neg h4, if_neg h8]
          rw [hz]
          clear hz h1 h2 h4 h8
          go_enter Try.func46, Try.ntmps46
          go_wp2
          go_ret
          exact ⟨rfl, rfl⟩
/-- The least form's bytes; none where there is none. -/
def leastL (n : Nat) : List UInt8 := if clsL n ≤ 3 then formL n (clsL n) else []
def codeL (n : Nat) : Int := if clsL n ≤ 3 then 0 else 11
theorem leastL_len (n : Nat) : (leastL n).length = sz (clsL n) := by
  unfold leastL
  split
  · exact formL_len _ _
  · have := clsL_le n
    rw [show clsL n = 4 from by omega]
    rfl
theorem sz_le (k : Nat) : sz k ≤ 8 := by rcases k with _ | _ | _ | _ | k <;> simp [sz]
theorem least_any (n : Nat) (w : World) :
    Calls Try.prog 62 #[.int .u64 (n : Int)] w (RetBE (leastL n).length (leastL n) (codeL n) w) :=
  (vput_any n w).mono fun e w' h => by
    rw [leastL_len]
    unfold leastL codeL
    rcases h with ⟨h, hr⟩ | ⟨h, rfl, rfl⟩
    · rw [if_pos h, if_pos h]; exact hr
    · rw [if_neg (by omega), if_neg (by omega), h]; exact ⟨none, 0, rfl, OwnB.nil_ _ _, Below.refl _ _⟩
end Go.Proofs.Ytdagmhngkpbonaa

/- Layer 8's rows and what is taken: vari.Take, vari.Row and the references' answer the same. Condition: the slices' cells are readable. -/
namespace Go.Proofs.Ytdagmhngkpbonaa
open Go.RowKit
set_option linter.unusedVariables false

/-- The class that bytes' first one tells. -/
def tkK : List UInt8 → Nat | [] => 0 | x :: _ => x.toNat / 64
def tkOk (l : List UInt8) : Bool := decide (0 < l.length ∧ sz (tkK l) ≤ l.length)
def tkV (l : List UInt8) : Nat := if tkOk l then numL (l.take (sz (tkK l))) % lim (tkK l) else 0
def tkN (l : List UInt8) : Nat := if tkOk l then sz (tkK l) else 0
def tkE (l : List UInt8) : Int := if tkOk l then 0 else 12
theorem tkK_le (l : List UInt8) : tkK l ≤ 3 := by
  cases l with
  | nil => simp [tkK]
  | cons x l => have := x.toNat_lt; show x.toNat / 64 ≤ 3; omega
theorem tkK_eq {l : List UInt8} {x : UInt8} (h : l[0]? = some x) : tkK l = x.toNat / 64 := by
  cases l with
  | nil => cases h
  | cons y l => rw [List.getElem?_cons_zero] at h; cases h; rfl
theorem and_mask (v k : Nat) (hk : k ≤ 3) (hv : v ≤ 18446744073709551615) : bits .and .u64 (v : Int) ((lim k - 1 : Nat) : Int) = ((v % lim k : Nat) : Int) := by
  have h := u64_and_nat v (lim k - 1) (by omega) (by have := lim_le k; omega)
  have e : v &&& (lim k - 1) = v % lim k := by
    rcases k with _ | _ | _ | _ | k
    · exact Nat.and_two_pow_sub_one_eq_mod v 6
    · exact Nat.and_two_pow_sub_one_eq_mod v 14
    · exact Nat.and_two_pow_sub_one_eq_mod v 30
    · exact Nat.and_two_pow_sub_one_eq_mod v 62
    · omega
  rw [e] at h
  exact h
set_option maxRecDepth 100000 in
theorem take_few (A : Option Addr) (n c : Nat) (l : List UInt8) (w : World) (h : RB w w.heap.size A n l) (hc : n ≤ c) (hm : n ≤ 9223372036854775807) (hz : 0 < n → n < sz (tkK l)) :
    Calls Try.prog 58 #[.slice A n c] w fun e w' => e = .returned (.tuple #[.int .u64 0, .int .i64 0, .int .i64 12]) ∧ w = w' := by
  by_cases h0 : n = 0
  · subst h0
    go_enter Try.func58, Try.ntmps58
    go_wp2
    go_ret3
    exact ⟨rfl, rfl⟩
  · obtain ⟨b, o, rfl, hb, x, hx, hcl⟩ := h.at_ (k := 0) (by omega)
    rw [Nat.add_zero] at hcl
    have hz := hz (by omega)
    have hk := tkK_eq hx
    have hk3 := tkK_le l
    generalize tkK l = k at hz hk hk3
    have hn0 : ((n : Int) == 0) = false := by rw [beq_eq_false_iff_ne]; omega
    have hk2 : (x.toNat : Int) / 64 = (k : Int) := by omega
    have hx2 := byte_lt x
    obtain ⟨P, hp1, hp2, hp3, hp4⟩ := pow_named k hk3
    have hlt : (n : Int) < (P : Int) := by omega
    clear hx hk
    go_enter Try.func58, Try.ntmps58
    go_wp2
    go_ret3
    exact ⟨rfl, rfl⟩
set_option maxRecDepth 100000 in
theorem take_ok (A : Option Addr) (n c : Nat) (l : List UInt8) (w : World) (h : RB w w.heap.size A n l) (hc : n ≤ c) (hm : n ≤ 9223372036854775807) (h0 : 0 < n) (hz : sz (tkK l) ≤ n) :
    Calls Try.prog 58 #[.slice A n c] w fun e w' => e = .returned (.tuple #[.int .u64 ((numL (l.take (sz (tkK l))) % lim (tkK l) : Nat) : Int), .int .i64 (sz (tkK l) : Int), .int .i64 0]) ∧ w = w' := by
  obtain ⟨b, o, rfl, hb, x, hx, hcl⟩ := h.at_ (k := 0) (by omega)
  rw [Nat.add_zero] at hcl
  have hk := tkK_eq hx
  have hk3 := tkK_le l
  generalize tkK l = k at hz hk hk3 ⊢
  have hn0 : ((n : Int) == 0) = false := by rw [beq_eq_false_iff_ne]; omega
  have hk2 : (x.toNat : Int) / 64 = (k : Int) := by omega
  have hx2 := byte_lt x
  obtain ⟨P, hp1, hp2, hp3, hp4⟩ := pow_named k hk3
  rw [← hp2] at hz ⊢
  have hlt : ¬ (n : Int) < (P : Int) := by omega
  have hcut := cut_h (some ⟨b, o, none⟩) n c P (by omega)
  have hpart := h.part (Nat.zero_le P) hz hc
  rw [Nat.sub_zero, List.drop_zero] at hpart
  have hmost := most_any k hk3
  have hmsk := and_mask (numL (l.take P)) k hk3 (by
    have h1 := numL_lt _ (l.take P) rfl
    have h2 : (l.take P).length ≤ 8 := by rw [List.length_take]; omega
    have h3 : 256 ^ (l.take P).length ≤ 256 ^ 8 := Nat.pow_le_pow_right (by omega) h2
    have h4 : (256 : Nat) ^ 8 = 18446744073709551616 := by decide
    omega)
  have hnum := num_few _ P c _ _ w hpart (by omega)
  obtain ⟨v, HV⟩ : ∃ v, Hid (v = numL (l.take P)) := ⟨_, Lib.hid rfl⟩
  obtain ⟨m, HM⟩ : ∃ m, Hid (m = lim k - 1) := ⟨_, Lib.hid rfl⟩
  obtain ⟨q, HQ⟩ : ∃ q, Hid (q = v % lim k) := ⟨_, Lib.hid rfl⟩
  rw [← HV.out] at hnum hmsk ⊢
  rw [← HM.out] at hmsk hmost
  rw [← HQ.out] at hmsk ⊢
  have H1 := Lib.hid hmost
  have H2 := Lib.hid hnum
  clear hmost hnum hx hk hp2
  go_enter Try.func58, Try.ntmps58
  go_wp2_with fail
  refine H2.out.mono ?_
  rintro e w1 ⟨rfl, rfl⟩
  go_wp2_with fail
  refine (H1.out _).mono ?_
  rintro e w1 ⟨rfl, rfl⟩
  go_wp2_with fail
  go_ret3
  exact ⟨rfl, rfl⟩

theorem take_any (A : Option Addr) (n c : Nat) (l : List UInt8) (w : World) (h : RB w w.heap.size A n l) (hc : n ≤ c) (hm : n ≤ 9223372036854775807) :
    Calls Try.prog 58 #[.slice A n c] w fun e w' => e = .returned (.tuple #[.int .u64 (tkV l : Int), .int .i64 (tkN l : Int), .int .i64 (tkE l)]) ∧ w = w' := by
  unfold tkV tkN tkE tkOk
  rw [h.len]
  by_cases hz : 0 < n ∧ sz (tkK l) ≤ n
  · rw [if_pos (decide_eq_true hz), if_pos (decide_eq_true hz), if_pos (decide_eq_true hz)]
    exact take_ok A n c l w h hc hm hz.1 hz.2
  · have hz2 := by simpa using hz
    rw [if_neg (by simpa using hz), if_neg (by simpa using hz), if_neg (by simpa using hz)]
    exact take_few A n c l w h hc hm (fun h0 => by
      rcases Nat.lt_or_ge n (sz (tkK l)) with h1 | h1
      · exact h1
      · exact absurd ⟨h0, h1⟩ hz)

set_option maxRecDepth 100000 in
theorem rtake_0 (A : Option Addr) (n c : Nat) (l : List UInt8) (w : World) (h : RB w w.heap.size A n l) (hc : n ≤ c) (hm : n ≤ 9223372036854775807) (h0 : 0 < n) (hk : tkK l = 0) :
    Calls Try.prog 26 #[.slice A n c] w fun e w' => e = .returned (.tuple #[.int .u64 (tkV l : Int), .int .i64 (tkN l : Int), .int .i64 (tkE l)]) ∧ Below w.heap.size w w' := by
  obtain ⟨b, o, rfl, hb, x, hx, hcl⟩ := h.at_ (k := 0) (by omega)
  rw [Nat.add_zero] at hcl
  have hkx := tkK_eq hx
  have hn0 : ((n : Int) == 0) = false := by rw [beq_eq_false_iff_ne]; omega
  have hk2 : (x.toNat : Int) / 64 = 0 := by omega
  have hx2 := byte_lt x
  have hbl := below_alloc w (.cells #[.int .i64 1, .int .i64 2, .int .i64 4, .int .i64 8] 3)
  by_cases hz : 1 ≤ n
  · have hok : tkOk l = true := by unfold tkOk; rw [hk, h.len]; exact decide_eq_true ⟨h0, hz⟩
    unfold tkV tkN tkE
    rw [hok, hk, if_pos rfl, if_pos rfl, if_pos rfl]
    have hlt : ¬ (n : Int) < 1 := by omega
    have hpart := (h.step hbl).front hz
    have hlim := rlimit_any 1
    have hnum := rnum_few _ 1 c _ _ _ hpart (by omega)
    obtain ⟨v, HV⟩ : ∃ v, Hid (v = numL (l.take 1)) := ⟨_, Lib.hid rfl⟩
    obtain ⟨q, HQ⟩ : ∃ q, Hid (q = v % lim 0) := ⟨_, Lib.hid rfl⟩
    have hq : (v : Int).tmod 64 = (q : Int) := by rw [HQ.out]; rfl
    rw [← HV.out] at hnum
    rw [show sz 0 = 1 from rfl, ← HV.out, ← HQ.out]
    have H1 := Lib.hid hlim
    have HN := Lib.hid hnum
    have HB := Lib.hid hbl
    clear hlim hpart hx hkx hnum hbl
    go_enter Try.func26, Try.ntmps26
    go_wp2_with fail
    refine HN.out.mono ?_
    rintro e w1 ⟨rfl, rfl⟩
    go_wp2_with fail
    refine (H1.out _).mono ?_
    rintro e w1 ⟨rfl, rfl⟩
    rw [show limZ 1 = 64 from rfl]
    go_wp2_with fail
    go_ret3
    exact ⟨rfl, HB.out⟩
  · omega

set_option maxRecDepth 100000 in
theorem rtake_1 (A : Option Addr) (n c : Nat) (l : List UInt8) (w : World) (h : RB w w.heap.size A n l) (hc : n ≤ c) (hm : n ≤ 9223372036854775807) (h0 : 0 < n) (hk : tkK l = 1) :
    Calls Try.prog 26 #[.slice A n c] w fun e w' => e = .returned (.tuple #[.int .u64 (tkV l : Int), .int .i64 (tkN l : Int), .int .i64 (tkE l)]) ∧ Below w.heap.size w w' := by
  obtain ⟨b, o, rfl, hb, x, hx, hcl⟩ := h.at_ (k := 0) (by omega)
  rw [Nat.add_zero] at hcl
  have hkx := tkK_eq hx
  have hn0 : ((n : Int) == 0) = false := by rw [beq_eq_false_iff_ne]; omega
  have hk2 : (x.toNat : Int) / 64 = 1 := by omega
  have hx2 := byte_lt x
  have hbl := below_alloc w (.cells #[.int .i64 1, .int .i64 2, .int .i64 4, .int .i64 8] 3)
  by_cases hz : 2 ≤ n
  · have hok : tkOk l = true := by unfold tkOk; rw [hk, h.len]; exact decide_eq_true ⟨h0, hz⟩
    unfold tkV tkN tkE
    rw [hok, hk, if_pos rfl, if_pos rfl, if_pos rfl]
    have hlt : ¬ (n : Int) < 2 := by omega
    have hpart := (h.step hbl).front hz
    have hlim := rlimit_any 2
    have hnum := rnum_few _ 2 c _ _ _ hpart (by omega)
    obtain ⟨v, HV⟩ : ∃ v, Hid (v = numL (l.take 2)) := ⟨_, Lib.hid rfl⟩
    obtain ⟨q, HQ⟩ : ∃ q, Hid (q = v % lim 1) := ⟨_, Lib.hid rfl⟩
    have hq : (v : Int).tmod 16384 = (q : Int) := by rw [HQ.out]; rfl
    rw [← HV.out] at hnum
    rw [show sz 1 = 2 from rfl, ← HV.out, ← HQ.out]
    have H1 := Lib.hid hlim
    have HN := Lib.hid hnum
    have HB := Lib.hid hbl
    clear hlim hpart hx hkx hnum hbl
    go_enter Try.func26, Try.ntmps26
    go_wp2_with fail
    refine HN.out.mono ?_
    rintro e w1 ⟨rfl, rfl⟩
    go_wp2_with fail
    refine (H1.out _).mono ?_
    rintro e w1 ⟨rfl, rfl⟩
    rw [show limZ 2 = 16384 from rfl]
    go_wp2_with fail
    go_ret3
    exact ⟨rfl, HB.out⟩
  · have hok : tkOk l = false := by unfold tkOk; rw [hk, h.len]; exact decide_eq_false (fun h => hz h.2)
    unfold tkV tkN tkE
    rw [hok]
    have hlt : (n : Int) < 2 := by omega
    clear hx hkx
    go_enter Try.func26, Try.ntmps26
    go_wp2
    go_ret3
    exact ⟨rfl, hbl⟩

set_option maxRecDepth 100000 in
theorem rtake_2 (A : Option Addr) (n c : Nat) (l : List UInt8) (w : World) (h : RB w w.heap.size A n l) (hc : n ≤ c) (hm : n ≤ 9223372036854775807) (h0 : 0 < n) (hk : tkK l = 2) :
    Calls Try.prog 26 #[.slice A n c] w fun e w' => e = .returned (.tuple #[.int .u64 (tkV l : Int), .int .i64 (tkN l : Int), .int .i64 (tkE l)]) ∧ Below w.heap.size w w' := by
  obtain ⟨b, o, rfl, hb, x, hx, hcl⟩ := h.at_ (k := 0) (by omega)
  rw [Nat.add_zero] at hcl
  have hkx := tkK_eq hx
  have hn0 : ((n : Int) == 0) = false := by rw [beq_eq_false_iff_ne]; omega
  have hk2 : (x.toNat : Int) / 64 = 2 := by omega
  have hx2 := byte_lt x
  have hbl := below_alloc w (.cells #[.int .i64 1, .int .i64 2, .int .i64 4, .int .i64 8] 3)
  by_cases hz : 4 ≤ n
  · have hok : tkOk l = true := by unfold tkOk; rw [hk, h.len]; exact decide_eq_true ⟨h0, hz⟩
    unfold tkV tkN tkE
    rw [hok, hk, if_pos rfl, if_pos rfl, if_pos rfl]
    have hlt : ¬ (n : Int) < 4 := by omega
    have hpart := (h.step hbl).front hz
    have hlim := rlimit_any 4
    have hnum := rnum_few _ 4 c _ _ _ hpart (by omega)
    obtain ⟨v, HV⟩ : ∃ v, Hid (v = numL (l.take 4)) := ⟨_, Lib.hid rfl⟩
    obtain ⟨q, HQ⟩ : ∃ q, Hid (q = v % lim 2) := ⟨_, Lib.hid rfl⟩
    have hq : (v : Int).tmod 1073741824 = (q : Int) := by rw [HQ.out]; rfl
    rw [← HV.out] at hnum
    rw [show sz 2 = 4 from rfl, ← HV.out, ← HQ.out]
    have H1 := Lib.hid hlim
    have HN := Lib.hid hnum
    have HB := Lib.hid hbl
    clear hlim hpart hx hkx hnum hbl
    go_enter Try.func26, Try.ntmps26
    go_wp2_with fail
    refine HN.out.mono ?_
    rintro e w1 ⟨rfl, rfl⟩
    go_wp2_with fail
    refine (H1.out _).mono ?_
    rintro e w1 ⟨rfl, rfl⟩
    rw [show limZ 4 = 1073741824 from rfl]
    go_wp2_with fail
    go_ret3
    exact ⟨rfl, HB.out⟩
  · have hok : tkOk l = false := by unfold tkOk; rw [hk, h.len]; exact decide_eq_false (fun h => hz h.2)
    unfold tkV tkN tkE
    rw [hok]
    have hlt : (n : Int) < 4 := by omega
    clear hx hkx
    go_enter Try.func26, Try.ntmps26
    go_wp2
    go_ret3
    exact ⟨rfl, hbl⟩

set_option maxRecDepth 100000 in
theorem rtake_3 (A : Option Addr) (n c : Nat) (l : List UInt8) (w : World) (h : RB w w.heap.size A n l) (hc : n ≤ c) (hm : n ≤ 9223372036854775807) (h0 : 0 < n) (hk : tkK l = 3) :
    Calls Try.prog 26 #[.slice A n c] w fun e w' => e = .returned (.tuple #[.int .u64 (tkV l : Int), .int .i64 (tkN l : Int), .int .i64 (tkE l)]) ∧ Below w.heap.size w w' := by
  obtain ⟨b, o, rfl, hb, x, hx, hcl⟩ := h.at_ (k := 0) (by omega)
  rw [Nat.add_zero] at hcl
  have hkx := tkK_eq hx
  have hn0 : ((n : Int) == 0) = false := by rw [beq_eq_false_iff_ne]; omega
  have hk2 : (x.toNat : Int) / 64 = 3 := by omega
  have hx2 := byte_lt x
  have hbl := below_alloc w (.cells #[.int .i64 1, .int .i64 2, .int .i64 4, .int .i64 8] 3)
  by_cases hz : 8 ≤ n
  · have hok : tkOk l = true := by unfold tkOk; rw [hk, h.len]; exact decide_eq_true ⟨h0, hz⟩
    unfold tkV tkN tkE
    rw [hok, hk, if_pos rfl, if_pos rfl, if_pos rfl]
    have hlt : ¬ (n : Int) < 8 := by omega
    have hpart := (h.step hbl).front hz
    have hlim := rlimit_any 8
    have hnum := rnum_few _ 8 c _ _ _ hpart (by omega)
    obtain ⟨v, HV⟩ : ∃ v, Hid (v = numL (l.take 8)) := ⟨_, Lib.hid rfl⟩
    obtain ⟨q, HQ⟩ : ∃ q, Hid (q = v % lim 3) := ⟨_, Lib.hid rfl⟩
    have hq : (v : Int).tmod 4611686018427387904 = (q : Int) := by rw [HQ.out]; rfl
    rw [← HV.out] at hnum
    rw [show sz 3 = 8 from rfl, ← HV.out, ← HQ.out]
    have H1 := Lib.hid hlim
    have HN := Lib.hid hnum
    have HB := Lib.hid hbl
    clear hlim hpart hx hkx hnum hbl
    go_enter Try.func26, Try.ntmps26
    go_wp2_with fail
    refine HN.out.mono ?_
    rintro e w1 ⟨rfl, rfl⟩
    go_wp2_with fail
    refine (H1.out _).mono ?_
    rintro e w1 ⟨rfl, rfl⟩
    rw [show limZ 8 = 4611686018427387904 from rfl]
    go_wp2_with fail
    go_ret3
    exact ⟨rfl, HB.out⟩
  · have hok : tkOk l = false := by unfold tkOk; rw [hk, h.len]; exact decide_eq_false (fun h => hz h.2)
    unfold tkV tkN tkE
    rw [hok]
    have hlt : (n : Int) < 8 := by omega
    clear hx hkx
    go_enter Try.func26, Try.ntmps26
    go_wp2
    go_ret3
    exact ⟨rfl, hbl⟩

theorem rtake_any (A : Option Addr) (n c : Nat) (l : List UInt8) (w : World) (h : RB w w.heap.size A n l) (hc : n ≤ c) (hm : n ≤ 9223372036854775807) :
    Calls Try.prog 26 #[.slice A n c] w fun e w' => e = .returned (.tuple #[.int .u64 (tkV l : Int), .int .i64 (tkN l : Int), .int .i64 (tkE l)]) ∧ Below w.heap.size w w' := by
  by_cases h0 : 0 < n
  · have hk3 := tkK_le l
    rcases hk : tkK l with _ | _ | _ | _ | k
    · exact rtake_0 A n c l w h hc hm h0 hk
    · exact rtake_1 A n c l w h hc hm h0 hk
    · exact rtake_2 A n c l w h hc hm h0 hk
    · exact rtake_3 A n c l w h hc hm h0 hk
    · omega
  · obtain rfl : n = 0 := by omega
    obtain rfl : l = [] := List.length_eq_zero_iff.1 h.len
    go_enter Try.func26, Try.ntmps26
    go_wp2
    go_ret3
    exact ⟨rfl, Below.refl _ _⟩

/-- The slice value with address A and length n reads as the numbers l in the world w; its cells lie below block B. -/
def UL (w : World) (B : Nat) (A : Option Addr) (n : Nat) (l : List Nat) : Prop :=
  l.length = n ∧ (0 < n → ∃ b o, A = some ⟨b, o, none⟩ ∧ b < B ∧ ∀ i (h : i < l.length), w.cell? ⟨b, o + i, none⟩ = some (.int .u64 ((l[i] : Nat) : Int))) ∧ ∀ x ∈ l, x ≤ 18446744073709551615
section
variable {w w' : World} {B B' n : Nat} {A : Option Addr} {l : List Nat}
theorem UL.len (h : UL w B A n l) : l.length = n := h.1
theorem UL.at_ {k : Nat} (h : UL w B A n l) (hk : k < n) : ∃ b o, A = some ⟨b, o, none⟩ ∧ b < B ∧ ∃ x : Nat, l[k]? = some x ∧ x ≤ 18446744073709551615 ∧ w.cell? ⟨b, o + k, none⟩ = some (.int .u64 (x : Int)) := by
  obtain ⟨b, o, e, hb, hc⟩ := h.2.1 (by omega)
  have hl : k < l.length := by rw [h.1]; exact hk
  exact ⟨b, o, e, hb, l[k], List.getElem?_eq_getElem hl, h.2.2 _ (List.getElem_mem _), hc k hl⟩
theorem UL.below (h : UL w B A n l) (hb : Below B w w') : UL w' B A n l :=
  ⟨h.1, fun hn => by
    obtain ⟨b, o, e, hbb, hc⟩ := h.2.1 hn
    exact ⟨b, o, e, hbb, fun i hi => (hb.cell hbb).trans (hc i hi)⟩, h.2.2⟩
theorem UL.more (h : UL w B A n l) (hB : B ≤ B') : UL w B' A n l :=
  ⟨h.1, fun hn => by
    obtain ⟨b, o, e, hb, hc⟩ := h.2.1 hn
    exact ⟨b, o, e, by omega, hc⟩, h.2.2⟩
end
theorem UL.step {w w' : World} {n : Nat} {A : Option Addr} {l : List Nat} (h : UL w w.heap.size A n l) (hb : Below w.heap.size w w') : UL w' w'.heap.size A n l := (h.below hb).more hb.size
/-- A number as a cell. -/
def uv (x : Nat) : Value := .int .u64 (x : Int)
theorem UL.lit (w : World) (l : List Nat) (cs : Array Value) (n g : Nat) (e : TypeId) (hc : cs = (l.map uv).toArray) (hn : l.length = n) (hg : g = w.heap.size) (hl : ∀ x ∈ l, x ≤ 18446744073709551615) : UL (w.alloc (.cells cs e)) (w.alloc (.cells cs e)).heap.size (some ⟨g, 0, none⟩) n l := by
  subst hc
  subst hg
  refine ⟨hn, fun h0 => ⟨_, 0, rfl, by show w.heap.size < (w.heap.push _).size; rw [Array.size_push]; omega, fun i hi => ?_⟩, hl⟩
  rw [cell_of_row (w.alloc (.cells (l.map uv).toArray e)) w.heap.size (0 + i) _ e (0, 0) (heap_alloc_new w _)]
  simp [uv, hi]
/-- The least forms one behind the other. -/
def rowL (l : List Nat) : List UInt8 := (l.map leastL).flatten
def rowOk (l : List Nat) : Bool := l.all fun x => decide (clsL x ≤ 3)
theorem rowL_snoc (l : List Nat) (x : Nat) : rowL (l ++ [x]) = rowL l ++ leastL x := by simp [rowL]
theorem rowL_le (l : List Nat) : (rowL l).length ≤ 8 * l.length := by
  induction l with
  | nil => simp [rowL]
  | cons x l ih =>
    have : rowL (x :: l) = leastL x ++ rowL l := by simp [rowL]
    rw [this, List.length_append, leastL_len, List.length_cons]
    have := sz_le (clsL x)
    omega
theorem takeN_snoc {l : List Nat} {k x : Nat} (h : l[k]? = some x) : l.take (k + 1) = l.take k ++ [x] := by
  rw [List.take_add_one, h]; rfl
theorem rowOk_all {l : List Nat} (h : ∀ x ∈ l, clsL x ≤ 3) : rowOk l = true := by unfold rowOk; rw [List.all_eq_true]; intro x hx; exact decide_eq_true (h x hx)
theorem rowOk_not {l : List Nat} {k x : Nat} (h : l[k]? = some x) (hx : ¬ clsL x ≤ 3) : rowOk l = false := by
  rw [Bool.eq_false_iff]
  intro e
  unfold rowOk at e
  rw [List.all_eq_true] at e
  exact hx (of_decide_eq_true (e x (List.mem_of_getElem? h)))
def rowR (l : List Nat) : List UInt8 := if rowOk l then rowL l else []
def rowC (l : List Nat) : Int := if rowOk l then 0 else 11

set_option maxHeartbeats 1000000 in
theorem row_any (A : Option Addr) (n c : Nat) (l : List Nat) (w : World) (h : UL w w.heap.size A n l) (hn : n ≤ 3000) :
    Calls Try.prog 60 #[.slice A n c] w (RetBE (rowR l).length (rowR l) (rowC l) w) := by
  go_enter Try.func60, Try.ntmps60
  go_wp2
  go_loopw [4, 6, 7, 8, 11] (fun v _ _ _ i wr => ∃ (k c1 : Nat) (A1 : Option Addr), k ≤ n ∧ i = .int .i64 k ∧ v = .slice A1 (rowL (l.take k)).length c1 ∧ OwnB wr w.heap.size A1 (rowL (l.take k)).length c1 (rowL (l.take k)) ∧ Below w.heap.size w wr ∧ ∀ x ∈ l.take k, clsL x ≤ 3) (fun _ _ _ _ i _ => n - (intOf i).toNat)
  case atStart => exact ⟨0, 0, none, Nat.zero_le _, rfl, rfl, OwnB.nil_ _ _, Below.refl _ _, by simp⟩
  case round =>
    obtain ⟨k, c1, A1, hk, rfl, rfl, hown, hbel, hall⟩ := hrel
    by_cases hlt : k < n
    · obtain ⟨b, o, rfl, hb, x, hx, hx64, hcl⟩ := (h.below hbel).at_ hlt
      have htk := rowL_le (l.take k)
      have hlen : (l.take k).length = k := by rw [List.length_take, h.len]; omega
      rw [hlen] at htk
      have hsn := takeN_snoc hx
      have hrs : rowL (l.take (k + 1)) = rowL (l.take k) ++ leastL x := by rw [hsn, rowL_snoc]
      have hput := least_any x
      have hl8 : (leastL x).length ≤ 8 := by rw [leastL_len]; exact sz_le _
      have HC : Hid (codeL x = if clsL x ≤ 3 then 0 else 11) := Lib.hid rfl
      have HX := Lib.hid hx
      have HS := Lib.hid hsn
      have HR := Lib.hid hrs
      have HA := Lib.hid hall
      have HP := Lib.hid hput
      obtain ⟨r, HL⟩ : ∃ r, Hid (leastL x = r) := ⟨_, Lib.hid rfl⟩
      rw [HL.out] at HP HR hl8
      clear hx hsn hrs hall hput
      by_cases h3 : clsL x ≤ 3
      · rw [show codeL x = 0 from by rw [HC.out, if_pos h3]] at HP
        go_wp2_with fail
        refine (HP.out _).mono ?_
        rintro e w1 ⟨A2, c2, rfl, hown2, hb2⟩
        have hown1 := hown.below hb2
        have hbb : Below w.heap.size w w1 := hbel.trans (hb2.mono hbel.size)
        have hwr := hbb.size
        have hrb := hown2.rb
        go_wp2_with (first
          | (at_builtin; refine wpList_app rfl (.tmp 23) (.tmp 24) rfl w.heap.size _ _ _ _ rfl hown1 _ A2 r.length c2 r rfl hrb (by omega) hwr ?_; intro A3 c3 w3 hown3 _ hb3))
        go_roundw
        case rel =>
          refine ⟨k + 1, c3, A3, by omega, by go_num, by rw [HR.out, List.length_append], by rw [HR.out, List.length_append]; exact hown3, hbb.trans hb3, ?_⟩
          rw [HS.out]
          intro y hy
          rcases List.mem_append.1 hy with hy | hy
          · exact HA.out y hy
          · rw [List.mem_singleton.1 hy]; exact h3
        case measure => simp [intOf]; omega
      · rw [show codeL x = 11 from by rw [HC.out, if_neg h3]] at HP
        go_wp2_with fail
        refine (HP.out _).mono ?_
        rintro e w1 ⟨A2, c2, rfl, hown2, hb2⟩
        go_wp2_with fail
        go_ret2
        have hok := rowOk_not HX.out h3
        unfold rowR rowC
        rw [hok]
        exact ⟨none, 0, rfl, OwnB.nil_ _ _, hbel.trans (hb2.mono hbel.size)⟩
    · obtain rfl : k = n := by omega
      have hte : l.take k = l := List.take_of_length_le (by have := h.len; omega)
      rw [hte] at hall
      have HO := Lib.hid (rowOk_all hall)
      have HT := Lib.hid hte
      clear hall hte
      go_wp2
      go_ret2
      unfold rowR rowC
      rw [HO.out, if_pos rfl, if_pos rfl]
      have := HT.out
      exact ⟨A1, c1, by simp only [this]; rfl, by rw [← this]; simpa only [this] using hown, hbel⟩
end Go.Proofs.Ytdagmhngkpbonaa

