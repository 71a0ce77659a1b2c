/- layer 4: Of, Bytes. Conditions: words are words; a slice's cells are readable. -/
import Derived.Test.YthllaoeioddddaaGreatPolyElem
import Derived.Test.YthllaoeioddddaaGreatOctAll
namespace Go.Proofs.YthllaoeioddddaaGreat
open Go.RowKit
set_option linter.unusedVariables false

theorem downL_div (n : Nat) : ∀ k, downL n k = n / 256 ^ k
  | 0 => by simp [downL]
  | k + 1 => by rw [downL_succ, downL_div n k, Nat.div_div_eq_div_mul, Nat.pow_succ]
theorem numL_putL8 : ∀ (k n : Nat), numL (putL n k) + 256 ^ k * downL n k = n
  | 0, n => by simp [putL, numL, downL]
  | k + 1, n => by
    have ih := numL_putL8 k (n / 256)
    rw [putL, numL_snoc, ← downL_comm]
    have e : (UInt8.ofNat n).toNat = n % 256 := by simp
    rw [e, Nat.pow_succ]
    have h2 : 256 ^ k * 256 * downL (n / 256) k = 256 * (256 ^ k * downL (n / 256) k) := by rw [Nat.mul_comm (256 ^ k) 256, Nat.mul_assoc]
    rw [h2]
    omega
theorem downL8 (n : Nat) (hn : n < 2 ^ 64) : downL n 8 = 0 := by rw [downL_div]; exact Nat.div_eq_of_lt (by omega)
theorem putL_wB (n : Nat) : putL n 8 = wB n 8 := by
  apply List.ext_getElem?
  intro q
  by_cases hq : q < 8
  · rw [putL_get n 8 q hq, downL_div]
    have e : (256 : Nat) ^ (8 - 1 - q) = 2 ^ (56 - 8 * q) := by rw [show (256 : Nat) = 2 ^ 8 from rfl, ← Nat.pow_mul]; congr 1; omega
    rw [e]
    unfold wB
    rw [List.getElem?_map, List.getElem?_range hq]; rfl
  · rw [List.getElem?_eq_none (by rw [putL_len]; omega), List.getElem?_eq_none (by rw [wB_len]; omega)]
theorem putL_numL : ∀ (k : Nat) (l : List UInt8), l.length = k → putL (numL l) k = l
  | 0, l, h => by rw [List.eq_nil_of_length_eq_zero h]; rfl
  | k + 1, l, h => by
    obtain ⟨m, x, rfl⟩ : ∃ m x, l = m ++ [x] := by
      have hne : l ≠ [] := fun e => by rw [e] at h; cases h
      exact ⟨l.dropLast, l.getLast hne, (List.dropLast_concat_getLast hne).symm⟩
    have hm : m.length = k := by simpa using h
    have hx := x.toNat_lt
    rw [putL, numL_snoc, show (numL m * 256 + x.toNat) / 256 = numL m by omega, putL_numL k m hm]
    have e : UInt8.ofNat (numL m * 256 + x.toNat) = x := by
      apply UInt8.toNat_inj.1
      simp
    rw [e]
theorem wB_numL (l : List UInt8) (h : l.length = 8) : wB (numL l) 8 = l := by rw [← putL_wB]; exact putL_numL 8 l h
theorem numL8_lt (l : List UInt8) (h : l.length = 8) : numL l < 2 ^ 64 := by have := numL_lt 8 l h; omega
/-- The element of sixteen bytes. -/
def oH (l : List UInt8) : Nat := numL (l.take 8)
def oL (l : List UInt8) : Nat := numL (l.drop 8)
theorem oH_lt (l : List UInt8) (h : l.length = 16) : oH l < 2 ^ 64 := numL8_lt _ (by simp [h])
theorem oL_lt (l : List UInt8) (h : l.length = 16) : oL l < 2 ^ 64 := numL8_lt _ (by simp [h])
theorem eB_o (l : List UInt8) (h : l.length = 16) : eB (oH l) (oL l) = l := by
  unfold eB oH oL
  rw [wB_numL _ (by simp [h]), wB_numL _ (by simp [h]), List.take_append_drop]
/-- A result that lies in a variable of an element, beside a number. -/
theorem res_ewc {fn : Func} {p q : Tmp} (hr : fn.results = #[.cell p 158, .tmp q]) (tmps : Array Value) (w : World) (b H L : Nat) (c : Value) (ht : tmps.getD p undef = .pointer (some ⟨b, 0, none⟩)) (hq : tmps.getD q undef = c) (hc : Ew w b H L) :
    (results fn tmps).run Tryz.prog w = .ok (.tuple #[EV H L, c]) w := by
  obtain ⟨d, hu, hd⟩ := row_elem
  have hl := run_loadVar_mid (P := Tryz.prog) w b 0 158 (es H L) d hc.1 hu hd sz_elem
  have hl2 : (loadVar 158 ⟨b, 0, none⟩).run Tryz.prog w = .ok (EV H L) w := hl
  rw [Array.getD_eq_getD_getElem?] at ht hq
  simp only [results, hr]
  simp [ht, hq, asAddr, hl2]
theorem oE_at (l : List UInt8) : oH l = numL (l.take 8) ∧ oL l = numL (l.drop 8) := ⟨rfl, rfl⟩
attribute [local irreducible] oH oL numL

set_option maxRecDepth 100000 in
set_option maxHeartbeats 2000000 in
theorem of_ok (A : Option Addr) (c : Nat) (l : List UInt8) (w : World) (hc : 16 ≤ c) (h16 : l.length = 16) (hr : RB w w.heap.size A 16 l) :
    Calls Tryz.prog 123 #[.slice A 16 c] w fun e w' => e = .returned (.tuple #[EV (oH l) (oL l), .int .i64 0]) ∧ Below w.heap.size w w' := by
  obtain ⟨h, HH⟩ : ∃ h, Hid (h = oH l) := ⟨_, Lib.hid rfl⟩
  obtain ⟨lo, HL⟩ : ∃ lo, Hid (lo = oL l) := ⟨_, Lib.hid rfl⟩
  rw [← HH.out, ← HL.out]
  have HR := Lib.hid hr
  have q1 : ∀ W : World, (Instr.slice 23 (.slice A 16 c) none (some (.int .i64 8)) none).run Tryz.prog W = .ok (.slice (cutA A c 0) 8 c) W := cut_h A 16 c 8 (by omega)
  have q2 : ∀ W : World, (Instr.slice 23 (.slice A 16 c) (some (.int .i64 8)) none none).run Tryz.prog W = .ok (.slice (cutA A c 8) 8 (c - 8)) W := cut_l A 16 c 8 (by omega)
  have HN1 : Hid (∀ v, Below w.heap.size w v → Calls Tryz.prog 67 #[.slice (cutA A c 0) 8 c] v fun e w' => e = .returned (.tuple #[.int .u64 (h : Int), .int .i64 0]) ∧ v = w') := Lib.hid (fun v hv => by
    have hp := (hr.step hv).part (i := 0) (j := 8) (c := c) (by omega) (by omega) hc
    rw [HH.out, (oE_at l).1]
    exact num_few _ 8 c _ _ v hp (by omega))
  have HN2 : Hid (∀ v, Below w.heap.size w v → Calls Tryz.prog 67 #[.slice (cutA A c 8) 8 (c - 8)] v fun e w' => e = .returned (.tuple #[.int .u64 (lo : Int), .int .i64 0]) ∧ v = w') := Lib.hid (fun v hv => by
    have hp := (hr.step hv).part (i := 8) (j := 16) (c := c) (by omega) (by omega) hc
    rw [List.take_of_length_le (by omega)] at hp
    rw [HL.out, (oE_at l).2]
    exact num_few _ 8 _ _ _ v hp (by omega))
  clear hr
  go_enter Tryz.func123, Tryz.ntmps123
  go_wp2_with (first | (go_at_call 67; refine (HN1.out _ (below_alloc _ _)).mono ?_; rintro e w1 ⟨rfl, rfl⟩; clear HN1) | (go_at_call 67; refine (HN2.out _ (below_alloc _ _)).mono ?_; rintro e w1 ⟨rfl, rfl⟩; clear HN2))
  exact bodyPost_ret (v := .tuple #[EV h lo, .int .i64 0]) (res_ewc rfl _ _ w.heap.size h lo _ rfl rfl (Ew.new w h lo _ rfl)) rfl ⟨rfl, below_alloc _ _⟩
/-- Two rows of eight bytes, joined. -/
theorem join_two (w : World) (A1 A2 : Option Addr) (c1 c2 : Nat) (l1 l2 : List UInt8) (h1 : RB w w.heap.size A1 8 l1) (h2 : RB w w.heap.size A2 8 l2) :
    Calls Tryz.prog 49 #[.slice (some ⟨w.heap.size, 0, none⟩) 2 2] (w.alloc (.cells #[.slice A1 8 c1, .slice A2 8 c2] 23)) fun e w' => ∃ A c, e = .returned (.slice A 16 c) ∧ OwnB w' w.heap.size A 16 c (l1 ++ l2) ∧ Below w.heap.size w w' := by
  have e1 := h1.len
  have e2 := h2.len
  have hrr := RR.lit w [(A1, c1, l1), (A2, c2, l2)] #[.slice A1 8 c1, .slice A2 8 c2] 23 2 w.heap.size (by simp [e1, e2]) rfl rfl (fun r hr => by
    simp only [List.mem_cons, List.not_mem_nil, or_false] at hr
    rcases hr with rfl | rfl
    · rw [e1]; exact h1
    · rw [e2]; exact h2)
  have ht : totL [l1, l2] = 16 := by simp [totL, e1, e2]
  refine (join_any _ 2 2 [l1, l2] _ hrr (by unfold maxLen; omega) (by rw [ht]; omega)).mono ?_
  rintro e w' ⟨A, c, rfl, ho, hb⟩
  rw [ht] at ho ⊢
  rw [show [l1, l2].flatten = l1 ++ l2 by simp] at ho
  exact ⟨A, c, rfl, ho.base_le (by simp), (below_alloc w _).trans (hb.mono (by simp))⟩
attribute [local irreducible] eB wB
set_option maxRecDepth 100000 in
set_option maxHeartbeats 2000000 in
theorem bytes_any (h l : Nat) (w : World) (hh : h < 2 ^ 64) (hl' : l < 2 ^ 64) : Calls Tryz.prog 111 #[EV h l] w (RetB 16 (eB h l) w) := by
  have HP1 : Hid (∀ v, Calls Tryz.prog 63 #[.int .u64 (h : Int), .int .i64 8] v (RetBE 8 (wB h 8) 0 v)) := Lib.hid (fun v => (put_ok h 8 v (by omega) (by omega)).mono fun e w' k => by
    rcases k with ⟨_, k⟩ | ⟨k, _⟩
    · rw [putL_wB] at k; exact k
    · exact absurd (downL8 h hh) k)
  have HP2 : Hid (∀ v, Calls Tryz.prog 63 #[.int .u64 (l : Int), .int .i64 8] v (RetBE 8 (wB l 8) 0 v)) := Lib.hid (fun v => (put_ok l 8 v (by omega) (by omega)).mono fun e w' k => by
    rcases k with ⟨_, k⟩ | ⟨k, _⟩
    · rw [putL_wB] at k; exact k
    · exact absurd (downL8 l hl') k)
  have HL1 := Lib.hid (wB_len h 8)
  have HL2 := Lib.hid (wB_len l 8)
  have HEB : Hid (eB h l = wB h 8 ++ wB l 8) := Lib.hid (by unfold eB; rfl)
  obtain ⟨E, HE⟩ : ∃ E, Hid (E = eB h l) := ⟨_, Lib.hid rfl⟩
  rw [← HE.out]
  clear hh hl'
  unfold EV
  go_enter Tryz.func111, Tryz.ntmps111
  go_wp2_with (first | (go_at_call 63; refine (HP1.out _).mono ?_; rintro e w1 ⟨A1, c1, rfl, ho1, hb1⟩; have ho1' := Lib.hid ho1; have hb1' := Lib.hid hb1; have hc1 : w1.cell? ⟨w.heap.size, 1, none⟩ = some (.int .u64 (l : Int)) := (by rw [hb1.cell (p := ⟨w.heap.size, 1, none⟩) (by simp)]; simp [World.cell?_alloc_at _ _ _ _ rfl]); clear HP1 ho1 hb1) | (go_at_call 63; refine (HP2.out _).mono ?_; rintro e w2 ⟨A2, c2, rfl, ho2, hb2⟩; have ho2' := Lib.hid ho2; have hb2' := Lib.hid hb2; clear HP2 ho2 hb2) | (go_at_call 49; refine (join_two w2 A1 A2 c1 c2 _ _ (by exact (ho1'.out.below hb2'.out).rb) (by exact ho2'.out.rb)).mono ?_; rintro e w3 ⟨A3, c3, rfl, ho3, hb3⟩; have ho3' := Lib.hid ho3; have hb3' := Lib.hid hb3; clear ho3 hb3))
  go_ret
  have hs1 := hb1'.out.size
  have hs2 := hb2'.out.size
  rw [World.size_alloc] at hs1
  refine ⟨A3, c3, rfl, by rw [HE.out, HEB.out]; exact ho3'.out.base_le (by omega), ?_⟩
  exact (below_alloc w _).trans ((hb1'.out.mono (by simp)).trans ((hb2'.out.mono (by omega)).trans (hb3'.out.mono (by omega))))
end Go.Proofs.YthllaoeioddddaaGreat
