/- OctetParts' walk: joined parts have all bytes in order, and are new memory. Condition: the slice's cells are readable. -/
import Derived.Test.YtjapnjohplbipaaEqual
import Derived.Deep.RegionWith
namespace Go.Proofs.Ytjapnjohplbipaa
open Go.RowKit
set_option linter.unusedVariables false

set_option maxHeartbeats 1000000 in
theorem parts_out (A0 : Option Addr) (n0 c0 : Nat) (l0 : List UInt8) (x1 : Int) (x2 : Int) (w : World) (b0 : n0 ≤ 9223372036854775807) (hout : 3000 < n0 ∨ x1 < 0 ∨ x2 < x1 ∨ (n0 : Int) < x2) :
    Calls Try.prog 6 #[.slice A0 n0 c0, .int .i64 x1, .int .i64 x2] w fun e w' => e = .returned (.bool true) ∧ Below w.heap.size w w' := by
  have key : ∀ (P : Prop), (3000 < n0 → P) → (n0 ≤ 3000 → x1 < 0 → P) → (n0 ≤ 3000 → 0 ≤ x1 → x2 < x1 → P) → (n0 ≤ 3000 → 0 ≤ x1 → x1 ≤ x2 → (n0 : Int) < x2 → P) → P := by
    intro P a b c d
    rcases Nat.lt_or_ge 3000 n0 with h | h
    · exact a h
    · rcases Int.lt_or_le x1 0 with h1 | h1
      · exact b h h1
      · rcases Int.lt_or_le x2 x1 with h2 | h2
        · exact c h h1 h2
        · exact d h h1 h2 (by omega)
  clear hout
  apply key
  · intro h
    go_enter Try.func6, Try.ntmps6
    go_wp2_with (go_at_call 8; refine (alive_any _).mono ?_; rintro e w1 ⟨rfl, hb1⟩)
    go_ret
    exact ⟨rfl, hb1⟩
  · intro h1 h2
    go_enter Try.func6, Try.ntmps6
    go_wp2_with (go_at_call 8; refine (alive_any _).mono ?_; rintro e w1 ⟨rfl, hb1⟩)
    go_ret
    exact ⟨rfl, hb1⟩
  · intro h1 h2 h3
    go_enter Try.func6, Try.ntmps6
    go_wp2_with (go_at_call 8; refine (alive_any _).mono ?_; rintro e w1 ⟨rfl, hb1⟩)
    go_ret
    exact ⟨rfl, hb1⟩
  · intro h1 h2 h3 h4
    go_enter Try.func6, Try.ntmps6
    go_wp2_with (go_at_call 8; refine (alive_any _).mono ?_; rintro e w1 ⟨rfl, hb1⟩)
    go_ret
    exact ⟨rfl, hb1⟩

theorem join4 (A : Option Addr) (n i j c : Nat) (l : List UInt8) (w : World) (h : RR w w.heap.size A 4 [l.take i, (l.take j).drop i, [], l.drop j]) (hm : n ≤ 3000) (hl : l.length = n) (hij : i ≤ j) :
    Calls Try.prog 23 #[.slice A 4 c] w (RetB n l w) := by
  have e : [l.take i, (l.take j).drop i, [], l.drop j].flatten = l := by
    simp only [List.flatten_cons, List.flatten_nil, List.nil_append, List.append_nil]
    rw [← List.append_assoc]
    have e1 : l.take i ++ (l.take j).drop i = l.take j := by
      have := List.take_append_drop i (l.take j)
      rw [List.take_take, Nat.min_eq_left hij] at this
      exact this
    rw [e1, List.take_append_drop]
  have ht : totL [l.take i, (l.take j).drop i, [], l.drop j] = n := by rw [← totL_flat, e, hl]
  have := join_any A 4 c [l.take i, (l.take j).drop i, [], l.drop j] w h (by unfold maxLen; omega) (by rw [ht]; omega)
  rw [ht, e] at this
  exact this

theorem hexL_app (a b : List UInt8) : hexL (a ++ b) = hexL a ++ hexL b := by simp [hexL]
theorem strL_app (a b : List UInt8) : strL a ++ strL b = strL (a ++ b) := by
  apply ByteArray.ext
  simp [strL]
/-- The bytes of l, the first k of them turned. -/
def flipAt (l : List UInt8) (k : Nat) : List UInt8 := (l.take k).map (fun x => x ^^^ 255) ++ l.drop k
theorem drop_at {l : List UInt8} {k : Nat} {x : UInt8} (h : l[k]? = some x) : l.drop k = x :: l.drop (k + 1) := by
  have hl := (List.getElem?_eq_some_iff.1 h).1
  rw [List.getElem?_eq_getElem hl] at h
  rw [List.drop_eq_getElem_cons hl, Option.some.inj h]
theorem flipAt_get {l : List UInt8} {k : Nat} {x : UInt8} (h : l[k]? = some x) : (flipAt l k)[k]? = some x := by
  have hl := (List.getElem?_eq_some_iff.1 h).1
  unfold flipAt
  rw [List.getElem?_append_right (by simp; omega), drop_at h]
  simp [Nat.min_eq_left (Nat.le_of_lt hl)]
theorem flipAt_next {l : List UInt8} {k : Nat} {x : UInt8} (h : l[k]? = some x) : (flipAt l k).set k (x ^^^ 255) = flipAt l (k + 1) := by
  have hl := (List.getElem?_eq_some_iff.1 h).1
  unfold flipAt
  rw [List.set_append_right _ _ (by simp; omega), drop_at h, take_snoc h]
  simp [Nat.min_eq_left (Nat.le_of_lt hl)]
theorem flip_ne (x : UInt8) : x ^^^ 255 ≠ x := by
  have h : ∀ n : Fin 256, (UInt8.ofNat n.val) ^^^ 255 ≠ UInt8.ofNat n.val := by decide +kernel
  have := h ⟨x.toNat, x.toNat_lt⟩
  simpa using this
theorem flipAt_ne {l : List UInt8} {n : Nat} (hn : l.length = n) (h0 : 0 < n) : (flipAt l n == l) = false := by
  rw [Bool.eq_false_iff]
  intro e
  have e' := eq_of_beq e
  match l, hn with
  | [], hn => simp at hn; omega
  | x :: l', hn =>
    unfold flipAt at e'
    rw [List.take_of_length_le (by omega), List.map_cons, List.cons_append] at e'
    injection e' with e1 _
    exact flip_ne x e1

set_option maxHeartbeats 1000000 in
theorem parts_in (A0 : Option Addr) (n0 c0 i j : Nat) (l0 : List UInt8) (w : World) (h0 : RB w w.heap.size A0 n0 l0) (hc : n0 ≤ c0) (hn : n0 ≤ 3000) (hij : i ≤ j) (hj : j ≤ n0) :
    Calls Try.prog 6 #[.slice A0 n0 c0, .int .i64 (i : Int), .int .i64 (j : Int)] w fun e w' => e = .returned (.bool true) ∧ Below w.heap.size w w' := by
  have g1 : ¬ (i : Int) < 0 := by omega
  have g2 : ¬ (j : Int) < (i : Int) := by omega
  have g3 : ¬ (n0 : Int) < (j : Int) := by omega
  go_enter Try.func6, Try.ntmps6
  go_wp2_with fail
  refine (alive_any _).mono ?_
  rintro e w1 ⟨rfl, hb1⟩
  have h01 := h0.step hb1
  have hq1 := cut_h A0 n0 c0 i (by omega)
  have hq2 := cut_lh A0 n0 c0 i j hij (by omega)
  have hq3 := cut_l A0 n0 c0 j (by omega)
  have hp1 := h01.part (Nat.zero_le i) (by omega : i ≤ n0) hc
  have hp2 := h01.part hij hj hc
  have hp3 := h01.part hj (Nat.le_refl _) hc
  rw [Nat.sub_zero, List.drop_zero] at hp1
  rw [List.take_of_length_le (by have := h0.len; omega)] at hp3
  have L1 := hp1.len
  have L2 := hp2.len
  have L3 := hp3.len
  have HL1 := Lib.hid L1
  have HL2 := Lib.hid L2
  have HL3 := Lib.hid L3
  clear L1 L2 L3
  go_wp2_with fail
  go_region_with (go_at_call 23; refine (join4 _ n0 i j _ l0 _ (by exact (RR.lit w1 [(cutA A0 c0 0, c0, l0.take i), (cutA A0 c0 i, c0 - i, (l0.take j).drop i), (none, 0, []), (cutA A0 c0 j, c0 - j, l0.drop j)] _ _ 4 _ (by simp only [List.map_cons, List.map_nil, HL1.out, HL2.out, HL3.out]; rfl) rfl rfl (by
      intro r hr
      simp only [List.mem_cons, List.not_mem_nil, or_false] at hr
      rcases hr with rfl | rfl | rfl | rfl
      · rw [HL1.out]; exact hp1
      · rw [HL2.out]; exact hp2
      · exact RB.nil_
      · rw [HL3.out]; exact hp3)).drew) hn h0.len hij).mono ?_; rintro e w2 ⟨A2, c2, rfl, hj2, hb2⟩)
  have hb2' : Below w1.heap.size w1 w2 := bel_next ((below_alloc w1 _).drew) hb2
  have hA := h01.step hb2'
  have hI := hA.part (Nat.zero_le i) (by omega : i ≤ n0) hc
  have hJ := hA.part (Nat.le_trans hij hj) (Nat.le_refl _) hc
  rw [Nat.sub_zero, List.drop_zero] at hI
  rw [List.take_of_length_le (by have := h0.len; omega)] at hJ
  have hR := hj2.rb
  have HO := Lib.hid hj2
  have HB2 := Lib.hid (bel_next hb1 hb2')
  have HB1 := hb1
  clear hp1 hp2 hp3 h01 hb2 hb2' hj2 hb1 hq2 hq3
  have hq3 := cut_l A0 n0 c0 i (by omega)
  go_wp2_with fail
  simp only [Act.put, List.getElem_toArray, List.getElem_cons_succ, List.getElem_cons_zero, List.setIfInBounds_toArray, List.set_cons_succ, List.set_cons_zero]
  have hsz : ¬ 9223372036854775807 < (strL (hexL (l0.take i))).size + (strL (hexL (l0.drop i))).size := by
    have e : ∀ l, (strL (hexL l)).size = 2 * l.length := fun l => by simp [strL, ByteArray.size, hexL_len]
    rw [e, e, List.length_take, List.length_drop, h0.len]
    omega
  have hcat : strL (hexL (l0.take i)) ++ strL (hexL (l0.drop i)) = strL (hexL l0) := by rw [strL_app, ← hexL_app, List.take_append_drop]
  refine wp_region_quiet_below (by kernel_rfl) (by kernel_rfl) ?_
  repeat (go_big_quiet_step ((first
    | (go_at_call 14; exact qb_same (al_equal _ _ _ _ _ _ l0 l0 _ (by exact hR.step (below_regrown _ _ _)) (by exact hA.step (below_regrown _ _ _)) true (by simp)))
    | (go_at_call 16; exact Calls.regrown_of (hex_any _ _ _ _ _ (by first | exact hR.step (below_regrown _ _ _) | exact hI.step (below_regrown _ _ _) | exact hJ.step (below_regrown _ _ _)) (by omega))))))
  refine wpQuiet_nil ?_
  intro _ hw'
  obtain ⟨⟨dq, osq⟩, hw''⟩ := hw'
  subst hw''
  have hb3 := below_regrown w2 dq osq
  generalize Sort.grow (redrawn w2 dq) osq = w3 at hb3 ⊢
  have HO3 : OwnB w3 w.heap.size A2 n0 c2 l0 := (HO.out.base_le (Nat.le_trans HB1.size (below_alloc w1 _).drew.size)).below hb3
  have HB3 := bel_next HB2.out hb3
  clear hb3
  go_wp2_with fail
  clear hA hI hJ hR HO HB2 HB1
  go_loopw [8] (fun v wr => ∃ k : Nat, k ≤ n0 ∧ v = .int .i64 k ∧ OwnB wr w.heap.size A2 n0 c2 (flipAt l0 k) ∧ Below w.heap.size w wr) (fun v _ => n0 - (intOf v).toNat)
  case atStart => exact ⟨0, Nat.zero_le _, rfl, by simpa [flipAt] using HO3, HB3⟩
  case round =>
    obtain ⟨k, hk, rfl, hown, hbel⟩ := hrel
    by_cases hlt : k < n0
    · obtain ⟨g, rfl, hg1, hg2⟩ := hown.form (by omega)
      obtain ⟨x, hx⟩ : ∃ x, l0[k]? = some x := ⟨_, List.getElem?_eq_getElem (by rw [h0.len]; exact hlt)⟩
      have hc0 := hown.cellAt (flipAt_get hx)
      have hf0 := hown.freeAt k
      have HX := Lib.hid hx
      clear hx
      go_wp2
      go_roundw
      case rel => exact ⟨k + 1, by omega, by go_num, by rw [← flipAt_next HX.out]; exact hown.stored k _ _ (by unfold bv; rw [← xor_byte x 255]; rfl), hbel.setCell hg1 _⟩
      case measure => simp [intOf]; omega
    · obtain rfl : k = n0 := by omega
      have hR := hown.rb
      have hA := h0.below hbel
      by_cases hz : k = 0
      · subst hz
        go_wp2
        go_ret
        exact ⟨rfl, hbel⟩
      · have hz1 : ((k : Int) == 0) = false := by rw [beq_eq_false_iff_ne]; omega
        have hfl := flipAt_ne h0.len (by omega : 0 < k)
        have HF := Lib.hid hfl
        clear hfl
        go_wp2_with (go_at_call 14; refine (al_equal _ _ _ _ _ _ (flipAt l0 k) l0 _ (by exact hR) (by exact hA.more hbel.size) false HF.out).mono ?_; rintro e w4 ⟨rfl, rfl⟩)
        go_ret
        exact ⟨rfl, hbel⟩

theorem OctetParts_walk (A0 : Option Addr) (n0 c0 : Nat) (l0 : List UInt8) (x1 : Int) (x2 : Int) (w : World) (h0 : RB w w.heap.size A0 n0 l0) (m0 : n0 ≤ c0 ∧ c0 ≤ maxLen) (h1 : (Lit.int .i64 x1).wf = true) (h2 : (Lit.int .i64 x2).wf = true) :
    Calls Try.prog 6 #[.slice A0 n0 c0, .int .i64 x1, .int .i64 x2] w fun e w' => e = .returned (.bool true) ∧ Below w.heap.size w w' := by
  have b0 : n0 ≤ 9223372036854775807 := by have := m0; unfold maxLen at this; omega
  by_cases hout : 3000 < n0 ∨ x1 < 0 ∨ x2 < x1 ∨ (n0 : Int) < x2
  · exact parts_out A0 n0 c0 l0 x1 x2 w b0 hout
  · obtain ⟨i, rfl⟩ := Int.eq_ofNat_of_zero_le (show 0 ≤ x1 by omega)
    obtain ⟨j, rfl⟩ := Int.eq_ofNat_of_zero_le (show 0 ≤ x2 by omega)
    exact parts_in A0 n0 c0 i j l0 w h0 m0.1 (by omega) (by omega) (by omega)
end Go.Proofs.Ytjapnjohplbipaa
