/- AES-128 as plain functions of lists of bytes, as the document's reference reckons it: signs, rows, columns, rounds' keys, blocks. No conditions; nothing is claimed of the program here. -/
import Derived.Test.YthllaoeioddddaaGreatFieldAll
import Derived.Test.YthllaoeioddddaaGreatMemAll
import Derived.Deep.RegionWith
import Derived.Test.YthllaoeioddddaaGreatRowsNew
import Derived.Deep.RegionHeld3
namespace Go.Proofs.YthllaoeioddddaaGreat
set_option linter.unusedVariables false

/-- Each byte's entry in a table. -/
def subsL (t b : List UInt8) : List UInt8 := b.map fun x => t.getD x.toNat 0
/-- All S-box values; all bytes by their S-box values. -/
def tableL : List UInt8 := (List.range 256).map fun i => subB (UInt8.ofNat i)
def backL : List UInt8 := (List.range 256).map fun i => unsubB (UInt8.ofNat i)
/-- The rows moved by so many columns times their number. -/
def rowF (b : List UInt8) (m p : Nat) : UInt8 := b.getD (4 * ((p / 4 + m * (p % 4)) % 4) + p % 4) 0
def rowsL (b : List UInt8) (m : Nat) : List UInt8 := (List.range 16).map (rowF b m)
/-- A column's byte behind k of its four products. -/
def colUp (b f : List UInt8) (c r : Nat) : Nat → UInt8 | 0 => 0 | k + 1 => colUp b f c r k ^^^ mulB (f.getD ((k + 4 - r) % 4) 0) (b.getD (4 * c + k) 0)
def colF (b f : List UInt8) (p : Nat) : UInt8 := colUp b f (p / 4) (p % 4) 4
def columnsL (b f : List UInt8) : List UInt8 := (List.range 16).map (colF b f)
/-- A list of sixteen that is F where P holds, and 0 elsewhere. -/
def fillP (P : Nat → Bool) (F : Nat → UInt8) : List UInt8 := (List.range 16).map fun p => if P p then F p else 0
theorem fillP_len (P : Nat → Bool) (F : Nat → UInt8) : (fillP P F).length = 16 := by simp [fillP]
theorem fillP_set (P P' : Nat → Bool) (F : Nat → UInt8) (k : Nat) (hk : k < 16) (h : ∀ p, p < 16 → P' p = (P p || p == k)) : (fillP P F).set k (F k) = fillP P' F := by
  apply List.ext_getElem
  · simp [fillP]
  · intro i h1 h2
    have hi : i < 16 := by simpa [fillP] using h2
    simp only [fillP, List.getElem_set, List.getElem_map, List.getElem_range, h i hi]
    by_cases e : k = i
    · subst e; simp
    · rw [if_neg e]
      have : (i == k) = false := by rw [beq_eq_false_iff_ne]; omega
      rw [this, Bool.or_false]
theorem fillP_all (P : Nat → Bool) (F : Nat → UInt8) (h : ∀ p, p < 16 → P p = true) : fillP P F = (List.range 16).map F := by
  unfold fillP
  apply List.map_congr_left
  intro p hp
  rw [h p (List.mem_range.1 hp)]
  rfl
theorem fillP_none (P : Nat → Bool) (F : Nat → UInt8) (h : ∀ p, p < 16 → P p = false) : List.replicate 16 0 = fillP P F := by
  apply List.ext_getElem
  · simp [fillP]
  · intro i h1 h2
    have hi : i < 16 := by simpa [fillP] using h2
    rw [List.getElem_replicate]
    simp [fillP, h i hi]

/-- The powers of 3: each byte but 0 is one of them. -/
def powsL : Nat → UInt8 → List UInt8 | 0, _ => [] | k + 1, x => x :: powsL k (mulB x 3)
theorem powsL_mem : ∀ (k : Nat) (j : Nat) (y : UInt8), y ∈ powsL k (powN 3 j) → ∃ i, i < k ∧ y = powN 3 (j + i)
  | 0, j, y, h => by simp [powsL] at h
  | k + 1, j, y, h => by
    rw [powsL, ← powN_succ] at h
    rcases List.mem_cons.1 h with h | h
    · exact ⟨0, by omega, h⟩
    · obtain ⟨i, h1, h2⟩ := powsL_mem k (j + 1) y h
      exact ⟨i + 1, by omega, by rw [h2]; congr 1; omega⟩
theorem gen3 (y : UInt8) (hy : y ≠ 0) : ∃ i, i < 255 ∧ y = powN 3 i := by
  have h : ∀ n : Fin 256, UInt8.ofNat n.val ≠ 0 → UInt8.ofNat n.val ∈ powsL 255 1 := by decide +kernel
  have h2 := each_byte (p := fun y => y ≠ 0 → y ∈ powsL 255 1) h y hy
  obtain ⟨i, h3, h4⟩ := powsL_mem 255 0 y h2
  exact ⟨i, h3, by simpa using h4⟩
theorem three_ne : (3 : UInt8) ≠ 0 := by decide
theorem inv_pow3 (i : Nat) (hi : i < 255) : invB (powN 3 i) = powN 3 ((255 - i) % 255) := by
  have h1 : mulB (powN 3 i) (powN 3 ((255 - i) % 255)) = 1 := by
    rw [← powN_add]
    by_cases h0 : i = 0
    · subst h0; rfl
    · rw [show i + (255 - i) % 255 = 255 by omega, powN_255 3 three_ne]
  have hx : powN 3 i ≠ 0 := fun e => by rw [e, mulB_zero'] at h1; exact absurd h1 (by decide)
  exact inv_unique (powN 3 i) _ _ (mulB_inv _ hx) h1
/-- Noughts. -/
def noughts (n : Nat) : List UInt8 := List.replicate n 0
theorem noughts_len (n : Nat) : (noughts n).length = n := List.length_replicate
/-- The table of S-box values behind i rounds. -/
def tabUp : Nat → List UInt8 | 0 => (noughts 256).set 0 (signB 0) | i + 1 => (tabUp i).set (powN 3 i).toNat (signB (powN 3 ((255 - i) % 255)))
theorem tabUp_len : ∀ i, (tabUp i).length = 256 | 0 => by rw [tabUp, List.length_set, noughts_len] | i + 1 => by rw [tabUp, List.length_set, tabUp_len i]
theorem tabUp_at : ∀ (i : Nat), i ≤ 255 → ∀ y : UInt8, (y = 0 ∨ ∃ j, j < i ∧ y = powN 3 j) → (tabUp i)[y.toNat]? = some (subB y)
  | 0, _, y, h => by
    rcases h with rfl | ⟨j, hj, _⟩
    · rw [tabUp, List.getElem?_set, if_pos (by decide), if_pos (by rw [noughts_len]; decide)]
      unfold subB
      rw [invB_zero]
    · omega
  | i + 1, hi, y, h => by
    rw [tabUp, List.getElem?_set]
    have hl := tabUp_len i
    by_cases e : (powN 3 i).toNat = y.toNat
    · have hy := y.toNat_lt
      rw [if_pos e, if_pos (by omega)]
      have e2 : powN 3 i = y := UInt8.toNat_inj.1 e
      rw [← e2]
      unfold subB
      rw [inv_pow3 i (by omega)]
    · rw [if_neg e]
      refine tabUp_at i (by omega) y ?_
      rcases h with h | ⟨j, h1, h2⟩
      · exact .inl h
      · refine .inr ⟨j, ?_, h2⟩
        rcases Nat.lt_or_ge j i with h3 | h3
        · exact h3
        · exact absurd (by rw [h2, show j = i by omega]) e
theorem list256 (l : List UInt8) (hl : l.length = 256) (f : UInt8 → UInt8) (h : ∀ y : UInt8, l[y.toNat]? = some (f y)) : l = (List.range 256).map fun i => f (UInt8.ofNat i) := by
  apply List.ext_getElem
  · simp [hl]
  · intro i h1 h2
    have hi : i < 256 := by omega
    have := h (UInt8.ofNat i)
    rw [show (UInt8.ofNat i).toNat = i by simp; omega, List.getElem?_eq_getElem h1] at this
    simpa using this
theorem tabUp_end : tabUp 255 = tableL := list256 _ (tabUp_len 255) subB fun y => tabUp_at 255 (Nat.le_refl _) y (by
  by_cases h : y = 0
  · exact .inl h
  · exact .inr (gen3 y h))
theorem tableL_at (y : UInt8) : tableL.getD y.toNat 0 = subB y := by
  have := y.toNat_lt
  simp [tableL, List.getD, this]
/-- The bytes by their signs, behind i rounds. -/
def backUp : Nat → List UInt8 | 0 => noughts 256 | i + 1 => (backUp i).set (subB (UInt8.ofNat i)).toNat (UInt8.ofNat i)
end Go.Proofs.YthllaoeioddddaaGreat

/- The references of layer 3 (aes) that work on one block: at, subs, add, rows, columns, back, Table, each as a plain function of lists. Conditions: the slices' cells are readable, of the lengths that each theorem says. -/
namespace Go.Proofs.YthllaoeioddddaaGreat
open Go.RowKit
set_option linter.unusedVariables false

set_option maxRecDepth 100000 in
set_option maxHeartbeats 1000000 in
theorem at_any (r c : Nat) (w : World) (hr : r < 4) (hc : c ≤ 1000) :
    Calls Tryz.prog 152 #[.int .i64 (r : Int), .int .i64 (c : Int)] w fun e w' => e = .returned (.int .i64 ((4 * (c % 4) + r : Nat) : Int)) ∧ w = w' := by
  go_enter Tryz.func152, Tryz.ntmps152
  go_wp2
  go_ret
  exact ⟨ret1i (by omega), rfl⟩
/-- at where the second argument stands as a sum. -/
theorem at_of (r p : Nat) (C Z : Int) (c : Nat) (w : World) (hr : r < 4) (hc : c ≤ 1000) (hC : (c : Int) = C) (hZ : ((4 * (c % 4) + r : Nat) : Int) = Z) :
    Calls Tryz.prog 152 #[.int .i64 (r : Int), .int .i64 C] w fun e w' => e = .returned (.int .i64 Z) ∧ w = w' := by
  subst hC; subst hZ; exact at_any r c w hr hc

theorem subsL_snoc (t b : List UInt8) (x : UInt8) : subsL t (b ++ [x]) = subsL t b ++ [t.getD x.toNat 0] := by simp [subsL]
set_option maxRecDepth 100000 in
set_option maxHeartbeats 1000000 in
theorem subs_any (A T : Option Addr) (n c ct : Nat) (l t : List UInt8) (w : World) (h : RB w w.heap.size A n l) (ht : RB w w.heap.size T 256 t) (hn : n ≤ 70368744177664) :
    Calls Tryz.prog 139 #[.slice A n c, .slice T 256 ct] w (RetB n (subsL t l) w) := by
  go_enter Tryz.func139, Tryz.ntmps139
  go_wp2
  go_loopw [5, 6] (fun v i wr => ∃ (k c1 : Nat) (A1 : Option Addr), k ≤ n ∧ i = .int .i64 k ∧ v = .slice A1 k c1 ∧ Hid (OwnB wr w.heap.size A1 k c1 (subsL t (l.take k))) ∧ Hid (Below w.heap.size w wr)) (fun _ i _ => n - (intOf i).toNat)
  case atStart => exact ⟨0, 0, _, Nat.zero_le _, rfl, rfl, Lib.hid (OwnB.lit w _ [] #[] 0 rfl rfl (by unfold maxLen; omega) (Nat.le_refl _)), Lib.hid ((Below.refl _ _).alloc (Nat.le_refl _) _)⟩
  case round =>
    obtain ⟨k, c1, A1, hk, rfl, rfl, hown, hbel⟩ := hrel
    have hsz := hbel.out.size
    by_cases hlt : k < n
    · obtain ⟨b, o, rfl, hb, x, hx, hc⟩ := (h.below hbel.out).at_ hlt
      have hxl := x.toNat_lt
      have hxi := byte_lt x
      obtain ⟨b2, o2, rfl, hb2, y, hy, hc2⟩ := (ht.below hbel.out).at_ (show x.toNat < 256 by omega)
      have HX := Lib.hid hx
      have HY := Lib.hid hy
      have hr1 := RB.new wr [y] #[.int .u8 (y.toNat : Int)] 5 rfl
      have ho1 := hown.out.alloc (.cells #[.int .u8 (y.toNat : Int)] 5)
      clear hx hy
      go_wp2_with (at_builtin; refine wpList_app rfl (.tmp 14) (.tmp 22) rfl w.heap.size _ _ _ _ rfl (by exact ho1) (wr.heap.size + 1) (some ⟨wr.heap.size, 0, none⟩) 1 1 [y] rfl (by exact hr1) (by omega) (by simp; omega) ?_; intro A2 c2 w2 hown2 _ hb3)
      go_roundw
      case rel =>
        refine ⟨k + 1, c2, A2, by omega, by go_num, rfl, Lib.hid ?_, Lib.hid ((hbel.out.alloc hsz _).trans hb3)⟩
        rw [take_snoc HX.out, subsL_snoc, show t.getD x.toNat 0 = y by simp [List.getD, HY.out]]
        exact hown2
      case measure => simp [intOf]; omega
    · obtain rfl : k = n := by omega
      have hl : l.take k = l := List.take_of_length_le (by have := h.len; omega)
      have HL := Lib.hid hl
      clear hl
      go_wp2
      go_ret
      exact ⟨A1, c1, rfl, by rw [← HL.out]; exact hown.out, hbel.out⟩

set_option maxRecDepth 100000 in
set_option maxHeartbeats 1000000 in
theorem radd_any (A A' : Option Addr) (n c c' : Nat) (l l' : List UInt8) (w : World) (h : RB w w.heap.size A n l) (h' : RB w w.heap.size A' n l') (hn : n ≤ 70368744177664) :
    Calls Tryz.prog 137 #[.slice A n c, .slice A' n c'] w (RetB n (xorL l l') w) := by
  go_enter Tryz.func137, Tryz.ntmps137
  go_wp2
  go_loopw [5, 6] (fun v i wr => ∃ (k c1 : Nat) (A1 : Option Addr), k ≤ n ∧ i = .int .i64 k ∧ v = .slice A1 k c1 ∧ OwnB wr w.heap.size A1 k c1 (xorL (l.take k) (l'.take k)) ∧ Below w.heap.size w wr) (fun _ i _ => n - (intOf i).toNat)
  case atStart => exact ⟨0, 0, _, Nat.zero_le _, rfl, rfl, OwnB.lit w _ [] #[] 0 rfl rfl (by unfold maxLen; omega) (Nat.le_refl _), (Below.refl _ _).alloc (Nat.le_refl _) _⟩
  case round =>
    obtain ⟨k, c1, A1, hk, rfl, rfl, hown, hbel⟩ := hrel
    have hsz := hbel.size
    by_cases hlt : k < n
    · obtain ⟨b, o, rfl, hb, x, hx, hc⟩ := (h.below hbel).at_ hlt
      obtain ⟨b2, o2, rfl, hb2, y, hy, hc2⟩ := (h'.below hbel).at_ hlt
      have HX := Lib.hid hx
      have HY := Lib.hid hy
      have hxy := xor_byte x y
      obtain ⟨z, HZ⟩ : ∃ z, Hid (z = x ^^^ y) := ⟨_, Lib.hid rfl⟩
      rw [← HZ.out] at hxy
      clear hx hy
      go_wp2
      go_region_law (refine step_app rfl (.tmp 14) (.tmp 24) rfl w.heap.size _ _ _ _ rfl (hown.alloc _).drew (wr.heap.size + 1) (some ⟨wr.heap.size, 0, none⟩) 1 1 [z] rfl (RB.new wr [z] _ _ (by rfl)).drew (by omega) (by simp; omega) ?_; intro A2 c2 w2 hown2 _ hb3)
      all_goals
        go_wp2
        go_roundw
        case rel =>
          refine ⟨k + 1, c2, A2, by omega, by go_num, rfl, ?_, (hbel.alloc hsz _).drew.trans hb3⟩
          rw [take_snoc HX.out, take_snoc HY.out, xorL_snoc _ _ _ _ (by rw [List.length_take, List.length_take, h.len, h'.len]), ← HZ.out]
          exact hown2
        case measure => simp [intOf]; omega
    · obtain rfl : k = n := by omega
      go_wp2
      go_ret
      exact ⟨A1, c1, rfl, by rw [List.take_of_length_le (by have := h.len; omega), List.take_of_length_le (by have := h'.len; omega)] at hown; exact hown, hbel⟩
end Go.Proofs.YthllaoeioddddaaGreat

/- The references of layer 3 (aes), rows and columns: each as a plain function of a list of sixteen. Condition: the slices' cells are readable. -/
namespace Go.Proofs.YthllaoeioddddaaGreat
open Go.RowKit
set_option linter.unusedVariables false

/-- Filled row by row, up to row r and column c. -/
def rowP (r c p : Nat) : Bool := decide (p % 4 < r) || (p % 4 == r && decide (p / 4 < c))
theorem rowP_next (r c p : Nat) (hr : r < 4) (hc : c < 4) (hp : p < 16) : rowP r (c + 1) p = (rowP r c p || p == 4 * c + r) := by
  unfold rowP
  rw [Bool.eq_iff_iff]
  simp
  omega
theorem rowP_turn (r p : Nat) (hp : p < 16) : rowP r 4 p = rowP (r + 1) 0 p := by
  unfold rowP
  rw [Bool.eq_iff_iff]
  simp
  omega
theorem fillP_congr (P P' : Nat → Bool) (F : Nat → UInt8) (h : ∀ p, p < 16 → P p = P' p) : fillP P F = fillP P' F := by
  unfold fillP
  apply List.map_congr_left
  intro p hp
  rw [h p (List.mem_range.1 hp)]

set_option maxRecDepth 100000 in
set_option maxHeartbeats 1000000 in
theorem rows_any (A : Option Addr) (c0 m : Nat) (l : List UInt8) (w : World) (h : RB w w.heap.size A 16 l) (hm : m ≤ 3) :
    Calls Tryz.prog 138 #[.slice A 16 c0, .int .i64 (m : Int)] w (RetB 16 (rowsL l m) w) := by
  obtain ⟨F, HF⟩ : ∃ F, Hid (F = rowF l m) := ⟨_, Lib.hid rfl⟩
  go_enter Tryz.func138, Tryz.ntmps138
  go_wp2_with (at_make; refine wpList_mk rfl _ _ rfl w.heap.size .i64 .i64 16 16 16 rfl rfl rfl rfl (by omega) (Nat.le_refl _) ?_; intro w1 hown1 hs1 hb1)
  have HO1 : Hid (OwnB w1 w.heap.size (some ⟨w.heap.size, 0, none⟩) 16 16 (fillP (rowP 0 0) F)) := Lib.hid (by
    rw [← fillP_none (rowP 0 0) F (fun p _ => by unfold rowP; simp)]
    exact hown1)
  have HB1 := Lib.hid hb1
  clear hown1 hs1 hb1
  go_loopw [6] (fun i wr => ∃ r : Nat, r ≤ 4 ∧ i = .int .i64 r ∧ Hid (OwnB wr w.heap.size (some ⟨w.heap.size, 0, none⟩) 16 16 (fillP (rowP r 0) F)) ∧ Hid (Below w.heap.size w wr)) (fun i _ => 4 - (intOf i).toNat)
  case atStart => exact ⟨0, by omega, rfl, HO1, HB1⟩
  case round =>
    obtain ⟨r, hr, rfl, ho, hb⟩ := hrel
    clear HO1 HB1
    by_cases hlt : r < 4
    · obtain ⟨q, HQ, hq9⟩ : ∃ q : Nat, Hid (q = m * r) ∧ q ≤ 9 := ⟨_, Lib.hid rfl, Nat.le_trans (Nat.mul_le_mul hm (show r ≤ 3 by omega)) (by omega)⟩
      have hq : (m : Int) * (r : Int) = (q : Int) := by rw [HQ.out]; simp
      have hd : decide ((r : Int) < 4) = true := decide_eq_true (by omega)
      go_wp2
      go_loopw [7] (fun i wr => ∃ c : Nat, c ≤ 4 ∧ i = .int .i64 c ∧ Hid (OwnB wr w.heap.size (some ⟨w.heap.size, 0, none⟩) 16 16 (fillP (rowP r c) F)) ∧ Hid (Below w.heap.size w wr)) (fun i _ => 4 - (intOf i).toNat)
      case atStart => exact ⟨0, by omega, rfl, ho, hb⟩
      case round =>
        obtain ⟨c, hc, rfl, ho, hb⟩ := hrel
        by_cases hlt2 : c < 4
        · obtain ⟨k, HK, hk16⟩ : ∃ k : Nat, Hid (k = 4 * c + r) ∧ k < 16 := ⟨_, Lib.hid rfl, by omega⟩
          obtain ⟨s, HS, hs16⟩ : ∃ s : Nat, Hid (s = 4 * ((c + q) % 4) + r) ∧ s < 16 := ⟨_, Lib.hid rfl, by omega⟩
          obtain ⟨b, o, rfl, hbb, x, hx, hcx⟩ := (h.below hb.out).at_ hs16
          have hxi := byte_lt x
          have hFk : F k = x := by
            rw [HF.out]
            unfold rowF
            rw [show k / 4 = c by rw [HK.out]; omega, show k % 4 = r by rw [HK.out]; omega, ← HQ.out, ← HS.out]
            simp [List.getD, hx]
          have HFK := Lib.hid hFk
          have hcell := ho.out.cellAt (j := k) (x := (fillP (rowP r c) F)[k]'(by rw [fillP_len]; omega)) (List.getElem?_eq_getElem (by rw [fillP_len]; omega))
          have hfree := ho.out.freeAt k
          clear hx hFk
          go_wp2_with fail
          refine (at_of r 0 _ (k : Int) c _ hlt (by omega) rfl (by rw [HK.out]; omega)).mono ?_
          rintro e w2 ⟨rfl, rfl⟩
          go_wp2_with fail
          refine (at_of r 0 _ (s : Int) (c + q) _ hlt (by omega) (by omega) (by rw [HS.out])).mono ?_
          rintro e w2 ⟨rfl, rfl⟩
          go_wp2
          go_roundw
          case rel =>
            have hset := ho.out.stored k x _ rfl
            rw [← HFK.out, fillP_set _ (rowP r (c + 1)) F k hk16 (fun p hp => by rw [HK.out]; exact rowP_next r c p hlt hlt2 hp), HFK.out] at hset
            exact ⟨c + 1, by omega, by go_num, Lib.hid hset, Lib.hid (hb.out.setCell (show w.heap.size ≤ w.heap.size from Nat.le_refl _) _)⟩
          case measure => simp [intOf]; omega
        · obtain rfl : 4 = c := by omega
          have e4 : ((4 : Nat) : Int) = 4 := rfl
          rw [e4]
          clear e4
          go_wp2
          go_roundw
          case rel =>
            have ho2 := ho.out
            rw [fillP_congr _ (rowP (r + 1) 0) F (fun p hp => rowP_turn r p hp)] at ho2
            exact ⟨r + 1, by omega, by go_num, Lib.hid ho2, hb⟩
          case measure => simp [intOf]; omega
    · obtain rfl : 4 = r := by omega
      go_wp2
      go_ret
      have ho2 := ho.out
      rw [fillP_all _ F (fun p hp => by unfold rowP; simp; omega), HF.out] at ho2
      exact ⟨_, _, rfl, ho2, hb.out⟩
/-- rows where the step is a literal. -/
theorem rows_lit (A : Option Addr) (c0 m : Nat) (M : Int) (l : List UInt8) (w : World) (hM : (m : Int) = M) (h : RB w w.heap.size A 16 l) (hm : m ≤ 3) :
    Calls Tryz.prog 138 #[.slice A 16 c0, .int .i64 M] w (RetB 16 (rowsL l m) w) := by subst hM; exact rows_any A c0 m l w h hm

/-- Filled column by column, up to column c and row r. -/
def colP (c r p : Nat) : Bool := decide (p / 4 < c) || (p / 4 == c && decide (p % 4 < r))
theorem colP_next (c r p : Nat) (hr : r < 4) (hc : c < 4) (hp : p < 16) : colP c (r + 1) p = (colP c r p || p == 4 * c + r) := by
  unfold colP
  rw [Bool.eq_iff_iff]
  simp
  omega
theorem colP_turn (c p : Nat) (hp : p < 16) : colP c 4 p = colP (c + 1) 0 p := by
  unfold colP
  rw [Bool.eq_iff_iff]
  simp
  omega

set_option maxRecDepth 100000 in
set_option maxHeartbeats 2000000 in
theorem columns_any (A : Option Addr) (c0 : Nat) (l : List UInt8) (f0 f1 f2 f3 : UInt8) (w : World) (h : RB w w.heap.size A 16 l) :
    Calls Tryz.prog 140 #[.slice A 16 c0, .agg #[.int .u8 (f0.toNat : Int), .int .u8 (f1.toNat : Int), .int .u8 (f2.toNat : Int), .int .u8 (f3.toNat : Int)]] w (RetB 16 (columnsL l [f0, f1, f2, f3]) w) := by
  obtain ⟨fl, HFL⟩ : ∃ fl : List UInt8, Hid (fl = [f0, f1, f2, f3]) := ⟨_, Lib.hid rfl⟩
  obtain ⟨F, HF⟩ : ∃ F, Hid (F = colF l fl) := ⟨_, Lib.hid rfl⟩
  obtain ⟨g0, HG0⟩ : ∃ g0, Hid (g0 = w.heap.size) := ⟨_, Lib.hid rfl⟩
  rw [← HFL.out]
  go_enter Tryz.func140, Tryz.ntmps140
  go_wp2_with (at_make; refine wpList_mk rfl _ _ rfl w.heap.size .i64 .i64 16 16 16 rfl rfl rfl rfl (by omega) (by simp) ?_; intro w1 hown1 hs1 hb1)
  have hcf := (Cells.new w #[.int .u8 (f0.toNat : Int), .int .u8 (f1.toNat : Int), .int .u8 (f2.toNat : Int), .int .u8 (f3.toNat : Int)] 175 4 rfl (fun j => bv (fl.getD j 0)) (fun j hj => by
    rw [HFL.out]
    rcases (show j = 0 ∨ j = 1 ∨ j = 2 ∨ j = 3 by omega) with rfl | rfl | rfl | rfl <;> rfl) w.heap.size rfl).below hb1 (by simp)
  have hown2 : OwnB w1 w.heap.size (some ⟨w.heap.size + 1, 0, none⟩) 16 16 (fillP (colP 0 0) F) := by
    rw [← fillP_none (colP 0 0) F (fun p _ => by unfold colP; simp)]
    simpa using hown1
  have hbel : Below w.heap.size w w1 := ((Below.refl _ _).alloc (Nat.le_refl _) _).trans (hb1.mono (by simp))
  have HCF := Lib.hid hcf
  have HO1 := Lib.hid hown2
  have HB1 := Lib.hid hbel
  clear hcf hown1 hown2 hs1 hb1 hbel
  rw [← HG0.out] at HCF HO1 HB1
  rw [← HG0.out]
  go_loopw [6] (fun i wr => ∃ c : Nat, c ≤ 4 ∧ i = .int .i64 c ∧ Hid (Cells wr g0 4 (fun j => bv (fl.getD j 0))) ∧ Hid (OwnB wr g0 (some ⟨g0 + 1, 0, none⟩) 16 16 (fillP (colP c 0) F)) ∧ Hid (Below g0 w wr)) (fun i _ => 4 - (intOf i).toNat)
  case atStart => exact ⟨0, by omega, rfl, HCF, HO1, HB1⟩
  case round =>
    obtain ⟨c, hc, rfl, hf, ho, hb⟩ := hrel
    clear HCF HO1 HB1
    by_cases hlt : c < 4
    · have hdc : decide ((c : Int) < 4) = true := decide_eq_true (by omega)
      go_wp2
      go_loopw [7] (fun i wr => ∃ r : Nat, r ≤ 4 ∧ i = .int .i64 r ∧ Hid (Cells wr g0 4 (fun j => bv (fl.getD j 0))) ∧ Hid (OwnB wr g0 (some ⟨g0 + 1, 0, none⟩) 16 16 (fillP (colP c r) F)) ∧ Hid (Below g0 w wr)) (fun i _ => 4 - (intOf i).toNat)
      case atStart => exact ⟨0, by omega, rfl, hf, ho, hb⟩
      case round =>
        obtain ⟨r, hr, rfl, hf, ho, hb⟩ := hrel
        by_cases hlt2 : r < 4
        · have hdr : decide ((r : Int) < 4) = true := decide_eq_true (by omega)
          go_wp2
          go_loopw [8, 9] (fun v i wr => ∃ k : Nat, k ≤ 4 ∧ i = .int .i64 k ∧ v = .int .u8 ((colUp l fl c r k).toNat : Int) ∧ Hid (Cells wr g0 4 (fun j => bv (fl.getD j 0))) ∧ Hid (OwnB wr g0 (some ⟨g0 + 1, 0, none⟩) 16 16 (fillP (colP c r) F)) ∧ Hid (Below g0 w wr)) (fun _ i _ => 4 - (intOf i).toNat)
          case atStart => exact ⟨0, by omega, rfl, rfl, hf, ho, hb⟩
          case round =>
            obtain ⟨k, hk, rfl, rfl, hf, ho, hb⟩ := hrel
            by_cases hlt3 : k < 4
            · obtain ⟨e, HE, he4⟩ : ∃ e : Nat, Hid (e = (k + 4 - r) % 4) ∧ e < 4 := ⟨_, Lib.hid rfl, Nat.mod_lt _ (by omega)⟩
              have hcf := hf.out.cell he4
              obtain ⟨fe, HFE⟩ : ∃ fe, Hid (fe = fl.getD e 0) := ⟨_, Lib.hid rfl⟩
              rw [← HFE.out] at hcf
              unfold bv at hcf
              obtain ⟨s, HS, hs16⟩ : ∃ s : Nat, Hid (s = 4 * c + k) ∧ s < 16 := ⟨_, Lib.hid rfl, by omega⟩
              obtain ⟨b, o, rfl, hbb, x, hx, hcx⟩ := (h.below (by rw [HG0.out] at hb; exact hb.out)).at_ hs16
              have hxi := byte_lt x
              have hfi := byte_lt fe
              have hxor := xor_byte (colUp l fl c r k) (mulB fe x)
              have hnext : colUp l fl c r (k + 1) = colUp l fl c r k ^^^ mulB fe x := by
                rw [colUp, ← HE.out, ← HFE.out, ← HS.out]
                simp [List.getD, hx]
              have HN := Lib.hid hnext
              have hw1 : IntKind.i64.wrap ((k : Int) + 4) = (k : Int) + 4 := IntWalk.i64_in _ (by omega)
              have hw2 : IntKind.i64.wrap ((k : Int) + 4 - (r : Int)) = (k : Int) + 4 - (r : Int) := IntWalk.i64_in _ (by omega)
              have hw3 : Int.tmod ((k : Int) + 4 - (r : Int)) 4 = (e : Int) := by rw [HE.out, Int.tmod_eq_emod_of_nonneg (by omega)]; omega
              have hw4 : ((k : Int) + 4 - (r : Int)) % 4 = (e : Int) := by rw [HE.out]; omega
              clear hx hnext
              go_wp2_with fail
              go_quiet ((first | (go_at_call 152; exact quiet_left (at_of k 0 _ (s : Int) c _ hlt3 (by omega) rfl (by rw [HS.out]; omega))) | (go_at_call 134; exact quiet_left (rmul_any _ _ _))))
              go_wp2
              go_roundw
              case rel => exact ⟨k + 1, by omega, by go_num, by rw [HN.out, UInt8.toNat_xor], Lib.hid (hf.out.drewN _), Lib.hid (ho.out.drewN _), Lib.hid (below_drewN hb.out _)⟩
              case measure => simp [intOf]; omega
            · obtain rfl : 4 = k := by omega
              have e4 : ((4 : Nat) : Int) = 4 := rfl
              rw [e4]
              clear e4
              obtain ⟨s, HS, hs16⟩ : ∃ s : Nat, Hid (s = 4 * c + r) ∧ s < 16 := ⟨_, Lib.hid rfl, by omega⟩
              obtain ⟨v, HV⟩ : ∃ v, Hid (v = colUp l fl c r 4) := ⟨_, Lib.hid rfl⟩
              rw [← HV.out]
              have hFs : F s = v := by
                rw [HF.out, HV.out]
                unfold colF
                rw [show s / 4 = c by rw [HS.out]; omega, show s % 4 = r by rw [HS.out]; omega]
              have HFS := Lib.hid hFs
              have hcell := ho.out.cellAt (j := s) (x := (fillP (colP c r) F)[s]'(by rw [fillP_len]; omega)) (List.getElem?_eq_getElem (by rw [fillP_len]; omega))
              have hfree := ho.out.freeAt s
              clear hFs
              go_wp2_with fail
              refine (at_of r 0 _ (s : Int) c _ hlt2 (by omega) rfl (by rw [HS.out]; omega)).mono ?_
              rintro e w2 ⟨rfl, rfl⟩
              go_wp2
              go_roundw
              case rel =>
                have hset := ho.out.stored s v _ rfl
                rw [← HFS.out, fillP_set _ (colP c (r + 1)) F s hs16 (fun p hp => by rw [HS.out]; exact colP_next c r p hlt2 hlt hp), HFS.out] at hset
                exact ⟨r + 1, by omega, by go_num, Lib.hid (hf.out.other (a := ⟨g0 + 1, s, none⟩) (show g0 + 1 ≠ g0 by omega) _), Lib.hid hset, Lib.hid (hb.out.setCell (show g0 ≤ g0 + 1 by omega) _)⟩
              case measure => simp [intOf]; omega
        · obtain rfl : 4 = r := by omega
          have e4 : ((4 : Nat) : Int) = 4 := rfl
          rw [e4]
          clear e4
          go_wp2
          go_roundw
          case rel =>
            have ho2 := ho.out
            rw [fillP_congr _ (colP (c + 1) 0) F (fun p hp => colP_turn c p hp)] at ho2
            exact ⟨c + 1, by omega, by go_num, hf, Lib.hid ho2, hb⟩
          case measure => simp [intOf]; omega
    · obtain rfl : 4 = c := by omega
      go_wp2
      go_ret
      have ho2 := ho.out
      rw [fillP_all _ F (fun p hp => by unfold colP; simp; omega), HF.out, HG0.out] at ho2
      refine ⟨_, _, rfl, ?_, by rw [← HG0.out]; exact hb.out⟩
      rw [← HG0.out] at ho2 ⊢
      exact ho2
end Go.Proofs.YthllaoeioddddaaGreat

/- The references of layer 3 (aes), back and Table: the tables of S-box values, both ways. Condition: back's table is Table's. -/
namespace Go.Proofs.YthllaoeioddddaaGreat
open Go.RowKit
set_option linter.unusedVariables false

theorem getAt (l : List UInt8) (n k : Nat) (hl : l.length = n) (hk : k < n) : ∃ x, l[k]? = some x := ⟨l[k]'(by omega), List.getElem?_eq_getElem (by omega)⟩

theorem rsign_lit (X Z : Int) (x : UInt8) (hx : (x.toNat : Int) = X) (hz : ((signB x).toNat : Int) = Z) (w : World) :
    Calls Tryz.prog 135 #[.int .u8 X] w fun e w' => e = .returned (.int .u8 Z) ∧ w = w' := by subst hx; subst hz; exact rsign_any x w
theorem rmul_lit (X Y Z : Int) (x y : UInt8) (hx : (x.toNat : Int) = X) (hy : (y.toNat : Int) = Y) (hz : ((mulB x y).toNat : Int) = Z) (w : World) :
    Calls Tryz.prog 134 #[.int .u8 X, .int .u8 Y] w fun e w' => e = .returned (.int .u8 Z) ∧ w = w' := by subst hx; subst hy; subst hz; exact rmul_any x y w
/-- The first k powers of 3. -/
def threes (k : Nat) : List UInt8 := (List.range k).map (powN 3)
theorem threes_snoc (k : Nat) : threes (k + 1) = threes k ++ [powN 3 k] := by simp [threes, List.range_succ]
theorem threes_at (k j : Nat) (h : j < k) : (threes k)[j]? = some (powN 3 j) := by simp [threes, h]

set_option maxRecDepth 100000 in
set_option maxHeartbeats 2000000 in
theorem table_any (w : World) : Calls Tryz.prog 112 #[] w (RetB 256 tableL w) := by
  obtain ⟨U, HU⟩ : ∃ U : Nat → List UInt8, Hid (U = tabUp) := ⟨_, Lib.hid rfl⟩
  obtain ⟨P, HP⟩ : ∃ P : Nat → UInt8, Hid (P = powN 3) := ⟨_, Lib.hid rfl⟩
  obtain ⟨Z, HZ⟩ : ∃ Z : UInt8, Hid (Z = signB 0) := ⟨_, Lib.hid rfl⟩
  go_enter Tryz.func112, Tryz.ntmps112
  go_wp2_with fail
  go_loopw [1, 2] (fun v i wr => ∃ (k c1 : Nat) (A1 : Option Addr), k ≤ 254 ∧ i = .int .i64 ((k : Int) + 1) ∧ v = .slice A1 (k + 1) c1 ∧ Hid (OwnB wr w.heap.size A1 (k + 1) c1 (threes (k + 1))) ∧ Hid (Below w.heap.size w wr)) (fun _ i _ => 255 - (intOf i).toNat)
  case atStart => exact ⟨0, 1, _, by omega, rfl, rfl, Lib.hid (OwnB.lit w _ (threes 1) #[.int .u8 1] 1 rfl rfl (by unfold maxLen; omega) (Nat.le_refl _)), Lib.hid (below_alloc _ _)⟩
  case round =>
    obtain ⟨k, c1, A1, hk, rfl, rfl, ho, hb⟩ := hrel
    have hsz := hb.out.size
    by_cases hlt : k < 254
    · obtain ⟨g, rfl, hg1, hg2⟩ := ho.out.form (by omega)
      have hcell := ho.out.cellAt (threes_at (k + 1) k (by omega))
      rw [← HP.out] at hcell
      have hpi := byte_lt (P k)
      obtain ⟨y, HY⟩ : ∃ y, Hid (y = powN 3 (k + 1)) := ⟨_, Lib.hid rfl⟩
      go_wp2_with fail
      refine (rmul_lit _ 3 (y.toNat : Int) (P k) 3 rfl rfl (by rw [HY.out, HP.out, powN_succ]) _).mono ?_
      rintro e w2 ⟨rfl, rfl⟩
      have hr1 := RB.new wr [y] #[.int .u8 (y.toNat : Int)] 5 rfl
      have ho1 := ho.out.alloc (.cells #[.int .u8 (y.toNat : Int)] 5)
      go_wp2_with (at_builtin; refine wpList_app rfl (.tmp 10) (.tmp 17) rfl w.heap.size _ _ _ _ rfl (by exact ho1) (wr.heap.size + 1) (some ⟨wr.heap.size, 0, none⟩) 1 1 [y] rfl (by exact hr1) (by omega) (by simp; omega) ?_; intro A2 c2 w2 hown2 _ hb3)
      go_roundw
      case rel =>
        refine ⟨k + 1, c2, A2, by omega, by go_num, rfl, Lib.hid ?_, Lib.hid ((hb.out.alloc hsz _).trans hb3)⟩
        rw [threes_snoc (k + 1), ← HY.out]
        exact hown2
      case measure => simp [intOf]; omega
    · obtain rfl : 254 = k := by omega
      obtain ⟨gp, rfl, hg1, hg2⟩ := ho.out.form (by omega)
      have hpc : Cells wr gp 255 (fun j => bv (P j)) := fun j hj => ⟨by
        have := ho.out.cellAt (threes_at 255 j hj)
        rw [HP.out]
        exact this, ho.out.freeAt j⟩
      have HPC := Lib.hid hpc
      obtain ⟨g2, HG2⟩ : ∃ g2, Hid (g2 = wr.heap.size) := ⟨_, Lib.hid rfl⟩
      have e254 : ((254 : Nat) : Int) + 1 = 255 := rfl
      rw [e254]
      clear hpc e254 ho
      go_wp2_with (at_make; refine wpList_mk rfl _ _ rfl w.heap.size .i64 .i64 256 256 256 rfl rfl rfl rfl (by omega) hsz ?_; intro w1 hown1 hs1 hb1)
      refine (rsign_lit 0 (Z.toNat : Int) 0 rfl (by rw [HZ.out]) _).mono ?_
      rintro e w2 ⟨rfl, rfl⟩
      rw [← HG2.out] at hown1
      rw [← HG2.out]
      have hne : gp ≠ g2 := by rw [HG2.out]; omega
      have hg2w : w.heap.size ≤ g2 := by rw [HG2.out]; exact hsz
      have hcell0 := hown1.cellAt (j := 0) (x := 0) (by rw [List.getElem?_replicate, if_pos (by omega)])
      have hfree0 := hown1.freeAt 0
      have HPC1 := Lib.hid (HPC.out.below hb1 (by rw [← HG2.out]; exact (by rw [HG2.out]; exact hg2)))
      have HO1 := Lib.hid hown1
      have HB1 := Lib.hid (hb.out.trans (hb1.mono hsz))
      clear hown1 hs1 hb1 HPC
      go_wp2_with fail
      go_loopw [4] (fun i ws => ∃ k : Nat, k ≤ 255 ∧ i = .int .i64 k ∧ Hid (OwnB ws w.heap.size (some ⟨g2, 0, none⟩) 256 256 (U k)) ∧ Hid (Cells ws gp 255 (fun j => bv (P j))) ∧ Hid (Below w.heap.size w ws)) (fun i _ => 255 - (intOf i).toNat)
      case atStart =>
        have hset := HO1.out.stored 0 Z _ rfl
        have hu0 : (List.replicate 256 (0 : UInt8)).set 0 Z = U 0 := by rw [HU.out, HZ.out]; rfl
        rw [hu0] at hset
        exact ⟨0, by omega, rfl, Lib.hid hset, Lib.hid (HPC1.out.other (a := ⟨g2, 0, none⟩) (fun e => hne e.symm) _), Lib.hid (HB1.out.setCell hg2w _)⟩
      case round =>
        obtain ⟨k, hk, rfl, ho, hpc, hbs⟩ := hrel
        clear HO1 HB1 HPC1 hcell0 hfree0
        by_cases hlt2 : k < 255
        · obtain ⟨e, HE, he⟩ : ∃ e : Nat, Hid (e = (255 - k) % 255) ∧ e < 255 := ⟨_, Lib.hid rfl, Nat.mod_lt _ (by omega)⟩
          have hp1 := hpc.out.cell hlt2
          have hp2 := hpc.out.cell he
          obtain ⟨x, HX⟩ : ∃ x, Hid (x = P k) := ⟨_, Lib.hid rfl⟩
          obtain ⟨y, HY⟩ : ∃ y, Hid (y = P e) := ⟨_, Lib.hid rfl⟩
          rw [← HX.out] at hp1
          rw [← HY.out] at hp2
          unfold bv at hp1 hp2
          have hxi := byte_lt x
          have hxl := x.toNat_lt
          have hyi := byte_lt y
          have hcell := ho.out.cellAt (j := x.toNat) (x := (U k)[x.toNat]'(by rw [HU.out, tabUp_len]; omega)) (List.getElem?_eq_getElem (by rw [HU.out, tabUp_len]; omega))
          have hfree := ho.out.freeAt x.toNat
          have hw1 : IntKind.i64.wrap (255 - (k : Int)) = 255 - (k : Int) := IntWalk.i64_in _ (by omega)
          have hw3 : Int.tmod (255 - (k : Int)) 255 = (e : Int) := by rw [HE.out, Int.tmod_eq_emod_of_nonneg (by omega)]; omega
          have hw4 : (255 - (k : Int)) % 255 = (e : Int) := by rw [HE.out]; omega
          obtain ⟨v, HV⟩ : ∃ v, Hid (v = signB y) := ⟨_, Lib.hid rfl⟩
          go_wp2_with fail
          go_region_with (go_at_call 135; refine (rsign_lit _ (v.toNat : Int) y rfl (by rw [HV.out]) _).mono ?_; rintro e w2 ⟨rfl, rfl⟩)
          all_goals
            go_wp2
            go_roundw
            case rel =>
              have hset := (ho.out.stored x.toNat v _ rfl).drew
              have hn : (U k).set x.toNat v = U (k + 1) := by rw [HU.out, HX.out, HV.out, HY.out, HP.out, HE.out]; rfl
              rw [hn] at hset
              exact ⟨k + 1, by omega, by go_num, Lib.hid hset, Lib.hid (hpc.out.other (a := ⟨g2, x.toNat, none⟩) (fun e => hne e.symm) _).drew, Lib.hid (hbs.out.setCell hg2w _).drew⟩
            case measure => simp [intOf]; omega
        · obtain rfl : 255 = k := by omega
          go_wp2
          go_ret
          have ho2 := ho.out
          rw [HU.out, tabUp_end] at ho2
          exact ⟨_, _, rfl, ho2, hbs.out⟩
end Go.Proofs.YthllaoeioddddaaGreat

/- AES-128's rounds' keys and blocks as plain functions of lists of bytes. No conditions; nothing is claimed of the program here. -/
namespace Go.Proofs.YthllaoeioddddaaGreat
set_option linter.unusedVariables false

/-- The first four words. -/
def wordsInit (key : List UInt8) : List (List UInt8) := (List.range 4).map fun i => (key.take (4 * i + 4)).drop (4 * i)
/-- A word turned and replaced, the round's power added to its first byte. -/
def turn0 (t w : List UInt8) (r : Nat) : List UInt8 := (subsL t [w.getD 1 0, w.getD 2 0, w.getD 3 0, w.getD 0 0]).set 0 ((subsL t [w.getD 1 0, w.getD 2 0, w.getD 3 0, w.getD 0 0]).getD 0 0 ^^^ powN 2 r)
def turnW (t w : List UInt8) (i : Nat) : List UInt8 := if i % 4 = 0 then turn0 t w (i / 4 - 1) else w
/-- All words behind k further ones. -/
def wordsUp (key t : List UInt8) : Nat → List (List UInt8)
  | 0 => wordsInit key
  | k + 1 => wordsUp key t k ++ [xorL ((wordsUp key t k).getD k []) (turnW t ((wordsUp key t k).getD (k + 3) []) (k + 4))]
theorem wordsUp_succ (key t : List UInt8) (k : Nat) : wordsUp key t (k + 1) = wordsUp key t k ++ [xorL ((wordsUp key t k).getD k []) (turnW t ((wordsUp key t k).getD (k + 3) []) (k + 4))] := rfl
theorem turn0_len (t w : List UInt8) (r : Nat) : (turn0 t w r).length = 4 := by simp [turn0, subsL]
theorem wordsUp_len (key t : List UInt8) : ∀ k, (wordsUp key t k).length = k + 4
  | 0 => by simp [wordsUp, wordsInit]
  | k + 1 => by rw [wordsUp_succ, List.length_append, wordsUp_len key t k]; simp
theorem wordsUp_row (key t : List UInt8) (hk : key.length = 16) : ∀ (k i : Nat) (p : List UInt8), (wordsUp key t k)[i]? = some p → p.length = 4
  | 0, i, p, h => by
    simp only [wordsUp, wordsInit, List.getElem?_map, Option.map_eq_some_iff] at h
    obtain ⟨j, hj, rfl⟩ := h
    have := List.getElem?_eq_some_iff.1 hj
    obtain ⟨h1, h2⟩ := this
    simp at h1 h2
    simp [hk]
    omega
  | k + 1, i, p, h => by
    rw [wordsUp_succ] at h
    have hl := wordsUp_len key t k
    rcases Nat.lt_or_ge i (k + 4) with hi | hi
    · rw [List.getElem?_append_left (by omega)] at h
      exact wordsUp_row key t hk k i p h
    · rw [List.getElem?_append_right (by omega)] at h
      have hi0 : i - (wordsUp key t k).length = 0 := by
        have := (List.getElem?_eq_some_iff.1 h).1
        simp at this
        omega
      rw [hi0] at h
      simp only [List.getElem?_cons_zero, Option.some.injEq] at h
      subst h
      have g : ∀ j, j < k + 4 → ((wordsUp key t k).getD j []).length = 4 := fun j hj => by
        have h2 : (wordsUp key t k)[j]? = some ((wordsUp key t k).getD j []) := by rw [List.getD_eq_getElem?_getD, List.getElem?_eq_getElem (by omega)]; rfl
        exact wordsUp_row key t hk k j _ h2
      rw [xorL_len]
      · exact g k (by omega)
      · rw [g k (by omega)]
        unfold turnW
        split
        · exact turn0_len _ _ _
        · exact g (k + 3) (by omega)
/-- The rounds' keys. -/
def keyF (key t : List UInt8) (i : Nat) : List UInt8 := (wordsUp key t 40).getD (4 * i) [] ++ (wordsUp key t 40).getD (4 * i + 1) [] ++ (wordsUp key t 40).getD (4 * i + 2) [] ++ (wordsUp key t 40).getD (4 * i + 3) []
def keysL (key t : List UInt8) : List (List UInt8) := (List.range 11).map (keyF key t)
theorem word_len (key t : List UInt8) (hk : key.length = 16) (j : Nat) (hj : j < 44) : ((wordsUp key t 40).getD j []).length = 4 := by
  have hl := wordsUp_len key t 40
  have h2 : (wordsUp key t 40)[j]? = some ((wordsUp key t 40).getD j []) := by rw [List.getD_eq_getElem?_getD, List.getElem?_eq_getElem (by omega)]; rfl
  exact wordsUp_row key t hk 40 j _ h2
theorem keyF_len (key t : List UInt8) (hk : key.length = 16) (i : Nat) (hi : i < 11) : (keyF key t i).length = 16 := by
  unfold keyF
  rw [List.length_append, List.length_append, List.length_append, word_len key t hk _ (by omega), word_len key t hk _ (by omega), word_len key t hk _ (by omega), word_len key t hk _ (by omega)]

/-- A block behind i rounds. -/
def encUp (key t b : List UInt8) : Nat → List UInt8
  | 0 => xorL b (keyF key t 0)
  | i + 1 => xorL (if i + 1 < 10 then columnsL (rowsL (subsL t (encUp key t b i)) 1) [2, 3, 1, 1] else rowsL (subsL t (encUp key t b i)) 1) (keyF key t (i + 1))
def encL (key t b : List UInt8) : List UInt8 := encUp key t b 10
/-- A block that i rounds have been taken off. -/
def decUp (key t u b : List UInt8) : Nat → List UInt8
  | 0 => b
  | j + 1 => subsL u (rowsL (if 10 - j < 10 then columnsL (xorL (decUp key t u b j) (keyF key t (10 - j))) [14, 11, 13, 9] else xorL (decUp key t u b j) (keyF key t (10 - j))) 3)
def decL (key t u b : List UInt8) : List UInt8 := xorL (decUp key t u b 10) (keyF key t 0)
theorem rowsL_len (b : List UInt8) (m : Nat) : (rowsL b m).length = 16 := by simp [rowsL]
theorem columnsL_len (b f : List UInt8) : (columnsL b f).length = 16 := by simp [columnsL]
theorem encUp_len (key t b : List UInt8) (hk : key.length = 16) (hb : b.length = 16) (i : Nat) (hi : i < 11) : (encUp key t b i).length = 16 := by
  cases i with
  | zero => rw [encUp, xorL_len _ _ (by rw [keyF_len key t hk 0 (by omega), hb]), hb]
  | succ i =>
    have h : ∀ x y : List UInt8, x.length = 16 → y.length = 16 → (if i + 1 < 10 then x else y).length = 16 := fun x y hx hy => by split <;> assumption
    have h2 := h _ _ (columnsL_len (rowsL (subsL t (encUp key t b i)) 1) [2, 3, 1, 1]) (rowsL_len (subsL t (encUp key t b i)) 1)
    rw [encUp, xorL_len _ _ (by rw [keyF_len key t hk (i + 1) hi, h2]), h2]
end Go.Proofs.YthllaoeioddddaaGreat

/- The reference of layer 3 (aes) for the rounds' keys. Conditions: the slices' cells are readable, the key of 16 bytes, the table of 256. -/
namespace Go.Proofs.YthllaoeioddddaaGreat
open Go.RowKit
set_option linter.unusedVariables false

theorem cut_mul (A : Option Addr) (c k : Nat) (hk : k < 4) (hc : 16 ≤ c) (W : World) : (Instr.slice 23 (.slice A 16 c) (some (.int .i64 (4 * (k : Int)))) (some (.int .i64 (4 * (k : Int) + 4))) none).run Tryz.prog W = .ok (.slice (cutA A c (4 * k)) 4 (c - 4 * k)) W := by
  have h := cut_lh A 16 c (4 * k) (4 * k + 4) (by omega) (by omega) W
  rw [show ((4 * k : Nat) : Int) = 4 * (k : Int) by omega, show ((4 * k + 4 : Nat) : Int) = 4 * (k : Int) + 4 by omega, show 4 * k + 4 - 4 * k = 4 by omega] at h
  exact h
theorem rpow_lit (X N Z : Int) (x : UInt8) (n : Nat) (hx : (x.toNat : Int) = X) (hn : (n : Int) = N) (hm : n ≤ 18446744073709551615) (hz : ((powN x n).toNat : Int) = Z) (w : World) :
    Calls Tryz.prog 151 #[.int .u8 X, .int .u64 N] w fun e w' => e = .returned (.int .u8 Z) ∧ w = w' := by
  subst hx; subst hn; subst hz
  have h := rpow_any x n w hm
  rw [powB_eq] at h
  exact h
/-- A call that gives rows of the call's own. -/
def RetRows (ps : List (List UInt8)) (w : World) (e : Ending) (w' : World) : Prop :=
  ∃ A c, e = .returned (.slice A ps.length c) ∧ OwnR w' w.heap.size A ps.length c ps ∧ Below w.heap.size w w'
theorem wordsInit_at (key : List UInt8) (k : Nat) (hk : k < 4) : (wordsInit key)[k]? = some ((key.take (4 * k + 4)).drop (4 * k)) := by simp [wordsInit, hk]
theorem wordsInit_len (key : List UInt8) : (wordsInit key).length = 4 := by simp [wordsInit]

/-- j words in a row, from the word 4 i on. -/
def keyUp (ws : List (List UInt8)) (i : Nat) : Nat → List UInt8 | 0 => [] | j + 1 => keyUp ws i j ++ ws.getD (4 * i + j) []
theorem keyUp_four (key t : List UInt8) (i : Nat) : keyUp (wordsUp key t 40) i 4 = keyF key t i := by simp [keyUp, keyF]
theorem keysL_len (key t : List UInt8) : (keysL key t).length = 11 := by simp [keysL]
theorem keysL_at (key t : List UInt8) (i : Nat) (hi : i < 11) : (keysL key t)[i]? = some (keyF key t i) := by simp [keysL, hi]

set_option maxRecDepth 100000 in
set_option maxHeartbeats 4000000 in
theorem keys_any (A T : Option Addr) (c0 ct : Nat) (key t : List UInt8) (w : World) (h : RB w w.heap.size A 16 key) (hc0 : 16 ≤ c0) (ht : RB w w.heap.size T 256 t) :
    Calls Tryz.prog 136 #[.slice A 16 c0, .slice T 256 ct] w (RetRows (keysL key t) w) := by
  have hcut := cut_mul A c0
  have hkl := h.len
  have HKL := Lib.hid hkl
  have H := Lib.hid h
  have HT := Lib.hid ht
  obtain ⟨B, HB⟩ : ∃ B, Hid (B = w.heap.size) := ⟨_, Lib.hid rfl⟩
  have hcut2 := Lib.hid hcut
  clear hkl h ht hcut
  go_enter Tryz.func136, Tryz.ntmps136
  go_wp2_with fail
  have HW0 : Hid (OwnR (w.alloc (.cells #[] 23)) B (some ⟨w.heap.size, 0, none⟩) 0 0 ((wordsInit key).take 0)) := Lib.hid (by rw [HB.out]; exact OwnR.lit0 w w.heap.size (Nat.le_refl _))
  have HB0 : Hid (Below B w (w.alloc (.cells #[] 23))) := Lib.hid (by rw [HB.out]; exact below_alloc w _)
  go_loopw [5, 6] (fun v i wr => ∃ (k c1 : Nat) (A1 : Option Addr), k ≤ 4 ∧ i = .int .i64 k ∧ v = .slice A1 k c1 ∧ Hid (OwnR wr B A1 k c1 ((wordsInit key).take k)) ∧ Hid (Below B w wr)) (fun _ i _ => 4 - (intOf i).toNat)
  case atStart => exact ⟨0, 0, _, by omega, rfl, rfl, HW0, HB0⟩
  case round =>
    obtain ⟨k, c1, A1, hk, rfl, rfl, ho, hb⟩ := hrel
    clear HW0 HB0
    by_cases hlt : k < 4
    · have hcut := fun W => hcut2.out k hlt hc0 W
      have hsz := hb.out.size
      have hBw : B ≤ wr.heap.size := by rw [HB.out]; exact hsz
      have hpart := ((H.out.below (by rw [← HB.out]; exact hb.out)).part (i := 4 * k) (j := 4 * k + 4) (by omega) (by omega) hc0).alloc hsz (.cells #[] 5)
      rw [show 4 * k + 4 - 4 * k = 4 by omega] at hpart
      have HP := Lib.hid hpart
      clear hpart
      obtain ⟨q, HQ⟩ : ∃ q, Hid (q = (key.take (4 * k + 4)).drop (4 * k)) := ⟨_, Lib.hid rfl⟩
      rw [← HQ.out] at HP
      go_wp2_with (first
        | (at_builtin; refine wpList_app rfl (.tmp 19) (.tmp 26) rfl wr.heap.size (some ⟨wr.heap.size, 0, none⟩) 0 0 [] rfl (by exact OwnB.lit wr _ [] _ 0 rfl rfl (by unfold maxLen; omega) (Nat.le_refl _)) w.heap.size (cutA A c0 (4 * k)) 4 (c0 - 4 * k) q rfl (by exact HP.out) (by omega) (by simp) ?_; intro A2 c2 w2 hown2 _ hb2; have HB2 : Hid (Below wr.heap.size wr w2) := Lib.hid ((below_alloc wr _).trans hb2); have HQ2 : Hid (OwnB w2 wr.heap.size A2 4 c2 q) := Lib.hid (by simpa using hown2); clear hown2 hb2)
        | (at_builtin; refine wpList_appR rfl (.tmp 18) (.tmp 28) rfl B A1 k c1 ((wordsInit key).take k) rfl (by exact (ho.out.below HB2.out).below (below_alloc _ _)) w2.heap.size 1 A2 4 c2 q rfl (by exact cell_one _ _ _) (by exact (HQ2.out.base_le hBw).below (below_alloc _ _)) (by omega) (by exact Nat.le_trans hBw (Nat.le_trans HB2.out.size (by simp))) ?_; intro A3 c3 w3 hown3 hk3 hb3))
      go_roundw
      case rel =>
        refine ⟨k + 1, c3, A3, by omega, by go_num, rfl, Lib.hid ?_, Lib.hid (((hb.out.trans (HB2.out.mono hBw)).trans ((below_alloc w2 _).mono (Nat.le_trans hBw HB2.out.size))).trans hb3)⟩
        rw [take_row (wordsInit_at key k hlt), ← HQ.out]
        exact hown3
      case measure => simp [intOf]; omega
    · obtain rfl : 4 = k := by omega
      have HO4 : Hid (OwnR wr B A1 (0 + 4) c1 (wordsUp key t 0)) := Lib.hid (by
        have h := ho.out
        rw [List.take_of_length_le (by rw [wordsInit_len]; omega)] at h
        exact h)
      have e4 : ((4 : Nat) : Int) = 4 := rfl
      rw [e4]
      clear ho e4
      go_wp2_with fail
      go_loopw [5, 7] (fun v i ws => ∃ (k c1 : Nat) (A1 : Option Addr), k ≤ 40 ∧ i = .int .i64 ((k : Int) + 4) ∧ v = .slice A1 (k + 4) c1 ∧ Hid (OwnR ws B A1 (k + 4) c1 (wordsUp key t k)) ∧ Hid (Below B w ws)) (fun _ i _ => 44 - (intOf i).toNat)
      case atStart => exact ⟨0, c1, A1, by omega, rfl, rfl, HO4, hb⟩
      case round =>
        obtain ⟨k, c2, A2, hk2, rfl, rfl, ho, hbs⟩ := hrel
        clear HO4
        have hsz := hbs.out.size
        have hBw : B ≤ wr.heap.size := by rw [HB.out]; exact hsz
        by_cases hlt2 : k < 40
        · obtain ⟨g, p, Ai, ci, rfl, hgB, hp, hcp, hop⟩ := ho.out.at_ (k := k + 3) (by omega)
          obtain ⟨g', q, Aj, cj, eg, _, hq, hcq, hoq⟩ := ho.out.at_ (k := k) (by omega)
          injection eg with eg
          injection eg with eg
          subst eg
          rw [wordsUp_row key t HKL.out k _ p hp] at hcp hop
          rw [wordsUp_row key t HKL.out k _ q hq] at hcq hoq
          have HOP := Lib.hid hop
          have HOQ := Lib.hid hoq
          have HNX : Hid (wordsUp key t (k + 1) = wordsUp key t k ++ [xorL q (turnW t p (k + 4))]) := Lib.hid (by
            rw [wordsUp_succ]
            rw [show (wordsUp key t k).getD k [] = q by simp [List.getD, hq], show (wordsUp key t k).getD (k + 3) [] = p by simp [List.getD, hp]])
          clear hp hq hop hoq
          by_cases hm : (k + 4) % 4 = 0
          · have hmi : (((k : Int) + 4) % 4 == 0) = true := by rw [beq_iff_eq]; omega
            obtain ⟨s, HS⟩ : ∃ s : List UInt8, Hid (s = subsL t [p.getD 1 0, p.getD 2 0, p.getD 3 0, p.getD 0 0]) := ⟨_, Lib.hid rfl⟩
            obtain ⟨x0, HX0⟩ : ∃ x0, Hid (x0 = s.getD 0 0) := ⟨_, Lib.hid rfl⟩
            obtain ⟨r, HR, hr9⟩ : ∃ r : Nat, Hid (r = (k + 4) / 4 - 1) ∧ r ≤ 9 := ⟨_, Lib.hid rfl, by omega⟩
            obtain ⟨z, HZ⟩ : ∃ z, Hid (z = powN 2 r) := ⟨_, Lib.hid rfl⟩
            obtain ⟨y, HY⟩ : ∃ y, Hid (y = x0 ^^^ z) := ⟨_, Lib.hid rfl⟩
            have HTW : Hid (turnW t p (k + 4) = s.set 0 y) := Lib.hid (by unfold turnW turn0; rw [if_pos hm, ← HS.out, ← HX0.out, ← HR.out, ← HZ.out, ← HY.out])
            have hsl : s.length = 4 := by rw [HS.out]; simp [subsL]
            have hx0s : s[0]? = some x0 := by rw [HX0.out, List.getD_eq_getElem?_getD, List.getElem?_eq_getElem (by omega)]; rfl
            have HSL := Lib.hid hsl
            have HX0S := Lib.hid hx0s
            have hxy := xor_byte x0 z
            rw [← HY.out] at hxy
            have hpl := HOP.out.len
            obtain ⟨gp, rfl, _, hgp2⟩ := HOP.out.form (by omega)
            obtain ⟨a0, ha0⟩ := getAt p 4 0 hpl (by omega)
            obtain ⟨a1, ha1⟩ := getAt p 4 1 hpl (by omega)
            obtain ⟨a2, ha2⟩ := getAt p 4 2 hpl (by omega)
            obtain ⟨a3, ha3⟩ := getAt p 4 3 hpl (by omega)
            have q0 := HOP.out.cellAt ha0
            have q1 := HOP.out.cellAt ha1
            have q2 := HOP.out.cellAt ha2
            have q3 := HOP.out.cellAt ha3
            have HSA : Hid (s = subsL t [a1, a2, a3, a0]) := Lib.hid (by rw [HS.out]; simp [List.getD, ha0, ha1, ha2, ha3])
            have HWZ : Hid (IntKind.u64.wrap (IntKind.i64.wrap (IntKind.i64.wrap (Int.tdiv ((k : Int) + 4) 4) - 1)) = (r : Int)) := Lib.hid (by
              rw [Int.tdiv_eq_ediv_of_nonneg (by omega), IntWalk.i64_in (((k : Int) + 4) / 4) (by omega), IntWalk.i64_in _ (by omega), IntKind.wrap_u64, HR.out]
              omega)
            have HTR : Hid (RB wr wr.heap.size T 256 t) := Lib.hid ((HT.out.below (by rw [← HB.out]; exact hbs.out)).more hsz)
            clear hm hsl hx0s hpl ha0 ha1 ha2 ha3
            have keep2 : ∀ W : World, Below wr.heap.size wr W → W.cell? ⟨gp, 0, none⟩ = some (.int .u8 (a0.toNat : Int)) ∧ W.cell? ⟨gp, 1, none⟩ = some (.int .u8 (a1.toNat : Int)) ∧ W.cell? ⟨gp, 2, none⟩ = some (.int .u8 (a2.toNat : Int)) ∧ W.cell? ⟨gp, 3, none⟩ = some (.int .u8 (a3.toNat : Int)) := fun W hW =>
              ⟨(hW.cell (p := ⟨gp, 0, none⟩) hgp2).trans q0, (hW.cell (p := ⟨gp, 1, none⟩) hgp2).trans q1, (hW.cell (p := ⟨gp, 2, none⟩) hgp2).trans q2, (hW.cell (p := ⟨gp, 3, none⟩) hgp2).trans q3⟩
            have KEEP := Lib.hid keep2
            clear keep2
            go_wp2_with fail
            go_region_held3 (fun w' => w'.cell? ⟨gp, 0, none⟩ = some (.int .u8 (a0.toNat : Int)) ∧ w'.cell? ⟨gp, 1, none⟩ = some (.int .u8 (a1.toNat : Int)) ∧ w'.cell? ⟨gp, 2, none⟩ = some (.int .u8 (a2.toNat : Int)) ∧ w'.cell? ⟨gp, 3, none⟩ = some (.int .u8 (a3.toNat : Int))) (go_keep)
              (first | (go_at_call 139; refine (subs_any _ T 4 4 ct [a1, a2, a3, a0] t _ (by exact RB.lit wr.drew [a1, a2, a3, a0] _ 4 _ rfl rfl rfl) (by exact (HTR.out.alloc (Nat.le_refl _) _).more (by simp)) (by omega)).mono ?_; rintro e w2 ⟨A3, c3, rfl, ho3, hb3⟩; have HO3 := Lib.hid ho3; have HB3 : Hid (Below wr.heap.size wr w2) := Lib.hid ((Below.refl wr.heap.size wr).drew.trans (show Below wr.heap.size wr.drew w2 from (below_alloc wr.drew _).trans (hb3.mono (by simp)))); clear ho3 hb3; obtain ⟨k0, k1, k2, k3⟩ := KEEP.out w2 HB3.out))
            have ho3 := HO3.out
            rw [← HSA.out] at ho3
            have ho3b := ho3.base_le (base' := wr.heap.size) (by simp)
            obtain ⟨g3, rfl, hg3a, hg3b⟩ := ho3b.form (by omega)
            have c30 := ho3.cellAt HX0S.out
            have f30 := ho3.freeAt 0
            have HO4 := Lib.hid ho3b
            clear ho3 ho3b HO3 k0 k1 k2 k3
            have hxi := byte_lt x0
            have hzi := byte_lt z
            go_wp2_with fail
            go_region_with (go_at_call 151; rw [HWZ.out]; refine (rpow_lit 2 _ (z.toNat : Int) 2 r rfl rfl (by omega) (by rw [HZ.out]) _).mono ?_; rintro e w3 ⟨rfl, rfl⟩)
            all_goals
              have HB5 : Hid (Below wr.heap.size wr (w2.setCell ⟨g3, 0, none⟩ (.int .u8 (y.toNat : Int))).drew) := Lib.hid (HB3.out.setCell hg3a _).drew
              have HO5 : Hid (OwnB (w2.setCell ⟨g3, 0, none⟩ (.int .u8 (y.toNat : Int))).drew wr.heap.size (some ⟨g3, 0, none⟩) 4 c3 (s.set 0 y)) := Lib.hid (HO4.out.stored 0 y _ rfl).drew
              have hglt : g < wr.heap.size := World.block_lt_of_cell? wr _ hcq
              have hcq2 : w2.cell? ⟨g, k, none⟩ = some (.slice Aj 4 cj) := (HB3.out.cell (p := ⟨g, k, none⟩) hglt).trans hcq
              have hne1 : ¬ g3 = g := by omega
              have hne2 : ¬ g = g3 := by omega
              go_wp2_with fail
              refine (radd_any _ _ 4 _ _ q (s.set 0 y) _ (by exact (HOQ.out.below HB5.out).rb) (by exact HO5.out.rb) (by omega)).mono ?_
              rintro e w4 ⟨A5, c5, rfl, ho6, hb6⟩
              have HO6 := Lib.hid ho6
              have HB6 : Hid (Below wr.heap.size wr w4) := Lib.hid (HB5.out.trans (hb6.mono HB5.out.size))
              have hsz5 := HB5.out.size
              clear ho6 hb6
              go_wp2_with (at_builtin; refine wpList_appR rfl (.tmp 67) (.tmp 75) rfl B (some ⟨g, 0, none⟩) (k + 4) c2 (wordsUp key t k) rfl (by exact (ho.out.below HB6.out).below (below_alloc _ _)) w4.heap.size 1 A5 4 c5 (xorL q (s.set 0 y)) rfl (by exact cell_one _ _ _) (by exact (HO6.out.base_le (Nat.le_trans hBw hsz5)).below (below_alloc _ _)) (by omega) (by exact Nat.le_trans hBw (Nat.le_trans HB6.out.size (by simp))) ?_; intro A7 c7 w7 hown7 hk7 hb7)
              go_roundw
              case rel =>
                refine ⟨k + 1, c7, A7, by omega, by go_num, by rw [Nat.add_right_comm], Lib.hid ?_, Lib.hid (((hbs.out.trans (HB6.out.mono hBw)).trans ((below_alloc w4 _).mono (Nat.le_trans hBw HB6.out.size))).trans hb7)⟩
                rw [HNX.out, HTW.out, Nat.add_right_comm]
                exact hown7
              case measure => simp [intOf]; omega
          · have hmi : (((k : Int) + 4) % 4 == 0) = false := by rw [beq_eq_false_iff_ne]; omega
            have HTW : Hid (turnW t p (k + 4) = p) := Lib.hid (by unfold turnW; rw [if_neg hm])
            clear hm
            go_wp2_with fail
            refine (radd_any _ _ 4 _ _ q p _ (by exact HOQ.out.rb) (by exact HOP.out.rb) (by omega)).mono ?_
            rintro e w2 ⟨A3, c3, rfl, ho3, hb3⟩
            have HO3 := Lib.hid ho3
            have HB3 := Lib.hid hb3
            clear ho3 hb3
            go_wp2_with (at_builtin; refine wpList_appR rfl (.tmp 67) (.tmp 75) rfl B (some ⟨g, 0, none⟩) (k + 4) c2 (wordsUp key t k) rfl (by exact (ho.out.below HB3.out).below (below_alloc _ _)) w2.heap.size 1 A3 4 c3 (xorL q p) rfl (by exact cell_one _ _ _) (by exact (HO3.out.base_le hBw).below (below_alloc _ _)) (by omega) (by exact Nat.le_trans hBw (Nat.le_trans HB3.out.size (by simp))) ?_; intro A4 c4 w4 hown4 hk4 hb4)
            go_roundw
            case rel =>
              refine ⟨k + 1, c4, A4, by omega, by go_num, by rw [Nat.add_right_comm], Lib.hid ?_, Lib.hid (((hbs.out.trans (HB3.out.mono hBw)).trans ((below_alloc w2 _).mono (Nat.le_trans hBw HB3.out.size))).trans hb4)⟩
              rw [HNX.out, HTW.out, Nat.add_right_comm]
              exact hown4
            case measure => simp [intOf]; omega
        · obtain rfl : 40 = k := by omega
          have e40 : ((40 : Nat) : Int) + 4 = 44 := rfl
          have HW : Hid (OwnR wr B A2 44 c2 (wordsUp key t 40)) := Lib.hid ho.out
          have e44 : (40 : Nat) + 4 = 44 := rfl
          rw [e40, e44]
          clear e40 e44 ho
          obtain ⟨w0, ew0⟩ : ∃ w0 : World, w0 = wr := ⟨_, rfl⟩
          subst ew0
          go_wp2_with fail
          have HOUT : Hid (OwnR (w0.alloc (.cells #[] 23)) w0.heap.size (some ⟨w0.heap.size, 0, none⟩) 0 0 ((keysL key t).take 0)) := Lib.hid (OwnR.lit0 w0 _ (Nat.le_refl _))
          have HBO : Hid (Below w0.heap.size w0 (w0.alloc (.cells #[] 23))) := Lib.hid (below_alloc w0 _)
          go_loopw [9, 10] (fun v i ws => ∃ (i' c9 : Nat) (A9 : Option Addr), i' ≤ 11 ∧ i = .int .i64 i' ∧ v = .slice A9 i' c9 ∧ Hid (OwnR ws w0.heap.size A9 i' c9 ((keysL key t).take i')) ∧ Hid (Below w0.heap.size w0 ws)) (fun _ i _ => 11 - (intOf i).toNat)
          case atStart => exact ⟨0, 0, _, by omega, rfl, rfl, HOUT, HBO⟩
          case round =>
            obtain ⟨i, c9, A9, hi, rfl, rfl, hout, hbo⟩ := hrel
            clear HOUT HBO
            obtain ⟨wo, ewo⟩ : ∃ wo : World, wo = wr := ⟨_, rfl⟩
            subst ewo
            have hos := hbo.out.size
            by_cases hlt3 : i < 11
            · have hd11 : decide ((i : Int) < 11) = true := decide_eq_true (by omega)
              have HK0 : Hid (OwnB (wo.alloc (.cells #[] 5)) wo.heap.size (some ⟨wo.heap.size, 0, none⟩) 0 0 (keyUp (wordsUp key t 40) i 0)) := Lib.hid (OwnB.lit wo _ [] _ 0 rfl rfl (by unfold maxLen; omega) (Nat.le_refl _))
              have HWO : Hid (OwnR wo B A2 44 c2 (wordsUp key t 40)) := Lib.hid (HW.out.below hbo.out)
              go_wp2_with fail
              go_loopw [11, 12] (fun v j wi => ∃ (j' c11 : Nat) (A11 : Option Addr), j' ≤ 4 ∧ j = .int .i64 j' ∧ v = .slice A11 (4 * j') c11 ∧ Hid (OwnB wi wo.heap.size A11 (4 * j') c11 (keyUp (wordsUp key t 40) i j')) ∧ Hid (Below wo.heap.size wo wi)) (fun _ j _ => 4 - (intOf j).toNat)
              case atStart => exact ⟨0, 0, _, by omega, rfl, rfl, HK0, Lib.hid (below_alloc _ _)⟩
              case round =>
                obtain ⟨j, c11, A11, hj, rfl, rfl, hk, hbi⟩ := hrel
                clear HK0
                have hszi := hbi.out.size
                by_cases hlt4 : j < 4
                · obtain ⟨g, p, Ai, ci, rfl, hgB, hp, hcp, hop⟩ := (HWO.out.below hbi.out).at_ (k := 4 * i + j) (by omega)
                  rw [wordsUp_row key t HKL.out 40 _ p hp] at hcp hop
                  have HNX : Hid (keyUp (wordsUp key t 40) i (j + 1) = keyUp (wordsUp key t 40) i j ++ p) := Lib.hid (by
                    rw [keyUp, show (wordsUp key t 40).getD (4 * i + j) [] = p by simp [List.getD, hp]])
                  have hrb := hop.rb
                  clear hp hop
                  go_wp2_with (at_builtin; refine wpList_app rfl (.tmp 87) (.tmp 94) rfl wo.heap.size A11 (4 * j) c11 _ rfl (by exact hk.out) _ Ai 4 ci p rfl (by exact hrb) (by omega) hszi ?_; intro A12 c12 w12 hown12 _ hb12)
                  go_roundw
                  case rel =>
                    refine ⟨j + 1, c12, A12, by omega, by go_num, by rw [Nat.mul_succ], Lib.hid ?_, Lib.hid (hbi.out.trans hb12)⟩
                    rw [HNX.out, Nat.mul_succ]
                    exact hown12
                  case measure => simp [intOf]; omega
                · obtain rfl : 4 = j := by omega
                  have e4' : ((4 : Nat) : Int) = 4 := rfl
                  rw [e4']
                  clear e4'
                  have HK4 : Hid (OwnB wr wo.heap.size A11 (4 * 4) c11 (keyF key t i)) := Lib.hid (by rw [← keyUp_four]; exact hk.out)
                  go_wp2_with (at_builtin; refine wpList_appR rfl (.tmp 96) (.tmp 98) rfl w0.heap.size A9 i c9 ((keysL key t).take i) rfl (by exact (hout.out.below hbi.out).below (below_alloc _ _)) wr.heap.size 1 A11 (4 * 4) c11 (keyF key t i) rfl (by exact cell_one _ _ _) (by exact (HK4.out.base_le hos).below (below_alloc _ _)) (by omega) (by exact Nat.le_trans hos (Nat.le_trans hszi (by simp))) ?_; intro A13 c13 w13 hown13 hk13 hb13)
                  go_roundw
                  case rel =>
                    refine ⟨i + 1, c13, A13, by omega, by go_num, rfl, Lib.hid ?_, Lib.hid (((hbo.out.trans (hbi.out.mono hos)).trans ((below_alloc wr _).mono (Nat.le_trans hos hszi))).trans hb13)⟩
                    rw [take_row (keysL_at key t i hlt3)]
                    exact hown13
                  case measure => simp [intOf]; omega
            · obtain rfl : 11 = i := by omega
              go_wp2
              go_ret
              have ho2 := hout.out
              rw [List.take_of_length_le (by rw [keysL_len]; omega)] at ho2
              exact ⟨A9, c9, by rw [keysL_len]; rfl, by rw [keysL_len]; exact ho2.base_le hsz, by rw [← HB.out]; exact hbs.out.trans (hbo.out.mono hBw)⟩
end Go.Proofs.YthllaoeioddddaaGreat

/- The references of layer 3 (aes) for a whole block: With and Decrypt. Conditions: the slices' cells are readable, key and block of 16 bytes, With's table of 256. -/
namespace Go.Proofs.YthllaoeioddddaaGreat
open Go.RowKit
set_option linter.unusedVariables false

theorem columns_lit (A : Option Addr) (c0 : Nat) (l : List UInt8) (F0 F1 F2 F3 : Int) (f0 f1 f2 f3 : UInt8) (h0 : (f0.toNat : Int) = F0) (h1 : (f1.toNat : Int) = F1) (h2 : (f2.toNat : Int) = F2) (h3 : (f3.toNat : Int) = F3) (w : World) (h : RB w w.heap.size A 16 l) :
    Calls Tryz.prog 140 #[.slice A 16 c0, .agg #[.int .u8 F0, .int .u8 F1, .int .u8 F2, .int .u8 F3]] w (RetB 16 (columnsL l [f0, f1, f2, f3]) w) := by
  subst h0; subst h1; subst h2; subst h3; exact columns_any A c0 l f0 f1 f2 f3 w h
/-- The key of round i, read at a later world. -/
theorem key_at {wk w : World} {base : Nat} {A : Option Addr} {c : Nat} {key t : List UInt8} (hk : key.length = 16) (h : OwnR wk base A 11 c (keysL key t)) (hb : Below wk.heap.size wk w) (i : Nat) (hi : i < 11) :
    ∃ g Ai ci, A = some ⟨g, 0, none⟩ ∧ w.cell? ⟨g, i, none⟩ = some (.slice Ai 16 ci) ∧ RB w w.heap.size Ai 16 (keyF key t i) := by
  obtain ⟨g, p, Ai, ci, e, _, hp, hc, ho⟩ := (h.below hb).at_ hi
  rw [keysL_at key t i hi] at hp
  injection hp with hp
  subst hp
  rw [keyF_len key t hk i hi] at hc ho
  exact ⟨g, Ai, ci, e, hc, ho.rb⟩

set_option maxRecDepth 100000 in
set_option maxHeartbeats 4000000 in
theorem with_any (A K T : Option Addr) (c0 ck ct : Nat) (key t b : List UInt8) (w : World) (hk : RB w w.heap.size K 16 key) (hck : 16 ≤ ck) (hb : RB w w.heap.size A 16 b) (ht : RB w w.heap.size T 256 t) :
    Calls Tryz.prog 113 #[.slice K 16 ck, .slice A 16 c0, .slice T 256 ct] w (RetB 16 (encL key t b) w) := by
  have hkl := hk.len
  have hbl := hb.len
  have HKL := Lib.hid hkl
  have HBL := Lib.hid hbl
  have HK := Lib.hid hk
  have HB := Lib.hid hb
  have HT := Lib.hid ht
  clear hkl hbl hk hb ht
  go_enter Tryz.func113, Tryz.ntmps113
  go_wp2_with fail
  refine (keys_any _ _ _ _ key t _ (by exact HK.out) hck (by exact HT.out)).mono ?_
  rintro e wk ⟨AK, cK, rfl, hok, hbk⟩
  rw [keysL_len] at hok
  rw [keysL_len]
  have HOK := Lib.hid hok
  have HBK := Lib.hid hbk
  have hszk := hbk.size
  obtain ⟨gk, A0, ci0, rfl, hc0, hr0⟩ := key_at HKL.out hok (Below.refl _ _) 0 (by omega)
  have HR0 := Lib.hid hr0
  clear hok hbk hr0
  go_wp2_with fail
  refine (radd_any _ _ 16 _ _ b (keyF key t 0) _ (by exact HB.out.step HBK.out) (by exact HR0.out) (by omega)).mono ?_
  rintro e w1 ⟨A1, c1, rfl, ho1, hb1⟩
  have HO1 : Hid (OwnB w1 w.heap.size A1 16 c1 (encUp key t b 0)) := Lib.hid (ho1.base_le hszk)
  have HB1 := Lib.hid hb1
  clear ho1 hb1
  go_wp2_with fail
  go_loopw [8, 9] (fun v i wr => ∃ (j c8 : Nat) (A8 : Option Addr), j ≤ 10 ∧ i = .int .i64 ((j : Int) + 1) ∧ v = .slice A8 16 c8 ∧ Hid (OwnB wr w.heap.size A8 16 c8 (encUp key t b j)) ∧ Hid (Below wk.heap.size wk wr)) (fun _ i _ => 11 - (intOf i).toNat)
  case atStart => exact ⟨0, c1, A1, by omega, rfl, rfl, HO1, HB1⟩
  case round =>
    obtain ⟨j, c8, A8, hj, rfl, rfl, ho, hb⟩ := hrel
    clear HO1 HB1
    have hszr := hb.out.size
    have hsz : w.heap.size ≤ wr.heap.size := Nat.le_trans hszk hszr
    by_cases hlt : j < 10
    · have HTB : Hid (Below w.heap.size w wr) := Lib.hid (HBK.out.trans (hb.out.mono hszk))
      go_wp2_with fail
      refine (subs_any _ T 16 _ ct (encUp key t b j) t _ (by exact ho.out.rb) (by exact HT.out.step HTB.out) (by omega)).mono ?_
      rintro e w2 ⟨A2, c2, rfl, ho2, hb2⟩
      have HO2 := Lib.hid ho2
      have HB2 := Lib.hid hb2
      clear ho2 hb2
      go_wp2_with fail
      refine (rows_lit _ _ 1 1 (subsL t (encUp key t b j)) _ rfl (by exact HO2.out.rb) (by omega)).mono ?_
      rintro e w3 ⟨A3, c3, rfl, ho3, hb3⟩
      have HO3 := Lib.hid ho3
      have HB3 := Lib.hid (HB2.out.trans (hb3.mono HB2.out.size))
      clear ho3 hb3 HO2 HB2
      obtain ⟨gk2, Ai, ci, eg, hci, hri⟩ := key_at HKL.out HOK.out (hb.out.trans (HB3.out.mono hszr)) (j + 1) (by omega)
      injection eg with eg
      injection eg with eg
      subst eg
      have HRI := Lib.hid hri
      clear hri
      by_cases hlt9 : j + 1 < 10
      · have hd : decide ((j : Int) + 1 < 10) = true := decide_eq_true (by omega)
        have HN : Hid (encUp key t b (j + 1) = xorL (columnsL (rowsL (subsL t (encUp key t b j)) 1) [2, 3, 1, 1]) (keyF key t (j + 1))) := Lib.hid (by rw [encUp, if_pos hlt9])
        have hgl : gk < w3.heap.size := World.block_lt_of_cell? w3 _ hci
        go_wp2_with fail
        refine (columns_lit _ _ (rowsL (subsL t (encUp key t b j)) 1) 2 3 1 1 2 3 1 1 rfl rfl rfl rfl _ (by exact HO3.out.rb)).mono ?_
        rintro e w4 ⟨A4, c4, rfl, ho4, hb4⟩
        have HO4 := Lib.hid ho4
        have HB4 := Lib.hid hb4
        have hci4 : w4.cell? ⟨gk, j + 1, none⟩ = some (.slice Ai 16 ci) := (hb4.cell (p := ⟨gk, j + 1, none⟩) hgl).trans hci
        clear ho4 hb4
        go_wp2_with fail
        refine (radd_any _ _ 16 _ _ (columnsL (rowsL (subsL t (encUp key t b j)) 1) [2, 3, 1, 1]) (keyF key t (j + 1)) _ (by exact HO4.out.rb) (by exact HRI.out.step HB4.out) (by omega)).mono ?_
        rintro e w5 ⟨A5, c5, rfl, ho5, hb5⟩
        have HO5 := Lib.hid ho5
        have HB5 := Lib.hid (HB4.out.trans (hb5.mono HB4.out.size))
        clear ho5 hb5
        go_wp2_with fail
        go_roundw
        case rel =>
          have hs3 := HB3.out.size
          have hs4 := HB4.out.size
          refine ⟨j + 1, c5, A5, by omega, by go_num, rfl, Lib.hid ?_, Lib.hid ((hb.out.trans (HB3.out.mono hszr)).trans (HB5.out.mono (Nat.le_trans hszr hs3)))⟩
          rw [HN.out]
          exact HO5.out.base_le (by omega)
        case measure => simp [intOf]; omega
      · have hd : decide ((j : Int) + 1 < 10) = false := decide_eq_false (by omega)
        have HN : Hid (encUp key t b (j + 1) = xorL (rowsL (subsL t (encUp key t b j)) 1) (keyF key t (j + 1))) := Lib.hid (by rw [encUp, if_neg hlt9])
        go_wp2_with fail
        refine (radd_any _ _ 16 _ _ (rowsL (subsL t (encUp key t b j)) 1) (keyF key t (j + 1)) _ (by exact HO3.out.rb) (by exact HRI.out) (by omega)).mono ?_
        rintro e w5 ⟨A5, c5, rfl, ho5, hb5⟩
        have HO5 := Lib.hid ho5
        have HB5 := Lib.hid hb5
        clear ho5 hb5
        go_wp2_with fail
        go_roundw
        case rel =>
          have hs3 := HB3.out.size
          refine ⟨j + 1, c5, A5, by omega, by go_num, rfl, Lib.hid ?_, Lib.hid ((hb.out.trans (HB3.out.mono hszr)).trans (HB5.out.mono (Nat.le_trans hszr hs3)))⟩
          rw [HN.out]
          exact HO5.out.base_le (by omega)
        case measure => simp [intOf]; omega
    · obtain rfl : 10 = j := by omega
      go_wp2_with fail
      go_ret
      exact ⟨A8, c8, rfl, ho.out, HBK.out.trans (hb.out.mono hszk)⟩

end Go.Proofs.YthllaoeioddddaaGreat

