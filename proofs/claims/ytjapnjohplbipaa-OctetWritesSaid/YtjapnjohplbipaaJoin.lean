/- octet.Join and the reference's Join give the bytes of all parts in new memory; Long tells whether rows are more bytes than so many. Condition: the rows' cells are readable, and fewer than 2^46 bytes together. -/
import Derived.Test.YtjapnjohplbipaaXor
namespace Go.Proofs.Ytjapnjohplbipaa
open Go.RowKit
set_option linter.unusedVariables false

/-- The slice value at A of length n reads as the rows ps. -/
def RR (w : World) (B : Nat) (A : Option Addr) (n : Nat) (ps : List (List UInt8)) : Prop :=
  ps.length = n ∧ (0 < n → ∃ b o, A = some ⟨b, o, none⟩ ∧ b < B ∧ ∀ i p, ps[i]? = some p → ∃ Ai ci, w.cell? ⟨b, o + i, none⟩ = some (.slice Ai p.length ci) ∧ RB w B Ai p.length p)
section
variable {w w' : World} {B n : Nat} {A : Option Addr} {ps : List (List UInt8)}
theorem RR.len (h : RR w B A n ps) : ps.length = n := h.1
theorem RR.keep (h : RR w B A n ps) (hk : ∀ p : Addr, p.block < B → w'.cell? p = w.cell? p) : RR w' B A n ps :=
  ⟨h.1, fun hn => by
    obtain ⟨b, o, e, hb, hc⟩ := h.2 hn
    refine ⟨b, o, e, hb, fun i p hp => ?_⟩
    obtain ⟨Ai, ci, h1, h2⟩ := hc i p hp
    exact ⟨Ai, ci, (hk _ hb).trans h1, h2.keep hk⟩⟩
theorem RR.below (h : RR w B A n ps) (hb : Below B w w') : RR w' B A n ps := h.keep fun _ hp => hb.cell hp
theorem RR.drew (h : RR w B A n ps) : RR w.drew B A n ps := h
theorem RR.at_ {k : Nat} (h : RR w B A n ps) (hk : k < n) : ∃ b o, A = some ⟨b, o, none⟩ ∧ b < B ∧ ∃ p, ps[k]? = some p ∧ ∃ Ai ci, w.cell? ⟨b, o + k, none⟩ = some (.slice Ai p.length ci) ∧ RB w B Ai p.length p := by
  obtain ⟨b, o, e, hb, hc⟩ := h.2 (by omega)
  have hl : k < ps.length := by rw [h.1]; exact hk
  exact ⟨b, o, e, hb, ps[k], List.getElem?_eq_getElem hl, hc k _ (List.getElem?_eq_getElem hl)⟩
end
/-- Rows that a call lays out for a variadic function: of each part its address, its capacity, its bytes. -/
theorem RR.lit (w : World) (rows : List (Option Addr × Nat × List UInt8)) (cs : Array Value) (e : TypeId) (n g : Nat) (hc : cs = (rows.map fun r => Value.slice r.1 r.2.2.length r.2.1).toArray) (hn : rows.length = n) (hg : g = w.heap.size)
    (hr : ∀ r ∈ rows, RB w w.heap.size r.1 r.2.2.length r.2.2) : RR (w.alloc (.cells cs e)) (w.alloc (.cells cs e)).heap.size (some ⟨g, 0, none⟩) n (rows.map fun r => r.2.2) := by
  subst hn
  subst hg
  refine ⟨by simp, fun _ => ⟨w.heap.size, 0, rfl, by simp, fun i p hp => ?_⟩⟩
  rw [List.getElem?_map] at hp
  obtain ⟨r, hri, rfl⟩ := Option.map_eq_some_iff.1 hp
  refine ⟨r.1, r.2.1, ?_, (hr r (List.mem_of_getElem? hri)).step (below_alloc _ _)⟩
  subst hc
  rw [cell_of_row (w.alloc (.cells _ e)) w.heap.size (0 + i) _ e (0, 0) (heap_alloc_new w _)]
  simp [hri]
/-- All bytes of the rows together. -/
def totL (ps : List (List UInt8)) : Nat := (ps.map List.length).sum
theorem totL_snoc (ps : List (List UInt8)) (p : List UInt8) : totL (ps ++ [p]) = totL ps + p.length := by simp [totL]
theorem totL_flat (ps : List (List UInt8)) : ps.flatten.length = totL ps := by simp [totL, List.length_flatten]
theorem totL_app (a b : List (List UInt8)) : totL (a ++ b) = totL a + totL b := by simp [totL]
theorem totL_take (ps : List (List UInt8)) (k : Nat) : totL (ps.take k) ≤ totL ps := by
  have := totL_app (ps.take k) (ps.drop k)
  rw [List.take_append_drop] at this
  omega
theorem take_row {ps : List (List UInt8)} {k : Nat} {p : List UInt8} (h : ps[k]? = some p) : ps.take (k + 1) = ps.take k ++ [p] := by
  rw [List.take_add_one, h]; rfl
theorem totL_step {ps : List (List UInt8)} {k : Nat} {p : List UInt8} (h : ps[k]? = some p) : totL (ps.take (k + 1)) = totL (ps.take k) + p.length := by rw [take_row h, totL_snoc]
theorem flat_step {ps : List (List UInt8)} {k : Nat} {p : List UInt8} (h : ps[k]? = some p) : (ps.take (k + 1)).flatten = (ps.take k).flatten ++ p := by rw [take_row h]; simp

set_option maxHeartbeats 1000000 in
theorem join_any (A : Option Addr) (n c : Nat) (ps : List (List UInt8)) (w : World) (h : RR w w.heap.size A n ps) (hn : n ≤ maxLen) (hm : totL ps ≤ 70368744177664) :
    Calls Try.prog 23 #[.slice A n c] w (RetB (totL ps) ps.flatten w) := by
  unfold maxLen at hn
  go_enter Try.func23, Try.ntmps23
  go_wp2
  go_loop [3, 5, 11] (fun v _ i => ∃ k : Nat, k ≤ n ∧ i = .int .i64 k ∧ v = .int .i64 (totL (ps.take k) : Int)) (fun _ _ i => n - (intOf i).toNat)
  case atStart => exact ⟨0, Nat.zero_le _, rfl, rfl⟩
  case round =>
    obtain ⟨k, hk, rfl, rfl⟩ := hrel
    have htk := totL_take ps k
    by_cases hlt : k < n
    · obtain ⟨b, o, rfl, hb, p, hp, Ai, ci, hc, hr⟩ := h.at_ hlt
      have htk1 := totL_take ps (k + 1)
      have hts := totL_step hp
      have hle : totL (ps.take k) + p.length ≤ 70368744177664 := by omega
      have HT := Lib.hid hts
      clear hp hts htk1
      go_wp2
      go_round
      case rel => exact ⟨k + 1, by omega, by go_num, by rw [HT.out]; go_num⟩
      case measure => simp [intOf]; omega
    · obtain rfl : k = n := by omega
      have hall : totL (ps.take k) = totL ps := by rw [List.take_of_length_le (by have := h.len; omega)]
      rw [hall]
      clear hall
      go_wp2_with (first
        | (at_make; refine wpList_mk0 rfl _ _ rfl w.heap.size .i64 .i64 _ (totL ps) rfl rfl rfl (by omega) (Nat.le_refl _) ?_; intro w1 hown1 hb1))
      go_loopw [6, 8, 24] (fun v _ i wr => ∃ (j c1 : Nat) (A1 : Option Addr), j ≤ k ∧ i = .int .i64 j ∧ v = .slice A1 (totL (ps.take j)) c1 ∧ OwnB wr w.heap.size A1 (totL (ps.take j)) c1 (ps.take j).flatten ∧ Below w.heap.size w wr) (fun _ _ i _ => k - (intOf i).toNat)
      case atStart => exact ⟨0, _, _, Nat.zero_le _, rfl, rfl, hown1, hb1⟩
      case round =>
        obtain ⟨j, c1, A1, hj, rfl, rfl, hown, hbel⟩ := hrel
        have hwr := hbel.size
        have htk := totL_take ps j
        by_cases hlt : j < k
        · obtain ⟨b, o, rfl, hb, p, hp, Ai, ci, hc, hr⟩ := (h.below hbel).at_ hlt
          have htk1 := totL_take ps (j + 1)
          have hts := totL_step hp
          have hle : totL (ps.take j) + p.length ≤ 70368744177664 := by omega
          have HT := Lib.hid hts
          have HF := Lib.hid (flat_step hp)
          clear hp hts htk1
          go_wp2_with (first
            | (at_builtin; refine wpList_app rfl (.tmp 28) (.tmp 29) rfl w.heap.size _ _ _ _ rfl hown w.heap.size Ai p.length ci p rfl hr (by omega) hwr ?_; intro A2 c2 w2 hown2 _ hb2))
          go_roundw
          case rel => exact ⟨j + 1, c2, A2, by omega, by go_num, by rw [HT.out], by rw [HT.out, HF.out]; exact hown2, hbel.trans hb2⟩
          case measure => simp [intOf]; omega
        · obtain rfl : j = k := by omega
          rw [List.take_of_length_le (by have := h.len; omega)] at hown
          go_wp2
          go_ret
          have hfin : RetB (totL ps) ps.flatten w (.returned (.slice A1 (totL (ps.take j)) c1)) wr := by
            rw [List.take_of_length_le (by have := h.len; omega)]
            exact ⟨A1, c1, rfl, hown, hbel⟩
          exact hfin

set_option maxHeartbeats 1000000 in
theorem rjoin_any (A : Option Addr) (n c : Nat) (ps : List (List UInt8)) (w : World) (h : RR w w.heap.size A n ps) (hn : n ≤ maxLen) (hm : totL ps ≤ 70368744177664) :
    Calls Try.prog 24 #[.slice A n c] w (RetB (totL ps) ps.flatten w) := by
  unfold maxLen at hn
  go_enter Try.func24, Try.ntmps24
  go_wp2
  go_loopw [3, 4] (fun v i wr => ∃ (j c1 : Nat) (A1 : Option Addr), j ≤ n ∧ i = .int .i64 j ∧ v = .slice A1 (totL (ps.take j)) c1 ∧ OwnB wr w.heap.size A1 (totL (ps.take j)) c1 (ps.take j).flatten ∧ Below w.heap.size w wr) (fun _ i _ => n - (intOf i).toNat)
  case atStart => exact ⟨0, _, _, Nat.zero_le _, rfl, rfl, OwnB.lit w _ [] #[] 0 rfl rfl (by unfold maxLen; omega) (Nat.le_refl _), (Below.refl _ _).alloc (Nat.le_refl _) _⟩
  case round =>
    obtain ⟨j, c1, A1, hj, rfl, rfl, hown, hbel⟩ := hrel
    have hwr := hbel.size
    have htk := totL_take ps j
    by_cases hlt : j < n
    · obtain ⟨b, o, rfl, hb, p, hp, Ai, ci, hc, hr⟩ := (h.below hbel).at_ hlt
      have htk1 := totL_take ps (j + 1)
      have hts := totL_step hp
      have hle : totL (ps.take j) + p.length ≤ 70368744177664 := by omega
      have HT := Lib.hid hts
      have HF := Lib.hid (flat_step hp)
      clear hp hts htk1
      go_wp2_with (first
        | (at_builtin; refine wpList_app rfl (.tmp 12) (.tmp 16) rfl w.heap.size _ _ _ _ rfl hown w.heap.size Ai p.length ci p rfl hr (by omega) hwr ?_; intro A2 c2 w2 hown2 _ hb2))
      go_roundw
      case rel => exact ⟨j + 1, c2, A2, by omega, by go_num, by rw [HT.out], by rw [HT.out, HF.out]; exact hown2, hbel.trans hb2⟩
      case measure => simp [intOf]; omega
    · obtain rfl : j = n := by omega
      rw [List.take_of_length_le (by have := h.len; omega)] at hown
      go_wp2
      go_ret
      have hfin : RetB (totL ps) ps.flatten w (.returned (.slice A1 (totL (ps.take j)) c1)) wr := by
        rw [List.take_of_length_le (by have := h.len; omega)]
        exact ⟨A1, c1, rfl, hown, hbel⟩
      exact hfin

/-- Are there more rows than so many, or more bytes? -/
def longB (ps : List (List UInt8)) (m : Nat) : Bool := decide (m < ps.length ∨ m < totL ps)
set_option maxHeartbeats 1000000 in
theorem long_any (A : Option Addr) (n c m : Nat) (ps : List (List UInt8)) (w : World) (h : RR w w.heap.size A n ps) (hn : n ≤ maxLen) (hm : m ≤ 1000000000) (hp0 : ∀ p ∈ ps, p.length ≤ maxLen) :
    Calls Try.prog 18 #[.slice A n c, .int .i64 (m : Int)] w fun e w' => e = .returned (.bool (longB ps m)) ∧ w = w' := by
  unfold maxLen at hn
  by_cases hbig : m < n
  · go_enter Try.func18, Try.ntmps18
    go_wp2
    go_ret
    exact ⟨ret1b (by unfold longB; rw [decide_eq_true]; left; rw [h.len]; exact hbig), rfl⟩
  · go_enter Try.func18, Try.ntmps18
    go_wp2
    go_loop [5, 6] (fun v i => ∃ k : Nat, k ≤ n ∧ i = .int .i64 k ∧ v = .int .i64 (totL (ps.take k) : Int) ∧ totL (ps.take k) ≤ m) (fun _ i => n - (intOf i).toNat)
    case atStart => exact ⟨0, Nat.zero_le _, rfl, rfl, Nat.zero_le _⟩
    case round =>
      obtain ⟨k, hk, rfl, rfl, htm⟩ := hrel
      by_cases hlt : k < n
      · obtain ⟨b, o, rfl, hb, p, hp, Ai, ci, hc, hr⟩ := h.at_ hlt
        have htk1 := totL_take ps (k + 1)
        have hts := totL_step hp
        have hpl := hp0 p (List.mem_of_getElem? hp)
        unfold maxLen at hpl
        have HT := Lib.hid hts
        have HK := Lib.hid htk1
        clear hp hts htk1
        by_cases h1 : m < p.length
        · go_wp2
          go_ret
          exact ⟨ret1b (by unfold longB; rw [decide_eq_true]; right; have := HT.out; have := HK.out; omega), rfl⟩
        · by_cases h2 : m < totL (ps.take k) + p.length
          · go_wp2
            go_ret
            exact ⟨ret1b (by unfold longB; rw [decide_eq_true]; right; have := HT.out; have := HK.out; omega), rfl⟩
          · go_wp2
            go_round
            case rel => exact ⟨k + 1, by omega, by go_num, by rw [HT.out]; go_num, by rw [HT.out]; omega⟩
            case measure => simp [intOf]; omega
      · obtain rfl : k = n := by omega
        go_wp2
        go_ret
        exact ⟨ret1b (by
          unfold longB
          rw [decide_eq_false]
          rw [List.take_of_length_le (by have := h.len; omega)] at htm
          have := h.len
          omega), rfl⟩
end Go.Proofs.Ytjapnjohplbipaa
