/- What the references share on bytes: SameBytes compares them, CopyBytes copies them. Condition: the slices' cells are readable. -/
import Derived.Test.YtocbdgkehgmahaaBytes
namespace Go.Proofs.Ytocbdgkehgmahaa
open Go.RowKit
set_option linter.unusedVariables false

end Go.Proofs.Ytocbdgkehgmahaa

/- Rows of bytes in memory ([][]byte): a slice value that reads as a list of lists. Nothing is claimed of the program here. -/
namespace Go.Proofs.Ytocbdgkehgmahaa
open Go.RowKit
set_option linter.unusedVariables false

/-- The slice value at A of length n reads as the rows ps. -/
def RR (w : World) (B : Nat) (A : Option Addr) (n : Nat) (ps : List (List UInt8)) : Prop :=
  ps.length = n ∧ (0 < n → ∃ b o, A = some ⟨b, o, none⟩ ∧ b < B ∧ ∀ i p, ps[i]? = some p → ∃ Ai ci, w.cell? ⟨b, o + i, none⟩ = some (.slice Ai p.length ci) ∧ RB w B Ai p.length p)
section
variable {w w' : World} {B n : Nat} {A : Option Addr} {ps : List (List UInt8)}
theorem RR.len (h : RR w B A n ps) : ps.length = n := h.1
theorem RR.keep (h : RR w B A n ps) (hk : ∀ p : Addr, p.block < B → w'.cell? p = w.cell? p) : RR w' B A n ps :=
  ⟨h.1, fun hn => by
    obtain ⟨b, o, e, hb, hc⟩ := h.2 hn
    refine ⟨b, o, e, hb, fun i p hp => ?_⟩
    obtain ⟨Ai, ci, h1, h2⟩ := hc i p hp
    exact ⟨Ai, ci, (hk _ hb).trans h1, h2.keep hk⟩⟩
theorem RR.below (h : RR w B A n ps) (hb : Below B w w') : RR w' B A n ps := h.keep fun _ hp => hb.cell hp
theorem RR.drew (h : RR w B A n ps) : RR w.drew B A n ps := h
theorem RR.at_ {k : Nat} (h : RR w B A n ps) (hk : k < n) : ∃ b o, A = some ⟨b, o, none⟩ ∧ b < B ∧ ∃ p, ps[k]? = some p ∧ ∃ Ai ci, w.cell? ⟨b, o + k, none⟩ = some (.slice Ai p.length ci) ∧ RB w B Ai p.length p := by
  obtain ⟨b, o, e, hb, hc⟩ := h.2 (by omega)
  have hl : k < ps.length := by rw [h.1]; exact hk
  exact ⟨b, o, e, hb, ps[k], List.getElem?_eq_getElem hl, hc k _ (List.getElem?_eq_getElem hl)⟩
end
theorem RR.more22 {w : World} {B B' n : Nat} {A : Option Addr} {ps : List (List UInt8)} (h : RR w B A n ps) (hB : B ≤ B') : RR w B' A n ps :=
  ⟨h.1, fun hn => by
    obtain ⟨b, o, e, hb, hc⟩ := h.2 hn
    refine ⟨b, o, e, by omega, fun i p hp => ?_⟩
    obtain ⟨Ai, ci, k1, k2⟩ := hc i p hp
    exact ⟨Ai, ci, k1, k2.more hB⟩⟩
/-- Rows that a call lays out for a variadic function: of each part its address, its capacity, its bytes. -/
theorem RR.lit (w : World) (rows : List (Option Addr × Nat × List UInt8)) (cs : Array Value) (e : TypeId) (n g : Nat) (hc : cs = (rows.map fun r => Value.slice r.1 r.2.2.length r.2.1).toArray) (hn : rows.length = n) (hg : g = w.heap.size)
    (hr : ∀ r ∈ rows, RB w w.heap.size r.1 r.2.2.length r.2.2) : RR (w.alloc (.cells cs e)) (w.alloc (.cells cs e)).heap.size (some ⟨g, 0, none⟩) n (rows.map fun r => r.2.2) := by
  subst hn
  subst hg
  refine ⟨by simp, fun _ => ⟨w.heap.size, 0, rfl, by simp, fun i p hp => ?_⟩⟩
  rw [List.getElem?_map] at hp
  obtain ⟨r, hri, rfl⟩ := Option.map_eq_some_iff.1 hp
  refine ⟨r.1, r.2.1, ?_, (hr r (List.mem_of_getElem? hri)).step (below_alloc _ _)⟩
  subst hc
  rw [cell_of_row (w.alloc (.cells _ e)) w.heap.size (0 + i) _ e (0, 0) (heap_alloc_new w _)]
  simp [hri]
/-- All bytes of the rows together. -/
def totL (ps : List (List UInt8)) : Nat := (ps.map List.length).sum
theorem totL_snoc (ps : List (List UInt8)) (p : List UInt8) : totL (ps ++ [p]) = totL ps + p.length := by simp [totL]
theorem totL_flat (ps : List (List UInt8)) : ps.flatten.length = totL ps := by simp [totL, List.length_flatten]
theorem totL_app (a b : List (List UInt8)) : totL (a ++ b) = totL a + totL b := by simp [totL]
theorem totL_take (ps : List (List UInt8)) (k : Nat) : totL (ps.take k) ≤ totL ps := by
  have := totL_app (ps.take k) (ps.drop k)
  rw [List.take_append_drop] at this
  omega
theorem take_row {ps : List (List UInt8)} {k : Nat} {p : List UInt8} (h : ps[k]? = some p) : ps.take (k + 1) = ps.take k ++ [p] := by
  rw [List.take_add_one, h]; rfl
theorem totL_step {ps : List (List UInt8)} {k : Nat} {p : List UInt8} (h : ps[k]? = some p) : totL (ps.take (k + 1)) = totL (ps.take k) + p.length := by rw [take_row h, totL_snoc]
theorem flat_step {ps : List (List UInt8)} {k : Nat} {p : List UInt8} (h : ps[k]? = some p) : (ps.take (k + 1)).flatten = (ps.take k).flatten ++ p := by rw [take_row h]; simp

end Go.Proofs.Ytocbdgkehgmahaa

/- What the references share on rows of bytes: Long tells whether they are more than so many. Condition: the rows' cells are readable. -/
namespace Go.Proofs.Ytocbdgkehgmahaa
open Go.RowKit
set_option linter.unusedVariables false

/-- Are there more rows than so many, or more bytes? -/
def longB (ps : List (List UInt8)) (m : Nat) : Bool := decide (m < ps.length ∨ m < totL ps)
set_option maxHeartbeats 1000000 in
theorem long_any (A : Option Addr) (n c m : Nat) (ps : List (List UInt8)) (w : World) (h : RR w w.heap.size A n ps) (hn : n ≤ maxLen) (hm : m ≤ 1000000000) (hp0 : ∀ p ∈ ps, p.length ≤ maxLen) :
    Calls Try.prog 19 #[.slice A n c, .int .i64 (m : Int)] w fun e w' => e = .returned (.bool (longB ps m)) ∧ w = w' := by
  unfold maxLen at hn
  by_cases hbig : m < n
  · go_enter Try.func19, Try.ntmps19
    go_wp2
    go_ret
    exact ⟨ret1b (by unfold longB; rw [decide_eq_true]; left; rw [h.len]; exact hbig), rfl⟩
  · go_enter Try.func19, Try.ntmps19
    go_wp2
    go_loop [5, 6] (fun v i => ∃ k : Nat, k ≤ n ∧ i = .int .i64 k ∧ v = .int .i64 (totL (ps.take k) : Int) ∧ totL (ps.take k) ≤ m) (fun _ i => n - (intOf i).toNat)
    case atStart => exact ⟨0, Nat.zero_le _, rfl, rfl, Nat.zero_le _⟩
    case round =>
      obtain ⟨k, hk, rfl, rfl, htm⟩ := hrel
      by_cases hlt : k < n
      · obtain ⟨b, o, rfl, hb, p, hp, Ai, ci, hc, hr⟩ := h.at_ hlt
        have htk1 := totL_take ps (k + 1)
        have hts := totL_step hp
        have hpl := hp0 p (List.mem_of_getElem? hp)
        unfold maxLen at hpl
        have HT := Lib.hid hts
        have HK := Lib.hid htk1
        clear hp hts htk1
        by_cases h1 : m < p.length
        · go_wp2
          go_ret
          exact ⟨ret1b (by unfold longB; rw [decide_eq_true]; right; have := HT.out; have := HK.out; omega), rfl⟩
        · by_cases h2 : m < totL (ps.take k) + p.length
          · go_wp2
            go_ret
            exact ⟨ret1b (by unfold longB; rw [decide_eq_true]; right; have := HT.out; have := HK.out; omega), rfl⟩
          · go_wp2
            go_round
            case rel => exact ⟨k + 1, by omega, by go_num, by rw [HT.out]; go_num, by rw [HT.out]; omega⟩
            case measure => simp [intOf]; omega
      · obtain rfl : k = n := by omega
        go_wp2
        go_ret
        exact ⟨ret1b (by
          unfold longB
          rw [decide_eq_false]
          rw [List.take_of_length_le (by have := h.len; omega)] at htm
          have := h.len
          omega), rfl⟩
end Go.Proofs.Ytocbdgkehgmahaa

