/- The reference of layer 6 (count): key streams, and texts turned. Conditions: the slices' cells are readable; lengths are small. -/
import Derived.Test.YtoaafjeknikniaaRefCount
import Derived.Test.YtoaafjeknikniaaRefAesAll
import Derived.Test.YtoaafjeknikniaaAesInv
import Derived.Test.YtoaafjeknikniaaXor
namespace Go.Proofs.Ytoaafjeknikniaa
open Go.RowKit
set_option linter.unusedVariables false

theorem aftL_len (l : List UInt8) (n : Nat) (hl : l.length = 16) : (aftL l n).length = 16 := by
  unfold aftL
  rw [List.length_append, List.length_take, putL_len]
  omega
/-- Block i of a key stream; the first k blocks; the first n bytes. -/
def blkL (key l : List UInt8) (i : Nat) : List UInt8 := encL key tableL (aftL l i)
def blksL (key l : List UInt8) : Nat → List UInt8 | 0 => [] | k + 1 => blksL key l k ++ blkL key l k
def strmL (key l : List UInt8) (n : Nat) : List UInt8 := (blksL key l ((n + 15) / 16)).take n
theorem blkL_len (key l : List UInt8) (i : Nat) (hk : key.length = 16) (hl : l.length = 16) : (blkL key l i).length = 16 := encL_len key tableL _ hk (aftL_len l i hl)
theorem blksL_len (key l : List UInt8) (hk : key.length = 16) (hl : l.length = 16) : ∀ k, (blksL key l k).length = 16 * k
  | 0 => rfl
  | k + 1 => by rw [blksL, List.length_append, blksL_len key l hk hl k, blkL_len key l k hk hl]; omega
theorem strmL_len (key l : List UInt8) (n : Nat) (hk : key.length = 16) (hl : l.length = 16) : (strmL key l n).length = n := by
  unfold strmL
  rw [List.length_take, blksL_len key l hk hl]
  omega
theorem OwnB.head {w : World} {base N c n : Nat} {A : Option Addr} {l : List UInt8} (h : OwnB w base A N c l) (hn : n ≤ N) (hA : ∃ g, A = some ⟨g, 0, none⟩) : OwnB w base A n c (l.take n) := by
  have hlen := h.len
  refine ⟨by rw [bvs_length, List.length_take]; omega, ?_⟩
  obtain ⟨g0, rfl⟩ := hA
  rcases h.2 with ⟨hv, h0⟩ | ⟨g, cap, cur, hv, hbg, hh, hnc, hcm, hsz, ht⟩
  · cases hv
  · injection hv with e1 e2 e3
    injection e1 with e1
    injection e1 with e1
    subst e1
    subst e3
    refine .inr ⟨g0, c, cur, rfl, hbg, hh, by omega, hcm, hsz, ?_⟩
    have : bvs (l.take n) = (bvs l).take n := by simp [bvs, List.map_take]
    rw [this, ← ht, Nat.mul_one, Nat.mul_one, List.take_take, Nat.min_eq_left hn]
theorem blksL_succ (key l : List UInt8) (k : Nat) : blksL key l (k + 1) = blksL key l k ++ blkL key l k := rfl
attribute [local irreducible] aftL encL tableL blksL blkL

set_option maxRecDepth 100000 in
set_option maxHeartbeats 2000000 in
theorem rstream_any (A0 A1 : Option Addr) (c0 c1 n : Nat) (key l : List UInt8) (w : World) (h0 : RB w w.heap.size A0 16 key) (hc0 : 16 ≤ c0) (h1 : RB w w.heap.size A1 16 l) (hn : n ≤ 1000000) :
    Calls Try.prog 16 #[.slice A0 16 c0, .slice A1 16 c1, .int .i64 (n : Int)] w fun e w' => ∃ g c, e = .returned (.slice (some ⟨g, 0, none⟩) n c) ∧ OwnB w' w.heap.size (some ⟨g, 0, none⟩) n c (strmL key l n) ∧ Below w.heap.size w w' := by
  have H0 := Lib.hid h0
  have H1 := Lib.hid h1
  have HC0 := Lib.hid hc0
  have ek := h0.len
  have el := h1.len
  clear h0 h1 hc0
  obtain ⟨m, HM⟩ : ∃ m, Hid (m = (n + 15) / 16) := ⟨_, Lib.hid rfl⟩
  have hm := HM.out
  have HSL : Hid (strmL key l n = (blksL key l m).take n) := Lib.hid (by unfold strmL; rw [HM.out])
  go_enter Try.func16, Try.ntmps16
  go_wp2_with fail
  refine (table_any _).mono ?_
  rintro e w1 ⟨AT, cT, rfl, ho1, hb1⟩
  obtain ⟨B1, HB⟩ : ∃ B1, Hid (B1 = w1.heap.size) := ⟨_, Lib.hid rfl⟩
  have hwB : w.heap.size ≤ B1 := by rw [HB.out]; exact hb1.size
  have HT1 : Hid (RB w1 B1 AT 256 tableL) := Lib.hid (by rw [HB.out]; exact ho1.rb)
  have HB1 := Lib.hid hb1
  clear ho1 hb1
  have HO0 : Hid (OwnB (w1.alloc (.cells #[] 5)) B1 (some ⟨B1, 0, none⟩) 0 0 (blksL key l 0)) := Lib.hid (by rw [show blksL key l 0 = [] by unfold blksL; rfl, HB.out]; exact OwnB.lit w1 w1.heap.size [] #[] 0 rfl rfl (by unfold maxLen; omega) (Nat.le_refl _))
  have hsB : B1 ≤ (w1.alloc (.cells #[] 5)).heap.size := by rw [HB.out]; simp
  go_wp2_with fail
  rw [← HB.out]
  go_loopw [8, 9] (fun v i wr => ∃ k g1 d1 : Nat, k ≤ m ∧ i = .int .u64 (k : Int) ∧ v = .slice (some ⟨g1, 0, none⟩) (16 * k) d1 ∧ Hid (OwnB wr B1 (some ⟨g1, 0, none⟩) (16 * k) d1 (blksL key l k)) ∧ Hid (RB wr B1 AT 256 tableL) ∧ Hid (Below w.heap.size w wr) ∧ B1 ≤ wr.heap.size) (fun _ i _ => m - (intOf i).toNat)
  case atStart => exact ⟨0, B1, 0, by omega, rfl, rfl, HO0, Lib.hid (HT1.out.below ((below_alloc w1 _).mono (by rw [HB.out]; exact Nat.le_refl _))), Lib.hid (bel_next HB1.out (below_alloc _ _)), hsB⟩
  case round =>
    obtain ⟨k, g1, d1, hk, rfl, rfl, ho, ht, hb, hB⟩ := hrel
    clear HO0 HT1 HB1 hsB
    by_cases hlt : k < m
    · have hd : decide (((16 * k : Nat) : Int) < (n : Int)) = true := decide_eq_true (by omega)
      have HBL : Hid (encL key tableL (aftL l k) = blkL key l k) := Lib.hid (by unfold blkL; rfl)
      have HBK := Lib.hid (blksL_succ key l k)
      go_wp2_with fail
      refine (rafter_any A1 c1 l k _ (H1.out.step hb.out) (by omega)).mono ?_
      rintro e w2 ⟨A2, c2, rfl, ho2, hb2⟩
      have HO2 := Lib.hid ho2
      have HB2 := Lib.hid hb2
      clear ho2 hb2
      go_wp2_with fail
      refine (with_any A2 A0 AT c2 c0 cT key tableL (aftL l k) _ (H0.out.step (hb.out.trans (HB2.out.mono hb.out.size))) HC0.out HO2.out.rb ((ht.out.below (HB2.out.mono hB)).more (Nat.le_trans hB HB2.out.size))).mono ?_
      rw [HBL.out]
      rintro e w3 ⟨A3, c3, rfl, ho3, hb3⟩
      have HO3 := Lib.hid ho3
      have HB3 := Lib.hid (bel_next HB2.out hb3)
      clear ho3 hb3 HO2 HB2
      go_wp2_with (at_builtin; refine wpList_app rfl (.tmp 18) (.tmp 24) rfl B1 (some ⟨g1, 0, none⟩) (16 * k) d1 (blksL key l k) rfl (by exact ho.out.below HB3.out) w3.heap.size A3 16 c3 (blkL key l k) rfl (by exact HO3.out.rb) (by omega) (by have h2 := HB3.out.size; omega) ?_; intro A4 d4 w4 ho4 _ hb4; obtain ⟨g4, rfl, _, _⟩ := OwnB.form ho4 (by omega); have HO4 := Lib.hid ho4; have HB4 := Lib.hid ((HB3.out.mono hB).trans hb4); have hs4 : B1 ≤ w4.heap.size := Nat.le_trans (Nat.le_trans hB HB3.out.size) hb4.size; clear ho4 hb4)
      go_roundw
      case rel => exact ⟨k + 1, g4, d4, by omega, by go_num, by rw [show 16 * (k + 1) = 16 * k + 16 by omega], Lib.hid (by rw [HBK.out, show 16 * (k + 1) = 16 * k + 16 by omega]; exact HO4.out), Lib.hid (ht.out.below HB4.out), Lib.hid (hb.out.trans (HB4.out.mono hwB)), hs4⟩
      case measure => simp [intOf]; omega
    · have hkm : k = m := by omega
      subst hkm
      have hd : decide (((16 * k : Nat) : Int) < (n : Int)) = false := decide_eq_false (by omega)
      have hcap := ho.out.cap.1
      have hcu : ∀ W : World, (Instr.slice 22 (.slice (some ⟨g1, 0, none⟩) (16 * k) d1) none (some (.int .i64 (n : Int))) none).run Try.prog W = .ok (.slice (some ⟨g1, 0, none⟩) n d1) W := by
        intro W
        have h := cut_h (some ⟨g1, 0, none⟩) (16 * k) d1 n (by omega) W
        rw [h]
        unfold cutA
        split
        · rfl
        · rw [Option.map_some, Addr.add_mid]
      go_wp2_with fail
      go_ret
      exact ⟨g1, d1, rfl, by rw [HSL.out]; exact (OwnB.head ho.out (by omega) ⟨g1, rfl⟩).base_le hwB, hb.out⟩
/-- A stream of which the first k bytes have been added to a text's. -/
def turnAt (k : Nat) (a b : List UInt8) : List UInt8 := xorL (a.take k) (b.take k) ++ a.drop k
theorem turnAt_zero (a b : List UInt8) : turnAt 0 a b = a := by simp [turnAt, xorL]
theorem turnAt_end (n : Nat) (a b : List UInt8) (ha : a.length = n) (hb : b.length = n) : turnAt n a b = xorL a b := by
  unfold turnAt
  rw [List.take_of_length_le (by omega), List.take_of_length_le (by omega), List.drop_of_length_le (by omega), List.append_nil]
theorem turnAt_get (n k : Nat) (a b : List UInt8) (x : UInt8) (ha : a.length = n) (hb : b.length = n) (hx : a[k]? = some x) : (turnAt k a b)[k]? = some x := by
  have hk := (List.getElem?_eq_some_iff.1 hx).1
  unfold turnAt
  have hl := xorTake_len ha hb (show k ≤ n by omega)
  rw [List.getElem?_append_right (by omega), hl, Nat.sub_self, List.getElem?_drop, Nat.add_zero, hx]
theorem turnAt_next (n k : Nat) (a b : List UInt8) (x y : UInt8) (ha : a.length = n) (hb : b.length = n) (hx : a[k]? = some x) (hy : b[k]? = some y) : (turnAt k a b).set k (x ^^^ y) = turnAt (k + 1) a b := by
  have hk := (List.getElem?_eq_some_iff.1 hx).1
  have hl := xorTake_len ha hb (show k ≤ n by omega)
  have hd : a.drop k = x :: a.drop (k + 1) := by
    have := List.getElem?_eq_getElem hk
    rw [hx] at this
    rw [List.drop_eq_getElem_cons hk, ← Option.some.inj this]
  unfold turnAt
  rw [take_snoc hx, take_snoc hy, xorL_snoc _ _ _ _ (by simp only [List.length_take]; omega), hd, List.set_append_right _ _ (by omega), hl, Nat.sub_self, List.append_assoc]
  rfl
attribute [local irreducible] turnAt strmL

set_option maxRecDepth 100000 in
set_option maxHeartbeats 2000000 in
theorem rturn_any (A0 A1 A2 : Option Addr) (c0 c1 n c2 : Nat) (key l t : List UInt8) (w : World) (h0 : RB w w.heap.size A0 16 key) (hc0 : 16 ≤ c0) (h1 : RB w w.heap.size A1 16 l) (h2 : RB w w.heap.size A2 n t) (hn : n ≤ 65535) :
    Calls Try.prog 14 #[.slice A0 16 c0, .slice A1 16 c1, .slice A2 n c2] w (RetBE n (xorL (strmL key l n) t) 0 w) := by
  have H2 := Lib.hid h2
  have ek := h0.len
  have el := h1.len
  have et := h2.len
  obtain ⟨s, HS⟩ : ∃ s, Hid (s = strmL key l n ∧ s.length = n) := ⟨_, Lib.hid ⟨rfl, strmL_len key l n ek el⟩⟩
  rw [← HS.out.1]
  have HST : Hid (Calls Try.prog 16 #[.slice A0 16 c0, .slice A1 16 c1, .int .i64 (n : Int)] w fun e w' => ∃ g c, e = .returned (.slice (some ⟨g, 0, none⟩) n c) ∧ OwnB w' w.heap.size (some ⟨g, 0, none⟩) n c s ∧ Below w.heap.size w w') := Lib.hid (by rw [HS.out.1]; exact rstream_any A0 A1 c0 c1 n key l w h0 hc0 h1 (by omega))
  have hg : decide ((n : Int) > 65535) = false := decide_eq_false (by omega)
  clear h0 h1 h2 hc0
  go_enter Try.func14, Try.ntmps14
  go_wp2_with fail
  refine HST.out.mono ?_
  rintro e w1 ⟨g1, d1, rfl, ho1, hb1⟩
  have HO1 : Hid (OwnB w1 w.heap.size (some ⟨g1, 0, none⟩) n d1 (turnAt 0 s t)) := Lib.hid (by rw [turnAt_zero]; exact ho1)
  have HB1 := Lib.hid hb1
  clear ho1 hb1 HST
  go_wp2_with fail
  go_loopw [9] (fun i wr => ∃ k : Nat, k ≤ n ∧ i = .int .i64 k ∧ Hid (OwnB wr w.heap.size (some ⟨g1, 0, none⟩) n d1 (turnAt k s t)) ∧ Hid (Below w.heap.size w wr)) (fun i _ => n - (intOf i).toNat)
  case atStart => exact ⟨0, by omega, rfl, HO1, HB1⟩
  case round =>
    obtain ⟨k, hk, rfl, ho, hb⟩ := hrel
    clear HO1 HB1
    by_cases hlt : k < n
    · obtain ⟨g2, o2, rfl, hg2, y, hy, hcy⟩ := (H2.out.below hb.out).at_ hlt
      obtain ⟨x, hx⟩ : ∃ x, s[k]? = some x := ⟨_, List.getElem?_eq_getElem (by have := HS.out.2; omega)⟩
      have hc0 := ho.out.cellAt (turnAt_get n k s t x HS.out.2 et hx)
      have hf0 := ho.out.freeAt k
      have HN := Lib.hid (turnAt_next n k s t x y HS.out.2 et hx hy)
      unfold bv at hc0
      have hg1 : w.heap.size ≤ g1 := by obtain ⟨g, e, h1, _⟩ := OwnB.form ho.out (by omega); injection e with e; injection e with e; omega
      clear hx hy
      go_wp2_with fail
      go_region
      all_goals
        go_wp2
        go_roundw
        case rel => exact ⟨k + 1, by omega, by go_num, Lib.hid (by rw [← HN.out]; exact ho.out.drew.stored k _ _ (by rw [xor_byte]; rfl)), Lib.hid (hb.out.drew.setCell (p := ⟨g1, k, none⟩) hg1 _)⟩
        case measure => simp [intOf]; omega
    · have hkn : k = n := by omega
      subst hkn
      have h := ho.out
      rw [turnAt_end k s t HS.out.2 et] at h
      go_wp2_with fail
      go_ret2
      exact ⟨_, _, rfl, h, hb.out⟩
end Go.Proofs.Ytoaafjeknikniaa
