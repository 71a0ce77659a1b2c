/- The reference of layer 6 (count): the block behind so many steps. Condition: the block's sixteen cells are readable. -/
import Derived.Test.YthllaoeioddddaaGreatOctAll
import Derived.Test.YthllaoeioddddaaGreatRefAesAll
import Derived.Test.YthllaoeioddddaaGreatAesInvW
namespace Go.Proofs.YthllaoeioddddaaGreat
open Go.RowKit
set_option linter.unusedVariables false

/-- The number in a block's last four bytes, n steps on; the block with it. -/
def aftN (l : List UInt8) (n : Nat) : Nat := (numL (l.drop 12) + n) % 2 ^ 32
def aftL (l : List UInt8) (n : Nat) : List UInt8 := l.take 12 ++ putL (aftN l n) 4
/-- What After's loop has written when j bytes are still to go. -/
def cntAt (V : Nat) (l : List UInt8) (j : Nat) : List UInt8 := l.take (12 + j) ++ (putL V 4).drop j
theorem cntAt_len (V : Nat) (l : List UInt8) (j : Nat) (hl : l.length = 16) (hj : j ≤ 4) : (cntAt V l j).length = 16 := by
  unfold cntAt
  rw [List.length_append, List.length_take, List.length_drop, putL_len]
  omega
theorem cntAt_full (V : Nat) (l : List UInt8) (hl : l.length = 16) : cntAt V l 4 = l := by
  unfold cntAt
  rw [List.take_of_length_le (by omega), List.drop_of_length_le (by rw [putL_len]; exact Nat.le_refl _), List.append_nil]
theorem cntAt_zero (V : Nat) (l : List UInt8) : cntAt V l 0 = l.take 12 ++ putL V 4 := by
  unfold cntAt
  rw [Nat.add_zero, List.drop_zero]
theorem cntAt_get (V : Nat) (l : List UInt8) (j : Nat) (hl : l.length = 16) (hj : j < 4) : ∃ y, (cntAt V l (j + 1))[12 + j]? = some y :=
  ⟨_, List.getElem?_eq_getElem (by rw [cntAt_len V l (j + 1) hl (by omega)]; omega)⟩
theorem cntAt_next (V : Nat) (l : List UInt8) (j : Nat) (hl : l.length = 16) (hj : j < 4) : (cntAt V l (j + 1)).set (12 + j) (UInt8.ofNat (downL V (3 - j))) = cntAt V l j := by
  obtain ⟨y, hy⟩ : ∃ y, l[12 + j]? = some y := ⟨_, List.getElem?_eq_getElem (by omega)⟩
  have hg := putL_get V 4 j hj
  have hlt : j < (putL V 4).length := by rw [putL_len]; exact hj
  have hd : (putL V 4).drop j = UInt8.ofNat (downL V (3 - j)) :: (putL V 4).drop (j + 1) := by
    rw [List.getElem?_eq_getElem hlt] at hg
    rw [List.drop_eq_getElem_cons hlt, Option.some.inj hg]
  have ht : (l.take (12 + j)).length = 12 + j := by rw [List.length_take]; omega
  unfold cntAt
  rw [hd, show 12 + (j + 1) = 12 + j + 1 by omega, List.take_add_one, hy, Option.toList_some, List.append_assoc, List.set_append_right _ _ (by omega), ht, Nat.sub_self]
  rfl
theorem numL_four (l : List UInt8) (hl : l.length = 16) (i : Nat) (hi : i < 4) (x : UInt8) (hx : l[12 + i]? = some x) : numL ((l.drop 12).take (i + 1)) = numL ((l.drop 12).take i) * 256 + x.toNat := by
  rw [List.take_add_one, List.getElem?_drop, hx, Option.toList_some, numL_snoc]
theorem numL_take_lt (l : List UInt8) (i : Nat) (hi : i ≤ 4) (hl : l.length = 16) : numL ((l.drop 12).take i) < 256 ^ i := numL_lt i _ (by rw [List.length_take, List.length_drop]; omega)
attribute [local irreducible] cntAt numL putL

set_option maxRecDepth 100000 in
set_option maxHeartbeats 2000000 in
theorem rafter_any (A : Option Addr) (c0 : Nat) (l : List UInt8) (n : Nat) (w : World) (h : RB w w.heap.size A 16 l) (hn : n < 2 ^ 64) :
    Calls Tryz.prog 80 #[.slice A 16 c0, .int .u64 (n : Int)] w (RetB 16 (aftL l n) w) := by
  have hl := h.len
  obtain ⟨g, o, rfl, hg, hc⟩ := h.2 (by omega)
  have HR := Lib.hid h
  have HC := Lib.hid hc
  clear h hc
  go_enter Tryz.func80, Tryz.ntmps80
  go_wp2_with fail
  go_loopw [5, 6] (fun v i wr => ∃ k q : Nat, k ≤ 4 ∧ i = .int .i64 (12 + (k : Int)) ∧ v = .int .u64 (q : Int) ∧ Hid (q = numL ((l.drop 12).take k) ∧ q < 256 ^ k) ∧ w = wr) (fun _ i _ => 16 - (intOf i).toNat)
  case atStart => exact ⟨0, 0, by omega, rfl, rfl, Lib.hid ⟨by rw [List.take_zero]; unfold numL; rfl, by omega⟩, rfl⟩
  case round =>
    obtain ⟨k, q, hk, rfl, rfl, hv, rfl⟩ := hrel
    by_cases hlt : k < 4
    · obtain ⟨x, hx⟩ : ∃ x, l[12 + k]? = some x := ⟨_, List.getElem?_eq_getElem (by omega)⟩
      have hcx := HC.out (12 + k) (by omega)
      rw [show l[12 + k]'(by omega) = x by have := List.getElem?_eq_getElem (l := l) (i := 12 + k) (by omega); rw [hx] at this; exact (Option.some.inj this).symm] at hcx
      have HX := Lib.hid hx
      have hxb := byte_lt x
      have hxl := x.toNat_lt
      have hqb : q < 256 ^ 3 := by
        have h1 := hv.out.2
        have h2 : (256 : Nat) ^ k ≤ 256 ^ 3 := Nat.pow_le_pow_right (by omega) (by omega)
        omega
      obtain ⟨q', HQ⟩ : ∃ q', Hid (q' = q * 256 + x.toNat) := ⟨_, Lib.hid rfl⟩
      have HV : Hid (q' = numL ((l.drop 12).take (k + 1)) ∧ q' < 256 ^ (k + 1)) := Lib.hid (by
        have e : q' = numL ((l.drop 12).take (k + 1)) := by rw [HQ.out, hv.out.1]; exact (numL_four l hl k hlt x HX.out).symm
        exact ⟨e, by rw [e]; exact numL_take_lt l (k + 1) (by omega) hl⟩)
      have hidx : (12 + (k : Int)) < 16 := by omega
      have hq16 : q < 16777216 := hqb
      unfold bv at hcx
      have hqs : (q' : Int) = (q : Int) * 256 + (x.toNat : Int) := by have := HQ.out; omega
      clear hx hqb
      go_wp2_with fail
      go_roundw
      case rel => exact ⟨k + 1, q', by omega, by go_num, by rw [hqs], HV, trivial⟩
      case measure => simp [intOf]; omega
    · obtain rfl : k = 4 := by omega
      obtain ⟨n', HN'⟩ : ∃ n', Hid (n' = n % 2 ^ 32 ∧ n' < 2 ^ 32) := ⟨_, Lib.hid ⟨rfl, Nat.mod_lt _ (by omega)⟩⟩
      obtain ⟨V, HV⟩ : ∃ V, Hid (V = (q + n') % 2 ^ 32 ∧ V < 2 ^ 32) := ⟨_, Lib.hid ⟨rfl, Nat.mod_lt _ (by omega)⟩⟩
      have HVA : Hid (V = aftN l n) := Lib.hid (by
        have e := hv.out.1
        rw [List.take_of_length_le (by rw [List.length_drop]; omega)] at e
        rw [HV.out.1, HN'.out.1, e]
        unfold aftN
        omega)
      have hq32 : q < 4294967296 := hv.out.2
      have hn32 : n' < 4294967296 := HN'.out.2
      have hV32 : V < 4294967296 := HV.out.2
      have r1 : (n : Int) % 4294967296 = (n' : Int) := by have := HN'.out.1; omega
      have r2 : ((q : Int) + (n' : Int)) % 4294967296 = (V : Int) := by have := HV.out.1; omega
      have e4 : 12 + ((4 : Nat) : Int) = 16 := rfl
      rw [e4]
      have hcf : cntAt V l 4 = l := cntAt_full V l hl
      go_wp2_with (at_builtin; refine wpList_app rfl (.tmp 26) (.tmp 27) rfl w.heap.size _ _ _ [] rfl (OwnB.lit w _ [] #[] 0 rfl rfl (by unfold maxLen; omega) (Nat.le_refl _)) w.heap.size (some ⟨g, o, none⟩) 16 c0 l rfl (HR.out.alloc (Nat.le_refl _) _) (by omega) (by simp) ?_; intro A1 c1 w1 hown1 _ hb1)
      have hown2 : OwnB w1 w.heap.size A1 16 c1 (cntAt V l 4) := by rw [hcf]; exact hown1
      obtain ⟨g1, rfl, hg1, hg1'⟩ := OwnB.form hown2 (by omega)
      have HO0 := Lib.hid hown2
      have HB0 := Lib.hid ((below_alloc w (.cells #[] 5)).trans hb1)
      clear hown1 hown2 hb1 hcf r1 r2 e4
      go_loopw [5, 8] (fun v i wr => ∃ j : Nat, j ≤ 4 ∧ i = .int .i64 (11 + (j : Int)) ∧ v = .int .u64 (downL V (4 - j) : Int) ∧ Hid (OwnB wr w.heap.size (some ⟨g1, 0, none⟩) 16 c1 (cntAt V l j)) ∧ Hid (Below w.heap.size w wr)) (fun _ i _ => (intOf i - 10).toNat)
      case atStart => exact ⟨4, by omega, rfl, by simp [downL], HO0, HB0⟩
      case round =>
        obtain ⟨j, hj, rfl, rfl, ho, hb⟩ := hrel
        clear HO0 HB0
        have hdl := downL_le V (4 - j)
        rcases j with _ | j
        · have h0 := ho.out
          rw [cntAt_zero, HVA.out] at h0
          have e0 : 11 + ((0 : Nat) : Int) = 11 := rfl
          rw [e0, Nat.sub_zero]
          go_wp2_with fail
          go_ret
          exact ⟨_, _, rfl, h0, hb.out⟩
        · have e1 : 11 + ((j + 1 : Nat) : Int) = 12 + (j : Int) := by omega
          rw [e1]
          clear e1
          obtain ⟨y, hy⟩ := cntAt_get V l j hl (by omega)
          have hc0 := ho.out.cellAt hy
          have hf0 := ho.out.freeAt (12 + j)
          obtain ⟨m, HM⟩ : ∃ m, Hid (m = downL V (4 - (j + 1))) := ⟨_, Lib.hid rfl⟩
          have HN := Lib.hid (cntAt_next V l j hl (by omega))
          rw [show 3 - j = 4 - (j + 1) by omega, ← HM.out] at HN
          rw [← HM.out] at hdl ⊢
          have hm2 : m < 4294967296 := by omega
          have hji : 12 + (j : Int) < 16 := by omega
          have hcv : IntKind.u8.wrap ((m : Int) % 256) = (((UInt8.ofNat m).toNat : Nat) : Int) := by
            have e : (UInt8.ofNat m).toNat = m % 256 := by simp
            rw [e, IntKind.wrap_u8]; omega
          unfold bv at hc0
          clear hy
          go_wp2_with fail
          go_roundw
          case rel =>
            refine ⟨j, by omega, by go_num, ?_, Lib.hid ?_, Lib.hid (hb.out.setCell (p := ⟨g1, 12 + j, none⟩) hg1 _)⟩
            · rw [show 4 - j = (4 - (j + 1)) + 1 from by omega, downL_succ, ← HM.out]
              go_num
            · rw [← HN.out]
              exact ho.out.stored (12 + j) _ _ (by unfold bv; first | rfl | rw [hcv] | (congr 1; omega))
          case measure => simp [intOf]; omega
end Go.Proofs.YthllaoeioddddaaGreat

/- The reference of layer 6 (count): key streams, and texts turned. Conditions: the slices' cells are readable; lengths are small. -/
namespace Go.Proofs.YthllaoeioddddaaGreat
open Go.RowKit
set_option linter.unusedVariables false

theorem aftL_len (l : List UInt8) (n : Nat) (hl : l.length = 16) : (aftL l n).length = 16 := by
  unfold aftL
  rw [List.length_append, List.length_take, putL_len]
  omega
/-- Block i of a key stream; the first k blocks; the first n bytes. -/
def blkL (key l : List UInt8) (i : Nat) : List UInt8 := encL key tableL (aftL l i)
def blksL (key l : List UInt8) : Nat → List UInt8 | 0 => [] | k + 1 => blksL key l k ++ blkL key l k
def strmL (key l : List UInt8) (n : Nat) : List UInt8 := (blksL key l ((n + 15) / 16)).take n
theorem blkL_len (key l : List UInt8) (i : Nat) (hk : key.length = 16) (hl : l.length = 16) : (blkL key l i).length = 16 := encL_len key tableL _ hk (aftL_len l i hl)
theorem blksL_len (key l : List UInt8) (hk : key.length = 16) (hl : l.length = 16) : ∀ k, (blksL key l k).length = 16 * k
  | 0 => rfl
  | k + 1 => by rw [blksL, List.length_append, blksL_len key l hk hl k, blkL_len key l k hk hl]; omega
theorem strmL_len (key l : List UInt8) (n : Nat) (hk : key.length = 16) (hl : l.length = 16) : (strmL key l n).length = n := by
  unfold strmL
  rw [List.length_take, blksL_len key l hk hl]
  omega
theorem OwnB.head {w : World} {base N c n : Nat} {A : Option Addr} {l : List UInt8} (h : OwnB w base A N c l) (hn : n ≤ N) (hA : ∃ g, A = some ⟨g, 0, none⟩) : OwnB w base A n c (l.take n) := by
  have hlen := h.len
  refine ⟨by rw [bvs_length, List.length_take]; omega, ?_⟩
  obtain ⟨g0, rfl⟩ := hA
  rcases h.2 with ⟨hv, h0⟩ | ⟨g, cap, cur, hv, hbg, hh, hnc, hcm, hsz, ht⟩
  · cases hv
  · injection hv with e1 e2 e3
    injection e1 with e1
    injection e1 with e1
    subst e1
    subst e3
    refine .inr ⟨g0, c, cur, rfl, hbg, hh, by omega, hcm, hsz, ?_⟩
    have : bvs (l.take n) = (bvs l).take n := by simp [bvs, List.map_take]
    rw [this, ← ht, Nat.mul_one, Nat.mul_one, List.take_take, Nat.min_eq_left hn]
theorem blksL_succ (key l : List UInt8) (k : Nat) : blksL key l (k + 1) = blksL key l k ++ blkL key l k := rfl
attribute [local irreducible] aftL encL tableL blksL blkL

set_option maxRecDepth 100000 in
set_option maxHeartbeats 2000000 in
theorem rstream_any (A0 A1 : Option Addr) (c0 c1 n : Nat) (key l : List UInt8) (w : World) (h0 : RB w w.heap.size A0 16 key) (hc0 : 16 ≤ c0) (h1 : RB w w.heap.size A1 16 l) (hn : n ≤ 1000000) :
    Calls Tryz.prog 96 #[.slice A0 16 c0, .slice A1 16 c1, .int .i64 (n : Int)] w fun e w' => ∃ g c, e = .returned (.slice (some ⟨g, 0, none⟩) n c) ∧ OwnB w' w.heap.size (some ⟨g, 0, none⟩) n c (strmL key l n) ∧ Below w.heap.size w w' := by
  have H0 := Lib.hid h0
  have H1 := Lib.hid h1
  have HC0 := Lib.hid hc0
  have ek := h0.len
  have el := h1.len
  clear h0 h1 hc0
  obtain ⟨m, HM⟩ : ∃ m, Hid (m = (n + 15) / 16) := ⟨_, Lib.hid rfl⟩
  have hm := HM.out
  have HSL : Hid (strmL key l n = (blksL key l m).take n) := Lib.hid (by unfold strmL; rw [HM.out])
  go_enter Tryz.func96, Tryz.ntmps96
  go_wp2_with fail
  refine (table_any _).mono ?_
  rintro e w1 ⟨AT, cT, rfl, ho1, hb1⟩
  obtain ⟨B1, HB⟩ : ∃ B1, Hid (B1 = w1.heap.size) := ⟨_, Lib.hid rfl⟩
  have hwB : w.heap.size ≤ B1 := by rw [HB.out]; exact hb1.size
  have HT1 : Hid (RB w1 B1 AT 256 tableL) := Lib.hid (by rw [HB.out]; exact ho1.rb)
  have HB1 := Lib.hid hb1
  clear ho1 hb1
  have HO0 : Hid (OwnB (w1.alloc (.cells #[] 5)) B1 (some ⟨B1, 0, none⟩) 0 0 (blksL key l 0)) := Lib.hid (by rw [show blksL key l 0 = [] by unfold blksL; rfl, HB.out]; exact OwnB.lit w1 w1.heap.size [] #[] 0 rfl rfl (by unfold maxLen; omega) (Nat.le_refl _))
  have hsB : B1 ≤ (w1.alloc (.cells #[] 5)).heap.size := by rw [HB.out]; simp
  go_wp2_with fail
  rw [← HB.out]
  go_loopw [8, 9] (fun v i wr => ∃ k g1 d1 : Nat, k ≤ m ∧ i = .int .u64 (k : Int) ∧ v = .slice (some ⟨g1, 0, none⟩) (16 * k) d1 ∧ Hid (OwnB wr B1 (some ⟨g1, 0, none⟩) (16 * k) d1 (blksL key l k)) ∧ Hid (RB wr B1 AT 256 tableL) ∧ Hid (Below w.heap.size w wr) ∧ B1 ≤ wr.heap.size) (fun _ i _ => m - (intOf i).toNat)
  case atStart => exact ⟨0, B1, 0, by omega, rfl, rfl, HO0, Lib.hid (HT1.out.below ((below_alloc w1 _).mono (by rw [HB.out]; exact Nat.le_refl _))), Lib.hid (bel_next HB1.out (below_alloc _ _)), hsB⟩
  case round =>
    obtain ⟨k, g1, d1, hk, rfl, rfl, ho, ht, hb, hB⟩ := hrel
    clear HO0 HT1 HB1 hsB
    by_cases hlt : k < m
    · have hd : decide (((16 * k : Nat) : Int) < (n : Int)) = true := decide_eq_true (by omega)
      have HBL : Hid (encL key tableL (aftL l k) = blkL key l k) := Lib.hid (by unfold blkL; rfl)
      have HBK := Lib.hid (blksL_succ key l k)
      go_wp2_with fail
      refine (rafter_any A1 c1 l k _ (H1.out.step hb.out) (by omega)).mono ?_
      rintro e w2 ⟨A2, c2, rfl, ho2, hb2⟩
      have HO2 := Lib.hid ho2
      have HB2 := Lib.hid hb2
      clear ho2 hb2
      go_wp2_with fail
      refine (with_any A2 A0 AT c2 c0 cT key tableL (aftL l k) _ (H0.out.step (hb.out.trans (HB2.out.mono hb.out.size))) HC0.out HO2.out.rb ((ht.out.below (HB2.out.mono hB)).more (Nat.le_trans hB HB2.out.size))).mono ?_
      rw [HBL.out]
      rintro e w3 ⟨A3, c3, rfl, ho3, hb3⟩
      have HO3 := Lib.hid ho3
      have HB3 := Lib.hid (bel_next HB2.out hb3)
      clear ho3 hb3 HO2 HB2
      go_wp2_with (at_builtin; refine wpList_app rfl (.tmp 18) (.tmp 24) rfl B1 (some ⟨g1, 0, none⟩) (16 * k) d1 (blksL key l k) rfl (by exact ho.out.below HB3.out) w3.heap.size A3 16 c3 (blkL key l k) rfl (by exact HO3.out.rb) (by omega) (by have h2 := HB3.out.size; omega) ?_; intro A4 d4 w4 ho4 _ hb4; obtain ⟨g4, rfl, _, _⟩ := OwnB.form ho4 (by omega); have HO4 := Lib.hid ho4; have HB4 := Lib.hid ((HB3.out.mono hB).trans hb4); have hs4 : B1 ≤ w4.heap.size := Nat.le_trans (Nat.le_trans hB HB3.out.size) hb4.size; clear ho4 hb4)
      go_roundw
      case rel => exact ⟨k + 1, g4, d4, by omega, by go_num, by rw [show 16 * (k + 1) = 16 * k + 16 by omega], Lib.hid (by rw [HBK.out, show 16 * (k + 1) = 16 * k + 16 by omega]; exact HO4.out), Lib.hid (ht.out.below HB4.out), Lib.hid (hb.out.trans (HB4.out.mono hwB)), hs4⟩
      case measure => simp [intOf]; omega
    · have hkm : k = m := by omega
      subst hkm
      have hd : decide (((16 * k : Nat) : Int) < (n : Int)) = false := decide_eq_false (by omega)
      have hcap := ho.out.cap.1
      have hcu : ∀ W : World, (Instr.slice 23 (.slice (some ⟨g1, 0, none⟩) (16 * k) d1) none (some (.int .i64 (n : Int))) none).run Tryz.prog W = .ok (.slice (some ⟨g1, 0, none⟩) n d1) W := by
        intro W
        have h := cut_h (some ⟨g1, 0, none⟩) (16 * k) d1 n (by omega) W
        rw [h]
        unfold cutA
        split
        · rfl
        · rw [Option.map_some, Addr.add_mid]
      go_wp2_with fail
      go_ret
      exact ⟨g1, d1, rfl, by rw [HSL.out]; exact (OwnB.head ho.out (by omega) ⟨g1, rfl⟩).base_le hwB, hb.out⟩
/-- A stream of which the first k bytes have been added to a text's. -/
def turnAt (k : Nat) (a b : List UInt8) : List UInt8 := xorL (a.take k) (b.take k) ++ a.drop k
theorem turnAt_zero (a b : List UInt8) : turnAt 0 a b = a := by simp [turnAt, xorL]
theorem turnAt_end (n : Nat) (a b : List UInt8) (ha : a.length = n) (hb : b.length = n) : turnAt n a b = xorL a b := by
  unfold turnAt
  rw [List.take_of_length_le (by omega), List.take_of_length_le (by omega), List.drop_of_length_le (by omega), List.append_nil]
theorem turnAt_get (n k : Nat) (a b : List UInt8) (x : UInt8) (ha : a.length = n) (hb : b.length = n) (hx : a[k]? = some x) : (turnAt k a b)[k]? = some x := by
  have hk := (List.getElem?_eq_some_iff.1 hx).1
  unfold turnAt
  have hl := xorTake_len ha hb (show k ≤ n by omega)
  rw [List.getElem?_append_right (by omega), hl, Nat.sub_self, List.getElem?_drop, Nat.add_zero, hx]
theorem turnAt_next (n k : Nat) (a b : List UInt8) (x y : UInt8) (ha : a.length = n) (hb : b.length = n) (hx : a[k]? = some x) (hy : b[k]? = some y) : (turnAt k a b).set k (x ^^^ y) = turnAt (k + 1) a b := by
  have hk := (List.getElem?_eq_some_iff.1 hx).1
  have hl := xorTake_len ha hb (show k ≤ n by omega)
  have hd : a.drop k = x :: a.drop (k + 1) := by
    have := List.getElem?_eq_getElem hk
    rw [hx] at this
    rw [List.drop_eq_getElem_cons hk, ← Option.some.inj this]
  unfold turnAt
  rw [take_snoc hx, take_snoc hy, xorL_snoc _ _ _ _ (by simp only [List.length_take]; omega), hd, List.set_append_right _ _ (by omega), hl, Nat.sub_self, List.append_assoc]
  rfl
attribute [local irreducible] turnAt strmL

set_option maxRecDepth 100000 in
set_option maxHeartbeats 2000000 in
theorem rturn_any (A0 A1 A2 : Option Addr) (c0 c1 n c2 : Nat) (key l t : List UInt8) (w : World) (h0 : RB w w.heap.size A0 16 key) (hc0 : 16 ≤ c0) (h1 : RB w w.heap.size A1 16 l) (h2 : RB w w.heap.size A2 n t) (hn : n ≤ 65535) :
    Calls Tryz.prog 79 #[.slice A0 16 c0, .slice A1 16 c1, .slice A2 n c2] w (RetBE n (xorL (strmL key l n) t) 0 w) := by
  have H2 := Lib.hid h2
  have ek := h0.len
  have el := h1.len
  have et := h2.len
  obtain ⟨s, HS⟩ : ∃ s, Hid (s = strmL key l n ∧ s.length = n) := ⟨_, Lib.hid ⟨rfl, strmL_len key l n ek el⟩⟩
  rw [← HS.out.1]
  have HST : Hid (Calls Tryz.prog 96 #[.slice A0 16 c0, .slice A1 16 c1, .int .i64 (n : Int)] w fun e w' => ∃ g c, e = .returned (.slice (some ⟨g, 0, none⟩) n c) ∧ OwnB w' w.heap.size (some ⟨g, 0, none⟩) n c s ∧ Below w.heap.size w w') := Lib.hid (by rw [HS.out.1]; exact rstream_any A0 A1 c0 c1 n key l w h0 hc0 h1 (by omega))
  have hg : decide ((n : Int) > 65535) = false := decide_eq_false (by omega)
  clear h0 h1 h2 hc0
  go_enter Tryz.func79, Tryz.ntmps79
  go_wp2_with fail
  refine HST.out.mono ?_
  rintro e w1 ⟨g1, d1, rfl, ho1, hb1⟩
  have HO1 : Hid (OwnB w1 w.heap.size (some ⟨g1, 0, none⟩) n d1 (turnAt 0 s t)) := Lib.hid (by rw [turnAt_zero]; exact ho1)
  have HB1 := Lib.hid hb1
  clear ho1 hb1 HST
  go_wp2_with fail
  go_loopw [9] (fun i wr => ∃ k : Nat, k ≤ n ∧ i = .int .i64 k ∧ Hid (OwnB wr w.heap.size (some ⟨g1, 0, none⟩) n d1 (turnAt k s t)) ∧ Hid (Below w.heap.size w wr)) (fun i _ => n - (intOf i).toNat)
  case atStart => exact ⟨0, by omega, rfl, HO1, HB1⟩
  case round =>
    obtain ⟨k, hk, rfl, ho, hb⟩ := hrel
    clear HO1 HB1
    by_cases hlt : k < n
    · obtain ⟨g2, o2, rfl, hg2, y, hy, hcy⟩ := (H2.out.below hb.out).at_ hlt
      obtain ⟨x, hx⟩ : ∃ x, s[k]? = some x := ⟨_, List.getElem?_eq_getElem (by have := HS.out.2; omega)⟩
      have hc0 := ho.out.cellAt (turnAt_get n k s t x HS.out.2 et hx)
      have hf0 := ho.out.freeAt k
      have HN := Lib.hid (turnAt_next n k s t x y HS.out.2 et hx hy)
      unfold bv at hc0
      have hg1 : w.heap.size ≤ g1 := by obtain ⟨g, e, h1, _⟩ := OwnB.form ho.out (by omega); injection e with e; injection e with e; omega
      clear hx hy
      go_wp2_with fail
      go_region
      all_goals
        go_wp2
        go_roundw
        case rel => exact ⟨k + 1, by omega, by go_num, Lib.hid (by rw [← HN.out]; exact ho.out.drew.stored k _ _ (by rw [xor_byte]; rfl)), Lib.hid (hb.out.drew.setCell (p := ⟨g1, k, none⟩) hg1 _)⟩
        case measure => simp [intOf]; omega
    · have hkn : k = n := by omega
      subst hkn
      have h := ho.out
      rw [turnAt_end k s t HS.out.2 et] at h
      go_wp2_with fail
      go_ret2
      exact ⟨_, _, rfl, h, hb.out⟩
end Go.Proofs.YthllaoeioddddaaGreat

/- Steps and streams of layer 6: steps add up; a stream goes on where a part of it ends; adding twice. No conditions; nothing is claimed of the program here. -/
namespace Go.Proofs.YthllaoeioddddaaGreat
set_option linter.unusedVariables false

theorem downL_pow (n : Nat) : ∀ k, downL n k = n / 256 ^ k
  | 0 => by simp [downL]
  | k + 1 => by rw [downL_succ, downL_pow n k, Nat.div_div_eq_div_mul, Nat.pow_succ]
theorem numP_put : ∀ (k n : Nat), numL (putL n k) + 256 ^ k * downL n k = n
  | 0, n => by simp [putL, numL, downL]
  | k + 1, n => by
    have ih := numP_put k (n / 256)
    rw [putL, numL_snoc, ← downL_comm]
    have e : (UInt8.ofNat n).toNat = n % 256 := by simp
    rw [e, Nat.pow_succ]
    have h2 : 256 ^ k * 256 * downL (n / 256) k = 256 * (256 ^ k * downL (n / 256) k) := by rw [Nat.mul_comm (256 ^ k) 256, Nat.mul_assoc]
    rw [h2]
    omega
theorem numP_four (n : Nat) (hn : n < 2 ^ 32) : numL (putL n 4) = n := by
  have h := numP_put 4 n
  rw [downL_pow, Nat.div_eq_of_lt (show n < 256 ^ 4 by omega)] at h
  omega
theorem putP_num : ∀ (k : Nat) (l : List UInt8), l.length = k → putL (numL l) k = l
  | 0, l, h => by rw [List.eq_nil_of_length_eq_zero h]; rfl
  | k + 1, l, h => by
    obtain ⟨m, x, rfl⟩ : ∃ m x, l = m ++ [x] := by
      have hne : l ≠ [] := fun e => by rw [e] at h; cases h
      exact ⟨l.dropLast, l.getLast hne, (List.dropLast_concat_getLast hne).symm⟩
    have hm : m.length = k := by simpa using h
    have hx := x.toNat_lt
    rw [putL, numL_snoc, show (numL m * 256 + x.toNat) / 256 = numL m by omega, putP_num k m hm]
    have e : UInt8.ofNat (numL m * 256 + x.toNat) = x := by
      apply UInt8.toNat_inj.1
      simp
    rw [e]
theorem aft_take (l : List UInt8) (n : Nat) (hl : l.length = 16) : (aftL l n).take 12 = l.take 12 := by
  unfold aftL
  rw [List.take_left' (by rw [List.length_take]; omega)]
theorem aft_drop (l : List UInt8) (n : Nat) (hl : l.length = 16) : (aftL l n).drop 12 = putL (aftN l n) 4 := by
  unfold aftL
  rw [List.drop_left' (by rw [List.length_take]; omega)]
theorem aftN_lt (l : List UInt8) (n : Nat) : aftN l n < 2 ^ 32 := Nat.mod_lt _ (by omega)
/-- Steps add up. -/
theorem aft_aft (l : List UInt8) (a b : Nat) (hl : l.length = 16) : aftL (aftL l a) b = aftL l (a + b) := by
  have e : aftN (aftL l a) b = aftN l (a + b) := by
    have h := aft_drop l a hl
    have h2 := numP_four _ (aftN_lt l a)
    unfold aftN at h2 ⊢
    rw [h]
    unfold aftN
    rw [h2]
    omega
  rw [aftL, e, aft_take l a hl]
  rfl
theorem aft_whole (l : List UInt8) (n : Nat) (hl : l.length = 16) (hn : n % 2 ^ 32 = 0) : aftL l n = l := by
  have hd : (l.drop 12).length = 4 := by rw [List.length_drop]; omega
  have hlt : numL (l.drop 12) < 256 ^ 4 := numL_lt 4 _ hd
  have e : aftN l n = numL (l.drop 12) := by unfold aftN; omega
  rw [aftL, e, putP_num 4 _ hd, List.take_append_drop]
end Go.Proofs.YthllaoeioddddaaGreat

