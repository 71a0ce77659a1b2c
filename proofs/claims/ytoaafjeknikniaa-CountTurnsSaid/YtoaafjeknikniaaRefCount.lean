/- The reference of layer 6 (count): the block behind so many steps. Condition: the block's sixteen cells are readable. -/
import Derived.Test.YtoaafjeknikniaaPut
namespace Go.Proofs.Ytoaafjeknikniaa
open Go.RowKit
set_option linter.unusedVariables false

/-- The number in a block's last four bytes, n steps on; the block with it. -/
def aftN (l : List UInt8) (n : Nat) : Nat := (numL (l.drop 12) + n) % 2 ^ 32
def aftL (l : List UInt8) (n : Nat) : List UInt8 := l.take 12 ++ putL (aftN l n) 4
/-- What After's loop has written when j bytes are still to go. -/
def cntAt (V : Nat) (l : List UInt8) (j : Nat) : List UInt8 := l.take (12 + j) ++ (putL V 4).drop j
theorem cntAt_len (V : Nat) (l : List UInt8) (j : Nat) (hl : l.length = 16) (hj : j ≤ 4) : (cntAt V l j).length = 16 := by
  unfold cntAt
  rw [List.length_append, List.length_take, List.length_drop, putL_len]
  omega
theorem cntAt_full (V : Nat) (l : List UInt8) (hl : l.length = 16) : cntAt V l 4 = l := by
  unfold cntAt
  rw [List.take_of_length_le (by omega), List.drop_of_length_le (by rw [putL_len]; exact Nat.le_refl _), List.append_nil]
theorem cntAt_zero (V : Nat) (l : List UInt8) : cntAt V l 0 = l.take 12 ++ putL V 4 := by
  unfold cntAt
  rw [Nat.add_zero, List.drop_zero]
theorem cntAt_get (V : Nat) (l : List UInt8) (j : Nat) (hl : l.length = 16) (hj : j < 4) : ∃ y, (cntAt V l (j + 1))[12 + j]? = some y :=
  ⟨_, List.getElem?_eq_getElem (by rw [cntAt_len V l (j + 1) hl (by omega)]; omega)⟩
theorem cntAt_next (V : Nat) (l : List UInt8) (j : Nat) (hl : l.length = 16) (hj : j < 4) : (cntAt V l (j + 1)).set (12 + j) (UInt8.ofNat (downL V (3 - j))) = cntAt V l j := by
  obtain ⟨y, hy⟩ : ∃ y, l[12 + j]? = some y := ⟨_, List.getElem?_eq_getElem (by omega)⟩
  have hg := putL_get V 4 j hj
  have hlt : j < (putL V 4).length := by rw [putL_len]; exact hj
  have hd : (putL V 4).drop j = UInt8.ofNat (downL V (3 - j)) :: (putL V 4).drop (j + 1) := by
    rw [List.getElem?_eq_getElem hlt] at hg
    rw [List.drop_eq_getElem_cons hlt, Option.some.inj hg]
  have ht : (l.take (12 + j)).length = 12 + j := by rw [List.length_take]; omega
  unfold cntAt
  rw [hd, show 12 + (j + 1) = 12 + j + 1 by omega, List.take_add_one, hy, Option.toList_some, List.append_assoc, List.set_append_right _ _ (by omega), ht, Nat.sub_self]
  rfl
theorem numL_four (l : List UInt8) (hl : l.length = 16) (i : Nat) (hi : i < 4) (x : UInt8) (hx : l[12 + i]? = some x) : numL ((l.drop 12).take (i + 1)) = numL ((l.drop 12).take i) * 256 + x.toNat := by
  rw [List.take_add_one, List.getElem?_drop, hx, Option.toList_some, numL_snoc]
theorem numL_take_lt (l : List UInt8) (i : Nat) (hi : i ≤ 4) (hl : l.length = 16) : numL ((l.drop 12).take i) < 256 ^ i := numL_lt i _ (by rw [List.length_take, List.length_drop]; omega)
attribute [local irreducible] cntAt numL putL

set_option maxRecDepth 100000 in
set_option maxHeartbeats 2000000 in
theorem rafter_any (A : Option Addr) (c0 : Nat) (l : List UInt8) (n : Nat) (w : World) (h : RB w w.heap.size A 16 l) (hn : n < 2 ^ 64) :
    Calls Try.prog 12 #[.slice A 16 c0, .int .u64 (n : Int)] w (RetB 16 (aftL l n) w) := by
  have hl := h.len
  obtain ⟨g, o, rfl, hg, hc⟩ := h.2 (by omega)
  have HR := Lib.hid h
  have HC := Lib.hid hc
  clear h hc
  go_enter Try.func12, Try.ntmps12
  go_wp2_with fail
  go_loopw [5, 6] (fun v i wr => ∃ k q : Nat, k ≤ 4 ∧ i = .int .i64 (12 + (k : Int)) ∧ v = .int .u64 (q : Int) ∧ Hid (q = numL ((l.drop 12).take k) ∧ q < 256 ^ k) ∧ w = wr) (fun _ i _ => 16 - (intOf i).toNat)
  case atStart => exact ⟨0, 0, by omega, rfl, rfl, Lib.hid ⟨by rw [List.take_zero]; unfold numL; rfl, by omega⟩, rfl⟩
  case round =>
    obtain ⟨k, q, hk, rfl, rfl, hv, rfl⟩ := hrel
    by_cases hlt : k < 4
    · obtain ⟨x, hx⟩ : ∃ x, l[12 + k]? = some x := ⟨_, List.getElem?_eq_getElem (by omega)⟩
      have hcx := HC.out (12 + k) (by omega)
      rw [show l[12 + k]'(by omega) = x by have := List.getElem?_eq_getElem (l := l) (i := 12 + k) (by omega); rw [hx] at this; exact (Option.some.inj this).symm] at hcx
      have HX := Lib.hid hx
      have hxb := byte_lt x
      have hxl := x.toNat_lt
      have hqb : q < 256 ^ 3 := by
        have h1 := hv.out.2
        have h2 : (256 : Nat) ^ k ≤ 256 ^ 3 := Nat.pow_le_pow_right (by omega) (by omega)
        omega
      obtain ⟨q', HQ⟩ : ∃ q', Hid (q' = q * 256 + x.toNat) := ⟨_, Lib.hid rfl⟩
      have HV : Hid (q' = numL ((l.drop 12).take (k + 1)) ∧ q' < 256 ^ (k + 1)) := Lib.hid (by
        have e : q' = numL ((l.drop 12).take (k + 1)) := by rw [HQ.out, hv.out.1]; exact (numL_four l hl k hlt x HX.out).symm
        exact ⟨e, by rw [e]; exact numL_take_lt l (k + 1) (by omega) hl⟩)
      have hidx : (12 + (k : Int)) < 16 := by omega
      have hq16 : q < 16777216 := hqb
      unfold bv at hcx
      have hqs : (q' : Int) = (q : Int) * 256 + (x.toNat : Int) := by have := HQ.out; omega
      clear hx hqb
      go_wp2_with fail
      go_roundw
      case rel => exact ⟨k + 1, q', by omega, by go_num, by rw [hqs], HV, trivial⟩
      case measure => simp [intOf]; omega
    · obtain rfl : k = 4 := by omega
      obtain ⟨n', HN'⟩ : ∃ n', Hid (n' = n % 2 ^ 32 ∧ n' < 2 ^ 32) := ⟨_, Lib.hid ⟨rfl, Nat.mod_lt _ (by omega)⟩⟩
      obtain ⟨V, HV⟩ : ∃ V, Hid (V = (q + n') % 2 ^ 32 ∧ V < 2 ^ 32) := ⟨_, Lib.hid ⟨rfl, Nat.mod_lt _ (by omega)⟩⟩
      have HVA : Hid (V = aftN l n) := Lib.hid (by
        have e := hv.out.1
        rw [List.take_of_length_le (by rw [List.length_drop]; omega)] at e
        rw [HV.out.1, HN'.out.1, e]
        unfold aftN
        omega)
      have hq32 : q < 4294967296 := hv.out.2
      have hn32 : n' < 4294967296 := HN'.out.2
      have hV32 : V < 4294967296 := HV.out.2
      have r1 : (n : Int) % 4294967296 = (n' : Int) := by have := HN'.out.1; omega
      have r2 : ((q : Int) + (n' : Int)) % 4294967296 = (V : Int) := by have := HV.out.1; omega
      have e4 : 12 + ((4 : Nat) : Int) = 16 := rfl
      rw [e4]
      have hcf : cntAt V l 4 = l := cntAt_full V l hl
      go_wp2_with (at_builtin; refine wpList_app rfl (.tmp 26) (.tmp 27) rfl w.heap.size _ _ _ [] rfl (OwnB.lit w _ [] #[] 0 rfl rfl (by unfold maxLen; omega) (Nat.le_refl _)) w.heap.size (some ⟨g, o, none⟩) 16 c0 l rfl (HR.out.alloc (Nat.le_refl _) _) (by omega) (by simp) ?_; intro A1 c1 w1 hown1 _ hb1)
      have hown2 : OwnB w1 w.heap.size A1 16 c1 (cntAt V l 4) := by rw [hcf]; exact hown1
      obtain ⟨g1, rfl, hg1, hg1'⟩ := OwnB.form hown2 (by omega)
      have HO0 := Lib.hid hown2
      have HB0 := Lib.hid ((below_alloc w (.cells #[] 5)).trans hb1)
      clear hown1 hown2 hb1 hcf r1 r2 e4
      go_loopw [5, 8] (fun v i wr => ∃ j : Nat, j ≤ 4 ∧ i = .int .i64 (11 + (j : Int)) ∧ v = .int .u64 (downL V (4 - j) : Int) ∧ Hid (OwnB wr w.heap.size (some ⟨g1, 0, none⟩) 16 c1 (cntAt V l j)) ∧ Hid (Below w.heap.size w wr)) (fun _ i _ => (intOf i - 10).toNat)
      case atStart => exact ⟨4, by omega, rfl, by simp [downL], HO0, HB0⟩
      case round =>
        obtain ⟨j, hj, rfl, rfl, ho, hb⟩ := hrel
        clear HO0 HB0
        have hdl := downL_le V (4 - j)
        rcases j with _ | j
        · have h0 := ho.out
          rw [cntAt_zero, HVA.out] at h0
          have e0 : 11 + ((0 : Nat) : Int) = 11 := rfl
          rw [e0, Nat.sub_zero]
          go_wp2_with fail
          go_ret
          exact ⟨_, _, rfl, h0, hb.out⟩
        · have e1 : 11 + ((j + 1 : Nat) : Int) = 12 + (j : Int) := by omega
          rw [e1]
          clear e1
          obtain ⟨y, hy⟩ := cntAt_get V l j hl (by omega)
          have hc0 := ho.out.cellAt hy
          have hf0 := ho.out.freeAt (12 + j)
          obtain ⟨m, HM⟩ : ∃ m, Hid (m = downL V (4 - (j + 1))) := ⟨_, Lib.hid rfl⟩
          have HN := Lib.hid (cntAt_next V l j hl (by omega))
          rw [show 3 - j = 4 - (j + 1) by omega, ← HM.out] at HN
          rw [← HM.out] at hdl ⊢
          have hm2 : m < 4294967296 := by omega
          have hji : 12 + (j : Int) < 16 := by omega
          have hcv : IntKind.u8.wrap ((m : Int) % 256) = (((UInt8.ofNat m).toNat : Nat) : Int) := by
            have e : (UInt8.ofNat m).toNat = m % 256 := by simp
            rw [e, IntKind.wrap_u8]; omega
          unfold bv at hc0
          clear hy
          go_wp2_with fail
          go_roundw
          case rel =>
            refine ⟨j, by omega, by go_num, ?_, Lib.hid ?_, Lib.hid (hb.out.setCell (p := ⟨g1, 12 + j, none⟩) hg1 _)⟩
            · rw [show 4 - j = (4 - (j + 1)) + 1 from by omega, downL_succ, ← HM.out]
              go_num
            · rw [← HN.out]
              exact ho.out.stored (12 + j) _ _ (by unfold bv; first | rfl | rw [hcv] | (congr 1; omega))
          case measure => simp [intOf]; omega
end Go.Proofs.Ytoaafjeknikniaa
