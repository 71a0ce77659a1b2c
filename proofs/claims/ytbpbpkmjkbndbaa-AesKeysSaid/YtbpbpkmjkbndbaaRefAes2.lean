/- The references of layer 3 (aes), rows and columns: each as a plain function of a list of sixteen. Condition: the slices' cells are readable. -/
import Derived.Test.YtbpbpkmjkbndbaaRefAes
namespace Go.Proofs.Ytbpbpkmjkbndbaa
open Go.RowKit
set_option linter.unusedVariables false

/-- Filled row by row, up to row r and column c. -/
def rowP (r c p : Nat) : Bool := decide (p % 4 < r) || (p % 4 == r && decide (p / 4 < c))
theorem rowP_next (r c p : Nat) (hr : r < 4) (hc : c < 4) (hp : p < 16) : rowP r (c + 1) p = (rowP r c p || p == 4 * c + r) := by
  unfold rowP
  rw [Bool.eq_iff_iff]
  simp
  omega
theorem rowP_turn (r p : Nat) (hp : p < 16) : rowP r 4 p = rowP (r + 1) 0 p := by
  unfold rowP
  rw [Bool.eq_iff_iff]
  simp
  omega
theorem fillP_congr (P P' : Nat → Bool) (F : Nat → UInt8) (h : ∀ p, p < 16 → P p = P' p) : fillP P F = fillP P' F := by
  unfold fillP
  apply List.map_congr_left
  intro p hp
  rw [h p (List.mem_range.1 hp)]

set_option maxRecDepth 100000 in
set_option maxHeartbeats 1000000 in
theorem rows_any (A : Option Addr) (c0 m : Nat) (l : List UInt8) (w : World) (h : RB w w.heap.size A 16 l) (hm : m ≤ 3) :
    Calls Try.prog 34 #[.slice A 16 c0, .int .i64 (m : Int)] w (RetB 16 (rowsL l m) w) := by
  obtain ⟨F, HF⟩ : ∃ F, Hid (F = rowF l m) := ⟨_, Lib.hid rfl⟩
  go_enter Try.func34, Try.ntmps34
  go_wp2_with (at_make; refine wpList_mk rfl _ _ rfl w.heap.size .i64 .i64 16 16 16 rfl rfl rfl rfl (by omega) (Nat.le_refl _) ?_; intro w1 hown1 hs1 hb1)
  have HO1 : Hid (OwnB w1 w.heap.size (some ⟨w.heap.size, 0, none⟩) 16 16 (fillP (rowP 0 0) F)) := Lib.hid (by
    rw [← fillP_none (rowP 0 0) F (fun p _ => by unfold rowP; simp)]
    exact hown1)
  have HB1 := Lib.hid hb1
  clear hown1 hs1 hb1
  go_loopw [6] (fun i wr => ∃ r : Nat, r ≤ 4 ∧ i = .int .i64 r ∧ Hid (OwnB wr w.heap.size (some ⟨w.heap.size, 0, none⟩) 16 16 (fillP (rowP r 0) F)) ∧ Hid (Below w.heap.size w wr)) (fun i _ => 4 - (intOf i).toNat)
  case atStart => exact ⟨0, by omega, rfl, HO1, HB1⟩
  case round =>
    obtain ⟨r, hr, rfl, ho, hb⟩ := hrel
    clear HO1 HB1
    by_cases hlt : r < 4
    · obtain ⟨q, HQ, hq9⟩ : ∃ q : Nat, Hid (q = m * r) ∧ q ≤ 9 := ⟨_, Lib.hid rfl, Nat.le_trans (Nat.mul_le_mul hm (show r ≤ 3 by omega)) (by omega)⟩
      have hq : (m : Int) * (r : Int) = (q : Int) := by rw [HQ.out]; simp
      have hd : decide ((r : Int) < 4) = true := decide_eq_true (by omega)
      go_wp2
      go_loopw [7] (fun i wr => ∃ c : Nat, c ≤ 4 ∧ i = .int .i64 c ∧ Hid (OwnB wr w.heap.size (some ⟨w.heap.size, 0, none⟩) 16 16 (fillP (rowP r c) F)) ∧ Hid (Below w.heap.size w wr)) (fun i _ => 4 - (intOf i).toNat)
      case atStart => exact ⟨0, by omega, rfl, ho, hb⟩
      case round =>
        obtain ⟨c, hc, rfl, ho, hb⟩ := hrel
        by_cases hlt2 : c < 4
        · obtain ⟨k, HK, hk16⟩ : ∃ k : Nat, Hid (k = 4 * c + r) ∧ k < 16 := ⟨_, Lib.hid rfl, by omega⟩
          obtain ⟨s, HS, hs16⟩ : ∃ s : Nat, Hid (s = 4 * ((c + q) % 4) + r) ∧ s < 16 := ⟨_, Lib.hid rfl, by omega⟩
          obtain ⟨b, o, rfl, hbb, x, hx, hcx⟩ := (h.below hb.out).at_ hs16
          have hxi := byte_lt x
          have hFk : F k = x := by
            rw [HF.out]
            unfold rowF
            rw [show k / 4 = c by rw [HK.out]; omega, show k % 4 = r by rw [HK.out]; omega, ← HQ.out, ← HS.out]
            simp [List.getD, hx]
          have HFK := Lib.hid hFk
          have hcell := ho.out.cellAt (j := k) (x := (fillP (rowP r c) F)[k]'(by rw [fillP_len]; omega)) (List.getElem?_eq_getElem (by rw [fillP_len]; omega))
          have hfree := ho.out.freeAt k
          clear hx hFk
          go_wp2_with fail
          refine (at_of r 0 _ (k : Int) c _ hlt (by omega) rfl (by rw [HK.out]; omega)).mono ?_
          rintro e w2 ⟨rfl, rfl⟩
          go_wp2_with fail
          refine (at_of r 0 _ (s : Int) (c + q) _ hlt (by omega) (by omega) (by rw [HS.out])).mono ?_
          rintro e w2 ⟨rfl, rfl⟩
          go_wp2
          go_roundw
          case rel =>
            have hset := ho.out.stored k x _ rfl
            rw [← HFK.out, fillP_set _ (rowP r (c + 1)) F k hk16 (fun p hp => by rw [HK.out]; exact rowP_next r c p hlt hlt2 hp), HFK.out] at hset
            exact ⟨c + 1, by omega, by go_num, Lib.hid hset, Lib.hid (hb.out.setCell (show w.heap.size ≤ w.heap.size from Nat.le_refl _) _)⟩
          case measure => simp [intOf]; omega
        · obtain rfl : 4 = c := by omega
          have e4 : ((4 : Nat) : Int) = 4 := rfl
          rw [e4]
          clear e4
          go_wp2
          go_roundw
          case rel =>
            have ho2 := ho.out
            rw [fillP_congr _ (rowP (r + 1) 0) F (fun p hp => rowP_turn r p hp)] at ho2
            exact ⟨r + 1, by omega, by go_num, Lib.hid ho2, hb⟩
          case measure => simp [intOf]; omega
    · obtain rfl : 4 = r := by omega
      go_wp2
      go_ret
      have ho2 := ho.out
      rw [fillP_all _ F (fun p hp => by unfold rowP; simp; omega), HF.out] at ho2
      exact ⟨_, _, rfl, ho2, hb.out⟩
/-- rows where the step is a literal. -/
theorem rows_lit (A : Option Addr) (c0 m : Nat) (M : Int) (l : List UInt8) (w : World) (hM : (m : Int) = M) (h : RB w w.heap.size A 16 l) (hm : m ≤ 3) :
    Calls Try.prog 34 #[.slice A 16 c0, .int .i64 M] w (RetB 16 (rowsL l m) w) := by subst hM; exact rows_any A c0 m l w h hm

/-- Filled column by column, up to column c and row r. -/
def colP (c r p : Nat) : Bool := decide (p / 4 < c) || (p / 4 == c && decide (p % 4 < r))
theorem colP_next (c r p : Nat) (hr : r < 4) (hc : c < 4) (hp : p < 16) : colP c (r + 1) p = (colP c r p || p == 4 * c + r) := by
  unfold colP
  rw [Bool.eq_iff_iff]
  simp
  omega
theorem colP_turn (c p : Nat) (hp : p < 16) : colP c 4 p = colP (c + 1) 0 p := by
  unfold colP
  rw [Bool.eq_iff_iff]
  simp
  omega

set_option maxRecDepth 100000 in
set_option maxHeartbeats 2000000 in
theorem columns_any (A : Option Addr) (c0 : Nat) (l : List UInt8) (f0 f1 f2 f3 : UInt8) (w : World) (h : RB w w.heap.size A 16 l) :
    Calls Try.prog 35 #[.slice A 16 c0, .agg #[.int .u8 (f0.toNat : Int), .int .u8 (f1.toNat : Int), .int .u8 (f2.toNat : Int), .int .u8 (f3.toNat : Int)]] w (RetB 16 (columnsL l [f0, f1, f2, f3]) w) := by
  obtain ⟨fl, HFL⟩ : ∃ fl : List UInt8, Hid (fl = [f0, f1, f2, f3]) := ⟨_, Lib.hid rfl⟩
  obtain ⟨F, HF⟩ : ∃ F, Hid (F = colF l fl) := ⟨_, Lib.hid rfl⟩
  obtain ⟨g0, HG0⟩ : ∃ g0, Hid (g0 = w.heap.size) := ⟨_, Lib.hid rfl⟩
  rw [← HFL.out]
  go_enter Try.func35, Try.ntmps35
  go_wp2_with (at_make; refine wpList_mk rfl _ _ rfl w.heap.size .i64 .i64 16 16 16 rfl rfl rfl rfl (by omega) (by simp) ?_; intro w1 hown1 hs1 hb1)
  have hcf := (Cells.new w #[.int .u8 (f0.toNat : Int), .int .u8 (f1.toNat : Int), .int .u8 (f2.toNat : Int), .int .u8 (f3.toNat : Int)] 46 4 rfl (fun j => bv (fl.getD j 0)) (fun j hj => by
    rw [HFL.out]
    rcases (show j = 0 ∨ j = 1 ∨ j = 2 ∨ j = 3 by omega) with rfl | rfl | rfl | rfl <;> rfl) w.heap.size rfl).below hb1 (by simp)
  have hown2 : OwnB w1 w.heap.size (some ⟨w.heap.size + 1, 0, none⟩) 16 16 (fillP (colP 0 0) F) := by
    rw [← fillP_none (colP 0 0) F (fun p _ => by unfold colP; simp)]
    simpa using hown1
  have hbel : Below w.heap.size w w1 := ((Below.refl _ _).alloc (Nat.le_refl _) _).trans (hb1.mono (by simp))
  have HCF := Lib.hid hcf
  have HO1 := Lib.hid hown2
  have HB1 := Lib.hid hbel
  clear hcf hown1 hown2 hs1 hb1 hbel
  rw [← HG0.out] at HCF HO1 HB1
  rw [← HG0.out]
  go_loopw [6] (fun i wr => ∃ c : Nat, c ≤ 4 ∧ i = .int .i64 c ∧ Hid (Cells wr g0 4 (fun j => bv (fl.getD j 0))) ∧ Hid (OwnB wr g0 (some ⟨g0 + 1, 0, none⟩) 16 16 (fillP (colP c 0) F)) ∧ Hid (Below g0 w wr)) (fun i _ => 4 - (intOf i).toNat)
  case atStart => exact ⟨0, by omega, rfl, HCF, HO1, HB1⟩
  case round =>
    obtain ⟨c, hc, rfl, hf, ho, hb⟩ := hrel
    clear HCF HO1 HB1
    by_cases hlt : c < 4
    · have hdc : decide ((c : Int) < 4) = true := decide_eq_true (by omega)
      go_wp2
      go_loopw [7] (fun i wr => ∃ r : Nat, r ≤ 4 ∧ i = .int .i64 r ∧ Hid (Cells wr g0 4 (fun j => bv (fl.getD j 0))) ∧ Hid (OwnB wr g0 (some ⟨g0 + 1, 0, none⟩) 16 16 (fillP (colP c r) F)) ∧ Hid (Below g0 w wr)) (fun i _ => 4 - (intOf i).toNat)
      case atStart => exact ⟨0, by omega, rfl, hf, ho, hb⟩
      case round =>
        obtain ⟨r, hr, rfl, hf, ho, hb⟩ := hrel
        by_cases hlt2 : r < 4
        · have hdr : decide ((r : Int) < 4) = true := decide_eq_true (by omega)
          go_wp2
          go_loopw [8, 9] (fun v i wr => ∃ k : Nat, k ≤ 4 ∧ i = .int .i64 k ∧ v = .int .u8 ((colUp l fl c r k).toNat : Int) ∧ Hid (Cells wr g0 4 (fun j => bv (fl.getD j 0))) ∧ Hid (OwnB wr g0 (some ⟨g0 + 1, 0, none⟩) 16 16 (fillP (colP c r) F)) ∧ Hid (Below g0 w wr)) (fun _ i _ => 4 - (intOf i).toNat)
          case atStart => exact ⟨0, by omega, rfl, rfl, hf, ho, hb⟩
          case round =>
            obtain ⟨k, hk, rfl, rfl, hf, ho, hb⟩ := hrel
            by_cases hlt3 : k < 4
            · obtain ⟨e, HE, he4⟩ : ∃ e : Nat, Hid (e = (k + 4 - r) % 4) ∧ e < 4 := ⟨_, Lib.hid rfl, Nat.mod_lt _ (by omega)⟩
              have hcf := hf.out.cell he4
              obtain ⟨fe, HFE⟩ : ∃ fe, Hid (fe = fl.getD e 0) := ⟨_, Lib.hid rfl⟩
              rw [← HFE.out] at hcf
              unfold bv at hcf
              obtain ⟨s, HS, hs16⟩ : ∃ s : Nat, Hid (s = 4 * c + k) ∧ s < 16 := ⟨_, Lib.hid rfl, by omega⟩
              obtain ⟨b, o, rfl, hbb, x, hx, hcx⟩ := (h.below (by rw [HG0.out] at hb; exact hb.out)).at_ hs16
              have hxi := byte_lt x
              have hfi := byte_lt fe
              have hxor := xor_byte (colUp l fl c r k) (mulB fe x)
              have hnext : colUp l fl c r (k + 1) = colUp l fl c r k ^^^ mulB fe x := by
                rw [colUp, ← HE.out, ← HFE.out, ← HS.out]
                simp [List.getD, hx]
              have HN := Lib.hid hnext
              have hw1 : IntKind.i64.wrap ((k : Int) + 4) = (k : Int) + 4 := IntWalk.i64_in _ (by omega)
              have hw2 : IntKind.i64.wrap ((k : Int) + 4 - (r : Int)) = (k : Int) + 4 - (r : Int) := IntWalk.i64_in _ (by omega)
              have hw3 : Int.tmod ((k : Int) + 4 - (r : Int)) 4 = (e : Int) := by rw [HE.out, Int.tmod_eq_emod_of_nonneg (by omega)]; omega
              have hw4 : ((k : Int) + 4 - (r : Int)) % 4 = (e : Int) := by rw [HE.out]; omega
              clear hx hnext
              go_wp2_with fail
              go_quiet ((first | (go_at_call 49; exact quiet_left (at_of k 0 _ (s : Int) c _ hlt3 (by omega) rfl (by rw [HS.out]; omega))) | (go_at_call 25; exact quiet_left (rmul_any _ _ _))))
              go_wp2
              go_roundw
              case rel => exact ⟨k + 1, by omega, by go_num, by rw [HN.out, UInt8.toNat_xor], Lib.hid (hf.out.drewN _), Lib.hid (ho.out.drewN _), Lib.hid (below_drewN hb.out _)⟩
              case measure => simp [intOf]; omega
            · obtain rfl : 4 = k := by omega
              have e4 : ((4 : Nat) : Int) = 4 := rfl
              rw [e4]
              clear e4
              obtain ⟨s, HS, hs16⟩ : ∃ s : Nat, Hid (s = 4 * c + r) ∧ s < 16 := ⟨_, Lib.hid rfl, by omega⟩
              obtain ⟨v, HV⟩ : ∃ v, Hid (v = colUp l fl c r 4) := ⟨_, Lib.hid rfl⟩
              rw [← HV.out]
              have hFs : F s = v := by
                rw [HF.out, HV.out]
                unfold colF
                rw [show s / 4 = c by rw [HS.out]; omega, show s % 4 = r by rw [HS.out]; omega]
              have HFS := Lib.hid hFs
              have hcell := ho.out.cellAt (j := s) (x := (fillP (colP c r) F)[s]'(by rw [fillP_len]; omega)) (List.getElem?_eq_getElem (by rw [fillP_len]; omega))
              have hfree := ho.out.freeAt s
              clear hFs
              go_wp2_with fail
              refine (at_of r 0 _ (s : Int) c _ hlt2 (by omega) rfl (by rw [HS.out]; omega)).mono ?_
              rintro e w2 ⟨rfl, rfl⟩
              go_wp2
              go_roundw
              case rel =>
                have hset := ho.out.stored s v _ rfl
                rw [← HFS.out, fillP_set _ (colP c (r + 1)) F s hs16 (fun p hp => by rw [HS.out]; exact colP_next c r p hlt2 hlt hp), HFS.out] at hset
                exact ⟨r + 1, by omega, by go_num, Lib.hid (hf.out.other (a := ⟨g0 + 1, s, none⟩) (show g0 + 1 ≠ g0 by omega) _), Lib.hid hset, Lib.hid (hb.out.setCell (show g0 ≤ g0 + 1 by omega) _)⟩
              case measure => simp [intOf]; omega
        · obtain rfl : 4 = r := by omega
          have e4 : ((4 : Nat) : Int) = 4 := rfl
          rw [e4]
          clear e4
          go_wp2
          go_roundw
          case rel =>
            have ho2 := ho.out
            rw [fillP_congr _ (colP (c + 1) 0) F (fun p hp => colP_turn c p hp)] at ho2
            exact ⟨c + 1, by omega, by go_num, hf, Lib.hid ho2, hb⟩
          case measure => simp [intOf]; omega
    · obtain rfl : 4 = c := by omega
      go_wp2
      go_ret
      have ho2 := ho.out
      rw [fillP_all _ F (fun p hp => by unfold colP; simp; omega), HF.out, HG0.out] at ho2
      refine ⟨_, _, rfl, ?_, by rw [← HG0.out]; exact hb.out⟩
      rw [← HG0.out] at ho2 ⊢
      exact ho2
end Go.Proofs.Ytbpbpkmjkbndbaa
