/- The reference of layer 3 (aes) for the rounds' keys. Conditions: the slices' cells are readable, the key of 16 bytes, the table of 256. -/
import Derived.Test.YtbpbpkmjkbndbaaAesKeyFn
import Derived.Test.YtbpbpkmjkbndbaaRefAes3
import Derived.Test.YtbpbpkmjkbndbaaRowsOwn
import Derived.Deep.RegionHeld3
namespace Go.Proofs.Ytbpbpkmjkbndbaa
open Go.RowKit
set_option linter.unusedVariables false

theorem cut_mul (A : Option Addr) (c k : Nat) (hk : k < 4) (hc : 16 ≤ c) (W : World) : (Instr.slice 22 (.slice A 16 c) (some (.int .i64 (4 * (k : Int)))) (some (.int .i64 (4 * (k : Int) + 4))) none).run Try.prog W = .ok (.slice (cutA A c (4 * k)) 4 (c - 4 * k)) W := by
  have h := cut_lh A 16 c (4 * k) (4 * k + 4) (by omega) (by omega) W
  rw [show ((4 * k : Nat) : Int) = 4 * (k : Int) by omega, show ((4 * k + 4 : Nat) : Int) = 4 * (k : Int) + 4 by omega, show 4 * k + 4 - 4 * k = 4 by omega] at h
  exact h
theorem rpow_lit (X N Z : Int) (x : UInt8) (n : Nat) (hx : (x.toNat : Int) = X) (hn : (n : Int) = N) (hm : n ≤ 18446744073709551615) (hz : ((powN x n).toNat : Int) = Z) (w : World) :
    Calls Try.prog 29 #[.int .u8 X, .int .u64 N] w fun e w' => e = .returned (.int .u8 Z) ∧ w = w' := by
  subst hx; subst hn; subst hz
  have h := rpow_any x n w hm
  rw [powB_eq] at h
  exact h
/-- A call that gives rows of the call's own. -/
def RetRows (ps : List (List UInt8)) (w : World) (e : Ending) (w' : World) : Prop :=
  ∃ A c, e = .returned (.slice A ps.length c) ∧ OwnR w' w.heap.size A ps.length c ps ∧ Below w.heap.size w w'
theorem wordsInit_at (key : List UInt8) (k : Nat) (hk : k < 4) : (wordsInit key)[k]? = some ((key.take (4 * k + 4)).drop (4 * k)) := by simp [wordsInit, hk]
theorem wordsInit_len (key : List UInt8) : (wordsInit key).length = 4 := by simp [wordsInit]

/-- j words in a row, from the word 4 i on. -/
def keyUp (ws : List (List UInt8)) (i : Nat) : Nat → List UInt8 | 0 => [] | j + 1 => keyUp ws i j ++ ws.getD (4 * i + j) []
theorem keyUp_four (key t : List UInt8) (i : Nat) : keyUp (wordsUp key t 40) i 4 = keyF key t i := by simp [keyUp, keyF]
theorem keysL_len (key t : List UInt8) : (keysL key t).length = 11 := by simp [keysL]
theorem keysL_at (key t : List UInt8) (i : Nat) (hi : i < 11) : (keysL key t)[i]? = some (keyF key t i) := by simp [keysL, hi]

set_option maxRecDepth 100000 in
set_option maxHeartbeats 4000000 in
theorem keys_any (A T : Option Addr) (c0 ct : Nat) (key t : List UInt8) (w : World) (h : RB w w.heap.size A 16 key) (hc0 : 16 ≤ c0) (ht : RB w w.heap.size T 256 t) :
    Calls Try.prog 14 #[.slice A 16 c0, .slice T 256 ct] w (RetRows (keysL key t) w) := by
  have hcut := cut_mul A c0
  have hkl := h.len
  have HKL := Lib.hid hkl
  have H := Lib.hid h
  have HT := Lib.hid ht
  obtain ⟨B, HB⟩ : ∃ B, Hid (B = w.heap.size) := ⟨_, Lib.hid rfl⟩
  have hcut2 := Lib.hid hcut
  clear hkl h ht hcut
  go_enter Try.func14, Try.ntmps14
  go_wp2_with fail
  have HW0 : Hid (OwnR (w.alloc (.cells #[] 22)) B (some ⟨w.heap.size, 0, none⟩) 0 0 ((wordsInit key).take 0)) := Lib.hid (by rw [HB.out]; exact OwnR.lit0 w w.heap.size (Nat.le_refl _))
  have HB0 : Hid (Below B w (w.alloc (.cells #[] 22))) := Lib.hid (by rw [HB.out]; exact below_alloc w _)
  go_loopw [5, 6] (fun v i wr => ∃ (k c1 : Nat) (A1 : Option Addr), k ≤ 4 ∧ i = .int .i64 k ∧ v = .slice A1 k c1 ∧ Hid (OwnR wr B A1 k c1 ((wordsInit key).take k)) ∧ Hid (Below B w wr)) (fun _ i _ => 4 - (intOf i).toNat)
  case atStart => exact ⟨0, 0, _, by omega, rfl, rfl, HW0, HB0⟩
  case round =>
    obtain ⟨k, c1, A1, hk, rfl, rfl, ho, hb⟩ := hrel
    clear HW0 HB0
    by_cases hlt : k < 4
    · have hcut := fun W => hcut2.out k hlt hc0 W
      have hsz := hb.out.size
      have hBw : B ≤ wr.heap.size := by rw [HB.out]; exact hsz
      have hpart := ((H.out.below (by rw [← HB.out]; exact hb.out)).part (i := 4 * k) (j := 4 * k + 4) (by omega) (by omega) hc0).alloc hsz (.cells #[] 5)
      rw [show 4 * k + 4 - 4 * k = 4 by omega] at hpart
      have HP := Lib.hid hpart
      clear hpart
      obtain ⟨q, HQ⟩ : ∃ q, Hid (q = (key.take (4 * k + 4)).drop (4 * k)) := ⟨_, Lib.hid rfl⟩
      rw [← HQ.out] at HP
      go_wp2_with (first
        | (at_builtin; refine wpList_app rfl (.tmp 19) (.tmp 26) rfl wr.heap.size (some ⟨wr.heap.size, 0, none⟩) 0 0 [] rfl (by exact OwnB.lit wr _ [] _ 0 rfl rfl (by unfold maxLen; omega) (Nat.le_refl _)) w.heap.size (cutA A c0 (4 * k)) 4 (c0 - 4 * k) q rfl (by exact HP.out) (by omega) (by simp) ?_; intro A2 c2 w2 hown2 _ hb2; have HB2 : Hid (Below wr.heap.size wr w2) := Lib.hid ((below_alloc wr _).trans hb2); have HQ2 : Hid (OwnB w2 wr.heap.size A2 4 c2 q) := Lib.hid (by simpa using hown2); clear hown2 hb2)
        | (at_builtin; refine wpList_appR rfl (.tmp 18) (.tmp 28) rfl B A1 k c1 ((wordsInit key).take k) rfl (by exact (ho.out.below HB2.out).below (below_alloc _ _)) w2.heap.size 1 A2 4 c2 q rfl (by exact cell_one _ _ _) (by exact (HQ2.out.base_le hBw).below (below_alloc _ _)) (by omega) (by exact Nat.le_trans hBw (Nat.le_trans HB2.out.size (by simp))) ?_; intro A3 c3 w3 hown3 hk3 hb3))
      go_roundw
      case rel =>
        refine ⟨k + 1, c3, A3, by omega, by go_num, rfl, Lib.hid ?_, Lib.hid (((hb.out.trans (HB2.out.mono hBw)).trans ((below_alloc w2 _).mono (Nat.le_trans hBw HB2.out.size))).trans hb3)⟩
        rw [take_row (wordsInit_at key k hlt), ← HQ.out]
        exact hown3
      case measure => simp [intOf]; omega
    · obtain rfl : 4 = k := by omega
      have HO4 : Hid (OwnR wr B A1 (0 + 4) c1 (wordsUp key t 0)) := Lib.hid (by
        have h := ho.out
        rw [List.take_of_length_le (by rw [wordsInit_len]; omega)] at h
        exact h)
      have e4 : ((4 : Nat) : Int) = 4 := rfl
      rw [e4]
      clear ho e4
      go_wp2_with fail
      go_loopw [5, 7] (fun v i ws => ∃ (k c1 : Nat) (A1 : Option Addr), k ≤ 40 ∧ i = .int .i64 ((k : Int) + 4) ∧ v = .slice A1 (k + 4) c1 ∧ Hid (OwnR ws B A1 (k + 4) c1 (wordsUp key t k)) ∧ Hid (Below B w ws)) (fun _ i _ => 44 - (intOf i).toNat)
      case atStart => exact ⟨0, c1, A1, by omega, rfl, rfl, HO4, hb⟩
      case round =>
        obtain ⟨k, c2, A2, hk2, rfl, rfl, ho, hbs⟩ := hrel
        clear HO4
        have hsz := hbs.out.size
        have hBw : B ≤ wr.heap.size := by rw [HB.out]; exact hsz
        by_cases hlt2 : k < 40
        · obtain ⟨g, p, Ai, ci, rfl, hgB, hp, hcp, hop⟩ := ho.out.at_ (k := k + 3) (by omega)
          obtain ⟨g', q, Aj, cj, eg, _, hq, hcq, hoq⟩ := ho.out.at_ (k := k) (by omega)
          injection eg with eg
          injection eg with eg
          subst eg
          rw [wordsUp_row key t HKL.out k _ p hp] at hcp hop
          rw [wordsUp_row key t HKL.out k _ q hq] at hcq hoq
          have HOP := Lib.hid hop
          have HOQ := Lib.hid hoq
          have HNX : Hid (wordsUp key t (k + 1) = wordsUp key t k ++ [xorL q (turnW t p (k + 4))]) := Lib.hid (by
            rw [wordsUp_succ]
            rw [show (wordsUp key t k).getD k [] = q by simp [List.getD, hq], show (wordsUp key t k).getD (k + 3) [] = p by simp [List.getD, hp]])
          clear hp hq hop hoq
          by_cases hm : (k + 4) % 4 = 0
          · have hmi : (((k : Int) + 4) % 4 == 0) = true := by rw [beq_iff_eq]; omega
            obtain ⟨s, HS⟩ : ∃ s : List UInt8, Hid (s = subsL t [p.getD 1 0, p.getD 2 0, p.getD 3 0, p.getD 0 0]) := ⟨_, Lib.hid rfl⟩
            obtain ⟨x0, HX0⟩ : ∃ x0, Hid (x0 = s.getD 0 0) := ⟨_, Lib.hid rfl⟩
            obtain ⟨r, HR, hr9⟩ : ∃ r : Nat, Hid (r = (k + 4) / 4 - 1) ∧ r ≤ 9 := ⟨_, Lib.hid rfl, by omega⟩
            obtain ⟨z, HZ⟩ : ∃ z, Hid (z = powN 2 r) := ⟨_, Lib.hid rfl⟩
            obtain ⟨y, HY⟩ : ∃ y, Hid (y = x0 ^^^ z) := ⟨_, Lib.hid rfl⟩
            have HTW : Hid (turnW t p (k + 4) = s.set 0 y) := Lib.hid (by unfold turnW turn0; rw [if_pos hm, ← HS.out, ← HX0.out, ← HR.out, ← HZ.out, ← HY.out])
            have hsl : s.length = 4 := by rw [HS.out]; simp [subsL]
            have hx0s : s[0]? = some x0 := by rw [HX0.out, List.getD_eq_getElem?_getD, List.getElem?_eq_getElem (by omega)]; rfl
            have HSL := Lib.hid hsl
            have HX0S := Lib.hid hx0s
            have hxy := xor_byte x0 z
            rw [← HY.out] at hxy
            have hpl := HOP.out.len
            obtain ⟨gp, rfl, _, hgp2⟩ := HOP.out.form (by omega)
            obtain ⟨a0, ha0⟩ := getAt p 4 0 hpl (by omega)
            obtain ⟨a1, ha1⟩ := getAt p 4 1 hpl (by omega)
            obtain ⟨a2, ha2⟩ := getAt p 4 2 hpl (by omega)
            obtain ⟨a3, ha3⟩ := getAt p 4 3 hpl (by omega)
            have q0 := HOP.out.cellAt ha0
            have q1 := HOP.out.cellAt ha1
            have q2 := HOP.out.cellAt ha2
            have q3 := HOP.out.cellAt ha3
            have HSA : Hid (s = subsL t [a1, a2, a3, a0]) := Lib.hid (by rw [HS.out]; simp [List.getD, ha0, ha1, ha2, ha3])
            have HWZ : Hid (IntKind.u64.wrap (IntKind.i64.wrap (IntKind.i64.wrap (Int.tdiv ((k : Int) + 4) 4) - 1)) = (r : Int)) := Lib.hid (by
              rw [Int.tdiv_eq_ediv_of_nonneg (by omega), IntWalk.i64_in (((k : Int) + 4) / 4) (by omega), IntWalk.i64_in _ (by omega), IntKind.wrap_u64, HR.out]
              omega)
            have HTR : Hid (RB wr wr.heap.size T 256 t) := Lib.hid ((HT.out.below (by rw [← HB.out]; exact hbs.out)).more hsz)
            clear hm hsl hx0s hpl ha0 ha1 ha2 ha3
            have keep2 : ∀ W : World, Below wr.heap.size wr W → W.cell? ⟨gp, 0, none⟩ = some (.int .u8 (a0.toNat : Int)) ∧ W.cell? ⟨gp, 1, none⟩ = some (.int .u8 (a1.toNat : Int)) ∧ W.cell? ⟨gp, 2, none⟩ = some (.int .u8 (a2.toNat : Int)) ∧ W.cell? ⟨gp, 3, none⟩ = some (.int .u8 (a3.toNat : Int)) := fun W hW =>
              ⟨(hW.cell (p := ⟨gp, 0, none⟩) hgp2).trans q0, (hW.cell (p := ⟨gp, 1, none⟩) hgp2).trans q1, (hW.cell (p := ⟨gp, 2, none⟩) hgp2).trans q2, (hW.cell (p := ⟨gp, 3, none⟩) hgp2).trans q3⟩
            have KEEP := Lib.hid keep2
            clear keep2
            go_wp2_with fail
            go_region_held3 (fun w' => w'.cell? ⟨gp, 0, none⟩ = some (.int .u8 (a0.toNat : Int)) ∧ w'.cell? ⟨gp, 1, none⟩ = some (.int .u8 (a1.toNat : Int)) ∧ w'.cell? ⟨gp, 2, none⟩ = some (.int .u8 (a2.toNat : Int)) ∧ w'.cell? ⟨gp, 3, none⟩ = some (.int .u8 (a3.toNat : Int))) (go_keep)
              (first | (go_at_call 28; refine (subs_any _ T 4 4 ct [a1, a2, a3, a0] t _ (by exact RB.lit wr.drew [a1, a2, a3, a0] _ 4 _ rfl rfl rfl) (by exact (HTR.out.alloc (Nat.le_refl _) _).more (by simp)) (by omega)).mono ?_; rintro e w2 ⟨A3, c3, rfl, ho3, hb3⟩; have HO3 := Lib.hid ho3; have HB3 : Hid (Below wr.heap.size wr w2) := Lib.hid ((Below.refl wr.heap.size wr).drew.trans (show Below wr.heap.size wr.drew w2 from (below_alloc wr.drew _).trans (hb3.mono (by simp)))); clear ho3 hb3; obtain ⟨k0, k1, k2, k3⟩ := KEEP.out w2 HB3.out))
            have ho3 := HO3.out
            rw [← HSA.out] at ho3
            have ho3b := ho3.base_le (base' := wr.heap.size) (by simp)
            obtain ⟨g3, rfl, hg3a, hg3b⟩ := ho3b.form (by omega)
            have c30 := ho3.cellAt HX0S.out
            have f30 := ho3.freeAt 0
            have HO4 := Lib.hid ho3b
            clear ho3 ho3b HO3 k0 k1 k2 k3
            have hxi := byte_lt x0
            have hzi := byte_lt z
            go_wp2_with fail
            go_region_with (go_at_call 29; rw [HWZ.out]; refine (rpow_lit 2 _ (z.toNat : Int) 2 r rfl rfl (by omega) (by rw [HZ.out]) _).mono ?_; rintro e w3 ⟨rfl, rfl⟩)
            all_goals
              have HB5 : Hid (Below wr.heap.size wr (w2.setCell ⟨g3, 0, none⟩ (.int .u8 (y.toNat : Int))).drew) := Lib.hid (HB3.out.setCell hg3a _).drew
              have HO5 : Hid (OwnB (w2.setCell ⟨g3, 0, none⟩ (.int .u8 (y.toNat : Int))).drew wr.heap.size (some ⟨g3, 0, none⟩) 4 c3 (s.set 0 y)) := Lib.hid (HO4.out.stored 0 y _ rfl).drew
              have hglt : g < wr.heap.size := World.block_lt_of_cell? wr _ hcq
              have hcq2 : w2.cell? ⟨g, k, none⟩ = some (.slice Aj 4 cj) := (HB3.out.cell (p := ⟨g, k, none⟩) hglt).trans hcq
              have hne1 : ¬ g3 = g := by omega
              have hne2 : ¬ g = g3 := by omega
              go_wp2_with fail
              refine (radd_any _ _ 4 _ _ q (s.set 0 y) _ (by exact (HOQ.out.below HB5.out).rb) (by exact HO5.out.rb) (by omega)).mono ?_
              rintro e w4 ⟨A5, c5, rfl, ho6, hb6⟩
              have HO6 := Lib.hid ho6
              have HB6 : Hid (Below wr.heap.size wr w4) := Lib.hid (HB5.out.trans (hb6.mono HB5.out.size))
              have hsz5 := HB5.out.size
              clear ho6 hb6
              go_wp2_with (at_builtin; refine wpList_appR rfl (.tmp 67) (.tmp 75) rfl B (some ⟨g, 0, none⟩) (k + 4) c2 (wordsUp key t k) rfl (by exact (ho.out.below HB6.out).below (below_alloc _ _)) w4.heap.size 1 A5 4 c5 (xorL q (s.set 0 y)) rfl (by exact cell_one _ _ _) (by exact (HO6.out.base_le (Nat.le_trans hBw hsz5)).below (below_alloc _ _)) (by omega) (by exact Nat.le_trans hBw (Nat.le_trans HB6.out.size (by simp))) ?_; intro A7 c7 w7 hown7 hk7 hb7)
              go_roundw
              case rel =>
                refine ⟨k + 1, c7, A7, by omega, by go_num, by rw [Nat.add_right_comm], Lib.hid ?_, Lib.hid (((hbs.out.trans (HB6.out.mono hBw)).trans ((below_alloc w4 _).mono (Nat.le_trans hBw HB6.out.size))).trans hb7)⟩
                rw [HNX.out, HTW.out, Nat.add_right_comm]
                exact hown7
              case measure => simp [intOf]; omega
          · have hmi : (((k : Int) + 4) % 4 == 0) = false := by rw [beq_eq_false_iff_ne]; omega
            have HTW : Hid (turnW t p (k + 4) = p) := Lib.hid (by unfold turnW; rw [if_neg hm])
            clear hm
            go_wp2_with fail
            refine (radd_any _ _ 4 _ _ q p _ (by exact HOQ.out.rb) (by exact HOP.out.rb) (by omega)).mono ?_
            rintro e w2 ⟨A3, c3, rfl, ho3, hb3⟩
            have HO3 := Lib.hid ho3
            have HB3 := Lib.hid hb3
            clear ho3 hb3
            go_wp2_with (at_builtin; refine wpList_appR rfl (.tmp 67) (.tmp 75) rfl B (some ⟨g, 0, none⟩) (k + 4) c2 (wordsUp key t k) rfl (by exact (ho.out.below HB3.out).below (below_alloc _ _)) w2.heap.size 1 A3 4 c3 (xorL q p) rfl (by exact cell_one _ _ _) (by exact (HO3.out.base_le hBw).below (below_alloc _ _)) (by omega) (by exact Nat.le_trans hBw (Nat.le_trans HB3.out.size (by simp))) ?_; intro A4 c4 w4 hown4 hk4 hb4)
            go_roundw
            case rel =>
              refine ⟨k + 1, c4, A4, by omega, by go_num, by rw [Nat.add_right_comm], Lib.hid ?_, Lib.hid (((hbs.out.trans (HB3.out.mono hBw)).trans ((below_alloc w2 _).mono (Nat.le_trans hBw HB3.out.size))).trans hb4)⟩
              rw [HNX.out, HTW.out, Nat.add_right_comm]
              exact hown4
            case measure => simp [intOf]; omega
        · obtain rfl : 40 = k := by omega
          have e40 : ((40 : Nat) : Int) + 4 = 44 := rfl
          have HW : Hid (OwnR wr B A2 44 c2 (wordsUp key t 40)) := Lib.hid ho.out
          have e44 : (40 : Nat) + 4 = 44 := rfl
          rw [e40, e44]
          clear e40 e44 ho
          obtain ⟨w0, ew0⟩ : ∃ w0 : World, w0 = wr := ⟨_, rfl⟩
          subst ew0
          go_wp2_with fail
          have HOUT : Hid (OwnR (w0.alloc (.cells #[] 22)) w0.heap.size (some ⟨w0.heap.size, 0, none⟩) 0 0 ((keysL key t).take 0)) := Lib.hid (OwnR.lit0 w0 _ (Nat.le_refl _))
          have HBO : Hid (Below w0.heap.size w0 (w0.alloc (.cells #[] 22))) := Lib.hid (below_alloc w0 _)
          go_loopw [9, 10] (fun v i ws => ∃ (i' c9 : Nat) (A9 : Option Addr), i' ≤ 11 ∧ i = .int .i64 i' ∧ v = .slice A9 i' c9 ∧ Hid (OwnR ws w0.heap.size A9 i' c9 ((keysL key t).take i')) ∧ Hid (Below w0.heap.size w0 ws)) (fun _ i _ => 11 - (intOf i).toNat)
          case atStart => exact ⟨0, 0, _, by omega, rfl, rfl, HOUT, HBO⟩
          case round =>
            obtain ⟨i, c9, A9, hi, rfl, rfl, hout, hbo⟩ := hrel
            clear HOUT HBO
            obtain ⟨wo, ewo⟩ : ∃ wo : World, wo = wr := ⟨_, rfl⟩
            subst ewo
            have hos := hbo.out.size
            by_cases hlt3 : i < 11
            · have hd11 : decide ((i : Int) < 11) = true := decide_eq_true (by omega)
              have HK0 : Hid (OwnB (wo.alloc (.cells #[] 5)) wo.heap.size (some ⟨wo.heap.size, 0, none⟩) 0 0 (keyUp (wordsUp key t 40) i 0)) := Lib.hid (OwnB.lit wo _ [] _ 0 rfl rfl (by unfold maxLen; omega) (Nat.le_refl _))
              have HWO : Hid (OwnR wo B A2 44 c2 (wordsUp key t 40)) := Lib.hid (HW.out.below hbo.out)
              go_wp2_with fail
              go_loopw [11, 12] (fun v j wi => ∃ (j' c11 : Nat) (A11 : Option Addr), j' ≤ 4 ∧ j = .int .i64 j' ∧ v = .slice A11 (4 * j') c11 ∧ Hid (OwnB wi wo.heap.size A11 (4 * j') c11 (keyUp (wordsUp key t 40) i j')) ∧ Hid (Below wo.heap.size wo wi)) (fun _ j _ => 4 - (intOf j).toNat)
              case atStart => exact ⟨0, 0, _, by omega, rfl, rfl, HK0, Lib.hid (below_alloc _ _)⟩
              case round =>
                obtain ⟨j, c11, A11, hj, rfl, rfl, hk, hbi⟩ := hrel
                clear HK0
                have hszi := hbi.out.size
                by_cases hlt4 : j < 4
                · obtain ⟨g, p, Ai, ci, rfl, hgB, hp, hcp, hop⟩ := (HWO.out.below hbi.out).at_ (k := 4 * i + j) (by omega)
                  rw [wordsUp_row key t HKL.out 40 _ p hp] at hcp hop
                  have HNX : Hid (keyUp (wordsUp key t 40) i (j + 1) = keyUp (wordsUp key t 40) i j ++ p) := Lib.hid (by
                    rw [keyUp, show (wordsUp key t 40).getD (4 * i + j) [] = p by simp [List.getD, hp]])
                  have hrb := hop.rb
                  clear hp hop
                  go_wp2_with (at_builtin; refine wpList_app rfl (.tmp 87) (.tmp 94) rfl wo.heap.size A11 (4 * j) c11 _ rfl (by exact hk.out) _ Ai 4 ci p rfl (by exact hrb) (by omega) hszi ?_; intro A12 c12 w12 hown12 _ hb12)
                  go_roundw
                  case rel =>
                    refine ⟨j + 1, c12, A12, by omega, by go_num, by rw [Nat.mul_succ], Lib.hid ?_, Lib.hid (hbi.out.trans hb12)⟩
                    rw [HNX.out, Nat.mul_succ]
                    exact hown12
                  case measure => simp [intOf]; omega
                · obtain rfl : 4 = j := by omega
                  have e4' : ((4 : Nat) : Int) = 4 := rfl
                  rw [e4']
                  clear e4'
                  have HK4 : Hid (OwnB wr wo.heap.size A11 (4 * 4) c11 (keyF key t i)) := Lib.hid (by rw [← keyUp_four]; exact hk.out)
                  go_wp2_with (at_builtin; refine wpList_appR rfl (.tmp 96) (.tmp 98) rfl w0.heap.size A9 i c9 ((keysL key t).take i) rfl (by exact (hout.out.below hbi.out).below (below_alloc _ _)) wr.heap.size 1 A11 (4 * 4) c11 (keyF key t i) rfl (by exact cell_one _ _ _) (by exact (HK4.out.base_le hos).below (below_alloc _ _)) (by omega) (by exact Nat.le_trans hos (Nat.le_trans hszi (by simp))) ?_; intro A13 c13 w13 hown13 hk13 hb13)
                  go_roundw
                  case rel =>
                    refine ⟨i + 1, c13, A13, by omega, by go_num, rfl, Lib.hid ?_, Lib.hid (((hbo.out.trans (hbi.out.mono hos)).trans ((below_alloc wr _).mono (Nat.le_trans hos hszi))).trans hb13)⟩
                    rw [take_row (keysL_at key t i hlt3)]
                    exact hown13
                  case measure => simp [intOf]; omega
            · obtain rfl : 11 = i := by omega
              go_wp2
              go_ret
              have ho2 := hout.out
              rw [List.take_of_length_le (by rw [keysL_len]; omega)] at ho2
              exact ⟨A9, c9, by rw [keysL_len]; rfl, by rw [keysL_len]; exact ho2.base_le hsz, by rw [← HB.out]; exact hbs.out.trans (hbo.out.mono hBw)⟩
end Go.Proofs.Ytbpbpkmjkbndbaa
