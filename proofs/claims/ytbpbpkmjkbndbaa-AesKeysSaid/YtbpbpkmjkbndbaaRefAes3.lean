/- The references of layer 3 (aes), back and Table: the tables of S-box values, both ways. Condition: back's table is Table's. -/
import Derived.Test.YtbpbpkmjkbndbaaRefAes2
namespace Go.Proofs.Ytbpbpkmjkbndbaa
open Go.RowKit
set_option linter.unusedVariables false

theorem byte_k (k : Nat) (hk : k < 256) : (Value.int .u8 (k : Int)) = bv (UInt8.ofNat k) := by
  unfold bv
  rw [show (UInt8.ofNat k).toNat = k by simp; omega]
theorem getAt (l : List UInt8) (n k : Nat) (hl : l.length = n) (hk : k < n) : ∃ x, l[k]? = some x := ⟨l[k]'(by omega), List.getElem?_eq_getElem (by omega)⟩

set_option maxRecDepth 100000 in
set_option maxHeartbeats 1000000 in
theorem back_any (T : Option Addr) (ct : Nat) (w : World) (h : RB w w.heap.size T 256 tableL) :
    Calls Try.prog 37 #[.slice T 256 ct] w (RetB 256 backL w) := by
  obtain ⟨tl, HTL⟩ : ∃ tl, Hid (tl = tableL) := ⟨_, Lib.hid rfl⟩
  obtain ⟨U, HU⟩ : ∃ U : Nat → List UInt8, Hid (U = backUp) := ⟨_, Lib.hid rfl⟩
  rw [← HTL.out] at h
  go_enter Try.func37, Try.ntmps37
  go_wp2_with (at_make; refine wpList_mk rfl _ _ rfl w.heap.size .i64 .i64 256 256 256 rfl rfl rfl rfl (by omega) (Nat.le_refl _) ?_; intro w1 hown1 hs1 hb1)
  have HO1 : Hid (OwnB w1 w.heap.size (some ⟨w.heap.size, 0, none⟩) 256 256 (U 0)) := Lib.hid (by rw [HU.out]; exact hown1)
  have HB1 := Lib.hid hb1
  clear hown1 hs1 hb1
  go_loopw [4] (fun i wr => ∃ k : Nat, k ≤ 256 ∧ i = .int .i64 k ∧ Hid (OwnB wr w.heap.size (some ⟨w.heap.size, 0, none⟩) 256 256 (U k)) ∧ Hid (Below w.heap.size w wr)) (fun i _ => 256 - (intOf i).toNat)
  case atStart => exact ⟨0, by omega, rfl, HO1, HB1⟩
  case round =>
    obtain ⟨k, hk, rfl, ho, hb⟩ := hrel
    by_cases hlt : k < 256
    · obtain ⟨b, o, rfl, hbb, x, hx, hcx⟩ := (h.below hb.out).at_ hlt
      have hxi := byte_lt x
      have hxl := x.toNat_lt
      have hxs : x = subB (UInt8.ofNat k) := by
        have h2 := tableL_at (UInt8.ofNat k)
        rw [show (UInt8.ofNat k).toNat = k by simp; omega, ← HTL.out] at h2
        rw [← h2]
        simp [List.getD, hx]
      have HXS := Lib.hid hxs
      have hcell := ho.out.cellAt (j := x.toNat) (x := (U k)[x.toNat]'(by rw [HU.out, backUp_len]; omega)) (List.getElem?_eq_getElem (by rw [HU.out, backUp_len]; omega))
      have hfree := ho.out.freeAt x.toNat
      have e := byte_k k hlt
      have HE := Lib.hid e
      clear hx hxs e
      go_wp2
      go_roundw
      case rel =>
        have hset := ho.out.stored x.toNat (UInt8.ofNat k) _ rfl
        have hn : (U k).set x.toNat (UInt8.ofNat k) = U (k + 1) := by rw [HU.out, HXS.out]; rfl
        rw [hn, ← HE.out] at hset
        exact ⟨k + 1, by omega, by go_num, Lib.hid hset, Lib.hid (hb.out.setCell (show w.heap.size ≤ w.heap.size from Nat.le_refl _) _)⟩
      case measure => simp [intOf]; omega
    · obtain rfl : 256 = k := by omega
      go_wp2
      go_ret
      have ho2 := ho.out
      rw [HU.out, backUp_end] at ho2
      exact ⟨_, _, rfl, ho2, hb.out⟩

theorem rsign_lit (X Z : Int) (x : UInt8) (hx : (x.toNat : Int) = X) (hz : ((signB x).toNat : Int) = Z) (w : World) :
    Calls Try.prog 26 #[.int .u8 X] w fun e w' => e = .returned (.int .u8 Z) ∧ w = w' := by subst hx; subst hz; exact rsign_any x w
theorem rmul_lit (X Y Z : Int) (x y : UInt8) (hx : (x.toNat : Int) = X) (hy : (y.toNat : Int) = Y) (hz : ((mulB x y).toNat : Int) = Z) (w : World) :
    Calls Try.prog 25 #[.int .u8 X, .int .u8 Y] w fun e w' => e = .returned (.int .u8 Z) ∧ w = w' := by subst hx; subst hy; subst hz; exact rmul_any x y w
/-- The first k powers of 3. -/
def threes (k : Nat) : List UInt8 := (List.range k).map (powN 3)
theorem threes_len (k : Nat) : (threes k).length = k := by simp [threes]
theorem threes_snoc (k : Nat) : threes (k + 1) = threes k ++ [powN 3 k] := by simp [threes, List.range_succ]
theorem threes_at (k j : Nat) (h : j < k) : (threes k)[j]? = some (powN 3 j) := by simp [threes, h]

set_option maxRecDepth 100000 in
set_option maxHeartbeats 2000000 in
theorem table_any (w : World) : Calls Try.prog 11 #[] w (RetB 256 tableL w) := by
  obtain ⟨U, HU⟩ : ∃ U : Nat → List UInt8, Hid (U = tabUp) := ⟨_, Lib.hid rfl⟩
  obtain ⟨P, HP⟩ : ∃ P : Nat → UInt8, Hid (P = powN 3) := ⟨_, Lib.hid rfl⟩
  obtain ⟨Z, HZ⟩ : ∃ Z : UInt8, Hid (Z = signB 0) := ⟨_, Lib.hid rfl⟩
  go_enter Try.func11, Try.ntmps11
  go_wp2_with fail
  go_loopw [1, 2] (fun v i wr => ∃ (k c1 : Nat) (A1 : Option Addr), k ≤ 254 ∧ i = .int .i64 ((k : Int) + 1) ∧ v = .slice A1 (k + 1) c1 ∧ Hid (OwnB wr w.heap.size A1 (k + 1) c1 (threes (k + 1))) ∧ Hid (Below w.heap.size w wr)) (fun _ i _ => 255 - (intOf i).toNat)
  case atStart => exact ⟨0, 1, _, by omega, rfl, rfl, Lib.hid (OwnB.lit w _ (threes 1) #[.int .u8 1] 1 rfl rfl (by unfold maxLen; omega) (Nat.le_refl _)), Lib.hid (below_alloc _ _)⟩
  case round =>
    obtain ⟨k, c1, A1, hk, rfl, rfl, ho, hb⟩ := hrel
    have hsz := hb.out.size
    by_cases hlt : k < 254
    · obtain ⟨g, rfl, hg1, hg2⟩ := ho.out.form (by omega)
      have hcell := ho.out.cellAt (threes_at (k + 1) k (by omega))
      rw [← HP.out] at hcell
      have hpi := byte_lt (P k)
      obtain ⟨y, HY⟩ : ∃ y, Hid (y = powN 3 (k + 1)) := ⟨_, Lib.hid rfl⟩
      go_wp2_with fail
      refine (rmul_lit _ 3 (y.toNat : Int) (P k) 3 rfl rfl (by rw [HY.out, HP.out, powN_succ]) _).mono ?_
      rintro e w2 ⟨rfl, rfl⟩
      have hr1 := RB.new wr [y] #[.int .u8 (y.toNat : Int)] 5 rfl
      have ho1 := ho.out.alloc (.cells #[.int .u8 (y.toNat : Int)] 5)
      go_wp2_with (at_builtin; refine wpList_app rfl (.tmp 10) (.tmp 17) rfl w.heap.size _ _ _ _ rfl (by exact ho1) (wr.heap.size + 1) (some ⟨wr.heap.size, 0, none⟩) 1 1 [y] rfl (by exact hr1) (by omega) (by simp; omega) ?_; intro A2 c2 w2 hown2 _ hb3)
      go_roundw
      case rel =>
        refine ⟨k + 1, c2, A2, by omega, by go_num, rfl, Lib.hid ?_, Lib.hid ((hb.out.alloc hsz _).trans hb3)⟩
        rw [threes_snoc (k + 1), ← HY.out]
        exact hown2
      case measure => simp [intOf]; omega
    · obtain rfl : 254 = k := by omega
      obtain ⟨gp, rfl, hg1, hg2⟩ := ho.out.form (by omega)
      have hpc : Cells wr gp 255 (fun j => bv (P j)) := fun j hj => ⟨by
        have := ho.out.cellAt (threes_at 255 j hj)
        rw [HP.out]
        exact this, ho.out.freeAt j⟩
      have HPC := Lib.hid hpc
      obtain ⟨g2, HG2⟩ : ∃ g2, Hid (g2 = wr.heap.size) := ⟨_, Lib.hid rfl⟩
      have e254 : ((254 : Nat) : Int) + 1 = 255 := rfl
      rw [e254]
      clear hpc e254 ho
      go_wp2_with (at_make; refine wpList_mk rfl _ _ rfl w.heap.size .i64 .i64 256 256 256 rfl rfl rfl rfl (by omega) hsz ?_; intro w1 hown1 hs1 hb1)
      refine (rsign_lit 0 (Z.toNat : Int) 0 rfl (by rw [HZ.out]) _).mono ?_
      rintro e w2 ⟨rfl, rfl⟩
      rw [← HG2.out] at hown1
      rw [← HG2.out]
      have hne : gp ≠ g2 := by rw [HG2.out]; omega
      have hg2w : w.heap.size ≤ g2 := by rw [HG2.out]; exact hsz
      have hcell0 := hown1.cellAt (j := 0) (x := 0) (by rw [List.getElem?_replicate, if_pos (by omega)])
      have hfree0 := hown1.freeAt 0
      have HPC1 := Lib.hid (HPC.out.below hb1 (by rw [← HG2.out]; exact (by rw [HG2.out]; exact hg2)))
      have HO1 := Lib.hid hown1
      have HB1 := Lib.hid (hb.out.trans (hb1.mono hsz))
      clear hown1 hs1 hb1 HPC
      go_wp2_with fail
      go_loopw [4] (fun i ws => ∃ k : Nat, k ≤ 255 ∧ i = .int .i64 k ∧ Hid (OwnB ws w.heap.size (some ⟨g2, 0, none⟩) 256 256 (U k)) ∧ Hid (Cells ws gp 255 (fun j => bv (P j))) ∧ Hid (Below w.heap.size w ws)) (fun i _ => 255 - (intOf i).toNat)
      case atStart =>
        have hset := HO1.out.stored 0 Z _ rfl
        have hu0 : (List.replicate 256 (0 : UInt8)).set 0 Z = U 0 := by rw [HU.out, HZ.out]; rfl
        rw [hu0] at hset
        exact ⟨0, by omega, rfl, Lib.hid hset, Lib.hid (HPC1.out.other (a := ⟨g2, 0, none⟩) (fun e => hne e.symm) _), Lib.hid (HB1.out.setCell hg2w _)⟩
      case round =>
        obtain ⟨k, hk, rfl, ho, hpc, hbs⟩ := hrel
        clear HO1 HB1 HPC1 hcell0 hfree0
        by_cases hlt2 : k < 255
        · obtain ⟨e, HE, he⟩ : ∃ e : Nat, Hid (e = (255 - k) % 255) ∧ e < 255 := ⟨_, Lib.hid rfl, Nat.mod_lt _ (by omega)⟩
          have hp1 := hpc.out.cell hlt2
          have hp2 := hpc.out.cell he
          obtain ⟨x, HX⟩ : ∃ x, Hid (x = P k) := ⟨_, Lib.hid rfl⟩
          obtain ⟨y, HY⟩ : ∃ y, Hid (y = P e) := ⟨_, Lib.hid rfl⟩
          rw [← HX.out] at hp1
          rw [← HY.out] at hp2
          unfold bv at hp1 hp2
          have hxi := byte_lt x
          have hxl := x.toNat_lt
          have hyi := byte_lt y
          have hcell := ho.out.cellAt (j := x.toNat) (x := (U k)[x.toNat]'(by rw [HU.out, tabUp_len]; omega)) (List.getElem?_eq_getElem (by rw [HU.out, tabUp_len]; omega))
          have hfree := ho.out.freeAt x.toNat
          have hw1 : IntKind.i64.wrap (255 - (k : Int)) = 255 - (k : Int) := IntWalk.i64_in _ (by omega)
          have hw3 : Int.tmod (255 - (k : Int)) 255 = (e : Int) := by rw [HE.out, Int.tmod_eq_emod_of_nonneg (by omega)]; omega
          have hw4 : (255 - (k : Int)) % 255 = (e : Int) := by rw [HE.out]; omega
          obtain ⟨v, HV⟩ : ∃ v, Hid (v = signB y) := ⟨_, Lib.hid rfl⟩
          go_wp2_with fail
          go_region_with (go_at_call 26; refine (rsign_lit _ (v.toNat : Int) y rfl (by rw [HV.out]) _).mono ?_; rintro e w2 ⟨rfl, rfl⟩)
          all_goals
            go_wp2
            go_roundw
            case rel =>
              have hset := (ho.out.stored x.toNat v _ rfl).drew
              have hn : (U k).set x.toNat v = U (k + 1) := by rw [HU.out, HX.out, HV.out, HY.out, HP.out, HE.out]; rfl
              rw [hn] at hset
              exact ⟨k + 1, by omega, by go_num, Lib.hid hset, Lib.hid (hpc.out.other (a := ⟨g2, x.toNat, none⟩) (fun e => hne e.symm) _).drew, Lib.hid (hbs.out.setCell hg2w _).drew⟩
            case measure => simp [intOf]; omega
        · obtain rfl : 255 = k := by omega
          go_wp2
          go_ret
          have ho2 := ho.out
          rw [HU.out, tabUp_end] at ho2
          exact ⟨_, _, rfl, ho2, hbs.out⟩
end Go.Proofs.Ytbpbpkmjkbndbaa
