/- Layer 14's lay and invalid. Conditions: the slices' cells are readable, lengths are at most a million. -/
import Derived.Test.YtfipdaekfdbaeaaGreatHvG
namespace Go.Proofs.YtfipdaekfdbaeaaGreat
open Go.RowKit
set_option linter.unusedVariables false
set_option linter.unusedSimpArgs false
theorem hv_or (x y : UInt8) : bits .or .u8 (x.toNat : Int) (y.toNat : Int) = ((x ||| y).toNat : Int) := by
  rw [u8_or_nat _ _ x.toNat_lt y.toNat_lt, UInt8.toNat_or]
/-- A text of which k bytes of a half were laid from place a on. -/
def layN (L l : List UInt8) (a : Nat) : Nat → List UInt8
  | 0 => L
  | k + 1 => (layN L l a k).set (a + k) (gd (layN L l a k) (a + k) ||| gd l k)
theorem lay_len (L l : List UInt8) (a : Nat) : ∀ k, (layN L l a k).length = L.length
  | 0 => rfl
  | k + 1 => by unfold layN; rw [List.length_set, lay_len L l a k]
theorem lay_gd (L l : List UInt8) (a : Nat) : ∀ k, a + k ≤ L.length → ∀ i, gd (layN L l a k) i = if a ≤ i ∧ i < a + k then gd L i ||| gd l (i - a) else gd L i
  | 0, _, i => by unfold layN; rw [if_neg (by omega)]
  | k + 1, h, i => by
    have ih := lay_gd L l a k (by omega)
    unfold layN
    rw [gd_set, lay_len, ih, ih]
    by_cases h1 : i = a + k
    · rw [if_pos (show i = a + k ∧ a + k < L.length by omega), if_neg (show ¬ (a ≤ a + k ∧ a + k < a + k) by omega), if_pos (show a ≤ i ∧ i < a + (k + 1) by omega), h1, show a + k - a = k by omega]
    · rw [if_neg (show ¬ (i = a + k ∧ a + k < L.length) by omega)]
      by_cases h2 : a ≤ i ∧ i < a + k
      · rw [if_pos h2, if_pos (show a ≤ i ∧ i < a + (k + 1) by omega)]
      · rw [if_neg h2, if_neg (show ¬ (a ≤ i ∧ i < a + (k + 1)) by omega)]
theorem lay_both (l r : List UInt8) (n : Nat) (hl : l.length = szN n) (hr : r.length = szN n) (h2 : 2 ≤ n) :
    layN (layN (List.replicate n 0) l 0 (szN n)) r (n - szN n) (szN n) = joinL l r n ∧ layN (layN (List.replicate n 0) r (n - szN n) (szN n)) l 0 (szN n) = joinL l r n := by
  have hs : szN n ≤ n ∧ 2 * szN n = n + n % 2 ∧ 0 < szN n := by unfold szN; omega
  have L1 : (List.replicate n (0 : UInt8)).length = n := by simp
  have key : ∀ i, i < n → gd (joinL l r n) i = gd l i ||| (if i < n - szN n then 0 else gd r (i - (n - szN n))) := fun i hi => by unfold joinL; rw [gd_map, if_pos hi]
  constructor
  · refine gd_ext (by rw [lay_len, lay_len, join_len, L1]) fun i hi => ?_
    rw [lay_len, lay_len, L1] at hi
    rw [lay_gd _ _ _ _ (by rw [lay_len, L1]; omega), lay_gd _ _ _ _ (by rw [L1]; omega), gd_rep, key i hi]
    by_cases h1 : i < szN n
    · rw [if_pos (show 0 ≤ i ∧ i < 0 + szN n by omega), Nat.sub_zero, UInt8.zero_or]
      by_cases h3 : i < n - szN n
      · rw [if_neg (show ¬ (n - szN n ≤ i ∧ i < n - szN n + szN n) by omega), if_pos h3, UInt8.or_zero]
      · rw [if_pos (show n - szN n ≤ i ∧ i < n - szN n + szN n by omega), if_neg h3]
    · rw [if_neg (show ¬ (0 ≤ i ∧ i < 0 + szN n) by omega), if_pos (show n - szN n ≤ i ∧ i < n - szN n + szN n by omega), if_neg (show ¬ i < n - szN n by omega), gd_ge (l := l) (by omega)]
  · refine gd_ext (by rw [lay_len, lay_len, join_len, L1]) fun i hi => ?_
    rw [lay_len, lay_len, L1] at hi
    rw [lay_gd _ _ _ _ (by rw [lay_len, L1]; omega), lay_gd _ _ _ _ (by rw [L1]; omega), gd_rep, key i hi]
    by_cases h1 : i < szN n
    · rw [if_pos (show 0 ≤ i ∧ i < 0 + szN n by omega), Nat.sub_zero]
      by_cases h3 : i < n - szN n
      · rw [if_neg (show ¬ (n - szN n ≤ i ∧ i < n - szN n + szN n) by omega), if_pos h3, UInt8.or_zero, UInt8.zero_or]
      · rw [if_pos (show n - szN n ≤ i ∧ i < n - szN n + szN n by omega), if_neg h3, UInt8.zero_or, UInt8.or_comm]
    · rw [if_neg (show ¬ (0 ≤ i ∧ i < 0 + szN n) by omega), if_pos (show n - szN n ≤ i ∧ i < n - szN n + szN n by omega), if_neg (show ¬ i < n - szN n by omega), gd_ge (l := l) (by omega)]
theorem hv_andn (x y : UInt8) : bits .andNot .u8 (x.toNat : Int) (y.toNat : Int) = ((x &&& ~~~y).toNat : Int) := by
  rw [u8_andNot_nat _ _ x.toNat_lt y.toNat_lt, UInt8.toNat_and, UInt8.toNat_not]
  rfl
attribute [local irreducible] foursL pairsL cutR trimL joinL blockL joinR trimR blockR maskB edgeN layN
set_option maxRecDepth 100000 in
set_option maxHeartbeats 2000000 in
theorem hlay_any (A : Option Addr) (n c a e : Nat) (m : UInt8) (l : List UInt8) (g M cap base : Nat) (L : List UInt8) (w : World) (h : RB w base A n l) (t : OwnB w base (some ⟨g, 0, none⟩) M cap L) (ham : a + n ≤ M) (hM : M ≤ 1000000) :
    Calls Tryz.prog 105 #[.agg (sdC A n c a e m).toArray, .slice (some ⟨g, 0, none⟩) M cap] w fun e w' => e = .returned (.tuple #[]) ∧ OwnB w' base (some ⟨g, 0, none⟩) M cap (layN L l a n) ∧ Oth [g] w w' := by
  have HL := Lib.hid h.len
  have H := Lib.hid h
  have T := Lib.hid t
  have HG : Hid (g < w.heap.size ∧ base ≤ g) := Lib.hid (by have := t.spot _ rfl; exact ⟨this.2.2, this.2.1⟩)
  have HLL := Lib.hid t.len
  clear h t
  go_enter Tryz.func105, Tryz.ntmps105
  go_wp2_with (first
    | (refine wpList_boxB rfl 144 (.tmp 0) rfl (sdC A n c a e m) rfl ?_; intro w1 q hc1 hb1 hx1; have K1 := Lib.hid (And.intro hc1 (And.intro hb1 hx1)); have c0 : w1.cell? ⟨q, 0, none⟩ = some (.slice A n c) := K1.out.1.cell 0; clear hc1 hb1 hx1))
  go_loopw [4, 9] (fun _ i wr => ∃ k : Nat, k ≤ n ∧ i = .int .i64 (k : Int) ∧ Hid (OwnB wr base (some ⟨g, 0, none⟩) M cap (layN L l a k) ∧ Oth [g] w1 wr)) (fun _ i _ => n - (intOf i).toNat)
  case atStart => exact ⟨0, Nat.zero_le _, rfl, Lib.hid ⟨by unfold layN; exact T.out.below K1.out.2.1, Oth.refl _ _⟩⟩
  case round =>
    obtain ⟨k, hk, rfl, HK⟩ := hrel
    have HQ : Hid (q ∉ [g]) := Lib.hid (by have := K1.out.2.2; have := HG.out.1; simp; omega)
    by_cases hlt : k < n
    · have hq1 : wr.cell? ⟨q, 1, none⟩ = some (.int .i64 (a : Int)) := (K1.out.1.oth HK.out.2 HQ.out).cell 1
      have hR : RB wr base A n l := (H.out.keep fun p hp => K1.out.2.1.cell (by have := HG.out; omega)).below (HK.out.2.below (fun j hj => by rw [List.mem_singleton.1 hj]; exact HG.out.2) (by have := HG.out; have := K1.out.2.1.size; omega))
      obtain ⟨b, o, rfl, hb, x, hx, hcl⟩ := hR.at_ hlt
      obtain ⟨p, hp⟩ : ∃ p, p = a + k := ⟨_, rfl⟩
      have hidx : (a : Int) + (k : Int) = (p : Int) := by omega
      have hpM : p < M := by omega
      obtain ⟨y, HY⟩ : ∃ y, Hid (gd (layN L l a k) p = y) := ⟨_, Lib.hid rfl⟩
      have c5 : wr.cell? ⟨g, p, none⟩ = some (.int .u8 (y.toNat : Int)) := by have := HK.out.1.cellAt (gd_lt (i := p) (by rw [lay_len, HLL.out]; exact hpM)); rw [HY.out] at this; exact this
      have f5 : wr.frozen? ⟨g, p, none⟩ = false := HK.out.1.freeAt p
      have hor := hv_or y x
      obtain ⟨z, hz⟩ : ∃ z, y ||| x = z := ⟨_, rfl⟩
      have HZ : Hid (layN L l a (k + 1) = (layN L l a k).set p z) := Lib.hid (by rw [← hz, ← HY.out, ← gd_some hx, hp]; rw [layN])
      rw [hz] at hor
      have S := Lib.hid (HK.out.1.stored p z (.int .u8 (z.toNat : Int)) rfl)
      have SO := Lib.hid (HK.out.2.set (x := g) (by simp) p (.int .u8 (z.toNat : Int)))
      clear hR hx hz
      have HP := Lib.hid hp
      clear hp ham
      go_wp2_with fail
      go_roundw
      case rel => exact ⟨k + 1, by omega, by go_num, Lib.hid ⟨by rw [HZ.out]; exact S.out, SO.out⟩⟩
      case measure => simp [intOf]; omega
    · obtain rfl : k = n := by omega
      go_wp2_with fail
      exact ⟨rfl, _, results_none rfl _ _ _, rfl, HK.out.1, (Oth.of_below K1.out.2.1).trans HK.out.2⟩
set_option maxRecDepth 100000 in
set_option maxHeartbeats 2000000 in
theorem hinv1_any (A : Option Addr) (n c a e : Nat) (m : UInt8) (l : List UInt8) (w : World) (h : RB w w.heap.size A n l) (he : e < n) (v : Bool) (hv : decide (gd l e &&& ~~~m ≠ 0) = v) :
    Calls Tryz.prog 121 #[.agg (sdC A n c a e m).toArray] w fun e w' => e = .returned (.bool v) ∧ Below w.heap.size w w' := by
  obtain ⟨b, o, rfl, hb, x, hx, hcl⟩ := h.at_ he
  have hg := gd_some hx
  rw [hg] at hv
  have han := hv_andn x m
  obtain ⟨y, hy⟩ : ∃ y, x &&& ~~~m = y := ⟨_, rfl⟩
  rw [hy] at han hv
  have hne : ((y.toNat : Int) != 0) = v := by
    rw [← hv, Bool.eq_iff_iff, bne_iff_ne, decide_eq_true_eq]
    constructor
    · intro h1 h2; subst h2; exact h1 rfl
    · intro h1 h2; exact h1 (UInt8.toNat_inj.1 (by simp; omega))
  have HC := Lib.hid hcl
  have HB := Lib.hid hb
  clear h hx hg hy hv hcl hb
  go_enter Tryz.func121, Tryz.ntmps121
  go_wp2_with (first
    | (refine wpList_boxB rfl 144 (.tmp 0) rfl (sdC (some ⟨b, o, none⟩) n c a e m) rfl ?_; intro w1 q hc1 hb1 hx1; have K1 := Lib.hid (And.intro hc1 (And.intro hb1 hx1)); have c0 : w1.cell? ⟨q, 0, none⟩ = some (.slice (some ⟨b, o, none⟩) n c) := K1.out.1.cell 0; have c2 : w1.cell? ⟨q, 2, none⟩ = some (.int .i64 (e : Int)) := K1.out.1.cell 2; have c3 : w1.cell? ⟨q, 3, none⟩ = some (.int .u8 (m.toNat : Int)) := K1.out.1.cell 3; have c4 : w1.cell? ⟨b, o + e, none⟩ = some (.int .u8 (x.toNat : Int)) := (hb1.cell (p := ⟨b, o + e, none⟩) HB.out).trans HC.out; clear hc1 hb1 hx1))
  go_quiet (fail)
  go_wp2
  go_ret
  exact ⟨rfl, below_drewN K1.out.2.1 _⟩
set_option maxRecDepth 100000 in
set_option maxHeartbeats 4000000 in
theorem hindexs_any (x : Nat) (s1 s2 : List Value) (l1 : s1.length = 4) (l2 : s2.length = 4) (w : World) (hx : Blk 144 w x (s1 ++ s2)) (b1 b2 : Bool)
    (H1 : ∀ v, Below w.heap.size w v → Calls Tryz.prog 121 #[.agg s1.toArray] v (fun e w' => e = .returned (.bool b1) ∧ Below v.heap.size v w'))
    (H2 : ∀ v, Below w.heap.size w v → Calls Tryz.prog 121 #[.agg s2.toArray] v (fun e w' => e = .returned (.bool b2) ∧ Below v.heap.size v w')) :
    Calls Tryz.prog 130 #[.slice (some ⟨x, 0, none⟩) 2 2, .func (.func 121) #[] #[]] w fun e w' => ∃ z : Int, e = .returned (.int .i64 z) ∧ Below w.heap.size w w' ∧ decide (0 ≤ z) = (b1 || b2) := by
  have HX := Lib.hid hx
  have HH1 := Lib.hid H1
  have HH2 := Lib.hid H2
  have HT1 : Hid (((s1 ++ s2).drop 0).take 4 = s1) := Lib.hid (by rw [List.drop_zero, List.take_append_of_le_length (by omega), List.take_of_length_le (by omega)])
  have HT2 : Hid (((s1 ++ s2).drop 4).take 4 = s2) := Lib.hid (by rw [← l1, List.drop_left, List.take_of_length_le (by omega)])
  have HL := Lib.hid (And.intro l1 l2)
  clear hx H1 H2 l1 l2
  go_enter Tryz.func130, Tryz.ntmps130
  go_wp2_with fail
  go_loopw [8] (fun i wr => ∃ k : Nat, k ≤ 2 ∧ i = .int .i64 (k : Int) ∧ Hid (Below w.heap.size w wr ∧ (1 ≤ k → b1 = false) ∧ (2 ≤ k → b2 = false))) (fun i _ => 2 - (intOf i).toNat)
  case atStart => exact ⟨0, by omega, rfl, Lib.hid ⟨Below.refl _ _, fun h => absurd h (by omega), fun h => absurd h (by omega)⟩⟩
  case round =>
    obtain ⟨k, hk, rfl, HK⟩ := hrel
    rcases (by omega : k = 0 ∨ k = 1 ∨ k = 2) with rfl | rfl | rfl
    · cases b1
      · go_wp2_with (first
          | (refine wpList_ldB rt_side rfl (.tmp 14) rfl x 0 rfl (s1 ++ s2) s1 (by exact HX.out.step HK.out.1) HT1.out HL.out.1 ?_))
        refine (HH1.out _ HK.out.1).mono ?_
        rintro e w1 ⟨rfl, hb⟩
        have B1 := Lib.hid (bel_next HK.out.1 hb)
        clear hb
        go_wp2_with fail
        go_roundw
        case rel => exact ⟨1, by omega, rfl, Lib.hid ⟨B1.out, by intros; first | rfl | trivial, fun h => absurd h (by omega)⟩⟩
        case measure => simp [intOf]
      · go_wp2_with (first
          | (refine wpList_ldB rt_side rfl (.tmp 14) rfl x 0 rfl (s1 ++ s2) s1 (by exact HX.out.step HK.out.1) HT1.out HL.out.1 ?_))
        refine (HH1.out _ HK.out.1).mono ?_
        rintro e w1 ⟨rfl, hb⟩
        have B1 := Lib.hid (bel_next HK.out.1 hb)
        clear hb
        go_wp2_with fail
        go_ret
        exact ⟨_, rfl, B1.out, by simp⟩
    · have HF := Lib.hid (HK.out.2.1 (Nat.le_refl _))
      cases b2
      · go_wp2_with (first
          | (refine wpList_ldB rt_side rfl (.tmp 14) rfl x 4 rfl (s1 ++ s2) s2 (by exact HX.out.step HK.out.1) HT2.out HL.out.2 ?_))
        refine (HH2.out _ HK.out.1).mono ?_
        rintro e w1 ⟨rfl, hb⟩
        have B1 := Lib.hid (bel_next HK.out.1 hb)
        clear hb
        go_wp2_with fail
        go_roundw
        case rel => exact ⟨2, by omega, rfl, Lib.hid ⟨B1.out, fun _ => HF.out, by intros; first | rfl | trivial⟩⟩
        case measure => simp [intOf]
      · go_wp2_with (first
          | (refine wpList_ldB rt_side rfl (.tmp 14) rfl x 4 rfl (s1 ++ s2) s2 (by exact HX.out.step HK.out.1) HT2.out HL.out.2 ?_))
        refine (HH2.out _ HK.out.1).mono ?_
        rintro e w1 ⟨rfl, hb⟩
        have B1 := Lib.hid (bel_next HK.out.1 hb)
        clear hb
        go_wp2_with fail
        go_ret
        exact ⟨_, rfl, B1.out, by simp⟩
    · have HF := Lib.hid (And.intro (HK.out.2.1 (by omega)) (HK.out.2.2 (by omega)))
      go_wp2_with fail
      go_ret
      exact ⟨_, rfl, HK.out.1, by rw [HF.out.1, HF.out.2]; rfl⟩
set_option maxRecDepth 100000 in
set_option maxHeartbeats 2000000 in
theorem hinvalid_any (x : Nat) (s1 s2 : List Value) (l1 : s1.length = 4) (l2 : s2.length = 4) (w : World) (hx : Blk 144 w x (s1 ++ s2)) (b1 b2 v : Bool) (hv : (b1 || b2) = v)
    (H1 : ∀ v, Below w.heap.size w v → Calls Tryz.prog 121 #[.agg s1.toArray] v (fun e w' => e = .returned (.bool b1) ∧ Below v.heap.size v w'))
    (H2 : ∀ v, Below w.heap.size w v → Calls Tryz.prog 121 #[.agg s2.toArray] v (fun e w' => e = .returned (.bool b2) ∧ Below v.heap.size v w')) :
    Calls Tryz.prog 104 #[.slice (some ⟨x, 0, none⟩) 2 2] w fun e w' => e = .returned (.bool v) ∧ Below w.heap.size w w' := by
  have HC : Hid (Calls Tryz.prog 120 #[.slice (some ⟨x, 0, none⟩) 2 2, .func (.func 121) #[] #[]] w fun e w' => e = .returned (.bool v) ∧ Below w.heap.size w w') := Lib.hid (by
    have HI := Lib.hid (hindexs_any x s1 s2 l1 l2 w hx b1 b2 H1 H2)
    have HV := Lib.hid hv
    clear hx H1 H2 hv
    go_enter Tryz.func120, Tryz.ntmps120
    go_wp2_with fail
    refine HI.out.mono ?_
    rintro e w1 ⟨z, rfl, hb, hz⟩
    rw [HV.out] at hz
    have B := Lib.hid hb
    clear hb
    go_wp2_with fail
    go_ret
    exact ⟨rfl, B.out⟩)
  clear hx H1 H2 hv
  go_enter Tryz.func104, Tryz.ntmps104
  go_wp2_with fail
  refine HC.out.mono ?_
  rintro e w1 ⟨rfl, hb⟩
  have B := Lib.hid hb
  clear hb
  go_wp2_with fail
  go_ret
  exact ⟨rfl, B.out⟩
end Go.Proofs.YtfipdaekfdbaeaaGreat
