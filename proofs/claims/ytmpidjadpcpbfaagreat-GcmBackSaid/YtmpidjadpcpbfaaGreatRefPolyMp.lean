/- The reference of layer 4 (poly): products. No conditions. -/
import Derived.Test.YtmpidjadpcpbfaaGreatRefPolyAll
import Derived.Test.YtmpidjadpcpbfaaGreatGfAll
namespace Go.Proofs.YtmpidjadpcpbfaaGreat
open Go.RowKit
set_option linter.unusedVariables false

/-- Coefficients as a list. -/
def fl (n : Nat) (F : Nat → Bool) : List Bool := (List.range n).map F
theorem fl_len (n : Nat) (F : Nat → Bool) : (fl n F).length = n := by simp [fl]
theorem fl_at (n : Nat) (F : Nat → Bool) (p : Nat) (hp : p < n) : (fl n F)[p]? = some (F p) := by simp [fl, hp]
theorem fl_congr (n : Nat) (F G : Nat → Bool) (h : ∀ p, p < n → F p = G p) : fl n F = fl n G := by
  unfold fl
  exact List.map_congr_left (fun p hp => h p (List.mem_range.1 hp))
def upB (F : Nat → Bool) (k : Nat) (v : Bool) (p : Nat) : Bool := if p = k then v else F p
theorem fl_set (n : Nat) (F : Nat → Bool) (k : Nat) (v : Bool) (hk : k < n) : (fl n F).set k v = fl n (upB F k v) := by
  apply List.ext_getElem?
  intro j
  rw [List.getElem?_set, fl_len]
  by_cases hj : j < n
  · rw [fl_at n _ j hj, fl_at n _ j hj]
    unfold upB
    by_cases e : k = j
    · subst e; rw [if_pos rfl, if_pos hj, if_pos rfl]
    · rw [if_neg e, if_neg (fun h => e h.symm)]
  · rw [List.getElem?_eq_none (by rw [fl_len]; omega), List.getElem?_eq_none (by rw [fl_len]; omega)]
    by_cases e : k = j
    · omega
    · rw [if_neg e]
theorem Br.put {w : World} {g n : Nat} {F : Nat → Bool} (h : Br w g 0 (fl n F)) (k : Nat) (v : Bool) (hk : k < n) : Br (w.setCell ⟨g, k, none⟩ (.bool v)) g 0 (fl n (upB F k v)) := by
  have h1 := h.set (k := k) (by rw [fl_len]; exact hk) v
  rw [fl_set n F k v hk, Nat.zero_add] at h1
  exact h1
theorem Br.get {w : World} {g n : Nat} {F : Nat → Bool} (h : Br w g 0 (fl n F)) (k : Nat) (hk : k < n) : w.cell? ⟨g, k, none⟩ = some (.bool (F k)) ∧ w.frozen? ⟨g, k, none⟩ = false := by
  have h1 := h.cell (fl_at n F k hk)
  have h2 := h.free (j := k) (by rw [fl_len]; exact hk)
  rw [Nat.zero_add] at h1 h2
  exact ⟨h1, h2⟩
theorem Br.like {w : World} {g n : Nat} {F G : Nat → Bool} (h : Br w g 0 (fl n F)) (e : ∀ p, p < n → F p = G p) : Br w g 0 (fl n G) := by rw [← fl_congr n F G e]; exact h
def zN : List Bool := List.replicate 255 false
theorem zN_len : zN.length = 255 := List.length_replicate
theorem zN_fl : zN = fl 255 (fun _ => false) := by
  apply List.ext_getElem?
  intro j
  by_cases hj : j < 255
  · rw [fl_at 255 _ j hj]; unfold zN; rw [List.getElem?_replicate, if_pos hj]
  · rw [List.getElem?_eq_none (by rw [zN_len]; omega), List.getElem?_eq_none (by rw [fl_len]; omega)]
theorem zero_255 (w : World) : (zeroValue 149).run Tryz.prog w = .ok (.agg (tvs zN).toArray) w := by
  have h : (Tryz.prog.info? 149).bind (·.zero) = some (.agg (tvs zN).toArray) := by kernel_rfl
  rcases hi : Tryz.prog.info? 149 with _ | i
  · rw [hi] at h; simp at h
  · rw [hi] at h
    have hz : i.zero = some (.agg (tvs zN).toArray) := h
    simp [zeroValue, typeInfo, hi, hz]
theorem built_255 : Tryz.prog.built 149 [] = some (tvs zN).toArray := by kernel_rfl
theorem sz_255 : (Tryz.prog.info? 149).map (·.size) = some 255 := by kernel_rfl
/-- A row being added, k coefficients in. -/
def cvI (A B : Nat → Bool) (i k p : Nat) : Bool := if i ≤ p ∧ p < i + k then cvF A B i p != B (p - i) else cvF A B i p
theorem cvI_step (A B : Nat → Bool) (i k p : Nat) : upB (cvI A B i k) (i + k) (cvI A B i k (i + k) != B k) p = cvI A B i (k + 1) p := by
  unfold upB cvI
  by_cases e : p = i + k
  · subst e
    rw [if_pos rfl, if_neg (by omega), if_pos (by omega), show i + k - i = k by omega]
  · rw [if_neg e]
    by_cases h : i ≤ p ∧ p < i + k
    · rw [if_pos h, if_pos (by omega)]
    · rw [if_neg h, if_neg (by omega)]
theorem cvI_zero (A B : Nat → Bool) (i p : Nat) : cvI A B i 0 p = cvF A B i p := by unfold cvI; rw [if_neg (by omega)]
theorem cvI_all (A B : Nat → Bool) (i p : Nat) (h : A i = true) : cvI A B i 128 p = cvF A B (i + 1) p := by
  unfold cvI
  rw [cvF, h, Bool.true_and]
  by_cases h1 : i ≤ p
  · by_cases h2 : p < i + 128
    · rw [if_pos ⟨h1, h2⟩, decide_eq_true h1, decide_eq_true h2]; simp
    · rw [if_neg (by omega), decide_eq_false h2]; simp
  · rw [if_neg (by omega), decide_eq_false h1]; simp
theorem cvF_skip (A B : Nat → Bool) (i p : Nat) (h : A i = false) : cvF A B i p = cvF A B (i + 1) p := by rw [cvF, h]; simp
theorem rd_flip (F : Nat → Bool) (k p : Nat) (hk : 128 ≤ k) (h : F k = true) :
    upB (upB (upB (upB (upB F k false) (k - 128) (!F (k - 128))) (k - 127) (!F (k - 127))) (k - 126) (!F (k - 126))) (k - 121) (!F (k - 121)) p = rdF F k p := by
  unfold upB rdF modE
  rw [h, Bool.true_and]
  by_cases e1 : p = k - 121
  · rw [if_pos e1, e1]
    rw [beq_eq_false_iff_ne.2 (show k - 121 ≠ k by omega), beq_eq_false_iff_ne.2 (show k - 121 ≠ k - 128 by omega), beq_eq_false_iff_ne.2 (show k - 121 ≠ k - 127 by omega), beq_eq_false_iff_ne.2 (show k - 121 ≠ k - 126 by omega)]
    simp
  · rw [if_neg e1, beq_eq_false_iff_ne.2 e1]
    by_cases e2 : p = k - 126
    · rw [if_pos e2, e2]
      rw [beq_eq_false_iff_ne.2 (show k - 126 ≠ k by omega), beq_eq_false_iff_ne.2 (show k - 126 ≠ k - 128 by omega), beq_eq_false_iff_ne.2 (show k - 126 ≠ k - 127 by omega)]
      simp
    · rw [if_neg e2, beq_eq_false_iff_ne.2 e2]
      by_cases e3 : p = k - 127
      · rw [if_pos e3, e3]
        rw [beq_eq_false_iff_ne.2 (show k - 127 ≠ k by omega), beq_eq_false_iff_ne.2 (show k - 127 ≠ k - 128 by omega)]
        simp
      · rw [if_neg e3, beq_eq_false_iff_ne.2 e3]
        by_cases e4 : p = k - 128
        · rw [if_pos e4, e4]
          rw [beq_eq_false_iff_ne.2 (show k - 128 ≠ k by omega)]
          simp
        · rw [if_neg e4, beq_eq_false_iff_ne.2 e4]
          by_cases e5 : p = k
          · subst e5; rw [if_pos rfl, h]; simp
          · rw [if_neg e5, beq_eq_false_iff_ne.2 e5]; simp
attribute [local irreducible] cvF rdUp rdF cvI

set_option maxRecDepth 100000 in
set_option maxHeartbeats 4000000 in
theorem pmul_any (A B : Nat → Bool) (w : World) :
    Calls Tryz.prog 84 #[BV (fl 128 A), BV (fl 128 B)] w (RetT (fl 128 (coF (gMul (gVal A 128) (gVal B 128)))) w) := by
  obtain ⟨LA, HLA⟩ : ∃ L, Hid (L = fl 128 A) := ⟨_, Lib.hid rfl⟩
  obtain ⟨LB, HLB⟩ : ∃ L, Hid (L = fl 128 B) := ⟨_, Lib.hid rfl⟩
  obtain ⟨R, HR⟩ : ∃ R, Hid (R = fl 128 (coF (gMul (gVal A 128) (gVal B 128)))) := ⟨_, Lib.hid rfl⟩
  rw [← HR.out, ← HLA.out, ← HLB.out]
  have HRD : Hid (R = fl 128 (rdUp (cvF A B 128) 127)) := Lib.hid (by rw [HR.out]; exact fl_congr 128 _ _ (fun p hp => (prod_co A B p hp).symm))
  have hz := zero_poly
  have hz2 := zero_255
  obtain ⟨G, HG⟩ : ∃ G, Hid (G = w.heap.size) := ⟨_, Lib.hid rfl⟩
  obtain ⟨W3, HW3⟩ : ∃ W3, Hid (W3 = V3 LA LB zP 102 w) := ⟨_, Lib.hid rfl⟩
  have HN : Hid (Br ((V3 LA LB zP 102 w).alloc (.cells (tvs zN).toArray 149)) (w.heap.size + 1 + 1 + 1) 0 zN) := Lib.hid (Br.new1 _ _ (by unfold V3; simp) zN _)
  go_enter Tryz.func84, Tryz.ntmps84
  go_wp2_with (first | (refine wpList_boxT rfl _ (.tmp 0) rfl LA rfl ?_) | (refine wpList_boxT rfl _ (.tmp 1) rfl LB rfl ?_) | (refine wpList_built0 rfl _ rfl zN built_255 ?_) | (refine wpList_stT rfl _ (.tmp 5) (.tmp 11) rfl (w.heap.size + 1 + 1 + 1) 0 rfl zN zN rfl (by exact HN.out) rfl (by rw [zN_len]; exact sz_255) ?_))
  obtain ⟨W0, HW0⟩ : ∃ W0, Hid (W0 = ((V3 LA LB zP 102 w).alloc (.cells (tvs zN).toArray 149)).setCells (w.heap.size + 1 + 1 + 1) 0 (tvs zN)) := ⟨_, Lib.hid rfl⟩
  show Code.wp _ _ _ _ (((V3 LA LB zP 102 w).alloc (.cells (tvs zN).toArray 149)).setCells (w.heap.size + 1 + 1 + 1) 0 (tvs zN))
  have hs3 : (V3 LA LB zP 102 w).heap.size = w.heap.size + 1 + 1 + 1 := by unfold V3; simp
  have HB0 : Hid (Below w.heap.size w W0) := Lib.hid (by rw [HW0.out]; exact below_setCells ((v3_below _ _ _ _ w).alloc (by rw [hs3]; omega) _) (by omega) _ _)
  have HA0 : Hid (Br W0 G 0 (fl 128 A)) := Lib.hid (by rw [HW0.out, HG.out, ← HLA.out]; exact ((v3_0 _ _ _ _ w).alloc (by rw [hs3]; omega) _).setCells (by omega) _ _)
  have HBB0 : Hid (Br W0 (G + 1) 0 (fl 128 B)) := Lib.hid (by rw [HW0.out, HG.out, ← HLB.out]; exact ((v3_1 _ _ _ _ w).alloc (by rw [hs3]; omega) _).setCells (by omega) _ _)
  have HC0 : Hid (Br W0 (G + 1 + 1) 0 zP) := Lib.hid (by rw [HW0.out, HG.out]; exact ((v3_2 _ _ _ _ w).alloc (by rw [hs3]; omega) _).setCells (by omega) _ _)
  have HN0 : Hid (Br W0 (G + 1 + 1 + 1) 0 (fl 255 (cvF A B 0))) := Lib.hid (by
    have h : Br W0 (G + 1 + 1 + 1) 0 zN := by rw [HW0.out, HG.out]; exact HN.out.whole zN rfl
    rw [zN_fl] at h
    exact h.like (fun p _ => by unfold cvF; rfl))
  rw [← HW0.out, ← HG.out]
  clear HN hs3
  go_loopw [6] (fun t wr => ∃ i : Nat, i ≤ 128 ∧ t = .int .i64 i ∧ Hid (Br wr G 0 (fl 128 A)) ∧ Hid (Br wr (G + 1) 0 (fl 128 B)) ∧ Hid (Br wr (G + 1 + 1) 0 zP) ∧ Hid (Br wr (G + 1 + 1 + 1) 0 (fl 255 (cvF A B i))) ∧ Hid (Below w.heap.size w wr)) (fun t _ => 128 - (intOf t).toNat)
  case atStart => exact ⟨0, by omega, rfl, HA0, HBB0, HC0, HN0, HB0⟩
  case round =>
    obtain ⟨i, hi, rfl, ha, hbb, hc, hn, hb⟩ := hrel
    clear HA0 HBB0 HC0 HN0 HB0
    by_cases hlt : i < 128
    · obtain ⟨ca, _⟩ := ha.out.get i hlt
      have hd : decide ((i : Int) < 128) = true := decide_eq_true (by omega)
      cases hA : A i
      · rw [hA] at ca
        go_wp2_with fail
        go_roundw
        case rel => exact ⟨i + 1, by omega, by go_num, ha, hbb, hc, Lib.hid (hn.out.like (fun p _ => cvF_skip A B i p hA)), hb⟩
        case measure => simp [intOf]; omega
      · rw [hA] at ca
        go_wp2_with fail
        clear ca
        go_loopw [7] (fun t ws => ∃ k : Nat, k ≤ 128 ∧ t = .int .i64 k ∧ Hid (Br ws G 0 (fl 128 A)) ∧ Hid (Br ws (G + 1) 0 (fl 128 B)) ∧ Hid (Br ws (G + 1 + 1) 0 zP) ∧ Hid (Br ws (G + 1 + 1 + 1) 0 (fl 255 (cvI A B i k))) ∧ Hid (Below w.heap.size w ws)) (fun t _ => 128 - (intOf t).toNat)
        case atStart => exact ⟨0, by omega, rfl, ha, hbb, hc, Lib.hid (hn.out.like (fun p _ => (cvI_zero A B i p).symm)), hb⟩
        case round =>
          clear ha hbb hc hn hb
          obtain ⟨k, hk, rfl, ha, hbb, hc, hn, hb⟩ := hrel
          by_cases hlt2 : k < 128
          · have b1 : IntKind.i64.wrap ((i : Int) + (k : Int)) = ((i + k : Nat) : Int) := by rw [IntWalk.i64_in _ (by omega)]; omega
            obtain ⟨q, HQ, hq⟩ : ∃ q : Nat, Hid (q = i + k) ∧ q < 255 := ⟨_, Lib.hid rfl, by omega⟩
            rw [← HQ.out] at b1
            have b2 : (0 : Int) ≤ (q : Int) := by omega
            have b3 : (q : Int) < 255 := by omega
            obtain ⟨cn, fn⟩ := hn.out.get q hq
            obtain ⟨cb, _⟩ := hbb.out.get k hlt2
            obtain ⟨x, HX⟩ : ∃ x, Hid (x = cvI A B i k q) := ⟨_, Lib.hid rfl⟩
            obtain ⟨y, HY⟩ : ∃ y, Hid (y = B k) := ⟨_, Lib.hid rfl⟩
            rw [← HX.out] at cn
            rw [← HY.out] at cb
            go_wp2_with fail
            go_region_with (fail)
            all_goals
              go_wp2
              go_roundw
              case rel =>
                have h1 := hn.out.drew.put q (x != y) hq
                have h2 := h1.like (G := cvI A B i (k + 1)) (fun p _ => by rw [HX.out, HY.out, HQ.out]; exact cvI_step A B i k p)
                exact ⟨k + 1, by omega, by go_num, Lib.hid (ha.out.drew.setCell (by show G + 1 + 1 + 1 ≠ G; omega) _), Lib.hid (hbb.out.drew.setCell (by show G + 1 + 1 + 1 ≠ G + 1; omega) _), Lib.hid (hc.out.drew.setCell (by show G + 1 + 1 + 1 ≠ G + 1 + 1; omega) _), Lib.hid h2, Lib.hid (hb.out.drew.setCell (by rw [HG.out]; show w.heap.size ≤ w.heap.size + 1 + 1 + 1; omega) _)⟩
              case measure => simp [intOf]; omega
          · obtain rfl : k = 128 := by omega
            have e4 : ((128 : Nat) : Int) = 128 := rfl
            rw [e4]
            clear e4
            go_wp2_with fail
            go_roundw
            case rel => exact ⟨i + 1, by omega, by go_num, ha, hbb, hc, Lib.hid (hn.out.like (fun p _ => cvI_all A B i p hA)), hb⟩
            case measure => simp [intOf]; omega
    · obtain rfl : i = 128 := by omega
      have e4 : ((128 : Nat) : Int) = 128 := rfl
      rw [e4]
      clear e4
      obtain ⟨C, HC⟩ : ∃ C, Hid (C = cvF A B 128) := ⟨_, Lib.hid rfl⟩
      rw [← HC.out] at hn HRD
      have HN1 : Hid (Br wr (G + 1 + 1 + 1) 0 (fl 255 (rdUp C 0))) := Lib.hid (hn.out.like (fun p _ => by unfold rdUp; rfl))
      clear hn ha hbb
      go_wp2_with fail
      go_loopw [8] (fun t ws => ∃ m : Nat, m ≤ 127 ∧ t = .int .i64 ((254 - m : Nat) : Int) ∧ Hid (Br ws (G + 1 + 1) 0 zP) ∧ Hid (Br ws (G + 1 + 1 + 1) 0 (fl 255 (rdUp C m))) ∧ Hid (Below w.heap.size w ws)) (fun t _ => (intOf t).toNat)
      case atStart => exact ⟨0, by omega, rfl, hc, HN1, hb⟩
      case round =>
        clear hc hb HN1
        obtain ⟨m, hm, rfl, hc, hn, hb⟩ := hrel
        obtain ⟨k, HK, hk1, hk2⟩ : ∃ k : Nat, Hid (k = 254 - m) ∧ 127 ≤ k ∧ k ≤ 254 := ⟨_, Lib.hid rfl, by omega, by omega⟩
        rw [← HK.out]
        obtain ⟨F, HF⟩ : ∃ F, Hid (F = rdUp C m) := ⟨_, Lib.hid rfl⟩
        rw [← HF.out] at hn
        by_cases hlt : 128 ≤ k
        · have hk255 : k < 255 := by omega
          have hd : decide ((k : Int) ≥ 128) = true := decide_eq_true (by omega)
          have hsub : IntKind.i64.wrap ((k : Int) - 1) = ((254 - (m + 1) : Nat) : Int) := by rw [IntWalk.i64_in _ (by omega), HK.out]; omega
          obtain ⟨ck, fk⟩ := hn.out.get k hk255
          cases hFk : F k
          · rw [hFk] at ck
            go_wp2_with fail
            go_roundw
            case rel => exact ⟨m + 1, by have := HK.out; omega, by rw [show 254 - (m + 1) = 253 - m by omega], hc, Lib.hid (hn.out.like (fun p _ => by rw [rdUp, ← HF.out, ← HK.out]; unfold rdF; rw [hFk]; simp)), hb⟩
            case measure => have h0 := HK.out; simp [intOf]; omega
          · rw [hFk] at ck
            have mk : ∀ d : Nat, 0 < d → d ≤ 128 → ∃ a : Nat, Hid (a = k - d) ∧ a < 255 ∧ IntKind.i64.wrap ((k : Int) - (d : Int)) = ((a : Nat) : Int) := fun d h1 h2 => ⟨k - d, Lib.hid rfl, by omega, by rw [IntWalk.i64_in _ (by omega)]; omega⟩
            obtain ⟨a0, HA0, la0, b0⟩ := mk 128 (by omega) (by omega)
            obtain ⟨a1, HA1, la1, b1⟩ := mk 127 (by omega) (by omega)
            obtain ⟨a2, HA2, la2, b2⟩ := mk 126 (by omega) (by omega)
            obtain ⟨a3, HA3, la3, b3⟩ := mk 121 (by omega) (by omega)
            clear mk
            have H1 := Lib.hid (hn.out.put k false hk255)
            have e0 : upB F k false a0 = F a0 := by unfold upB; rw [if_neg (by have := HA0.out; omega)]
            obtain ⟨c0, f0⟩ := H1.out.get a0 la0
            rw [e0] at c0
            have H2 := Lib.hid (H1.out.put a0 (!F a0) la0)
            have e1 : upB (upB F k false) a0 (!F a0) a1 = F a1 := by unfold upB; rw [if_neg (by have := HA0.out; have := HA1.out; omega), if_neg (by have := HA1.out; omega)]
            obtain ⟨c1, f1⟩ := H2.out.get a1 la1
            rw [e1] at c1
            have H3 := Lib.hid (H2.out.put a1 (!F a1) la1)
            have e2 : upB (upB (upB F k false) a0 (!F a0)) a1 (!F a1) a2 = F a2 := by unfold upB; rw [if_neg (by have := HA1.out; have := HA2.out; omega), if_neg (by have := HA0.out; have := HA2.out; omega), if_neg (by have := HA2.out; omega)]
            obtain ⟨c2, f2⟩ := H3.out.get a2 la2
            rw [e2] at c2
            have H4 := Lib.hid (H3.out.put a2 (!F a2) la2)
            have e3 : upB (upB (upB (upB F k false) a0 (!F a0)) a1 (!F a1)) a2 (!F a2) a3 = F a3 := by unfold upB; rw [if_neg (by have := HA2.out; have := HA3.out; omega), if_neg (by have := HA1.out; have := HA3.out; omega), if_neg (by have := HA0.out; have := HA3.out; omega), if_neg (by have := HA3.out; omega)]
            obtain ⟨c3, f3⟩ := H4.out.get a3 la3
            rw [e3] at c3
            have H5 := Lib.hid (H4.out.put a3 (!F a3) la3)
            have HF5 : Hid (∀ p, upB (upB (upB (upB (upB F k false) a0 (!F a0)) a1 (!F a1)) a2 (!F a2)) a3 (!F a3) p = rdUp C (m + 1) p) := Lib.hid (fun p => by
              rw [HA0.out, HA1.out, HA2.out, HA3.out, rd_flip F k p hlt hFk, rdUp, ← HF.out, ← HK.out])
            clear e0 e1 e2 e3
            have b0' : IntKind.i64.wrap ((k : Int) - 128) = ((a0 : Nat) : Int) := b0
            have b1' : IntKind.i64.wrap ((k : Int) - 127) = ((a1 : Nat) : Int) := b1
            have b2' : IntKind.i64.wrap ((k : Int) - 126) = ((a2 : Nat) : Int) := b2
            have b3' : IntKind.i64.wrap ((k : Int) - 121) = ((a3 : Nat) : Int) := b3
            clear b0 b1 b2 b3
            obtain ⟨x0, hx0⟩ : ∃ x, Hid (x = F a0) := ⟨_, Lib.hid rfl⟩
            obtain ⟨x1, hx1⟩ : ∃ x, Hid (x = F a1) := ⟨_, Lib.hid rfl⟩
            obtain ⟨x2, hx2⟩ : ∃ x, Hid (x = F a2) := ⟨_, Lib.hid rfl⟩
            obtain ⟨x3, hx3⟩ : ∃ x, Hid (x = F a3) := ⟨_, Lib.hid rfl⟩
            rw [← hx0.out] at c0 c1 f1 c2 f2 c3 f3
            rw [← hx1.out] at c1 c2 f2 c3 f3
            rw [← hx2.out] at c2 c3 f3
            rw [← hx3.out] at c3
            go_wp2_with fail
            go_roundw
            case rel =>
              rw [hx0.out, hx1.out, hx2.out, hx3.out]
              refine ⟨m + 1, by have := HK.out; omega, by rw [show 254 - (m + 1) = 253 - m by omega], Lib.hid ?_, Lib.hid (H5.out.like (fun p _ => HF5.out p)), Lib.hid ?_⟩
              · have hne : G + 1 + 1 + 1 ≠ G + 1 + 1 := by omega
                exact ((((hc.out.setCell (by exact hne) _).setCell (by exact hne) _).setCell (by exact hne) _).setCell (by exact hne) _).setCell (by exact hne) _
              · have hle : w.heap.size ≤ G + 1 + 1 + 1 := by rw [HG.out]; omega
                exact ((((hb.out.setCell (by exact hle) _).setCell (by exact hle) _).setCell (by exact hle) _).setCell (by exact hle) _).setCell (by exact hle) _
            case measure => have h0 := HK.out; simp [intOf]; omega
        · obtain rfl : k = 127 := by omega
          obtain rfl : m = 127 := by have := HK.out; omega
          have e4 : ((127 : Nat) : Int) = 127 := rfl
          rw [e4]
          clear e4 HK
          have HRF : Hid (R = fl 128 F) := Lib.hid (by rw [HRD.out, HF.out])
          clear HF HRD HC
          have hO : G + 1 + 1 + 1 < wr.heap.size := hn.out.lt (by rw [fl_len]; omega)
          obtain ⟨O, HO⟩ : ∃ O, Hid (O = wr.heap.size) := ⟨_, Lib.hid rfl⟩
          have HD : Hid (Br (wr.alloc (.cells (tvs zP).toArray 102)) wr.heap.size 0 zP) := Lib.hid (Br.new _ _ _)
          have HRL : Hid (R.length = 128) := Lib.hid (by rw [HRF.out]; exact fl_len _ _)
          go_wp2_with (first | (refine wpList_built0 rfl _ rfl zP poly_built ?_) | (refine wpList_stT rfl _ (.tmp 9) (.tmp 78) rfl wr.heap.size 0 rfl zP zP rfl (by exact HD.out) rfl (by rw [zP_len]; exact sz_poly) ?_))
          obtain ⟨W1, HW1⟩ : ∃ W1, Hid (W1 = (wr.alloc (.cells (tvs zP).toArray 102)).setCells wr.heap.size 0 (tvs zP)) := ⟨_, Lib.hid rfl⟩
          show Code.wp _ _ _ _ ((wr.alloc (.cells (tvs zP).toArray 102)).setCells wr.heap.size 0 (tvs zP))
          have HC1 : Hid (Br W1 (G + 1 + 1) 0 zP) := Lib.hid (by rw [HW1.out]; exact (hc.out.alloc (by omega) _).setCells (by omega) _ _)
          have HN1 : Hid (Br W1 (G + 1 + 1 + 1) 0 (fl 255 F)) := Lib.hid (by rw [HW1.out]; exact (hn.out.alloc hO _).setCells (by omega) _ _)
          have HD1 : Hid (Br W1 O 0 (upT R zP 0)) := Lib.hid (by rw [HW1.out, HO.out, upT_zero]; exact HD.out.whole zP rfl)
          have HB1 : Hid (Below w.heap.size w W1) := Lib.hid (by rw [HW1.out]; exact below_setCells (hb.out.alloc (by rw [HG.out] at hO; omega) _) (by rw [HG.out] at hO; omega) _ _)
          rw [← HW1.out, ← HO.out]
          rw [← HO.out] at hO
          clear hc hn hb HD HW1 HO
          go_loopw [10] (fun t ws => ∃ k : Nat, k ≤ 128 ∧ t = .int .i64 k ∧ Hid (Br ws (G + 1 + 1) 0 zP) ∧ Hid (Br ws (G + 1 + 1 + 1) 0 (fl 255 F)) ∧ Hid (Br ws O 0 (upT R zP k)) ∧ Hid (Below w.heap.size w ws)) (fun t _ => 128 - (intOf t).toNat)
          case atStart => exact ⟨0, by omega, rfl, HC1, HN1, HD1, HB1⟩
          case round =>
            obtain ⟨k, hk, rfl, hc, hn, hd, hb⟩ := hrel
            clear HC1 HN1 HD1 HB1
            by_cases hlt2 : k < 128
            · obtain ⟨ck, _⟩ := hn.out.get k (by omega)
              have fk := hd.out.free (j := k) (by rw [upT_len R zP k (by rw [HRL.out, zP_len]), zP_len]; exact hlt2)
              have cO := hd.out.cell (j := k) (by rw [upT_at R zP k k (by rw [HRL.out, zP_len]) (by rw [zP_len]; omega), if_neg (by omega)]; unfold zP; rw [List.getElem?_replicate, if_pos hlt2])
              rw [Nat.zero_add] at fk cO
              unfold tv at cO
              obtain ⟨x, HX⟩ : ∃ x, Hid (x = F k) := ⟨_, Lib.hid rfl⟩
              rw [← HX.out] at ck
              go_wp2_with fail
              go_roundw
              case rel =>
                have h1 := hd.out.set (k := k) (by rw [upT_len R zP k (by rw [HRL.out, zP_len]), zP_len]; exact hlt2) x
                rw [upT_set R zP k x (by rw [HRL.out, zP_len]) (by rw [HRF.out, fl_at 128 F k hlt2, HX.out]), Nat.zero_add] at h1
                exact ⟨k + 1, by omega, by go_num, Lib.hid (hc.out.setCell (by show O ≠ G + 1 + 1; omega) _), Lib.hid (hn.out.setCell (by show O ≠ G + 1 + 1 + 1; omega) _), Lib.hid h1, Lib.hid (hb.out.setCell (by rw [HG.out] at hO; show w.heap.size ≤ O; omega) _)⟩
              case measure => simp [intOf]; omega
            · obtain rfl : k = 128 := by omega
              have hal := hd.out
              have h128 := upT_all R zP (by rw [HRL.out, zP_len])
              rw [zP_len] at h128
              rw [h128] at hal
              have HAL := Lib.hid hal
              clear hal h128
              go_wp2_with (first | (refine wpList_ldT rfl _ (.tmp 9) rfl O 0 128 _ rfl R (by exact HAL.out) up_poly (by rw [HRL.out]; exact sz_poly) ?_) | (refine wpList_stT rfl _ (.tmp 4) (.tmp 88) rfl (G + 1 + 1) 0 rfl R zP rfl (by exact hc.out) (by rw [HRL.out]; exact zP_len) (by rw [HRL.out]; exact sz_poly) ?_))
              refine bodyPost_ret (v := BV R) (res_cellT rfl _ _ (G + 1 + 1) 128 _ R rfl (hc.out.whole R (by rw [HRL.out]; exact zP_len.symm)) up_poly (by rw [HRL.out]; exact sz_poly)) rfl ⟨rfl, ?_⟩
              exact below_setCells hb.out (by rw [HG.out]; omega) 0 (tvs R)
end Go.Proofs.YtmpidjadpcpbfaaGreat

/- The reference of layer 4 (poly): products and powers of numbers' coefficients. No conditions. -/
namespace Go.Proofs.YtmpidjadpcpbfaaGreat
open Go.RowKit
set_option linter.unusedVariables false

/-- A number's coefficients as a list. -/
def co (x : Nat) : List Bool := fl 128 (coF x)
theorem co_len (x : Nat) : (co x).length = 128 := fl_len _ _
theorem co_at (x p : Nat) (hp : p < 128) : (co x)[p]? = some (coF x p) := fl_at 128 _ p hp
theorem pmul_co (x y : Nat) (w : World) (hx : x < 2 ^ 128) (hy : y < 2 ^ 128) :
    Calls Tryz.prog 84 #[BV (co x), BV (co y)] w (RetT (co (gMul x y)) w) := by
  have h := pmul_any (coF x) (coF y) w
  rw [co_val x hx, co_val y hy] at h
  exact h
theorem coF_one (p : Nat) (hp : p < 128) : coF gOne p = (p == 0) := by
  unfold coF
  rw [show gOne = gE 0 from rfl, gBit_gE 0 p (by omega) hp]
  by_cases h : p = 0
  · rw [if_pos h, h]; rfl
  · rw [if_neg h, beq_eq_false_iff_ne.2 h]; rfl
theorem coF_zero (p : Nat) : coF 0 p = false := by unfold coF; rw [gBit_zero]; rfl
theorem zP_co : zP = co 0 := by
  apply List.ext_getElem?
  intro j
  by_cases hj : j < 128
  · rw [co_at 0 j hj, coF_zero]; unfold zP; rw [List.getElem?_replicate, if_pos hj]
  · rw [List.getElem?_eq_none (by rw [zP_len]; omega), List.getElem?_eq_none (by rw [co_len]; omega)]
theorem one_co : zP.set 0 true = co gOne := by
  apply List.ext_getElem?
  intro j
  rw [List.getElem?_set]
  by_cases hj : j < 128
  · rw [co_at _ j hj, coF_one j hj]
    by_cases h : 0 = j
    · subst h; rw [if_pos rfl, zP_len, if_pos (by omega)]; rfl
    · rw [if_neg h, beq_eq_false_iff_ne.2 (fun e => h e.symm)]; unfold zP; rw [List.getElem?_replicate, if_pos hj]
  · rw [if_neg (by omega), List.getElem?_eq_none (by rw [zP_len]; omega), List.getElem?_eq_none (by rw [co_len]; omega)]
theorem sz_co (x : Nat) : (Tryz.prog.info? 102).map (·.size) = some (co x).length := by rw [co_len]; exact sz_poly
theorem pow_even (x o n : Nat) (hx : x < 2 ^ 128) (hm : n % 2 = 0) : gMul o (gPow (gMul x x) (n / 2)) = gMul o (gPow x n) := by
  rw [gPow_half x hx n, hm]
  show _ = gMul o (gMul gOne (gPow (gMul x x) (n / 2)))
  rw [gMul_one' _ (gPow_lt _ (gMul_lt x x hx) _)]
theorem pow_odd (x o n : Nat) (hx : x < 2 ^ 128) (ho : o < 2 ^ 128) (hm : n % 2 = 1) : gMul (gMul o x) (gPow (gMul x x) (n / 2)) = gMul o (gPow x n) := by
  rw [gPow_half x hx n, hm, gPow_one x hx, gMul_assoc o x _ ho hx]
  rfl
attribute [local irreducible] co gMul gPow

end Go.Proofs.YtmpidjadpcpbfaaGreat

