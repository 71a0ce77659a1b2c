/- Layer 14's trim, Trim, Cut, Block. Conditions: the slices' cells are readable, lengths are at most a million. -/
import Derived.Test.YtfipdaekfdbaeaaGreatHvF
namespace Go.Proofs.YtfipdaekfdbaeaaGreat
open Go.RowKit
set_option linter.unusedVariables false
set_option linter.unusedSimpArgs false
theorem hv_and (x y : UInt8) : bits .and .u8 (x.toNat : Int) (y.toNat : Int) = ((x &&& y).toNat : Int) := by
  rw [u8_and_nat _ _ x.toNat_lt y.toNat_lt, UInt8.toNat_and]
theorem trimL_set {l : List UInt8} {n N : Nat} {left : Bool} (h : l.length = n) : l.set (edgeN n left) (gd l (edgeN n left) &&& maskB N left) = trimL l N left := by unfold trimL; rw [h]
theorem cut_trim (l : List UInt8) : cutR l = ((trimR (l.take (szN l.length)) (l.length : Int) true).1, (trimR (l.drop (l.length - szN l.length)) (l.length : Int) false).1, (trimR (l.take (szN l.length)) (l.length : Int) true).2) := by
  have hs : szN l.length ≤ l.length := by unfold szN; omega
  by_cases h : 2 ≤ l.length ∧ l.length ≤ 28
  · rw [trim_ok _ _ _ h.1 h.2 (by rw [List.length_take]; omega), trim_ok _ _ _ h.1 h.2 (by rw [List.length_drop]; omega)]
    unfold cutR
    rw [if_pos h]
  · have hf : ∀ k, fitB (l.length : Int) k = false := fun k => decide_eq_false (fun e => h (by omega))
    rw [trimR_no (hf _), trimR_no (hf _)]
    unfold cutR
    rw [if_neg h]
theorem block_sets (l : List UInt8) (n N P : Nat) (h : l.length = n) (hn : n ≤ 14) : ((l ++ (List.replicate 16 (0 : UInt8)).drop n).set 14 (UInt8.ofNat N)).set 15 (UInt8.ofNat P) = blockL l N P := by
  refine gd_ext (by rw [block_len _ _ _ (by omega)]; simp; omega) fun i hi => ?_
  rw [List.length_set, List.length_set, List.length_append, List.length_drop, List.length_replicate] at hi
  rw [block_gd _ _ _ _ (by omega), gd_set, gd_set, gd_app, gd_drop, gd_rep]
  simp only [List.length_set, List.length_append, List.length_drop, List.length_replicate]
  by_cases h1 : i < l.length
  · rw [if_neg (show ¬ (i = 15 ∧ 15 < l.length + (16 - n)) by omega), if_neg (show ¬ (i = 14 ∧ 14 < l.length + (16 - n)) by omega), if_pos h1, if_pos h1]
  · rw [if_neg h1, if_neg h1]
    by_cases h2 : i < 14
    · rw [if_neg (show ¬ (i = 15 ∧ 15 < l.length + (16 - n)) by omega), if_neg (show ¬ (i = 14 ∧ 14 < l.length + (16 - n)) by omega), if_pos h2]
    · rw [if_neg h2]
      by_cases h3 : i = 14
      · rw [if_neg (show ¬ (i = 15 ∧ 15 < l.length + (16 - n)) by omega), if_pos (show i = 14 ∧ 14 < l.length + (16 - n) by omega), if_pos h3]
      · rw [if_pos (show i = 15 ∧ 15 < l.length + (16 - n) by omega), if_neg h3, if_pos (show i = 15 by omega)]
theorem by_ofI (k : Nat) (h : k ≤ 255) : Value.int .u8 (k : Int) = bv (UInt8.ofNat k) := (by_of k h).symm
attribute [local irreducible] foursL pairsL cutR trimL joinL blockL joinR trimR blockR maskB edgeN
set_option maxRecDepth 100000 in
set_option maxHeartbeats 2000000 in
theorem htrim_any (A : Option Addr) (n c a e : Nat) (m : UInt8) (l : List UInt8) (w : World) (h : RB w w.heap.size A n l) (he : e < n) (hn : n ≤ 1000000) :
    Calls Tryz.prog 115 #[.agg (sdC A n c a e m).toArray] w (RetB n (l.set e (gd l e &&& m)) w) := by
  have HL := Lib.hid h.len
  have HC := Lib.hid (fun (v : World) (hb : Below w.heap.size w v) => clone_any A n c v.heap.size l v (h.step hb) (Nat.le_refl _) (by omega))
  clear h
  go_enter Tryz.func115, Tryz.ntmps115
  go_wp2_with (first
    | (refine wpList_boxB rfl 144 (.tmp 0) rfl (sdC A n c a e m) rfl ?_; intro w1 q hc1 hb1 hx1; have K1 := Lib.hid (And.intro hc1 (And.intro hb1 hx1)); have c0 : w1.cell? ⟨q, 0, none⟩ = some (.slice A n c) := K1.out.1.cell 0; clear hc1 hb1 hx1))
  refine (HC.out _ K1.out.2.1).mono ?_
  rintro e2 w2 ⟨A2, c2, rfl, ho, hb⟩
  obtain ⟨g, rfl, hg1, hg2⟩ := ho.form (by omega)
  have K2 := Lib.hid (And.intro ho (And.intro hb (K1.out.1.step hb)))
  have c3 : w2.cell? ⟨q, 2, none⟩ = some (.int .i64 (e : Int)) := K2.out.2.2.cell 2
  have c4 : w2.cell? ⟨q, 3, none⟩ = some (.int .u8 (m.toNat : Int)) := K2.out.2.2.cell 3
  obtain ⟨x, HX⟩ : ∃ x, Hid (gd l e = x) := ⟨_, Lib.hid rfl⟩
  have c5 : w2.cell? ⟨g, e, none⟩ = some (.int .u8 (x.toNat : Int)) := by have := ho.cellAt (gd_lt (by rw [HL.out]; exact he)); rw [HX.out] at this; exact this
  have f5 : w2.frozen? ⟨g, e, none⟩ = false := ho.freeAt e
  have hand := hv_and x m
  obtain ⟨y, hy⟩ : ∃ y, x &&& m = y := ⟨_, rfl⟩
  have HY : Hid (gd l e &&& m = y) := Lib.hid (by rw [HX.out]; exact hy)
  rw [hy] at hand
  have S := Lib.hid (ho.stored e y (.int .u8 (y.toNat : Int)) rfl)
  have B := Lib.hid (hb.setCell (p := ⟨g, e, none⟩) hg1 (.int .u8 (y.toNat : Int)))
  clear ho hb c0 hy
  go_wp2
  go_region
  go_wp2
  go_ret
  rw [HY.out]
  exact ⟨_, _, rfl, (S.out.base_le K1.out.2.1.size).drew, (bel_next K1.out.2.1 B.out).drew⟩
set_option maxRecDepth 100000 in
set_option maxHeartbeats 2000000 in
theorem htrimT_any (A : Option Addr) (n c : Nat) (l : List UInt8) (z : Int) (left : Bool) (w : World) (h : RB w w.heap.size A n l) (hn : n ≤ 1000000) (hz : z ≤ 9223372036854775807) :
    Calls Tryz.prog 98 #[.slice A n c, .int .i64 z, .bool left] w (RetBE (trimR l z left).1.length (trimR l z left).1 (trimR l z left).2 w) := by
  have HL := Lib.hid h.len
  cases hv : fitB z n
  · have HE : Hid (trimR l z left = ([], 11)) := Lib.hid (trimR_no (by rw [HL.out]; exact hv))
    have HF := Lib.hid (hfit_1 w A n c z l h hz false (by rw [HL.out]; exact hv))
    clear h hv
    go_enter Tryz.func98, Tryz.ntmps98
    go_wp2_with fail
    refine HF.out.mono ?_
    rintro e w1 ⟨rfl, hb⟩
    have B := Lib.hid hb
    clear hb
    go_wp2_with fail
    go_ret2
    rw [HE.out]
    exact ⟨none, 0, rfl, OwnB.nil_ _ _, B.out⟩
  · obtain ⟨N, rfl, h2, h28, en⟩ := fitB_nat hv
    have HF := Lib.hid (hfit_1 w A n c N l h hz true (by rw [HL.out]; exact hv))
    have HE := Lib.hid (trim_ok l N left h2 h28 (by rw [HL.out]; exact en))
    have HT := Lib.hid (trimL_set (N := N) (left := left) HL.out)
    have HTL : Hid ((trimL l N left).length = n) := Lib.hid (by rw [trim_len]; exact HL.out)
    have HP := Lib.hid (fun v => hplace_any A n c N left v h2 h28 en)
    have he : edgeN n left < n := by unfold edgeN szN at *; split <;> omega
    obtain ⟨d, hd⟩ : ∃ d, (if left = true then 0 else N - n) = d := ⟨_, rfl⟩
    rw [hd] at HP
    obtain ⟨e0, he0⟩ : ∃ e0, edgeN n left = e0 := ⟨_, rfl⟩
    rw [he0] at HP HT he
    obtain ⟨m0, hm0⟩ : ∃ m0, maskB N left = m0 := ⟨_, rfl⟩
    rw [hm0] at HP HT
    have HQ := Lib.hid (fun (v : World) (hb : Below w.heap.size w v) => htrim_any A n c d e0 m0 l v (h.step hb) he hn)
    rw [HT.out] at HQ
    obtain ⟨S, HS⟩ : ∃ S, Hid (S = sdC A n c d e0 m0) := ⟨_, Lib.hid rfl⟩
    rw [← HS.out] at HP HQ
    obtain ⟨V, HV⟩ : ∃ V, Hid (V = Value.agg S.toArray) := ⟨_, Lib.hid rfl⟩
    rw [← HV.out] at HP HQ
    clear hv h hd he0 hm0 he en
    go_enter Tryz.func98, Tryz.ntmps98
    go_wp2_with fail
    refine HF.out.mono ?_
    rintro e w1 ⟨rfl, hb⟩
    have B := Lib.hid hb
    clear hb
    go_wp2_with fail
    refine (HP.out _).mono ?_
    rintro e w2 ⟨rfl, hb⟩
    have B2 := Lib.hid (bel_next B.out hb)
    clear hb
    go_wp2_with fail
    refine (HQ.out _ B2.out).mono ?_
    rintro e w3 ⟨A3, c3, rfl, ho, hb⟩
    have K3 := Lib.hid (And.intro (ho.base_le B2.out.size) (bel_next B2.out hb))
    clear ho hb
    go_wp2_with fail
    go_ret2
    rw [HE.out]
    simp only
    rw [HTL.out]
    exact ⟨A3, c3, rfl, K3.out.1, K3.out.2⟩
set_option maxRecDepth 100000 in
set_option maxHeartbeats 2000000 in
theorem hcut_any (A : Option Addr) (n c : Nat) (l : List UInt8) (w : World) (h : RB w w.heap.size A n l) (hc : n ≤ c) (hn : n ≤ 1000000) :
    Calls Tryz.prog 77 #[.slice A n c] w (RetBBE (cutR l).1 (cutR l).2.1 (cutR l).2.2 w) := by
  have HL := Lib.hid h.len
  obtain ⟨s, hs⟩ : ∃ s, szN n = s := ⟨_, rfl⟩
  have hsn : s ≤ n := by rw [← hs]; unfold szN; omega
  have HE := Lib.hid (cut_trim l)
  rw [HL.out, hs] at HE
  have HS := Lib.hid (fun v => hsize_any (n : Int) (by omega) v)
  rw [szI_nat, hs] at HS
  have k1 := cut_h A n c s (by omega)
  have k2 := cut_l A n c (n - s) (by omega)
  have R1 := Lib.hid (h.part (i := 0) (j := s) (c := c) (Nat.zero_le _) hsn hc)
  have R2 := Lib.hid (h.part (i := n - s) (j := n) (c := c) (by omega) (Nat.le_refl _) hc)
  rw [List.drop_zero, Nat.sub_zero] at R1
  rw [List.take_of_length_le (by rw [HL.out]; exact Nat.le_refl _)] at R2
  have e1 : n - (n - s) = s := by omega
  rw [e1] at R2 k2
  obtain ⟨d, hd⟩ : ∃ d, n - s = d := ⟨_, rfl⟩
  rw [hd] at R2 k2 HE
  have hsub : (n : Int) - (s : Int) = (d : Int) := by omega
  obtain ⟨CA, HCA⟩ : ∃ CA, Hid (CA = cutA A c 0) := ⟨_, Lib.hid rfl⟩
  obtain ⟨CB, HCB⟩ : ∃ CB, Hid (CB = cutA A c d) := ⟨_, Lib.hid rfl⟩
  rw [← HCA.out] at k1 R1
  rw [← HCB.out] at k2 R2
  have T1 := Lib.hid (htrimT_any CA s c (l.take s) (n : Int) true w R1.out (by omega) (by omega))
  have T2 := Lib.hid (fun (v : World) (hb : Below w.heap.size w v) => htrimT_any CB s (c - d) (l.drop d) (n : Int) false v (R2.out.step hb) (by omega) (by omega))
  obtain ⟨u, HU⟩ : ∃ u, Hid (u = trimR (l.take s) (n : Int) true) := ⟨_, Lib.hid rfl⟩
  obtain ⟨t, HT⟩ : ∃ t, Hid (t = trimR (l.drop d) (n : Int) false) := ⟨_, Lib.hid rfl⟩
  rw [← HU.out] at T1 HE
  rw [← HT.out] at T2 HE
  clear h hs hsn e1 hd
  go_enter Tryz.func77, Tryz.ntmps77
  go_wp2_with fail
  refine (HS.out _).mono ?_
  rintro e w1 ⟨rfl, rfl⟩
  go_wp2_with fail
  refine T1.out.mono ?_
  rintro e w1 ⟨A1, c1, rfl, ho, hb⟩
  have K1 := Lib.hid (And.intro ho hb)
  clear ho hb
  go_wp2_with fail
  refine (T2.out _ K1.out.2).mono ?_
  rintro e w2 ⟨A2, c2, rfl, ho, hb⟩
  have K2 := Lib.hid (And.intro (K1.out.1.below hb) (And.intro (ho.base_le K1.out.2.size) (bel_next K1.out.2 hb)))
  clear ho hb
  go_wp2_with fail
  go_ret3
  rw [HE.out]
  exact ⟨A1, _, c1, A2, _, c2, rfl, K2.out.1, K2.out.2.1, K2.out.2.2⟩
set_option maxRecDepth 100000 in
set_option maxHeartbeats 4000000 in
theorem hblock_any (A : Option Addr) (n c : Nat) (l : List UInt8) (z p : Int) (w : World) (h : RB w w.heap.size A n l) (hn : n ≤ 1000000) (hz : z ≤ 9223372036854775807) :
    Calls Tryz.prog 116 #[.slice A n c, .int .i64 z, .int .i64 p] w (RetBE (blockR l z p).1.length (blockR l z p).1 (blockR l z p).2 w) := by
  have HL := Lib.hid h.len
  cases hv : fitB z n
  · have HE : Hid (blockR l z p = ([], 11)) := Lib.hid (blockR_no (by rw [HL.out, hv]; rfl))
    have HF := Lib.hid (hfit_1 w A n c z l h hz false (by rw [HL.out]; exact hv))
    clear h hv
    go_enter Tryz.func116, Tryz.ntmps116
    go_wp2_with fail
    refine HF.out.mono ?_
    rintro e w1 ⟨rfl, hb⟩
    have B := Lib.hid hb
    clear hb
    go_wp2_with fail
    go_ret2
    rw [HE.out]
    exact ⟨none, 0, rfl, OwnB.nil_ _ _, B.out⟩
  have HF := Lib.hid (hfit_1 w A n c z l h hz true (by rw [HL.out]; exact hv))
  by_cases p0 : p < 0
  · have HE : Hid (blockR l z p = ([], 11)) := Lib.hid (blockR_no (by rw [HL.out, hv, decide_eq_false (by omega)]; rfl))
    have d1 : decide (p < 0) = true := decide_eq_true p0
    clear h hv p0
    go_enter Tryz.func116, Tryz.ntmps116
    go_wp2_with fail
    refine HF.out.mono ?_
    rintro e w1 ⟨rfl, hb⟩
    have B := Lib.hid hb
    clear hb
    go_wp2_with fail
    go_ret2
    rw [HE.out]
    exact ⟨none, 0, rfl, OwnB.nil_ _ _, B.out⟩
  have d1 : decide (p < 0) = false := decide_eq_false p0
  by_cases p1 : 255 < p
  · have HE : Hid (blockR l z p = ([], 11)) := Lib.hid (blockR_no (by rw [HL.out, hv, decide_eq_false (by omega)]; rfl))
    have d2 : decide (255 < p) = true := decide_eq_true p1
    clear h hv p0 p1
    go_enter Tryz.func116, Tryz.ntmps116
    go_wp2_with fail
    refine HF.out.mono ?_
    rintro e w1 ⟨rfl, hb⟩
    have B := Lib.hid hb
    clear hb
    go_wp2_with fail
    go_ret2
    rw [HE.out]
    exact ⟨none, 0, rfl, OwnB.nil_ _ _, B.out⟩
  have d2 : decide (255 < p) = false := decide_eq_false p1
  obtain ⟨N, rfl, h2, h28, en⟩ := fitB_nat hv
  obtain ⟨P, rfl⟩ : ∃ P : Nat, p = (P : Int) := ⟨p.toNat, by omega⟩
  have hP : P ≤ 255 := by omega
  have HE := Lib.hid (block_ok l N P h2 h28 (by rw [HL.out]; exact en) hP)
  have hn14 : n ≤ 14 := by have := szN_le N h28; omega
  have HBL := Lib.hid (block_sets l n N P HL.out hn14)
  have HB16 : Hid ((blockL l N P).length = 16) := Lib.hid (block_len l N P (by rw [HL.out]; exact hn14))
  have H := Lib.hid h
  have hw1 : IntKind.u8.wrap (N : Int) = (N : Int) := by rw [IntKind.wrap_u8]; omega
  have hw2 : IntKind.u8.wrap (P : Int) = (P : Int) := by rw [IntKind.wrap_u8]; omega
  clear hv p0 p1 en h
  go_enter Tryz.func116, Tryz.ntmps116
  go_wp2_with fail
  refine HF.out.mono ?_
  rintro e w1 ⟨rfl, hb⟩
  have B := Lib.hid hb
  clear hb
  go_wp2_with (first
    | (at_make; refine wpList_mk rfl _ _ rfl w1.heap.size .i64 .i64 _ _ 16 rfl rfl (by rfl) (by rfl) (by omega) (Nat.le_refl _) ?_; intro w2 ho hs2 hb; have K2 := Lib.hid (And.intro ho hb); clear ho hs2 hb)
    | (with_reducible show wpList _ _ _ (⟨_, .call { callee := .builtin .copy, args := _, argTypes := _ }, _, _, _, none⟩ :: _) _ _; refine wpList_cpB rfl (.tmp 23) (.tmp 24) rfl w1.heap.size w1.heap.size 16 16 (List.replicate 16 0) rfl (by exact K2.out.1) _ A n c l rfl (by exact (H.out.step B.out).step K2.out.2) (by omega) ?_; intro w3 ho hb; have K3 := Lib.hid (And.intro ho (Below.trans K2.out.2 hb)); have x1 : w3.cell? ⟨w1.heap.size, 14, none⟩ = some _ := K3.out.1.cellAt (gd_lt (by rw [K3.out.1.len]; decide)); have x2 : w3.cell? ⟨w1.heap.size, 15, none⟩ = some _ := K3.out.1.cellAt (gd_lt (by rw [K3.out.1.len]; decide)); have x3 : w3.frozen? ⟨w1.heap.size, 14, none⟩ = false := K3.out.1.freeAt 14; have x4 : w3.frozen? ⟨w1.heap.size, 15, none⟩ = false := K3.out.1.freeAt 15; clear ho hb))
  go_ret2
  rw [HE.out]
  simp only
  rw [HB16.out]
  exact ⟨some ⟨w1.heap.size, 0, none⟩, 16, rfl, by rw [← HBL.out]; exact ((K3.out.1.stored 14 (UInt8.ofNat N) _ (by_ofI N (by omega))).stored 15 (UInt8.ofNat P) _ (by_ofI P hP)).base_le B.out.size, (B.out.trans (K3.out.2.mono B.out.size)).setCell (p := ⟨w1.heap.size, 14, none⟩) B.out.size _ |>.setCell (p := ⟨w1.heap.size, 15, none⟩) B.out.size _⟩
end Go.Proofs.YtfipdaekfdbaeaaGreat
