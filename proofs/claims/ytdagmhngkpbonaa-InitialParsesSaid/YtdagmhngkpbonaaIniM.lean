/- Layer 11's Make. Conditions: rows of at most a million bytes. -/
import Derived.Test.YtdagmhngkpbonaaIniB
namespace Go.Proofs.Ytdagmhngkpbonaa
open Go.RowKit
set_option linter.unusedVariables false
set_option linter.unusedSimpArgs false
attribute [local go_sem ↓] ex_ldHd ex_stHd ex_ldHr ex_stHr ex_ldI ex_ldIr ex_stI ex_stIr
attribute [local irreducible] chk byt rawP irawP ibyt mkI
theorem typ_192 : typ 192 = 0 := by decide
set_option maxRecDepth 100000 in
set_option maxHeartbeats 4000000 in
theorem make_any (A0 A1 A2 A3 : Option Addr) (c0 c1 c2 c3 : Nat) (l0 l1 l2 l3 : List UInt8) (z : Int) (w : World)
    (h0 : RB w w.heap.size A0 l0.length l0) (h1 : RB w w.heap.size A1 l1.length l1) (h2 : RB w w.heap.size A2 l2.length l2) (h3 : RB w w.heap.size A3 l3.length l3)
    (m0 : l0.length ≤ c0 ∧ c0 ≤ maxLen) (m1 : l1.length ≤ c1 ∧ c1 ≤ maxLen) (m2 : l2.length ≤ c2 ∧ c2 ≤ maxLen) (m3 : l3.length ≤ c3 ∧ c3 ≤ maxLen)
    (k2 : l2.length ≤ 800000) (k3 : l2.length + l3.length ≤ 900000) (hz : -9223372036854775808 ≤ z) :
    Calls Try.prog 15 #[.slice A0 l0.length c0, .slice A1 l1.length c1, .slice A2 l2.length c2, .slice A3 l3.length c3, .int .i64 z] w (RetBE (mkI (madeP l0 l1 l2 l3) z).1.length (mkI (madeP l0 l1 l2 l3) z).1 (mkI (madeP l0 l1 l2 l3) z).2 w) := by
  obtain ⟨X, HX⟩ : ∃ X, Hid (X = mkI (madeP l0 l1 l2 l3) z) := ⟨_, Lib.hid rfl⟩
  rw [← HX.out]
  have HX2 : Hid (X = if 65535 < z then ([], 11) else if chk (madeP l0 l1 l2 l3).1 ≠ 0 then ([], chk (madeP l0 l1 l2 l3).1) else (irawP (madeP l0 l1 l2 l3) ++ List.replicate (z.toNat - (irawP (madeP l0 l1 l2 l3)).length) 0, 0)) := Lib.hid (by rw [HX.out]; unfold mkI; rfl)
  by_cases hb : 65535 < z
  · have d : decide (65535 < z) = true := decide_eq_true hb
    have HE : Hid (X = ([], 11)) := Lib.hid (by rw [HX2.out, if_pos hb])
    go_enter Try.func15, Try.ntmps15
    go_wp2_with fail
    rw [HE.out]
    go_ret2
    exact ⟨none, 0, rfl, OwnB.nil_ _ _, Below.refl _ _⟩
  have d : decide (65535 < z) = false := decide_eq_false hb
  have HNB := Lib.hid hb
  obtain ⟨i, HI⟩ : ∃ i : In, Hid (i = ⟨⟨192, 1, A0, c0, l0, A1, c1, l1⟩, A2, c2, l2, A3, c3, l3⟩) := ⟨_, Lib.hid rfl⟩
  have e9 : i.val = .agg #[.int .u8 192, .int .u32 1, .slice A0 l0.length c0, .slice A1 l1.length c1, .slice A2 l2.length c2, .slice A3 l3.length c3] := by rw [HI.out]; rfl
  have E9 := Lib.hid e9
  have hpl : i.pl = madeP l0 l1 l2 l3 := by rw [HI.out]; rfl
  have hk : i.ok w := by rw [HI.out]; exact ⟨⟨h0, h1, m0, m1, by simp⟩, h2, h3, m2, m3⟩
  have HB := Lib.hid (fun w' (hb : Below w.heap.size w w') => ibytes_any i w' (hk.step hb) (by rw [HI.out]; exact k2) (by rw [HI.out]; simp only; omega) (by rw [HI.out]; exact k3))
  rw [hpl] at HB
  obtain ⟨Y, HY⟩ : ∃ Y, Hid (Y = ibyt (madeP l0 l1 l2 l3)) := ⟨_, Lib.hid rfl⟩
  rw [← HY.out] at HB
  have HY2 : Hid (Y = if chk (madeP l0 l1 l2 l3).1 ≠ 0 then ([], chk (madeP l0 l1 l2 l3).1) else (irawP (madeP l0 l1 l2 l3), 0)) := Lib.hid (by rw [HY.out]; unfold ibyt; rfl)
  have hlen : (chk (madeP l0 l1 l2 l3).1 = 0) → (irawP (madeP l0 l1 l2 l3)).length ≤ 910000 := fun hg => by
    have g := chk_good hg
    have hr : (rawP (madeP l0 l1 l2 l3).1).length ≤ 1000 := by rw [raw_len]; have := g.1.a; have := g.1.b; omega
    have hp := longP_len l2
    unfold irawP
    rw [List.length_append, List.length_append]
    show (rawP (madeP l0 l1 l2 l3).1).length + (longP l2).length + l3.length ≤ 910000
    omega
  have HLN := Lib.hid hlen
  clear hb e9 hpl hk hlen h0 h1 h2 h3 m0 m1 m2 m3
  go_enter Try.func15, Try.ntmps15
  go_wp2_with (first
    | (with_reducible show wpList _ _ _ (⟨some 12, .alloc _, _, _, _, none⟩ :: _) _ _; refine wpList_newI rt_ini rfl rfl ?_; intro w1 q hc1 hb1 hx1; have H1 := Lib.hid (And.intro hc1 (And.intro hb1 hx1)); clear hc1 hb1 hx1)
    | (refine wpList_stI rt_ini rfl (.tmp 12) (.tmp 23) rfl q rfl i zeroI (by rw [E9.out]; rfl) (by exact H1.out.1) ?_; intro w2 hc2 ho2 hs2; have H2 := Lib.hid (And.intro hc2 (H1.out.2.1.trans (ho2.below (fun j hj => by rw [List.mem_singleton.1 hj]; exact H1.out.2.2) H1.out.2.1.size))); clear hc2 ho2 hs2 H1)
    | (refine wpList_ldI rt_ini rfl (.tmp 12) rfl q rfl i (by exact H2.out.1) ?_))
  refine (HB.out _ H2.out.2).mono ?_
  rintro e w3 ⟨A4, c4, rfl, ho4, hb4⟩
  have H4 := Lib.hid (And.intro (ho4.base_le H2.out.2.size) (bel_next H2.out.2 hb4))
  clear ho4 hb4 H2 HB
  obtain ⟨k, HK⟩ : ∃ k, Hid (k = chk (madeP l0 l1 l2 l3).1) := ⟨_, Lib.hid rfl⟩
  rw [← HK.out] at HX2 HY2 HLN
  by_cases hk : k = 0
  rotate_left
  · have HE : Hid (X = ([], k)) := Lib.hid (by rw [HX2.out, if_neg (by have := HNB.out; omega), if_pos hk])
    have hY : Y = ([], k) := by rw [HY2.out, if_pos hk]
    subst hY
    have hkb : (k != 0) = true := by simpa using hk
    go_wp2_with fail
    rw [HE.out]
    go_ret2
    exact ⟨none, 0, rfl, OwnB.nil_ _ _, H4.out.2⟩
  obtain ⟨F, HF⟩ : ∃ F, Hid (F = irawP (madeP l0 l1 l2 l3)) := ⟨_, Lib.hid rfl⟩
  rw [← HF.out] at HX2 HY2 HLN
  have hY : Y = (F, 0) := by rw [HY2.out, if_neg (fun h => h hk)]
  subst hY
  have hmn := HLN.out hk
  obtain ⟨m, hm⟩ : ∃ m, F.length = m := ⟨_, rfl⟩
  simp only [hm] at H4 ⊢
  rw [hm] at hmn
  obtain ⟨j, HJ⟩ : ∃ j : Nat, Hid (j = z.toNat - m) := ⟨_, Lib.hid rfl⟩
  have HE : Hid (X = (F ++ List.replicate j 0, 0)) := Lib.hid (by rw [HX2.out, if_neg (by have := HNB.out; omega), if_neg (fun h => h hk), hm, HJ.out])
  have hj : j ≤ 65535 := by rw [HJ.out]; have := HNB.out; omega
  have HM := Lib.hid hm
  clear hm
  subst hk
  by_cases hzm : z < (m : Int)
  · go_wp2_with (first
      | (at_make; refine wpList_mk rfl (.tmp 40) (.tmp 40) rfl w.heap.size .i64 .i64 _ _ j rfl rfl (by have h1 := HJ.out; have h2 := HNB.out; (try split) <;> (try unfold wrap64) <;> omega) (by have h1 := HJ.out; have h2 := HNB.out; (try split) <;> (try unfold wrap64) <;> omega) (by omega) (by exact H4.out.2.size) ?_; intro w5 ho5 hs5 hb5; have H5 := Lib.hid (And.intro (H4.out.1.below hb5) (And.intro ho5 (bel_next H4.out.2 hb5))); have HS5 := Lib.hid hs5; clear ho5 hs5 hb5))
    have hRR := RR.lit w5 [(A4, c4, F), (some ⟨w3.heap.size, 0, none⟩, j, List.replicate j 0)] #[.slice A4 m c4, .slice (some ⟨w3.heap.size, 0, none⟩) j j] 22 2 w5.heap.size (by simp [HM.out]) rfl rfl (fun r hr => by
      simp only [List.mem_cons, List.not_mem_nil, or_false] at hr
      rcases hr with rfl | rfl
      · simp only [HM.out]; exact H5.out.1.rb
      · simp only [List.length_replicate]; exact H5.out.2.1.rb)
    refine (join_any _ 2 2 _ _ (by exact hRR) (by unfold maxLen; omega) (by simp [totL, HM.out]; omega)).mono ?_
    rintro e w6 ⟨A6, c6, rfl, ho6, hb6⟩
    have hto : totL (List.map (fun r : Option Addr × Nat × List UInt8 => r.2.2) [(A4, c4, F), (some ⟨w3.heap.size, 0, none⟩, j, List.replicate j 0)]) = (F ++ List.replicate j 0).length := by simp [totL]
    have hfl : (List.map (fun r : Option Addr × Nat × List UInt8 => r.2.2) [(A4, c4, F), (some ⟨w3.heap.size, 0, none⟩, j, List.replicate j 0)]).flatten = F ++ List.replicate j 0 := by simp
    rw [hto, hfl] at ho6
    rw [hto]
    obtain ⟨G, HG⟩ : ∃ G, Hid (F ++ List.replicate j 0 = G) := ⟨_, Lib.hid rfl⟩
    rw [HG.out] at ho6 ⊢
    have H6 := Lib.hid (And.intro (ho6.base_le (Nat.le_trans H5.out.2.2.size (by simp))) (bel_next (bel_next H5.out.2.2 (below_alloc _ _)) hb6))
    clear ho6 hb6 hRR hto hfl
    go_wp2_with fail
    rw [HE.out, HG.out]
    go_ret2
    exact ⟨A6, c6, rfl, H6.out⟩
  · go_wp2_with (first
      | (at_make; refine wpList_mk rfl (.tmp 40) (.tmp 40) rfl w.heap.size .i64 .i64 _ _ j rfl rfl (by have h1 := HJ.out; have h2 := HNB.out; (try split) <;> (try unfold wrap64) <;> omega) (by have h1 := HJ.out; have h2 := HNB.out; (try split) <;> (try unfold wrap64) <;> omega) (by omega) (by exact H4.out.2.size) ?_; intro w5 ho5 hs5 hb5; have H5 := Lib.hid (And.intro (H4.out.1.below hb5) (And.intro ho5 (bel_next H4.out.2 hb5))); have HS5 := Lib.hid hs5; clear ho5 hs5 hb5))
    have hRR := RR.lit w5 [(A4, c4, F), (some ⟨w3.heap.size, 0, none⟩, j, List.replicate j 0)] #[.slice A4 m c4, .slice (some ⟨w3.heap.size, 0, none⟩) j j] 22 2 w5.heap.size (by simp [HM.out]) rfl rfl (fun r hr => by
      simp only [List.mem_cons, List.not_mem_nil, or_false] at hr
      rcases hr with rfl | rfl
      · simp only [HM.out]; exact H5.out.1.rb
      · simp only [List.length_replicate]; exact H5.out.2.1.rb)
    refine (join_any _ 2 2 _ _ (by exact hRR) (by unfold maxLen; omega) (by simp [totL, HM.out]; omega)).mono ?_
    rintro e w6 ⟨A6, c6, rfl, ho6, hb6⟩
    have hto : totL (List.map (fun r : Option Addr × Nat × List UInt8 => r.2.2) [(A4, c4, F), (some ⟨w3.heap.size, 0, none⟩, j, List.replicate j 0)]) = (F ++ List.replicate j 0).length := by simp [totL]
    have hfl : (List.map (fun r : Option Addr × Nat × List UInt8 => r.2.2) [(A4, c4, F), (some ⟨w3.heap.size, 0, none⟩, j, List.replicate j 0)]).flatten = F ++ List.replicate j 0 := by simp
    rw [hto, hfl] at ho6
    rw [hto]
    obtain ⟨G, HG⟩ : ∃ G, Hid (F ++ List.replicate j 0 = G) := ⟨_, Lib.hid rfl⟩
    rw [HG.out] at ho6 ⊢
    have H6 := Lib.hid (And.intro (ho6.base_le (Nat.le_trans H5.out.2.2.size (by simp))) (bel_next (bel_next H5.out.2.2 (below_alloc _ _)) hb6))
    clear ho6 hb6 hRR hto hfl
    go_wp2_with fail
    rw [HE.out, HG.out]
    go_ret2
    exact ⟨A6, c6, rfl, H6.out⟩
end Go.Proofs.Ytdagmhngkpbonaa
