/- Layer 12's reference: Parse. Condition: at most a million bytes. -/
import Derived.Test.YtdkdgcpknephnaaGreatStP
namespace Go.Proofs.YtdkdgcpknephnaaGreat
open Go.RowKit
set_option linter.unusedVariables false
set_option linter.unusedSimpArgs false
attribute [local go_sem ↓] ex_ldHd ex_stHd ex_ldHr ex_stHr ex_ldS ex_ldSr ex_stS ex_stSr
attribute [local irreducible] prs schk typ
/-- What Parse carries. -/
structure SQ (v : World) (q y : Nat) (h : Hd) (A : Option Addr) (n c : Nat) (l : List UInt8) (w : World) : Prop where
  bel : Below v.heap.size v w
  lq : v.heap.size ≤ q
  qy : q ≠ y
  hq : Ic 40 w q zeroI
  hd : Hc 38 w y h
  own : h.own w v.heap.size
  r : OwnB w v.heap.size A n c l
theorem SQ.step {v w w' : World} {q y n c : Nat} {h : Hd} {A : Option Addr} {l : List UInt8} (k : SQ v q y h A n c l w) (hb : Below w.heap.size w w') : SQ v q y h A n c l w' := ⟨bel_next k.bel hb, k.lq, k.qy, k.hq.step hb, k.hd.step hb, k.own.step hb, k.r.below hb⟩
set_option maxRecDepth 100000 in
set_option maxHeartbeats 4000000 in
theorem rsparse_any (A : Option Addr) (n c : Nat) (l : List UInt8) (w : World) (hr0 : RB w w.heap.size A n l) (hc0 : n ≤ c ∧ c ≤ maxLen) (hn : n ≤ 1000000) :
    Calls Tryz.prog 15 #[.slice A n c] w (RetIr (sprs l) w) := by
  have H0 := Lib.hid hr0
  have HC0 := Lib.hid hc0
  clear hr0 hc0
  obtain ⟨r, HR⟩ : ∃ r, Hid (r = prs l) := ⟨_, Lib.hid rfl⟩
  obtain ⟨X, HX⟩ : ∃ X, Hid (X = sprs l) := ⟨_, Lib.hid rfl⟩
  rw [← HX.out]
  unfold sprs at HX
  rw [← HR.out] at HX
  have HSC := Lib.hid (schk_cases r.1)
  go_enter Tryz.func15, Tryz.ntmps15
  go_wp2_with (first
    | (with_reducible show wpList _ _ _ (⟨some 2, .alloc _, _, _, _, none⟩ :: _) _ _; refine wpList_newI rt_sr rfl rfl ?_; intro w1 q hc1 hb1 hx1; have H1 := Lib.hid (And.intro hc1 (And.intro hb1 hx1)); clear hc1 hb1 hx1))
  refine (rparse_any A n c l _ (by exact H0.out.step H1.out.2.1) HC0.out hn).mono ?_
  rw [← HR.out]
  rintro e w2 ⟨h, A2, n2, c2, rfl, hp, ho, hr, hb⟩
  have HP := Lib.hid hp
  have K2 : Hid (Below w.heap.size w w2 ∧ Ic 40 w2 q zeroI ∧ h.own w2 w.heap.size ∧ OwnB w2 w.heap.size A2 n2 c2 r.2.1 ∧ w.heap.size ≤ q) := Lib.hid ⟨bel_next H1.out.2.1 hb, H1.out.1.step hb, ho.base_le H1.out.2.1.size, hr.base_le H1.out.2.1.size, H1.out.2.2⟩
  clear hp ho hr hb H1
  by_cases he : r.2.2 = 0
  rotate_left
  · have hb' : (r.2.2 != 0) = true := by simpa using he
    have HE : Hid (X = (zeroIP, r.2.2)) := Lib.hid (by rw [HX.out, if_pos he])
    go_wp2_with (first
      | (with_reducible show wpList _ _ _ (⟨some 4, .alloc _, _, _, _, none⟩ :: _) _ _; refine wpList_allocN ht_ref rfl rfl ?_; intro w3 y hc2 hb2 hx2; have H2 := Lib.hid (And.intro hc2 (And.intro hb2 hx2)); clear hc2 hb2 hx2)
      | (refine wpList_stH ht_ref rfl (.tmp 4) (.tmp 11) rfl y rfl h zeroH rfl (by exact H2.out.1) ?_; intro w4 hc3 ho3 hs3; have hb4 := H2.out.2.1.trans (ho3.below (fun j hj => by rw [List.mem_singleton.1 hj]; exact H2.out.2.2) H2.out.2.1.size); have K4 : Hid (SQ w q y h A2 n2 c2 r.2.1 w4) := Lib.hid ⟨bel_next K2.out.1 hb4, K2.out.2.2.2.2, Nat.ne_of_lt (Nat.lt_of_lt_of_le K2.out.2.1.blk.lt H2.out.2.2), K2.out.2.1.step hb4, hc3, K2.out.2.2.1.step hb4, K2.out.2.2.2.1.below hb4⟩; have a0 := K4.out.hd.c0; have a1 := K4.out.hd.c1; have a2 := K4.out.hd.c2; have a3 := K4.out.hd.c3; clear hc3 ho3 hs3 hb4 H2 K2)
      | (refine wpList_stI rt_sr rfl (.tmp 2) (.tmp 16) rfl q rfl zeroI zeroI rfl (by exact K4.out.hq) ?_; intro w5 hc5 ho5 hs5; have H5 := Lib.hid (And.intro hc5 ho5); clear hc5 ho5 hs5))
    rw [HE.out]
    exact bodyPost_ret (v := .tuple #[zeroI.val, .int .i64 (r.2.2)]) (res_rec2 rt_sr rfl _ _ q zeroI.cells _ rfl rfl H5.out.1 rfl) rfl ⟨zeroI, rfl, rfl, (In.own.zero _ w.heap.size).ok, K4.out.bel.trans (H5.out.2.below (fun j hj => by rw [List.mem_singleton.1 hj]; exact K4.out.lq) K4.out.bel.size)⟩
  have hb' : (r.2.2 != 0) = false := by rw [he]; rfl
  have hpp : h.f = r.1.1 ∧ h.v = r.1.2.1 ∧ h.a = r.1.2.2.1 ∧ h.b = r.1.2.2.2 := by rw [← HP.out]; exact ⟨rfl, rfl, rfl, rfl⟩
  have ht4 := typ_lt h.f
  obtain ⟨k, HK⟩ : ∃ k, Hid (k = schk r.1) := ⟨_, Lib.hid rfl⟩
  rw [← HK.out] at HX HSC
  rw [← hpp.1, ← hpp.2.1, ← hpp.2.2.1, ← hpp.2.2.2] at HSC
  clear hpp
  have hlen : r.2.1.length ≤ n := by
    have h1 := (prs_back (l := l) (by rw [← HR.out]; exact he)).2
    rw [← HR.out] at h1
    have h2 := congrArg List.length h1
    rw [List.length_append, H0.out.len] at h2
    omega
  have HLN := Lib.hid hlen
  clear hlen
  by_cases hv : h.v = 1
  rotate_left
  · have u1 : ((h.v : Int) == 1) = false := by rw [beq_eq_false_iff_ne]; omega
    have u1' : ((h.v : Int) != 1) = true := by rw [bne, u1]; rfl
    have hk : k = 14 := by rcases HSC.out with h1 | h1 | h1; exact h1.1; exact absurd h1.2.1 hv; exact absurd h1.2.1 hv
    have HE : Hid (X = (zeroIP, 14)) := Lib.hid (by rw [HX.out, if_neg (fun k => k he), if_pos (by rw [hk]; decide), hk])
    clear hv hk
    go_wp2_with (first
      | (with_reducible show wpList _ _ _ (⟨some 4, .alloc _, _, _, _, none⟩ :: _) _ _; refine wpList_allocN ht_ref rfl rfl ?_; intro w3 y hc2 hb2 hx2; have H2 := Lib.hid (And.intro hc2 (And.intro hb2 hx2)); clear hc2 hb2 hx2)
      | (refine wpList_stH ht_ref rfl (.tmp 4) (.tmp 11) rfl y rfl h zeroH rfl (by exact H2.out.1) ?_; intro w4 hc3 ho3 hs3; have hb4 := H2.out.2.1.trans (ho3.below (fun j hj => by rw [List.mem_singleton.1 hj]; exact H2.out.2.2) H2.out.2.1.size); have K4 : Hid (SQ w q y h A2 n2 c2 r.2.1 w4) := Lib.hid ⟨bel_next K2.out.1 hb4, K2.out.2.2.2.2, Nat.ne_of_lt (Nat.lt_of_lt_of_le K2.out.2.1.blk.lt H2.out.2.2), K2.out.2.1.step hb4, hc3, K2.out.2.2.1.step hb4, K2.out.2.2.2.1.below hb4⟩; have a0 := K4.out.hd.c0; have a1 := K4.out.hd.c1; have a2 := K4.out.hd.c2; have a3 := K4.out.hd.c3; clear hc3 ho3 hs3 hb4 H2 K2)
      | (refine wpList_stI rt_sr rfl (.tmp 2) (.tmp 27) rfl q rfl zeroI zeroI rfl (by exact K4.out.hq) ?_; intro w5 hc5 ho5 hs5; have H5 := Lib.hid (And.intro hc5 ho5); clear hc5 ho5 hs5))
    rw [HE.out]
    exact bodyPost_ret (v := .tuple #[zeroI.val, .int .i64 (14)]) (res_rec2 rt_sr rfl _ _ q zeroI.cells _ rfl rfl H5.out.1 rfl) rfl ⟨zeroI, rfl, rfl, (In.own.zero _ w.heap.size).ok, K4.out.bel.trans (H5.out.2.below (fun j hj => by rw [List.mem_singleton.1 hj]; exact K4.out.lq) K4.out.bel.size)⟩
  have u1 : ((h.v : Int) == 1) = true := by rw [beq_iff_eq]; omega
  have u1' : ((h.v : Int) != 1) = false := by rw [bne, u1]; rfl
  by_cases hty : typ h.f = 3
  rotate_left
  · have u2 : ((typ h.f : Int) == 3) = false := by rw [beq_eq_false_iff_ne]; omega
    have u2' : ((typ h.f : Int) != 3) = true := by rw [bne, u2]; rfl
    have hk : k = 14 := by rcases HSC.out with h1 | h1 | h1; exact h1.1; exact absurd h1.2.2.1 hty; exact absurd h1.2.2.1 hty
    have HE : Hid (X = (zeroIP, 14)) := Lib.hid (by rw [HX.out, if_neg (fun k => k he), if_pos (by rw [hk]; decide), hk])
    clear hv hk hty
    go_wp2_with (first
      | (with_reducible show wpList _ _ _ (⟨some 4, .alloc _, _, _, _, none⟩ :: _) _ _; refine wpList_allocN ht_ref rfl rfl ?_; intro w3 y hc2 hb2 hx2; have H2 := Lib.hid (And.intro hc2 (And.intro hb2 hx2)); clear hc2 hb2 hx2)
      | (refine wpList_stH ht_ref rfl (.tmp 4) (.tmp 11) rfl y rfl h zeroH rfl (by exact H2.out.1) ?_; intro w4 hc3 ho3 hs3; have hb4 := H2.out.2.1.trans (ho3.below (fun j hj => by rw [List.mem_singleton.1 hj]; exact H2.out.2.2) H2.out.2.1.size); have K4 : Hid (SQ w q y h A2 n2 c2 r.2.1 w4) := Lib.hid ⟨bel_next K2.out.1 hb4, K2.out.2.2.2.2, Nat.ne_of_lt (Nat.lt_of_lt_of_le K2.out.2.1.blk.lt H2.out.2.2), K2.out.2.1.step hb4, hc3, K2.out.2.2.1.step hb4, K2.out.2.2.2.1.below hb4⟩; have a0 := K4.out.hd.c0; have a1 := K4.out.hd.c1; have a2 := K4.out.hd.c2; have a3 := K4.out.hd.c3; clear hc3 ho3 hs3 hb4 H2 K2))
    refine (rtyp_any h.f _).mono ?_
    rintro e wt ⟨rfl, rfl⟩
    go_wp2_with (first
      | (refine wpList_stI rt_sr rfl (.tmp 2) (.tmp 27) rfl q rfl zeroI zeroI rfl (by exact K4.out.hq) ?_; intro w5 hc5 ho5 hs5; have H5 := Lib.hid (And.intro hc5 ho5); clear hc5 ho5 hs5))
    rw [HE.out]
    exact bodyPost_ret (v := .tuple #[zeroI.val, .int .i64 (14)]) (res_rec2 rt_sr rfl _ _ q zeroI.cells _ rfl rfl H5.out.1 rfl) rfl ⟨zeroI, rfl, rfl, (In.own.zero _ w.heap.size).ok, K4.out.bel.trans (H5.out.2.below (fun j hj => by rw [List.mem_singleton.1 hj]; exact K4.out.lq) K4.out.bel.size)⟩
  have u2 : ((typ h.f : Int) == 3) = true := by rw [beq_iff_eq]; omega
  have u2' : ((typ h.f : Int) != 3) = false := by rw [bne, u2]; rfl
  by_cases hk : k = 0
  rotate_left
  · obtain ⟨hk15, hids⟩ : k = 15 ∧ (20 < h.a.length ∨ 20 < h.b.length) := by
      rcases HSC.out with h1 | h1 | h1
      · rcases h1.2 with h2 | h2; exact absurd hv h2; exact absurd hty h2
      · exact ⟨h1.1, h1.2.2.2⟩
      · exact absurd h1.1 hk
    have HE : Hid (X = (zeroIP, 15)) := Lib.hid (by rw [HX.out, if_neg (fun k => k he), if_pos hk, hk15])
    clear hv hty hk hk15
    by_cases ha : 20 < h.a.length
    · have u3 : decide (20 < (h.a.length : Int)) = true := decide_eq_true (by omega)
      go_wp2_with (first
        | (with_reducible show wpList _ _ _ (⟨some 4, .alloc _, _, _, _, none⟩ :: _) _ _; refine wpList_allocN ht_ref rfl rfl ?_; intro w3 y hc2 hb2 hx2; have H2 := Lib.hid (And.intro hc2 (And.intro hb2 hx2)); clear hc2 hb2 hx2)
        | (refine wpList_stH ht_ref rfl (.tmp 4) (.tmp 11) rfl y rfl h zeroH rfl (by exact H2.out.1) ?_; intro w4 hc3 ho3 hs3; have hb4 := H2.out.2.1.trans (ho3.below (fun j hj => by rw [List.mem_singleton.1 hj]; exact H2.out.2.2) H2.out.2.1.size); have K4 : Hid (SQ w q y h A2 n2 c2 r.2.1 w4) := Lib.hid ⟨bel_next K2.out.1 hb4, K2.out.2.2.2.2, Nat.ne_of_lt (Nat.lt_of_lt_of_le K2.out.2.1.blk.lt H2.out.2.2), K2.out.2.1.step hb4, hc3, K2.out.2.2.1.step hb4, K2.out.2.2.2.1.below hb4⟩; have a0 := K4.out.hd.c0; have a1 := K4.out.hd.c1; have a2 := K4.out.hd.c2; have a3 := K4.out.hd.c3; clear hc3 ho3 hs3 hb4 H2 K2))
      refine (rtyp_any h.f _).mono ?_
      rintro e wt ⟨rfl, rfl⟩
      go_wp2_with (first
        | (refine wpList_stI rt_sr rfl (.tmp 2) (.tmp 38) rfl q rfl zeroI zeroI rfl (by exact K4.out.hq) ?_; intro w5 hc5 ho5 hs5; have H5 := Lib.hid (And.intro hc5 ho5); clear hc5 ho5 hs5))
      rw [HE.out]
      exact bodyPost_ret (v := .tuple #[zeroI.val, .int .i64 (15)]) (res_rec2 rt_sr rfl _ _ q zeroI.cells _ rfl rfl H5.out.1 rfl) rfl ⟨zeroI, rfl, rfl, (In.own.zero _ w.heap.size).ok, K4.out.bel.trans (H5.out.2.below (fun j hj => by rw [List.mem_singleton.1 hj]; exact K4.out.lq) K4.out.bel.size)⟩
    · have u3 : decide (20 < (h.a.length : Int)) = false := decide_eq_false (by omega)
      have u4 : decide (20 < (h.b.length : Int)) = true := decide_eq_true (by omega)
      go_wp2_with (first
        | (with_reducible show wpList _ _ _ (⟨some 4, .alloc _, _, _, _, none⟩ :: _) _ _; refine wpList_allocN ht_ref rfl rfl ?_; intro w3 y hc2 hb2 hx2; have H2 := Lib.hid (And.intro hc2 (And.intro hb2 hx2)); clear hc2 hb2 hx2)
        | (refine wpList_stH ht_ref rfl (.tmp 4) (.tmp 11) rfl y rfl h zeroH rfl (by exact H2.out.1) ?_; intro w4 hc3 ho3 hs3; have hb4 := H2.out.2.1.trans (ho3.below (fun j hj => by rw [List.mem_singleton.1 hj]; exact H2.out.2.2) H2.out.2.1.size); have K4 : Hid (SQ w q y h A2 n2 c2 r.2.1 w4) := Lib.hid ⟨bel_next K2.out.1 hb4, K2.out.2.2.2.2, Nat.ne_of_lt (Nat.lt_of_lt_of_le K2.out.2.1.blk.lt H2.out.2.2), K2.out.2.1.step hb4, hc3, K2.out.2.2.1.step hb4, K2.out.2.2.2.1.below hb4⟩; have a0 := K4.out.hd.c0; have a1 := K4.out.hd.c1; have a2 := K4.out.hd.c2; have a3 := K4.out.hd.c3; clear hc3 ho3 hs3 hb4 H2 K2))
      refine (rtyp_any h.f _).mono ?_
      rintro e wt ⟨rfl, rfl⟩
      go_wp2_with (first
        | (refine wpList_stI rt_sr rfl (.tmp 2) (.tmp 38) rfl q rfl zeroI zeroI rfl (by exact K4.out.hq) ?_; intro w5 hc5 ho5 hs5; have H5 := Lib.hid (And.intro hc5 ho5); clear hc5 ho5 hs5))
      rw [HE.out]
      exact bodyPost_ret (v := .tuple #[zeroI.val, .int .i64 (15)]) (res_rec2 rt_sr rfl _ _ q zeroI.cells _ rfl rfl H5.out.1 rfl) rfl ⟨zeroI, rfl, rfl, (In.own.zero _ w.heap.size).ok, K4.out.bel.trans (H5.out.2.below (fun j hj => by rw [List.mem_singleton.1 hj]; exact K4.out.lq) K4.out.bel.size)⟩
  obtain ⟨ha, hb⟩ : h.a.length ≤ 20 ∧ h.b.length ≤ 20 := by
    rcases HSC.out with h1 | h1 | h1
    · exact absurd (hk.symm.trans h1.1) (by decide)
    · exact absurd (hk.symm.trans h1.1) (by decide)
    · exact h1.2.2.2
  have u3 : decide (20 < (h.a.length : Int)) = false := decide_eq_false (by omega)
  have u4 : decide (20 < (h.b.length : Int)) = false := decide_eq_false (by omega)
  have HX2 : Hid (X = if r.2.1.length < 17 then (zeroIP, 12) else ((r.1, r.2.1.take (r.2.1.length - 16), r.2.1.drop (r.2.1.length - 16)), 0)) := Lib.hid (by rw [HX.out, if_neg (fun k => k he), if_neg (fun h => h hk)])
  have HL2 := Lib.hid K2.out.2.2.2.1.len
  rw [HL2.out] at HX2 HLN
  have hcc := K2.out.2.2.2.1.cap
  clear hv hty hk ha hb he
  have hn2 : n2 ≤ 1000000 := by have := HLN.out; omega
  by_cases h17 : n2 < 17
  · have u5 : decide ((n2 : Int) - 16 < 1) = true := decide_eq_true (by omega)
    have HE : Hid (X = (zeroIP, 12)) := Lib.hid (by rw [HX2.out, if_pos h17])
    clear hcc
    go_wp2_with (first
      | (with_reducible show wpList _ _ _ (⟨some 4, .alloc _, _, _, _, none⟩ :: _) _ _; refine wpList_allocN ht_ref rfl rfl ?_; intro w3 y hc2 hb2 hx2; have H2 := Lib.hid (And.intro hc2 (And.intro hb2 hx2)); clear hc2 hb2 hx2)
      | (refine wpList_stH ht_ref rfl (.tmp 4) (.tmp 11) rfl y rfl h zeroH rfl (by exact H2.out.1) ?_; intro w4 hc3 ho3 hs3; have hb4 := H2.out.2.1.trans (ho3.below (fun j hj => by rw [List.mem_singleton.1 hj]; exact H2.out.2.2) H2.out.2.1.size); have K4 : Hid (SQ w q y h A2 n2 c2 r.2.1 w4) := Lib.hid ⟨bel_next K2.out.1 hb4, K2.out.2.2.2.2, Nat.ne_of_lt (Nat.lt_of_lt_of_le K2.out.2.1.blk.lt H2.out.2.2), K2.out.2.1.step hb4, hc3, K2.out.2.2.1.step hb4, K2.out.2.2.2.1.below hb4⟩; have a0 := K4.out.hd.c0; have a1 := K4.out.hd.c1; have a2 := K4.out.hd.c2; have a3 := K4.out.hd.c3; clear hc3 ho3 hs3 hb4 H2 K2))
    refine (rtyp_any h.f _).mono ?_
    rintro e wt ⟨rfl, rfl⟩
    go_wp2_with (first
      | (refine wpList_stI rt_sr rfl (.tmp 2) (.tmp 44) rfl q rfl zeroI zeroI rfl (by exact K4.out.hq) ?_; intro w5 hc5 ho5 hs5; have H5 := Lib.hid (And.intro hc5 ho5); clear hc5 ho5 hs5))
    rw [HE.out]
    exact bodyPost_ret (v := .tuple #[zeroI.val, .int .i64 (12)]) (res_rec2 rt_sr rfl _ _ q zeroI.cells _ rfl rfl H5.out.1 rfl) rfl ⟨zeroI, rfl, rfl, (In.own.zero _ w.heap.size).ok, K4.out.bel.trans (H5.out.2.below (fun j hj => by rw [List.mem_singleton.1 hj]; exact K4.out.lq) K4.out.bel.size)⟩
  obtain ⟨N, hN⟩ : ∃ N, n2 = N + 16 := ⟨n2 - 16, by omega⟩
  have hsub : (n2 : Int) - 16 = (N : Int) := by omega
  have u5 : decide ((N : Int) < 1) = false := decide_eq_false (by omega)
  have hcut2 := cut_h A2 n2 c2 N (by omega)
  have hcut3 := cut_l A2 n2 c2 N (by omega)
  have HE : Hid (X = ((r.1, r.2.1.take N, r.2.1.drop N), 0)) := Lib.hid (by rw [HX2.out, if_neg h17, hN, Nat.add_sub_cancel])
  have HN := Lib.hid hN
  have hd : n2 - N = 16 := by omega
  rw [hd] at hcut3
  have HCC := Lib.hid hcc
  clear hN h17 hcc hd
  go_wp2_with (first
    | (with_reducible show wpList _ _ _ (⟨some 4, .alloc _, _, _, _, none⟩ :: _) _ _; refine wpList_allocN ht_ref rfl rfl ?_; intro w3 y hc2 hb2 hx2; have H2 := Lib.hid (And.intro hc2 (And.intro hb2 hx2)); clear hc2 hb2 hx2)
    | (refine wpList_stH ht_ref rfl (.tmp 4) (.tmp 11) rfl y rfl h zeroH rfl (by exact H2.out.1) ?_; intro w4 hc3 ho3 hs3; have hb4 := H2.out.2.1.trans (ho3.below (fun j hj => by rw [List.mem_singleton.1 hj]; exact H2.out.2.2) H2.out.2.1.size); have K4 : Hid (SQ w q y h A2 n2 c2 r.2.1 w4) := Lib.hid ⟨bel_next K2.out.1 hb4, K2.out.2.2.2.2, Nat.ne_of_lt (Nat.lt_of_lt_of_le K2.out.2.1.blk.lt H2.out.2.2), K2.out.2.1.step hb4, hc3, K2.out.2.2.1.step hb4, K2.out.2.2.2.1.below hb4⟩; have a0 := K4.out.hd.c0; have a1 := K4.out.hd.c1; have a2 := K4.out.hd.c2; have a3 := K4.out.hd.c3; clear hc3 ho3 hs3 hb4 H2 K2))
  refine (rtyp_any h.f _).mono ?_
  rintro e wt ⟨rfl, rfl⟩
  go_wp2_with fail
  have K7 := Lib.hid (K4.out.step (Below.refl _ _).drew)
  have HD7 := K7.out.hd
  clear a0 a1 a2 a3
  have l1 : Hid ((r.2.1.take N).length = N ∧ (r.2.1.drop N).length = 16) := Lib.hid (by have h1 := HL2.out; have h2 := HN.out; exact ⟨by rw [List.length_take]; omega, by rw [List.length_drop]; omega⟩)
  refine wp_region_held_drew (S := fun w' => Hc 38 w' y h) (by kernel_rfl) HD7 (fun hHeld => ?_)
  (try dsimp only at hHeld)
  refine wpAnyH_take (i := 0) (v := ?v0_1) rfl (by kernel_rfl) (by kernel_rfl) (by kernel_rfl) (fun _ _ _ h => h) (Or.inl ⟨by rfl, ?hy0_1⟩) hHeld ?_
  case hy0_1 => (intro w hSw; (try dsimp only at hSw); have q0 : ldHd 38 (.pointer (some ⟨y, 0, none⟩)) w = .ok (.value (.agg #[.int .u8 (h.f.toNat : Int), .int .u32 (h.v : Int), .slice h.A h.a.length h.c, .slice h.B h.b.length h.d])) w := ldHd_m ht_ref hSw; (try simp only [List.getElem_toArray, List.getElem_cons_zero, List.getElem_cons_succ]); go_simp <;> with_reducible rfl)
  (try simp only [Act.put, List.getElem_toArray, List.getElem_cons_zero, List.getElem_cons_succ, List.setIfInBounds_toArray, List.set_cons_zero, List.set_cons_succ])
  refine wpAnyH_take (i := 1) (v := ?v1_2) rfl (by kernel_rfl) (by kernel_rfl) (by kernel_rfl) (fun _ _ _ h => h) (Or.inl ⟨by rfl, ?hy1_2⟩) hHeld ?_
  case hy1_2 => (intro w hSw; (try dsimp only at hSw); have q0 : ldHd 38 (.pointer (some ⟨y, 0, none⟩)) w = .ok (.value (.agg #[.int .u8 (h.f.toNat : Int), .int .u32 (h.v : Int), .slice h.A h.a.length h.c, .slice h.B h.b.length h.d])) w := ldHd_m ht_ref hSw; (try simp only [List.getElem_toArray, List.getElem_cons_zero, List.getElem_cons_succ]); go_simp <;> with_reducible rfl)
  (try simp only [Act.put, List.getElem_toArray, List.getElem_cons_zero, List.getElem_cons_succ, List.setIfInBounds_toArray, List.set_cons_zero, List.set_cons_succ])
  refine wpAnyH_take (i := 2) (v := ?v2_3) rfl (by kernel_rfl) (by kernel_rfl) (by kernel_rfl) (fun _ _ _ h => h) (Or.inl ⟨by rfl, ?hy2_3⟩) hHeld ?_
  case hy2_3 => (intro w hSw; (try dsimp only at hSw); have q0 : ldHd 38 (.pointer (some ⟨y, 0, none⟩)) w = .ok (.value (.agg #[.int .u8 (h.f.toNat : Int), .int .u32 (h.v : Int), .slice h.A h.a.length h.c, .slice h.B h.b.length h.d])) w := ldHd_m ht_ref hSw; (try simp only [List.getElem_toArray, List.getElem_cons_zero, List.getElem_cons_succ]); go_simp <;> with_reducible rfl)
  (try simp only [Act.put, List.getElem_toArray, List.getElem_cons_zero, List.getElem_cons_succ, List.setIfInBounds_toArray, List.set_cons_zero, List.set_cons_succ])
  refine wpAnyH_take (i := 3) (v := ?v3_4) rfl (by kernel_rfl) (by kernel_rfl) (by kernel_rfl) (fun _ _ _ h => h) (Or.inl ⟨by rfl, ?hy3_4⟩) hHeld ?_
  case hy3_4 => (intro w hSw; (try dsimp only at hSw); have q0 : ldHd 38 (.pointer (some ⟨y, 0, none⟩)) w = .ok (.value (.agg #[.int .u8 (h.f.toNat : Int), .int .u32 (h.v : Int), .slice h.A h.a.length h.c, .slice h.B h.b.length h.d])) w := ldHd_m ht_ref hSw; (try simp only [List.getElem_toArray, List.getElem_cons_zero, List.getElem_cons_succ]); go_simp <;> with_reducible rfl)
  (try simp only [Act.put, List.getElem_toArray, List.getElem_cons_zero, List.getElem_cons_succ, List.setIfInBounds_toArray, List.set_cons_zero, List.set_cons_succ])
  refine wpAnyH_take (i := 4) (v := ?v4_5) rfl (by kernel_rfl) (by kernel_rfl) (by kernel_rfl) (fun _ _ _ h => h) (Or.inl ⟨by rfl, ?hy4_5⟩) hHeld ?_
  case hy4_5 => (intro w hSw; (try dsimp only at hSw); have q0 : ldHd 38 (.pointer (some ⟨y, 0, none⟩)) w = .ok (.value (.agg #[.int .u8 (h.f.toNat : Int), .int .u32 (h.v : Int), .slice h.A h.a.length h.c, .slice h.B h.b.length h.d])) w := ldHd_m ht_ref hSw; (try simp only [List.getElem_toArray, List.getElem_cons_zero, List.getElem_cons_succ]); go_simp <;> with_reducible rfl)
  (try simp only [Act.put, List.getElem_toArray, List.getElem_cons_zero, List.getElem_cons_succ, List.setIfInBounds_toArray, List.set_cons_zero, List.set_cons_succ])
  refine wpAnyH_take (i := 5) (v := ?v5_6) rfl (by kernel_rfl) (by kernel_rfl) (by kernel_rfl) (fun _ _ _ h => h) (Or.inl ⟨by rfl, ?hy5_6⟩) hHeld ?_
  case hy5_6 => (intro w hSw; (try dsimp only at hSw); have q0 : ldHd 38 (.pointer (some ⟨y, 0, none⟩)) w = .ok (.value (.agg #[.int .u8 (h.f.toNat : Int), .int .u32 (h.v : Int), .slice h.A h.a.length h.c, .slice h.B h.b.length h.d])) w := ldHd_m ht_ref hSw; (try simp only [List.getElem_toArray, List.getElem_cons_zero, List.getElem_cons_succ]); go_simp <;> with_reducible rfl)
  (try simp only [Act.put, List.getElem_toArray, List.getElem_cons_zero, List.getElem_cons_succ, List.setIfInBounds_toArray, List.set_cons_zero, List.set_cons_succ])
  refine wpAnyH_take (i := 6) (v := ?v6_7) rfl (by kernel_rfl) (by kernel_rfl) (by kernel_rfl) (fun _ _ _ h => h) (Or.inl ⟨by rfl, ?hy6_7⟩) hHeld ?_
  case hy6_7 => (intro w hSw; (try dsimp only at hSw); have q0 : ldHd 38 (.pointer (some ⟨y, 0, none⟩)) w = .ok (.value (.agg #[.int .u8 (h.f.toNat : Int), .int .u32 (h.v : Int), .slice h.A h.a.length h.c, .slice h.B h.b.length h.d])) w := ldHd_m ht_ref hSw; (try simp only [List.getElem_toArray, List.getElem_cons_zero, List.getElem_cons_succ]); go_simp <;> with_reducible rfl)
  (try simp only [Act.put, List.getElem_toArray, List.getElem_cons_zero, List.getElem_cons_succ, List.setIfInBounds_toArray, List.set_cons_zero, List.set_cons_succ])
  refine wpAnyH_take (i := 7) (v := ?v7_8) rfl (by kernel_rfl) (by kernel_rfl) (by kernel_rfl) (fun _ _ _ h => h) (Or.inl ⟨by rfl, ?hy7_8⟩) hHeld ?_
  case hy7_8 => (intro w hSw; (try dsimp only at hSw); have q0 : ldHd 38 (.pointer (some ⟨y, 0, none⟩)) w = .ok (.value (.agg #[.int .u8 (h.f.toNat : Int), .int .u32 (h.v : Int), .slice h.A h.a.length h.c, .slice h.B h.b.length h.d])) w := ldHd_m ht_ref hSw; (try simp only [List.getElem_toArray, List.getElem_cons_zero, List.getElem_cons_succ]); go_simp <;> with_reducible rfl)
  (try simp only [Act.put, List.getElem_toArray, List.getElem_cons_zero, List.getElem_cons_succ, List.setIfInBounds_toArray, List.set_cons_zero, List.set_cons_succ])
  obtain ⟨i, HI⟩ : ∃ i : In, Hid (i = ⟨h, cutA A2 c2 0, c2, r.2.1.take N, cutA A2 c2 N, c2 - N, r.2.1.drop N⟩) := ⟨_, Lib.hid rfl⟩
  have e9 : i.val = .agg #[.int .u8 (h.f.toNat : Int), .int .u32 (h.v : Int), .slice h.A h.a.length h.c, .slice h.B h.b.length h.d, .slice (cutA A2 c2 0) N c2, .slice (cutA A2 c2 N) 16 (c2 - N)] := by
    rw [HI.out]
    show Value.agg #[.int .u8 (h.f.toNat : Int), .int .u32 (h.v : Int), .slice h.A h.a.length h.c, .slice h.B h.b.length h.d, .slice (cutA A2 c2 0) (r.2.1.take N).length c2, .slice (cutA A2 c2 N) (r.2.1.drop N).length (c2 - N)] = _
    rw [l1.out.1, l1.out.2]
  have HOK : Hid ((∀ w', OwnB w' w.heap.size A2 n2 c2 r.2.1 → h.own w' w.heap.size → i.ok w') ∧ i.pl = (r.1, r.2.1.take N, r.2.1.drop N)) := by
    refine Lib.hid ⟨?_, ?_⟩
    · intro w' hr' ho'
      have hN := HN.out
      have hcc := HCC.out
      have g2 := hr'.rb.part (i := 0) (j := N) (c := c2) (Nat.zero_le _) (by omega) hcc.1
      have g3 := hr'.rb.part (i := N) (j := n2) (c := c2) (by omega) (Nat.le_refl _) hcc.1
      rw [List.take_of_length_le (by rw [HL2.out]; omega), show n2 - N = 16 by omega] at g3
      rw [HI.out]
      unfold maxLen at hcc
      exact ⟨ho'.ok, by rw [l1.out.1]; simpa using g2, by rw [l1.out.2]; exact g3, by simp only [l1.out.1]; unfold maxLen; omega, by simp only [l1.out.2]; unfold maxLen; omega⟩
    · rw [HI.out]; show (h.pl, _, _) = _; rw [HP.out]
  have qs := K7.out.hq.st rt_sr i
  have E9 := Lib.hid e9
  rw [e9] at qs
  clear e9
  refine wpAnyH_ready (rs := [8]) (by kernel_rfl) (by simp) ?_
  refine AllReadyH.cons rfl (fun K hK => ?_) AllReadyH.nil
  (try simp only [List.getElem_toArray, List.getElem_cons_zero, List.getElem_cons_succ])
  go_simp
  refine hK.out _ _ (K7.out.hd.oth (oth_setCells q _ _ _ _ (Oth.refl _ _)) (by simpa using K7.out.qy.symm)) (fun hHeld => ?_)
  clear hK K
  (try simp only [Act.put, List.getElem_toArray, List.getElem_cons_zero, List.getElem_cons_succ, List.setIfInBounds_toArray, List.set_cons_zero, List.set_cons_succ])
  refine wpAnyH_take (i := 9) (v := ?v9_9) rfl (by kernel_rfl) (by kernel_rfl) (by kernel_rfl) (fun _ _ _ h => h) (Or.inl ⟨by rfl, ?hy9_9⟩) hHeld ?_
  case hy9_9 => (intro w hSw; (try dsimp only at hSw); have q0 : ldHd 38 (.pointer (some ⟨y, 0, none⟩)) w = .ok (.value (.agg #[.int .u8 (h.f.toNat : Int), .int .u32 (h.v : Int), .slice h.A h.a.length h.c, .slice h.B h.b.length h.d])) w := ldHd_m ht_ref hSw; (try simp only [List.getElem_toArray, List.getElem_cons_zero, List.getElem_cons_succ]); go_simp <;> with_reducible rfl)
  (try simp only [Act.put, List.getElem_toArray, List.getElem_cons_zero, List.getElem_cons_succ, List.setIfInBounds_toArray, List.set_cons_zero, List.set_cons_succ])
  refine wpAnyH_done (by kernel_rfl) ?_ _
  go_wp2_with fail
  rw [HE.out]
  have hX : Oth [q] w4.drew (w4.drew.setCells q 0 i.cells) := oth_setCells q _ _ _ _ (Oth.refl _ _)
  exact bodyPost_ret (v := .tuple #[i.val, .int .i64 0]) (res_rec2 rt_sr rfl _ _ q i.cells _ rfl rfl (K7.out.hq.whole i) rfl) rfl ⟨i, rfl, HOK.out.2, HOK.out.1 _ (K7.out.r.offS hX (K7.out.hq.blk.nob (by decide))) (K7.out.own.off hX (K7.out.hq.blk.nob (by decide))), K7.out.bel.trans (hX.below (fun j hj => by rw [List.mem_singleton.1 hj]; exact K7.out.lq) K7.out.bel.size)⟩
end Go.Proofs.YtdkdgcpknephnaaGreat
