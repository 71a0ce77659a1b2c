/- Layer 13's Answer, Parse and Has. Conditions: the slices' cells are readable, at most a million bytes. -/
import Derived.Test.YtppopdjfecabfaaOffS
import Derived.Test.YtppopdjfecabfaaOffA
import Derived.Test.YtppopdjfecabfaaOffC
namespace Go.Proofs.Ytppopdjfecabfaa
open Go.RowKit
set_option linter.unusedVariables false
set_option linter.unusedSimpArgs false
attribute [local irreducible] putL byt mkO offL rawP verL prs splV vnum numL oprs answ hasV
attribute [local go_sem ↓] ex_ldHd ex_stHd
set_option maxRecDepth 100000 in
set_option maxHeartbeats 4000000 in
theorem oanswer_any (A : Option Addr) (n c : Nat) (l : List UInt8) (f : UInt8) (Av : Option Addr) (nv cv : Nat) (vs : List Nat) (w : World) (h : RB w w.heap.size A n l) (hc : n ≤ c ∧ c ≤ maxLen) (hn : n ≤ 1000000) (hv : VL w w.heap.size Av nv vs) (hnv : nv ≤ maxLen) :
    Calls Try.prog 10 #[.slice A n c, .int .u8 (f.toNat : Int), .slice Av nv cv] w (RetBE (answ l f vs).1.length (answ l f vs).1 (answ l f vs).2 w) := by
  have HV := Lib.hid hv
  have HP := Lib.hid (parse_any A n c l w h hn)
  have HI := Lib.hid (prs_ids l)
  have HA : Hid (answ l f vs = if (prs l).2.2 = 0 then mkO f (prs l).1.2.2.2 (prs l).1.2.2.1 vs else ([], (prs l).2.2)) := Lib.hid (by unfold answ; rfl)
  obtain ⟨r, HR⟩ : ∃ r, Hid (r = prs l) := ⟨_, Lib.hid rfl⟩
  rw [← HR.out] at HP HI HA
  clear h hv hc
  go_enter Try.func10, Try.ntmps10
  go_wp2_with fail
  refine HP.out.mono ?_
  intro e w1 q1
  obtain ⟨g, A1, n1, c1, rfl, hp, hn1, k1⟩ := (KW.start w).hdr q1
  have K1 := Lib.hid k1
  have HG := Lib.hid hp
  clear q1 k1 hp hn1 HP
  by_cases h0 : r.2.2 = 0
  · have hb : (r.2.2 != 0) = false := by rw [h0]; rfl
    have HE : Hid (answ l f vs = mkO f g.b g.a vs) := Lib.hid (by rw [HA.out, if_pos h0, ← HG.out]; rfl)
    have hgl : g.a.length ≤ 255 ∧ g.b.length ≤ 255 := by have := HI.out; rw [← HG.out] at this; exact this
    clear HA HG h0 HI
    go_wp2_with (first
      | (with_reducible show wpList _ _ _ (⟨some 8, .alloc _, _, _, _, none⟩ :: _) _ _; refine wpList_allocN ht_head rfl rfl ?_; intro w2 x hc2 hb2 hx2; have H2 := Lib.hid (And.intro hc2 (And.intro hb2 hx2)); clear hc2 hb2 hx2)
      | (refine wpList_stH ht_head rfl (.tmp 8) (.tmp 14) rfl x rfl g zeroH rfl (by exact H2.out.1) ?_; intro w3 hc3 ho3 hs3; have K3 := Lib.hid (K1.out.var H2.out.2.1 H2.out.2.2 hc3 ho3); have c2 := (K3.out.box (37, x, g) (by simp)).c2; have c3 := (K3.out.box (37, x, g) (by simp)).c3; clear hc3 ho3 hs3 H2))
    have HO := Lib.hid (K3.out.hd g (by simp))
    refine (omake_any f g.B g.A Av g.d g.c nv cv g.b g.a vs _ (by exact HO.out.b) HO.out.cb (by exact HO.out.a) HO.out.ca (by omega) (by omega) (by exact HV.out.step K3.out.bel) hnv).mono ?_
    rintro e w4 ⟨A4, c4, rfl, ho, hb4⟩
    have K4 := Lib.hid (And.intro (ho.base_le K3.out.bel.size) (bel_next K3.out.bel hb4))
    clear ho hb4 c2 c3
    go_wp2_with fail
    go_ret2
    rw [HE.out]
    exact ⟨A4, c4, rfl, K4.out.1, K4.out.2⟩
  · have hb : (r.2.2 != 0) = true := by rw [bne_iff_ne]; exact h0
    have HE : Hid (answ l f vs = ([], r.2.2)) := Lib.hid (by rw [HA.out, if_neg h0])
    clear HA HG h0 HI
    go_wp2_with (first
      | (with_reducible show wpList _ _ _ (⟨some 8, .alloc _, _, _, _, none⟩ :: _) _ _; refine wpList_allocN ht_head rfl rfl ?_; intro w2 x hc2 hb2 hx2; have H2 := Lib.hid (And.intro hc2 (And.intro hb2 hx2)); clear hc2 hb2 hx2)
      | (refine wpList_stH ht_head rfl (.tmp 8) (.tmp 14) rfl x rfl g zeroH rfl (by exact H2.out.1) ?_; intro w3 hc3 ho3 hs3; have K3 := Lib.hid (K1.out.var H2.out.2.1 H2.out.2.2 hc3 ho3); clear hc3 ho3 hs3 H2))
    go_ret2
    rw [HE.out]
    exact ⟨none, 0, rfl, OwnB.nil_ _ _, K3.out.bel⟩
set_option maxRecDepth 100000 in
set_option maxHeartbeats 8000000 in
theorem oparse_any (A : Option Addr) (n c : Nat) (l : List UInt8) (w : World) (h : RB w w.heap.size A n l) (hc : n ≤ c ∧ c ≤ maxLen) (hn : n ≤ 1000000) :
    Calls Try.prog 15 #[.slice A n c] w (RetHV (oprs l) w) := by
  have H := Lib.hid h
  have HL : Hid (l.length ≤ 1000000) := Lib.hid (by have := h.len; omega)
  have HRL := Lib.hid (prs_rest l)
  have O1 := Lib.hid (@oprs_e l)
  have O2 := Lib.hid (@oprs_v l)
  have O3 := Lib.hid (@oprs_f l)
  have O4 := Lib.hid (@oprs_ok l)
  have HP := Lib.hid (fun (v : World) (hb : Below w.heap.size w v) => parse_any A n c l v (h.step hb) hn)
  obtain ⟨r, HR⟩ : ∃ r, Hid (r = prs l) := ⟨_, Lib.hid rfl⟩
  rw [← HR.out] at HP O1 O2 O3 O4 HRL
  clear h
  go_enter Try.func15, Try.ntmps15
  go_wp2_with (first
    | (with_reducible show wpList _ _ _ (⟨some 2, .alloc _, _, _, _, none⟩ :: _) _ _; refine wpList_allocN ht_head rfl rfl ?_; intro w1 q hc1 hb1 hx1; have K1 := Lib.hid (And.intro hb1 (And.intro hx1 hc1)); clear hc1 hb1 hx1))
  refine (HP.out _ K1.out.1).mono ?_
  rintro e w2 ⟨g9, A3, n3, c3, rfl, hp, ho, hr, hb⟩
  have K2 := Lib.hid (And.intro hb (And.intro ho hr))
  have HG := Lib.hid hp
  have HN3 := Lib.hid hr.len
  clear hb ho hr hp HP
  by_cases h0 : r.2.2 = 0
  · have hb0 : (r.2.2 != 0) = false := by rw [h0]; rfl
    have hv : g9.v = r.1.2.1 := by rw [← HG.out]; rfl
    by_cases h1 : r.1.2.1 = 0
    · have hb1 : ((g9.v : Int) != 0) = false := by rw [hv, h1]; rfl
      by_cases h2 : r.2.1.length = 0
      · have HE := Lib.hid (O3.out h0 h1 (.inl h2))
        have d : ((n3 : Int) == 0) = true := by rw [beq_iff_eq]; have := HN3.out; omega
        clear h0 h1 h2 O1 O2 O3 O4 hv
        go_wp2_with (first
          | (with_reducible show wpList _ _ _ (⟨some 5, .alloc _, _, _, _, none⟩ :: _) _ _; refine wpList_allocN ht_head rfl rfl ?_; intro w3 g hc2 hb2 hx2; have H2 := Lib.hid (And.intro hc2 (And.intro hb2 hx2)); clear hc2 hb2 hx2)
          | (refine wpList_stH ht_head rfl (.tmp 5) (.tmp 11) rfl g rfl g9 zeroH rfl (by exact H2.out.1) ?_; intro w4 hc3 ho3 hs3; have K4 := Lib.hid (VK.start K1.out.1 K1.out.2.1 K1.out.2.2 K2.out.1 K2.out.2.1 K2.out.2.2 H2.out.2.1 H2.out.2.2 hc3 ho3); have c1 := K4.out.hd.c1; clear hc3 ho3 hs3 H2)
          | (refine wpList_stH ht_head rfl (.tmp 2) (.tmp 31) rfl q rfl zeroH zeroH rfl (by exact K4.out.hq) ?_; intro w5 hc2 ho2 hs2; have H5 := Lib.hid (And.intro hc2 ho2); clear hc2 ho2 hs2))
        rw [HE.out]
        exact bodyPost_ret (v := .tuple #[zeroH.val, .slice none 0 0, .int .i64 10]) (res_hd3 ht_head rfl _ _ q zeroH _ _ rfl rfl rfl H5.out.1) rfl ⟨zeroH, none, 0, 0, rfl, rfl, Hd.own.zero _ _, OwnV.nil_ _ _, K4.out.bel' H5.out.2⟩
      · have d : ((n3 : Int) == 0) = false := by rw [beq_eq_false_iff_ne]; have := HN3.out; omega
        by_cases h3 : r.2.1.length % 4 = 0
        · have HE := Lib.hid (O4.out h0 h1 (by omega))
          obtain ⟨M, HM⟩ : ∃ M, M = r.2.1.length / 4 := ⟨_, rfl⟩
          have hM : n3 = 4 * M := by have := HN3.out; omega
          have hM2 : M ≤ 250000 := by have := HL.out; have := HRL.out; omega
          have hM0 : 0 < M := by have := HN3.out; omega
          have d2 : ((n3 : Int) % 4 != 0) = false := by rw [bne_eq_false_iff_eq]; omega
          have n3m : n3 ≤ 1000000 := by omega
          have HM4 := Lib.hid hM
          have HS : Hid ((List.range M).map (vnum r.2.1) = splV r.2.1) := Lib.hid (by rw [HM]; exact splV_eq _)
          have HLE := Lib.hid (fun i => vnum_le r.2.1 i)
          clear h0 h1 h2 h3 O1 O2 O3 O4 hv HM hM
          go_wp2_with (first
            | (with_reducible show wpList _ _ _ (⟨some 5, .alloc _, _, _, _, none⟩ :: _) _ _; refine wpList_allocN ht_head rfl rfl ?_; intro w3 g hc2 hb2 hx2; have H2 := Lib.hid (And.intro hc2 (And.intro hb2 hx2)); clear hc2 hb2 hx2)
            | (refine wpList_stH ht_head rfl (.tmp 5) (.tmp 11) rfl g rfl g9 zeroH rfl (by exact H2.out.1) ?_; intro w4 hc3 ho3 hs3; have K4 := Lib.hid (VK.start K1.out.1 K1.out.2.1 K1.out.2.2 K2.out.1 K2.out.2.1 K2.out.2.2 H2.out.2.1 H2.out.2.2 hc3 ho3); have c1 := K4.out.hd.c1; clear hc3 ho3 hs3 H2))
          have K5 := Lib.hid (K4.out.step (Below.refl _ _).drew)
          clear K4 c1 d2 d hb0 hb1 HLE
          refine wp_region_held_drew (S := fun w' => Hc 37 w' g g9) (by kernel_rfl) K5.out.hd (fun hHeld => ?_)
          (try dsimp only at hHeld)
          refine wpAnyH_take (i := 0) (v := ?v0_1) rfl (by kernel_rfl) (by kernel_rfl) (by kernel_rfl) (fun _ _ _ h => h) (Or.inl ⟨by rfl, ?hy0_1⟩) hHeld ?_
          case hy0_1 => (intro w hSw; (try dsimp only at hSw); have hq := ldHd_m ht_head hSw; (try simp only [List.getElem_toArray, List.getElem_cons_zero, List.getElem_cons_succ]); go_simp <;> with_reducible rfl)
          (try simp only [Act.put, List.getElem_toArray, List.getElem_cons_zero, List.getElem_cons_succ, List.setIfInBounds_toArray, List.set_cons_zero, List.set_cons_succ])
          refine wpAnyH_take (i := 1) (v := ?v1_2) rfl (by kernel_rfl) (by kernel_rfl) (by kernel_rfl) (fun _ _ _ h => h) (Or.inl ⟨by rfl, ?hy1_2⟩) hHeld ?_
          case hy1_2 => (intro w hSw; (try dsimp only at hSw); have hq := ldHd_m ht_head hSw; (try simp only [List.getElem_toArray, List.getElem_cons_zero, List.getElem_cons_succ]); go_simp <;> with_reducible rfl)
          (try simp only [Act.put, List.getElem_toArray, List.getElem_cons_zero, List.getElem_cons_succ, List.setIfInBounds_toArray, List.set_cons_zero, List.set_cons_succ])
          refine wpAnyH_ready (rs := [2]) (by kernel_rfl) (by simp) ?_
          refine AllReadyH.cons rfl (fun K hK => ?_) AllReadyH.nil
          (try simp only [List.getElem_toArray, List.getElem_cons_zero, List.getElem_cons_succ])
          go_simp
          refine (osplit_any A3 n3 c3 r.2.1 M _ (by exact K5.out.row.rb) HM4.out hM0 hM2 K5.out.row.cap).mono ?_
          rw [HS.out]
          rintro e w8 ⟨A8, c8, rfl, ho8, hb8⟩
          have K8 := Lib.hid (K5.out.step hb8)
          have O8 := Lib.hid (ho8.base_le K5.out.bel.size)
          have q4 := stHd_m ht_head K8.out.hq g9
          clear ho8 hb8
          (try go_wp2_with fail)
          refine hK.out _ _ K8.out.hd (fun hHeld => ?_)
          clear hK K
          (try simp only [Act.put, List.getElem_toArray, List.getElem_cons_zero, List.getElem_cons_succ, List.setIfInBounds_toArray, List.set_cons_zero, List.set_cons_succ])
          refine wpAnyH_ready (rs := [3]) (by kernel_rfl) (by simp) ?_
          refine AllReadyH.cons rfl (fun K hK => ?_) AllReadyH.nil
          (try simp only [List.getElem_toArray, List.getElem_cons_zero, List.getElem_cons_succ])
          go_simp
          refine hK.out _ _ (K8.out.hd.oth (oth_setCells q _ _ _ _ (Oth.refl _ _)) (by simpa using K8.out.gq)) (fun hHeld => ?_)
          clear hK K
          (try simp only [Act.put, List.getElem_toArray, List.getElem_cons_zero, List.getElem_cons_succ, List.setIfInBounds_toArray, List.set_cons_zero, List.set_cons_succ])
          refine wpAnyH_take (i := 4) (v := ?v4_3) rfl (by kernel_rfl) (by kernel_rfl) (by kernel_rfl) (fun _ _ _ h => h) (Or.inl ⟨by rfl, ?hy4_3⟩) hHeld ?_
          case hy4_3 => (intro w hSw; (try dsimp only at hSw); have hq := ldHd_m ht_head hSw; (try simp only [List.getElem_toArray, List.getElem_cons_zero, List.getElem_cons_succ]); go_simp <;> with_reducible rfl)
          (try simp only [Act.put, List.getElem_toArray, List.getElem_cons_zero, List.getElem_cons_succ, List.setIfInBounds_toArray, List.set_cons_zero, List.set_cons_succ])
          refine wpAnyH_take (i := 5) (v := ?v5_4) rfl (by kernel_rfl) (by kernel_rfl) (by kernel_rfl) (fun _ _ _ h => h) (Or.inl ⟨by rfl, ?hy5_4⟩) hHeld ?_
          case hy5_4 => (intro w hSw; (try dsimp only at hSw); have hq := ldHd_m ht_head hSw; (try simp only [List.getElem_toArray, List.getElem_cons_zero, List.getElem_cons_succ]); go_simp <;> with_reducible rfl)
          (try simp only [Act.put, List.getElem_toArray, List.getElem_cons_zero, List.getElem_cons_succ, List.setIfInBounds_toArray, List.set_cons_zero, List.set_cons_succ])
          refine wpAnyH_done (by kernel_rfl) ?_ _
          go_wp2_with fail
          have hX : Oth [q] w8 (w8.setCells q 0 g9.cells) := oth_setCells q _ _ _ _ (Oth.refl _ _)
          have hd := K8.out.done (by decide) (by decide) O8.out hX
          rw [HE.out]
          exact bodyPost_ret (v := .tuple #[g9.val, .slice A8 M c8, .int .i64 0]) (res_hd3 ht_head rfl _ _ q g9 _ _ rfl rfl rfl (K8.out.hq.whole g9)) rfl ⟨g9, A8, M, c8, rfl, HG.out, hd.1, hd.2.1, hd.2.2⟩
        · have HE := Lib.hid (O3.out h0 h1 (.inr h3))
          have d2 : ((n3 : Int) % 4 != 0) = true := by rw [bne_iff_ne]; have := HN3.out; omega
          clear h0 h1 h2 h3 O1 O2 O3 O4 hv
          go_wp2_with (first
            | (with_reducible show wpList _ _ _ (⟨some 5, .alloc _, _, _, _, none⟩ :: _) _ _; refine wpList_allocN ht_head rfl rfl ?_; intro w3 g hc2 hb2 hx2; have H2 := Lib.hid (And.intro hc2 (And.intro hb2 hx2)); clear hc2 hb2 hx2)
            | (refine wpList_stH ht_head rfl (.tmp 5) (.tmp 11) rfl g rfl g9 zeroH rfl (by exact H2.out.1) ?_; intro w4 hc3 ho3 hs3; have K4 := Lib.hid (VK.start K1.out.1 K1.out.2.1 K1.out.2.2 K2.out.1 K2.out.2.1 K2.out.2.2 H2.out.2.1 H2.out.2.2 hc3 ho3); have c1 := K4.out.hd.c1; clear hc3 ho3 hs3 H2)
            | (refine wpList_stH ht_head rfl (.tmp 2) (.tmp 31) rfl q rfl zeroH zeroH rfl (by exact K4.out.hq) ?_; intro w5 hc2 ho2 hs2; have H5 := Lib.hid (And.intro hc2 ho2); clear hc2 ho2 hs2))
          rw [HE.out]
          exact bodyPost_ret (v := .tuple #[zeroH.val, .slice none 0 0, .int .i64 10]) (res_hd3 ht_head rfl _ _ q zeroH _ _ rfl rfl rfl H5.out.1) rfl ⟨zeroH, none, 0, 0, rfl, rfl, Hd.own.zero _ _, OwnV.nil_ _ _, K4.out.bel' H5.out.2⟩
    · have HE := Lib.hid (O2.out h0 h1)
      have hb1 : ((g9.v : Int) != 0) = true := by rw [bne_iff_ne]; omega
      clear h0 h1 O1 O2 O3 O4 hv
      go_wp2_with (first
        | (with_reducible show wpList _ _ _ (⟨some 5, .alloc _, _, _, _, none⟩ :: _) _ _; refine wpList_allocN ht_head rfl rfl ?_; intro w3 g hc2 hb2 hx2; have H2 := Lib.hid (And.intro hc2 (And.intro hb2 hx2)); clear hc2 hb2 hx2)
        | (refine wpList_stH ht_head rfl (.tmp 5) (.tmp 11) rfl g rfl g9 zeroH rfl (by exact H2.out.1) ?_; intro w4 hc3 ho3 hs3; have K4 := Lib.hid (VK.start K1.out.1 K1.out.2.1 K1.out.2.2 K2.out.1 K2.out.2.1 K2.out.2.2 H2.out.2.1 H2.out.2.2 hc3 ho3); have c1 := K4.out.hd.c1; clear hc3 ho3 hs3 H2)
        | (refine wpList_stH ht_head rfl (.tmp 2) (.tmp 21) rfl q rfl zeroH zeroH rfl (by exact K4.out.hq) ?_; intro w5 hc2 ho2 hs2; have H5 := Lib.hid (And.intro hc2 ho2); clear hc2 ho2 hs2))
      rw [HE.out]
      exact bodyPost_ret (v := .tuple #[zeroH.val, .slice none 0 0, .int .i64 14]) (res_hd3 ht_head rfl _ _ q zeroH _ _ rfl rfl rfl H5.out.1) rfl ⟨zeroH, none, 0, 0, rfl, rfl, Hd.own.zero _ _, OwnV.nil_ _ _, K4.out.bel' H5.out.2⟩
  · have HE := Lib.hid (O1.out h0)
    have hb0 : (r.2.2 != 0) = true := by rw [bne_iff_ne]; exact h0
    clear h0 O1 O2 O3 O4
    go_wp2_with (first
      | (with_reducible show wpList _ _ _ (⟨some 5, .alloc _, _, _, _, none⟩ :: _) _ _; refine wpList_allocN ht_head rfl rfl ?_; intro w3 g hc2 hb2 hx2; have H2 := Lib.hid (And.intro hc2 (And.intro hb2 hx2)); clear hc2 hb2 hx2)
      | (refine wpList_stH ht_head rfl (.tmp 5) (.tmp 11) rfl g rfl g9 zeroH rfl (by exact H2.out.1) ?_; intro w4 hc3 ho3 hs3; have K4 := Lib.hid (VK.start K1.out.1 K1.out.2.1 K1.out.2.2 K2.out.1 K2.out.2.1 K2.out.2.2 H2.out.2.1 H2.out.2.2 hc3 ho3); clear hc3 ho3 hs3 H2)
      | (refine wpList_stH ht_head rfl (.tmp 2) (.tmp 16) rfl q rfl zeroH zeroH rfl (by exact K4.out.hq) ?_; intro w5 hc2 ho2 hs2; have H5 := Lib.hid (And.intro hc2 ho2); clear hc2 ho2 hs2))
    rw [HE.out]
    exact bodyPost_ret (v := .tuple #[zeroH.val, .slice none 0 0, .int .i64 r.2.2]) (res_hd3 ht_head rfl _ _ q zeroH _ _ rfl rfl rfl H5.out.1) rfl ⟨zeroH, none, 0, 0, rfl, rfl, Hd.own.zero _ _, OwnV.nil_ _ _, K4.out.bel' H5.out.2⟩
set_option maxRecDepth 100000 in
set_option maxHeartbeats 4000000 in
theorem ohas_any (A : Option Addr) (n c : Nat) (l : List UInt8) (v : Nat) (w : World) (h : RB w w.heap.size A n l) (hc : n ≤ c ∧ c ≤ maxLen) (hn : n ≤ 1000000) (hv : v ≤ 4294967295) :
    Calls Try.prog 19 #[.slice A n c, .int .u32 (v : Int)] w fun e w' => e = .returned (.bool (hasV l v)) ∧ Below w.heap.size w w' := by
  have HP := Lib.hid (oparse_any A n c l w h hc hn)
  have HA : Hid (hasV l v = (oprs l).2.1.contains v) := Lib.hid (by unfold hasV; rfl)
  have HN : Hid ((oprs l).2.1.length ≤ 1000000) := Lib.hid (Nat.le_trans (oprs_len l) (by have := h.len; omega))
  obtain ⟨r, HR⟩ : ∃ r, Hid (r = oprs l) := ⟨_, Lib.hid rfl⟩
  rw [← HR.out] at HP HA HN
  rw [HA.out]
  obtain ⟨u, HU⟩ : ∃ u, Hid (r.2.1.contains v = u) := ⟨_, Lib.hid rfl⟩
  rw [HU.out]
  clear h hc
  go_enter Try.func19, Try.ntmps19
  go_wp2_with fail
  refine HP.out.mono ?_
  rintro e w1 ⟨g, A1, n1, c1, rfl, hp, ho, hvr, hb⟩
  have K1 := Lib.hid (And.intro hb hvr.vl)
  have HN1 : Hid (n1 ≤ 1000000) := Lib.hid (by rw [← hvr.len]; exact HN.out)
  clear hb ho hvr hp HP HA
  go_wp2_with (first
    | (with_reducible show wpList _ _ _ (⟨some 5, .alloc _, _, _, _, none⟩ :: _) _ _; refine wpList_allocN ht_head rfl rfl ?_; intro w2 x hc2 hb2 hx2; have H2 := Lib.hid (And.intro hc2 (And.intro hb2 hx2)); clear hc2 hb2 hx2)
    | (refine wpList_stH ht_head rfl (.tmp 5) (.tmp 11) rfl x rfl g zeroH rfl (by exact H2.out.1) ?_; intro w3 hc3 ho3 hs3; have K3 := Lib.hid (And.intro (bel_next K1.out.1 (H2.out.2.1.trans (ho3.below (fun j hj => by rw [List.mem_singleton.1 hj]; exact H2.out.2.2) H2.out.2.1.size))) (K1.out.2.step (H2.out.2.1.trans (ho3.below (fun j hj => by rw [List.mem_singleton.1 hj]; exact H2.out.2.2) H2.out.2.1.size)))); clear hc3 ho3 hs3 H2))
  refine (contains_any A1 n1 c1 r.2.1 v _ (by exact K3.out.2) HN1.out u HU.out).mono ?_
  rintro e w4 ⟨rfl, rfl⟩
  go_wp2_with fail
  go_ret
  exact ⟨rfl, K3.out.1⟩
end Go.Proofs.Ytppopdjfecabfaa
