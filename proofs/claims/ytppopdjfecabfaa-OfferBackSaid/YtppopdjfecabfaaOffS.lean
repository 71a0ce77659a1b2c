/- Layer 13's references Answer, Parse and Has. Conditions: the slices' cells are readable, at most a million bytes. -/
import Derived.Test.YtppopdjfecabfaaOffR
namespace Go.Proofs.Ytppopdjfecabfaa
open Go.RowKit
set_option linter.unusedVariables false
set_option linter.unusedSimpArgs false
theorem vnum_part {R : List UInt8} {j m : Nat} {x : UInt8} (h : R[4 * j + m]? = some x) : numL ((R.drop (4 * j)).take (m + 1)) = numL ((R.drop (4 * j)).take m) * 256 + x.toNat := by
  rw [take_snoc (by rw [List.getElem?_drop]; exact h), numL_snoc]
theorem vnum_four (R : List UInt8) (j : Nat) : numL ((R.drop (4 * j)).take 4) = vnum R j := by unfold vnum; rfl
theorem range_snoc (g : Nat → Nat) (j : Nat) : (List.range (j + 1)).map g = (List.range j).map g ++ [g j] := by rw [List.range_succ, List.map_append]; rfl
theorem splV_eq (R : List UInt8) : (List.range (R.length / 4)).map (vnum R) = splV R := by unfold splV; rfl
theorem vnum_zero (l : List UInt8) : numL (l.take 0) = 0 := by rw [List.take_zero]; exact numL_zero
theorem oprs_len (l : List UInt8) : (oprs l).2.1.length ≤ l.length := by
  have h1 := prs_rest l
  unfold oprs
  (repeat' split) <;> simp only [List.length_nil, splV_len] <;> omega
attribute [local irreducible] putL byt mkO offL rawP verL prs splV vnum numL oprs answ hasV
attribute [local go_sem ↓] ex_ldHr ex_stHr
set_option maxRecDepth 100000 in
set_option maxHeartbeats 4000000 in
theorem roanswer_any (A : Option Addr) (n c : Nat) (l : List UInt8) (f : UInt8) (Av : Option Addr) (nv cv : Nat) (vs : List Nat) (w : World) (h : RB w w.heap.size A n l) (hc : n ≤ c ∧ c ≤ maxLen) (hn : n ≤ 1000000) (hv : VL w w.heap.size Av nv vs) (hnv : nv ≤ maxLen) :
    Calls Try.prog 11 #[.slice A n c, .int .u8 (f.toNat : Int), .slice Av nv cv] w (RetBE (answ l f vs).1.length (answ l f vs).1 (answ l f vs).2 w) := by
  have HV := Lib.hid hv
  have HP := Lib.hid (rparse_any A n c l w h hc hn)
  have HI := Lib.hid (prs_ids l)
  have HA : Hid (answ l f vs = if (prs l).2.2 = 0 then mkO f (prs l).1.2.2.2 (prs l).1.2.2.1 vs else ([], (prs l).2.2)) := Lib.hid (by unfold answ; rfl)
  obtain ⟨r, HR⟩ : ∃ r, Hid (r = prs l) := ⟨_, Lib.hid rfl⟩
  rw [← HR.out] at HP HI HA
  clear h hv hc
  go_enter Try.func11, Try.ntmps11
  go_wp2_with fail
  refine HP.out.mono ?_
  intro e w1 q1
  obtain ⟨g, A1, n1, c1, rfl, hp, hn1, k1⟩ := (KW.start w).hdr q1
  have K1 := Lib.hid k1
  have HG := Lib.hid hp
  clear q1 k1 hp hn1 HP
  by_cases h0 : r.2.2 = 0
  · have hb : (r.2.2 != 0) = false := by rw [h0]; rfl
    have HE : Hid (answ l f vs = mkO f g.b g.a vs) := Lib.hid (by rw [HA.out, if_pos h0, ← HG.out]; rfl)
    have hgl : g.a.length ≤ 255 ∧ g.b.length ≤ 255 := by have := HI.out; rw [← HG.out] at this; exact this
    clear HA HG h0 HI
    go_wp2_with (first
      | (with_reducible show wpList _ _ _ (⟨some 8, .alloc _, _, _, _, none⟩ :: _) _ _; refine wpList_allocN ht_ref rfl rfl ?_; intro w2 x hc2 hb2 hx2; have H2 := Lib.hid (And.intro hc2 (And.intro hb2 hx2)); clear hc2 hb2 hx2)
      | (refine wpList_stH ht_ref rfl (.tmp 8) (.tmp 14) rfl x rfl g zeroH rfl (by exact H2.out.1) ?_; intro w3 hc3 ho3 hs3; have K3 := Lib.hid (K1.out.var H2.out.2.1 H2.out.2.2 hc3 ho3); have c2 := (K3.out.box (40, x, g) (by simp)).c2; have c3 := (K3.out.box (40, x, g) (by simp)).c3; clear hc3 ho3 hs3 H2))
    have HO := Lib.hid (K3.out.hd g (by simp))
    refine (romake_any f g.B g.A Av g.d g.c nv cv g.b g.a vs _ (by exact HO.out.b) HO.out.cb (by exact HO.out.a) HO.out.ca (by omega) (by omega) (by exact HV.out.step K3.out.bel) hnv).mono ?_
    rintro e w4 ⟨A4, c4, rfl, ho, hb4⟩
    have K4 := Lib.hid (And.intro (ho.base_le K3.out.bel.size) (bel_next K3.out.bel hb4))
    clear ho hb4 c2 c3
    go_wp2_with fail
    go_ret2
    rw [HE.out]
    exact ⟨A4, c4, rfl, K4.out.1, K4.out.2⟩
  · have hb : (r.2.2 != 0) = true := by rw [bne_iff_ne]; exact h0
    have HE : Hid (answ l f vs = ([], r.2.2)) := Lib.hid (by rw [HA.out, if_neg h0])
    clear HA HG h0 HI
    go_wp2_with (first
      | (with_reducible show wpList _ _ _ (⟨some 8, .alloc _, _, _, _, none⟩ :: _) _ _; refine wpList_allocN ht_ref rfl rfl ?_; intro w2 x hc2 hb2 hx2; have H2 := Lib.hid (And.intro hc2 (And.intro hb2 hx2)); clear hc2 hb2 hx2)
      | (refine wpList_stH ht_ref rfl (.tmp 8) (.tmp 14) rfl x rfl g zeroH rfl (by exact H2.out.1) ?_; intro w3 hc3 ho3 hs3; have K3 := Lib.hid (K1.out.var H2.out.2.1 H2.out.2.2 hc3 ho3); clear hc3 ho3 hs3 H2))
    go_ret2
    rw [HE.out]
    exact ⟨none, 0, rfl, OwnB.nil_ _ _, K3.out.bel⟩
set_option maxRecDepth 100000 in
set_option maxHeartbeats 8000000 in
theorem roparse_any (A : Option Addr) (n c : Nat) (l : List UInt8) (w : World) (h : RB w w.heap.size A n l) (hc : n ≤ c ∧ c ≤ maxLen) (hn : n ≤ 1000000) :
    Calls Try.prog 16 #[.slice A n c] w (RetHV (oprs l) w) := by
  have H := Lib.hid h
  have HL : Hid (l.length ≤ 1000000) := Lib.hid (by have := h.len; omega)
  have HRL := Lib.hid (prs_rest l)
  have O1 := Lib.hid (@oprs_e l)
  have O2 := Lib.hid (@oprs_v l)
  have O3 := Lib.hid (@oprs_f l)
  have O4 := Lib.hid (@oprs_ok l)
  have HP := Lib.hid (fun (v : World) (hb : Below w.heap.size w v) => rparse_any A n c l v (h.step hb) hc hn)
  obtain ⟨r, HR⟩ : ∃ r, Hid (r = prs l) := ⟨_, Lib.hid rfl⟩
  rw [← HR.out] at HP O1 O2 O3 O4 HRL
  clear h
  go_enter Try.func16, Try.ntmps16
  go_wp2_with (first
    | (with_reducible show wpList _ _ _ (⟨some 2, .alloc _, _, _, _, none⟩ :: _) _ _; refine wpList_allocN ht_ref rfl rfl ?_; intro w1 q hc1 hb1 hx1; have K1 := Lib.hid (And.intro hb1 (And.intro hx1 hc1)); clear hc1 hb1 hx1))
  refine (HP.out _ K1.out.1).mono ?_
  rintro e w2 ⟨g9, A3, n3, c3, rfl, hp, ho, hr, hb⟩
  have K2 := Lib.hid (And.intro hb (And.intro ho hr))
  have HG := Lib.hid hp
  have HN3 := Lib.hid hr.len
  clear hb ho hr hp HP
  by_cases h0 : r.2.2 = 0
  · have hb0 : (r.2.2 != 0) = false := by rw [h0]; rfl
    have hv : g9.v = r.1.2.1 := by rw [← HG.out]; rfl
    by_cases h1 : r.1.2.1 = 0
    · have hb1 : ((g9.v : Int) != 0) = false := by rw [hv, h1]; rfl
      by_cases h2 : r.2.1.length = 0
      · have HE := Lib.hid (O3.out h0 h1 (.inl h2))
        have d : ((n3 : Int) == 0) = true := by rw [beq_iff_eq]; have := HN3.out; omega
        clear h0 h1 h2 O1 O2 O3 O4 hv
        go_wp2_with (first
          | (with_reducible show wpList _ _ _ (⟨some 5, .alloc _, _, _, _, none⟩ :: _) _ _; refine wpList_allocN ht_ref rfl rfl ?_; intro w3 g hc2 hb2 hx2; have H2 := Lib.hid (And.intro hc2 (And.intro hb2 hx2)); clear hc2 hb2 hx2)
          | (refine wpList_stH ht_ref rfl (.tmp 5) (.tmp 15) rfl g rfl g9 zeroH rfl (by exact H2.out.1) ?_; intro w4 hc3 ho3 hs3; have K4 := Lib.hid (VK.start K1.out.1 K1.out.2.1 K1.out.2.2 K2.out.1 K2.out.2.1 K2.out.2.2 H2.out.2.1 H2.out.2.2 hc3 ho3); have c1 := K4.out.hd.c1; clear hc3 ho3 hs3 H2)
          | (refine wpList_stH ht_ref rfl (.tmp 2) (.tmp 35) rfl q rfl zeroH zeroH rfl (by exact K4.out.hq) ?_; intro w5 hc2 ho2 hs2; have H5 := Lib.hid (And.intro hc2 ho2); clear hc2 ho2 hs2))
        rw [HE.out]
        exact bodyPost_ret (v := .tuple #[zeroH.val, .slice none 0 0, .int .i64 10]) (res_hd3 ht_ref rfl _ _ q zeroH _ _ rfl rfl rfl H5.out.1) rfl ⟨zeroH, none, 0, 0, rfl, rfl, Hd.own.zero _ _, OwnV.nil_ _ _, K4.out.bel' H5.out.2⟩
      · have d : ((n3 : Int) == 0) = false := by rw [beq_eq_false_iff_ne]; have := HN3.out; omega
        by_cases h3 : r.2.1.length % 4 = 0
        · have HE := Lib.hid (O4.out h0 h1 (by omega))
          obtain ⟨M, HM⟩ : ∃ M, M = r.2.1.length / 4 := ⟨_, rfl⟩
          have hM : n3 = 4 * M := by have := HN3.out; omega
          have hM2 : M ≤ 250000 := by have := HL.out; have := HRL.out; omega
          have hM0 : 0 < M := by have := HN3.out; omega
          have d2 : decide (0 < (n3 : Int) % 4) = false := decide_eq_false (by omega)
          have n3m : n3 ≤ 1000000 := by omega
          have HM4 := Lib.hid hM
          have HS : Hid ((List.range M).map (vnum r.2.1) = splV r.2.1) := Lib.hid (by rw [HM]; exact splV_eq _)
          have HLE := Lib.hid (fun i => vnum_le r.2.1 i)
          clear h0 h1 h2 h3 O1 O2 O3 O4 hv HM hM
          go_wp2_with (first
            | (with_reducible show wpList _ _ _ (⟨some 5, .alloc _, _, _, _, none⟩ :: _) _ _; refine wpList_allocN ht_ref rfl rfl ?_; intro w3 g hc2 hb2 hx2; have H2 := Lib.hid (And.intro hc2 (And.intro hb2 hx2)); clear hc2 hb2 hx2)
            | (refine wpList_stH ht_ref rfl (.tmp 5) (.tmp 15) rfl g rfl g9 zeroH rfl (by exact H2.out.1) ?_; intro w4 hc3 ho3 hs3; have K4 := Lib.hid (VK.start K1.out.1 K1.out.2.1 K1.out.2.2 K2.out.1 K2.out.2.1 K2.out.2.2 H2.out.2.1 H2.out.2.2 hc3 ho3); have c1 := K4.out.hd.c1; clear hc3 ho3 hs3 H2))
          have HO0 : Hid (OwnV (w4.alloc (.cells #[] 34)) w.heap.size (some ⟨w4.heap.size, 0, none⟩) 0 0 []) := Lib.hid (OwnV.lit w4 _ [] #[] 0 rfl rfl (by unfold maxLen; omega) K4.out.bel.size (by simp))
          have K5 := Lib.hid (K4.out.step (below_alloc w4 (.cells #[] 34)))
          clear K4 c1 HN3 d2 d hb0 hb1
          go_loopw [8, 9, 10, 11] (fun o i _ _ wr => ∃ (j I : Nat) (A5 : Option Addr) (c5 : Nat), j ≤ M ∧ Hid (I = 4 * j) ∧ i = .int .i64 (I : Int) ∧ o = .slice A5 j c5 ∧ Hid (OwnV wr w.heap.size A5 j c5 ((List.range j).map (vnum r.2.1)) ∧ VK w 40 g q g9 A3 n3 c3 r.2.1 wr)) (fun _ i _ _ _ => n3 - (intOf i).toNat)
          case atStart => exact ⟨0, 0, _, _, Nat.zero_le _, Lib.hid rfl, rfl, rfl, Lib.hid ⟨HO0.out, K5.out⟩⟩
          case round =>
            obtain ⟨j, I, A5, c5, hj, hI, rfl, rfl, HK⟩ := hrel
            clear HO0 K5
            by_cases hlt : I < n3
            · go_wp2_with fail
              go_loopw [10, 11] (fun v k wr' => ∃ (m V : Nat), m ≤ 4 ∧ k = .int .i64 m ∧ v = .int .u32 (V : Int) ∧ wr' = wr ∧ Hid (V = numL ((r.2.1.drop (4 * j)).take m))) (fun _ k _ => 4 - (intOf k).toNat)
              case atStart => exact ⟨0, 0, by omega, rfl, rfl, rfl, Lib.hid (vnum_zero _).symm⟩
              case round =>
                obtain ⟨m, V, hm, rfl, rfl, rfl, HV⟩ := hrel
                by_cases hm4 : m < 4
                · obtain ⟨b, o, rfl, hb, x, hx, hcl⟩ := HK.out.2.row.rb.at_ (k := 4 * j + m) (by have := HM4.out; have := hI.out; omega)
                  have h24 := numL_lt4 (r.2.1.drop (4 * j)) m hm4
                  have HX := Lib.hid (vnum_part hx)
                  rw [← HV.out] at h24
                  rw [← HV.out] at HX
                  have hx8 := x.toNat_lt
                  obtain ⟨p, hp⟩ : ∃ p, p = 4 * j + m := ⟨_, rfl⟩
                  rw [← hp] at hcl
                  have hidx : (I : Int) + (m : Int) = (p : Int) := by have := hI.out; omega
                  have hp3 : p < n3 := by have := HM4.out; have := hI.out; omega
                  have hw1 : IntKind.u32.wrap ((V : Int) * 256) = ((V * 256 : Nat) : Int) := by rw [IntKind.wrap_u32]; omega
                  obtain ⟨v2, hv2⟩ : ∃ v2, v2 = V * 256 := ⟨_, rfl⟩
                  rw [← hv2] at hw1
                  obtain ⟨v3, hv3⟩ : ∃ v3, v3 = V * 256 + x.toNat := ⟨_, rfl⟩
                  have hw3 : IntKind.u32.wrap (x.toNat : Int) = (x.toNat : Int) := by rw [IntKind.wrap_u32]; omega
                  have hw2 : IntKind.u32.wrap ((v2 : Int) + (x.toNat : Int)) = (v3 : Int) := by rw [IntKind.wrap_u32]; omega
                  rw [← hv3] at HX
                  clear hx h24 hv2 hv3 HV hp
                  go_wp2_with fail
                  go_roundw
                  case rel => exact ⟨m + 1, v3, by omega, by go_num, rfl, trivial, Lib.hid HX.out.symm⟩
                  case measure => simp [intOf]; omega
                · obtain rfl : m = 4 := by omega
                  have hV : V = vnum r.2.1 j := HV.out.trans (vnum_four _ _)
                  have hV32 : V ≤ 4294967295 := by rw [hV]; exact HLE.out j
                  have HVV := Lib.hid hV
                  clear hV HV
                  go_wp2_with (first
                    | (at_builtin; refine wpList_appV rfl (.tmp 57) (.tmp 59) rfl w.heap.size _ _ _ ((List.range j).map (vnum r.2.1)) rfl (by exact HK.out.1.below (below_alloc _ _)) _ (some ⟨wr.heap.size, 0, none⟩) 1 1 [V] rfl (by exact VL.lit wr [V] _ 1 _ _ rfl rfl rfl (by intro y hy; rw [List.mem_singleton.1 hy]; exact hV32)) (by omega) (by exact (HK.out.2.step (below_alloc _ _)).bel.size) ?_; intro A6 c6 w6 hown6 hg6 hb6))
                  go_roundw
                  case rel =>
                    refine ⟨j + 1, I + 4, A6, c6, by have := HM4.out; have := hI.out; omega, Lib.hid (by have := hI.out; omega), by go_num, rfl, Lib.hid ⟨?_, ?_⟩⟩
                    · rw [range_snoc, ← HVV.out]; exact hown6
                    · exact (HK.out.2.step (below_alloc _ _)).app (by decide) (HK.out.1.below (below_alloc _ _)) hg6
                  case measure => simp [intOf]; omega
            · obtain rfl : j = M := by have := HM4.out; have := hI.out; omega
              have hvs := HK.out.1
              rw [HS.out] at hvs
              have HVS := Lib.hid hvs
              have K6 := Lib.hid HK.out.2
              clear hvs HK
              go_wp2_with (first
                | (refine wpList_ldH ht_ref rfl (.tmp 5) rfl g rfl g9 (by exact K6.out.hd) ?_)
                | (refine wpList_stH ht_ref rfl (.tmp 2) (.tmp 61) rfl q rfl g9 zeroH rfl (by exact K6.out.hq) ?_; intro w7 hc7 ho7 hs7; have H7 := Lib.hid (And.intro hc7 ho7); clear hc7 ho7 hs7))
              have hd := K6.out.done (by decide) (by decide) HVS.out H7.out.2
              rw [HE.out]
              exact bodyPost_ret (v := .tuple #[g9.val, .slice A5 j c5, .int .i64 0]) (res_hd3 ht_ref rfl _ _ q g9 _ _ rfl rfl rfl H7.out.1) rfl ⟨g9, A5, j, c5, rfl, HG.out, hd.1, hd.2.1, hd.2.2⟩
        · have HE := Lib.hid (O3.out h0 h1 (.inr h3))
          have d2 : decide (0 < (n3 : Int) % 4) = true := decide_eq_true (by have := HN3.out; omega)
          clear h0 h1 h2 h3 O1 O2 O3 O4 hv
          go_wp2_with (first
            | (with_reducible show wpList _ _ _ (⟨some 5, .alloc _, _, _, _, none⟩ :: _) _ _; refine wpList_allocN ht_ref rfl rfl ?_; intro w3 g hc2 hb2 hx2; have H2 := Lib.hid (And.intro hc2 (And.intro hb2 hx2)); clear hc2 hb2 hx2)
            | (refine wpList_stH ht_ref rfl (.tmp 5) (.tmp 15) rfl g rfl g9 zeroH rfl (by exact H2.out.1) ?_; intro w4 hc3 ho3 hs3; have K4 := Lib.hid (VK.start K1.out.1 K1.out.2.1 K1.out.2.2 K2.out.1 K2.out.2.1 K2.out.2.2 H2.out.2.1 H2.out.2.2 hc3 ho3); have c1 := K4.out.hd.c1; clear hc3 ho3 hs3 H2)
            | (refine wpList_stH ht_ref rfl (.tmp 2) (.tmp 35) rfl q rfl zeroH zeroH rfl (by exact K4.out.hq) ?_; intro w5 hc2 ho2 hs2; have H5 := Lib.hid (And.intro hc2 ho2); clear hc2 ho2 hs2))
          rw [HE.out]
          exact bodyPost_ret (v := .tuple #[zeroH.val, .slice none 0 0, .int .i64 10]) (res_hd3 ht_ref rfl _ _ q zeroH _ _ rfl rfl rfl H5.out.1) rfl ⟨zeroH, none, 0, 0, rfl, rfl, Hd.own.zero _ _, OwnV.nil_ _ _, K4.out.bel' H5.out.2⟩
    · have HE := Lib.hid (O2.out h0 h1)
      have hb1 : ((g9.v : Int) != 0) = true := by rw [bne_iff_ne]; omega
      clear h0 h1 O1 O2 O3 O4 hv
      go_wp2_with (first
        | (with_reducible show wpList _ _ _ (⟨some 5, .alloc _, _, _, _, none⟩ :: _) _ _; refine wpList_allocN ht_ref rfl rfl ?_; intro w3 g hc2 hb2 hx2; have H2 := Lib.hid (And.intro hc2 (And.intro hb2 hx2)); clear hc2 hb2 hx2)
        | (refine wpList_stH ht_ref rfl (.tmp 5) (.tmp 15) rfl g rfl g9 zeroH rfl (by exact H2.out.1) ?_; intro w4 hc3 ho3 hs3; have K4 := Lib.hid (VK.start K1.out.1 K1.out.2.1 K1.out.2.2 K2.out.1 K2.out.2.1 K2.out.2.2 H2.out.2.1 H2.out.2.2 hc3 ho3); have c1 := K4.out.hd.c1; clear hc3 ho3 hs3 H2)
        | (refine wpList_stH ht_ref rfl (.tmp 2) (.tmp 25) rfl q rfl zeroH zeroH rfl (by exact K4.out.hq) ?_; intro w5 hc2 ho2 hs2; have H5 := Lib.hid (And.intro hc2 ho2); clear hc2 ho2 hs2))
      rw [HE.out]
      exact bodyPost_ret (v := .tuple #[zeroH.val, .slice none 0 0, .int .i64 14]) (res_hd3 ht_ref rfl _ _ q zeroH _ _ rfl rfl rfl H5.out.1) rfl ⟨zeroH, none, 0, 0, rfl, rfl, Hd.own.zero _ _, OwnV.nil_ _ _, K4.out.bel' H5.out.2⟩
  · have HE := Lib.hid (O1.out h0)
    have hb0 : (r.2.2 != 0) = true := by rw [bne_iff_ne]; exact h0
    clear h0 O1 O2 O3 O4
    go_wp2_with (first
      | (with_reducible show wpList _ _ _ (⟨some 5, .alloc _, _, _, _, none⟩ :: _) _ _; refine wpList_allocN ht_ref rfl rfl ?_; intro w3 g hc2 hb2 hx2; have H2 := Lib.hid (And.intro hc2 (And.intro hb2 hx2)); clear hc2 hb2 hx2)
      | (refine wpList_stH ht_ref rfl (.tmp 5) (.tmp 15) rfl g rfl g9 zeroH rfl (by exact H2.out.1) ?_; intro w4 hc3 ho3 hs3; have K4 := Lib.hid (VK.start K1.out.1 K1.out.2.1 K1.out.2.2 K2.out.1 K2.out.2.1 K2.out.2.2 H2.out.2.1 H2.out.2.2 hc3 ho3); clear hc3 ho3 hs3 H2)
      | (refine wpList_stH ht_ref rfl (.tmp 2) (.tmp 20) rfl q rfl zeroH zeroH rfl (by exact K4.out.hq) ?_; intro w5 hc2 ho2 hs2; have H5 := Lib.hid (And.intro hc2 ho2); clear hc2 ho2 hs2))
    rw [HE.out]
    exact bodyPost_ret (v := .tuple #[zeroH.val, .slice none 0 0, .int .i64 r.2.2]) (res_hd3 ht_ref rfl _ _ q zeroH _ _ rfl rfl rfl H5.out.1) rfl ⟨zeroH, none, 0, 0, rfl, rfl, Hd.own.zero _ _, OwnV.nil_ _ _, K4.out.bel' H5.out.2⟩
set_option maxRecDepth 100000 in
set_option maxHeartbeats 4000000 in
theorem rohas_any (A : Option Addr) (n c : Nat) (l : List UInt8) (v : Nat) (w : World) (h : RB w w.heap.size A n l) (hc : n ≤ c ∧ c ≤ maxLen) (hn : n ≤ 1000000) (hv : v ≤ 4294967295) :
    Calls Try.prog 20 #[.slice A n c, .int .u32 (v : Int)] w fun e w' => e = .returned (.bool (hasV l v)) ∧ Below w.heap.size w w' := by
  have HP := Lib.hid (roparse_any A n c l w h hc hn)
  have HA : Hid (hasV l v = (oprs l).2.1.contains v) := Lib.hid (by unfold hasV; rfl)
  have HN : Hid ((oprs l).2.1.length ≤ 1000000) := Lib.hid (Nat.le_trans (oprs_len l) (by have := h.len; omega))
  obtain ⟨r, HR⟩ : ∃ r, Hid (r = oprs l) := ⟨_, Lib.hid rfl⟩
  rw [← HR.out] at HP HA HN
  rw [HA.out]
  clear h hc
  go_enter Try.func20, Try.ntmps20
  go_wp2_with fail
  refine HP.out.mono ?_
  rintro e w1 ⟨g, A1, n1, c1, rfl, hp, ho, hvr, hb⟩
  have K1 := Lib.hid (And.intro hb hvr.vl)
  have HN1 : Hid (n1 ≤ 1000000) := Lib.hid (by rw [← hvr.len]; exact HN.out)
  clear hb ho hvr hp HP HA
  go_wp2_with (first
    | (with_reducible show wpList _ _ _ (⟨some 5, .alloc _, _, _, _, none⟩ :: _) _ _; refine wpList_allocN ht_ref rfl rfl ?_; intro w2 x hc2 hb2 hx2; have H2 := Lib.hid (And.intro hc2 (And.intro hb2 hx2)); clear hc2 hb2 hx2)
    | (refine wpList_stH ht_ref rfl (.tmp 5) (.tmp 12) rfl x rfl g zeroH rfl (by exact H2.out.1) ?_; intro w3 hc3 ho3 hs3; have K3 := Lib.hid (And.intro (bel_next K1.out.1 (H2.out.2.1.trans (ho3.below (fun j hj => by rw [List.mem_singleton.1 hj]; exact H2.out.2.2) H2.out.2.1.size))) (K1.out.2.step (H2.out.2.1.trans (ho3.below (fun j hj => by rw [List.mem_singleton.1 hj]; exact H2.out.2.2) H2.out.2.1.size)))); clear hc3 ho3 hs3 H2))
  obtain ⟨wz, HWZ⟩ : ∃ wz, Hid (wz = w3) := ⟨_, Lib.hid rfl⟩
  have n1m := HN1.out
  go_loopw [8] (fun i wr => ∃ k : Nat, k ≤ n1 ∧ i = .int .i64 k ∧ wr = wz ∧ Hid ((r.2.1.take k).contains v = false)) (fun i _ => n1 - (intOf i).toNat)
  case atStart => exact ⟨0, Nat.zero_le _, rfl, HWZ.out.symm, Lib.hid (by simp)⟩
  case round =>
    obtain ⟨k, hk, rfl, rfl, HC⟩ := hrel
    rw [← HWZ.out] at K3
    clear HWZ
    by_cases hlt : k < n1
    · obtain ⟨b, o, rfl, hb, x, hx, hx32, hcl⟩ := K3.out.2.at_ hlt
      have HX := Lib.hid hx
      clear hx
      by_cases hxv : x = v
      · subst hxv
        go_wp2_with fail
        go_ret
        exact ⟨ret1b (by symm; rw [List.contains_iff_mem]; exact List.mem_of_getElem? HX.out), K3.out.1⟩
      · have hne : ((x : Int) == (v : Int)) = false := by rw [beq_eq_false_iff_ne]; omega
        go_wp2_with fail
        go_roundw
        case rel => exact ⟨k + 1, by omega, by go_num, trivial, Lib.hid (by rw [vtk_snoc HX.out]; simpa [Ne.symm hxv] using HC.out)⟩
        case measure => simp [intOf]; omega
    · obtain rfl : k = n1 := by omega
      have e : r.2.1.take k = r.2.1 := List.take_of_length_le (by have := K3.out.2.len; omega)
      rw [e] at HC
      clear e
      go_wp2_with fail
      go_ret
      exact ⟨ret1b HC.out.symm, K3.out.1⟩
end Go.Proofs.Ytppopdjfecabfaa
