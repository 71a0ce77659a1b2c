/- RankAnswers' walk: the program's answers are the reference's. -/
import Derived.Test.YtocbdgkehgmahaaRankTurnsW
namespace Go.Proofs.Ytocbdgkehgmahaa
open Go.RowKit Go.Maps
set_option linter.unusedVariables false
set_option linter.unusedSimpArgs false
def Fc (C : Nat → Nat) (j : Nat) : Value := .int .i64 (C j : Int)
theorem fc_nil (F : List UInt8 → Option Nat) : i0 = Fc (cK F []) := rfl
theorem sum_nil (F : List UInt8 → Option Nat) : 0 = sumN (cK F []) 64 := (sum_zero fun j _ => rfl).symm
theorem fin3 {α β : Type} {F : World → Prop} {G : World → α → β → Prop} {P : Prop} (h : (∀ w a b, F w → G w a b) → P) (g : ∀ w a b, F w → G w a b) : P := h g
theorem fin7 {α β : Type} {F : World → Prop} {G : World → α → β → α → β → α → β → Prop} {P : Prop} (h : (∀ w a b a' b' a'' b'', F w → G w a b a' b' a'' b'') → P) (g : ∀ w a b a' b' a'' b'', F w → G w a b a' b' a'' b'') : P := h g
theorem fin1 {F G : World → Prop} {P : Prop} (h : (∀ w, F w → G w) → P) (g : ∀ w, F w → G w) : P := h g
attribute [local irreducible] mixF scF scE scA okE tabE bestT ordA ordT leftT fK cK greatB nzN sumN unlB
set_option maxRecDepth 100000 in
set_option maxHeartbeats 4000000 in
theorem answers_in (s : Nat) (A : Option Addr) (n c : Nat) (ps : List (List UInt8)) (e : Int × Int) (Ae : Option Addr) (ne ce : Nat) (es : List (Int × Int)) (w : World) (hs : s < 18446744073709551616) (h1 : RP w w.heap.size A n ps) (hei : I64e e.1 ∧ I64e e.2) (he : EL w w.heap.size Ae ne es)
    (hg : greatB ps ne = false) (hm1 : n ≤ maxLen) (hme : ne ≤ maxLen) :
    Calls Try.prog 3 #[.int .u64 (s : Int), .slice A n c, entV e, .slice Ae ne ce] w fun e w' => e = .returned (.bool true) ∧ Below w.heap.size w w' := by
  have hgr := great_in hg
  have hl := h1.1.len
  have hn : n ≤ 1000 := by omega
  have hne : ne ≤ 80 := hgr.1
  have GR := Lib.hid (fun W hW => great_any A n c ps Ae ne ce W hW hm1 h1.2 hme)
  rw [hg] at GR
  have HL := Lib.hid hl
  have HR := Lib.hid h1
  have HE := Lib.hid he
  have HEI := Lib.hid hei
  have HP := Lib.hid h1.2
  clear h1 he hg hl hgr hei
  obtain ⟨x, y⟩ := e
  unfold entV
  go_enter Try.func3, Try.ntmps3
  go_wp2_with (refine wpList_boxB rfl 25 (.tmp 2) rfl (ent (x, y)) (ent_agg (x, y)) ?_; intro w1 q6 hc1 hb1 hx1; have HB1 := Lib.hid hb1; have HQ := Lib.hid hc1; clear hc1 hb1 hx1)
  refine (alive_any _).mono ?_
  rintro r w2 ⟨rfl, hb⟩
  have HB2 := Lib.hid (bel_next HB1.out hb)
  have HQ2 := Lib.hid (HQ.out.step hb)
  clear hb HQ
  go_wp2_with fail
  refine (GR.out _ (by exact (HR.out.1.below HB2.out).more22 HB2.out.size)).mono ?_
  rintro r w3 ⟨rfl, rfl⟩
  go_wp2_with (first
    | (refine wpList_bldZ bz_inta rfl rfl ?_; intro V1 HV1)
    | (refine wpList_newZ rt_inta rfl rfl ?_; intro w4 x9 k1 hb1 hx1; have K1 := Lib.hid k1; have B1 := Lib.hid hb1; have X1 := Lib.hid hx1; clear k1 hb1 hx1)
    | (refine wpList_stZ rt_inta i0_ones rfl (.tmp 9) (.tmp 31) rfl x9 rfl V1 rfl HV1 K1.out ?_; intro w5 k2 ho2 hs2; have K2 := Lib.hid k2; have B2 := Lib.hid (B1.out.trans (ho2.below (fun k hk => by rw [List.mem_singleton.1 hk]; exact X1.out) B1.out.size)); clear k2 ho2 hs2))
  have HSZ := HB2.out.size
  have HX1 := X1.out
  clear K1 B1 X1 HB1
  go_loopw [10, 11, 12, 13, 14, 15, 16, 17, 18, 19, 20, 21] (fun v i _ _ _ _ _ _ _ _ _ _ wr => ∃ j : Nat, j ≤ n ∧ j ≤ 20 ∧ i = .int .i64 j ∧ v = .int .i64 (sumN (cK (fK s es) (ps.take j)) 64 : Int) ∧ Hid (A64 29 wr x9 (Fc (cK (fK s es) (ps.take j)))) ∧ Hid (Below w2.heap.size w2 wr)) (fun _ i _ _ _ _ _ _ _ _ _ _ _ => 20 - (intOf i).toNat)
  case atStart => exact ⟨0, Nat.zero_le _, Nat.zero_le _, rfl, congrArg (fun z : Nat => Value.int .i64 (z : Int)) (sum_nil (fK s es)), Lib.hid (by rw [List.take_zero, ← fc_nil]; exact K2.out), B2⟩
  case round =>
    obtain ⟨j, hj, hj20, rfl, rfl, hc, hb⟩ := hrel
    clear K2 B2
    have HBW := Lib.hid (bel_next HB2.out hb.out)
    by_cases hlt : j < n
    · by_cases hl20 : j < 20
      · obtain ⟨b, o, rfl, hbl, p, hpk, Ai, ci, hck, hr⟩ := (HR.out.1.below HBW.out).at_ hlt
        have hpl := HP.out p (List.mem_of_getElem? hpk)
        have HRK := Lib.hid (hr.more HBW.out.size)
        have HTA := Lib.hid (take_row hpk)
        have q0 := (HQ2.out.step hb.out).cell 0
        have q1 := (HQ2.out.step hb.out).cell 1
        simp only [ent, List.getElem?_cons_zero, List.getElem?_cons_succ] at q0 q1
        have SC := Lib.hid (fun W hW => score_any s Ai p.length ci p (x, y) W hs hW hpl)
        have RS := Lib.hid (fun W hW => rscore_any s Ai p.length ci p (x, y) W hs hW hpl)
        unfold entV at SC RS
        go_wp2_with (at_builtin; refine wpList_appE gt_rk rfl (.tmp 42) (.tmp 43) rfl wr.heap.size _ _ _ [] rfl (by exact OwnE.lit0 _ wr _ _ rfl (Nat.le_refl _)) wr.heap.size _ ne _ es rfl (by exact (HE.out.step HBW.out).below (below_alloc _ _)) (by simp) (by omega) (by decide) (by simp) ?_
                     intro A6 c6 w6 ho6 hb6
                     rw [Nat.zero_add] at ho6
                     rw [Nat.zero_add]
                     have HO6 := Lib.hid ho6
                     have B6 : Hid (Below wr.heap.size wr w6) := Lib.hid ((below_alloc wr _).trans hb6)
                     clear ho6 hb6)
        have ck6 := (B6.out.cell (p := ⟨b, o + j, none⟩) (Nat.lt_of_lt_of_le hbl HBW.out.size)).trans hck
        have q60 := (B6.out.cell (p := ⟨q6, 0, none⟩) (HQ2.out.step hb.out).lt).trans q0
        have q61 := (B6.out.cell (p := ⟨q6, 1, none⟩) (HQ2.out.step hb.out).lt).trans q1
        have F1 := Lib.hid (fun W A2 c2 hW hE => first_any s Ai p.length ci p A2 ne c2 es W hs hW hpl hE (by omega))
        have RF := Lib.hid (fun W A2 c2 hW hE => rfirst_any s Ai p.length ci p A2 ne c2 es W hs hW hpl hE (by omega))
        have OF := Lib.hid (fun W hE => of_any Ae ne ce es W hE hne)
        have OR := Lib.hid (fun W A2 c2 hW hE => order_any s Ai p.length ci p A2 ne c2 es W hs hW hpl hE (by omega))
        have RO := Lib.hid (fun W A2 c2 hW hE => rorder_any s Ai p.length ci p A2 ne c2 es W hs hW hpl hE (by omega))
        have ck := fun (W : World) (h : Hid (Below wr.heap.size wr W)) => (h.out.cell (p := ⟨b, o + j, none⟩) (Nat.lt_of_lt_of_le hbl HBW.out.size)).trans hck
        have CK := Lib.hid ck
        have HCP : Hid ((ordA (tabE (scE s p) es)).length ≤ maxLen) := Lib.hid (by have h1 := ordA_len (tabE (scE s p) es); have h2 := cnt_le (tabE (scE s p) es) 64; unfold maxLen; omega)
        clear ck
        apply fin1 (F := fun w7 => Hid (Below w6.heap.size w6 w7))
        · intro FIN
          go_region_with (go_at_call 9; refine (SC.out _ (by exact (HRK.out.step B6.out).drew)).mono ?_; rintro r w7 ⟨rfl, hb7⟩)
          all_goals exact FIN w7 (Lib.hid (bel_next ((Below.refl w6.heap.size w6).drew) hb7))
        intro w7 B67
        have B7 : Hid (Below wr.heap.size wr w7) := Lib.hid (bel_next B6.out B67.out)
        have HO7 := Lib.hid (HO6.out.step B67.out)
        have ck7 := CK.out w7 B7
        have q70 := (B67.out.cell (p := ⟨q6, 0, none⟩) (Nat.lt_of_lt_of_le (HQ2.out.step hb.out).lt B6.out.size)).trans q60
        have q71 := (B67.out.cell (p := ⟨q6, 1, none⟩) (Nat.lt_of_lt_of_le (HQ2.out.step hb.out).lt B6.out.size)).trans q61
        clear ck6 q60 q61 q0 q1 hck B67
        go_wp2_with fail
        apply fin1 (F := fun w8 => Hid (Below w7.heap.size w7 w8))
        · intro FIN
          go_region_with (go_at_call 10; refine (RS.out _ (by exact (HRK.out.step B7.out).drew)).mono ?_; rintro r w8 ⟨rfl, hb8⟩)
          all_goals exact FIN w8 (Lib.hid (bel_next ((Below.refl w7.heap.size w7).drew) hb8))
        intro w8 B78
        have B8 : Hid (Below wr.heap.size wr w8) := Lib.hid (bel_next B7.out B78.out)
        have HO8 := Lib.hid (HO7.out.step B78.out)
        have ck8 := CK.out w8 B8
        clear ck7 q70 q71 B78 HO7 HO6
        go_wp2_with fail
        refine (F1.out _ _ _ (by exact HRK.out.step B8.out) (by exact HO8.out.el)).mono ?_
        rintro r w9 ⟨rfl, hb9⟩
        have B9 : Hid (Below wr.heap.size wr w9) := Lib.hid (bel_next B8.out hb9)
        have HO9 := Lib.hid (HO8.out.step hb9)
        have ck9 := CK.out w9 B9
        clear ck8 hb9 HO8
        go_wp2_with fail
        apply fin3 (α := Option Addr) (β := Nat) (F := fun w10 => Hid (Below w9.heap.size w9 w10))
        · intro FIN
          go_region_with (first
            | (go_at_call 13; refine (OF.out _ (by exact (HE.out.step (bel_next HBW.out B9.out)).drew)).mono ?_; rintro r w10 ⟨Ao, co, rfl, ho, hb10⟩; have HBO := Lib.hid (bel_next ((Below.refl w9.heap.size w9).drew) hb10); have HOO := Lib.hid ho; have ckO := CK.out w10 (Lib.hid (bel_next B9.out HBO.out)); clear ho hb10)
            | (go_at_call 12; refine (RF.out _ _ _ (by exact (HRK.out.step B9.out).step HBO.out) (by exact HOO.out.el)).mono ?_; rintro r w11 ⟨rfl, hb11⟩))
          all_goals exact FIN w11 Ao co (Lib.hid (bel_next HBO.out hb11))
        intro w10 Ao co B910
        have B10 : Hid (Below wr.heap.size wr w10) := Lib.hid (bel_next B9.out B910.out)
        have HO10 := Lib.hid (HO9.out.step B910.out)
        have ck10 := CK.out w10 B10
        go_wp2_with fail
        apply fin7 (α := Option Addr) (β := Nat) (F := fun w14 => Hid (Below w10.heap.size w10 w14))
        · intro FIN
          refine wp_region_held_drew (S := fun w' => w'.cell? ⟨b, o + j, none⟩ = some (.slice Ai p.length ci)) (by kernel_rfl) ck10 (fun hHeld => ?_)
          (try dsimp only at hHeld)
          refine wpAnyH_take (i := 0) (v := ?v0_1) rfl (by kernel_rfl) (by kernel_rfl) (by kernel_rfl) (fun _ _ _ h => h) (Or.inl ⟨by rfl, ?hy0_1⟩) hHeld ?_
          case hy0_1 => (intro w hSw; (try dsimp only at hSw); have ckS := hSw; (try simp only [List.getElem_toArray, List.getElem_cons_zero, List.getElem_cons_succ]); go_simp <;> with_reducible rfl)
          (try simp only [Act.put, List.getElem_toArray, List.getElem_cons_zero, List.getElem_cons_succ, List.setIfInBounds_toArray, List.set_cons_zero, List.set_cons_succ])
          refine wpAnyH_take (i := 1) (v := ?v1_2) rfl (by kernel_rfl) (by kernel_rfl) (by kernel_rfl) (fun _ _ _ h => h) (Or.inl ⟨by rfl, ?hy1_2⟩) hHeld ?_
          case hy1_2 => (intro w hSw; (try dsimp only at hSw); have ckS := hSw; (try simp only [List.getElem_toArray, List.getElem_cons_zero, List.getElem_cons_succ]); go_simp <;> with_reducible rfl)
          (try simp only [Act.put, List.getElem_toArray, List.getElem_cons_zero, List.getElem_cons_succ, List.setIfInBounds_toArray, List.set_cons_zero, List.set_cons_succ])
          refine wpAnyH_take (i := 2) (v := ?v2_3) rfl (by kernel_rfl) (by kernel_rfl) (by kernel_rfl) (fun _ _ _ h => h) (Or.inl ⟨by rfl, ?hy2_3⟩) hHeld ?_
          case hy2_3 => (intro w hSw; (try dsimp only at hSw); have ckS := hSw; (try simp only [List.getElem_toArray, List.getElem_cons_zero, List.getElem_cons_succ]); go_simp <;> with_reducible rfl)
          (try simp only [Act.put, List.getElem_toArray, List.getElem_cons_zero, List.getElem_cons_succ, List.setIfInBounds_toArray, List.set_cons_zero, List.set_cons_succ])
          refine wpAnyH_take (i := 3) (v := ?v3_4) rfl (by kernel_rfl) (by kernel_rfl) (by kernel_rfl) (fun _ _ _ h => h) (Or.inl ⟨by rfl, ?hy3_4⟩) hHeld ?_
          case hy3_4 => (intro w hSw; (try dsimp only at hSw); have ckS := hSw; (try simp only [List.getElem_toArray, List.getElem_cons_zero, List.getElem_cons_succ]); go_simp <;> with_reducible rfl)
          (try simp only [Act.put, List.getElem_toArray, List.getElem_cons_zero, List.getElem_cons_succ, List.setIfInBounds_toArray, List.set_cons_zero, List.set_cons_succ])
          refine wpAnyH_take (i := 4) (v := ?v4_5) rfl (by kernel_rfl) (by kernel_rfl) (by kernel_rfl) (fun _ _ _ h => h) (Or.inl ⟨by rfl, ?hy4_5⟩) hHeld ?_
          case hy4_5 => (intro w hSw; (try dsimp only at hSw); have ckS := hSw; (try simp only [List.getElem_toArray, List.getElem_cons_zero, List.getElem_cons_succ]); go_simp <;> with_reducible rfl)
          (try simp only [Act.put, List.getElem_toArray, List.getElem_cons_zero, List.getElem_cons_succ, List.setIfInBounds_toArray, List.set_cons_zero, List.set_cons_succ])
          refine wpAnyH_take (i := 5) (v := ?v5_6) rfl (by kernel_rfl) (by kernel_rfl) (by kernel_rfl) (fun _ _ _ h => h) (Or.inl ⟨by rfl, ?hy5_6⟩) hHeld ?_
          case hy5_6 => (intro w hSw; (try dsimp only at hSw); have ckS := hSw; (try simp only [List.getElem_toArray, List.getElem_cons_zero, List.getElem_cons_succ]); go_simp <;> with_reducible rfl)
          (try simp only [Act.put, List.getElem_toArray, List.getElem_cons_zero, List.getElem_cons_succ, List.setIfInBounds_toArray, List.set_cons_zero, List.set_cons_succ])
          refine wpAnyH_take (i := 6) (v := ?v6_7) rfl (by kernel_rfl) (by kernel_rfl) (by kernel_rfl) (fun _ _ _ h => h) (Or.inl ⟨by rfl, ?hy6_7⟩) hHeld ?_
          case hy6_7 => (intro w hSw; (try dsimp only at hSw); have ckS := hSw; (try simp only [List.getElem_toArray, List.getElem_cons_zero, List.getElem_cons_succ]); go_simp <;> with_reducible rfl)
          (try simp only [Act.put, List.getElem_toArray, List.getElem_cons_zero, List.getElem_cons_succ, List.setIfInBounds_toArray, List.set_cons_zero, List.set_cons_succ])
          refine wpAnyH_take (i := 7) (v := ?v7_8) rfl (by kernel_rfl) (by kernel_rfl) (by kernel_rfl) (fun _ _ _ h => h) (Or.inl ⟨by rfl, ?hy7_8⟩) hHeld ?_
          case hy7_8 => (intro w hSw; (try dsimp only at hSw); have ckS := hSw; (try simp only [List.getElem_toArray, List.getElem_cons_zero, List.getElem_cons_succ]); go_simp <;> with_reducible rfl)
          (try simp only [Act.put, List.getElem_toArray, List.getElem_cons_zero, List.getElem_cons_succ, List.setIfInBounds_toArray, List.set_cons_zero, List.set_cons_succ])
          refine wpAnyH_take (i := 8) (v := ?v8_9) rfl (by kernel_rfl) (by kernel_rfl) (by kernel_rfl) (fun _ _ _ h => h) (Or.inl ⟨by rfl, ?hy8_9⟩) hHeld ?_
          case hy8_9 => (intro w hSw; (try dsimp only at hSw); have ckS := hSw; (try simp only [List.getElem_toArray, List.getElem_cons_zero, List.getElem_cons_succ]); go_simp <;> with_reducible rfl)
          (try simp only [Act.put, List.getElem_toArray, List.getElem_cons_zero, List.getElem_cons_succ, List.setIfInBounds_toArray, List.set_cons_zero, List.set_cons_succ])
          refine wpAnyH_take (i := 9) (v := ?v9_10) rfl (by kernel_rfl) (by kernel_rfl) (by kernel_rfl) (fun _ _ _ h => h) (Or.inl ⟨by rfl, ?hy9_10⟩) hHeld ?_
          case hy9_10 => (intro w hSw; (try dsimp only at hSw); have ckS := hSw; (try simp only [List.getElem_toArray, List.getElem_cons_zero, List.getElem_cons_succ]); go_simp <;> with_reducible rfl)
          (try simp only [Act.put, List.getElem_toArray, List.getElem_cons_zero, List.getElem_cons_succ, List.setIfInBounds_toArray, List.set_cons_zero, List.set_cons_succ])
          refine wpAnyH_take (i := 10) (v := ?v10_11) rfl (by kernel_rfl) (by kernel_rfl) (by kernel_rfl) (fun _ _ _ h => h) (Or.inl ⟨by rfl, ?hy10_11⟩) hHeld ?_
          case hy10_11 => (intro w hSw; (try dsimp only at hSw); have ckS := hSw; (try simp only [List.getElem_toArray, List.getElem_cons_zero, List.getElem_cons_succ]); go_simp <;> with_reducible rfl)
          (try simp only [Act.put, List.getElem_toArray, List.getElem_cons_zero, List.getElem_cons_succ, List.setIfInBounds_toArray, List.set_cons_zero, List.set_cons_succ])
          refine wpAnyH_take (i := 11) (v := ?v11_12) rfl (by kernel_rfl) (by kernel_rfl) (by kernel_rfl) (fun _ _ _ h => h) (Or.inl ⟨by rfl, ?hy11_12⟩) hHeld ?_
          case hy11_12 => (intro w hSw; (try dsimp only at hSw); have ckS := hSw; (try simp only [List.getElem_toArray, List.getElem_cons_zero, List.getElem_cons_succ]); go_simp <;> with_reducible rfl)
          (try simp only [Act.put, List.getElem_toArray, List.getElem_cons_zero, List.getElem_cons_succ, List.setIfInBounds_toArray, List.set_cons_zero, List.set_cons_succ])
          refine wpAnyH_take (i := 12) (v := ?v12_13) rfl (by kernel_rfl) (by kernel_rfl) (by kernel_rfl) (fun _ _ _ h => h) (Or.inl ⟨by rfl, ?hy12_13⟩) hHeld ?_
          case hy12_13 => (intro w hSw; (try dsimp only at hSw); have ckS := hSw; (try simp only [List.getElem_toArray, List.getElem_cons_zero, List.getElem_cons_succ]); go_simp <;> with_reducible rfl)
          (try simp only [Act.put, List.getElem_toArray, List.getElem_cons_zero, List.getElem_cons_succ, List.setIfInBounds_toArray, List.set_cons_zero, List.set_cons_succ])
          refine wpAnyH_take (i := 13) (v := ?v13_14) rfl (by kernel_rfl) (by kernel_rfl) (by kernel_rfl) (fun _ _ _ h => h) (Or.inl ⟨by rfl, ?hy13_14⟩) hHeld ?_
          case hy13_14 => (intro w hSw; (try dsimp only at hSw); have ckS := hSw; (try simp only [List.getElem_toArray, List.getElem_cons_zero, List.getElem_cons_succ]); go_simp <;> with_reducible rfl)
          (try simp only [Act.put, List.getElem_toArray, List.getElem_cons_zero, List.getElem_cons_succ, List.setIfInBounds_toArray, List.set_cons_zero, List.set_cons_succ])
          refine wpAnyH_take (i := 14) (v := ?v14_15) rfl (by kernel_rfl) (by kernel_rfl) (by kernel_rfl) (fun _ _ _ h => h) (Or.inl ⟨by rfl, ?hy14_15⟩) hHeld ?_
          case hy14_15 => (intro w hSw; (try dsimp only at hSw); have ckS := hSw; (try simp only [List.getElem_toArray, List.getElem_cons_zero, List.getElem_cons_succ]); go_simp <;> with_reducible rfl)
          (try simp only [Act.put, List.getElem_toArray, List.getElem_cons_zero, List.getElem_cons_succ, List.setIfInBounds_toArray, List.set_cons_zero, List.set_cons_succ])
          refine wpAnyH_take (i := 15) (v := ?v15_16) rfl (by kernel_rfl) (by kernel_rfl) (by kernel_rfl) (fun _ _ _ h => h) (Or.inl ⟨by rfl, ?hy15_16⟩) hHeld ?_
          case hy15_16 => (intro w hSw; (try dsimp only at hSw); have ckS := hSw; (try simp only [List.getElem_toArray, List.getElem_cons_zero, List.getElem_cons_succ]); go_simp <;> with_reducible rfl)
          (try simp only [Act.put, List.getElem_toArray, List.getElem_cons_zero, List.getElem_cons_succ, List.setIfInBounds_toArray, List.set_cons_zero, List.set_cons_succ])
          refine wpAnyH_take (i := 16) (v := ?v16_17) rfl (by kernel_rfl) (by kernel_rfl) (by kernel_rfl) (fun _ _ _ h => h) (Or.inl ⟨by rfl, ?hy16_17⟩) hHeld ?_
          case hy16_17 => (intro w hSw; (try dsimp only at hSw); have ckS := hSw; (try simp only [List.getElem_toArray, List.getElem_cons_zero, List.getElem_cons_succ]); go_simp <;> with_reducible rfl)
          (try simp only [Act.put, List.getElem_toArray, List.getElem_cons_zero, List.getElem_cons_succ, List.setIfInBounds_toArray, List.set_cons_zero, List.set_cons_succ])
          refine wpAnyH_take (i := 17) (v := ?v17_18) rfl (by kernel_rfl) (by kernel_rfl) (by kernel_rfl) (fun _ _ _ h => h) (Or.inl ⟨by rfl, ?hy17_18⟩) hHeld ?_
          case hy17_18 => (intro w hSw; (try dsimp only at hSw); have ckS := hSw; (try simp only [List.getElem_toArray, List.getElem_cons_zero, List.getElem_cons_succ]); go_simp <;> with_reducible rfl)
          (try simp only [Act.put, List.getElem_toArray, List.getElem_cons_zero, List.getElem_cons_succ, List.setIfInBounds_toArray, List.set_cons_zero, List.set_cons_succ])
          refine wpAnyH_take (i := 18) (v := ?v18_19) rfl (by kernel_rfl) (by kernel_rfl) (by kernel_rfl) (fun _ _ _ h => h) (Or.inl ⟨by rfl, ?hy18_19⟩) hHeld ?_
          case hy18_19 => (intro w hSw; (try dsimp only at hSw); have ckS := hSw; (try simp only [List.getElem_toArray, List.getElem_cons_zero, List.getElem_cons_succ]); go_simp <;> with_reducible rfl)
          (try simp only [Act.put, List.getElem_toArray, List.getElem_cons_zero, List.getElem_cons_succ, List.setIfInBounds_toArray, List.set_cons_zero, List.set_cons_succ])
          refine wpAnyH_take (i := 19) (v := ?v19_20) rfl (by kernel_rfl) (by kernel_rfl) (by kernel_rfl) (fun _ _ _ h => h) (Or.inl ⟨by rfl, ?hy19_20⟩) hHeld ?_
          case hy19_20 => (intro w hSw; (try dsimp only at hSw); have ckS := hSw; (try simp only [List.getElem_toArray, List.getElem_cons_zero, List.getElem_cons_succ]); go_simp <;> with_reducible rfl)
          (try simp only [Act.put, List.getElem_toArray, List.getElem_cons_zero, List.getElem_cons_succ, List.setIfInBounds_toArray, List.set_cons_zero, List.set_cons_succ])
          refine wpAnyH_take (i := 20) (v := ?v20_21) rfl (by kernel_rfl) (by kernel_rfl) (by kernel_rfl) (fun _ _ _ h => h) (Or.inl ⟨by rfl, ?hy20_21⟩) hHeld ?_
          case hy20_21 => (intro w hSw; (try dsimp only at hSw); have ckS := hSw; (try simp only [List.getElem_toArray, List.getElem_cons_zero, List.getElem_cons_succ]); go_simp <;> with_reducible rfl)
          (try simp only [Act.put, List.getElem_toArray, List.getElem_cons_zero, List.getElem_cons_succ, List.setIfInBounds_toArray, List.set_cons_zero, List.set_cons_succ])
          refine wpAnyH_take (i := 21) (v := ?v21_22) rfl (by kernel_rfl) (by kernel_rfl) (by kernel_rfl) (fun _ _ _ h => h) (Or.inl ⟨by rfl, ?hy21_22⟩) hHeld ?_
          case hy21_22 => (intro w hSw; (try dsimp only at hSw); have ckS := hSw; (try simp only [List.getElem_toArray, List.getElem_cons_zero, List.getElem_cons_succ]); go_simp <;> with_reducible rfl)
          (try simp only [Act.put, List.getElem_toArray, List.getElem_cons_zero, List.getElem_cons_succ, List.setIfInBounds_toArray, List.set_cons_zero, List.set_cons_succ])
          refine wpAnyH_take (i := 22) (v := ?v22_23) rfl (by kernel_rfl) (by kernel_rfl) (by kernel_rfl) (fun _ _ _ h => h) (Or.inl ⟨by rfl, ?hy22_23⟩) hHeld ?_
          case hy22_23 => (intro w hSw; (try dsimp only at hSw); have ckS := hSw; (try simp only [List.getElem_toArray, List.getElem_cons_zero, List.getElem_cons_succ]); go_simp <;> with_reducible rfl)
          (try simp only [Act.put, List.getElem_toArray, List.getElem_cons_zero, List.getElem_cons_succ, List.setIfInBounds_toArray, List.set_cons_zero, List.set_cons_succ])
          refine wpAnyH_take (i := 23) (v := ?v23_24) rfl (by kernel_rfl) (by kernel_rfl) (by kernel_rfl) (fun _ _ _ h => h) (Or.inl ⟨by rfl, ?hy23_24⟩) hHeld ?_
          case hy23_24 => (intro w hSw; (try dsimp only at hSw); have ckS := hSw; (try simp only [List.getElem_toArray, List.getElem_cons_zero, List.getElem_cons_succ]); go_simp <;> with_reducible rfl)
          (try simp only [Act.put, List.getElem_toArray, List.getElem_cons_zero, List.getElem_cons_succ, List.setIfInBounds_toArray, List.set_cons_zero, List.set_cons_succ])
          refine wpAnyH_take (i := 24) (v := ?v24_25) rfl (by kernel_rfl) (by kernel_rfl) (by kernel_rfl) (fun _ _ _ h => h) (Or.inl ⟨by rfl, ?hy24_25⟩) hHeld ?_
          case hy24_25 => (intro w hSw; (try dsimp only at hSw); have ckS := hSw; (try simp only [List.getElem_toArray, List.getElem_cons_zero, List.getElem_cons_succ]); go_simp <;> with_reducible rfl)
          (try simp only [Act.put, List.getElem_toArray, List.getElem_cons_zero, List.getElem_cons_succ, List.setIfInBounds_toArray, List.set_cons_zero, List.set_cons_succ])
          refine wpAnyH_take (i := 26) (v := ?v26_26) rfl (by kernel_rfl) (by kernel_rfl) (by kernel_rfl) (fun _ _ _ h => h) (Or.inl ⟨by rfl, ?hy26_26⟩) hHeld ?_
          case hy26_26 => (intro w hSw; (try dsimp only at hSw); have ckS := hSw; (try simp only [List.getElem_toArray, List.getElem_cons_zero, List.getElem_cons_succ]); go_simp <;> with_reducible rfl)
          (try simp only [Act.put, List.getElem_toArray, List.getElem_cons_zero, List.getElem_cons_succ, List.setIfInBounds_toArray, List.set_cons_zero, List.set_cons_succ])
          refine wpAnyH_take (i := 27) (v := ?v27_27) rfl (by kernel_rfl) (by kernel_rfl) (by kernel_rfl) (fun _ _ _ h => h) (Or.inl ⟨by rfl, ?hy27_27⟩) hHeld ?_
          case hy27_27 => (intro w hSw; (try dsimp only at hSw); have ckS := hSw; (try simp only [List.getElem_toArray, List.getElem_cons_zero, List.getElem_cons_succ]); go_simp <;> with_reducible rfl)
          (try simp only [Act.put, List.getElem_toArray, List.getElem_cons_zero, List.getElem_cons_succ, List.setIfInBounds_toArray, List.set_cons_zero, List.set_cons_succ])
          refine wpAnyH_take (i := 28) (v := ?v28_28) rfl (by kernel_rfl) (by kernel_rfl) (by kernel_rfl) (fun _ _ _ h => h) (Or.inl ⟨by rfl, ?hy28_28⟩) hHeld ?_
          case hy28_28 => (intro w hSw; (try dsimp only at hSw); have ckS := hSw; (try simp only [List.getElem_toArray, List.getElem_cons_zero, List.getElem_cons_succ]); go_simp <;> with_reducible rfl)
          (try simp only [Act.put, List.getElem_toArray, List.getElem_cons_zero, List.getElem_cons_succ, List.setIfInBounds_toArray, List.set_cons_zero, List.set_cons_succ])
          refine wpAnyH_take (i := 29) (v := ?v29_29) rfl (by kernel_rfl) (by kernel_rfl) (by kernel_rfl) (fun _ _ _ h => h) (Or.inl ⟨by rfl, ?hy29_29⟩) hHeld ?_
          case hy29_29 => (intro w hSw; (try dsimp only at hSw); have ckS := hSw; (try simp only [List.getElem_toArray, List.getElem_cons_zero, List.getElem_cons_succ]); go_simp <;> with_reducible rfl)
          (try simp only [Act.put, List.getElem_toArray, List.getElem_cons_zero, List.getElem_cons_succ, List.setIfInBounds_toArray, List.set_cons_zero, List.set_cons_succ])
          refine wpAnyH_take (i := 30) (v := ?v30_30) rfl (by kernel_rfl) (by kernel_rfl) (by kernel_rfl) (fun _ _ _ h => h) (Or.inl ⟨by rfl, ?hy30_30⟩) hHeld ?_
          case hy30_30 => (intro w hSw; (try dsimp only at hSw); have ckS := hSw; (try simp only [List.getElem_toArray, List.getElem_cons_zero, List.getElem_cons_succ]); go_simp <;> with_reducible rfl)
          (try simp only [Act.put, List.getElem_toArray, List.getElem_cons_zero, List.getElem_cons_succ, List.setIfInBounds_toArray, List.set_cons_zero, List.set_cons_succ])
          refine wpAnyH_take (i := 31) (v := ?v31_31) rfl (by kernel_rfl) (by kernel_rfl) (by kernel_rfl) (fun _ _ _ h => h) (Or.inl ⟨by rfl, ?hy31_31⟩) hHeld ?_
          case hy31_31 => (intro w hSw; (try dsimp only at hSw); have ckS := hSw; (try simp only [List.getElem_toArray, List.getElem_cons_zero, List.getElem_cons_succ]); go_simp <;> with_reducible rfl)
          (try simp only [Act.put, List.getElem_toArray, List.getElem_cons_zero, List.getElem_cons_succ, List.setIfInBounds_toArray, List.set_cons_zero, List.set_cons_succ])
          refine wpAnyH_ready (rs := [25]) (by kernel_rfl) (by simp) ?_
          refine AllReadyH.cons rfl (fun K hK => ?_) AllReadyH.nil
          (try simp only [List.getElem_toArray, List.getElem_cons_zero, List.getElem_cons_succ])
          go_simp
          refine (OR.out _ _ _ (by exact (HRK.out.step B10.out).drew) (by exact HO10.out.el.drew)).mono ?_
          rintro r w11 ⟨Aa, ca, rfl, ho, hb11⟩
          have H11 := Lib.hid (bel_next ((Below.refl w10.heap.size w10).drew) hb11)
          have HOA := Lib.hid ho.zl
          have ck11 := CK.out w11 (Lib.hid (bel_next B10.out H11.out))
          clear ho hb11
          refine hK.out _ _ ck11 (fun hHeld => ?_)
          clear hK K
          (try simp only [Act.put, List.getElem_toArray, List.getElem_cons_zero, List.getElem_cons_succ, List.setIfInBounds_toArray, List.set_cons_zero, List.set_cons_succ])
          refine wpAnyH_ready (rs := [32]) (by kernel_rfl) (by simp) ?_
          refine AllReadyH.cons rfl (fun K hK => ?_) AllReadyH.nil
          (try simp only [List.getElem_toArray, List.getElem_cons_zero, List.getElem_cons_succ])
          go_simp
          refine (OF.out _ (by exact (HE.out.step (bel_next HBW.out (bel_next B10.out H11.out))))).mono ?_
          rintro r w12 ⟨Ao2, co2, rfl, ho, hb12⟩
          have H12 := Lib.hid (bel_next H11.out hb12)
          have HOO := Lib.hid ho
          have HOA12 := Lib.hid (HOA.out.step hb12)
          have ck12 := CK.out w12 (Lib.hid (bel_next B10.out H12.out))
          clear ho hb12
          refine hK.out _ _ ck12 (fun hHeld => ?_)
          clear hK K
          (try simp only [Act.put, List.getElem_toArray, List.getElem_cons_zero, List.getElem_cons_succ, List.setIfInBounds_toArray, List.set_cons_zero, List.set_cons_succ])
          refine wpAnyH_ready (rs := [33]) (by kernel_rfl) (by simp) ?_
          refine AllReadyH.cons rfl (fun K hK => ?_) AllReadyH.nil
          (try simp only [List.getElem_toArray, List.getElem_cons_zero, List.getElem_cons_succ])
          go_simp
          refine (RO.out _ _ _ (by exact (HRK.out.step B10.out).step H12.out) (by exact HOO.out.el)).mono ?_
          rintro r w13 ⟨Ab, cb, rfl, ho, hb13⟩
          have H13 := Lib.hid (bel_next H12.out hb13)
          have HOB := Lib.hid ho.zl
          have HOA13 := Lib.hid (HOA12.out.step hb13)
          have ck13 := CK.out w13 (Lib.hid (bel_next B10.out H13.out))
          clear ho hb13
          refine hK.out _ _ ck13 (fun hHeld => ?_)
          clear hK K
          (try simp only [Act.put, List.getElem_toArray, List.getElem_cons_zero, List.getElem_cons_succ, List.setIfInBounds_toArray, List.set_cons_zero, List.set_cons_succ])
          refine wpAnyH_ready (rs := [34]) (by kernel_rfl) (by simp) ?_
          refine AllReadyH.cons rfl (fun K hK => ?_) AllReadyH.nil
          (try simp only [List.getElem_toArray, List.getElem_cons_zero, List.getElem_cons_succ])
          go_simp
          refine (al_ints Aa Ab _ ca _ cb _ _ _ (by exact HOA13.out) (by exact HOB.out) HCP.out HCP.out true (by simp)).mono ?_
          rintro r w14 ⟨rfl, hb14⟩
          have ck14 := CK.out w14 (Lib.hid (bel_next B10.out (bel_next H13.out hb14)))
          refine hK.out _ _ ck14 (fun hHeld => ?_)
          clear hK K
          (try simp only [Act.put, List.getElem_toArray, List.getElem_cons_zero, List.getElem_cons_succ, List.setIfInBounds_toArray, List.set_cons_zero, List.set_cons_succ])
          refine wpAnyH_take (i := 35) (v := ?v35_32) rfl (by kernel_rfl) (by kernel_rfl) (by kernel_rfl) (fun _ _ _ h => h) (Or.inl ⟨by rfl, ?hy35_32⟩) hHeld ?_
          case hy35_32 => (intro w hSw; (try dsimp only at hSw); have ckS := hSw; (try simp only [List.getElem_toArray, List.getElem_cons_zero, List.getElem_cons_succ]); go_simp <;> with_reducible rfl)
          (try simp only [Act.put, List.getElem_toArray, List.getElem_cons_zero, List.getElem_cons_succ, List.setIfInBounds_toArray, List.set_cons_zero, List.set_cons_succ])
          refine wpAnyH_take (i := 36) (v := ?v36_33) rfl (by kernel_rfl) (by kernel_rfl) (by kernel_rfl) (fun _ _ _ h => h) (Or.inl ⟨by rfl, ?hy36_33⟩) hHeld ?_
          case hy36_33 => (intro w hSw; (try dsimp only at hSw); have ckS := hSw; (try simp only [List.getElem_toArray, List.getElem_cons_zero, List.getElem_cons_succ]); go_simp <;> with_reducible rfl)
          (try simp only [Act.put, List.getElem_toArray, List.getElem_cons_zero, List.getElem_cons_succ, List.setIfInBounds_toArray, List.set_cons_zero, List.set_cons_succ])
          refine wpAnyH_done (by kernel_rfl) ?_ _
          exact FIN w14 Aa ca Ao2 co2 Ab cb (Lib.hid (bel_next H13.out hb14))
        intro w14 Aa ca Ao2 co2 Ab cb B1014
        have B14 : Hid (Below wr.heap.size wr w14) := Lib.hid (bel_next B10.out B1014.out)
        have HO14 := Lib.hid ((HO10.out.step B1014.out).el)
        have HE14 := Lib.hid (HE.out.step (bel_next HBW.out B14.out))
        have HC14 := Lib.hid (hc.out.step B14.out)
        clear B1014 HO10 HO9 ck9 ck10 B910 SC RS F1 RF OF OR RO
        go_wp2_with fail
        go_loopw [21] (fun i wi => ∃ k q : Nat, k ≤ ne ∧ i = .int .i64 k ∧ wi = w14.drewN q) (fun i _ => ne - (intOf i).toNat)
        case atStart => exact ⟨0, 0, Nat.zero_le _, rfl, rfl⟩
        case round =>
          obtain ⟨k, q, hk, rfl, rfl⟩ := hrel
          by_cases hltk : k < ne
          · obtain ⟨b1, o1, e1, rfl, hb1, he1, _, _, _, a0, a1⟩ := HO14.out.at_ hltk
            obtain ⟨b2, o2, e2, rfl, hb2, he2, _, _, _, d0, d1⟩ := HE14.out.at_ hltk
            have he3 : es[k]? = some e1 := he1
            rw [he3] at he2
            injection he2 with he2
            subst he2
            clear he1 he3
            go_wp2_with fail
            go_quiet (fail)
            go_wp2_with fail
            go_roundw
            case rel => exact ⟨k + 1, _, by omega, by go_num, rfl⟩
            case measure => simp [intOf]; omega
          · obtain rfl : k = ne := by omega
            have HCQ : Hid (A64 29 (w14.drewN q) x9 (Fc (cK (fK s es) (ps.take j)))) := HC14
            have HBQ : Hid (Below w2.heap.size w2 (w14.drewN q)) := Lib.hid (below_drewN (bel_next hb.out B14.out) _)
            generalize w14.drewN q = wq at HCQ HBQ ⊢
            clear HC14 B14 HO14 HE14 hc hb
            rw [(fK_def s es p).1, (fK_def s es p).2]
            cases hF : fK s es p with
            | none =>
              have HN : Hid (cK (fK s es) (ps.take (j + 1)) = cK (fK s es) (ps.take j)) := Lib.hid (by rw [HTA.out, cK_none hF])
              have hgi : (none : Option Nat).getD 0 = 0 := rfl
              have hsi : (none : Option Nat).isSome = false := rfl
              rw [hgi, hsi]
              go_wp2_with fail
              go_roundw
              case rel => exact ⟨j + 1, by omega, by omega, by go_num, by rw [HN.out], Lib.hid (by rw [HN.out]; exact HCQ.out), HBQ⟩
              case measure => simp [intOf]; omega
            | some i =>
              have hi := fK_lt hF
              have HN : Hid (cK (fK s es) (ps.take (j + 1)) = upC (cK (fK s es) (ps.take j)) i) := Lib.hid (by rw [HTA.out, cK_some hF])
              have hgi : (some i).getD 0 = i := rfl
              have hsi : (some i).isSome = true := rfl
              rw [hgi, hsi]
              have hle := cK_le (F := fK s es) (ks := ps.take j) i
              rw [List.length_take] at hle
              obtain ⟨C, HC⟩ : ∃ C, Hid (C = cK (fK s es) (ps.take j)) := ⟨_, Lib.hid rfl⟩
              rw [← HC.out] at HCQ HN hle ⊢
              have hsu := sum_up (C := C) i 64
              rw [if_pos hi] at hsu
              have HSU := Lib.hid hsu
              have hsb := sum_le (C := C) (B := 20) (fun q => by rw [HC.out]; have := cK_le (F := fK s es) (ks := ps.take j) q; rw [List.length_take] at this; omega) 64
              have cc := HCQ.out.cell hi
              have fc := HCQ.out.free i
              have HCN : Hid (A64 29 (wq.setCell ⟨x9, i, none⟩ (.int .i64 ((C i : Int) + 1))) x9 (Fc (upC C i))) := Lib.hid ((HCQ.out.set i (.int .i64 ((C i : Int) + 1))).ext fun r _ => by
                unfold upF Fc upC
                split
                · rename_i h; rw [h]; rfl
                · rfl)
              have HBN : Hid (Below w2.heap.size w2 (wq.setCell ⟨x9, i, none⟩ (.int .i64 ((C i : Int) + 1)))) := Lib.hid (HBQ.out.setCell HX1 _)
              unfold Fc at cc
              clear hsu
              go_wp2_with fail
              go_roundw
              case rel => exact ⟨j + 1, by omega, by omega, by go_num, by rw [HN.out, HSU.out]; go_num, Lib.hid (by rw [HN.out]; exact HCN.out), HBN⟩
              case measure => simp [intOf]; omega
      · obtain rfl : j = 20 := by omega
        have dn : decide (20 < (n : Int)) = true := decide_eq_true (by omega)
        go_wp2_with fail
        go_ret
        exact ⟨rfl, HBW.out⟩
    · obtain rfl : j = n := by omega
      rw [List.take_of_length_le (by have := HL.out; omega)] at hc ⊢
      have dn : decide (20 < (j : Int)) = false := decide_eq_false (by omega)
      have CH := Lib.hid (fun W A2 hW hE => chosen_any s A2 j c ps Ae ne ce es W hs hW (by omega) HP.out hE (by omega))
      obtain ⟨C, HC⟩ : ∃ C, Hid (C = cK (fK s es) ps) := ⟨_, Lib.hid rfl⟩
      have hle : ∀ q, C q ≤ 20 := fun q => by
        rw [HC.out]
        have := cK_le (F := fK s es) (ks := ps) q
        have := HL.out
        omega
      rw [← HC.out] at hc CH ⊢
      have HLE := Lib.hid hle
      have HSL := Lib.hid (sum_le hle)
      obtain ⟨S, HS⟩ : ∃ S, Hid (S = sumN C 64) := ⟨_, Lib.hid rfl⟩
      have hS : S ≤ 1280 := by rw [HS.out]; exact HSL.out 64
      rw [← HS.out]
      clear hle
      go_wp2_with fail
      refine (CH.out _ _ (by exact (HR.out.1.below HBW.out).more22 HBW.out.size) (by exact HE.out.step HBW.out)).mono ?_
      rintro r w5 ⟨bm, mm, rfl, hm, _, hb5⟩
      have HM := Lib.hid hm
      have HB5 := Lib.hid (bel_next HBW.out hb5)
      have HC5 := Lib.hid (hc.out.step hb5)
      clear hm hb5 hc
      go_wp2_with fail
      go_loop [10, 23, 24, 25] (fun v i _ _ => ∃ k : Nat, k ≤ 64 ∧ i = .int .i64 k ∧ v = .int .i64 ((S : Int) - (sumN C k : Int))) (fun _ i _ _ => 64 - (intOf i).toNat)
      case atStart => exact ⟨0, Nat.zero_le _, rfl, congrArg (Value.int .i64) (by rw [← sum_0]; simp)⟩
      case round =>
        obtain ⟨k, hk, rfl, rfl⟩ := hrel
        have hsk := HSL.out k
        by_cases hlt : k < 64
        · have hck := HLE.out k
          have hlk := HM.out.lookOk hlt (by omega)
          have cc := HC5.out.cell hlt
          unfold Fc at cc
          have HSS := Lib.hid (sum_succ C k)
          obtain ⟨x, HX⟩ : ∃ x, Hid (x = C k) := ⟨_, Lib.hid rfl⟩
          rw [← HX.out] at hck hlk cc HSS
          obtain ⟨y, HY⟩ : ∃ y, Hid (y = sumN C k) := ⟨_, Lib.hid rfl⟩
          rw [← HY.out] at hsk HSS ⊢
          obtain ⟨d, hd⟩ : ∃ d, decide (0 < x) = d := ⟨_, rfl⟩
          have hd2 : decide (0 < (x : Int)) = d := by
            rw [← hd]
            by_cases h0 : 0 < x
            · rw [decide_eq_true h0, decide_eq_true (by omega)]
            · rw [decide_eq_false h0, decide_eq_false (by omega)]
          rw [hd] at hlk
          go_wp2
          go_round
          case rel => exact ⟨k + 1, by omega, by go_num, congrArg (Value.int .i64) (by rw [HSS.out]; omega)⟩
          case measure => simp [intOf]; omega
        · obtain rfl : k = 64 := by omega
          rw [← HS.out, Int.sub_self]
          go_wp2_with fail
          go_ret
          exact ⟨rfl, HB5.out⟩
set_option maxRecDepth 100000 in
set_option maxHeartbeats 2000000 in
theorem RankAnswers_walk (x0 : Int) (A1 : Option Addr) (n1 c1 : Nat) (l1 : List (List UInt8)) (x2 : Int × Int) (A3 : Option Addr) (n3 c3 : Nat) (l3 : List (Int × Int)) (w : World) (h0 : (Lit.int .u64 x0).wf = true) (h1 : RP w w.heap.size A1 n1 l1) (m1 : n1 ≤ c1 ∧ c1 ≤ maxLen) (h2 : I64e x2.1 ∧ I64e x2.2) (h3 : EL w w.heap.size A3 n3 l3) (m3 : n3 ≤ c3 ∧ c3 ≤ maxLen) :
    Calls Try.prog 3 #[.int .u64 x0, .slice A1 n1 c1, entV x2, .slice A3 n3 c3] w fun e w' => e = .returned (.bool true) ∧ Below w.heap.size w w' := by
  obtain ⟨s, rfl, hs⟩ := u64_natE h0
  have hm1 : n1 ≤ maxLen := Nat.le_trans m1.1 m1.2
  have hm3 : n3 ≤ maxLen := Nat.le_trans m3.1 m3.2
  obtain ⟨t, ht⟩ : ∃ t, greatB l1 n3 = t := ⟨_, rfl⟩
  rcases t with _ | _
  · exact answers_in s A1 n1 c1 l1 x2 A3 n3 c3 l3 w hs h1 h2 h3 ht hm1 hm3
  · have GR := Lib.hid (fun W hW => great_any A1 n1 c1 l1 A3 n3 c3 W hW hm1 h1.2 hm3)
    rw [ht] at GR
    have HR := Lib.hid h1
    clear h1 h2 h3 h0 ht
    obtain ⟨x, y⟩ := x2
    unfold entV
    go_enter Try.func3, Try.ntmps3
    go_wp2_with (refine wpList_boxB rfl 25 (.tmp 2) rfl (ent (x, y)) (ent_agg (x, y)) ?_; intro w1 q6 hc1 hb1 hx1; have HB1 := Lib.hid hb1; clear hc1 hb1 hx1)
    refine (alive_any _).mono ?_
    rintro r w2 ⟨rfl, hb⟩
    have HB2 := Lib.hid (bel_next HB1.out hb)
    clear hb
    go_wp2_with fail
    refine (GR.out _ (by exact (HR.out.1.below HB2.out).more22 HB2.out.size)).mono ?_
    rintro r w3 ⟨rfl, rfl⟩
    go_wp2_with fail
    go_ret
    exact ⟨rfl, HB2.out⟩
end Go.Proofs.Ytocbdgkehgmahaa
