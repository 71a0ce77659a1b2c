/- Layer 23: the program's scores, slices.MinFunc at Ids with scores, first, First. Conditions: what they read is readable. -/
import Derived.Test.YtocbdgkehgmahaaRkN
import Derived.Test.YtocbdgkehgmahaaRkQ
namespace Go.Proofs.Ytocbdgkehgmahaa
open Go.RowKit Go.Maps
set_option linter.unusedVariables false
set_option linter.unusedSimpArgs false
attribute [local irreducible] mixF scF scE scA okE tabE bestT ordA ordT leftT keepE cmpS cmpI ltS
theorem below_grow (w : World) (q : Nat) (os : Array Obj) : Below w.heap.size w (Go.Sort.grow (w.drewN q) os) :=
  ⟨rfl, rfl, rfl, by unfold Go.Sort.grow; show w.heap.size ≤ (w.heap ++ os).size; rw [Array.size_append]; omega, fun i hi => by unfold Go.Sort.grow; show (w.heap ++ os)[i]? = w.heap[i]?; exact Array.getElem?_append_left hi⟩
theorem rowS_snoc {f : Int × Int → Nat} {l : List (Int × Int)} {k : Nat} {e : Int × Int} (h : l[k]? = some e) : (rowS f (l.take (k + 1))).map sco = (rowS f (l.take k)).map sco ++ [sco (e.1, (f e : Int))] := by
  rw [take_ent h]
  unfold rowS
  rw [List.map_append, List.map_append]
  rfl
set_option maxRecDepth 100000 in
set_option maxHeartbeats 2000000 in
theorem scores_any (s : Nat) (A : Option Addr) (n c : Nat) (l : List UInt8) (Ae : Option Addr) (ne ce : Nat) (es : List (Int × Int)) (w : World) (hs : s < 18446744073709551616) (h : RB w w.heap.size A n l) (hn : n ≤ maxLen) (he : EL w w.heap.size Ae ne es) (hne : ne ≤ 64) (hok : ∀ e ∈ es, okE e = true) :
    Calls Try.prog 25 #[.int .u64 (s : Int), .slice A n c, .slice Ae ne ce] w fun r w' => ∃ (Ao : Option Addr) (co : Nat), r = .returned (.slice Ao ne co) ∧ OwnS w' w.heap.size Ao ne co (rowS (scE s l) es) ∧ Below w.heap.size w w' := by
  have HE := Lib.hid he
  have HR := Lib.hid h
  have HOK := Lib.hid hok
  clear he h hok
  go_enter Try.func25, Try.ntmps25
  go_wp2_with (at_make; refine wpList_mk23 gt_sc rfl _ _ rfl w.heap.size .i64 .i64 _ ne rfl rfl rfl (by omega) (by decide) (Nat.le_refl _) ?_; intro w1 g1 hb1; have G1 := Lib.hid g1; have B1 := Lib.hid hb1; clear g1 hb1)
  go_loopw [7, 9, 10, 11, 17] (fun v _ _ _ i wr => ∃ (k : Nat) (A1 : Option Addr) (d1 : Nat), k ≤ ne ∧ i = .int .i64 k ∧ v = .slice A1 k d1 ∧ Hid (OwnS wr w.heap.size A1 k d1 (rowS (scE s l) (es.take k))) ∧ Hid (Below w.heap.size w wr)) (fun _ _ _ _ i _ => ne - (intOf i).toNat)
  case atStart => exact ⟨0, _, _, Nat.zero_le _, rfl, rfl, Lib.hid (by rw [List.take_zero]; exact G1.out), B1⟩
  case round =>
    obtain ⟨k, A1, d1, hk, rfl, rfl, ho, hb⟩ := hrel
    clear G1 B1
    by_cases hlt : k < ne
    · obtain ⟨b, o, e, rfl, hbb, hek, hi1, hi2, hrg, c0w, c1w⟩ := HE.out.at_ hlt
      have HRG := Lib.hid (range_below hrg hb.out hbb)
      have HTA := Lib.hid (rowS_snoc (f := scE s l) hek)
      have hke := HOK.out e (List.mem_of_getElem? hek)
      have HSC := Lib.hid (fun W hW => score_any s A n c l e W hs hW hn)
      rw [scA_ok s l e hke, hke] at HSC
      obtain ⟨V, HV⟩ : ∃ V, Hid (V = scE s l e) := ⟨_, Lib.hid rfl⟩
      rw [← HV.out] at HSC HTA
      clear hrg hek c0w c1w hi1 hi2 hke HV
      obtain ⟨x, y⟩ := e
      go_wp2_with (first
        | (refine wpList_ldE rt_rk rfl (.tmp 19) rfl b (o + k * 2) (by first | rfl | simp [Act.eval, Act.put]) (x, y) HRG.out ?_)
        | (refine wpList_newB rt_rk rfl rfl ?_; intro w3 q3 k3 hb3 hx3; have K3 := Lib.hid k3; have B3 := Lib.hid (bel_next hb.out hb3); have E3 := Lib.hid (ho.out.step hb3); have X3 := Lib.hid hx3; clear k3 hb3 hx3)
        | (refine wpList_stB rt_rk rfl (.tmp 9) (.tmp 20) rfl q3 0 rfl [.int .i64 0, .int .i64 0] (ent (x, y)) rfl (ent_one (x, y)) rfl K3.out (by decide) ?_; intro w4 k4 ho4 hs4; have K4 : Hid (Blk 25 w4 q3 (ent (x, y))) := Lib.hid k4; have E4 : Hid (OwnS w4 w.heap.size A1 k d1 (rowS (scE s l) (es.take k))) := Lib.hid (Grd.oth E3.out ho4 (fun g hg => by have := (Grd.lt ho.out g hg).2; have := X3.out; simp; omega)); have B4 := Lib.hid (B3.out.trans (ho4.below (fun j hj => by rw [List.mem_singleton.1 hj]; exact Nat.le_trans hb.out.size X3.out) B3.out.size)); have R4 := Lib.hid (Blk.range K4.out 0 2); clear k4 ho4 hs4)
        | (refine wpList_ldE rt_rk rfl (.tmp 9) rfl q3 0 (by first | rfl | simp [Act.eval, Act.put]) (x, y) R4.out ?_))
      refine (HSC.out _ (by exact HR.out.step B4.out)).mono ?_
      rintro r w5 ⟨rfl, hb5⟩
      have E5 := Lib.hid (E4.out.step hb5)
      have B5 := Lib.hid (bel_next B4.out hb5)
      have c0 := (K4.out.step hb5).cell 0
      simp only [ent, List.getElem?_cons_zero] at c0
      clear hb5
      go_wp2_with (at_builtin; refine wpList_app23 gt_sc rfl (.tmp 28) (.tmp 33) rfl w.heap.size A1 k d1 _ rfl (by exact E5.out.step (below_alloc _ _)) (some ⟨w5.heap.size, 0, none⟩) 1 1 [sco (x, (V : Int))] rfl (by exact RdG.lit1 61 w5 (sco (x, (V : Int))) (sco_one _)) (by omega) (by decide) (by have := B5.out.size; rw [World.size_alloc]; omega) ?_; intro A9 c9 w9 g9 o9 b9; have G9 := Lib.hid g9; have B9 := Lib.hid ((B5.out.trans ((below_alloc w5 _).mono B5.out.size)).trans b9); clear g9 o9 b9)
      go_roundw
      case rel => exact ⟨k + 1, A9, c9, by omega, by go_num, rfl, Lib.hid (by unfold OwnS; rw [HTA.out]; exact G9.out), B9⟩
      case measure => simp [intOf]; omega
    · obtain rfl : k = ne := by omega
      have HO := ho.out
      rw [List.take_of_length_le (by have := HE.out.len; omega)] at HO
      have HO := Lib.hid HO
      go_wp2_with fail
      go_ret
      exact ⟨A1, d1, rfl, HO.out, hb.out⟩
theorem OwnS.all {w : World} {base n c : Nat} {A : Option Addr} {l : List (Int × Int)} (h : OwnS w base A n c l) (hn : 0 < n) : ∃ g o, A = some ⟨g, o, none⟩ ∧ g < w.heap.size ∧ ∀ k, k < n → ∃ e, l[k]? = some e ∧ w.rangeAt g (o + k * 2) (sco e) := by
  obtain ⟨g, _, rfl, hg, _⟩ := h.at_ hn
  refine ⟨g, 0, rfl, hg, fun k hk => ?_⟩
  obtain ⟨g', e, he, _, h1, h2⟩ := h.at_ hk
  injection he with he
  injection he with he
  subst he
  exact ⟨e, h1, by rw [Nat.zero_add]; exact h2⟩
theorem wpList_ldS {w : World} {ops : Array Oper} {rest : List Oper} {o : Oper} {a : Act} {Q : Exit → Act → World → Prop} (hgd : o.guard = none) (x : Operand) (hop : o.op = .load 61 x) (g k : Nat) (hx : a.eval x = .pointer (some ⟨g, k, none⟩)) (e : Int × Int) (hr : w.rangeAt g k (sco e))
    (hk : wpList Try.prog ops Q rest (a.put o.dst (.agg #[.int .i64 e.1, .int .u64 e.2])) w) : wpList Try.prog ops Q (o :: rest) a w := by
  obtain ⟨d, hu, hd⟩ := rt_sc.row
  exact wpList_load_mid hgd _ x hop g k hx (sco e) d hr hu hd (by rw [sco_len]; exact rt_sc.size) hk
set_option maxRecDepth 100000 in
set_option maxHeartbeats 4000000 in
theorem min_any (base : Nat) (A : Option Addr) (n c : Nat) (l : List (Int × Int)) (w : World) (h : OwnS w base A n c l) (hn : 0 < n) (hm : n ≤ 64) :
    Calls Try.prog 33 #[.slice A n c, .func (.func 27) #[] #[]] w fun r w' => ∃ mi ms : Int, r = .returned (.agg #[.int .i64 mi, .int .u64 ms]) ∧ IsMin l (mi, ms) ∧ Below w.heap.size w w' := by
  obtain ⟨g, o, rfl, hg, hat⟩ := h.all hn
  have HL : Hid (l.length = n) := Lib.hid h.len
  have HAT := Lib.hid hat
  clear h hat
  obtain ⟨e0, h0, hr0⟩ := HAT.out 0 hn
  have H0 : Hid (w.rangeAt g o (sco e0)) := Lib.hid (by simpa using hr0)
  have HM0 : Hid (IsMin (l.take 1) e0) := Lib.hid (by
    have : l.take 1 = l.take 0 ++ [e0] := by rw [List.take_add_one, h0]; rfl
    rw [this, List.take_zero]
    exact min_one)
  clear h0 hr0
  have hn1 : ¬ (n : Int) < 1 := by omega
  obtain ⟨x0, y0⟩ := e0
  go_enter Try.func33, Try.ntmps33
  go_wp2_with (first
    | (refine wpList_newB rt_sc rfl (by with_reducible rfl) ?_; intro w1 q1 k1 hb1 hx1; (first
        | (have K1 := Lib.hid k1; have B1 := Lib.hid hb1; have X1 := Lib.hid hx1; have R1 := Lib.hid (range_below H0.out hb1 hg); have L1 : Hid (w1.heap.size = w1.heap.size) := Lib.hid rfl; clear k1 hb1 hx1 H0)))
    | (refine wpList_ldS rfl (.tmp 12) rfl g o (by first | rfl | simp [Act.eval, Act.put]) (x0, y0) R1.out ?_))
  have K2 : Hid (Blk 61 (w1.alloc (.cells #[.int .i64 x0, .int .u64 y0] 61)) w1.heap.size (sco (x0, y0))) := Lib.hid (Blk.new w1 _ (sco (x0, y0)) _ rfl)
  have Q2 := Lib.hid (K1.out.step (below_alloc w1 (.cells #[.int .i64 x0, .int .u64 y0] 61)))
  have B2 := Lib.hid (bel_next B1.out (below_alloc w1 (.cells #[.int .i64 x0, .int .u64 y0] 61)))
  have HNE : Hid (q1 ≠ w1.heap.size) := Lib.hid (Nat.ne_of_lt K1.out.lt)
  have HX5 : Hid (w.heap.size ≤ w1.heap.size) := Lib.hid B1.out.size
  clear K1 B1 R1 L1
  generalize w1.alloc (.cells #[.int .i64 x0, .int .u64 y0] 61) = w2 at K2 Q2 B2 ⊢
  generalize w1.heap.size = q5 at K2 HNE HX5 ⊢
  go_loopw [6] (fun i wr => ∃ (k : Nat) (x y : Int), 1 ≤ k ∧ k ≤ n ∧ i = .int .i64 k ∧ Hid (IsMin (l.take k) (x, y)) ∧ Hid (Blk 61 wr q5 (sco (x, y))) ∧ Hid (Blk 61 wr q1 [.int .i64 0, .int .u64 0]) ∧ Hid (Below w.heap.size w wr)) (fun i _ => n - (intOf i).toNat)
  case atStart => exact ⟨1, x0, y0, Nat.le_refl _, hn, rfl, HM0, K2, Q2, B2⟩
  case round =>
    obtain ⟨k, x, y, hk1, hk, rfl, hmin, hq5, hq1, hb⟩ := hrel
    clear K2 Q2 B2 HM0
    by_cases hlt : k < n
    · obtain ⟨e, hek, hre⟩ := HAT.out k hlt
      obtain ⟨ex, ey⟩ := e
      have hrr := range_below hre hb.out hg
      have HRR := Lib.hid hrr
      have a0 := hrr 0 _ rfl
      have a1 := hrr 1 _ rfl
      rw [Nat.add_zero] at a0
      have b0 := hq5.out.cell 0
      have b1 := hq5.out.cell 1
      simp only [sco, List.getElem?_cons_zero, List.getElem?_cons_succ] at b0 b1
      have HTK : Hid (l.take (k + 1) = l.take k ++ [(ex, ey)]) := Lib.hid (by rw [List.take_add_one, hek]; rfl)
      have HCM := Lib.hid (fun W => compare_any (ex, ey) (x, y) W)
      obtain ⟨z, HZ⟩ : ∃ z, Hid (z = cmpS (ex, ey) (x, y)) := ⟨_, Lib.hid rfl⟩
      have hz := cmpS_lt (ex, ey) (x, y)
      rw [← HZ.out] at HCM hz
      unfold scoV at HCM
      simp only at HCM
      clear HZ hrr hre hek
      cases hls : ltS (ex, ey) (x, y) with
      | true =>
        have HMN := Lib.hid (min_new hmin.out hls)
        have hz0 : decide (z < 0) = true := hz.trans hls
        clear hls hz
        go_wp2_with fail
        refine wp_region_held_drew (S := fun w' => w'.cell? ⟨g, o + k * 2, none⟩ = some (.int .i64 ex) ∧ w'.cell? ⟨g, o + k * 2 + 1, none⟩ = some (.int .u64 ey) ∧ w'.cell? ⟨q5, 0, none⟩ = some (.int .i64 x) ∧ w'.cell? ⟨q5, 1, none⟩ = some (.int .u64 y)) (by kernel_rfl) ⟨a0, a1, b0, b1⟩ (fun hHeld => ?_)
        (try dsimp only at hHeld)
        refine wpAnyH_take (i := 0) (v := ?v0_1) rfl (by kernel_rfl) (by kernel_rfl) (by kernel_rfl) (fun _ _ _ h => h) (Or.inl ⟨by rfl, ?hy0_1⟩) hHeld ?_
        case hy0_1 => (intro w hSw; (try dsimp only at hSw); obtain ⟨e1, e2, e3, e4⟩ := hSw; (try simp only [List.getElem_toArray, List.getElem_cons_zero, List.getElem_cons_succ]); go_simp <;> with_reducible rfl)
        (try simp only [Act.put, List.getElem_toArray, List.getElem_cons_zero, List.getElem_cons_succ, List.setIfInBounds_toArray, List.set_cons_zero, List.set_cons_succ])
        refine wpAnyH_take (i := 1) (v := ?v1_2) rfl (by kernel_rfl) (by kernel_rfl) (by kernel_rfl) (fun _ _ _ h => h) (Or.inl ⟨by rfl, ?hy1_2⟩) hHeld ?_
        case hy1_2 => (intro w hSw; (try dsimp only at hSw); obtain ⟨e1, e2, e3, e4⟩ := hSw; (try simp only [List.getElem_toArray, List.getElem_cons_zero, List.getElem_cons_succ]); go_simp <;> with_reducible rfl)
        (try simp only [Act.put, List.getElem_toArray, List.getElem_cons_zero, List.getElem_cons_succ, List.setIfInBounds_toArray, List.set_cons_zero, List.set_cons_succ])
        refine wpAnyH_take (i := 2) (v := ?v2_3) rfl (by kernel_rfl) (by kernel_rfl) (by kernel_rfl) (fun _ _ _ h => h) (Or.inl ⟨by rfl, ?hy2_3⟩) hHeld ?_
        case hy2_3 => (intro w hSw; (try dsimp only at hSw); obtain ⟨e1, e2, e3, e4⟩ := hSw; (try simp only [List.getElem_toArray, List.getElem_cons_zero, List.getElem_cons_succ]); go_simp <;> with_reducible rfl)
        (try simp only [Act.put, List.getElem_toArray, List.getElem_cons_zero, List.getElem_cons_succ, List.setIfInBounds_toArray, List.set_cons_zero, List.set_cons_succ])
        refine wpAnyH_take (i := 3) (v := ?v3_4) rfl (by kernel_rfl) (by kernel_rfl) (by kernel_rfl) (fun _ _ _ h => h) (Or.inl ⟨by rfl, ?hy3_4⟩) hHeld ?_
        case hy3_4 => (intro w hSw; (try dsimp only at hSw); obtain ⟨e1, e2, e3, e4⟩ := hSw; (try simp only [List.getElem_toArray, List.getElem_cons_zero, List.getElem_cons_succ]); go_simp <;> with_reducible rfl)
        (try simp only [Act.put, List.getElem_toArray, List.getElem_cons_zero, List.getElem_cons_succ, List.setIfInBounds_toArray, List.set_cons_zero, List.set_cons_succ])
        refine wpAnyH_take (i := 4) (v := ?v4_5) rfl (by kernel_rfl) (by kernel_rfl) (by kernel_rfl) (fun _ _ _ h => h) (Or.inl ⟨by rfl, ?hy4_5⟩) hHeld ?_
        case hy4_5 => (intro w hSw; (try dsimp only at hSw); obtain ⟨e1, e2, e3, e4⟩ := hSw; (try simp only [List.getElem_toArray, List.getElem_cons_zero, List.getElem_cons_succ]); go_simp <;> with_reducible rfl)
        (try simp only [Act.put, List.getElem_toArray, List.getElem_cons_zero, List.getElem_cons_succ, List.setIfInBounds_toArray, List.set_cons_zero, List.set_cons_succ])
        refine wpAnyH_take (i := 5) (v := ?v5_6) rfl (by kernel_rfl) (by kernel_rfl) (by kernel_rfl) (fun _ _ _ h => h) (Or.inl ⟨by rfl, ?hy5_6⟩) hHeld ?_
        case hy5_6 => (intro w hSw; (try dsimp only at hSw); obtain ⟨e1, e2, e3, e4⟩ := hSw; (try simp only [List.getElem_toArray, List.getElem_cons_zero, List.getElem_cons_succ]); go_simp <;> with_reducible rfl)
        (try simp only [Act.put, List.getElem_toArray, List.getElem_cons_zero, List.getElem_cons_succ, List.setIfInBounds_toArray, List.set_cons_zero, List.set_cons_succ])
        refine wpAnyH_ready (rs := [6]) (by kernel_rfl) (by simp) ?_
        refine AllReadyH.cons rfl (fun K hK => ?_) AllReadyH.nil
        (try simp only [List.getElem_toArray, List.getElem_cons_zero, List.getElem_cons_succ])
        go_simp
        refine (HCM.out _).mono ?_
        rintro r w9 ⟨rfl, qq, os9, rfl⟩
        have hb9 := below_grow wr.drew qq os9
        have HB9 : Hid (Below wr.heap.size wr (Go.Sort.grow (wr.drew.drewN qq) os9)) := Lib.hid (bel_next ((Below.refl _ _).drew) hb9)
        have d0 := (HB9.out.cell (p := ⟨g, o + k * 2, none⟩) (Nat.lt_of_lt_of_le hg hb.out.size)).trans a0
        have d1 := (HB9.out.cell (p := ⟨g, o + k * 2 + 1, none⟩) (Nat.lt_of_lt_of_le hg hb.out.size)).trans a1
        have d2 := (HB9.out.cell (p := ⟨q5, 0, none⟩) hq5.out.lt).trans b0
        have d3 := (HB9.out.cell (p := ⟨q5, 1, none⟩) hq5.out.lt).trans b1
        clear hb9
        generalize Go.Sort.grow (wr.drew.drewN qq) os9 = w9 at HB9 d0 d1 d2 d3 ⊢
        refine hK.out _ _ ⟨d0, d1, d2, d3⟩ (fun hHeld => ?_)
        clear hK K
        (try simp only [Act.put, List.getElem_toArray, List.getElem_cons_zero, List.getElem_cons_succ, List.setIfInBounds_toArray, List.set_cons_zero, List.set_cons_succ])
        refine wpAnyH_ready (rs := [7]) (by kernel_rfl) (by simp) ?_
        refine AllReadyH.cons rfl (fun K hK => ?_) AllReadyH.nil
        (try simp only [List.getElem_toArray, List.getElem_cons_zero, List.getElem_cons_succ])
        go_simp
        refine hK.out _ _ ⟨d0, d1, d2, d3⟩ (fun hHeld => ?_)
        clear hK K
        (try simp only [Act.put, List.getElem_toArray, List.getElem_cons_zero, List.getElem_cons_succ, List.setIfInBounds_toArray, List.set_cons_zero, List.set_cons_succ])
        refine wpAnyH_done (by kernel_rfl) ?_ _
        have HRR9 := Lib.hid (range_below HRR.out (HB9.out.mono hb.out.size) hg)
        clear a0 a1 b0 b1
        go_wp2_with (first
          | (refine wpList_ldS rfl (.tmp 30) rfl g (o + k * 2) (by first | rfl | simp [Act.eval, Act.put]) (ex, ey) HRR9.out ?_)
          | (refine wpList_stB rt_sc rfl (.tmp 5) (.tmp 31) rfl q5 0 rfl (sco (x, y)) (sco (ex, ey)) rfl (sco_one _) rfl (hq5.out.step HB9.out) (Nat.le_refl 2) ?_; intro w10 k10 ho10 hs10; have K10 : Hid (Blk 61 w10 q5 (sco (ex, ey))) := Lib.hid k10; have Q10 := Lib.hid ((hq1.out.step HB9.out).oth ho10 (fun hm => HNE.out (List.mem_singleton.1 hm))); have B10 := Lib.hid ((bel_next hb.out HB9.out).trans (ho10.below (fun j hj => by rw [List.mem_singleton.1 hj]; exact HX5.out) (bel_next hb.out HB9.out).size)); clear k10 ho10 hs10))
        go_roundw
        case rel => exact ⟨k + 1, ex, ey, by omega, by omega, by go_num, Lib.hid (by rw [HTK.out]; exact HMN.out), K10, Q10, B10⟩
        case measure => simp [intOf]; omega
      | false =>
        have HMN := Lib.hid (min_old hmin.out hls)
        have hz0 : decide (z < 0) = false := hz.trans hls
        clear hls hz
        go_wp2_with fail
        refine wp_region_held_drew (S := fun w' => w'.cell? ⟨g, o + k * 2, none⟩ = some (.int .i64 ex) ∧ w'.cell? ⟨g, o + k * 2 + 1, none⟩ = some (.int .u64 ey) ∧ w'.cell? ⟨q5, 0, none⟩ = some (.int .i64 x) ∧ w'.cell? ⟨q5, 1, none⟩ = some (.int .u64 y)) (by kernel_rfl) ⟨a0, a1, b0, b1⟩ (fun hHeld => ?_)
        (try dsimp only at hHeld)
        refine wpAnyH_take (i := 0) (v := ?v0_1) rfl (by kernel_rfl) (by kernel_rfl) (by kernel_rfl) (fun _ _ _ h => h) (Or.inl ⟨by rfl, ?hy0_1⟩) hHeld ?_
        case hy0_1 => (intro w hSw; (try dsimp only at hSw); obtain ⟨e1, e2, e3, e4⟩ := hSw; (try simp only [List.getElem_toArray, List.getElem_cons_zero, List.getElem_cons_succ]); go_simp <;> with_reducible rfl)
        (try simp only [Act.put, List.getElem_toArray, List.getElem_cons_zero, List.getElem_cons_succ, List.setIfInBounds_toArray, List.set_cons_zero, List.set_cons_succ])
        refine wpAnyH_take (i := 1) (v := ?v1_2) rfl (by kernel_rfl) (by kernel_rfl) (by kernel_rfl) (fun _ _ _ h => h) (Or.inl ⟨by rfl, ?hy1_2⟩) hHeld ?_
        case hy1_2 => (intro w hSw; (try dsimp only at hSw); obtain ⟨e1, e2, e3, e4⟩ := hSw; (try simp only [List.getElem_toArray, List.getElem_cons_zero, List.getElem_cons_succ]); go_simp <;> with_reducible rfl)
        (try simp only [Act.put, List.getElem_toArray, List.getElem_cons_zero, List.getElem_cons_succ, List.setIfInBounds_toArray, List.set_cons_zero, List.set_cons_succ])
        refine wpAnyH_take (i := 2) (v := ?v2_3) rfl (by kernel_rfl) (by kernel_rfl) (by kernel_rfl) (fun _ _ _ h => h) (Or.inl ⟨by rfl, ?hy2_3⟩) hHeld ?_
        case hy2_3 => (intro w hSw; (try dsimp only at hSw); obtain ⟨e1, e2, e3, e4⟩ := hSw; (try simp only [List.getElem_toArray, List.getElem_cons_zero, List.getElem_cons_succ]); go_simp <;> with_reducible rfl)
        (try simp only [Act.put, List.getElem_toArray, List.getElem_cons_zero, List.getElem_cons_succ, List.setIfInBounds_toArray, List.set_cons_zero, List.set_cons_succ])
        refine wpAnyH_take (i := 3) (v := ?v3_4) rfl (by kernel_rfl) (by kernel_rfl) (by kernel_rfl) (fun _ _ _ h => h) (Or.inl ⟨by rfl, ?hy3_4⟩) hHeld ?_
        case hy3_4 => (intro w hSw; (try dsimp only at hSw); obtain ⟨e1, e2, e3, e4⟩ := hSw; (try simp only [List.getElem_toArray, List.getElem_cons_zero, List.getElem_cons_succ]); go_simp <;> with_reducible rfl)
        (try simp only [Act.put, List.getElem_toArray, List.getElem_cons_zero, List.getElem_cons_succ, List.setIfInBounds_toArray, List.set_cons_zero, List.set_cons_succ])
        refine wpAnyH_take (i := 4) (v := ?v4_5) rfl (by kernel_rfl) (by kernel_rfl) (by kernel_rfl) (fun _ _ _ h => h) (Or.inl ⟨by rfl, ?hy4_5⟩) hHeld ?_
        case hy4_5 => (intro w hSw; (try dsimp only at hSw); obtain ⟨e1, e2, e3, e4⟩ := hSw; (try simp only [List.getElem_toArray, List.getElem_cons_zero, List.getElem_cons_succ]); go_simp <;> with_reducible rfl)
        (try simp only [Act.put, List.getElem_toArray, List.getElem_cons_zero, List.getElem_cons_succ, List.setIfInBounds_toArray, List.set_cons_zero, List.set_cons_succ])
        refine wpAnyH_take (i := 5) (v := ?v5_6) rfl (by kernel_rfl) (by kernel_rfl) (by kernel_rfl) (fun _ _ _ h => h) (Or.inl ⟨by rfl, ?hy5_6⟩) hHeld ?_
        case hy5_6 => (intro w hSw; (try dsimp only at hSw); obtain ⟨e1, e2, e3, e4⟩ := hSw; (try simp only [List.getElem_toArray, List.getElem_cons_zero, List.getElem_cons_succ]); go_simp <;> with_reducible rfl)
        (try simp only [Act.put, List.getElem_toArray, List.getElem_cons_zero, List.getElem_cons_succ, List.setIfInBounds_toArray, List.set_cons_zero, List.set_cons_succ])
        refine wpAnyH_ready (rs := [6]) (by kernel_rfl) (by simp) ?_
        refine AllReadyH.cons rfl (fun K hK => ?_) AllReadyH.nil
        (try simp only [List.getElem_toArray, List.getElem_cons_zero, List.getElem_cons_succ])
        go_simp
        refine (HCM.out _).mono ?_
        rintro r w9 ⟨rfl, qq, os9, rfl⟩
        have hb9 := below_grow wr.drew qq os9
        have HB9 : Hid (Below wr.heap.size wr (Go.Sort.grow (wr.drew.drewN qq) os9)) := Lib.hid (bel_next ((Below.refl _ _).drew) hb9)
        have d0 := (HB9.out.cell (p := ⟨g, o + k * 2, none⟩) (Nat.lt_of_lt_of_le hg hb.out.size)).trans a0
        have d1 := (HB9.out.cell (p := ⟨g, o + k * 2 + 1, none⟩) (Nat.lt_of_lt_of_le hg hb.out.size)).trans a1
        have d2 := (HB9.out.cell (p := ⟨q5, 0, none⟩) hq5.out.lt).trans b0
        have d3 := (HB9.out.cell (p := ⟨q5, 1, none⟩) hq5.out.lt).trans b1
        clear hb9
        generalize Go.Sort.grow (wr.drew.drewN qq) os9 = w9 at HB9 d0 d1 d2 d3 ⊢
        refine hK.out _ _ ⟨d0, d1, d2, d3⟩ (fun hHeld => ?_)
        clear hK K
        (try simp only [Act.put, List.getElem_toArray, List.getElem_cons_zero, List.getElem_cons_succ, List.setIfInBounds_toArray, List.set_cons_zero, List.set_cons_succ])
        refine wpAnyH_ready (rs := [7]) (by kernel_rfl) (by simp) ?_
        refine AllReadyH.cons rfl (fun K hK => ?_) AllReadyH.nil
        (try simp only [List.getElem_toArray, List.getElem_cons_zero, List.getElem_cons_succ])
        go_simp
        refine hK.out _ _ ⟨d0, d1, d2, d3⟩ (fun hHeld => ?_)
        clear hK K
        (try simp only [Act.put, List.getElem_toArray, List.getElem_cons_zero, List.getElem_cons_succ, List.setIfInBounds_toArray, List.set_cons_zero, List.set_cons_succ])
        refine wpAnyH_done (by kernel_rfl) ?_ _
        clear a0 a1 b0 b1
        go_wp2_with fail
        go_roundw
        case rel => exact ⟨k + 1, x, y, by omega, by omega, by go_num, Lib.hid (by rw [HTK.out]; exact HMN.out), Lib.hid (hq5.out.step HB9.out), Lib.hid (hq1.out.step HB9.out), Lib.hid (bel_next hb.out HB9.out)⟩
        case measure => simp [intOf]; omega
    · obtain rfl : k = n := by omega
      have HM := hmin.out
      rw [List.take_of_length_le (by have := HL.out; omega)] at HM
      have HM := Lib.hid HM
      go_wp2_with (first
        | (refine wpList_ldS rfl (.tmp 5) rfl q5 0 (by first | rfl | simp [Act.eval, Act.put]) (x, y) (by exact Blk.range hq5.out 0 2) ?_)
        | (refine wpList_stB rt_sc rfl (.tmp 4) (.tmp 32) rfl q1 0 rfl [.int .i64 0, .int .u64 0] (sco (x, y)) rfl (sco_one _) rfl hq1.out (by decide) ?_; intro w10 k10 ho10 hs10; have K10 : Hid (Blk 61 w10 q1 (sco (x, y))) := Lib.hid k10; have B10 := Lib.hid (hb.out.trans (ho10.below (fun j hj => by rw [List.mem_singleton.1 hj]; exact X1.out) hb.out.size)); clear k10 ho10 hs10))
      refine bodyPost_ret (v := .agg #[.int .i64 x, .int .u64 y]) (res_rec rt_sc rfl _ _ q1 (sco (x, y)) rfl K10.out rfl) rfl ⟨x, y, rfl, HM.out, B10.out⟩
end Go.Proofs.Ytocbdgkehgmahaa
