/- RankFew's walk: an entry more changes the first one to itself, or not at all; a greater weight never takes the first place away. -/
import Derived.Test.YtocbdgkehgmahaaRankSumsW
import Derived.Test.YtocbdgkehgmahaaRkE
import Derived.Test.YtocbdgkehgmahaaRkX
import Derived.RegionTactic
import Derived.Deep.RegionLaw
namespace Go.Proofs.Ytocbdgkehgmahaa
open Go.RowKit Go.Maps
set_option linter.unusedVariables false
set_option linter.unusedSimpArgs false
attribute [local irreducible] mixF scF scE scA okE tabE bestT ordA ordT leftT fK cK greatB nzN sumN unlB
set_option maxRecDepth 100000 in
set_option maxHeartbeats 4000000 in
theorem few_in (s : Nat) (A : Option Addr) (n c : Nat) (l : List UInt8) (Ae : Option Addr) (ne ce : Nat) (es : List (Int × Int)) (k i m0 m1 : Nat) (w : World) (hs : s < 18446744073709551616) (h1 : RB w w.heap.size A n l) (he : EL w w.heap.size Ae ne es)
    (hn : n ≤ maxLen) (hg : greatB [l] ne = false) (hne : ne ≤ 80) (hce : ne ≤ ce) (hu : unlP es) (hk : k < ne) (hek : es[k]? = some ((i : Int), (m0 : Int))) (hm : m0 ≤ m1) (hm1 : m1 ≤ 16) :
    Calls Try.prog 4 #[.int .u64 (s : Int), .slice A n c, .slice Ae ne ce, .int .i64 (k : Int), .int .i64 (m1 : Int)] w fun e w' => e = .returned (.bool true) ∧ Below w.heap.size w w' := by
  obtain ⟨p, r, f1, f2, f3, f4, f5, f6, f7⟩ := few_facts s l es k i m0 m1 hu hek hm hm1
  have HL : Hid (l.length = n) := Lib.hid h1.len
  have HLE : Hid (es.length = ne) := Lib.hid he.len
  have HR := Lib.hid h1
  have HE := Lib.hid he
  have GR := Lib.hid (fun W A2 c2 hW => great_any A2 1 c2 [l] Ae ne ce W hW (by decide) (by intro q hq; rw [List.mem_singleton.1 hq, HL.out]; exact hn) (by unfold maxLen; omega))
  rw [hg] at GR
  have UN := Lib.hid (fun W hW => unlike_any Ae ne ce es W hW (by omega))
  rw [unlB_yes hu] at UN
  have F1 := Lib.hid (fun W hW hE => first_any s A n c l Ae ne ce es W hs hW hn hE (by omega))
  rw [(first_val f1).1, (first_val f1).2] at F1
  obtain ⟨n2, HN2⟩ : ∃ n2, Hid (n2 = ne - 1) := ⟨_, Lib.hid rfl⟩
  have hn2 : n2 ≤ 80 := by rw [HN2.out]; omega
  obtain ⟨es2, HE2⟩ : ∃ es2, Hid (es2 = es.take k ++ es.drop (k + 1)) := ⟨_, Lib.hid rfl⟩
  have HL2 : Hid (es2.length = n2) := Lib.hid (by rw [HN2.out, HE2.out, List.length_append, List.length_take, List.length_drop, HLE.out]; omega)
  have F2 := Lib.hid (fun W A2 c2 hW hE => first_any s A n c l A2 n2 c2 es2 W hs hW hn hE (by omega))
  rw [← HE2.out] at f3 f4
  obtain ⟨q2, HQ⟩ : ∃ q2, Hid (q2 = fstA (tabE (scE s l) es2)) := ⟨_, Lib.hid rfl⟩
  obtain ⟨b2, HB⟩ : ∃ b2, Hid (b2 = fstB (tabE (scE s l) es2)) := ⟨_, Lib.hid rfl⟩
  rw [← HQ.out, ← HB.out] at F2
  have hb2 : b2 = decide (0 < (n2 : Int)) := by
    rw [HB.out, first_is, f3, HL2.out]
    by_cases h0 : 0 < n2
    · rw [decide_eq_true h0, decide_eq_true (by omega)]
    · rw [decide_eq_false h0, decide_eq_false (by omega)]
  rw [hb2] at F2
  clear hb2
  have hq2 : p ≠ i → q2 = p := fun h => by
    rw [HQ.out, (first_val (f4 h)).1]
  have F3 := Lib.hid (fun W A2 c2 hW hE => first_any s A n c l A2 ne c2 (es.set k ((i : Int), (m1 : Int))) W hs hW hn hE (by omega))
  rw [(first_val f5).1, (first_val f5).2] at F3
  obtain ⟨b, o, e0, rfl, hbb, hee, _, _, _, c0w, c1w⟩ := he.at_ hk
  rw [hek] at hee
  injection hee with hee
  subst hee
  simp only at c0w c1w
  have hq1 := cutE_h (some ⟨b, o, none⟩) ne ce k (by omega)
  have hq3 : ∀ W : World, (Instr.slice 26 (.slice (some ⟨b, o, none⟩) ne ce) (some (.int .i64 ((k : Int) + 1))) none none).run Try.prog W = .ok (.slice (cutE (some ⟨b, o, none⟩) ce (k + 1)) (ne - (k + 1)) (ce - (k + 1))) W := cutE_l (some ⟨b, o, none⟩) ne ce (k + 1) (by omega)
  have HEK := Lib.hid hek
  clear f1 f3 f4 f5 h1 he hu hg hek
  have g1 : ¬ (k : Int) < 0 := by omega
  have g5 : k < 80 := by omega
  have g2 : ¬ (ne : Int) ≤ (k : Int) := by omega
  have g3 : ¬ (m1 : Int) < (m0 : Int) := by omega
  have g4 : ¬ 16 < (m1 : Int) := by omega
  go_enter Try.func4, Try.ntmps4
  go_wp2_with fail
  refine (alive_any _).mono ?_
  rintro x w1 ⟨rfl, hb⟩
  have HB1 := Lib.hid hb
  clear hb
  go_wp2_with fail
  refine (GR.out _ _ _ (by exact RR.lit w1 [(A, c, l)] _ _ 1 _ (by simp only [List.map_cons, List.map_nil, HL.out]) rfl rfl (by
    intro q hq
    rw [List.mem_singleton.1 hq, HL.out]
    exact HR.out.step HB1.out))).mono ?_
  rintro x w2 ⟨rfl, hw2⟩
  have HB2 : Hid (Below w.heap.size w w2) := Lib.hid (by rw [← hw2]; exact bel_next HB1.out (below_alloc _ _))
  clear hw2
  go_wp2_with fail
  refine (UN.out _ (by exact HE.out.step HB2.out)).mono ?_
  rintro x w3 ⟨rfl, hb⟩
  have HB3 := Lib.hid (bel_next HB2.out hb)
  have c0 := (HB3.out.cell (p := ⟨b, o + k * 2, none⟩) hbb).trans c0w
  have c1 := (HB3.out.cell (p := ⟨b, o + k * 2 + 1, none⟩) hbb).trans c1w
  clear hb
  go_wp2_with fail
  refine (F1.out _ (by exact HR.out.step HB3.out) (by exact HE.out.step HB3.out)).mono ?_
  rintro x w4 ⟨rfl, hb⟩
  have HB4 := Lib.hid (bel_next HB3.out hb)
  clear hb c0 c1
  go_wp2_with fail
  have E1 := (HE.out.step HB4.out).front (Nat.le_of_lt hk)
  have E2 := (HE.out.step HB4.out).back (i := k + 1) hk hce
  have E1H := Lib.hid E1
  have E2H := Lib.hid E2
  clear E1 E2
  have X4 : 0 + k ≤ 1000000 := by omega
  have X6 : k + (ne - (k + 1)) ≤ 1000000 := by omega
  have hwr : IntKind.i64.wrap ((k : Int) + 1) = (k : Int) + 1 := by rw [IntKind.wrap_i64]; omega
  go_region_law (first
    | (refine step_appE gt_rk rfl (.tmp 60) (.tmp 63) rfl w4.heap.size _ _ _ [] rfl (by exact (OwnE.lit0 _ w4 _ _ rfl (Nat.le_refl _)).drew) w4.heap.size _ k _ (es.take k) rfl (by exact (E1H.out.below (below_alloc _ _)).drew) (by simp) X4 (by decide) (by simp) ?_
       intro A6 c6 w6 ho6 hb6
       rw [Nat.zero_add] at ho6
       have HO6 : Hid (OwnE 25 w6 w4.heap.size A6 k c6 (es.take k)) := Lib.hid ho6
       have B6 : Hid (Below w4.heap.size w4 w6) := Lib.hid (((below_alloc w4 _).drew).trans hb6)
       have Z6 := B6.out.size
       clear ho6 hb6)
    | (refine step_appE gt_rk rfl (.tmp 64) (.tmp 68) rfl w4.heap.size _ _ _ (es.take k) rfl (by exact HO6.out) w4.heap.size _ (ne - (k + 1)) _ (es.drop (k + 1)) rfl (by exact E2H.out.below B6.out) Z6 X6 (by decide) Z6 ?_
       intro A7 c7 w7 ho7 hb7
       have HO7 := Lib.hid ho7
       have B7 : Hid (Below w4.heap.size w4 w7) := Lib.hid (B6.out.trans hb7)
       clear ho7 hb7))
  clear hwr X4 X6
  have hlen : k + (ne - (k + 1)) = n2 := by rw [HN2.out]; omega
  rw [hlen] at HO7 ⊢
  rw [← HE2.out] at HO7
  clear hlen
  have HB7 := Lib.hid (bel_next HB4.out B7.out)
  have hdn : decide (0 < (n2 : Int)) = decide (0 < (n2 : Int)) := rfl
  clear hdn
  go_wp2_with fail
  refine (F2.out _ _ _ (by exact HR.out.step HB7.out) (by exact HO7.out.el)).mono ?_
  rintro x w8 ⟨rfl, hb⟩
  have HB8 := Lib.hid (bel_next HB7.out hb)
  have c0 := (HB8.out.cell (p := ⟨b, o + k * 2, none⟩) hbb).trans c0w
  clear hb
  obtain ⟨d2, hd2⟩ : ∃ d2, decide (0 < (n2 : Int)) = d2 := ⟨_, rfl⟩
  rw [hd2]
  have hd3 : decide (0 < n2) = d2 := by
    rw [← hd2]
    by_cases h0 : 0 < n2
    · rw [decide_eq_true h0, decide_eq_true (by omega)]
    · rw [decide_eq_false h0, decide_eq_false (by omega)]
  have HBA := HB8.out.size
  obtain ⟨t, ht⟩ : ∃ t, ((p : Int) != (i : Int)) = t := ⟨_, rfl⟩
  obtain ⟨u, hu1⟩ : ∃ u, ((q2 : Int) != (p : Int)) = u := ⟨_, rfl⟩
  obtain ⟨v, hv1⟩ : ∃ v, ((r : Int) == (p : Int)) = v := ⟨_, rfl⟩
  obtain ⟨x, hx1⟩ : ∃ x, ((r : Int) == (i : Int)) = x := ⟨_, rfl⟩
  have htu : t = true → u = false := fun h => by
    rw [← ht, bne_iff_ne] at h
    rw [← hu1, hq2 (fun e => h (by rw [e]))]
    simp
  have hvx : v = true ∨ x = true := by
    rcases f6 with h | h
    · left; rw [← hv1, h]; simp
    · right; rw [← hx1, h]; simp
  clear hq2 f6
  rcases t with _ | _ <;> rcases u with _ | _ <;> rcases v with _ | _ <;> rcases x with _ | _
  all_goals first | (exfalso; simp at htu; done) | (exfalso; simp at hvx; done) | skip
  all_goals (
    clear htu hvx
    go_wp2_with (first
      | (at_builtin; refine wpList_appE gt_rk rfl (.tmp 100) (.tmp 101) rfl w8.heap.size _ _ _ [] rfl (by exact OwnE.lit0 _ w8 _ _ rfl (Nat.le_refl _)) w8.heap.size _ ne _ es rfl (by exact (HE.out.step HB8.out).below (below_alloc _ _)) (by simp) (by omega) (by decide) (by simp) ?_
         intro A9 c9 w9 ho9 hb9
         rw [Nat.zero_add] at ho9
         obtain ⟨g9, rfl, hg9, _⟩ := OwnE.form ho9 (by omega)
         have HO9 : Hid (OwnE 25 w9 w8.heap.size (some ⟨g9, 0, none⟩) ne c9 es) := Lib.hid ho9
         have HB9 := Lib.hid (HB8.out.trans (((below_alloc w8 _).mono HBA).trans (hb9.mono HBA)))
         have HG9 := Lib.hid hg9
         have ch := (OwnE.cell1 HO9.out HEK.out).1
         have fh := (OwnE.cell1 HO9.out HEK.out).2
         clear ho9 hb9 hg9))
    have HOS := Lib.hid (OwnE.setW HO9.out HEK.out (z := (m1 : Int)) (by unfold I64e; omega))
    have HBS := Lib.hid (HB9.out.setCell (p := ⟨g9, k * 2 + 1, none⟩) (Nat.le_trans HBA HG9.out) (.int .i64 (m1 : Int)))
    refine (F3.out _ _ _ (by exact HR.out.step HBS.out) (by exact HOS.out.el)).mono ?_
    rintro y w10 ⟨rfl, hb⟩
    have HB10 := Lib.hid (bel_next HBS.out hb)
    have c0 := (HB10.out.cell (p := ⟨b, o + k * 2, none⟩) hbb).trans c0w
    clear hb
    go_wp2_with fail
    go_ret
    exact ⟨rfl, HB10.out⟩)
set_option maxRecDepth 100000 in
set_option maxHeartbeats 4000000 in
theorem RankFew_walk (x0 : Int) (A1 : Option Addr) (n1 c1 : Nat) (l1 : List UInt8) (A2 : Option Addr) (n2 c2 : Nat) (l2 : List (Int × Int)) (x3 : Int) (x4 : Int) (w : World) (h0 : (Lit.int .u64 x0).wf = true) (h1 : RB w w.heap.size A1 n1 l1) (m1 : n1 ≤ c1 ∧ c1 ≤ maxLen) (h2 : EL w w.heap.size A2 n2 l2) (m2 : n2 ≤ c2 ∧ c2 ≤ maxLen) (h3 : (Lit.int .i64 x3).wf = true) (h4 : (Lit.int .i64 x4).wf = true) :
    Calls Try.prog 4 #[.int .u64 x0, .slice A1 n1 c1, .slice A2 n2 c2, .int .i64 x3, .int .i64 x4] w fun e w' => e = .returned (.bool true) ∧ Below w.heap.size w w' := by
  obtain ⟨s, rfl, hs⟩ := u64_natE h0
  have r3 := bounds_i64 h3
  have r4 := bounds_i64 h4
  have hm1 : n1 ≤ maxLen := Nat.le_trans m1.1 m1.2
  have hm2 : n2 ≤ maxLen := Nat.le_trans m2.1 m2.2
  have HL : Hid (l1.length = n1) := Lib.hid h1.len
  have GR := Lib.hid (fun W A c hW => great_any A 1 c [l1] A2 n2 c2 W hW (by decide) (by intro q hq; rw [List.mem_singleton.1 hq, HL.out]; exact hm1) hm2)
  have HR := Lib.hid h1
  have HE := Lib.hid h2
  obtain ⟨t, ht⟩ : ∃ t, greatB [l1] n2 = t := ⟨_, rfl⟩
  rcases t with _ | _
  · have hg := great_in ht
    have UN := Lib.hid (fun W hW => unlike_any A2 n2 c2 l2 W hW (by omega))
    obtain ⟨u, hu⟩ : ∃ u, unlB l2 = u := ⟨_, rfl⟩
    rw [hu] at UN
    rcases u with _ | _
    · rw [ht] at GR
      clear h1 h2 h0 h3 h4 ht hu
      go_enter Try.func4, Try.ntmps4
      go_wp2_with fail
      refine (alive_any _).mono ?_
      rintro x w1 ⟨rfl, hb⟩
      have HB1 := Lib.hid hb
      clear hb
      go_wp2_with fail
      refine (GR.out _ _ _ (by exact RR.lit w1 [(A1, c1, l1)] _ _ 1 _ (by simp only [List.map_cons, List.map_nil, HL.out]) rfl rfl (by
        intro q hq
        rw [List.mem_singleton.1 hq, HL.out]
        exact HR.out.step HB1.out))).mono ?_
      rintro x w2 ⟨rfl, hw2⟩
      have HB2 : Hid (Below w.heap.size w w2) := Lib.hid (by rw [← hw2]; exact bel_next HB1.out (below_alloc _ _))
      clear hw2
      go_wp2_with fail
      refine (UN.out _ (by exact HE.out.step HB2.out)).mono ?_
      rintro x w3 ⟨rfl, hb⟩
      have HB3 := Lib.hid (bel_next HB2.out hb)
      clear hb
      go_wp2_with fail
      go_ret
      exact ⟨rfl, HB3.out⟩
    · have hun := unlB_iff.1 hu
      have hn80 : n2 ≤ 80 := hg.1
      by_cases a1 : x3 < 0
      · rw [ht] at GR
        clear h1 h2 h0 h3 h4 ht hu
        go_enter Try.func4, Try.ntmps4
        go_wp2_with fail
        refine (alive_any _).mono ?_
        rintro x w1 ⟨rfl, hb⟩
        have HB1 := Lib.hid hb
        clear hb
        go_wp2_with fail
        refine (GR.out _ _ _ (by exact RR.lit w1 [(A1, c1, l1)] _ _ 1 _ (by simp only [List.map_cons, List.map_nil, HL.out]) rfl rfl (by
          intro q hq
          rw [List.mem_singleton.1 hq, HL.out]
          exact HR.out.step HB1.out))).mono ?_
        rintro x w2 ⟨rfl, hw2⟩
        have HB2 : Hid (Below w.heap.size w w2) := Lib.hid (by rw [← hw2]; exact bel_next HB1.out (below_alloc _ _))
        clear hw2
        go_wp2_with fail
        refine (UN.out _ (by exact HE.out.step HB2.out)).mono ?_
        rintro x w3 ⟨rfl, hb⟩
        have HB3 := Lib.hid (bel_next HB2.out hb)
        clear hb
        go_wp2_with fail
        go_ret
        exact ⟨rfl, HB3.out⟩
      by_cases a2 : (n2 : Int) ≤ x3
      · rw [ht] at GR
        clear h1 h2 h0 h3 h4 ht hu
        go_enter Try.func4, Try.ntmps4
        go_wp2_with fail
        refine (alive_any _).mono ?_
        rintro x w1 ⟨rfl, hb⟩
        have HB1 := Lib.hid hb
        clear hb
        go_wp2_with fail
        refine (GR.out _ _ _ (by exact RR.lit w1 [(A1, c1, l1)] _ _ 1 _ (by simp only [List.map_cons, List.map_nil, HL.out]) rfl rfl (by
          intro q hq
          rw [List.mem_singleton.1 hq, HL.out]
          exact HR.out.step HB1.out))).mono ?_
        rintro x w2 ⟨rfl, hw2⟩
        have HB2 : Hid (Below w.heap.size w w2) := Lib.hid (by rw [← hw2]; exact bel_next HB1.out (below_alloc _ _))
        clear hw2
        go_wp2_with fail
        refine (UN.out _ (by exact HE.out.step HB2.out)).mono ?_
        rintro x w3 ⟨rfl, hb⟩
        have HB3 := Lib.hid (bel_next HB2.out hb)
        clear hb
        go_wp2_with fail
        go_ret
        exact ⟨rfl, HB3.out⟩
      obtain ⟨k, rfl⟩ := Int.eq_ofNat_of_zero_le (show 0 ≤ x3 by omega)
      have hk : k < n2 := by omega
      obtain ⟨b, o, e, rfl, hbb, hek, hi1, hi2, _, c0w, c1w⟩ := h2.at_ hk
      obtain ⟨x, y⟩ := e
      simp only at c0w c1w hi1 hi2
      have hok := hun.1 _ (List.mem_of_getElem? hek)
      have hoi := (okE_iff _).1 hok
      simp only at hoi
      by_cases a3 : x4 < y
      · rw [ht] at GR
        clear h1 h2 h0 h3 h4 ht hu
        go_enter Try.func4, Try.ntmps4
        go_wp2_with fail
        refine (alive_any _).mono ?_
        rintro x w1 ⟨rfl, hb⟩
        have HB1 := Lib.hid hb
        clear hb
        go_wp2_with fail
        refine (GR.out _ _ _ (by exact RR.lit w1 [(A1, c1, l1)] _ _ 1 _ (by simp only [List.map_cons, List.map_nil, HL.out]) rfl rfl (by
          intro q hq
          rw [List.mem_singleton.1 hq, HL.out]
          exact HR.out.step HB1.out))).mono ?_
        rintro x w2 ⟨rfl, hw2⟩
        have HB2 : Hid (Below w.heap.size w w2) := Lib.hid (by rw [← hw2]; exact bel_next HB1.out (below_alloc _ _))
        clear hw2
        go_wp2_with fail
        refine (UN.out _ (by exact HE.out.step HB2.out)).mono ?_
        rintro x w3 ⟨rfl, hb⟩
        have HB3 := Lib.hid (bel_next HB2.out hb)
        clear hb
        have c0 := (HB3.out.cell (p := ⟨b, o + k * 2, none⟩) hbb).trans c0w
        have d1 := (HB3.out.cell (p := ⟨b, o + k * 2 + 1, none⟩) hbb).trans c1w
        go_wp2_with fail
        go_ret
        exact ⟨rfl, HB3.out⟩
      by_cases a4 : 16 < x4
      · rw [ht] at GR
        clear h1 h2 h0 h3 h4 ht hu
        go_enter Try.func4, Try.ntmps4
        go_wp2_with fail
        refine (alive_any _).mono ?_
        rintro x w1 ⟨rfl, hb⟩
        have HB1 := Lib.hid hb
        clear hb
        go_wp2_with fail
        refine (GR.out _ _ _ (by exact RR.lit w1 [(A1, c1, l1)] _ _ 1 _ (by simp only [List.map_cons, List.map_nil, HL.out]) rfl rfl (by
          intro q hq
          rw [List.mem_singleton.1 hq, HL.out]
          exact HR.out.step HB1.out))).mono ?_
        rintro x w2 ⟨rfl, hw2⟩
        have HB2 : Hid (Below w.heap.size w w2) := Lib.hid (by rw [← hw2]; exact bel_next HB1.out (below_alloc _ _))
        clear hw2
        go_wp2_with fail
        refine (UN.out _ (by exact HE.out.step HB2.out)).mono ?_
        rintro x w3 ⟨rfl, hb⟩
        have HB3 := Lib.hid (bel_next HB2.out hb)
        clear hb
        have c0 := (HB3.out.cell (p := ⟨b, o + k * 2, none⟩) hbb).trans c0w
        have d1 := (HB3.out.cell (p := ⟨b, o + k * 2 + 1, none⟩) hbb).trans c1w
        go_wp2_with fail
        go_ret
        exact ⟨rfl, HB3.out⟩
      obtain ⟨i, rfl⟩ := Int.eq_ofNat_of_zero_le hoi.1
      obtain ⟨m, rfl⟩ := Int.eq_ofNat_of_zero_le (show 0 ≤ y by omega)
      obtain ⟨m', rfl⟩ := Int.eq_ofNat_of_zero_le (show 0 ≤ x4 by omega)
      exact few_in s A1 n1 c1 l1 _ n2 c2 l2 k i m m' w hs h1 h2 hm1 ht hg.1 m2.1 hun hk hek (by omega) (by omega)
  · rw [ht] at GR
    clear h1 h2 h0 h3 h4 ht
    go_enter Try.func4, Try.ntmps4
    go_wp2_with fail
    refine (alive_any _).mono ?_
    rintro x w1 ⟨rfl, hb⟩
    have HB1 := Lib.hid hb
    clear hb
    go_wp2_with fail
    refine (GR.out _ _ _ (by exact RR.lit w1 [(A1, c1, l1)] _ _ 1 _ (by simp only [List.map_cons, List.map_nil, HL.out]) rfl rfl (by
      intro q hq
      rw [List.mem_singleton.1 hq, HL.out]
      exact HR.out.step HB1.out))).mono ?_
    rintro x w2 ⟨rfl, hw2⟩
    have HB2 : Hid (Below w.heap.size w w2) := Lib.hid (by rw [← hw2]; exact bel_next HB1.out (below_alloc _ _))
    clear hw2
    go_wp2_with fail
    go_ret
    exact ⟨rfl, HB2.out⟩
end Go.Proofs.Ytocbdgkehgmahaa
