/- RankTurns' walk: the order of the list makes no difference; all are ranked, each once, and the first ones stand ahead. -/
import Derived.Test.YtocbdgkehgmahaaRankFewW
namespace Go.Proofs.Ytocbdgkehgmahaa
open Go.RowKit Go.Maps
set_option linter.unusedVariables false
set_option linter.unusedSimpArgs false
/-- An entry's weight. -/
def wtE (e : Int × Int) : Nat := e.2.toNat
/-- What a place of the order is told of. -/
theorem turn_at {s : Nat} {key : List UInt8} {es : List (Int × Int)} {k x : Nat} (hu : unlP es) (h : (ordA (tabE (scE s key) es))[k]? = some x) :
    x < 64 ∧ ¬ x ∈ (ordA (tabE (scE s key) es)).take k ∧ ∃ m : Nat, tabE wtE es x = some m ∧ 1 ≤ m ∧ m ≤ 16 ∧ okE ((x : Int), (m : Int)) = true ∧ tabE (scE s key) es x = some (scA s key ((x : Int), (m : Int))) := by
  obtain ⟨h1, ⟨t, h2⟩, h3, _⟩ := ord_at h
  obtain ⟨e, q1, q2, q3, q4⟩ := tab_mem h2
  have hok := (okE_iff e).1 q2
  have he : e = ((x : Int), ((wtE e : Nat) : Int)) := by
    obtain ⟨a, b⟩ := e
    simp only at q3 hok
    unfold wtE
    simp only [q3]
    congr 1
    omega
  have hw : 1 ≤ wtE e ∧ wtE e ≤ 16 := by unfold wtE; omega
  refine ⟨h1, h3, wtE e, tab_unl hu q1 q3, hw.1, hw.2, by rw [← he]; exact q2, ?_⟩
  rw [← he, scA_ok s key e q2, h2, q4]
/-- The score ahead of a place. -/
def lastF (T : Nat → Option Nat) (k : Nat) : Nat := match k with | 0 => 18446744073709551615 | k + 1 => (((ordA T)[k]?).bind T).getD 0
theorem last_0 (T : Nat → Option Nat) : 18446744073709551615 = lastF T 0 := rfl
theorem last_at {T : Nat → Option Nat} {k x t : Nat} (h : (ordA T)[k]? = some x) (ht : T x = some t) : lastF T (k + 1) = t := by
  show (((ordA T)[k]?).bind T).getD 0 = t
  rw [h]
  show (T x).getD 0 = t
  rw [ht]
  rfl
theorem last_le {T : Nat → Option Nat} {k x t : Nat} (h : (ordA T)[k]? = some x) (ht : T x = some t) (hlt : t < 18446744073709551616) : t ≤ lastF T k := by
  cases k with
  | zero => exact Nat.le_of_lt_succ hlt
  | succ k =>
    have hl : k < (ordA T).length := by have := (List.getElem?_eq_some_iff.1 h).1; omega
    obtain ⟨y, hy⟩ : ∃ y, (ordA T)[k]? = some y := ⟨_, List.getElem?_eq_getElem hl⟩
    obtain ⟨_, ⟨u, hu⟩, _, _⟩ := ord_at hy
    rw [last_at hy hu]
    exact ord_down hy h hu ht
/-- Weights that are left. -/
def leftW (O : List Nat) (D : Nat → Option Nat) (k j : Nat) : Option Nat := if j ∈ O.take k then none else D j
theorem leftW_0 (O : List Nat) (D : Nat → Option Nat) : leftW O D 0 = D := by
  funext j
  unfold leftW
  rw [List.take_zero, if_neg (by simp)]
theorem leftW_succ {O : List Nat} {D : Nat → Option Nat} {k x : Nat} (h : O[k]? = some x) (j : Nat) : leftW O D (k + 1) j = if j = x then none else leftW O D k j := by
  unfold leftW
  rw [List.take_add_one, h]
  show (if j ∈ O.take k ++ [x] then none else D j) = _
  by_cases hj : j = x
  · subst hj
    rw [if_pos (by simp), if_pos rfl]
  · rw [if_neg hj]
    by_cases hm : j ∈ O.take k
    · rw [if_pos hm, if_pos (List.mem_append_left _ hm)]
    · rw [if_neg hm, if_neg (fun h => by
        rcases List.mem_append.1 h with h | h
        · exact hm h
        · exact hj (List.mem_singleton.1 h))]
def Fw (D : Nat → Option Nat) (j : Nat) : Value := .int .i64 (((D j).getD 0 : Nat) : Int)
theorem intsN_at {O : List Nat} {k : Nat} {y : Int} {x : Nat} (h : (intsN O)[k]? = some y) (hx : O[k]? = some x) : y = (x : Int) := by
  unfold intsN at h
  rw [List.getElem?_map, hx] at h
  injection h with h
  exact h.symm
theorem wtE_nat (i m : Nat) : wtE ((i : Int), (m : Int)) = m := rfl
theorem tab_new {f : Int × Int → Nat} {l : List (Int × Int)} {k i : Nat} {e : Int × Int} (hu : unlP l) (he : l[k]? = some e) (hi : e.1 = (i : Int)) : tabE f (l.take k) i = none := by
  have h := (unl_snoc e).1 (unl_prefix hu he)
  cases ht : tabE f (l.take k) i with
  | none => rfl
  | some t =>
    obtain ⟨x, h1, _, h3, _⟩ := tab_mem ht
    exact absurd (by rw [h3, hi]) (h.2.2 x h1)
theorem fw_nil : i0 = Fw (tabE wtE []) := rfl
attribute [local irreducible] mixF scF scE scA okE tabE bestT ordA ordT leftT fK cK greatB nzN sumN unlB leftW lastF
set_option maxRecDepth 100000 in
set_option maxHeartbeats 4000000 in
theorem turns_in (s : Nat) (A : Option Addr) (n c : Nat) (l : List UInt8) (Ae : Option Addr) (ne ce : Nat) (es : List (Int × Int)) (k : Nat) (w : World) (hs : s < 18446744073709551616) (h1 : RB w w.heap.size A n l) (he : EL w w.heap.size Ae ne es)
    (hn : n ≤ maxLen) (hg : greatB [l] ne = false) (hne : ne ≤ 80) (hce : ne ≤ ce) (hu : unlP es) (hk : k ≤ ne) :
    Calls Try.prog 5 #[.int .u64 (s : Int), .slice A n c, .slice Ae ne ce, .int .i64 (k : Int)] w fun e w' => e = .returned (.bool true) ∧ Below w.heap.size w w' := by
  have HL : Hid (l.length = n) := Lib.hid h1.len
  have HLE : Hid (es.length = ne) := Lib.hid he.len
  have HR := Lib.hid h1
  have HE := Lib.hid he
  have GR := Lib.hid (fun W A2 c2 hW => great_any A2 1 c2 [l] Ae ne ce W hW (by decide) (by intro q hq; rw [List.mem_singleton.1 hq, HL.out]; exact hn) (by unfold maxLen; omega))
  rw [hg] at GR
  have UN := Lib.hid (fun W hW => unlike_any Ae ne ce es W hW (by omega))
  rw [unlB_yes hu] at UN
  obtain ⟨T, HT⟩ : ∃ T, Hid (T = tabE (scE s l) es) := ⟨_, Lib.hid rfl⟩
  obtain ⟨O, HO⟩ : ∃ O, Hid (O = ordA T) := ⟨_, Lib.hid rfl⟩
  have HOL : Hid (O.length = ne) := Lib.hid (by rw [HO.out, ordA_len, HT.out, tab_cnt hu, HLE.out])
  have OR := Lib.hid (fun W A2 c2 hW hE => order_any s A n c l A2 ne c2 es W hs hW hn hE (by omega))
  rw [← HT.out, ← HO.out, HOL.out] at OR
  obtain ⟨es2, HE2⟩ : ∃ es2, Hid (es2 = es.drop k ++ es.take k) := ⟨_, Lib.hid rfl⟩
  have OR2 := Lib.hid (fun W A2 c2 hW hE => order_any s A n c l A2 ne c2 es2 W hs hW hn hE (by omega))
  have HTT : Hid (tabE (scE s l) es2 = T) := Lib.hid (by rw [HE2.out, tab_turn hu, HT.out])
  rw [HTT.out, ← HO.out, HOL.out] at OR2
  have FI := Lib.hid (fun W hW hE => first_any s A n c l Ae ne ce es W hs hW hn hE (by omega))
  rw [← HT.out] at FI
  have HU := Lib.hid hu
  have hq1 := cutE_h Ae ne ce k (by omega)
  have hq3 := cutE_l Ae ne ce k hk
  have g1 : ¬ (k : Int) < 0 := by omega
  have g2 : ¬ (ne : Int) < (k : Int) := by omega
  have g5 : k ≤ 80 := by omega
  have X4 : 0 + (ne - k) ≤ 1000000 := by omega
  have X6 : ne - k + k ≤ 1000000 := by omega
  clear h1 he hg hu
  go_enter Try.func5, Try.ntmps5
  go_wp2_with fail
  refine (alive_any _).mono ?_
  rintro x w1 ⟨rfl, hb⟩
  have HB1 := Lib.hid hb
  clear hb
  go_wp2_with fail
  refine (GR.out _ _ _ (by exact RR.lit w1 [(A, c, l)] _ _ 1 _ (by simp only [List.map_cons, List.map_nil, HL.out]) rfl rfl (by
    intro q hq
    rw [List.mem_singleton.1 hq, HL.out]
    exact HR.out.step HB1.out))).mono ?_
  rintro x w2 ⟨rfl, hw2⟩
  have HB2 : Hid (Below w.heap.size w w2) := Lib.hid (by rw [← hw2]; exact bel_next HB1.out (below_alloc _ _))
  clear hw2
  go_wp2_with fail
  refine (UN.out _ (by exact HE.out.step HB2.out)).mono ?_
  rintro x w3 ⟨rfl, hb⟩
  have HB3 := Lib.hid (bel_next HB2.out hb)
  clear hb
  go_wp2_with fail
  refine (OR.out _ _ _ (by exact HR.out.step HB3.out) (by exact HE.out.step HB3.out)).mono ?_
  rintro x w4 ⟨Aa, ca, rfl, hoa, hb⟩
  have HB4 := Lib.hid (bel_next HB3.out hb)
  have HOA := Lib.hid hoa
  clear hb hoa
  go_wp2_with fail
  have E1H := Lib.hid ((HE.out.step HB4.out).back (i := k) hk hce)
  have E2H := Lib.hid ((HE.out.step HB4.out).front (i := k) hk)
  go_region_law (first
    | (refine step_appE gt_rk rfl (.tmp 46) (.tmp 49) rfl w4.heap.size _ _ _ [] rfl (by exact (OwnE.lit0 _ w4 _ _ rfl (Nat.le_refl _)).drew) w4.heap.size _ (ne - k) _ (es.drop k) rfl (by exact (E1H.out.below (below_alloc _ _)).drew) (by simp) X4 (by decide) (by simp) ?_
       intro A6 c6 w6 ho6 hb6
       rw [Nat.zero_add] at ho6
       have HO6 : Hid (OwnE 25 w6 w4.heap.size A6 (ne - k) c6 (es.drop k)) := Lib.hid ho6
       have B6 : Hid (Below w4.heap.size w4 w6) := Lib.hid (((below_alloc w4 _).drew).trans hb6)
       have Z6 := B6.out.size
       clear ho6 hb6)
    | (refine step_appE gt_rk rfl (.tmp 50) (.tmp 53) rfl w4.heap.size _ _ _ (es.drop k) rfl (by exact HO6.out) w4.heap.size _ k _ (es.take k) rfl (by exact E2H.out.below B6.out) Z6 X6 (by decide) Z6 ?_
       intro A7 c7 w7 ho7 hb7
       rw [← HE2.out, show ne - k + k = ne from Nat.sub_add_cancel hk] at ho7
       have HO7 := Lib.hid ho7
       have HB7 := Lib.hid (bel_next HB4.out (B6.out.trans hb7))
       have HOA7 := Lib.hid (HOA.out.below (B6.out.trans hb7))
       clear ho7 hb7
       rw [show ne - k + k = ne from Nat.sub_add_cancel hk])
    | (rw [if_pos (by simp [Region.wanted])]; go_simp; go_at_call 15; refine (OR2.out _ _ _ (by exact HR.out.step HB7.out) (by exact HO7.out.el)).mono ?_
       rintro x w8 ⟨Ab, cb, rfl, hob, hb⟩
       have HB8 := Lib.hid (bel_next HB7.out hb)
       have HOB8 := Lib.hid hob
       have HOA8 := Lib.hid (HOA7.out.below hb)
       clear hb hob))
  go_wp2_with fail
  refine (al_ints Aa Ab ne ca ne cb (intsN O) (intsN O) _ (by exact HOA8.out.zl) (by exact HOB8.out.zl) (by unfold maxLen; omega) (by unfold maxLen; omega) true (by simp)).mono ?_
  rintro x w9 ⟨rfl, hb⟩
  have HB9 := Lib.hid (bel_next HB8.out hb)
  have HZ9 := Lib.hid ((HOA8.out.below hb).zl)
  clear hb HOA8 HOB8 HOA7 HOA
  go_wp2_with (first
    | (refine wpList_bldZ bz_inta rfl rfl ?_; intro V1 HV1)
    | (refine wpList_newZ rt_inta rfl rfl ?_; intro w10 x11 k1 hb1 hx1; have K1 := Lib.hid k1; have B1 := Lib.hid hb1; have X1 := Lib.hid hx1; clear k1 hb1 hx1)
    | (refine wpList_stZ rt_inta i0_ones rfl (.tmp 11) (.tmp 67) rfl x11 rfl V1 rfl HV1 K1.out ?_; intro w12 k2 ho2 hs2; have K2 := Lib.hid k2; have B2 := Lib.hid (B1.out.trans (ho2.below (fun k hk => by rw [List.mem_singleton.1 hk]; exact X1.out) B1.out.size)); clear k2 ho2 hs2))
  have HB12 := Lib.hid (bel_next HB9.out B2.out)
  have HZ12 := Lib.hid (HZ9.out.step B2.out)
  have HSZ := HB9.out.size
  have HX1 := X1.out
  clear K1 B1
  go_loopw [12] (fun i wr => ∃ j : Nat, j ≤ ne ∧ i = .int .i64 j ∧ Hid (A64 29 wr x11 (Fw (tabE wtE (es.take j)))) ∧ Hid (Below w9.heap.size w9 wr)) (fun i _ => ne - (intOf i).toNat)
  case atStart => exact ⟨0, Nat.zero_le _, rfl, Lib.hid (by rw [List.take_zero, ← fw_nil]; exact K2.out), B2⟩
  case round =>
    obtain ⟨j, hj, rfl, hw, hb⟩ := hrel
    clear K2 B2
    have HBW := Lib.hid (bel_next HB9.out hb.out)
    by_cases hlt : j < ne
    · obtain ⟨b, o, e, rfl, hbb, hej, hi1, hi2, _, c0w, c1w⟩ := HE.out.at_ hlt
      obtain ⟨x, y⟩ := e
      have hok := HU.out.1 _ (List.mem_of_getElem? hej)
      have hoi := (okE_iff _).1 hok
      simp only at hoi c0w c1w hi1 hi2
      obtain ⟨i, rfl⟩ := Int.eq_ofNat_of_zero_le hoi.1
      obtain ⟨m, rfl⟩ := Int.eq_ofNat_of_zero_le (show 0 ≤ y by omega)
      have hi : i < 64 := by omega
      have HD : Hid (∀ q, tabE wtE (es.take (j + 1)) q = if q = i then some m else tabE wtE (es.take j) q) := Lib.hid (fun q => by
        rw [take_ent hej, tab_put hok rfl (tab_new HU.out hej rfl) q, wtE_nat])
      have c0 := (HBW.out.cell (p := ⟨b, o + j * 2, none⟩) hbb).trans c0w
      have c1 := (HBW.out.cell (p := ⟨b, o + j * 2 + 1, none⟩) hbb).trans c1w
      have ch := hw.out.cell hi
      have fh := hw.out.free i
      have HW2 : Hid (A64 29 (wr.setCell ⟨x11, i, none⟩ (.int .i64 (m : Int))) x11 (Fw (tabE wtE (es.take (j + 1))))) := Lib.hid ((hw.out.set i (.int .i64 (m : Int))).ext fun q _ => by
        unfold upF Fw
        rw [HD.out q]
        split <;> rfl)
      have HBN : Hid (Below w9.heap.size w9 (wr.setCell ⟨x11, i, none⟩ (.int .i64 (m : Int)))) := Lib.hid (hb.out.setCell HX1 _)
      clear hej c0w c1w hok hi1 hi2
      unfold Fw at ch
      go_wp2_with fail
      go_region
      all_goals
        go_wp2_with fail
        go_roundw
        case rel => exact ⟨j + 1, by omega, by go_num, HW2, Lib.hid HBN.out.drew⟩
        case measure => simp [intOf]; omega
    · obtain rfl : j = ne := by omega
      rw [List.take_of_length_le (by have := HLE.out; omega)] at hw
      obtain ⟨D, HD⟩ : ∃ D, Hid (D = tabE wtE es) := ⟨_, Lib.hid rfl⟩
      rw [← HD.out] at hw
      obtain ⟨wo, ewo⟩ : ∃ wo : World, wo = wr := ⟨_, rfl⟩
      subst ewo
      have hw0 : Hid (A64 29 wo x11 (Fw (leftW O D 0))) := Lib.hid (by rw [leftW_0]; exact hw.out)
      clear hw HBW HZ12 HB12
      go_wp2_with fail
      go_loopw [13, 14, 15, 16] (fun v i _ _ wr => ∃ p : Nat, p ≤ j ∧ i = .int .i64 p ∧ v = .int .u64 (lastF T p : Int) ∧ Hid (A64 29 wr x11 (Fw (leftW O D p))) ∧ Hid (Below w9.heap.size w9 wr)) (fun _ i _ _ _ => j - (intOf i).toNat)
      case atStart => exact ⟨0, Nat.zero_le _, rfl, congrArg (fun z : Nat => Value.int .u64 (z : Int)) (last_0 T), hw0, hb⟩
      case round =>
        obtain ⟨p, hp, rfl, rfl, hw, hb⟩ := hrel
        clear hw0
        have HBW := Lib.hid (bel_next HB9.out hb.out)
        by_cases hlt : p < j
        · obtain ⟨x, hx⟩ : ∃ x, O[p]? = some x := ⟨_, List.getElem?_eq_getElem (by rw [HOL.out]; exact hlt)⟩
          have hta := hx
          rw [HO.out, HT.out] at hta
          obtain ⟨hx64, hxn, m, hDm, hm1, hm2, hok, hTx⟩ := turn_at HU.out hta
          rw [← HT.out] at hTx hxn
          rw [← HO.out] at hxn
          rw [← HD.out] at hDm
          have hZ : scA s l ((x : Int), (m : Int)) < 18446744073709551616 := by rw [scA_ok s l _ hok]; exact scE_lt _ _ _
          have hxo : (ordA T)[p]? = some x := by rw [← HO.out]; exact hx
          have hle := last_le hxo hTx hZ
          have HLA := Lib.hid (last_at hxo hTx)
          have SC : ∀ W, RB W W.heap.size A n l → Calls Try.prog 9 #[.int .u64 (s : Int), .slice A n c, .agg #[.int .i64 (x : Int), .int .i64 (m : Int)]] W fun r w' => r = .returned (.tuple #[.int .u64 (scA s l ((x : Int), (m : Int)) : Int), .bool (okE ((x : Int), (m : Int)))]) ∧ Below W.heap.size W w' := fun W hW => score_any s A n c l ((x : Int), (m : Int)) W hs hW hn
          rw [hok] at SC
          obtain ⟨Z, HZ⟩ : ∃ Z, Hid (Z = scA s l ((x : Int), (m : Int))) := ⟨_, Lib.hid rfl⟩
          rw [← HZ.out] at SC hle hZ HLA
          have HSC := Lib.hid SC
          obtain ⟨L, HLL⟩ : ∃ L, Hid (L = lastF T p) := ⟨_, Lib.hid rfl⟩
          rw [← HLL.out] at hle ⊢
          have HFW : Hid (∀ q, upF (Fw (leftW O D p)) x (.int .i64 0) q = Fw (leftW O D (p + 1)) q) := Lib.hid (fun q => by
            unfold upF Fw
            rw [leftW_succ hx q]
            split <;> rfl)
          have hcw : Fw (leftW O D p) x = .int .i64 (m : Int) := by
            unfold Fw leftW
            rw [if_neg hxn, hDm]
            rfl
          obtain ⟨ba, oa, hAa, hba, y, hy, _, hcy⟩ := HZ9.out.at_ hlt
          subst hAa
          have hyx := intsN_at hy hx
          subst hyx
          have ca := (hb.out.cell (p := ⟨ba, oa + p, none⟩) hba).trans hcy
          have cw := hw.out.cell hx64
          rw [hcw] at cw
          have dm : ((m : Int) == 0) = false := by rw [beq_eq_false_iff_ne]; omega
          have dx : ¬ 63 < (x : Int) := by omega
          have dx0 : ¬ (x : Int) < 0 := by omega
          clear hta hxn hDm hok hTx hxo SC hcw hy hZ
          go_wp2_with fail
          go_region_with (go_at_call 9; refine (HSC.out _ (by exact (HR.out.step HBW.out).drew)).mono ?_; rintro r w5 ⟨rfl, hb5⟩)
          all_goals (
            have H5 := Lib.hid (bel_next ((Below.refl wr.heap.size wr).drew) hb5)
            have HB5 := Lib.hid (bel_next hb.out H5.out)
            have ca5 := (H5.out.cell (p := ⟨ba, oa + p, none⟩) (Nat.lt_of_lt_of_le hba hb.out.size)).trans ca
            have HW5 := Lib.hid (hw.out.step H5.out)
            have ch5 := HW5.out.cell hx64
            have fh5 := HW5.out.free x
            have HWN : Hid (A64 29 (w5.setCell ⟨x11, x, none⟩ (.int .i64 0)) x11 (Fw (leftW O D (p + 1)))) := Lib.hid ((HW5.out.set x (.int .i64 0)).ext fun q _ => HFW.out q)
            have HBN : Hid (Below w9.heap.size w9 (w5.setCell ⟨x11, x, none⟩ (.int .i64 0))) := Lib.hid (HB5.out.setCell HX1 _)
            unfold Fw at ch5
            clear ca cw hb5 dm dx dx0
            go_wp2_with fail
            go_roundw
            case rel => exact ⟨p + 1, by omega, by go_num, by rw [HLA.out], HWN, HBN⟩
            case measure => simp [intOf]; omega)
        · obtain rfl : p = j := by omega
          rcases Nat.eq_zero_or_pos p with h0 | h0
          · have hO : ordA T = [] := List.eq_nil_of_length_eq_zero (by rw [← HO.out, HOL.out, h0])
            have hf := fst_nil hO
            rw [hf.1, hf.2] at FI
            have dj : decide (0 < p) = false := decide_eq_false (by omega)
            have dj2 : decide (0 < (p : Int)) = false := decide_eq_false (by omega)
            clear h0
            go_wp2_with fail
            refine (FI.out _ (by exact HR.out.step HBW.out) (by exact HE.out.step HBW.out)).mono ?_
            rintro r w5 ⟨rfl, hb5⟩
            have HB5 := Lib.hid (bel_next HBW.out hb5)
            clear hb5
            go_wp2_with fail
            go_ret
            exact ⟨rfl, HB5.out⟩
          · obtain ⟨x, hx⟩ : ∃ x, O[0]? = some x := ⟨_, List.getElem?_eq_getElem (by rw [HOL.out]; exact h0)⟩
            have hf := fst_cons (T := T) (i := x) (by rw [← HO.out]; exact hx)
            rw [hf.1, hf.2] at FI
            obtain ⟨ba, oa, hAa, hba, y, hy, _, hcy⟩ := HZ9.out.at_ h0
            subst hAa
            have hyx := intsN_at hy hx
            subst hyx
            rw [Nat.add_zero] at hcy
            have HCY := Lib.hid hcy
            have dj : decide (0 < p) = true := decide_eq_true h0
            have dj2 : decide (0 < (p : Int)) = true := decide_eq_true (by omega)
            clear hy hcy hx
            go_wp2_with fail
            refine (FI.out _ (by exact HR.out.step HBW.out) (by exact HE.out.step HBW.out)).mono ?_
            rintro r w5 ⟨rfl, hb5⟩
            have HB5 := Lib.hid (bel_next HBW.out hb5)
            have ca := ((bel_next HBW.out hb5).mono (Nat.le_refl _))
            have ca := (hb5.cell (p := ⟨ba, oa, none⟩) (Nat.lt_of_lt_of_le hba hb.out.size)).trans ((hb.out.cell (p := ⟨ba, oa, none⟩) hba).trans HCY.out)
            clear hb5
            go_wp2_with fail
            go_ret
            exact ⟨rfl, HB5.out⟩
set_option maxRecDepth 100000 in
set_option maxHeartbeats 4000000 in
theorem RankTurns_walk (x0 : Int) (A1 : Option Addr) (n1 c1 : Nat) (l1 : List UInt8) (A2 : Option Addr) (n2 c2 : Nat) (l2 : List (Int × Int)) (x3 : Int) (w : World) (h0 : (Lit.int .u64 x0).wf = true) (h1 : RB w w.heap.size A1 n1 l1) (m1 : n1 ≤ c1 ∧ c1 ≤ maxLen) (h2 : EL w w.heap.size A2 n2 l2) (m2 : n2 ≤ c2 ∧ c2 ≤ maxLen) (h3 : (Lit.int .i64 x3).wf = true) :
    Calls Try.prog 5 #[.int .u64 x0, .slice A1 n1 c1, .slice A2 n2 c2, .int .i64 x3] w fun e w' => e = .returned (.bool true) ∧ Below w.heap.size w w' := by
  obtain ⟨s, rfl, hs⟩ := u64_natE h0
  have r3 := bounds_i64 h3
  have hm1 : n1 ≤ maxLen := Nat.le_trans m1.1 m1.2
  have hm2 : n2 ≤ maxLen := Nat.le_trans m2.1 m2.2
  have HL : Hid (l1.length = n1) := Lib.hid h1.len
  have GR := Lib.hid (fun W A c hW => great_any A 1 c [l1] A2 n2 c2 W hW (by decide) (by intro q hq; rw [List.mem_singleton.1 hq, HL.out]; exact hm1) hm2)
  have HR := Lib.hid h1
  have HE := Lib.hid h2
  obtain ⟨t, ht⟩ : ∃ t, greatB [l1] n2 = t := ⟨_, rfl⟩
  rcases t with _ | _
  · have hg := great_in ht
    have UN := Lib.hid (fun W hW => unlike_any A2 n2 c2 l2 W hW (by omega))
    obtain ⟨u, hu⟩ : ∃ u, unlB l2 = u := ⟨_, rfl⟩
    rw [hu] at UN
    rcases u with _ | _
    · rw [ht] at GR
      clear h1 h2 h0 h3 ht hu
      go_enter Try.func5, Try.ntmps5
      go_wp2_with fail
      refine (alive_any _).mono ?_
      rintro x w1 ⟨rfl, hb⟩
      have HB1 := Lib.hid hb
      clear hb
      go_wp2_with fail
      refine (GR.out _ _ _ (by exact RR.lit w1 [(A1, c1, l1)] _ _ 1 _ (by simp only [List.map_cons, List.map_nil, HL.out]) rfl rfl (by
        intro q hq
        rw [List.mem_singleton.1 hq, HL.out]
        exact HR.out.step HB1.out))).mono ?_
      rintro x w2 ⟨rfl, hw2⟩
      have HB2 : Hid (Below w.heap.size w w2) := Lib.hid (by rw [← hw2]; exact bel_next HB1.out (below_alloc _ _))
      clear hw2
      go_wp2_with fail
      refine (UN.out _ (by exact HE.out.step HB2.out)).mono ?_
      rintro x w3 ⟨rfl, hb⟩
      have HB3 := Lib.hid (bel_next HB2.out hb)
      clear hb
      go_wp2_with fail
      go_ret
      exact ⟨rfl, HB3.out⟩
    · have hun := unlB_iff.1 hu
      have hn80 : n2 ≤ 80 := hg.1
      by_cases a1 : x3 < 0
      · rw [ht] at GR
        clear h1 h2 h0 h3 ht hu
        go_enter Try.func5, Try.ntmps5
        go_wp2_with fail
        refine (alive_any _).mono ?_
        rintro x w1 ⟨rfl, hb⟩
        have HB1 := Lib.hid hb
        clear hb
        go_wp2_with fail
        refine (GR.out _ _ _ (by exact RR.lit w1 [(A1, c1, l1)] _ _ 1 _ (by simp only [List.map_cons, List.map_nil, HL.out]) rfl rfl (by
          intro q hq
          rw [List.mem_singleton.1 hq, HL.out]
          exact HR.out.step HB1.out))).mono ?_
        rintro x w2 ⟨rfl, hw2⟩
        have HB2 : Hid (Below w.heap.size w w2) := Lib.hid (by rw [← hw2]; exact bel_next HB1.out (below_alloc _ _))
        clear hw2
        go_wp2_with fail
        refine (UN.out _ (by exact HE.out.step HB2.out)).mono ?_
        rintro x w3 ⟨rfl, hb⟩
        have HB3 := Lib.hid (bel_next HB2.out hb)
        clear hb
        go_wp2_with fail
        go_ret
        exact ⟨rfl, HB3.out⟩
      by_cases a2 : (n2 : Int) < x3
      · rw [ht] at GR
        clear h1 h2 h0 h3 ht hu
        go_enter Try.func5, Try.ntmps5
        go_wp2_with fail
        refine (alive_any _).mono ?_
        rintro x w1 ⟨rfl, hb⟩
        have HB1 := Lib.hid hb
        clear hb
        go_wp2_with fail
        refine (GR.out _ _ _ (by exact RR.lit w1 [(A1, c1, l1)] _ _ 1 _ (by simp only [List.map_cons, List.map_nil, HL.out]) rfl rfl (by
          intro q hq
          rw [List.mem_singleton.1 hq, HL.out]
          exact HR.out.step HB1.out))).mono ?_
        rintro x w2 ⟨rfl, hw2⟩
        have HB2 : Hid (Below w.heap.size w w2) := Lib.hid (by rw [← hw2]; exact bel_next HB1.out (below_alloc _ _))
        clear hw2
        go_wp2_with fail
        refine (UN.out _ (by exact HE.out.step HB2.out)).mono ?_
        rintro x w3 ⟨rfl, hb⟩
        have HB3 := Lib.hid (bel_next HB2.out hb)
        clear hb
        go_wp2_with fail
        go_ret
        exact ⟨rfl, HB3.out⟩
      obtain ⟨k, rfl⟩ := Int.eq_ofNat_of_zero_le (show 0 ≤ x3 by omega)
      exact turns_in s A1 n1 c1 l1 _ n2 c2 l2 k w hs h1 h2 hm1 ht hg.1 m2.1 hun (by omega)
  · rw [ht] at GR
    clear h1 h2 h0 h3 ht
    go_enter Try.func5, Try.ntmps5
    go_wp2_with fail
    refine (alive_any _).mono ?_
    rintro x w1 ⟨rfl, hb⟩
    have HB1 := Lib.hid hb
    clear hb
    go_wp2_with fail
    refine (GR.out _ _ _ (by exact RR.lit w1 [(A1, c1, l1)] _ _ 1 _ (by simp only [List.map_cons, List.map_nil, HL.out]) rfl rfl (by
      intro q hq
      rw [List.mem_singleton.1 hq, HL.out]
      exact HR.out.step HB1.out))).mono ?_
    rintro x w2 ⟨rfl, hw2⟩
    have HB2 : Hid (Below w.heap.size w w2) := Lib.hid (by rw [← hw2]; exact bel_next HB1.out (below_alloc _ _))
    clear hw2
    go_wp2_with fail
    go_ret
    exact ⟨rfl, HB2.out⟩
end Go.Proofs.Ytocbdgkehgmahaa
