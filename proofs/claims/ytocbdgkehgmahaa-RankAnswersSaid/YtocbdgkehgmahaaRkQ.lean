/- Layer 23: the program's isRight, Score and counting. Conditions: what they read is readable. -/
import Derived.Test.YtocbdgkehgmahaaRkJ
import Derived.Lib.MinMax
namespace Go.Proofs.Ytocbdgkehgmahaa
open Go.RowKit Go.Maps
set_option linter.unusedVariables false
set_option linter.unusedSimpArgs false
attribute [local irreducible] mixF scF scE scA okE tabE bestT ordA ordT leftT keepE
theorem isright_any (e : Int × Int) (w : World) :
    Calls Try.prog 20 #[entV e] w fun r w' => r = .returned (.bool (okE e)) ∧ Below w.heap.size w w' := by
  obtain ⟨x, y⟩ := e
  obtain ⟨v, HV⟩ : ∃ v, Hid (v = okE (x, y)) := ⟨_, Lib.hid rfl⟩
  rw [← HV.out]
  have key : ∀ (P : Prop), (¬ x ≥ 0 → v = false → P) → (x ≥ 0 → ¬ x < 64 → v = false → P) → (x ≥ 0 → x < 64 → ¬ y ≥ 1 → v = false → P) → (x ≥ 0 → x < 64 → y ≥ 1 → ¬ y ≤ 16 → v = false → P) → (x ≥ 0 → x < 64 → y ≥ 1 → y ≤ 16 → v = true → P) → P := by
    intro P h1 h2 h3 h4 h5
    have hv := HV.out
    have no : ∀ h : x < 0 ∨ 63 < x ∨ y < 1 ∨ 16 < y, v = false := fun h => hv.trans (okE_no (x, y) h)
    by_cases a1 : x ≥ 0
    · by_cases a2 : x < 64
      · by_cases a3 : y ≥ 1
        · by_cases a4 : y ≤ 16
          · exact h5 a1 a2 a3 a4 (hv.trans ((okE_iff (x, y)).2 (by simp only; omega)))
          · exact h4 a1 a2 a3 a4 (no (by omega))
        · exact h3 a1 a2 a3 (no (by omega))
      · exact h2 a1 a2 (no (by omega))
    · exact h1 a1 (no (by omega))
  clear HV
  unfold entV
  apply key
  all_goals (
    clear key
    intros
    subst v
    go_enter Try.func20, Try.ntmps20
    go_wp2_with (refine wpList_boxB rfl 25 (.tmp 0) rfl (ent (x, y)) (ent_agg (x, y)) ?_; intro w1 q hc1 hb1 hx1; have c0 := hc1.cell 0; have c1 := hc1.cell 1; simp only [ent, List.getElem?_cons_zero, List.getElem?_cons_succ] at c0 c1; have HB1 := Lib.hid hb1; clear hc1 hb1 hx1)
    go_ret
    exact ⟨rfl, HB1.out⟩)
set_option maxRecDepth 100000 in
set_option maxHeartbeats 2000000 in
theorem score_no (s : Nat) (A : Option Addr) (n c : Nat) (e : Int × Int) (w : World) (h : okE e = false) :
    Calls Try.prog 9 #[.int .u64 (s : Int), .slice A n c, entV e] w fun r w' => r = .returned (.tuple #[.int .u64 0, .bool false]) ∧ Below w.heap.size w w' := by
  have HI := Lib.hid (isright_any e)
  rw [h] at HI
  obtain ⟨x, y⟩ := e
  clear h
  unfold entV at HI ⊢
  go_enter Try.func9, Try.ntmps9
  go_wp2_with (first
    | (refine wpList_boxB rfl 25 (.tmp 2) rfl (ent (x, y)) (ent_agg (x, y)) ?_; intro w1 q hc1 hb1 hx1; have HQ := Lib.hid (Blk.range hc1 0 2); have HB1 := Lib.hid hb1; clear hc1 hb1 hx1)
    | (refine wpList_ldE rt_rk rfl (.tmp 5) rfl q 0 (by first | rfl | simp [Act.eval, Act.put]) (x, y) HQ.out ?_))
  refine (HI.out _).mono ?_
  rintro r w2 ⟨rfl, hb2⟩
  have HB2 := Lib.hid (bel_next HB1.out hb2)
  clear hb2
  go_wp2_with fail
  go_ret2
  exact ⟨rfl, HB2.out⟩
set_option maxRecDepth 100000 in
set_option maxHeartbeats 2000000 in
theorem score_ok (s : Nat) (A : Option Addr) (n c i m : Nat) (l : List UInt8) (w : World) (hs : s < 18446744073709551616) (h : RB w w.heap.size A n l) (hn : n ≤ maxLen) (h1 : i ≤ 63) (h2 : 1 ≤ m) (h3 : m ≤ 16) :
    Calls Try.prog 9 #[.int .u64 (s : Int), .slice A n c, entV ((i : Int), (m : Int))] w fun r w' => r = .returned (.tuple #[.int .u64 (scF s l i m : Int), .bool true]) ∧ Below w.heap.size w w' := by
  have HR := Lib.hid h
  have HL : Hid (l.length = n) := Lib.hid h.len
  have HI := Lib.hid (isright_any ((i : Int), (m : Int)))
  rw [okE_nat h1 h2 h3] at HI
  clear h
  unfold entV at HI ⊢
  go_enter Try.func9, Try.ntmps9
  go_wp2_with (first
    | (refine wpList_boxB rfl 25 (.tmp 2) rfl (ent ((i : Int), (m : Int))) (ent_agg ((i : Int), (m : Int))) ?_; intro w1 q hc1 hb1 hx1; have HQ0 := Lib.hid (Blk.range hc1 0 2); have HQ1 := Lib.hid hc1; have HB1 := Lib.hid hb1; clear hc1 hb1 hx1)
    | (refine wpList_ldE rt_rk rfl (.tmp 5) rfl q 0 (by first | rfl | simp [Act.eval, Act.put]) ((i : Int), (m : Int)) HQ0.out ?_))
  refine (HI.out _).mono ?_
  rintro r w2 ⟨rfl, hb2⟩
  have HB2 := Lib.hid (bel_next HB1.out hb2)
  have HQ := Lib.hid (HQ1.out.step hb2)
  have c0 := HQ.out.cell 0
  have c1 := HQ.out.cell 1
  simp only [ent, List.getElem?_cons_zero, List.getElem?_cons_succ] at c0 c1
  clear hb2 HQ0 HQ1 HB1
  go_wp2_with fail
  clear c0 c1
  go_loopw [8, 9, 15] (fun v _ j wr => ∃ k : Nat, k ≤ m ∧ j = .int .i64 k ∧ v = .int .u64 (scF s l i k : Int) ∧ Hid (Below w2.heap.size w2 wr)) (fun _ _ j _ => m - (intOf j).toNat)
  case atStart => exact ⟨0, Nat.zero_le _, rfl, vu64 (scF_zero s l i).symm, Lib.hid (Below.refl _ _)⟩
  case round =>
    obtain ⟨k, hk, rfl, rfl, hb⟩ := hrel
    have c0 := (HQ.out.step hb.out).cell 0
    have c1 := (HQ.out.step hb.out).cell 1
    simp only [ent, List.getElem?_cons_zero, List.getElem?_cons_succ] at c0 c1
    by_cases hlt : k < m
    · have hs1 := scF_lt s l i k
      have HS := Lib.hid (scF_succ s l i k)
      obtain ⟨V, HV⟩ : ∃ V, Hid (V = scF s l i k) := ⟨_, Lib.hid rfl⟩
      obtain ⟨M, HM⟩ : ∃ M, Hid (M = mixF s [l, [UInt8.ofNat i], [UInt8.ofNat k]]) := ⟨_, Lib.hid rfl⟩
      rw [← HV.out, ← HM.out] at HS
      rw [← HV.out] at hs1 ⊢
      have hi2 : i < 256 := by omega
      have hk2 : k < 256 := by omega
      go_wp2_with fail
      have R0 := HR.out.step (bel_next HB2.out hb.out)
      have R1 := RB.lit wr [UInt8.ofNat i] _ 1 _ (byte_lit hi2) rfl rfl
      have R2 := RB.lit (wr.alloc (.cells #[.int .u8 (i : Int)] 5)) [UInt8.ofNat k] _ 1 (wr.heap.size + 1) (byte_lit hk2) rfl (by simp)
      have B1 := below_alloc wr (.cells #[.int .u8 (i : Int)] 5)
      have B2 := below_alloc (wr.alloc (.cells #[.int .u8 (i : Int)] 5)) (.cells #[.int .u8 (k : Int)] 5)
      refine (mix_any s _ 3 3 [l, [UInt8.ofNat i], [UInt8.ofNat k]] _ hs (by exact RR.lit _ [(A, c, l), (some ⟨wr.heap.size, 0, none⟩, 1, [UInt8.ofNat i]), (some ⟨wr.heap.size + 1, 0, none⟩, 1, [UInt8.ofNat k])] _ _ 3 _ (by simp only [List.map_cons, List.map_nil, HL.out]; rfl) rfl (by simp) (by
        intro r hr
        simp only [List.mem_cons, List.not_mem_nil, or_false] at hr
        rcases hr with rfl | rfl | rfl
        · rw [HL.out]; exact (R0.step B1).step B2
        · exact R1.step B2
        · exact R2)) (by decide) (by
        intro p hp
        simp only [List.mem_cons, List.not_mem_nil, or_false] at hp
        rcases hp with rfl | rfl | rfl
        · rw [HL.out]; exact hn
        · show 1 ≤ maxLen; decide
        · show 1 ≤ maxLen; decide)).mono ?_
      rw [← HM.out]
      rintro e w5 ⟨rfl, hb5⟩
      have HB5 := Lib.hid (bel_next hb.out (bel_next (bel_next B1 (bel_next B2 (below_alloc _ _))) hb5))
      clear R0 R1 R2 B1 B2 hb5
      go_wp2_with fail
      go_roundw
      case rel => exact ⟨k + 1, by omega, by go_num, by rw [HS.out, ← max_nat], HB5⟩
      case measure => simp [intOf]; omega
    · obtain rfl : k = m := by omega
      go_wp2_with fail
      go_ret2
      exact ⟨rfl, bel_next HB2.out hb.out⟩
theorem score_any (s : Nat) (A : Option Addr) (n c : Nat) (l : List UInt8) (e : Int × Int) (w : World) (hs : s < 18446744073709551616) (h : RB w w.heap.size A n l) (hn : n ≤ maxLen) :
    Calls Try.prog 9 #[.int .u64 (s : Int), .slice A n c, entV e] w fun r w' => r = .returned (.tuple #[.int .u64 (scA s l e : Int), .bool (okE e)]) ∧ Below w.heap.size w w' := by
  by_cases hok : okE e = true
  · have h1 := (okE_iff e).1 hok
    obtain ⟨x, y⟩ := e
    obtain ⟨i, rfl⟩ := Int.eq_ofNat_of_zero_le (show 0 ≤ x by simp only at h1; omega)
    obtain ⟨m, rfl⟩ := Int.eq_ofNat_of_zero_le (show 0 ≤ y by simp only at h1; omega)
    simp only at h1
    rw [scA_ok s l _ hok, hok, scE_nat]
    exact score_ok s A n c i m l w hs h hn (by omega) (by omega) (by omega)
  · have hno : okE e = false := by rw [Bool.eq_false_iff]; exact hok
    rw [scA_no s l e hno, hno]
    exact score_no s A n c e w hno
theorem own_oth {T : TypeId} {w w' : World} {base n c : Nat} {A : Option Addr} {l : List (Int × Int)} {S : List Nat} (h : OwnE T w base A n c l) (ho : Oth S w w') (hS : ∀ g ∈ blkO A, g ∉ S) : OwnE T w' base A n c l := ⟨h.1.oth ho hS, h.2⟩
theorem oth_map {w w' : World} {b : Nat} (h : w.grownBy w' (some b)) : Oth [b] w w' := ⟨h.os, h.tape, h.output, h.size, fun k hk hn => h.block k hk fun e => hn (by injection e with e; rw [e]; exact List.mem_singleton.2 rfl)⟩
theorem rt_un : RT 72 [] := ⟨row_of (by kernel_rfl), by kernel_rfl⟩
theorem any_no {l : List (Int × Int)} {z : Int} (h : (l.any fun x => x.1 == z) = false) : ∀ x ∈ l, x.1 ≠ z := fun x hx e => by
  have : (l.any fun x => x.1 == z) = true := List.any_eq_true.2 ⟨x, hx, by rw [beq_iff_eq]; exact e⟩
  rw [h] at this
  cases this
set_option maxRecDepth 100000 in
set_option maxHeartbeats 4000000 in
theorem counting_any (Ae : Option Addr) (ne ce : Nat) (es : List (Int × Int)) (w : World) (he : EL w w.heap.size Ae ne es) (hne : ne ≤ 1000000) :
    Calls Try.prog 24 #[.slice Ae ne ce] w fun r w' => ∃ (Ao : Option Addr) (co : Nat), r = .returned (.slice Ao (keepE es).length co) ∧ OwnE 25 w' w.heap.size Ao (keepE es).length co (keepE es) ∧ Below w.heap.size w w' := by
  have HE := Lib.hid he
  clear he
  have hmm := @run_makeMap Try.prog
  go_enter Try.func24, Try.ntmps24
  go_wp2_with fail
  have Z0 := Lib.hid (MS.made w)
  have HBB := Lib.hid (below_alloc w (.map #[] 0))
  have ZE : Hid (OwnE 25 (w.alloc (.map #[] 0)) w.heap.size none 0 0 []) := Lib.hid ⟨Grd.nil_ _ _ _ _, fun p h => (by cases h)⟩
  go_loopw [3, 6, 7, 8, 12] (fun v _ _ _ i wr => ∃ (k : Nat) (A1 : Option Addr) (n1 d1 : Nat), k ≤ ne ∧ i = .int .i64 k ∧ v = .slice A1 n1 d1 ∧ Hid (OwnE 25 wr w.heap.size A1 n1 d1 (keepE (es.take k))) ∧ Hid (MS wr w.heap.size k (keepE (es.take k))) ∧ Hid (Below w.heap.size w wr)) (fun _ _ _ _ i _ => ne - (intOf i).toNat)
  case atStart => exact ⟨0, none, 0, 0, Nat.zero_le _, rfl, rfl, Lib.hid (by rw [List.take_zero, keep_nil]; exact ZE.out), Lib.hid (by rw [List.take_zero, keep_nil]; exact Z0.out), HBB⟩
  case round =>
    obtain ⟨k, A1, n1, d1, hk, rfl, rfl, ho, hm, hb⟩ := hrel
    clear Z0 HBB ZE
    by_cases hlt : k < ne
    · obtain ⟨b, o, e, rfl, hbb, hek, hi1, hi2, hrg, c0w, c1w⟩ := HE.out.at_ hlt
      have HRG := Lib.hid (range_below hrg hb.out hbb)
      have HTA := Lib.hid (take_ent hek)
      have HI1 := Lib.hid hi1
      have HI2 := Lib.hid hi2
      have hn1 : n1 ≤ 64 := by rw [← ho.out.len]; exact keep_64
      have HIR := Lib.hid (isright_any e)
      clear hrg hek c0w c1w hi1 hi2
      obtain ⟨x, y⟩ := e
      cases htw : (keepE (es.take k)).any fun z => z.1 == x with
      | true =>
        have HTW := Lib.hid htw
        obtain ⟨z, hz1, hz2⟩ := List.any_eq_true.1 htw
        have HN : Hid (keepE (es.take (k + 1)) = keepE (es.take k)) := Lib.hid (by rw [HTA.out, keep_twice hz1 (by rw [beq_iff_eq] at hz2; exact hz2)])
        clear htw hz1 hz2
        go_wp2_with (first
          | (refine wpList_ldE rt_rk rfl (.tmp 14) rfl b (o + k * 2) (by first | rfl | simp [Act.eval, Act.put]) (x, y) HRG.out ?_)
          | (refine wpList_newB rt_rk rfl rfl ?_; intro w3 q3 k3 hb3 hx3; have K3 := Lib.hid k3; have B3 := Lib.hid (bel_next hb.out hb3); have E3 := Lib.hid (ho.out.step hb3); have M3 := Lib.hid (hm.out.step hb3); have X3 := Lib.hid hx3; clear k3 hb3 hx3)
          | (refine wpList_stB rt_rk rfl (.tmp 6) (.tmp 15) rfl q3 0 rfl [.int .i64 0, .int .i64 0] (ent (x, y)) rfl (ent_one (x, y)) rfl K3.out (by decide) ?_; intro w4 k4 ho4 hs4; have K4 : Hid (Blk 25 w4 q3 (ent (x, y))) := Lib.hid k4; have c0 := k4.cell 0; have c1 := k4.cell 1; simp only [ent, putsL, List.set_cons_zero, List.set_cons_succ, List.getElem?_cons_zero, List.getElem?_cons_succ] at c0 c1; have M4 := Lib.hid (M3.out.oth ho4 (by have := hm.out.lt; have := X3.out; simp; omega)); have E4 := Lib.hid (own_oth E3.out ho4 (fun g hg => by have := (ho.out.1.lt g hg).2; have := X3.out; simp; omega)); have B4 := Lib.hid (B3.out.trans (ho4.below (fun j hj => by rw [List.mem_singleton.1 hj]; exact Nat.le_trans hb.out.size X3.out) B3.out.size)); have hlk := M4.out.lookOk HI1.out; rw [HTW.out] at hlk; clear k4 ho4 hs4)
          | (refine wpList_newB rt_un rfl rfl ?_; intro w5 q5 k5 hb5 hx5; have K5 := Lib.hid k5; have Q5 := Lib.hid (K4.out.step hb5); have E5 := Lib.hid (E4.out.step hb5); have M5 := Lib.hid (M4.out.step hb5); have B5 := Lib.hid (bel_next B4.out hb5); have X5 := Lib.hid hx5; clear k5 hb5 hx5 hlk c0 c1)
          | (refine wpList_stB rt_un rfl (.tmp 7) (.tmp 21) rfl q5 0 rfl [] [] rfl (fun v hv => by cases hv) rfl K5.out (by decide) ?_; intro w6 k6 ho6 hs6; have Q6 := Lib.hid (Q5.out.oth ho6 (by have := K4.out.lt; have := X5.out; simp; omega)); have c0 := Q6.out.cell 0; have c1 := Q6.out.cell 1; simp only [ent, List.getElem?_cons_zero, List.getElem?_cons_succ] at c0 c1; have M6 := Lib.hid (M5.out.oth ho6 (by have := M4.out.lt; have := X5.out; simp; omega)); have E6 := Lib.hid (own_oth E5.out ho6 (fun g hg => by have := (E4.out.1.lt g hg).2; have := X5.out; simp; omega)); have B6 := Lib.hid (B5.out.trans (ho6.below (fun j hj => by rw [List.mem_singleton.1 hj]; exact Nat.le_trans B4.out.size X5.out) B5.out.size)); clear k6 ho6 hs6))
        go_roundw
        case rel => exact ⟨k + 1, A1, n1, d1, by omega, by go_num, rfl, Lib.hid (by rw [HN.out]; exact E6.out), Lib.hid (by rw [HN.out]; exact M6.out.more (Nat.le_succ _)), B6⟩
        case measure => simp [intOf]; omega
      | false =>
        have HTW := Lib.hid htw
        cases hok : okE (x, y) with
        | false =>
          rw [hok] at HIR
          have HN : Hid (keepE (es.take (k + 1)) = keepE (es.take k)) := Lib.hid (by rw [HTA.out, keep_bad hok])
          clear htw hok
          go_wp2_with (first
            | (refine wpList_ldE rt_rk rfl (.tmp 14) rfl b (o + k * 2) (by first | rfl | simp [Act.eval, Act.put]) (x, y) HRG.out ?_)
            | (refine wpList_newB rt_rk rfl rfl ?_; intro w3 q3 k3 hb3 hx3; have K3 := Lib.hid k3; have B3 := Lib.hid (bel_next hb.out hb3); have E3 := Lib.hid (ho.out.step hb3); have M3 := Lib.hid (hm.out.step hb3); have X3 := Lib.hid hx3; clear k3 hb3 hx3)
            | (refine wpList_stB rt_rk rfl (.tmp 6) (.tmp 15) rfl q3 0 rfl [.int .i64 0, .int .i64 0] (ent (x, y)) rfl (ent_one (x, y)) rfl K3.out (by decide) ?_; intro w4 k4 ho4 hs4; have K4 : Hid (Blk 25 w4 q3 (ent (x, y))) := Lib.hid k4; have c0 := k4.cell 0; have c1 := k4.cell 1; simp only [ent, putsL, List.set_cons_zero, List.set_cons_succ, List.getElem?_cons_zero, List.getElem?_cons_succ] at c0 c1; have M4 := Lib.hid (M3.out.oth ho4 (by have := hm.out.lt; have := X3.out; simp; omega)); have E4 := Lib.hid (own_oth E3.out ho4 (fun g hg => by have := (ho.out.1.lt g hg).2; have := X3.out; simp; omega)); have B4 := Lib.hid (B3.out.trans (ho4.below (fun j hj => by rw [List.mem_singleton.1 hj]; exact Nat.le_trans hb.out.size X3.out) B3.out.size)); have hlk := M4.out.lookOk HI1.out; rw [HTW.out] at hlk; clear k4 ho4 hs4)
            | (refine wpList_newB rt_un rfl rfl ?_; intro w5 q5 k5 hb5 hx5; have K5 := Lib.hid k5; have Q5 := Lib.hid (K4.out.step hb5); have E5 := Lib.hid (E4.out.step hb5); have M5 := Lib.hid (M4.out.step hb5); have B5 := Lib.hid (bel_next B4.out hb5); have X5 := Lib.hid hx5; clear k5 hb5 hx5 hlk c0 c1)
            | (refine wpList_stB rt_un rfl (.tmp 7) (.tmp 21) rfl q5 0 rfl [] [] rfl (fun v hv => by cases hv) rfl K5.out (by decide) ?_; intro w6 k6 ho6 hs6; have Q6 := Lib.hid (Q5.out.oth ho6 (by have := K4.out.lt; have := X5.out; simp; omega)); have c0 := Q6.out.cell 0; have c1 := Q6.out.cell 1; simp only [ent, List.getElem?_cons_zero, List.getElem?_cons_succ] at c0 c1; have M6 := Lib.hid (M5.out.oth ho6 (by have := M4.out.lt; have := X5.out; simp; omega)); have E6 := Lib.hid (own_oth E5.out ho6 (fun g hg => by have := (E4.out.1.lt g hg).2; have := X5.out; simp; omega)); have B6 := Lib.hid (B5.out.trans (ho6.below (fun j hj => by rw [List.mem_singleton.1 hj]; exact Nat.le_trans B4.out.size X5.out) B5.out.size)); clear k6 ho6 hs6))
          refine (HIR.out _).mono ?_
          rintro r w7 ⟨rfl, hb7⟩
          have E7 := Lib.hid (E6.out.step hb7)
          have M7 := Lib.hid (M6.out.step hb7)
          have B7 := Lib.hid (bel_next B6.out hb7)
          clear hb7 c0 c1
          go_wp2_with fail
          go_roundw
          case rel => exact ⟨k + 1, A1, n1, d1, by omega, by go_num, rfl, Lib.hid (by rw [HN.out]; exact E7.out), Lib.hid (by rw [HN.out]; exact M7.out.more (Nat.le_succ _)), B7⟩
          case measure => simp [intOf]; omega
        | true =>
          rw [hok] at HIR
          have HN : Hid (keepE (es.take (k + 1)) = keepE (es.take k) ++ [(x, y)]) := Lib.hid (by rw [HTA.out, keep_yes hok (any_no htw)])
          clear htw hok
          go_wp2_with (first
            | (refine wpList_ldE rt_rk rfl (.tmp 14) rfl b (o + k * 2) (by first | rfl | simp [Act.eval, Act.put]) (x, y) HRG.out ?_)
            | (refine wpList_newB rt_rk rfl rfl ?_; intro w3 q3 k3 hb3 hx3; have K3 := Lib.hid k3; have B3 := Lib.hid (bel_next hb.out hb3); have E3 := Lib.hid (ho.out.step hb3); have M3 := Lib.hid (hm.out.step hb3); have X3 := Lib.hid hx3; clear k3 hb3 hx3)
            | (refine wpList_stB rt_rk rfl (.tmp 6) (.tmp 15) rfl q3 0 rfl [.int .i64 0, .int .i64 0] (ent (x, y)) rfl (ent_one (x, y)) rfl K3.out (by decide) ?_; intro w4 k4 ho4 hs4; have K4 : Hid (Blk 25 w4 q3 (ent (x, y))) := Lib.hid k4; have c0 := k4.cell 0; have c1 := k4.cell 1; simp only [ent, putsL, List.set_cons_zero, List.set_cons_succ, List.getElem?_cons_zero, List.getElem?_cons_succ] at c0 c1; have M4 := Lib.hid (M3.out.oth ho4 (by have := hm.out.lt; have := X3.out; simp; omega)); have E4 := Lib.hid (own_oth E3.out ho4 (fun g hg => by have := (ho.out.1.lt g hg).2; have := X3.out; simp; omega)); have B4 := Lib.hid (B3.out.trans (ho4.below (fun j hj => by rw [List.mem_singleton.1 hj]; exact Nat.le_trans hb.out.size X3.out) B3.out.size)); have hlk := M4.out.lookOk HI1.out; rw [HTW.out] at hlk; clear k4 ho4 hs4)
            | (refine wpList_newB rt_un rfl rfl ?_; intro w5 q5 k5 hb5 hx5; have K5 := Lib.hid k5; have Q5 := Lib.hid (K4.out.step hb5); have E5 := Lib.hid (E4.out.step hb5); have M5 := Lib.hid (M4.out.step hb5); have B5 := Lib.hid (bel_next B4.out hb5); have X5 := Lib.hid hx5; clear k5 hb5 hx5 hlk c0 c1)
            | (refine wpList_stB rt_un rfl (.tmp 7) (.tmp 21) rfl q5 0 rfl [] [] rfl (fun v hv => by cases hv) rfl K5.out (by decide) ?_; intro w6 k6 ho6 hs6; have Q6 := Lib.hid (Q5.out.oth ho6 (by have := K4.out.lt; have := X5.out; simp; omega)); have c0 := Q6.out.cell 0; have c1 := Q6.out.cell 1; simp only [ent, List.getElem?_cons_zero, List.getElem?_cons_succ] at c0 c1; have M6 := Lib.hid (M5.out.oth ho6 (by have := M4.out.lt; have := X5.out; simp; omega)); have E6 := Lib.hid (own_oth E5.out ho6 (fun g hg => by have := (E4.out.1.lt g hg).2; have := X5.out; simp; omega)); have B6 := Lib.hid (B5.out.trans (ho6.below (fun j hj => by rw [List.mem_singleton.1 hj]; exact Nat.le_trans B4.out.size X5.out) B5.out.size)); clear k6 ho6 hs6))
          refine (HIR.out _).mono ?_
          rintro r w7 ⟨rfl, hb7⟩
          have E7 := Lib.hid (E6.out.step hb7)
          have M7 := Lib.hid (M6.out.step hb7)
          have B7 := Lib.hid (bel_next B6.out hb7)
          have Q7 := Lib.hid (Q6.out.step hb7)
          have c07 := Q7.out.cell 0
          simp only [ent, List.getElem?_cons_zero] at c07
          clear hb7 c0 c1
          go_wp2_with (first
            | (refine wpList_putM rfl (.tmp 29) (.tmp 31) (.tmp 32) rfl w.heap.size k _ rfl M7.out (by omega) (x, y) HI1.out rfl rfl ?_; intro w8 m8 hg8; have M8 := Lib.hid m8; have E8 := Lib.hid (own_oth E7.out (oth_map hg8) (fun g hg hw => MS.away M7.out E7.out.1 (by rw [← List.mem_singleton.1 hw]; exact hg))); have B8 := Lib.hid (B7.out.trans ((oth_map hg8).below (fun j hj => by rw [List.mem_singleton.1 hj]; exact Nat.le_refl _) B7.out.size)); have Q8 := Lib.hid (Q7.out.oth (oth_map hg8) (fun hw => by have h1 := List.mem_singleton.1 hw; have := X3.out; have := hm.out.lt; omega)); have R8 := Lib.hid (Blk.range Q8.out 0 2); clear m8 hg8 c07)
            | (refine wpList_ldE rt_rk rfl (.tmp 6) rfl q3 0 (by first | rfl | simp [Act.eval, Act.put]) (x, y) R8.out ?_; unfold entV)
            | (at_builtin; refine wpList_app23 gt_rk rfl (.tmp 33) (.tmp 35) rfl w.heap.size A1 n1 d1 _ rfl (by exact (E8.out.step (below_alloc _ _)).1) (some ⟨w8.heap.size, 0, none⟩) 1 1 [ent (x, y)] rfl (by exact (RdG.lit1 25 w8 (ent (x, y)) (ent_one (x, y)))) (by omega) (by decide) (by have := B8.out.size; rw [World.size_alloc]; omega) ?_; intro A9 c9 w9 g9 o9 b9; have E9 : Hid (OwnE 25 w9 w.heap.size A9 (n1 + 1) c9 (keepE (es.take k) ++ [(x, y)])) := Lib.hid ⟨by rw [List.map_append]; exact g9, fun p hp => (List.mem_append.1 hp).elim (E8.out.2 p) (fun h => by rw [List.mem_singleton.1 h]; exact ⟨HI1.out, HI2.out⟩)⟩; have M9 := Lib.hid ((M8.out.step (below_alloc w8 (.cells (ent (x, y)).toArray 25))).oth o9 (MS.away (M8.out.step (below_alloc w8 _)) (E8.out.step (below_alloc w8 (.cells (ent (x, y)).toArray 25))).1)); have B9 := Lib.hid ((B8.out.trans ((below_alloc w8 _).mono B8.out.size)).trans b9); clear g9 o9 b9))
          go_roundw
          case rel => exact ⟨k + 1, A9, n1 + 1, c9, by omega, by go_num, rfl, Lib.hid (by rw [HN.out]; exact E9.out), Lib.hid (by rw [HN.out]; exact M9.out), B9⟩
          case measure => simp [intOf]; omega
    · obtain rfl : k = ne := by omega
      have HO := ho.out
      rw [List.take_of_length_le (by have := HE.out.len; omega)] at HO
      obtain rfl : n1 = (keepE es).length := HO.len.symm
      have HO := Lib.hid HO
      go_wp2_with fail
      go_ret
      exact ⟨A1, d1, rfl, HO.out, hb.out⟩
end Go.Proofs.Ytocbdgkehgmahaa
