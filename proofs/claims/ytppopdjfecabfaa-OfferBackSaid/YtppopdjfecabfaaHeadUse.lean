/- Layer 10's statements' Of: a header as the references have it, its ids copied. Conditions: ids of at most a million bytes. -/
import Derived.Test.YtppopdjfecabfaaHeadRef
namespace Go.Proofs.Ytppopdjfecabfaa
open Go.RowKit
set_option linter.unusedVariables false
set_option linter.unusedSimpArgs false
attribute [local go_sem ↓] ex_ldHd ex_stHd ex_ldHr ex_stHr

set_option maxRecDepth 100000 in
set_option maxHeartbeats 4000000 in
theorem hof_any (h : Hd) (w : World) (hk : h.ok w) (ha : h.a.length ≤ 1000000) (hb : h.b.length ≤ 1000000) :
    Calls Try.prog 18 #[h.val] w fun e w' => ∃ g : Hd, e = .returned g.val ∧ g.pl = h.pl ∧ g.own w' w.heap.size ∧ Below w.heap.size w w' := by
  have HK := Lib.hid hk
  have v32 := hk.v32
  clear hk
  go_enter Try.func18, Try.ntmps18
  go_wp2_with (first
    | (with_reducible show wpList _ _ _ (⟨_, .box _ (.tmp 0), _, _, _, none⟩ :: _) _ _; refine wpList_boxN rfl _ (.tmp 0) rfl h rfl ?_; intro w1 q hc1 hb1 hx1; have H1 := Lib.hid (And.intro hc1 (And.intro hb1 hx1)); clear hc1 hb1 hx1)
    | (with_reducible show wpList _ _ _ (⟨_, .alloc _, _, _, _, none⟩ :: _) _ _; refine wpList_allocN ht_ref rfl rfl ?_; intro w2 p hc2 hb2 hx2; have H2 := Lib.hid (And.intro hc2 (And.intro hb2 hx2)); clear hc2 hb2 hx2))
  have hpq : p ≠ q := fun e => by
    have h1 := H1.out.1.lt
    have h2 := H2.out.2.2
    omega
  have HC2 : Hc 37 w2.drew q h := H1.out.1.step H2.out.2.1.drew
  have HP2 : Hid (Hc 40 w2.drew p zeroH) := Lib.hid H2.out.1
  have BL2 : Hid (Below w.heap.size w w2.drew) := Lib.hid (bel_next H1.out.2.1 H2.out.2.1).drew
  have LP : Hid (w.heap.size ≤ p) := Lib.hid (Nat.le_trans H1.out.2.1.size H2.out.2.2)
  clear H1 H2
  refine wp_region_held_drew (S := fun w' => Hc 37 w' q h) (by kernel_rfl) HC2 (fun hHeld => ?_)
  (try dsimp only at hHeld)
  refine wpAnyH_take (i := 0) (v := ?v0_1) rfl (by kernel_rfl) (by kernel_rfl) (by kernel_rfl) (fun _ _ _ h => h) (Or.inl ⟨by rfl, ?hy0_1⟩) hHeld ?_
  case hy0_1 => (intro w hSw; (try dsimp only at hSw); have q0 := hSw.c0; have q1 := hSw.c1; have q2 := hSw.c2; have q3 := hSw.c3; (try simp only [List.getElem_toArray, List.getElem_cons_zero, List.getElem_cons_succ]); go_simp <;> with_reducible rfl)
  (try simp only [Act.put, List.getElem_toArray, List.getElem_cons_zero, List.getElem_cons_succ, List.setIfInBounds_toArray, List.set_cons_zero, List.set_cons_succ])
  refine wpAnyH_take (i := 1) (v := ?v1_2) rfl (by kernel_rfl) (by kernel_rfl) (by kernel_rfl) (fun _ _ _ h => h) (Or.inl ⟨by rfl, ?hy1_2⟩) hHeld ?_
  case hy1_2 => (intro w hSw; (try dsimp only at hSw); have q0 := hSw.c0; have q1 := hSw.c1; have q2 := hSw.c2; have q3 := hSw.c3; (try simp only [List.getElem_toArray, List.getElem_cons_zero, List.getElem_cons_succ]); go_simp <;> with_reducible rfl)
  (try simp only [Act.put, List.getElem_toArray, List.getElem_cons_zero, List.getElem_cons_succ, List.setIfInBounds_toArray, List.set_cons_zero, List.set_cons_succ])
  refine wpAnyH_take (i := 2) (v := ?v2_3) rfl (by kernel_rfl) (by kernel_rfl) (by kernel_rfl) (fun _ _ _ h => h) (Or.inl ⟨by rfl, ?hy2_3⟩) hHeld ?_
  case hy2_3 => (intro w hSw; (try dsimp only at hSw); have q0 := hSw.c0; have q1 := hSw.c1; have q2 := hSw.c2; have q3 := hSw.c3; (try simp only [List.getElem_toArray, List.getElem_cons_zero, List.getElem_cons_succ]); go_simp <;> with_reducible rfl)
  (try simp only [Act.put, List.getElem_toArray, List.getElem_cons_zero, List.getElem_cons_succ, List.setIfInBounds_toArray, List.set_cons_zero, List.set_cons_succ])
  refine wpAnyH_take (i := 3) (v := ?v3_4) rfl (by kernel_rfl) (by kernel_rfl) (by kernel_rfl) (fun _ _ _ h => h) (Or.inl ⟨by rfl, ?hy3_4⟩) hHeld ?_
  case hy3_4 => (intro w hSw; (try dsimp only at hSw); have q0 := hSw.c0; have q1 := hSw.c1; have q2 := hSw.c2; have q3 := hSw.c3; (try simp only [List.getElem_toArray, List.getElem_cons_zero, List.getElem_cons_succ]); go_simp <;> with_reducible rfl)
  (try simp only [Act.put, List.getElem_toArray, List.getElem_cons_zero, List.getElem_cons_succ, List.setIfInBounds_toArray, List.set_cons_zero, List.set_cons_succ])
  refine wpAnyH_take (i := 4) (v := ?v4_5) rfl (by kernel_rfl) (by kernel_rfl) (by kernel_rfl) (fun _ _ _ h => h) (Or.inl ⟨by rfl, ?hy4_5⟩) hHeld ?_
  case hy4_5 => (intro w hSw; (try dsimp only at hSw); have q0 := hSw.c0; have q1 := hSw.c1; have q2 := hSw.c2; have q3 := hSw.c3; (try simp only [List.getElem_toArray, List.getElem_cons_zero, List.getElem_cons_succ]); go_simp <;> with_reducible rfl)
  (try simp only [Act.put, List.getElem_toArray, List.getElem_cons_zero, List.getElem_cons_succ, List.setIfInBounds_toArray, List.set_cons_zero, List.set_cons_succ])
  refine wpAnyH_take (i := 5) (v := ?v5_6) rfl (by kernel_rfl) (by kernel_rfl) (by kernel_rfl) (fun _ _ _ h => h) (Or.inl ⟨by rfl, ?hy5_6⟩) hHeld ?_
  case hy5_6 => (intro w hSw; (try dsimp only at hSw); have q0 := hSw.c0; have q1 := hSw.c1; have q2 := hSw.c2; have q3 := hSw.c3; (try simp only [List.getElem_toArray, List.getElem_cons_zero, List.getElem_cons_succ]); go_simp <;> with_reducible rfl)
  (try simp only [Act.put, List.getElem_toArray, List.getElem_cons_zero, List.getElem_cons_succ, List.setIfInBounds_toArray, List.set_cons_zero, List.set_cons_succ])
  refine wpAnyH_take (i := 7) (v := ?v7_7) rfl (by kernel_rfl) (by kernel_rfl) (by kernel_rfl) (fun _ _ _ h => h) (Or.inl ⟨by rfl, ?hy7_7⟩) hHeld ?_
  case hy7_7 => (intro w hSw; (try dsimp only at hSw); have q0 := hSw.c0; have q1 := hSw.c1; have q2 := hSw.c2; have q3 := hSw.c3; (try simp only [List.getElem_toArray, List.getElem_cons_zero, List.getElem_cons_succ]); go_simp <;> with_reducible rfl)
  (try simp only [Act.put, List.getElem_toArray, List.getElem_cons_zero, List.getElem_cons_succ, List.setIfInBounds_toArray, List.set_cons_zero, List.set_cons_succ])
  refine wpAnyH_take (i := 8) (v := ?v8_8) rfl (by kernel_rfl) (by kernel_rfl) (by kernel_rfl) (fun _ _ _ h => h) (Or.inl ⟨by rfl, ?hy8_8⟩) hHeld ?_
  case hy8_8 => (intro w hSw; (try dsimp only at hSw); have q0 := hSw.c0; have q1 := hSw.c1; have q2 := hSw.c2; have q3 := hSw.c3; (try simp only [List.getElem_toArray, List.getElem_cons_zero, List.getElem_cons_succ]); go_simp <;> with_reducible rfl)
  (try simp only [Act.put, List.getElem_toArray, List.getElem_cons_zero, List.getElem_cons_succ, List.setIfInBounds_toArray, List.set_cons_zero, List.set_cons_succ])
  refine wpAnyH_ready (rs := [6]) (by kernel_rfl) (by simp) ?_
  refine AllReadyH.cons rfl (fun K hK => ?_) AllReadyH.nil
  (try simp only [List.getElem_toArray, List.getElem_cons_zero, List.getElem_cons_succ])
  go_simp
  refine (copy_any h.A h.a.length h.c 0 h.a _ (by exact HK.out.a.step BL2.out) (by omega)).mono ?_
  rintro e w3 ⟨A3, c3, rfl, ho, hb3⟩
  have O3 := Lib.hid (ho.base_le BL2.out.size)
  have BL3 := Lib.hid (bel_next BL2.out hb3)
  have HP3 := Lib.hid (HP2.out.step hb3)
  have HC3 := HC2.step hb3
  clear ho hb3
  (try go_wp2_with fail)
  refine hK.out _ _ HC3 (fun hHeld => ?_)
  clear hK K
  (try simp only [Act.put, List.getElem_toArray, List.getElem_cons_zero, List.getElem_cons_succ, List.setIfInBounds_toArray, List.set_cons_zero, List.set_cons_succ])
  refine wpAnyH_ready (rs := [9]) (by kernel_rfl) (by simp) ?_
  refine AllReadyH.cons rfl (fun K hK => ?_) AllReadyH.nil
  (try simp only [List.getElem_toArray, List.getElem_cons_zero, List.getElem_cons_succ])
  go_simp
  refine (copy_any h.B h.b.length h.d 0 h.b _ (by exact HK.out.b.step BL3.out) (by omega)).mono ?_
  rintro e w4 ⟨A4, c4, rfl, ho, hb4⟩
  have O4 := Lib.hid (ho.base_le BL3.out.size)
  have O3' := Lib.hid (O3.out.below hb4)
  have BL4 := Lib.hid (bel_next BL3.out hb4)
  have HP4 := Lib.hid (HP3.out.step hb4)
  have HC4 := HC3.step hb4
  clear ho hb4
  (try go_wp2_with fail)
  refine hK.out _ _ HC4 (fun hHeld => ?_)
  clear hK K
  (try simp only [Act.put, List.getElem_toArray, List.getElem_cons_zero, List.getElem_cons_succ, List.setIfInBounds_toArray, List.set_cons_zero, List.set_cons_succ])
  refine wpAnyH_take (i := 10) (v := ?v10_9) rfl (by kernel_rfl) (by kernel_rfl) (by kernel_rfl) (fun _ _ _ h => h) (Or.inl ⟨by rfl, ?hy10_9⟩) hHeld ?_
  case hy10_9 => (intro w hSw; (try dsimp only at hSw); have q0 := hSw.c0; have q1 := hSw.c1; have q2 := hSw.c2; have q3 := hSw.c3; (try simp only [List.getElem_toArray, List.getElem_cons_zero, List.getElem_cons_succ]); go_simp <;> with_reducible rfl)
  (try simp only [Act.put, List.getElem_toArray, List.getElem_cons_zero, List.getElem_cons_succ, List.setIfInBounds_toArray, List.set_cons_zero, List.set_cons_succ])
  obtain ⟨H9, HV9⟩ : ∃ H9 : Hd, Hid (H9 = ⟨h.f, h.v, A3, c3, h.a, A4, c4, h.b⟩) := ⟨_, Lib.hid rfl⟩
  have e9 : H9.val = .agg #[.int .u8 (h.f.toNat : Int), .int .u32 (h.v : Int), .slice A3 h.a.length c3, .slice A4 h.b.length c4] := by rw [HV9.out]; rfl
  have hpl : H9.pl = h.pl := by rw [HV9.out]; rfl
  have own9 : H9.own w4 w.heap.size := by rw [HV9.out]; exact ⟨O3'.out, O4.out, v32⟩
  have HO9 := Lib.hid (And.intro hpl own9)
  have qs := stHd_m ht_ref HP4.out H9
  have E9 := Lib.hid e9
  rw [e9] at qs
  clear hpl own9 e9
  refine wpAnyH_ready (rs := [11]) (by kernel_rfl) (by simp) ?_
  refine AllReadyH.cons rfl (fun K hK => ?_) AllReadyH.nil
  (try simp only [List.getElem_toArray, List.getElem_cons_zero, List.getElem_cons_succ])
  go_simp
  refine hK.out _ _ (HC4.oth (oth_setCells p _ _ _ _ (Oth.refl _ _)) (by simpa using hpq.symm)) (fun hHeld => ?_)
  clear hK K
  (try simp only [Act.put, List.getElem_toArray, List.getElem_cons_zero, List.getElem_cons_succ, List.setIfInBounds_toArray, List.set_cons_zero, List.set_cons_succ])
  refine wpAnyH_done (by kernel_rfl) ?_ _
  go_wp2_with fail
  have hX : Oth [p] w4 (w4.setCells p 0 H9.cells) := oth_setCells p _ _ _ _ (Oth.refl _ _)
  have hnp : NoB [p] w4 := HP4.out.nob (by decide)
  exact bodyPost_ret (v := H9.val) (res_hd ht_ref rfl _ _ p H9 rfl (HP4.out.whole _)) rfl ⟨H9, rfl, HO9.out.1, HO9.out.2.off hX hnp, BL4.out.trans (hX.below (fun j hj => by rw [List.mem_singleton.1 hj]; exact LP.out) BL4.out.size)⟩
end Go.Proofs.Ytppopdjfecabfaa

/- Layer 10's statements' own first step: a header that is parsed, and written. No condition. -/
namespace Go.Proofs.Ytppopdjfecabfaa
open Go.RowKit
set_option linter.unusedVariables false
set_option linter.unusedSimpArgs false

/-- What a walk over headers carries: rows of bytes, headers, variables that hold one. -/
structure KW (v : World) (rows : List (Option Addr × Nat × Nat × List UInt8)) (hs : List Hd) (bs : List (TypeId × Nat × Hd)) (w : World) : Prop where
  bel : Below v.heap.size v w
  row : ∀ r ∈ rows, RB w w.heap.size r.1 r.2.1 r.2.2.2 ∧ r.2.1 ≤ r.2.2.1 ∧ r.2.2.1 ≤ maxLen
  hd : ∀ h ∈ hs, h.ok w
  box : ∀ b ∈ bs, Hc b.1 w b.2.1 b.2.2
section
variable {v w w' w2 w3 : World} {rows : List (Option Addr × Nat × Nat × List UInt8)} {hs : List Hd} {bs : List (TypeId × Nat × Hd)} {n c base x : Nat} {A : Option Addr} {l : List UInt8} {e : Ending} {T : TypeId} {h : Hd}
theorem KW.step (k : KW v rows hs bs w) (hb : Below w.heap.size w w') : KW v rows hs bs w' :=
  ⟨bel_next k.bel hb, fun r hr => ⟨(k.row r hr).1.step hb, (k.row r hr).2⟩, fun h hh => (k.hd h hh).step hb, fun b hm => (k.box b hm).step hb⟩
theorem KW.add (k : KW v rows hs bs w) (hr : RB w w.heap.size A n l) (h1 : n ≤ c) (h2 : c ≤ maxLen) : KW v ((A, n, c, l) :: rows) hs bs w :=
  ⟨k.bel, fun r hm => by rcases List.mem_cons.1 hm with rfl | hm; exact ⟨hr, h1, h2⟩; exact k.row r hm, k.hd, k.box⟩
theorem KW.own (k : KW v rows hs bs w) (hb : Below w.heap.size w w') (ho : OwnB w' base A n c l) : KW v ((A, n, c, l) :: rows) hs bs w' := (k.step hb).add ho.rb ho.cap.1 ho.cap.2
theorem KW.lit (k : KW v rows hs bs w) (l : List UInt8) (cs : Array Value) (n : Nat) (hc : cs = (bvs l).toArray) (hn : l.length = n) (hm : n ≤ maxLen) : KW v ((some ⟨w.heap.size, 0, none⟩, n, n, l) :: rows) hs bs (w.alloc (.cells cs 5)) :=
  (k.step (below_alloc _ _)).add (RB.lit w l cs n _ hc hn rfl) (Nat.le_refl _) hm
theorem KW.hdr {r : Pl × List UInt8 × Int} (k : KW v rows hs bs w) (q : RetHd r w e w') : ∃ (h : Hd) (A : Option Addr) (n c : Nat), e = .returned (.tuple #[h.val, .slice A n c, .int .i64 r.2.2]) ∧ h.pl = r.1 ∧ r.2.1.length = n ∧ KW v ((A, n, c, r.2.1) :: rows) (h :: hs) bs w' := by
  obtain ⟨h, A, n, c, he, hp, ho, hr, hb⟩ := q
  have k' := k.own hb hr
  exact ⟨h, A, n, c, he, hp, hr.len, k'.bel, k'.row, fun g hm => by rcases List.mem_cons.1 hm with rfl | hm; exact ho.ok; exact k'.hd g hm, k'.box⟩
theorem KW.var (k : KW v rows hs bs w) (hb : Below w.heap.size w w2) (hx : w.heap.size ≤ x) (hc : Hc T w3 x h) (ho : Oth [x] w2 w3) : KW v rows hs ((T, x, h) :: bs) w3 := by
  have hb3 : Below w.heap.size w w3 := hb.trans (ho.below (fun j hj => by rw [List.mem_singleton.1 hj]; exact hx) hb.size)
  have k' := k.step hb3
  exact ⟨k'.bel, k'.row, k'.hd, fun b hm => by rcases List.mem_cons.1 hm with rfl | hm; exact hc; exact k'.box b hm⟩
theorem KW.boxed (k : KW v rows hs bs w) (hc : Hc T w' x h) (hb : Below w.heap.size w w') : KW v rows hs ((T, x, h) :: bs) w' := by
  have k' := k.step hb
  exact ⟨k'.bel, k'.row, k'.hd, fun b hm => by rcases List.mem_cons.1 hm with rfl | hm; exact hc; exact k'.box b hm⟩
theorem KW.addh (k : KW v rows hs bs w) (hh : h.ok w) : KW v rows (h :: hs) bs w :=
  ⟨k.bel, k.row, fun g hm => by rcases List.mem_cons.1 hm with rfl | hm; exact hh; exact k.hd g hm, k.box⟩
theorem KW.start (w : World) : KW w [] [] [] w := ⟨Below.refl _ _, fun r hr => (by cases hr), fun r hr => (by cases hr), fun r hr => (by cases hr)⟩
end
theorem zero_ok (w : World) : zeroH.ok w := (Hd.own.zero w w.heap.size).ok
theorem ph_1 : prs [192, 0, 0, 0, 1, 2, 7, 8, 0, 5] = ((192, 1, [7, 8], []), [5], 0) := by decide +kernel
theorem ph_2 : prs [64] = (zeroP, [], 14) := by decide +kernel
theorem ph_3 : prs [192, 0, 0, 0, 1, 2, 7, 8] = (zeroP, [], 12) := by decide +kernel
theorem ph_4 : byt (192, 1, [7, 8], []) = ([192, 0, 0, 0, 1, 2, 7, 8, 0], 0) := by decide +kernel
theorem ph_5 : idN [1, 2, 3] 2 = ([2, 3], 0) := by decide +kernel
theorem ph_6 : idN [1, 2] 2 = ([], 12) := by decide +kernel
theorem pl_parts {h : Hd} {f : UInt8} {v : Nat} {a b : List UInt8} (e : h.pl = (f, v, a, b)) : h.f = f ∧ h.v = v ∧ h.a = a ∧ h.b = b := by
  unfold Hd.pl at e
  injection e with e1 e
  injection e with e2 e
  injection e with e3 e4
  exact ⟨e1, e2, e3, e4⟩
attribute [local irreducible] prs byt idN
attribute [local go_sem ↓] ex_ldHd ex_stHd

end Go.Proofs.Ytppopdjfecabfaa

/- Layer 10, plainly: what is parsed is written as it was, what is written is parsed, of fewer bytes the end is told. Nothing is claimed of the program here. -/
namespace Go.Proofs.Ytppopdjfecabfaa
open Go.RowKit
set_option linter.unusedVariables false
set_option linter.unusedSimpArgs false

theorem numH_put : ∀ (k n : Nat), numL (putL n k) + 256 ^ k * downL n k = n
  | 0, n => by simp [putL, numL, downL]
  | k + 1, n => by
    have ih := numH_put k (n / 256)
    rw [putL, numL_snoc, ← downL_comm]
    have e : (UInt8.ofNat n).toNat = n % 256 := by simp
    rw [e, Nat.pow_succ]
    have h2 : 256 ^ k * 256 * downL (n / 256) k = 256 * (256 ^ k * downL (n / 256) k) := by rw [Nat.mul_comm (256 ^ k) 256, Nat.mul_assoc]
    rw [h2]
    omega
theorem numH_four (n : Nat) (hn : n < 2 ^ 32) : numL (putL n 4) = n := by
  have h := numH_put 4 n
  have hd : downL n 4 = 0 := by show n / 256 / 256 / 256 / 256 = 0; omega
  rw [hd] at h
  omega
theorem putH_num : ∀ (k : Nat) (l : List UInt8), l.length = k → putL (numL l) k = l
  | 0, l, h => by rw [List.eq_nil_of_length_eq_zero h]; rfl
  | k + 1, l, h => by
    obtain ⟨m, x, rfl⟩ : ∃ m x, l = m ++ [x] := by
      have hne : l ≠ [] := fun e => by rw [e] at h; cases h
      exact ⟨l.dropLast, l.getLast hne, (List.dropLast_concat_getLast hne).symm⟩
    have hm : m.length = k := by simpa using h
    have hx := x.toNat_lt
    rw [putL, numL_snoc, show (numL m * 256 + x.toNat) / 256 = numL m by omega, putH_num k m hm]
    have e : UInt8.ofNat (numL m * 256 + x.toNat) = x := by
      apply UInt8.toNat_inj.1
      simp
    rw [e]
theorem idL_app (a r : List UInt8) (h : a.length ≤ 255) : idL (UInt8.ofNat a.length :: a ++ r) = some (a, r) := by
  have e : (UInt8.ofNat a.length).toNat = a.length := by simp; omega
  rw [List.cons_append, show idL (UInt8.ofNat a.length :: (a ++ r)) = if (a ++ r).length < (UInt8.ofNat a.length).toNat then none else some ((a ++ r).take (UInt8.ofNat a.length).toNat, (a ++ r).drop (UInt8.ofNat a.length).toNat) from rfl, e, if_neg (by simp)]
  simp
theorem idL_back {l a r : List UInt8} (h : idL l = some (a, r)) : a.length ≤ 255 ∧ l = UInt8.ofNat a.length :: a ++ r := by
  obtain ⟨f, t, rfl, h1, rfl, rfl⟩ := idL_some h
  have hf := f.toNat_lt
  have hl : (t.take f.toNat).length = f.toNat := by rw [List.length_take]; omega
  refine ⟨by omega, ?_⟩
  rw [hl]
  simp
/-- A header that there is. -/
structure Pgood (p : Pl) : Prop where
  f : ¬ p.1.toNat < 128
  v : p.2.1 ≤ 4294967295
  a : p.2.2.1.length ≤ 255
  b : p.2.2.2.length ≤ 255
theorem byt_good {p : Pl} (h : Pgood p) : byt p = (rawP p, 0) := byt_ok p h.f (by have := h.a; have := h.b; omega)
theorem byt_cases (p : Pl) (hv : p.2.1 ≤ 4294967295) : (byt p = ([], 14) ∧ p.1.toNat < 128) ∨ (byt p = ([], 15) ∧ ¬ p.1.toNat < 128) ∨ (byt p = (rawP p, 0) ∧ Pgood p) := by
  by_cases hf : p.1.toNat < 128
  · exact .inl ⟨if_pos hf, hf⟩
  · by_cases h1 : 255 < p.2.2.1.length ∨ 255 < p.2.2.2.length
    · exact .inr (.inl ⟨byt_long p hf h1, hf⟩)
    · exact .inr (.inr ⟨byt_ok p hf h1, hf, hv, by omega, by omega⟩)
theorem raw_len (p : Pl) : (rawP p).length = 7 + p.2.2.1.length + p.2.2.2.length := by
  unfold rawP
  simp [putL_len]
  omega
theorem prs_raw (p : Pl) (h : Pgood p) (r : List UInt8) : prs (rawP p ++ r) = (p, r, 0) := by
  obtain ⟨f, v, a, b⟩ := p
  have hf := h.f
  have hv : v ≤ 4294967295 := h.v
  have h4 : (putL v 4).length = 4 := putL_len v 4
  have e : rawP (f, v, a, b) ++ r = f :: (putL v 4 ++ (UInt8.ofNat a.length :: a ++ (UInt8.ofNat b.length :: b ++ r))) := by
    unfold rawP
    simp
  rw [e, prs_more f _ hf (by simp [h4])]
  rw [List.take_append_of_le_length (by omega), List.take_of_length_le (by omega), List.drop_append_of_le_length (by omega), List.drop_of_length_le (by omega), List.nil_append, numH_four v (by omega)]
  unfold prs2
  rw [idL_app a _ h.a]
  simp only
  rw [idL_app b _ h.b]
theorem prs_back {l : List UInt8} (h : (prs l).2.2 = 0) : Pgood (prs l).1 ∧ rawP (prs l).1 ++ (prs l).2.1 = l := by
  rcases l with _ | ⟨f, t⟩
  · exact absurd h (by decide)
  · by_cases hf : f.toNat < 128
    · rw [prs_kind f t hf] at h; exact absurd h (by decide)
    by_cases h4 : t.length < 4
    · rw [prs_few f t hf h4] at h; exact absurd h (by decide)
    rw [prs_more f t hf h4] at h ⊢
    have h32 : numL (t.take 4) ≤ 4294967295 := by
      have h1 := numL_lt 4 (t.take 4) (by rw [List.length_take]; omega)
      have h2 : (256 : Nat) ^ 4 = 4294967296 := by decide
      omega
    have hp : putL (numL (t.take 4)) 4 = t.take 4 := putH_num 4 (t.take 4) (by rw [List.length_take]; omega)
    have hs : t = t.take 4 ++ t.drop 4 := (List.take_append_drop 4 t).symm
    unfold prs2 at h ⊢
    rcases h1 : idL (t.drop 4) with _ | ⟨a, r⟩
    · rw [h1] at h; exact absurd (show (12 : Int) = 0 from h) (by decide)
    · rw [h1] at h
      simp only at h ⊢
      rcases h2 : idL r with _ | ⟨b, q⟩
      · rw [h2] at h; exact absurd (show (12 : Int) = 0 from h) (by decide)
      · simp only
        obtain ⟨k1, e1⟩ := idL_back h1
        obtain ⟨k2, e2⟩ := idL_back h2
        refine ⟨⟨hf, h32, k1, k2⟩, ?_⟩
        unfold rawP
        simp only
        rw [hp]
        conv => rhs; rw [hs, e1, e2]
        simp
theorem prs_err {l : List UInt8} (h : (prs l).2.2 ≠ 0) : (prs l).1 = zeroP ∧ (prs l).2.1 = [] := by
  rcases l with _ | ⟨f, t⟩
  · exact ⟨rfl, rfl⟩
  · by_cases hf : f.toNat < 128
    · rw [prs_kind f t hf]; exact ⟨rfl, rfl⟩
    by_cases h4 : t.length < 4
    · rw [prs_few f t hf h4]; exact ⟨rfl, rfl⟩
    rw [prs_more f t hf h4] at h ⊢
    unfold prs2 at h ⊢
    rcases h1 : idL (t.drop 4) with _ | ⟨a, r⟩
    · exact ⟨rfl, rfl⟩
    · rw [h1] at h
      simp only at h ⊢
      rcases h2 : idL r with _ | ⟨b, q⟩
      · exact ⟨rfl, rfl⟩
      · rw [h2] at h; exact absurd rfl h
theorem prs_code (l : List UInt8) : (prs l).2.2 = 0 ∨ (prs l).2.2 = 12 ∨ (prs l).2.2 = 14 ∧ ∃ f t, l = f :: t ∧ f.toNat < 128 := by
  rcases l with _ | ⟨f, t⟩
  · exact .inr (.inl rfl)
  · by_cases hf : f.toNat < 128
    · rw [prs_kind f t hf]; exact .inr (.inr ⟨rfl, f, t, rfl, hf⟩)
    by_cases h4 : t.length < 4
    · rw [prs_few f t hf h4]; exact .inr (.inl rfl)
    rw [prs_more f t hf h4]
    unfold prs2
    rcases h1 : idL (t.drop 4) with _ | ⟨a, r⟩
    · exact .inr (.inl rfl)
    · simp only
      rcases h2 : idL r with _ | ⟨b, q⟩
      · exact .inr (.inl rfl)
      · exact .inl rfl
/-- Of fewer bytes the end is told. -/
theorem prs_cut (p : Pl) (h : Pgood p) (k : Nat) (hk : k < (rawP p).length) : (prs ((rawP p).take k)).2.2 = 12 := by
  rcases prs_code ((rawP p).take k) with h0 | h0 | ⟨_, f, t, e, hf⟩
  · exfalso
    obtain ⟨g, e⟩ := prs_back h0
    have e1 := prs_raw _ g ((prs ((rawP p).take k)).2.1 ++ (rawP p).drop k)
    rw [← List.append_assoc, e, List.take_append_drop] at e1
    have e2 := prs_raw p h []
    rw [List.append_nil, e1] at e2
    have e3 : (prs ((rawP p).take k)).2.1 ++ (rawP p).drop k = [] := congrArg (fun x => x.2.1) e2
    have e4 := congrArg List.length e3
    rw [List.length_append, List.length_drop] at e4
    simp only [List.length_nil] at e4
    omega
  · exact h0
  · exfalso
    rcases k with _ | k
    · simp at e
    · have : (rawP p).take (k + 1) = p.1 :: ((putL p.2.1 4 ++ (UInt8.ofNat p.2.2.1.length :: p.2.2.1) ++ (UInt8.ofNat p.2.2.2.length :: p.2.2.2)).take k) := rfl
      rw [this] at e
      injection e with e _
      rw [← e] at hf
      exact h.f hf
/-- Unlike headers have unlike bytes. -/
theorem raw_inj {p q : Pl} (h : Pgood p) (g : Pgood q) : (rawP p == rawP q) = decide (p = q) := by
  by_cases e : p = q
  · subst e; simp
  · rw [decide_eq_false e, beq_eq_false_iff_ne]
    intro k
    have e1 := prs_raw p h []
    rw [k, prs_raw q g []] at e1
    exact e (congrArg (fun x => x.1) e1).symm
theorem long_raw (p : Pl) (h : Pgood p) (r : List UInt8) : lngL (rawP p ++ r) = true := decide_eq_true (by have := h.f; show 128 ≤ p.1.toNat; omega)
theorem raw_drop (p : Pl) (hv : p.2.1 ≤ 4294967295) : (rawP p).drop 5 = UInt8.ofNat p.2.2.1.length :: p.2.2.1 ++ (UInt8.ofNat p.2.2.2.length :: p.2.2.2) := by
  have h4 : (putL p.2.1 4).length = 4 := putL_len _ 4
  show (putL p.2.1 4 ++ (UInt8.ofNat p.2.2.1.length :: p.2.2.1) ++ (UInt8.ofNat p.2.2.2.length :: p.2.2.2)).drop 4 = _
  rw [List.append_assoc, List.drop_append_of_le_length (by omega), List.drop_of_length_le (by omega), List.nil_append]
end Go.Proofs.Ytppopdjfecabfaa

