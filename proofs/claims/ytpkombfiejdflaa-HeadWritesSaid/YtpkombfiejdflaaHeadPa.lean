/- Layer 10's Parse, of any bytes. Condition: at most a million bytes. -/
import Derived.Test.YtpkombfiejdflaaHeadP
namespace Go.Proofs.Ytpkombfiejdflaa
open Go.RowKit
set_option linter.unusedVariables false
set_option linter.unusedSimpArgs false
attribute [local irreducible] numS shortS restS prs
attribute [local go_sem ↓] ex_ldHd ex_stHd

theorem wrap8 (n : Nat) (f : UInt8) (h : n = f.toNat) : IntKind.u8.wrap (n : Int) = (f.toNat : Int) := by
  subst h
  rw [IntKind.wrap_u8]
  have := f.toNat_lt
  omega
theorem wrap32 (n : Nat) (h : n ≤ 4294967295) : IntKind.u32.wrap (n : Int) = (n : Int) := by
  rw [IntKind.wrap_u32]
  omega
set_option maxRecDepth 100000 in
set_option maxHeartbeats 4000000 in
theorem parse_any (A : Option Addr) (n c : Nat) (l : List UInt8) (w : World) (h : RB w w.heap.size A n l) (hn : n ≤ 1000000) :
    Calls Try.prog 9 #[.slice A n c] w (RetHd (prs l) w) := by
  have hl := h.len
  rcases l with _ | ⟨f, t⟩
  · have hp : prs [] = (zeroP, [], 12) := by unfold prs; rfl
    rw [hp]
    subst hl
    have HQ : Hc 27 (w.alloc (.cells zeroH.cells.toArray 27)) w.heap.size zeroH := Hc.new _ _ _ _ rfl
    clear h hp
    go_enter Try.func9, Try.ntmps9
    go_wp2_with (first
      | (refine wpList_allocH ht_head rfl rfl ?_)
      | (refine wpList_stH ht_head rfl (.tmp 2) (.tmp 11) rfl w.heap.size rfl zeroH zeroH rfl (by exact HQ) ?_; intro w2 hc2 ho2 hs2; have H2 := Lib.hid (And.intro hc2 ho2); clear hc2 ho2 hs2))
    exact bodyPost_ret (v := .tuple #[zeroH.val, .slice none 0 0, .int .i64 12]) (res_hd3 ht_head rfl _ _ w.heap.size zeroH _ _ rfl rfl rfl H2.out.1) rfl ⟨zeroH, none, 0, 0, rfl, rfl, Hd.own.zero _ _, OwnB.nil_ _ _, (below_alloc _ _).trans (H2.out.2.below (by simp) (by simp))⟩
  · by_cases hf : f.toNat < 128
    · have hp : prs (f :: t) = (zeroP, [], 14) := by unfold prs; exact if_pos hf
      rw [hp]
      have hv : longL (f :: t) = false := decide_eq_false (by omega)
      have HQ : Hc 27 (w.alloc (.cells zeroH.cells.toArray 27)) w.heap.size zeroH := Hc.new _ _ _ _ rfl
      have hne : ((n : Int) == 0) = false := by rw [beq_eq_false_iff_ne]; rw [← hl]; simp only [List.length_cons]; omega
      have HL := Lib.hid (hlong_any A n c _ _ (h.step (below_alloc w (.cells zeroH.cells.toArray 27))) _ hv)
      clear h hp hl hv
      go_enter Try.func9, Try.ntmps9
      go_wp2_with (first
        | (refine wpList_allocH ht_head rfl rfl ?_))
      refine HL.out.mono ?_
      rintro e w1 ⟨rfl, rfl⟩
      go_wp2_with (first
        | (refine wpList_stH ht_head rfl (.tmp 2) (.tmp 15) rfl w.heap.size rfl zeroH zeroH rfl (by exact HQ) ?_; intro w2 hc2 ho2 hs2; have H2 := Lib.hid (And.intro hc2 ho2); clear hc2 ho2 hs2))
      exact bodyPost_ret (v := .tuple #[zeroH.val, .slice none 0 0, .int .i64 14]) (res_hd3 ht_head rfl _ _ w.heap.size zeroH _ _ rfl rfl rfl H2.out.1) rfl ⟨zeroH, none, 0, 0, rfl, rfl, Hd.own.zero _ _, OwnB.nil_ _ _, (below_alloc _ _).trans (H2.out.2.below (by simp) (by simp))⟩
    · rw [prs_chain f t (by omega)]
      have hv : longL (f :: t) = true := decide_eq_true (by omega)
      have hne : ((n : Int) == 0) = false := by rw [beq_eq_false_iff_ne]; rw [← hl]; simp only [List.length_cons]; omega
      have hb0 := below_alloc w (.cells zeroH.cells.toArray 27)
      have HL := Lib.hid (hlong_any A n c _ _ (h.step hb0) _ hv)
      have hb1 := hb0.trans ((below_alloc (w.alloc (.cells zeroH.cells.toArray 27)) (.cells zeroH.cells.toArray 27)).mono hb0.size)
      have HR := Lib.hid (read_any A n c _ _ (h.step hb1) hn)
      have HQ : Hid (Hc 27 ((w.alloc (.cells zeroH.cells.toArray 27)).alloc (.cells zeroH.cells.toArray 27)) w.heap.size zeroH) := Lib.hid ((Hc.new w _ _ _ rfl).step (below_alloc _ _))
      have HG : Hid (Hc 27 ((w.alloc (.cells zeroH.cells.toArray 27)).alloc (.cells zeroH.cells.toArray 27)) (w.heap.size + 1) zeroH) := Lib.hid (Hc.new _ _ _ _ (by simp))
      have HB := Lib.hid hb1
      have HN1 : Hid (numS 1 (0, f :: t) = (f.toNat, 0, t)) := Lib.hid (num1_ok f t)
      obtain ⟨r2, HR2⟩ : ∃ r, Hid (r = numS 4 (0, t)) := ⟨_, Lib.hid rfl⟩
      have h32 : r2.1 ≤ 4294967295 := by rw [HR2.out]; exact num4_le _
      rw [← HR2.out]
      obtain ⟨r3, HR3⟩ : ∃ r, Hid (r = shortS r2.2) := ⟨_, Lib.hid rfl⟩
      rw [← HR3.out]
      obtain ⟨r4, HR4⟩ : ∃ r, Hid (r = shortS r3.2) := ⟨_, Lib.hid rfl⟩
      rw [← HR4.out]
      obtain ⟨R, HRR⟩ : ∃ R : Pl × List UInt8 × Int, Hid (R = if r4.2.1 = 0 then ((f, r2.1, r3.1, r4.1), r4.2.2, 0) else (zeroP, [], r4.2.1)) := ⟨_, Lib.hid rfl⟩
      rw [← HRR.out]
      have wf := wrap8 f.toNat f rfl
      have wv := wrap32 r2.1 h32
      clear h hl hv hb0 hb1 hf
      go_enter Try.func9, Try.ntmps9
      go_wp2_with (first
        | (refine wpList_allocH ht_head rfl rfl ?_))
      refine HL.out.mono ?_
      rintro e w1 ⟨rfl, rfl⟩
      clear HL
      go_wp2_with (first
        | (refine wpList_allocH ht_head rfl rfl ?_))
      refine HR.out.mono ?_
      rintro e w3 ⟨x, rfl, hx, hb, hr⟩
      have K1 : Hid (PK w x (w.heap.size + 1) w.heap.size zeroH (0, f :: t) w3) := Lib.hid ⟨HB.out.trans (hb.mono HB.out.size), Nat.le_trans HB.out.size hx, by omega, by omega, by omega, hr, HG.out.step hb, HQ.out.step hb, Hd.own.zero _ _⟩
      obtain ⟨g, HGG⟩ : ∃ g, Hid (w.heap.size + 1 = g) := ⟨_, Lib.hid rfl⟩
      obtain ⟨q, HQQ⟩ : ∃ g, Hid (w.heap.size = g) := ⟨_, Lib.hid rfl⟩
      have K1' : Hid (PK w x g q zeroH (0, f :: t) w3) := Lib.hid (by rw [← HGG.out, ← HQQ.out]; exact K1.out)
      rw [HGG.out, HQQ.out]
      clear hx hb hr HR HB HQ HG K1
      go_wp2_with fail
      refine (rnum_any x 1 _ _ K1'.out.rd (by decide)).mono ?_
      rw [HN1.out]
      rintro e w4 ⟨rfl, ho, hr⟩
      have K2 := Lib.hid (K1'.out.call ho hr)
      have c0 := K2.out.hd.c0
      have f0 := K2.out.hd.free 0
      clear ho hr K1'
      go_wp2_with fail
      have K3 := Lib.hid (K2.out.put0 f)
      clear c0 f0 K2
      refine (rnum_any x 4 _ _ K3.out.rd (by decide)).mono ?_
      rw [← HR2.out]
      rintro e w5 ⟨rfl, ho, hr⟩
      have K4 := Lib.hid (K3.out.call ho hr)
      have c0 := K4.out.hd.c1
      have f0 := K4.out.hd.free 1
      clear ho hr K3
      go_wp2_with fail
      have K5 := Lib.hid (K4.out.put1 r2.1 h32)
      clear c0 f0 K4
      refine (rshort_any x _ _ K5.out.rd).mono ?_
      rw [← HR3.out]
      rintro e w6 ⟨A1, n1, c1, rfl, ho1, ho, hr⟩
      have K6 := Lib.hid (K5.out.call ho hr)
      have O6 := Lib.hid (ho1.base_le K5.out.bel.size)
      have c0 := K6.out.hd.c2
      have f0 := K6.out.hd.free 2
      clear ho hr ho1 K5
      go_wp2_with fail
      have K7 := Lib.hid (K6.out.put2 O6.out)
      clear c0 f0 K6 O6
      refine (rshort_any x _ _ K7.out.rd).mono ?_
      rw [← HR4.out]
      rintro e w7 ⟨A2, n2, c2, rfl, ho1, ho, hr⟩
      have K8 := Lib.hid (K7.out.call ho hr)
      have O8 := Lib.hid (ho1.base_le K7.out.bel.size)
      have c0 := K8.out.hd.c3
      have f0 := K8.out.hd.free 3
      clear ho hr ho1 K7
      go_wp2_with fail
      have K9 := Lib.hid (K8.out.put3 O8.out)
      clear c0 f0 K8 O8
      obtain ⟨w9, HW9⟩ : ∃ w9, Hid (w7.setCell ⟨g, 3, none⟩ (.slice A2 n2 c2) = w9) := ⟨_, Lib.hid rfl⟩
      rw [HW9.out] at K9 ⊢
      refine (err_any x _ _ K9.out.rd).mono ?_
      rintro e w8 ⟨rfl, rfl⟩
      by_cases h0 : r4.2.1 = 0
      · have HE : Hid (R = ((f, r2.1, r3.1, r4.1), r4.2.2, 0)) := Lib.hid (by rw [HRR.out, if_pos h0])
        have hb : (r4.2.1 != 0) = false := by rw [h0]; rfl
        go_wp2_with fail
        obtain ⟨H9, KH⟩ : ∃ H9, Hid (PK w x g q H9 r4.2 w9.drew ∧ H9.pl = (f, r2.1, r3.1, r4.1)) := ⟨_, Lib.hid ⟨K9.out.step (Below.refl _ _).drew, rfl⟩⟩
        refine wp_region_held_drew (S := fun w' => Hc 27 w' g H9) (by kernel_rfl) KH.out.1.hd (fun hHeld => ?_)
        (try dsimp only at hHeld)
        refine wpAnyH_take (i := 0) (v := ?v0_1) rfl (by kernel_rfl) (by kernel_rfl) (by kernel_rfl) (fun _ _ _ h => h) (Or.inl ⟨by rfl, ?hy0_1⟩) hHeld ?_
        case hy0_1 => (intro w hSw; (try dsimp only at hSw); have hq := ldHd_m ht_head hSw; (try simp only [List.getElem_toArray, List.getElem_cons_zero, List.getElem_cons_succ]); go_simp <;> with_reducible rfl)
        (try simp only [Act.put, List.getElem_toArray, List.getElem_cons_zero, List.getElem_cons_succ, List.setIfInBounds_toArray, List.set_cons_zero, List.set_cons_succ])
        refine wpAnyH_take (i := 1) (v := ?v1_2) rfl (by kernel_rfl) (by kernel_rfl) (by kernel_rfl) (fun _ _ _ h => h) (Or.inl ⟨by rfl, ?hy1_2⟩) hHeld ?_
        case hy1_2 => (intro w hSw; (try dsimp only at hSw); have hq := ldHd_m ht_head hSw; (try simp only [List.getElem_toArray, List.getElem_cons_zero, List.getElem_cons_succ]); go_simp <;> with_reducible rfl)
        (try simp only [Act.put, List.getElem_toArray, List.getElem_cons_zero, List.getElem_cons_succ, List.setIfInBounds_toArray, List.set_cons_zero, List.set_cons_succ])
        refine wpAnyH_ready (rs := [2]) (by kernel_rfl) (by simp) ?_
        refine AllReadyH.cons rfl (fun K hK => ?_) AllReadyH.nil
        (try simp only [List.getElem_toArray, List.getElem_cons_zero, List.getElem_cons_succ])
        go_simp
        refine (rrest_any x _ _ KH.out.1.rd).mono ?_
        rintro e w8 ⟨A3, n3, c3, rfl, ho1, ho, hr⟩
        have K10 := Lib.hid (KH.out.1.call ho hr)
        have O10 := Lib.hid (ho1.base_le KH.out.1.bel.size)
        have q4 := stHd_m ht_head K10.out.hq H9
        clear ho hr ho1
        (try go_wp2_with fail)
        refine hK.out _ _ K10.out.hd (fun hHeld => ?_)
        clear hK K
        (try simp only [Act.put, List.getElem_toArray, List.getElem_cons_zero, List.getElem_cons_succ, List.setIfInBounds_toArray, List.set_cons_zero, List.set_cons_succ])
        refine wpAnyH_ready (rs := [3]) (by kernel_rfl) (by simp) ?_
        refine AllReadyH.cons rfl (fun K hK => ?_) AllReadyH.nil
        (try simp only [List.getElem_toArray, List.getElem_cons_zero, List.getElem_cons_succ])
        go_simp
        refine hK.out _ _ (K10.out.hd.oth (oth_setCells q _ _ _ _ (Oth.refl _ _)) (by simpa using K10.out.gq)) (fun hHeld => ?_)
        clear hK K
        (try simp only [Act.put, List.getElem_toArray, List.getElem_cons_zero, List.getElem_cons_succ, List.setIfInBounds_toArray, List.set_cons_zero, List.set_cons_succ])
        refine wpAnyH_take (i := 4) (v := ?v4_3) rfl (by kernel_rfl) (by kernel_rfl) (by kernel_rfl) (fun _ _ _ h => h) (Or.inl ⟨by rfl, ?hy4_3⟩) hHeld ?_
        case hy4_3 => (intro w hSw; (try dsimp only at hSw); have hq := ldHd_m ht_head hSw; (try simp only [List.getElem_toArray, List.getElem_cons_zero, List.getElem_cons_succ]); go_simp <;> with_reducible rfl)
        (try simp only [Act.put, List.getElem_toArray, List.getElem_cons_zero, List.getElem_cons_succ, List.setIfInBounds_toArray, List.set_cons_zero, List.set_cons_succ])
        refine wpAnyH_take (i := 5) (v := ?v5_4) rfl (by kernel_rfl) (by kernel_rfl) (by kernel_rfl) (fun _ _ _ h => h) (Or.inl ⟨by rfl, ?hy5_4⟩) hHeld ?_
        case hy5_4 => (intro w hSw; (try dsimp only at hSw); have hq := ldHd_m ht_head hSw; (try simp only [List.getElem_toArray, List.getElem_cons_zero, List.getElem_cons_succ]); go_simp <;> with_reducible rfl)
        (try simp only [Act.put, List.getElem_toArray, List.getElem_cons_zero, List.getElem_cons_succ, List.setIfInBounds_toArray, List.set_cons_zero, List.set_cons_succ])
        refine wpAnyH_done (by kernel_rfl) ?_ _
        go_wp2_with fail
        have hX : Oth [q] w8 (w8.setCells q 0 H9.cells) := oth_setCells q _ _ _ _ (Oth.refl _ _)
        have hnq : NoB [q] w8 := K10.out.hq.nob (by decide)
        have er : restS r4.2 = (r4.2.2, 0, []) := by
          rw [show r4.2 = (0, r4.2.2) from by rw [← h0]]
          exact rest_0 _
        rw [er] at O10
        rw [HE.out]
        exact bodyPost_ret (v := .tuple #[H9.val, .slice A3 n3 c3, .int .i64 0]) (res_hd3 ht_head rfl _ _ q H9 _ _ rfl rfl rfl (K10.out.hq.whole H9)) rfl ⟨H9, A3, n3, c3, rfl, KH.out.2, K10.out.own.off hX hnq, O10.out.off hX hnq, K10.out.bel.trans (hX.below (fun j hj => by rw [List.mem_singleton.1 hj]; exact K10.out.lq) K10.out.bel.size)⟩
      · have HE : Hid (R = (zeroP, [], r4.2.1)) := Lib.hid (by rw [HRR.out, if_neg h0])
        have hb : (r4.2.1 != 0) = true := by simpa using h0
        go_wp2_with (first
          | (refine wpList_stH ht_head rfl (.tmp 2) (.tmp 36) rfl q rfl zeroH zeroH rfl (by exact K9.out.hq) ?_; intro w2 hc2 ho2 hs2; have H2 := Lib.hid (And.intro hc2 ho2); clear hc2 ho2 hs2))
        rw [HE.out]
        exact bodyPost_ret (v := .tuple #[zeroH.val, .slice none 0 0, .int .i64 r4.2.1]) (res_hd3 ht_head rfl _ _ q zeroH _ _ rfl rfl rfl H2.out.1) rfl ⟨zeroH, none, 0, 0, rfl, rfl, Hd.own.zero _ _, OwnB.nil_ _ _, K9.out.bel.trans (H2.out.2.below (fun j hj => by rw [List.mem_singleton.1 hj]; exact K9.out.lq) K9.out.bel.size)⟩
end Go.Proofs.Ytpkombfiejdflaa
