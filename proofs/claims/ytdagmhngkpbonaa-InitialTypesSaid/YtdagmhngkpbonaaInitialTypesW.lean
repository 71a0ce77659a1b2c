/- Layer 11's statement InitialTypes, walked. No condition. -/
import Derived.Test.YtdagmhngkpbonaaIniV
import Derived.Test.YtdagmhngkpbonaaOpen
namespace Go.Proofs.Ytdagmhngkpbonaa
open Go.RowKit
set_option linter.unusedVariables false
set_option linter.unusedSimpArgs false
theorem mk_zero (to frm tok rest : List UInt8) (h1 : to.length ≤ 20) (h2 : frm.length ≤ 20) : mkI (madeP to frm tok rest) 0 = (irawP (madeP to frm tok rest), 0) := by
  rw [mk_made to frm tok rest 0 h1 h2 (by decide)]
  simp
theorem iprs_few (f : UInt8) (v : Nat) (a b t r : List UInt8) (hf : f.toNat < 128) : iprs (irawP ((f, v, a, b), t, r)) = (zeroIP, 14) := by
  have e : prs (irawP ((f, v, a, b), t, r)) = (zeroP, [], 14) := prs_kind f _ hf
  unfold iprs
  rw [e]
  rfl
theorem iraw_len (f g : UInt8) (v : Nat) (a b t r : List UInt8) : (irawP ((f, v, a, b), t, r)).length = (irawP ((g, v, a, b), t, r)).length := by
  rw [← iraw_set f g]
  simp
theorem iraw_pos (p : IPl) : 7 ≤ (irawP p).length := by
  unfold irawP
  rw [List.length_append, List.length_append, raw_len]
  omega
theorem iraw_le (p : Pl) (t r : List UInt8) : (irawP (p, t, r)).length ≤ 15 + p.2.2.1.length + p.2.2.2.length + t.length + r.length := by
  unfold irawP
  have := longP_len t
  rw [List.length_append, List.length_append, raw_len]
  simp only
  omega
theorem iraw_0 (f : UInt8) (v : Nat) (a b t r : List UInt8) : (irawP ((f, v, a, b), t, r))[0]? = some f := rfl
theorem iprs_ty (f : UInt8) (a b t r : List UInt8) (hf : ¬ f.toNat < 128) (ha : a.length ≤ 20) (hb : b.length ≤ 20) (ht : t.length ≤ 1000000) : iprs (irawP ((f, 1, a, b), t, r)) = if typ f = 0 then (((f, 1, a, b), t, r), 0) else (zeroIP, 14) := by
  rw [iprs_raw (f, 1, a, b) t r ⟨hf, by simp, by simp only; omega, by simp only; omega⟩ ht]
  have hc : chk (f, 1, a, b) = if typ f = 0 then 0 else 14 := by
    unfold chk
    by_cases h : typ f = 0
    · rw [if_pos h, if_neg (fun k => by rcases k with k | k | k; exact hf k; exact k rfl; exact k h), if_neg (by simp only; omega)]
    · rw [if_neg h, if_pos (.inr (.inr h))]
  rw [hc]
  by_cases h : typ f = 0
  · rw [if_pos h, if_pos h, if_neg (fun k => k rfl)]
  · rw [if_neg h, if_neg h, if_pos (by decide)]
attribute [local irreducible] iprs ibyt mkI irawP typ
attribute [local go_sem ↓] ex_ldHd ex_stHd ex_ldHr ex_stHr ex_ldI ex_ldIr ex_stI ex_stIr
set_option maxRecDepth 100000 in
set_option maxHeartbeats 8000000 in
theorem InitialTypes_walk (A0 : Option Addr) (n0 c0 : Nat) (l0 : List UInt8) (A1 : Option Addr) (n1 c1 : Nat) (l1 : List UInt8) (A2 : Option Addr) (n2 c2 : Nat) (l2 : List UInt8) (A3 : Option Addr) (n3 c3 : Nat) (l3 : List UInt8) (x4 : Int) (w : World) (h0 : RB w w.heap.size A0 n0 l0) (m0 : n0 ≤ c0 ∧ c0 ≤ maxLen) (h1 : RB w w.heap.size A1 n1 l1) (m1 : n1 ≤ c1 ∧ c1 ≤ maxLen) (h2 : RB w w.heap.size A2 n2 l2) (m2 : n2 ≤ c2 ∧ c2 ≤ maxLen) (h3 : RB w w.heap.size A3 n3 l3) (m3 : n3 ≤ c3 ∧ c3 ≤ maxLen) (h4 : (Lit.int .u8 x4).wf = true) :
    Calls Try.prog 5 #[.slice A0 n0 c0, .slice A1 n1 c1, .slice A2 n2 c2, .slice A3 n3 c3, .int .u8 x4] w fun e w' => e = .returned (.bool true) ∧ Below w.heap.size w w' := by
  obtain ⟨low, rfl⟩ := byte_of h4
  clear h4
  have hl0 := h0.len
  subst hl0
  have hl1 := h1.len
  subst hl1
  have hl2 := h2.len
  subst hl2
  have hl3 := h3.len
  subst hl3
  have HR := Lib.hid (And.intro h0 (And.intro h1 (And.intro h2 h3)))
  have HM := Lib.hid (And.intro m0 (And.intro m1 (And.intro m2 m3)))
  clear h0 h1 h2 h3 m0 m1 m2 m3
  by_cases t0 : 20 < l0.length
  · have d0 : decide (20 < (l0.length : Int)) = true := decide_eq_true (by omega)
    go_enter Try.func5, Try.ntmps5
    go_wp2_with fail
    refine (ialive_any _).mono ?_
    rintro e w1 ⟨rfl, hb1⟩
    have B1 := Lib.hid hb1
    clear hb1
    go_wp2_with fail
    go_ret
    exact ⟨rfl, B1.out⟩
  have d0 : decide (20 < (l0.length : Int)) = false := decide_eq_false (by omega)
  by_cases t1 : 20 < l1.length
  · have d1 : decide (20 < (l1.length : Int)) = true := decide_eq_true (by omega)
    go_enter Try.func5, Try.ntmps5
    go_wp2_with fail
    refine (ialive_any _).mono ?_
    rintro e w1 ⟨rfl, hb1⟩
    have B1 := Lib.hid hb1
    clear hb1
    go_wp2_with fail
    go_ret
    exact ⟨rfl, B1.out⟩
  have d1 : decide (20 < (l1.length : Int)) = false := decide_eq_false (by omega)
  by_cases t2 : 100 < l2.length
  · have d2 : decide (100 < (l2.length : Int)) = true := decide_eq_true (by omega)
    go_enter Try.func5, Try.ntmps5
    go_wp2_with fail
    refine (ialive_any _).mono ?_
    rintro e w1 ⟨rfl, hb1⟩
    have B1 := Lib.hid hb1
    clear hb1
    go_wp2_with fail
    go_ret
    exact ⟨rfl, B1.out⟩
  have d2 : decide (100 < (l2.length : Int)) = false := decide_eq_false (by omega)
  by_cases t3 : 100 < l3.length
  · have d3 : decide (100 < (l3.length : Int)) = true := decide_eq_true (by omega)
    go_enter Try.func5, Try.ntmps5
    go_wp2_with fail
    refine (ialive_any _).mono ?_
    rintro e w1 ⟨rfl, hb1⟩
    have B1 := Lib.hid hb1
    clear hb1
    go_wp2_with fail
    go_ret
    exact ⟨rfl, B1.out⟩
  have d3 : decide (100 < (l3.length : Int)) = false := decide_eq_false (by omega)
  go_enter Try.func5, Try.ntmps5
  go_wp2_with fail
  refine (ialive_any _).mono ?_
  rintro e w1 ⟨rfl, hb1⟩
  have B1 := Lib.hid hb1
  clear hb1
  have HL := Lib.hid (And.intro t0 (And.intro t1 (And.intro t2 t3)))
  clear t0 t1 t2 t3
  go_wp2_with fail
  refine (make_any A0 A1 A2 A3 c0 c1 c2 c3 l0 l1 l2 l3 0 _ (by exact HR.out.1.step B1.out) (by exact HR.out.2.1.step B1.out) (by exact HR.out.2.2.1.step B1.out) (by exact HR.out.2.2.2.step B1.out) HM.out.1 HM.out.2.1 HM.out.2.2.1 HM.out.2.2.2 (by have := HL.out; omega) (by have := HL.out; omega) (by decide)).mono ?_
  rw [mk_zero l0 l1 l2 l3 (by have := HL.out; omega) (by have := HL.out; omega)]
  rintro e w2 ⟨A4, c4, rfl, ho, hb⟩
  obtain ⟨m, HMM⟩ : ∃ m, Hid ((irawP (madeP l0 l1 l2 l3)).length = m) := ⟨_, Lib.hid rfl⟩
  have hm7 := iraw_pos (madeP l0 l1 l2 l3)
  rw [HMM.out] at hm7
  have hmp : 0 < m := by omega
  simp only [HMM.out] at ho ⊢
  have O2 := Lib.hid (And.intro (ho.base_le B1.out.size) (bel_next B1.out hb))
  have hmle : m ≤ 1000 := by
    have h1 := iraw_le (192, 1, l0, l1) l2 l3
    have h2 := HL.out
    have h3 : (irawP ((192, 1, l0, l1), l2, l3)).length = m := HMM.out
    rw [h3] at h1
    simp only at h1
    omega
  have hm0 : (m == 0) = false := by rw [beq_eq_false_iff_ne]; omega
  have hm0' : ((m : Int) == 0) = false := by rw [beq_eq_false_iff_ne]; omega
  clear ho hb
  obtain ⟨g, hA4, hg4, _⟩ := O2.out.1.form (by omega)
  subst hA4
  have HG := Lib.hid hg4
  clear hg4
  go_wp2_with fail
  go_loopw [13] (fun k wr => ∃ j : Nat, j ≤ 4 ∧ k = .int .i64 j ∧ Below w.heap.size w wr ∧ ∃ f : UInt8, OwnB wr w.heap.size (some ⟨g, 0, none⟩) m c4 (irawP ((f, 1, l0, l1), l2, l3))) (fun k _ => 4 - (intOf k).toNat)
  case atStart => exact ⟨0, by omega, rfl, O2.out.2, 192, O2.out.1⟩
  case round =>
    obtain ⟨j, hj, rfl, hbr, f, hown⟩ := hrel
    by_cases hlt : j < 4
    · have hfree := hown.freeAt 0
      have hcell := hown.cellAt (iraw_0 f 1 l0 l1 l2 l3)
      have HO := Lib.hid (And.intro hbr hown)
      clear hbr hown
      go_wp2_with fail
      obtain ⟨F, hF⟩ : ∃ F : UInt8, F.toNat = 128 + 16 * j + low.toNat % 16 := ⟨UInt8.ofNat (128 + 16 * j + low.toNat % 16), by rw [UInt8.toNat_ofNat']; omega⟩
      have hFi : (128 + 16 * (j : Int) + (low.toNat : Int) % 16) = (F.toNat : Int) := by omega
      have hFn : ¬ F.toNat < 128 := by omega
      have HT : Hid (typ F = j) := Lib.hid (by unfold typ; have := low.toNat_lt; rw [hF]; omega)
      rw [hFi]
      have hown2 : OwnB (wr.setCell ⟨g, 0, none⟩ (.int .u8 (F.toNat : Int))) w.heap.size (some ⟨g, 0, none⟩) m c4 (irawP ((F, 1, l0, l1), l2, l3)) := by
        have h1 := HO.out.2.stored 0 F (.int .u8 (F.toNat : Int)) rfl
        rwa [iraw_set] at h1
      have hbel2 : Below w.heap.size w (wr.setCell ⟨g, 0, none⟩ (.int .u8 (F.toNat : Int))) := HO.out.1.trans (((Oth.refl [g] wr).set (x := g) (by simp) 0 (.int .u8 (F.toNat : Int))).below (fun k hk => by rw [List.mem_singleton.1 hk]; exact HG.out) HO.out.1.size)
      obtain ⟨w11, HW⟩ : ∃ w11, Hid (wr.setCell ⟨g, 0, none⟩ (.int .u8 (F.toNat : Int)) = w11) := ⟨_, Lib.hid rfl⟩
      rw [HW.out] at hown2 hbel2 ⊢
      have O11 := Lib.hid hown2
      have KB : IW w [] [] [] w11 := ⟨hbel2, fun r hr => (by cases hr), fun r hr => (by cases hr), fun r hr => (by cases hr)⟩
      have K11 := Lib.hid (((KB.add (HR.out.1.step hbel2) HM.out.1.1 HM.out.1.2).add (HR.out.2.2.1.step hbel2) HM.out.2.2.1.1 HM.out.2.2.1.2).add (HR.out.2.2.2.step hbel2) HM.out.2.2.2.1 HM.out.2.2.2.2)
      clear hF hFi hown2 hbel2 KB hfree hcell HO
      have hx := iprs_ty F l0 l1 l2 l3 hFn (by have := HL.out; omega) (by have := HL.out; omega) (by have := HL.out; omega)
      rw [HT.out] at hx
      have HX := Lib.hid hx
      clear hx
      refine (iparse_any _ m c4 (irawP ((F, 1, l0, l1), l2, l3)) _ (by exact O11.out.rb) (by omega)).mono ?_
      by_cases hj0 : j = 0
      · have hjz : ((j : Int) == 0) = true := by rw [hj0]; rfl
        have HJ0 := Lib.hid hj0
        rw [HX.out, if_pos hj0]
        intro e w12 qq
        obtain ⟨i, rfl, hp, _, kk⟩ := K11.out.ret qq
        have K12 := Lib.hid kk
        have O12 : Hid (OwnB w12 w.heap.size (some ⟨g, 0, none⟩) m c4 (irawP ((F, 1, l0, l1), l2, l3))) := by
          obtain ⟨_, _, _, _, hb⟩ := qq
          exact Lib.hid (O11.out.below hb)
        have HP := Lib.hid (in_parts hp)
        clear qq hp kk K11 O11
        go_wp2_with (first
          | (with_reducible show wpList _ _ _ (⟨some 14, .alloc _, _, _, _, none⟩ :: _) _ _; refine wpList_newI rt_ini rfl rfl ?_; intro w12a x hc2 hb2 hx2; have H2 := Lib.hid (And.intro hc2 (And.intro hb2 hx2)); clear hc2 hb2 hx2)
          | (refine wpList_stI rt_ini rfl (.tmp 14) (.tmp 69) rfl x rfl i zeroI rfl (by exact H2.out.1) ?_; intro w12b hc3 ho3 hs3; have K13 := Lib.hid (K12.out.var H2.out.2.1 H2.out.2.2 hc3 ho3); have O13 := Lib.hid (O12.out.below (H2.out.2.1.trans (ho3.below (fun j hj => by rw [List.mem_singleton.1 hj]; exact H2.out.2.2) H2.out.2.1.size))); have hc13 := O13.out.cellAt (iraw_0 F 1 l0 l1 l2 l3); clear hc3 ho3 hs3 H2 K12))
        refine (typ_any F _).mono ?_
        rw [HT.out]
        rintro e w14 ⟨rfl, rfl⟩
        go_wp2_with fail
        have K14 := Lib.hid (K13.out.step (Below.refl _ _).drew)
        have O14 := Lib.hid (O13.out.below (Below.refl _ _).drew)
        clear hc13 K13 O13 O12
        have K14r : Hid (IW w ((i.h.A, l0.length, i.h.c, l0) :: (i.h.B, i.h.b.length, i.h.d, i.h.b) :: (i.T, l2.length, i.e, l2) :: (i.R, l3.length, i.g, l3) :: (A3, l3.length, c3, l3) :: (A2, l2.length, c2, l2) :: (A0, l0.length, c0, l0) :: []) [i] [(29, x, i)] w12b.drew) := by
          have k := K14.out.part (i := i) (by simp)
          rw [HP.out.2.2.1, HP.out.2.2.2.2.1, HP.out.2.2.2.2.2] at k
          exact Lib.hid k
        refine wp_region_held_drew (S := fun w' => Ic 29 w' x i ∧ w'.cell? ⟨g, 0, none⟩ = some (.int .u8 (F.toNat : Int))) (by kernel_rfl) ⟨(K14.out.box (29, x, i) (by simp)), O14.out.cellAt (iraw_0 F 1 l0 l1 l2 l3)⟩ (fun hHeld => ?_)
        (try dsimp only at hHeld)
        refine wpAnyH_take (i := 0) (v := ?v0_1) rfl (by kernel_rfl) (by kernel_rfl) (by kernel_rfl) (fun _ _ _ h => h) (Or.inl ⟨by rfl, ?hy0_1⟩) hHeld ?_
        case hy0_1 => (intro w hSw; (try dsimp only at hSw); have q0 := hSw.1.c0; have q1 := hSw.1.c2; have q2 := hSw.1.c4; have q3 := hSw.1.c5; have q4 := hSw.2; rw [HP.out.2.2.1] at q1; rw [HP.out.2.2.2.2.1] at q2; rw [HP.out.2.2.2.2.2] at q3; rw [HP.out.1] at q0; (try simp only [List.getElem_toArray, List.getElem_cons_zero, List.getElem_cons_succ]); go_simp <;> with_reducible rfl)
        (try simp only [Act.put, List.getElem_toArray, List.getElem_cons_zero, List.getElem_cons_succ, List.setIfInBounds_toArray, List.set_cons_zero, List.set_cons_succ])
        refine wpAnyH_take (i := 1) (v := ?v1_2) rfl (by kernel_rfl) (by kernel_rfl) (by kernel_rfl) (fun _ _ _ h => h) (Or.inl ⟨by rfl, ?hy1_2⟩) hHeld ?_
        case hy1_2 => (intro w hSw; (try dsimp only at hSw); have q0 := hSw.1.c0; have q1 := hSw.1.c2; have q2 := hSw.1.c4; have q3 := hSw.1.c5; have q4 := hSw.2; rw [HP.out.2.2.1] at q1; rw [HP.out.2.2.2.2.1] at q2; rw [HP.out.2.2.2.2.2] at q3; rw [HP.out.1] at q0; (try simp only [List.getElem_toArray, List.getElem_cons_zero, List.getElem_cons_succ]); go_simp <;> with_reducible rfl)
        (try simp only [Act.put, List.getElem_toArray, List.getElem_cons_zero, List.getElem_cons_succ, List.setIfInBounds_toArray, List.set_cons_zero, List.set_cons_succ])
        refine wpAnyH_take (i := 2) (v := ?v2_3) rfl (by kernel_rfl) (by kernel_rfl) (by kernel_rfl) (fun _ _ _ h => h) (Or.inl ⟨by rfl, ?hy2_3⟩) hHeld ?_
        case hy2_3 => (intro w hSw; (try dsimp only at hSw); have q0 := hSw.1.c0; have q1 := hSw.1.c2; have q2 := hSw.1.c4; have q3 := hSw.1.c5; have q4 := hSw.2; rw [HP.out.2.2.1] at q1; rw [HP.out.2.2.2.2.1] at q2; rw [HP.out.2.2.2.2.2] at q3; rw [HP.out.1] at q0; (try simp only [List.getElem_toArray, List.getElem_cons_zero, List.getElem_cons_succ]); go_simp <;> with_reducible rfl)
        (try simp only [Act.put, List.getElem_toArray, List.getElem_cons_zero, List.getElem_cons_succ, List.setIfInBounds_toArray, List.set_cons_zero, List.set_cons_succ])
        refine wpAnyH_take (i := 3) (v := ?v3_4) rfl (by kernel_rfl) (by kernel_rfl) (by kernel_rfl) (fun _ _ _ h => h) (Or.inl ⟨by rfl, ?hy3_4⟩) hHeld ?_
        case hy3_4 => (intro w hSw; (try dsimp only at hSw); have q0 := hSw.1.c0; have q1 := hSw.1.c2; have q2 := hSw.1.c4; have q3 := hSw.1.c5; have q4 := hSw.2; rw [HP.out.2.2.1] at q1; rw [HP.out.2.2.2.2.1] at q2; rw [HP.out.2.2.2.2.2] at q3; rw [HP.out.1] at q0; (try simp only [List.getElem_toArray, List.getElem_cons_zero, List.getElem_cons_succ]); go_simp <;> with_reducible rfl)
        (try simp only [Act.put, List.getElem_toArray, List.getElem_cons_zero, List.getElem_cons_succ, List.setIfInBounds_toArray, List.set_cons_zero, List.set_cons_succ])
        refine wpAnyH_take (i := 4) (v := ?v4_5) rfl (by kernel_rfl) (by kernel_rfl) (by kernel_rfl) (fun _ _ _ h => h) (Or.inl ⟨by rfl, ?hy4_5⟩) hHeld ?_
        case hy4_5 => (intro w hSw; (try dsimp only at hSw); have q0 := hSw.1.c0; have q1 := hSw.1.c2; have q2 := hSw.1.c4; have q3 := hSw.1.c5; have q4 := hSw.2; rw [HP.out.2.2.1] at q1; rw [HP.out.2.2.2.2.1] at q2; rw [HP.out.2.2.2.2.2] at q3; rw [HP.out.1] at q0; (try simp only [List.getElem_toArray, List.getElem_cons_zero, List.getElem_cons_succ]); go_simp <;> with_reducible rfl)
        (try simp only [Act.put, List.getElem_toArray, List.getElem_cons_zero, List.getElem_cons_succ, List.setIfInBounds_toArray, List.set_cons_zero, List.set_cons_succ])
        refine wpAnyH_take (i := 5) (v := ?v5_6) rfl (by kernel_rfl) (by kernel_rfl) (by kernel_rfl) (fun _ _ _ h => h) (Or.inl ⟨by rfl, ?hy5_6⟩) hHeld ?_
        case hy5_6 => (intro w hSw; (try dsimp only at hSw); have q0 := hSw.1.c0; have q1 := hSw.1.c2; have q2 := hSw.1.c4; have q3 := hSw.1.c5; have q4 := hSw.2; rw [HP.out.2.2.1] at q1; rw [HP.out.2.2.2.2.1] at q2; rw [HP.out.2.2.2.2.2] at q3; rw [HP.out.1] at q0; (try simp only [List.getElem_toArray, List.getElem_cons_zero, List.getElem_cons_succ]); go_simp <;> with_reducible rfl)
        (try simp only [Act.put, List.getElem_toArray, List.getElem_cons_zero, List.getElem_cons_succ, List.setIfInBounds_toArray, List.set_cons_zero, List.set_cons_succ])
        refine wpAnyH_take (i := 6) (v := ?v6_7) rfl (by kernel_rfl) (by kernel_rfl) (by kernel_rfl) (fun _ _ _ h => h) (Or.inl ⟨by rfl, ?hy6_7⟩) hHeld ?_
        case hy6_7 => (intro w hSw; (try dsimp only at hSw); have q0 := hSw.1.c0; have q1 := hSw.1.c2; have q2 := hSw.1.c4; have q3 := hSw.1.c5; have q4 := hSw.2; rw [HP.out.2.2.1] at q1; rw [HP.out.2.2.2.2.1] at q2; rw [HP.out.2.2.2.2.2] at q3; rw [HP.out.1] at q0; (try simp only [List.getElem_toArray, List.getElem_cons_zero, List.getElem_cons_succ]); go_simp <;> with_reducible rfl)
        (try simp only [Act.put, List.getElem_toArray, List.getElem_cons_zero, List.getElem_cons_succ, List.setIfInBounds_toArray, List.set_cons_zero, List.set_cons_succ])
        refine wpAnyH_ready (rs := [7]) (by kernel_rfl) (by simp) ?_
        refine AllReadyH.cons rfl (fun K hK => ?_) AllReadyH.nil
        (try simp only [List.getElem_toArray, List.getElem_cons_zero, List.getElem_cons_succ])
        go_simp
        refine (al_same _ _ _ _ _ _ l0 l0 _ (by exact (K14r.out.row (i.h.A, l0.length, i.h.c, l0) (by simp)).1) (by exact (K14r.out.row (A0, l0.length, c0, l0) (by simp)).1) (by have := HL.out; unfold maxLen; omega) (by have := HL.out; unfold maxLen; omega) true (by simp)).mono ?_
        rintro e w15 ⟨rfl, hb⟩
        have K15r := Lib.hid (K14r.out.step hb)
        have O15 := Lib.hid (O14.out.below hb)
        clear hb K14r O14
        (try go_wp2_with fail)
        refine hK.out _ _ ⟨(K15r.out.box (29, x, i) (by simp)), O15.out.cellAt (iraw_0 F 1 l0 l1 l2 l3)⟩ (fun hHeld => ?_)
        clear hK K
        (try simp only [Act.put, List.getElem_toArray, List.getElem_cons_zero, List.getElem_cons_succ, List.setIfInBounds_toArray, List.set_cons_zero, List.set_cons_succ])
        refine wpAnyH_take (i := 8) (v := ?v8_8) rfl (by kernel_rfl) (by kernel_rfl) (by kernel_rfl) (fun _ _ _ h => h) (Or.inl ⟨by rfl, ?hy8_8⟩) hHeld ?_
        case hy8_8 => (intro w hSw; (try dsimp only at hSw); have q0 := hSw.1.c0; have q1 := hSw.1.c2; have q2 := hSw.1.c4; have q3 := hSw.1.c5; have q4 := hSw.2; rw [HP.out.2.2.1] at q1; rw [HP.out.2.2.2.2.1] at q2; rw [HP.out.2.2.2.2.2] at q3; rw [HP.out.1] at q0; (try simp only [List.getElem_toArray, List.getElem_cons_zero, List.getElem_cons_succ]); go_simp <;> with_reducible rfl)
        (try simp only [Act.put, List.getElem_toArray, List.getElem_cons_zero, List.getElem_cons_succ, List.setIfInBounds_toArray, List.set_cons_zero, List.set_cons_succ])
        refine wpAnyH_take (i := 9) (v := ?v9_9) rfl (by kernel_rfl) (by kernel_rfl) (by kernel_rfl) (fun _ _ _ h => h) (Or.inl ⟨by rfl, ?hy9_9⟩) hHeld ?_
        case hy9_9 => (intro w hSw; (try dsimp only at hSw); have q0 := hSw.1.c0; have q1 := hSw.1.c2; have q2 := hSw.1.c4; have q3 := hSw.1.c5; have q4 := hSw.2; rw [HP.out.2.2.1] at q1; rw [HP.out.2.2.2.2.1] at q2; rw [HP.out.2.2.2.2.2] at q3; rw [HP.out.1] at q0; (try simp only [List.getElem_toArray, List.getElem_cons_zero, List.getElem_cons_succ]); go_simp <;> with_reducible rfl)
        (try simp only [Act.put, List.getElem_toArray, List.getElem_cons_zero, List.getElem_cons_succ, List.setIfInBounds_toArray, List.set_cons_zero, List.set_cons_succ])
        refine wpAnyH_take (i := 10) (v := ?v10_10) rfl (by kernel_rfl) (by kernel_rfl) (by kernel_rfl) (fun _ _ _ h => h) (Or.inl ⟨by rfl, ?hy10_10⟩) hHeld ?_
        case hy10_10 => (intro w hSw; (try dsimp only at hSw); have q0 := hSw.1.c0; have q1 := hSw.1.c2; have q2 := hSw.1.c4; have q3 := hSw.1.c5; have q4 := hSw.2; rw [HP.out.2.2.1] at q1; rw [HP.out.2.2.2.2.1] at q2; rw [HP.out.2.2.2.2.2] at q3; rw [HP.out.1] at q0; (try simp only [List.getElem_toArray, List.getElem_cons_zero, List.getElem_cons_succ]); go_simp <;> with_reducible rfl)
        (try simp only [Act.put, List.getElem_toArray, List.getElem_cons_zero, List.getElem_cons_succ, List.setIfInBounds_toArray, List.set_cons_zero, List.set_cons_succ])
        refine wpAnyH_take (i := 11) (v := ?v11_11) rfl (by kernel_rfl) (by kernel_rfl) (by kernel_rfl) (fun _ _ _ h => h) (Or.inl ⟨by rfl, ?hy11_11⟩) hHeld ?_
        case hy11_11 => (intro w hSw; (try dsimp only at hSw); have q0 := hSw.1.c0; have q1 := hSw.1.c2; have q2 := hSw.1.c4; have q3 := hSw.1.c5; have q4 := hSw.2; rw [HP.out.2.2.1] at q1; rw [HP.out.2.2.2.2.1] at q2; rw [HP.out.2.2.2.2.2] at q3; rw [HP.out.1] at q0; (try simp only [List.getElem_toArray, List.getElem_cons_zero, List.getElem_cons_succ]); go_simp <;> with_reducible rfl)
        (try simp only [Act.put, List.getElem_toArray, List.getElem_cons_zero, List.getElem_cons_succ, List.setIfInBounds_toArray, List.set_cons_zero, List.set_cons_succ])
        refine wpAnyH_take (i := 12) (v := ?v12_12) rfl (by kernel_rfl) (by kernel_rfl) (by kernel_rfl) (fun _ _ _ h => h) (Or.inl ⟨by rfl, ?hy12_12⟩) hHeld ?_
        case hy12_12 => (intro w hSw; (try dsimp only at hSw); have q0 := hSw.1.c0; have q1 := hSw.1.c2; have q2 := hSw.1.c4; have q3 := hSw.1.c5; have q4 := hSw.2; rw [HP.out.2.2.1] at q1; rw [HP.out.2.2.2.2.1] at q2; rw [HP.out.2.2.2.2.2] at q3; rw [HP.out.1] at q0; (try simp only [List.getElem_toArray, List.getElem_cons_zero, List.getElem_cons_succ]); go_simp <;> with_reducible rfl)
        (try simp only [Act.put, List.getElem_toArray, List.getElem_cons_zero, List.getElem_cons_succ, List.setIfInBounds_toArray, List.set_cons_zero, List.set_cons_succ])
        refine wpAnyH_ready (rs := [13]) (by kernel_rfl) (by simp) ?_
        refine AllReadyH.cons rfl (fun K hK => ?_) AllReadyH.nil
        (try simp only [List.getElem_toArray, List.getElem_cons_zero, List.getElem_cons_succ])
        go_simp
        refine (al_same _ _ _ _ _ _ l2 l2 _ (by exact (K15r.out.row (i.T, l2.length, i.e, l2) (by simp)).1) (by exact (K15r.out.row (A2, l2.length, c2, l2) (by simp)).1) (by have := HL.out; unfold maxLen; omega) (by have := HL.out; unfold maxLen; omega) true (by simp)).mono ?_
        rintro e w16 ⟨rfl, hb⟩
        have K16r := Lib.hid (K15r.out.step hb)
        have O16 := Lib.hid (O15.out.below hb)
        clear hb K15r O15
        (try go_wp2_with fail)
        refine hK.out _ _ ⟨(K16r.out.box (29, x, i) (by simp)), O16.out.cellAt (iraw_0 F 1 l0 l1 l2 l3)⟩ (fun hHeld => ?_)
        clear hK K
        (try simp only [Act.put, List.getElem_toArray, List.getElem_cons_zero, List.getElem_cons_succ, List.setIfInBounds_toArray, List.set_cons_zero, List.set_cons_succ])
        refine wpAnyH_take (i := 14) (v := ?v14_13) rfl (by kernel_rfl) (by kernel_rfl) (by kernel_rfl) (fun _ _ _ h => h) (Or.inl ⟨by rfl, ?hy14_13⟩) hHeld ?_
        case hy14_13 => (intro w hSw; (try dsimp only at hSw); have q0 := hSw.1.c0; have q1 := hSw.1.c2; have q2 := hSw.1.c4; have q3 := hSw.1.c5; have q4 := hSw.2; rw [HP.out.2.2.1] at q1; rw [HP.out.2.2.2.2.1] at q2; rw [HP.out.2.2.2.2.2] at q3; rw [HP.out.1] at q0; (try simp only [List.getElem_toArray, List.getElem_cons_zero, List.getElem_cons_succ]); go_simp <;> with_reducible rfl)
        (try simp only [Act.put, List.getElem_toArray, List.getElem_cons_zero, List.getElem_cons_succ, List.setIfInBounds_toArray, List.set_cons_zero, List.set_cons_succ])
        refine wpAnyH_take (i := 15) (v := ?v15_14) rfl (by kernel_rfl) (by kernel_rfl) (by kernel_rfl) (fun _ _ _ h => h) (Or.inl ⟨by rfl, ?hy15_14⟩) hHeld ?_
        case hy15_14 => (intro w hSw; (try dsimp only at hSw); have q0 := hSw.1.c0; have q1 := hSw.1.c2; have q2 := hSw.1.c4; have q3 := hSw.1.c5; have q4 := hSw.2; rw [HP.out.2.2.1] at q1; rw [HP.out.2.2.2.2.1] at q2; rw [HP.out.2.2.2.2.2] at q3; rw [HP.out.1] at q0; (try simp only [List.getElem_toArray, List.getElem_cons_zero, List.getElem_cons_succ]); go_simp <;> with_reducible rfl)
        (try simp only [Act.put, List.getElem_toArray, List.getElem_cons_zero, List.getElem_cons_succ, List.setIfInBounds_toArray, List.set_cons_zero, List.set_cons_succ])
        refine wpAnyH_take (i := 16) (v := ?v16_15) rfl (by kernel_rfl) (by kernel_rfl) (by kernel_rfl) (fun _ _ _ h => h) (Or.inl ⟨by rfl, ?hy16_15⟩) hHeld ?_
        case hy16_15 => (intro w hSw; (try dsimp only at hSw); have q0 := hSw.1.c0; have q1 := hSw.1.c2; have q2 := hSw.1.c4; have q3 := hSw.1.c5; have q4 := hSw.2; rw [HP.out.2.2.1] at q1; rw [HP.out.2.2.2.2.1] at q2; rw [HP.out.2.2.2.2.2] at q3; rw [HP.out.1] at q0; (try simp only [List.getElem_toArray, List.getElem_cons_zero, List.getElem_cons_succ]); go_simp <;> with_reducible rfl)
        (try simp only [Act.put, List.getElem_toArray, List.getElem_cons_zero, List.getElem_cons_succ, List.setIfInBounds_toArray, List.set_cons_zero, List.set_cons_succ])
        refine wpAnyH_take (i := 17) (v := ?v17_16) rfl (by kernel_rfl) (by kernel_rfl) (by kernel_rfl) (fun _ _ _ h => h) (Or.inl ⟨by rfl, ?hy17_16⟩) hHeld ?_
        case hy17_16 => (intro w hSw; (try dsimp only at hSw); have q0 := hSw.1.c0; have q1 := hSw.1.c2; have q2 := hSw.1.c4; have q3 := hSw.1.c5; have q4 := hSw.2; rw [HP.out.2.2.1] at q1; rw [HP.out.2.2.2.2.1] at q2; rw [HP.out.2.2.2.2.2] at q3; rw [HP.out.1] at q0; (try simp only [List.getElem_toArray, List.getElem_cons_zero, List.getElem_cons_succ]); go_simp <;> with_reducible rfl)
        (try simp only [Act.put, List.getElem_toArray, List.getElem_cons_zero, List.getElem_cons_succ, List.setIfInBounds_toArray, List.set_cons_zero, List.set_cons_succ])
        refine wpAnyH_take (i := 18) (v := ?v18_17) rfl (by kernel_rfl) (by kernel_rfl) (by kernel_rfl) (fun _ _ _ h => h) (Or.inl ⟨by rfl, ?hy18_17⟩) hHeld ?_
        case hy18_17 => (intro w hSw; (try dsimp only at hSw); have q0 := hSw.1.c0; have q1 := hSw.1.c2; have q2 := hSw.1.c4; have q3 := hSw.1.c5; have q4 := hSw.2; rw [HP.out.2.2.1] at q1; rw [HP.out.2.2.2.2.1] at q2; rw [HP.out.2.2.2.2.2] at q3; rw [HP.out.1] at q0; (try simp only [List.getElem_toArray, List.getElem_cons_zero, List.getElem_cons_succ]); go_simp <;> with_reducible rfl)
        (try simp only [Act.put, List.getElem_toArray, List.getElem_cons_zero, List.getElem_cons_succ, List.setIfInBounds_toArray, List.set_cons_zero, List.set_cons_succ])
        refine wpAnyH_take (i := 19) (v := ?v19_18) rfl (by kernel_rfl) (by kernel_rfl) (by kernel_rfl) (fun _ _ _ h => h) (Or.inl ⟨by rfl, ?hy19_18⟩) hHeld ?_
        case hy19_18 => (intro w hSw; (try dsimp only at hSw); have q0 := hSw.1.c0; have q1 := hSw.1.c2; have q2 := hSw.1.c4; have q3 := hSw.1.c5; have q4 := hSw.2; rw [HP.out.2.2.1] at q1; rw [HP.out.2.2.2.2.1] at q2; rw [HP.out.2.2.2.2.2] at q3; rw [HP.out.1] at q0; (try simp only [List.getElem_toArray, List.getElem_cons_zero, List.getElem_cons_succ]); go_simp <;> with_reducible rfl)
        (try simp only [Act.put, List.getElem_toArray, List.getElem_cons_zero, List.getElem_cons_succ, List.setIfInBounds_toArray, List.set_cons_zero, List.set_cons_succ])
        refine wpAnyH_ready (rs := [20]) (by kernel_rfl) (by simp) ?_
        refine AllReadyH.cons rfl (fun K hK => ?_) AllReadyH.nil
        (try simp only [List.getElem_toArray, List.getElem_cons_zero, List.getElem_cons_succ])
        go_simp
        refine (al_same _ _ _ _ _ _ l3 l3 _ (by exact (K16r.out.row (i.R, l3.length, i.g, l3) (by simp)).1) (by exact (K16r.out.row (A3, l3.length, c3, l3) (by simp)).1) (by have := HL.out; unfold maxLen; omega) (by have := HL.out; unfold maxLen; omega) true (by simp)).mono ?_
        rintro e w17 ⟨rfl, hb⟩
        have K17r := Lib.hid (K16r.out.step hb)
        have O17 := Lib.hid (O16.out.below hb)
        clear hb K16r O16
        (try go_wp2_with fail)
        refine hK.out _ _ ⟨(K17r.out.box (29, x, i) (by simp)), O17.out.cellAt (iraw_0 F 1 l0 l1 l2 l3)⟩ (fun hHeld => ?_)
        clear hK K
        (try simp only [Act.put, List.getElem_toArray, List.getElem_cons_zero, List.getElem_cons_succ, List.setIfInBounds_toArray, List.set_cons_zero, List.set_cons_succ])
        refine wpAnyH_take (i := 21) (v := ?v21_19) rfl (by kernel_rfl) (by kernel_rfl) (by kernel_rfl) (fun _ _ _ h => h) (Or.inl ⟨by rfl, ?hy21_19⟩) hHeld ?_
        case hy21_19 => (intro w hSw; (try dsimp only at hSw); have q0 := hSw.1.c0; have q1 := hSw.1.c2; have q2 := hSw.1.c4; have q3 := hSw.1.c5; have q4 := hSw.2; rw [HP.out.2.2.1] at q1; rw [HP.out.2.2.2.2.1] at q2; rw [HP.out.2.2.2.2.2] at q3; rw [HP.out.1] at q0; (try simp only [List.getElem_toArray, List.getElem_cons_zero, List.getElem_cons_succ]); go_simp <;> with_reducible rfl)
        (try simp only [Act.put, List.getElem_toArray, List.getElem_cons_zero, List.getElem_cons_succ, List.setIfInBounds_toArray, List.set_cons_zero, List.set_cons_succ])
        refine wpAnyH_take (i := 22) (v := ?v22_20) rfl (by kernel_rfl) (by kernel_rfl) (by kernel_rfl) (fun _ _ _ h => h) (Or.inl ⟨by rfl, ?hy22_20⟩) hHeld ?_
        case hy22_20 => (intro w hSw; (try dsimp only at hSw); have q0 := hSw.1.c0; have q1 := hSw.1.c2; have q2 := hSw.1.c4; have q3 := hSw.1.c5; have q4 := hSw.2; rw [HP.out.2.2.1] at q1; rw [HP.out.2.2.2.2.1] at q2; rw [HP.out.2.2.2.2.2] at q3; rw [HP.out.1] at q0; (try simp only [List.getElem_toArray, List.getElem_cons_zero, List.getElem_cons_succ]); go_simp <;> with_reducible rfl)
        (try simp only [Act.put, List.getElem_toArray, List.getElem_cons_zero, List.getElem_cons_succ, List.setIfInBounds_toArray, List.set_cons_zero, List.set_cons_succ])
        refine wpAnyH_take (i := 23) (v := ?v23_21) rfl (by kernel_rfl) (by kernel_rfl) (by kernel_rfl) (fun _ _ _ h => h) (Or.inl ⟨by rfl, ?hy23_21⟩) hHeld ?_
        case hy23_21 => (intro w hSw; (try dsimp only at hSw); have q0 := hSw.1.c0; have q1 := hSw.1.c2; have q2 := hSw.1.c4; have q3 := hSw.1.c5; have q4 := hSw.2; rw [HP.out.2.2.1] at q1; rw [HP.out.2.2.2.2.1] at q2; rw [HP.out.2.2.2.2.2] at q3; rw [HP.out.1] at q0; (try simp only [List.getElem_toArray, List.getElem_cons_zero, List.getElem_cons_succ]); go_simp <;> with_reducible rfl)
        (try simp only [Act.put, List.getElem_toArray, List.getElem_cons_zero, List.getElem_cons_succ, List.setIfInBounds_toArray, List.set_cons_zero, List.set_cons_succ])
        refine wpAnyH_take (i := 24) (v := ?v24_22) rfl (by kernel_rfl) (by kernel_rfl) (by kernel_rfl) (fun _ _ _ h => h) (Or.inl ⟨by rfl, ?hy24_22⟩) hHeld ?_
        case hy24_22 => (intro w hSw; (try dsimp only at hSw); have q0 := hSw.1.c0; have q1 := hSw.1.c2; have q2 := hSw.1.c4; have q3 := hSw.1.c5; have q4 := hSw.2; rw [HP.out.2.2.1] at q1; rw [HP.out.2.2.2.2.1] at q2; rw [HP.out.2.2.2.2.2] at q3; rw [HP.out.1] at q0; (try simp only [List.getElem_toArray, List.getElem_cons_zero, List.getElem_cons_succ]); go_simp <;> with_reducible rfl)
        (try simp only [Act.put, List.getElem_toArray, List.getElem_cons_zero, List.getElem_cons_succ, List.setIfInBounds_toArray, List.set_cons_zero, List.set_cons_succ])
        refine wpAnyH_take (i := 25) (v := ?v25_23) rfl (by kernel_rfl) (by kernel_rfl) (by kernel_rfl) (fun _ _ _ h => h) (Or.inl ⟨by rfl, ?hy25_23⟩) hHeld ?_
        case hy25_23 => (intro w hSw; (try dsimp only at hSw); have q0 := hSw.1.c0; have q1 := hSw.1.c2; have q2 := hSw.1.c4; have q3 := hSw.1.c5; have q4 := hSw.2; rw [HP.out.2.2.1] at q1; rw [HP.out.2.2.2.2.1] at q2; rw [HP.out.2.2.2.2.2] at q3; rw [HP.out.1] at q0; (try simp only [List.getElem_toArray, List.getElem_cons_zero, List.getElem_cons_succ]); go_simp <;> with_reducible rfl)
        (try simp only [Act.put, List.getElem_toArray, List.getElem_cons_zero, List.getElem_cons_succ, List.setIfInBounds_toArray, List.set_cons_zero, List.set_cons_succ])
        refine wpAnyH_take (i := 26) (v := ?v26_24) rfl (by kernel_rfl) (by kernel_rfl) (by kernel_rfl) (fun _ _ _ h => h) (Or.inl ⟨by rfl, ?hy26_24⟩) hHeld ?_
        case hy26_24 => (intro w hSw; (try dsimp only at hSw); have q0 := hSw.1.c0; have q1 := hSw.1.c2; have q2 := hSw.1.c4; have q3 := hSw.1.c5; have q4 := hSw.2; rw [HP.out.2.2.1] at q1; rw [HP.out.2.2.2.2.1] at q2; rw [HP.out.2.2.2.2.2] at q3; rw [HP.out.1] at q0; (try simp only [List.getElem_toArray, List.getElem_cons_zero, List.getElem_cons_succ]); go_simp <;> with_reducible rfl)
        (try simp only [Act.put, List.getElem_toArray, List.getElem_cons_zero, List.getElem_cons_succ, List.setIfInBounds_toArray, List.set_cons_zero, List.set_cons_succ])
        refine wpAnyH_take (i := 27) (v := ?v27_25) rfl (by kernel_rfl) (by kernel_rfl) (by kernel_rfl) (fun _ _ _ h => h) (Or.inl ⟨by rfl, ?hy27_25⟩) hHeld ?_
        case hy27_25 => (intro w hSw; (try dsimp only at hSw); have q0 := hSw.1.c0; have q1 := hSw.1.c2; have q2 := hSw.1.c4; have q3 := hSw.1.c5; have q4 := hSw.2; rw [HP.out.2.2.1] at q1; rw [HP.out.2.2.2.2.1] at q2; rw [HP.out.2.2.2.2.2] at q3; rw [HP.out.1] at q0; (try simp only [List.getElem_toArray, List.getElem_cons_zero, List.getElem_cons_succ]); go_simp <;> with_reducible rfl)
        (try simp only [Act.put, List.getElem_toArray, List.getElem_cons_zero, List.getElem_cons_succ, List.setIfInBounds_toArray, List.set_cons_zero, List.set_cons_succ])
        refine wpAnyH_take (i := 28) (v := ?v28_26) rfl (by kernel_rfl) (by kernel_rfl) (by kernel_rfl) (fun _ _ _ h => h) (Or.inl ⟨by rfl, ?hy28_26⟩) hHeld ?_
        case hy28_26 => (intro w hSw; (try dsimp only at hSw); have q0 := hSw.1.c0; have q1 := hSw.1.c2; have q2 := hSw.1.c4; have q3 := hSw.1.c5; have q4 := hSw.2; rw [HP.out.2.2.1] at q1; rw [HP.out.2.2.2.2.1] at q2; rw [HP.out.2.2.2.2.2] at q3; rw [HP.out.1] at q0; (try simp only [List.getElem_toArray, List.getElem_cons_zero, List.getElem_cons_succ]); go_simp <;> with_reducible rfl)
        (try simp only [Act.put, List.getElem_toArray, List.getElem_cons_zero, List.getElem_cons_succ, List.setIfInBounds_toArray, List.set_cons_zero, List.set_cons_succ])
        refine wpAnyH_take (i := 29) (v := ?v29_27) rfl (by kernel_rfl) (by kernel_rfl) (by kernel_rfl) (fun _ _ _ h => h) (Or.inl ⟨by rfl, ?hy29_27⟩) hHeld ?_
        case hy29_27 => (intro w hSw; (try dsimp only at hSw); have q0 := hSw.1.c0; have q1 := hSw.1.c2; have q2 := hSw.1.c4; have q3 := hSw.1.c5; have q4 := hSw.2; rw [HP.out.2.2.1] at q1; rw [HP.out.2.2.2.2.1] at q2; rw [HP.out.2.2.2.2.2] at q3; rw [HP.out.1] at q0; (try simp only [List.getElem_toArray, List.getElem_cons_zero, List.getElem_cons_succ]); go_simp <;> with_reducible rfl)
        (try simp only [Act.put, List.getElem_toArray, List.getElem_cons_zero, List.getElem_cons_succ, List.setIfInBounds_toArray, List.set_cons_zero, List.set_cons_succ])
        refine wpAnyH_take (i := 30) (v := ?v30_28) rfl (by kernel_rfl) (by kernel_rfl) (by kernel_rfl) (fun _ _ _ h => h) (Or.inl ⟨by rfl, ?hy30_28⟩) hHeld ?_
        case hy30_28 => (intro w hSw; (try dsimp only at hSw); have q0 := hSw.1.c0; have q1 := hSw.1.c2; have q2 := hSw.1.c4; have q3 := hSw.1.c5; have q4 := hSw.2; rw [HP.out.2.2.1] at q1; rw [HP.out.2.2.2.2.1] at q2; rw [HP.out.2.2.2.2.2] at q3; rw [HP.out.1] at q0; (try simp only [List.getElem_toArray, List.getElem_cons_zero, List.getElem_cons_succ]); go_simp <;> with_reducible rfl)
        (try simp only [Act.put, List.getElem_toArray, List.getElem_cons_zero, List.getElem_cons_succ, List.setIfInBounds_toArray, List.set_cons_zero, List.set_cons_succ])
        refine wpAnyH_take (i := 31) (v := ?v31_29) rfl (by kernel_rfl) (by kernel_rfl) (by kernel_rfl) (fun _ _ _ h => h) (Or.inl ⟨by rfl, ?hy31_29⟩) hHeld ?_
        case hy31_29 => (intro w hSw; (try dsimp only at hSw); have q0 := hSw.1.c0; have q1 := hSw.1.c2; have q2 := hSw.1.c4; have q3 := hSw.1.c5; have q4 := hSw.2; rw [HP.out.2.2.1] at q1; rw [HP.out.2.2.2.2.1] at q2; rw [HP.out.2.2.2.2.2] at q3; rw [HP.out.1] at q0; (try simp only [List.getElem_toArray, List.getElem_cons_zero, List.getElem_cons_succ]); go_simp <;> with_reducible rfl)
        (try simp only [Act.put, List.getElem_toArray, List.getElem_cons_zero, List.getElem_cons_succ, List.setIfInBounds_toArray, List.set_cons_zero, List.set_cons_succ])
        refine wpAnyH_take (i := 32) (v := ?v32_30) rfl (by kernel_rfl) (by kernel_rfl) (by kernel_rfl) (fun _ _ _ h => h) (Or.inl ⟨by rfl, ?hy32_30⟩) hHeld ?_
        case hy32_30 => (intro w hSw; (try dsimp only at hSw); have q0 := hSw.1.c0; have q1 := hSw.1.c2; have q2 := hSw.1.c4; have q3 := hSw.1.c5; have q4 := hSw.2; rw [HP.out.2.2.1] at q1; rw [HP.out.2.2.2.2.1] at q2; rw [HP.out.2.2.2.2.2] at q3; rw [HP.out.1] at q0; (try simp only [List.getElem_toArray, List.getElem_cons_zero, List.getElem_cons_succ]); go_simp <;> with_reducible rfl)
        (try simp only [Act.put, List.getElem_toArray, List.getElem_cons_zero, List.getElem_cons_succ, List.setIfInBounds_toArray, List.set_cons_zero, List.set_cons_succ])
        refine wpAnyH_done (by kernel_rfl) ?_ _
        go_wp2_with fail
        go_roundw
        case rel => exact ⟨j + 1, by omega, by go_num, K17r.out.bel, F, O17.out⟩
        case measure => simp [intOf]; omega
      · have hjz : ((j : Int) == 0) = false := by rw [beq_eq_false_iff_ne]; omega
        rw [HX.out, if_neg hj0]
        intro e w12 qq
        obtain ⟨i, rfl, hp, _, kk⟩ := K11.out.ret qq
        have K12 := Lib.hid kk
        have O12 : Hid (OwnB w12 w.heap.size (some ⟨g, 0, none⟩) m c4 (irawP ((F, 1, l0, l1), l2, l3))) := by
          obtain ⟨_, _, _, _, hb⟩ := qq
          exact Lib.hid (O11.out.below hb)
        have HP := Lib.hid (in_parts hp)
        clear qq hp kk K11 O11
        go_wp2_with (first
          | (with_reducible show wpList _ _ _ (⟨some 14, .alloc _, _, _, _, none⟩ :: _) _ _; refine wpList_newI rt_ini rfl rfl ?_; intro w12a x hc2 hb2 hx2; have H2 := Lib.hid (And.intro hc2 (And.intro hb2 hx2)); clear hc2 hb2 hx2)
          | (refine wpList_stI rt_ini rfl (.tmp 14) (.tmp 69) rfl x rfl i zeroI rfl (by exact H2.out.1) ?_; intro w12b hc3 ho3 hs3; have K13 := Lib.hid (K12.out.var H2.out.2.1 H2.out.2.2 hc3 ho3); have O13 := Lib.hid (O12.out.below (H2.out.2.1.trans (ho3.below (fun j hj => by rw [List.mem_singleton.1 hj]; exact H2.out.2.2) H2.out.2.1.size))); have hc13 := O13.out.cellAt (iraw_0 F 1 l0 l1 l2 l3); clear hc3 ho3 hs3 H2 K12))
        refine (typ_any F _).mono ?_
        rw [HT.out]
        rintro e w14 ⟨rfl, rfl⟩
        go_wp2_with fail
        have K14 := Lib.hid (K13.out.step (Below.refl _ _).drew)
        have O14 := Lib.hid (O13.out.below (Below.refl _ _).drew)
        clear hc13 K13 O13 O12
        refine wp_region_held_drew (S := fun w' => Ic 29 w' x i ∧ w'.cell? ⟨g, 0, none⟩ = some (.int .u8 (F.toNat : Int))) (by kernel_rfl) ⟨(K14.out.box (29, x, i) (by simp)), O14.out.cellAt (iraw_0 F 1 l0 l1 l2 l3)⟩ (fun hHeld => ?_)
        (try dsimp only at hHeld)
        refine wpAnyH_take (i := 0) (v := ?v0_31) rfl (by kernel_rfl) (by kernel_rfl) (by kernel_rfl) (fun _ _ _ h => h) (Or.inl ⟨by rfl, ?hy0_31⟩) hHeld ?_
        case hy0_31 => (intro w hSw; (try dsimp only at hSw); have q0 := hSw.1.c0; have q1 := hSw.1.c2; have q2 := hSw.1.c4; have q3 := hSw.1.c5; have q4 := hSw.2; (try simp only [List.getElem_toArray, List.getElem_cons_zero, List.getElem_cons_succ]); go_simp <;> with_reducible rfl)
        (try simp only [Act.put, List.getElem_toArray, List.getElem_cons_zero, List.getElem_cons_succ, List.setIfInBounds_toArray, List.set_cons_zero, List.set_cons_succ])
        refine wpAnyH_take (i := 1) (v := ?v1_32) rfl (by kernel_rfl) (by kernel_rfl) (by kernel_rfl) (fun _ _ _ h => h) (Or.inl ⟨by rfl, ?hy1_32⟩) hHeld ?_
        case hy1_32 => (intro w hSw; (try dsimp only at hSw); have q0 := hSw.1.c0; have q1 := hSw.1.c2; have q2 := hSw.1.c4; have q3 := hSw.1.c5; have q4 := hSw.2; (try simp only [List.getElem_toArray, List.getElem_cons_zero, List.getElem_cons_succ]); go_simp <;> with_reducible rfl)
        (try simp only [Act.put, List.getElem_toArray, List.getElem_cons_zero, List.getElem_cons_succ, List.setIfInBounds_toArray, List.set_cons_zero, List.set_cons_succ])
        refine wpAnyH_take (i := 2) (v := ?v2_33) rfl (by kernel_rfl) (by kernel_rfl) (by kernel_rfl) (fun _ _ _ h => h) (Or.inl ⟨by rfl, ?hy2_33⟩) hHeld ?_
        case hy2_33 => (intro w hSw; (try dsimp only at hSw); have q0 := hSw.1.c0; have q1 := hSw.1.c2; have q2 := hSw.1.c4; have q3 := hSw.1.c5; have q4 := hSw.2; (try simp only [List.getElem_toArray, List.getElem_cons_zero, List.getElem_cons_succ]); go_simp <;> with_reducible rfl)
        (try simp only [Act.put, List.getElem_toArray, List.getElem_cons_zero, List.getElem_cons_succ, List.setIfInBounds_toArray, List.set_cons_zero, List.set_cons_succ])
        refine wpAnyH_take (i := 3) (v := undef) rfl (by kernel_rfl) (by kernel_rfl) (by kernel_rfl) (fun _ _ _ h => h) (Or.inr ⟨by rfl, rfl⟩) hHeld ?_
        (try simp only [Act.put, List.getElem_toArray, List.getElem_cons_zero, List.getElem_cons_succ, List.setIfInBounds_toArray, List.set_cons_zero, List.set_cons_succ])
        refine wpAnyH_take (i := 4) (v := undef) rfl (by kernel_rfl) (by kernel_rfl) (by kernel_rfl) (fun _ _ _ h => h) (Or.inr ⟨by rfl, rfl⟩) hHeld ?_
        (try simp only [Act.put, List.getElem_toArray, List.getElem_cons_zero, List.getElem_cons_succ, List.setIfInBounds_toArray, List.set_cons_zero, List.set_cons_succ])
        refine wpAnyH_take (i := 5) (v := undef) rfl (by kernel_rfl) (by kernel_rfl) (by kernel_rfl) (fun _ _ _ h => h) (Or.inr ⟨by rfl, rfl⟩) hHeld ?_
        (try simp only [Act.put, List.getElem_toArray, List.getElem_cons_zero, List.getElem_cons_succ, List.setIfInBounds_toArray, List.set_cons_zero, List.set_cons_succ])
        refine wpAnyH_take (i := 6) (v := undef) rfl (by kernel_rfl) (by kernel_rfl) (by kernel_rfl) (fun _ _ _ h => h) (Or.inr ⟨by rfl, rfl⟩) hHeld ?_
        (try simp only [Act.put, List.getElem_toArray, List.getElem_cons_zero, List.getElem_cons_succ, List.setIfInBounds_toArray, List.set_cons_zero, List.set_cons_succ])
        refine wpAnyH_take (i := 7) (v := undef) rfl (by kernel_rfl) (by kernel_rfl) (by kernel_rfl) (fun _ _ _ h => h) (Or.inr ⟨by rfl, rfl⟩) hHeld ?_
        (try simp only [Act.put, List.getElem_toArray, List.getElem_cons_zero, List.getElem_cons_succ, List.setIfInBounds_toArray, List.set_cons_zero, List.set_cons_succ])
        refine wpAnyH_take (i := 8) (v := undef) rfl (by kernel_rfl) (by kernel_rfl) (by kernel_rfl) (fun _ _ _ h => h) (Or.inr ⟨by rfl, rfl⟩) hHeld ?_
        (try simp only [Act.put, List.getElem_toArray, List.getElem_cons_zero, List.getElem_cons_succ, List.setIfInBounds_toArray, List.set_cons_zero, List.set_cons_succ])
        refine wpAnyH_take (i := 9) (v := undef) rfl (by kernel_rfl) (by kernel_rfl) (by kernel_rfl) (fun _ _ _ h => h) (Or.inr ⟨by rfl, rfl⟩) hHeld ?_
        (try simp only [Act.put, List.getElem_toArray, List.getElem_cons_zero, List.getElem_cons_succ, List.setIfInBounds_toArray, List.set_cons_zero, List.set_cons_succ])
        refine wpAnyH_take (i := 10) (v := undef) rfl (by kernel_rfl) (by kernel_rfl) (by kernel_rfl) (fun _ _ _ h => h) (Or.inr ⟨by rfl, rfl⟩) hHeld ?_
        (try simp only [Act.put, List.getElem_toArray, List.getElem_cons_zero, List.getElem_cons_succ, List.setIfInBounds_toArray, List.set_cons_zero, List.set_cons_succ])
        refine wpAnyH_take (i := 11) (v := undef) rfl (by kernel_rfl) (by kernel_rfl) (by kernel_rfl) (fun _ _ _ h => h) (Or.inr ⟨by rfl, rfl⟩) hHeld ?_
        (try simp only [Act.put, List.getElem_toArray, List.getElem_cons_zero, List.getElem_cons_succ, List.setIfInBounds_toArray, List.set_cons_zero, List.set_cons_succ])
        refine wpAnyH_take (i := 12) (v := undef) rfl (by kernel_rfl) (by kernel_rfl) (by kernel_rfl) (fun _ _ _ h => h) (Or.inr ⟨by rfl, rfl⟩) hHeld ?_
        (try simp only [Act.put, List.getElem_toArray, List.getElem_cons_zero, List.getElem_cons_succ, List.setIfInBounds_toArray, List.set_cons_zero, List.set_cons_succ])
        refine wpAnyH_take (i := 13) (v := undef) rfl (by kernel_rfl) (by kernel_rfl) (by kernel_rfl) (fun _ _ _ h => h) (Or.inr ⟨by rfl, rfl⟩) hHeld ?_
        (try simp only [Act.put, List.getElem_toArray, List.getElem_cons_zero, List.getElem_cons_succ, List.setIfInBounds_toArray, List.set_cons_zero, List.set_cons_succ])
        refine wpAnyH_take (i := 14) (v := undef) rfl (by kernel_rfl) (by kernel_rfl) (by kernel_rfl) (fun _ _ _ h => h) (Or.inr ⟨by rfl, rfl⟩) hHeld ?_
        (try simp only [Act.put, List.getElem_toArray, List.getElem_cons_zero, List.getElem_cons_succ, List.setIfInBounds_toArray, List.set_cons_zero, List.set_cons_succ])
        refine wpAnyH_take (i := 15) (v := undef) rfl (by kernel_rfl) (by kernel_rfl) (by kernel_rfl) (fun _ _ _ h => h) (Or.inr ⟨by rfl, rfl⟩) hHeld ?_
        (try simp only [Act.put, List.getElem_toArray, List.getElem_cons_zero, List.getElem_cons_succ, List.setIfInBounds_toArray, List.set_cons_zero, List.set_cons_succ])
        refine wpAnyH_take (i := 16) (v := undef) rfl (by kernel_rfl) (by kernel_rfl) (by kernel_rfl) (fun _ _ _ h => h) (Or.inr ⟨by rfl, rfl⟩) hHeld ?_
        (try simp only [Act.put, List.getElem_toArray, List.getElem_cons_zero, List.getElem_cons_succ, List.setIfInBounds_toArray, List.set_cons_zero, List.set_cons_succ])
        refine wpAnyH_take (i := 17) (v := undef) rfl (by kernel_rfl) (by kernel_rfl) (by kernel_rfl) (fun _ _ _ h => h) (Or.inr ⟨by rfl, rfl⟩) hHeld ?_
        (try simp only [Act.put, List.getElem_toArray, List.getElem_cons_zero, List.getElem_cons_succ, List.setIfInBounds_toArray, List.set_cons_zero, List.set_cons_succ])
        refine wpAnyH_take (i := 18) (v := undef) rfl (by kernel_rfl) (by kernel_rfl) (by kernel_rfl) (fun _ _ _ h => h) (Or.inr ⟨by rfl, rfl⟩) hHeld ?_
        (try simp only [Act.put, List.getElem_toArray, List.getElem_cons_zero, List.getElem_cons_succ, List.setIfInBounds_toArray, List.set_cons_zero, List.set_cons_succ])
        refine wpAnyH_take (i := 19) (v := undef) rfl (by kernel_rfl) (by kernel_rfl) (by kernel_rfl) (fun _ _ _ h => h) (Or.inr ⟨by rfl, rfl⟩) hHeld ?_
        (try simp only [Act.put, List.getElem_toArray, List.getElem_cons_zero, List.getElem_cons_succ, List.setIfInBounds_toArray, List.set_cons_zero, List.set_cons_succ])
        refine wpAnyH_take (i := 20) (v := undef) rfl (by kernel_rfl) (by kernel_rfl) (by kernel_rfl) (fun _ _ _ h => h) (Or.inr ⟨by rfl, rfl⟩) hHeld ?_
        (try simp only [Act.put, List.getElem_toArray, List.getElem_cons_zero, List.getElem_cons_succ, List.setIfInBounds_toArray, List.set_cons_zero, List.set_cons_succ])
        refine wpAnyH_take (i := 21) (v := undef) rfl (by kernel_rfl) (by kernel_rfl) (by kernel_rfl) (fun _ _ _ h => h) (Or.inr ⟨by rfl, rfl⟩) hHeld ?_
        (try simp only [Act.put, List.getElem_toArray, List.getElem_cons_zero, List.getElem_cons_succ, List.setIfInBounds_toArray, List.set_cons_zero, List.set_cons_succ])
        refine wpAnyH_take (i := 22) (v := undef) rfl (by kernel_rfl) (by kernel_rfl) (by kernel_rfl) (fun _ _ _ h => h) (Or.inr ⟨by rfl, rfl⟩) hHeld ?_
        (try simp only [Act.put, List.getElem_toArray, List.getElem_cons_zero, List.getElem_cons_succ, List.setIfInBounds_toArray, List.set_cons_zero, List.set_cons_succ])
        refine wpAnyH_take (i := 23) (v := undef) rfl (by kernel_rfl) (by kernel_rfl) (by kernel_rfl) (fun _ _ _ h => h) (Or.inr ⟨by rfl, rfl⟩) hHeld ?_
        (try simp only [Act.put, List.getElem_toArray, List.getElem_cons_zero, List.getElem_cons_succ, List.setIfInBounds_toArray, List.set_cons_zero, List.set_cons_succ])
        refine wpAnyH_take (i := 24) (v := undef) rfl (by kernel_rfl) (by kernel_rfl) (by kernel_rfl) (fun _ _ _ h => h) (Or.inr ⟨by rfl, rfl⟩) hHeld ?_
        (try simp only [Act.put, List.getElem_toArray, List.getElem_cons_zero, List.getElem_cons_succ, List.setIfInBounds_toArray, List.set_cons_zero, List.set_cons_succ])
        refine wpAnyH_take (i := 25) (v := undef) rfl (by kernel_rfl) (by kernel_rfl) (by kernel_rfl) (fun _ _ _ h => h) (Or.inr ⟨by rfl, rfl⟩) hHeld ?_
        (try simp only [Act.put, List.getElem_toArray, List.getElem_cons_zero, List.getElem_cons_succ, List.setIfInBounds_toArray, List.set_cons_zero, List.set_cons_succ])
        refine wpAnyH_take (i := 26) (v := undef) rfl (by kernel_rfl) (by kernel_rfl) (by kernel_rfl) (fun _ _ _ h => h) (Or.inr ⟨by rfl, rfl⟩) hHeld ?_
        (try simp only [Act.put, List.getElem_toArray, List.getElem_cons_zero, List.getElem_cons_succ, List.setIfInBounds_toArray, List.set_cons_zero, List.set_cons_succ])
        refine wpAnyH_take (i := 27) (v := undef) rfl (by kernel_rfl) (by kernel_rfl) (by kernel_rfl) (fun _ _ _ h => h) (Or.inr ⟨by rfl, rfl⟩) hHeld ?_
        (try simp only [Act.put, List.getElem_toArray, List.getElem_cons_zero, List.getElem_cons_succ, List.setIfInBounds_toArray, List.set_cons_zero, List.set_cons_succ])
        refine wpAnyH_take (i := 28) (v := undef) rfl (by kernel_rfl) (by kernel_rfl) (by kernel_rfl) (fun _ _ _ h => h) (Or.inr ⟨by rfl, rfl⟩) hHeld ?_
        (try simp only [Act.put, List.getElem_toArray, List.getElem_cons_zero, List.getElem_cons_succ, List.setIfInBounds_toArray, List.set_cons_zero, List.set_cons_succ])
        refine wpAnyH_take (i := 29) (v := undef) rfl (by kernel_rfl) (by kernel_rfl) (by kernel_rfl) (fun _ _ _ h => h) (Or.inr ⟨by rfl, rfl⟩) hHeld ?_
        (try simp only [Act.put, List.getElem_toArray, List.getElem_cons_zero, List.getElem_cons_succ, List.setIfInBounds_toArray, List.set_cons_zero, List.set_cons_succ])
        refine wpAnyH_take (i := 30) (v := undef) rfl (by kernel_rfl) (by kernel_rfl) (by kernel_rfl) (fun _ _ _ h => h) (Or.inr ⟨by rfl, rfl⟩) hHeld ?_
        (try simp only [Act.put, List.getElem_toArray, List.getElem_cons_zero, List.getElem_cons_succ, List.setIfInBounds_toArray, List.set_cons_zero, List.set_cons_succ])
        refine wpAnyH_take (i := 31) (v := undef) rfl (by kernel_rfl) (by kernel_rfl) (by kernel_rfl) (fun _ _ _ h => h) (Or.inr ⟨by rfl, rfl⟩) hHeld ?_
        (try simp only [Act.put, List.getElem_toArray, List.getElem_cons_zero, List.getElem_cons_succ, List.setIfInBounds_toArray, List.set_cons_zero, List.set_cons_succ])
        refine wpAnyH_take (i := 32) (v := ?v32_34) rfl (by kernel_rfl) (by kernel_rfl) (by kernel_rfl) (fun _ _ _ h => h) (Or.inl ⟨by rfl, ?hy32_34⟩) hHeld ?_
        case hy32_34 => (intro w hSw; (try dsimp only at hSw); have q0 := hSw.1.c0; have q1 := hSw.1.c2; have q2 := hSw.1.c4; have q3 := hSw.1.c5; have q4 := hSw.2; (try simp only [List.getElem_toArray, List.getElem_cons_zero, List.getElem_cons_succ]); go_simp <;> with_reducible rfl)
        (try simp only [Act.put, List.getElem_toArray, List.getElem_cons_zero, List.getElem_cons_succ, List.setIfInBounds_toArray, List.set_cons_zero, List.set_cons_succ])
        refine wpAnyH_done (by kernel_rfl) ?_ _
        go_wp2_with fail
        go_roundw
        case rel => exact ⟨j + 1, by omega, by go_num, K14.out.bel, F, O14.out⟩
        case measure => simp [intOf]; omega
    · obtain rfl : j = 4 := by omega
      have hfree := hown.freeAt 0
      have hcell := hown.cellAt (iraw_0 f 1 l0 l1 l2 l3)
      have HO := Lib.hid (And.intro hbr hown)
      clear hbr hown
      go_wp2_with fail
      obtain ⟨F, hF⟩ : ∃ F : UInt8, F.toNat = low.toNat % 128 := ⟨UInt8.ofNat (low.toNat % 128), by rw [UInt8.toNat_ofNat']; omega⟩
      have hFi : ((low.toNat : Int) % 128) = (F.toNat : Int) := by omega
      have hFn : F.toNat < 128 := by omega
      rw [hFi]
      have hown2 : OwnB (wr.setCell ⟨g, 0, none⟩ (.int .u8 (F.toNat : Int))) w.heap.size (some ⟨g, 0, none⟩) m c4 (irawP ((F, 1, l0, l1), l2, l3)) := by
        have h1 := HO.out.2.stored 0 F (.int .u8 (F.toNat : Int)) rfl
        rwa [iraw_set] at h1
      have hbel2 : Below w.heap.size w (wr.setCell ⟨g, 0, none⟩ (.int .u8 (F.toNat : Int))) := HO.out.1.trans (((Oth.refl [g] wr).set (x := g) (by simp) 0 (.int .u8 (F.toNat : Int))).below (fun k hk => by rw [List.mem_singleton.1 hk]; exact HG.out) HO.out.1.size)
      obtain ⟨w11, HW⟩ : ∃ w11, Hid (wr.setCell ⟨g, 0, none⟩ (.int .u8 (F.toNat : Int)) = w11) := ⟨_, Lib.hid rfl⟩
      rw [HW.out] at hown2 hbel2 ⊢
      have O11 := Lib.hid hown2
      have KB : IW w [] [] [] w11 := ⟨hbel2, fun r hr => (by cases hr), fun r hr => (by cases hr), fun r hr => (by cases hr)⟩
      have K11 := Lib.hid KB
      have HX := Lib.hid (iprs_few F 1 l0 l1 l2 l3 hFn)
      clear hF hFi hFn hown2 hbel2 KB hfree hcell HO
      refine (iparse_any _ m c4 (irawP ((F, 1, l0, l1), l2, l3)) _ (by exact O11.out.rb) (by omega)).mono ?_
      rw [HX.out]
      intro e w12 qq
      obtain ⟨i, rfl, hp, _, kk⟩ := K11.out.ret qq
      have K12 := Lib.hid kk
      clear qq hp kk K11 O11
      go_wp2_with (first
        | (with_reducible show wpList _ _ _ (⟨some 16, .alloc _, _, _, _, none⟩ :: _) _ _; refine wpList_newI rt_ini rfl rfl ?_; intro w12a x hc2 hb2 hx2; have H2 := Lib.hid (And.intro hc2 (And.intro hb2 hx2)); clear hc2 hb2 hx2)
        | (refine wpList_stI rt_ini rfl (.tmp 16) (.tmp 132) rfl x rfl i zeroI rfl (by exact H2.out.1) ?_; intro w12b hc3 ho3 hs3; have K13 := Lib.hid (K12.out.var H2.out.2.1 H2.out.2.2 hc3 ho3); clear hc3 ho3 hs3 H2 K12))
      go_ret
      exact ⟨rfl, K13.out.bel⟩
end Go.Proofs.Ytdagmhngkpbonaa
