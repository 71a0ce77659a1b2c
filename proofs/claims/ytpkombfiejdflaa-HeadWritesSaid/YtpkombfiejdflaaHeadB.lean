/- Layer 10's Bytes and Same, and the reference's Same. Conditions: ids of at most a million bytes. -/
import Derived.Test.YtpkombfiejdflaaHeadPa
namespace Go.Proofs.Ytpkombfiejdflaa
open Go.RowKit
set_option linter.unusedVariables false
set_option linter.unusedSimpArgs false

/-! Plain. -/
theorem putL4_len (v : Nat) : (putL v 4).length = 4 := putL_len v 4
theorem putN_4 (v : Nat) (hv : v ≤ 4294967295) : putN v 4 = (putL v 4, 0) := by
  have hd : downL v 4 = 0 := by show v / 256 / 256 / 256 / 256 = 0; omega
  exact if_pos ⟨by decide, by decide, hd⟩
theorem putN_f (f : UInt8) : putN f.toNat 1 = ([f], 0) := by
  have := f.toNat_lt
  rw [putN_one (by omega)]
  simp
theorem shortP_len (p : List UInt8) : (shortP p).1.length ≤ 256 := by
  unfold shortP
  split
  · simp
  · simp only [List.length_cons]; omega
/-- What the writer's steps give. -/
theorem byt_chain (f : UInt8) (v : Nat) (a b : List UInt8) (hf : 128 ≤ f.toNat) : doneS (putS (shortP b).1 (shortP b).2 (putS (shortP a).1 (shortP a).2 (0, f :: putL v 4))) = byt (f, v, a, b) := by
  unfold byt
  rw [if_neg (by simp only; omega)]
  by_cases ha : 255 < a.length
  · rw [if_pos (.inl ha)]
    have e : shortP a = ([], 15) := if_pos ha
    rw [e, putS_e _ _ (by decide), putS_1 (s := (15, f :: putL v 4)) (show (15 : Int) ≠ 0 by decide)]
    exact doneS_1 (s := (15, f :: putL v 4)) (show (15 : Int) ≠ 0 by decide)
  · have e : shortP a = (UInt8.ofNat a.length :: a, 0) := if_neg ha
    rw [e, putS_0]
    by_cases hb : 255 < b.length
    · rw [if_pos (.inr hb)]
      have e : shortP b = ([], 15) := if_pos hb
      rw [e, putS_e _ _ (by decide)]
      exact doneS_1 (s := (15, _)) (show (15 : Int) ≠ 0 by decide)
    · rw [if_neg (by simp only; omega)]
      have e : shortP b = (UInt8.ofNat b.length :: b, 0) := if_neg hb
      rw [e, putS_0, doneS_0]
      unfold rawP
      simp
attribute [local irreducible] putS putN shortP doneS byt putL
attribute [local go_sem ↓] ex_ldHd ex_stHd ex_ldHr ex_stHr

/-- What Bytes' walk carries: the writer x, its bytes at A, the header's box q. -/
structure BK (v : World) (x q : Nat) (A : Option Addr) (h : Hd) (s : Int × List UInt8) (w : World) : Prop where
  bel : Below v.heap.size v w
  lx : v.heap.size ≤ x
  wr : WrR w x v.heap.size A s
  hd : Hc 27 w q h
theorem RB.ltB {w : World} {B n : Nat} {A : Option Addr} {l : List UInt8} (h : RB w B A n l) (hn : 0 < n) {g o : Nat} (e : A = some ⟨g, o, none⟩) : g < B := by
  obtain ⟨g', o', e', hg, _⟩ := h.2 hn
  rw [e] at e'
  injection e' with e'
  injection e' with e1
  omega
section
variable {v w w' : World} {x q n : Nat} {A B : Option Addr} {h : Hd} {s s' : Int × List UInt8} {e : Ending} {val : Value} {l : List UInt8}
theorem BK.step (k : BK v x q A h s w) (hb : Below w.heap.size w w') : BK v x q A h s w' := ⟨bel_next k.bel hb, k.lx, k.wr.step hb, k.hd.step hb⟩
theorem BK.away (k : BK v x q A h s w) (r : RB v v.heap.size B n l) : 0 < n → ∀ g o, B = some ⟨g, o, none⟩ → g ∉ blkO A := fun hn g o e hg => by
  have h1 := r.ltB hn e
  have h2 := (k.wr.own g hg).2.1
  omega
theorem BK.ret (k : BK v x q A h s w) (r : RetW WrR x v.heap.size A s' val w e w') : e = .returned val ∧ ∃ A', BK v x q A' h s' w' := by
  obtain ⟨he, A', h1, h2, h3⟩ := r
  refine ⟨he, A', k.bel.trans (h2.below (fun j hj => ?_) k.bel.size), k.lx, h3, k.hd.oth h2 (fun hm => ?_)⟩
  · rcases List.mem_cons.1 hj with rfl | hj
    · exact k.lx
    · exact (k.wr.own j hj).2.1
  · rcases List.mem_cons.1 hm with e1 | hm
    · obtain ⟨n, c, t, _⟩ := k.wr
      exact k.hd.ne t (by decide) e1
    · obtain ⟨a, ea, hk⟩ := mem_blkO hm
      obtain ⟨n, c, _, t⟩ := k.wr
      exact (k.hd.nob (by decide)).own t a.block 0 (by rw [ea]; exact congrArg some (t.spot a ea).1) (by simp [hk])
end

set_option maxRecDepth 100000 in
set_option maxHeartbeats 4000000 in
theorem hbytes_any (h : Hd) (w : World) (hk : h.ok w) (ha : h.a.length ≤ 1000000) (hb : h.b.length ≤ 1000000) :
    Calls Try.prog 16 #[h.val] w (RetBE (byt h.pl).1.length (byt h.pl).1 (byt h.pl).2 w) := by
  have HK := Lib.hid hk
  by_cases hf : h.f.toNat < 128
  · have he : byt h.pl = ([], 14) := by unfold byt; exact if_pos hf
    rw [he]
    have HI := Lib.hid (fun w => islong_any h.f false (decide_eq_false (by omega)) w)
    clear hk he
    go_enter Try.func16, Try.ntmps16
    go_wp2_with (first
      | (with_reducible show wpList _ _ _ (⟨_, .box _ (.tmp 0), _, _, _, none⟩ :: _) _ _; refine wpList_boxN rfl _ (.tmp 0) rfl h rfl ?_; intro w1 q hc1 hb1 hx1; have B1 := Lib.hid hb1; have c0 := hc1.c0; clear hc1 hb1 hx1))
    refine (HI.out _).mono ?_
    rintro e w2 ⟨rfl, rfl⟩
    go_wp2_with fail
    go_ret2
    exact ⟨none, 0, rfl, OwnB.nil_ _ _, B1.out⟩
  · have HI := Lib.hid (fun w => islong_any h.f true (decide_eq_true (by omega)) w)
    have HE := Lib.hid (byt_chain h.f h.v h.a h.b (by omega))
    have hp1 : putS (putN h.f.toNat 1).1 (putN h.f.toNat 1).2 (0, []) = (0, [h.f]) := by rw [putN_f, putS_0]; rfl
    have hp2 : putS (putN h.v 4).1 (putN h.v 4).2 (0, [h.f]) = (0, h.f :: putL h.v 4) := by rw [putN_4 _ hk.v32, putS_0]; rfl
    have P1 := Lib.hid hp1
    have P2 := Lib.hid hp2
    have h4 := putL4_len h.v
    obtain ⟨L, HL⟩ : ∃ L, Hid (L = h.f :: putL h.v 4) := ⟨_, Lib.hid rfl⟩
    have hL : L.length = 5 := by rw [HL.out]; simp [h4]
    rw [← HL.out] at P2 HE
    have l1 := putS_len (shortP h.a).1 (shortP h.a).2 (0, L)
    have l2 := shortP_len h.a
    obtain ⟨s3, HS3⟩ : ∃ s, Hid (s = putS (shortP h.a).1 (shortP h.a).2 (0, L)) := ⟨_, Lib.hid rfl⟩
    rw [← HS3.out] at l1 HE
    have l3 := putS_len (shortP h.b).1 (shortP h.b).2 s3
    have l4 := shortP_len h.b
    obtain ⟨s4, HS4⟩ : ∃ s, Hid (s = putS (shortP h.b).1 (shortP h.b).2 s3) := ⟨_, Lib.hid rfl⟩
    rw [← HS4.out] at l3 HE
    have b3 : s3.2.length ≤ 1000 := by simp only at l1; omega
    have b4 : s4.2.length ≤ 2000 := by omega
    have hf8 := h.f.toNat_lt
    have hv32 := hk.v32
    have wf : IntKind.u64.wrap (h.f.toNat : Int) = (h.f.toNat : Int) := by rw [IntKind.wrap_u64]; omega
    have wv : IntKind.u64.wrap (h.v : Int) = (h.v : Int) := by rw [IntKind.wrap_u64]; omega
    rw [show byt h.pl = byt (h.f, h.v, h.a, h.b) from rfl, ← HE.out]
    obtain ⟨R, HR⟩ : ∃ R, Hid (R = doneS s4) := ⟨_, Lib.hid rfl⟩
    rw [← HR.out]
    clear hk hf hp1 hp2 h4 l1 l2 l3 l4 HE
    go_enter Try.func16, Try.ntmps16
    go_wp2_with (first
      | (with_reducible show wpList _ _ _ (⟨_, .box _ (.tmp 0), _, _, _, none⟩ :: _) _ _; refine wpList_boxN rfl _ (.tmp 0) rfl h rfl ?_; intro w1 q hc1 hb1 hx1; have B1 := Lib.hid hb1; have C1 := Lib.hid hc1; have c0 := hc1.c0; clear hc1 hb1 hx1))
    refine (HI.out _).mono ?_
    rintro e w2 ⟨rfl, rfl⟩
    go_wp2_with fail
    have HCD : Hc 27 w1.drew q h := C1.out
    refine wp_region_held_drew (S := fun w' => Hc 27 w' q h) (by kernel_rfl) HCD (fun hHeld => ?_)
    (try dsimp only at hHeld)
    refine wpAnyH_take (i := 1) (v := ?v1_1) rfl (by kernel_rfl) (by kernel_rfl) (by kernel_rfl) (fun _ _ _ h => h) (Or.inl ⟨by rfl, ?hy1_1⟩) hHeld ?_
    case hy1_1 => (intro w hSw; (try dsimp only at hSw); have q0 := hSw.c0; have q1 := hSw.c1; have q2 := hSw.c2; have q3 := hSw.c3; (try simp only [List.getElem_toArray, List.getElem_cons_zero, List.getElem_cons_succ]); go_simp <;> with_reducible rfl)
    (try simp only [Act.put, List.getElem_toArray, List.getElem_cons_zero, List.getElem_cons_succ, List.setIfInBounds_toArray, List.set_cons_zero, List.set_cons_succ])
    refine wpAnyH_take (i := 2) (v := ?v2_2) rfl (by kernel_rfl) (by kernel_rfl) (by kernel_rfl) (fun _ _ _ h => h) (Or.inl ⟨by rfl, ?hy2_2⟩) hHeld ?_
    case hy2_2 => (intro w hSw; (try dsimp only at hSw); have q0 := hSw.c0; have q1 := hSw.c1; have q2 := hSw.c2; have q3 := hSw.c3; (try simp only [List.getElem_toArray, List.getElem_cons_zero, List.getElem_cons_succ]); go_simp <;> with_reducible rfl)
    (try simp only [Act.put, List.getElem_toArray, List.getElem_cons_zero, List.getElem_cons_succ, List.setIfInBounds_toArray, List.set_cons_zero, List.set_cons_succ])
    refine wpAnyH_take (i := 3) (v := ?v3_3) rfl (by kernel_rfl) (by kernel_rfl) (by kernel_rfl) (fun _ _ _ h => h) (Or.inl ⟨by rfl, ?hy3_3⟩) hHeld ?_
    case hy3_3 => (intro w hSw; (try dsimp only at hSw); have q0 := hSw.c0; have q1 := hSw.c1; have q2 := hSw.c2; have q3 := hSw.c3; (try simp only [List.getElem_toArray, List.getElem_cons_zero, List.getElem_cons_succ]); go_simp <;> with_reducible rfl)
    (try simp only [Act.put, List.getElem_toArray, List.getElem_cons_zero, List.getElem_cons_succ, List.setIfInBounds_toArray, List.set_cons_zero, List.set_cons_succ])
    refine wpAnyH_take (i := 5) (v := ?v5_4) rfl (by kernel_rfl) (by kernel_rfl) (by kernel_rfl) (fun _ _ _ h => h) (Or.inl ⟨by rfl, ?hy5_4⟩) hHeld ?_
    case hy5_4 => (intro w hSw; (try dsimp only at hSw); have q0 := hSw.c0; have q1 := hSw.c1; have q2 := hSw.c2; have q3 := hSw.c3; (try simp only [List.getElem_toArray, List.getElem_cons_zero, List.getElem_cons_succ]); go_simp <;> with_reducible rfl)
    (try simp only [Act.put, List.getElem_toArray, List.getElem_cons_zero, List.getElem_cons_succ, List.setIfInBounds_toArray, List.set_cons_zero, List.set_cons_succ])
    refine wpAnyH_take (i := 6) (v := ?v6_5) rfl (by kernel_rfl) (by kernel_rfl) (by kernel_rfl) (fun _ _ _ h => h) (Or.inl ⟨by rfl, ?hy6_5⟩) hHeld ?_
    case hy6_5 => (intro w hSw; (try dsimp only at hSw); have q0 := hSw.c0; have q1 := hSw.c1; have q2 := hSw.c2; have q3 := hSw.c3; (try simp only [List.getElem_toArray, List.getElem_cons_zero, List.getElem_cons_succ]); go_simp <;> with_reducible rfl)
    (try simp only [Act.put, List.getElem_toArray, List.getElem_cons_zero, List.getElem_cons_succ, List.setIfInBounds_toArray, List.set_cons_zero, List.set_cons_succ])
    refine wpAnyH_take (i := 7) (v := ?v7_6) rfl (by kernel_rfl) (by kernel_rfl) (by kernel_rfl) (fun _ _ _ h => h) (Or.inl ⟨by rfl, ?hy7_6⟩) hHeld ?_
    case hy7_6 => (intro w hSw; (try dsimp only at hSw); have q0 := hSw.c0; have q1 := hSw.c1; have q2 := hSw.c2; have q3 := hSw.c3; (try simp only [List.getElem_toArray, List.getElem_cons_zero, List.getElem_cons_succ]); go_simp <;> with_reducible rfl)
    (try simp only [Act.put, List.getElem_toArray, List.getElem_cons_zero, List.getElem_cons_succ, List.setIfInBounds_toArray, List.set_cons_zero, List.set_cons_succ])
    refine wpAnyH_ready (rs := [0]) (by kernel_rfl) (by simp) ?_
    refine AllReadyH.cons rfl (fun K hK => ?_) AllReadyH.nil
    (try simp only [List.getElem_toArray, List.getElem_cons_zero, List.getElem_cons_succ])
    go_simp
    refine (write_any _ w.heap.size (by exact B1.out.size)).mono ?_
    rintro e w3 ⟨x, rfl, hx, hb3, hw⟩
    have K3 : Hid (BK w x q none h (0, []) w3) := Lib.hid ⟨B1.out.trans (((Below.refl w1.heap.size w1).drew.trans hb3).mono B1.out.size), Nat.le_trans B1.out.size hx, hw, HCD.step hb3⟩
    clear hx hb3 hw
    (try go_wp2_with fail)
    refine hK.out _ _ K3.out.hd (fun hHeld => ?_)
    clear hK K
    (try simp only [Act.put, List.getElem_toArray, List.getElem_cons_zero, List.getElem_cons_succ, List.setIfInBounds_toArray, List.set_cons_zero, List.set_cons_succ])
    refine wpAnyH_ready (rs := [4]) (by kernel_rfl) (by simp) ?_
    refine AllReadyH.cons rfl (fun K hK => ?_) AllReadyH.nil
    (try simp only [List.getElem_toArray, List.getElem_cons_zero, List.getElem_cons_succ])
    go_simp
    refine (wnum_any x w.heap.size none h.f.toNat 1 _ _ K3.out.wr K3.out.bel.size (by simp) (by omega)).mono ?_
    rw [P1.out]
    intro e w4 k
    obtain ⟨rfl, A4, k4⟩ := K3.out.ret k
    have K4 := Lib.hid k4
    clear k k4
    (try go_wp2_with fail)
    refine hK.out _ _ K4.out.hd (fun hHeld => ?_)
    clear hK K
    (try simp only [Act.put, List.getElem_toArray, List.getElem_cons_zero, List.getElem_cons_succ, List.setIfInBounds_toArray, List.set_cons_zero, List.set_cons_succ])
    refine wpAnyH_ready (rs := [8]) (by kernel_rfl) (by simp) ?_
    refine AllReadyH.cons rfl (fun K hK => ?_) AllReadyH.nil
    (try simp only [List.getElem_toArray, List.getElem_cons_zero, List.getElem_cons_succ])
    go_simp
    refine (wnum_any x w.heap.size A4 h.v 4 _ _ K4.out.wr K4.out.bel.size (by simp) (by omega)).mono ?_
    rw [P2.out]
    intro e w5 k
    obtain ⟨rfl, A5, k5⟩ := K4.out.ret k
    have K5 := Lib.hid k5
    clear k k5
    (try go_wp2_with fail)
    refine hK.out _ _ K5.out.hd (fun hHeld => ?_)
    clear hK K
    (try simp only [Act.put, List.getElem_toArray, List.getElem_cons_zero, List.getElem_cons_succ, List.setIfInBounds_toArray, List.set_cons_zero, List.set_cons_succ])
    refine wpAnyH_take (i := 9) (v := ?v9_7) rfl (by kernel_rfl) (by kernel_rfl) (by kernel_rfl) (fun _ _ _ h => h) (Or.inl ⟨by rfl, ?hy9_7⟩) hHeld ?_
    case hy9_7 => (intro w hSw; (try dsimp only at hSw); have q0 := hSw.c0; have q1 := hSw.c1; have q2 := hSw.c2; have q3 := hSw.c3; (try simp only [List.getElem_toArray, List.getElem_cons_zero, List.getElem_cons_succ]); go_simp <;> with_reducible rfl)
    (try simp only [Act.put, List.getElem_toArray, List.getElem_cons_zero, List.getElem_cons_succ, List.setIfInBounds_toArray, List.set_cons_zero, List.set_cons_succ])
    refine wpAnyH_done (by kernel_rfl) ?_ _
    go_wp2_with fail
    have K5' := Lib.hid (K5.out.step (Below.refl _ _).drew)
    refine wp_region_held_drew (S := fun w' => Hc 27 w' q h) (by kernel_rfl) K5'.out.hd (fun hHeld => ?_)
    (try dsimp only at hHeld)
    refine wpAnyH_take (i := 0) (v := ?v0_8) rfl (by kernel_rfl) (by kernel_rfl) (by kernel_rfl) (fun _ _ _ h => h) (Or.inl ⟨by rfl, ?hy0_8⟩) hHeld ?_
    case hy0_8 => (intro w hSw; (try dsimp only at hSw); have q0 := hSw.c0; have q1 := hSw.c1; have q2 := hSw.c2; have q3 := hSw.c3; (try simp only [List.getElem_toArray, List.getElem_cons_zero, List.getElem_cons_succ]); go_simp <;> with_reducible rfl)
    (try simp only [Act.put, List.getElem_toArray, List.getElem_cons_zero, List.getElem_cons_succ, List.setIfInBounds_toArray, List.set_cons_zero, List.set_cons_succ])
    refine wpAnyH_take (i := 1) (v := ?v1_9) rfl (by kernel_rfl) (by kernel_rfl) (by kernel_rfl) (fun _ _ _ h => h) (Or.inl ⟨by rfl, ?hy1_9⟩) hHeld ?_
    case hy1_9 => (intro w hSw; (try dsimp only at hSw); have q0 := hSw.c0; have q1 := hSw.c1; have q2 := hSw.c2; have q3 := hSw.c3; (try simp only [List.getElem_toArray, List.getElem_cons_zero, List.getElem_cons_succ]); go_simp <;> with_reducible rfl)
    (try simp only [Act.put, List.getElem_toArray, List.getElem_cons_zero, List.getElem_cons_succ, List.setIfInBounds_toArray, List.set_cons_zero, List.set_cons_succ])
    refine wpAnyH_take (i := 2) (v := ?v2_10) rfl (by kernel_rfl) (by kernel_rfl) (by kernel_rfl) (fun _ _ _ h => h) (Or.inl ⟨by rfl, ?hy2_10⟩) hHeld ?_
    case hy2_10 => (intro w hSw; (try dsimp only at hSw); have q0 := hSw.c0; have q1 := hSw.c1; have q2 := hSw.c2; have q3 := hSw.c3; (try simp only [List.getElem_toArray, List.getElem_cons_zero, List.getElem_cons_succ]); go_simp <;> with_reducible rfl)
    (try simp only [Act.put, List.getElem_toArray, List.getElem_cons_zero, List.getElem_cons_succ, List.setIfInBounds_toArray, List.set_cons_zero, List.set_cons_succ])
    refine wpAnyH_take (i := 4) (v := ?v4_11) rfl (by kernel_rfl) (by kernel_rfl) (by kernel_rfl) (fun _ _ _ h => h) (Or.inl ⟨by rfl, ?hy4_11⟩) hHeld ?_
    case hy4_11 => (intro w hSw; (try dsimp only at hSw); have q0 := hSw.c0; have q1 := hSw.c1; have q2 := hSw.c2; have q3 := hSw.c3; (try simp only [List.getElem_toArray, List.getElem_cons_zero, List.getElem_cons_succ]); go_simp <;> with_reducible rfl)
    (try simp only [Act.put, List.getElem_toArray, List.getElem_cons_zero, List.getElem_cons_succ, List.setIfInBounds_toArray, List.set_cons_zero, List.set_cons_succ])
    refine wpAnyH_take (i := 5) (v := ?v5_12) rfl (by kernel_rfl) (by kernel_rfl) (by kernel_rfl) (fun _ _ _ h => h) (Or.inl ⟨by rfl, ?hy5_12⟩) hHeld ?_
    case hy5_12 => (intro w hSw; (try dsimp only at hSw); have q0 := hSw.c0; have q1 := hSw.c1; have q2 := hSw.c2; have q3 := hSw.c3; (try simp only [List.getElem_toArray, List.getElem_cons_zero, List.getElem_cons_succ]); go_simp <;> with_reducible rfl)
    (try simp only [Act.put, List.getElem_toArray, List.getElem_cons_zero, List.getElem_cons_succ, List.setIfInBounds_toArray, List.set_cons_zero, List.set_cons_succ])
    refine wpAnyH_ready (rs := [3]) (by kernel_rfl) (by simp) ?_
    refine AllReadyH.cons rfl (fun K hK => ?_) AllReadyH.nil
    (try simp only [List.getElem_toArray, List.getElem_cons_zero, List.getElem_cons_succ])
    go_simp
    refine (wshort_any x w.heap.size A5 h.A h.a.length h.c h.a _ _ K5'.out.wr (HK.out.a.step K5'.out.bel) (K5'.out.away HK.out.a) (by omega) K5'.out.bel.size (by simp only; omega)).mono ?_
    rw [← HS3.out]
    intro e w6 k
    obtain ⟨rfl, A6, k6⟩ := K5'.out.ret k
    have K6 := Lib.hid k6
    clear k k6
    (try go_wp2_with fail)
    refine hK.out _ _ K6.out.hd (fun hHeld => ?_)
    clear hK K
    (try simp only [Act.put, List.getElem_toArray, List.getElem_cons_zero, List.getElem_cons_succ, List.setIfInBounds_toArray, List.set_cons_zero, List.set_cons_succ])
    refine wpAnyH_ready (rs := [6]) (by kernel_rfl) (by simp) ?_
    refine AllReadyH.cons rfl (fun K hK => ?_) AllReadyH.nil
    (try simp only [List.getElem_toArray, List.getElem_cons_zero, List.getElem_cons_succ])
    go_simp
    refine (wshort_any x w.heap.size A6 h.B h.b.length h.d h.b _ _ K6.out.wr (HK.out.b.step K6.out.bel) (K6.out.away HK.out.b) (by omega) K6.out.bel.size (by omega)).mono ?_
    rw [← HS4.out]
    intro e w7 k
    obtain ⟨rfl, A7, k7⟩ := K6.out.ret k
    have K7 := Lib.hid k7
    clear k k7
    (try go_wp2_with fail)
    refine hK.out _ _ K7.out.hd (fun hHeld => ?_)
    clear hK K
    (try simp only [Act.put, List.getElem_toArray, List.getElem_cons_zero, List.getElem_cons_succ, List.setIfInBounds_toArray, List.set_cons_zero, List.set_cons_succ])
    refine wpAnyH_ready (rs := [7]) (by kernel_rfl) (by simp) ?_
    refine AllReadyH.cons rfl (fun K hK => ?_) AllReadyH.nil
    (try simp only [List.getElem_toArray, List.getElem_cons_zero, List.getElem_cons_succ])
    go_simp
    refine (wdone_any x w.heap.size A7 _ _ K7.out.wr (by omega)).mono ?_
    rw [← HR.out]
    rintro e w8 ⟨A8, c8, rfl, ho8, hb8⟩
    have K8 := Lib.hid (K7.out.step hb8)
    have O8 := Lib.hid (ho8.base_le K7.out.bel.size)
    clear ho8 hb8
    (try go_wp2_with fail)
    refine hK.out _ _ K8.out.hd (fun hHeld => ?_)
    clear hK K
    (try simp only [Act.put, List.getElem_toArray, List.getElem_cons_zero, List.getElem_cons_succ, List.setIfInBounds_toArray, List.set_cons_zero, List.set_cons_succ])
    refine wpAnyH_take (i := 8) (v := ?v8_13) rfl (by kernel_rfl) (by kernel_rfl) (by kernel_rfl) (fun _ _ _ h => h) (Or.inl ⟨by rfl, ?hy8_13⟩) hHeld ?_
    case hy8_13 => (intro w hSw; (try dsimp only at hSw); have q0 := hSw.c0; have q1 := hSw.c1; have q2 := hSw.c2; have q3 := hSw.c3; (try simp only [List.getElem_toArray, List.getElem_cons_zero, List.getElem_cons_succ]); go_simp <;> with_reducible rfl)
    (try simp only [Act.put, List.getElem_toArray, List.getElem_cons_zero, List.getElem_cons_succ, List.setIfInBounds_toArray, List.set_cons_zero, List.set_cons_succ])
    refine wpAnyH_take (i := 9) (v := ?v9_14) rfl (by kernel_rfl) (by kernel_rfl) (by kernel_rfl) (fun _ _ _ h => h) (Or.inl ⟨by rfl, ?hy9_14⟩) hHeld ?_
    case hy9_14 => (intro w hSw; (try dsimp only at hSw); have q0 := hSw.c0; have q1 := hSw.c1; have q2 := hSw.c2; have q3 := hSw.c3; (try simp only [List.getElem_toArray, List.getElem_cons_zero, List.getElem_cons_succ]); go_simp <;> with_reducible rfl)
    (try simp only [Act.put, List.getElem_toArray, List.getElem_cons_zero, List.getElem_cons_succ, List.setIfInBounds_toArray, List.set_cons_zero, List.set_cons_succ])
    refine wpAnyH_take (i := 10) (v := ?v10_15) rfl (by kernel_rfl) (by kernel_rfl) (by kernel_rfl) (fun _ _ _ h => h) (Or.inl ⟨by rfl, ?hy10_15⟩) hHeld ?_
    case hy10_15 => (intro w hSw; (try dsimp only at hSw); have q0 := hSw.c0; have q1 := hSw.c1; have q2 := hSw.c2; have q3 := hSw.c3; (try simp only [List.getElem_toArray, List.getElem_cons_zero, List.getElem_cons_succ]); go_simp <;> with_reducible rfl)
    (try simp only [Act.put, List.getElem_toArray, List.getElem_cons_zero, List.getElem_cons_succ, List.setIfInBounds_toArray, List.set_cons_zero, List.set_cons_succ])
    refine wpAnyH_take (i := 11) (v := ?v11_16) rfl (by kernel_rfl) (by kernel_rfl) (by kernel_rfl) (fun _ _ _ h => h) (Or.inl ⟨by rfl, ?hy11_16⟩) hHeld ?_
    case hy11_16 => (intro w hSw; (try dsimp only at hSw); have q0 := hSw.c0; have q1 := hSw.c1; have q2 := hSw.c2; have q3 := hSw.c3; (try simp only [List.getElem_toArray, List.getElem_cons_zero, List.getElem_cons_succ]); go_simp <;> with_reducible rfl)
    (try simp only [Act.put, List.getElem_toArray, List.getElem_cons_zero, List.getElem_cons_succ, List.setIfInBounds_toArray, List.set_cons_zero, List.set_cons_succ])
    refine wpAnyH_done (by kernel_rfl) ?_ _
    go_wp2_with fail
    go_ret2
    exact ⟨A8, c8, rfl, O8.out, K8.out.bel⟩
end Go.Proofs.Ytpkombfiejdflaa
