/- Layer 10's reference: Parse together, Bytes. Conditions: at most a million bytes. -/
import Derived.Test.YtpkombfiejdflaaHeadRp
namespace Go.Proofs.Ytpkombfiejdflaa
open Go.RowKit
set_option linter.unusedVariables false
set_option linter.unusedSimpArgs false
theorem rparse_any (A : Option Addr) (n c : Nat) (l : List UInt8) (w : World) (h : RB w w.heap.size A n l) (hc : n ≤ c ∧ c ≤ maxLen) (hn : n ≤ 1000000) :
    Calls Try.prog 10 #[.slice A n c] w (RetHd (prs l) w) := by
  rcases l with _ | ⟨f, t⟩
  · exact rparse_bad A n c [] w h hn (.inl (by simp))
  · by_cases hf : f.toNat < 128
    · exact rparse_bad A n c _ w h hn (.inr ⟨f, t, rfl, hf⟩)
    · by_cases h4 : t.length < 4
      · exact rparse_bad A n c _ w h hn (.inl (by simp; omega))
      · rw [prs_more f t hf h4]
        exact rparse_more A n c f t w h hc hn hf h4
theorem byt_long (p : Pl) (h : ¬ p.1.toNat < 128) (h1 : 255 < p.2.2.1.length ∨ 255 < p.2.2.2.length) : byt p = ([], 15) := (if_neg h).trans (if_pos h1)
theorem byt_ok (p : Pl) (h : ¬ p.1.toNat < 128) (h1 : ¬ (255 < p.2.2.1.length ∨ 255 < p.2.2.2.length)) : byt p = (rawP p, 0) := (if_neg h).trans (if_neg h1)
theorem putL_four (v : Nat) : putL v 4 = [UInt8.ofNat (v / 256 / 256 / 256), UInt8.ofNat (v / 256 / 256), UInt8.ofNat (v / 256), UInt8.ofNat v] := rfl
theorem lit5 (f : UInt8) (v : Nat) (hv : v ≤ 4294967295) : #[Value.int .u8 (f.toNat : Int), .int .u8 ((v : Int) / 16777216), .int .u8 ((v : Int) / 65536 % 256), .int .u8 ((v : Int) / 256 % 256), .int .u8 ((v : Int) % 256)] = (bvs (f :: putL v 4)).toArray := by
  rw [putL_four]
  simp only [bvs, bv, List.map_cons, List.map_nil, UInt8.toNat_ofNat', Array.mk.injEq, List.cons.injEq, Value.int.injEq, true_and, and_true]
  omega
theorem lit1 (n : Nat) (hn : n ≤ 255) : #[Value.int .u8 (n : Int)] = (bvs [UInt8.ofNat n]).toArray := by
  simp only [bvs, bv, List.map_cons, List.map_nil, UInt8.toNat_ofNat', Array.mk.injEq, List.cons.injEq, Value.int.injEq, true_and, and_true]
  omega
/-- A header beside bytes that grow. -/
theorem Hc.app {T : TypeId} {w w' : World} {x base n c : Nat} {h : Hd} {A : Option Addr} {l : List UInt8} (k : Hc T w x h) (hT : T ≠ 5) (r : OwnB w base A n c l) (ho : Oth (blkO A) w w') : Hc T w' x h :=
  k.oth ho (fun hm => by
    obtain ⟨a, ea, hk⟩ := mem_blkO hm
    exact (k.nob hT).own r a.block 0 (by rw [ea]; exact congrArg some (r.spot a ea).1) (by simp [hk]))
attribute [local irreducible] putL byt
attribute [local go_sem ↓] ex_ldHr ex_stHr
set_option maxRecDepth 100000 in
set_option maxHeartbeats 4000000 in
theorem rhbytes_any (h : Hd) (w : World) (hk : h.ok w) (ha : h.a.length ≤ 1000000) (hb : h.b.length ≤ 1000000) :
    Calls Try.prog 17 #[h.val] w (RetBE (byt h.pl).1.length (byt h.pl).1 (byt h.pl).2 w) := by
  have HK := Lib.hid hk
  have hf8 := h.f.toNat_lt
  by_cases hf : h.f.toNat < 128
  · have he : byt h.pl = ([], 14) := by unfold byt; exact if_pos hf
    rw [he]
    clear hk he
    go_enter Try.func17, Try.ntmps17
    go_wp2_with (first
      | (with_reducible show wpList _ _ _ (⟨_, .box _ (.tmp 0), _, _, _, none⟩ :: _) _ _; refine wpList_boxN rfl _ (.tmp 0) rfl h rfl ?_; intro w1 q hc1 hb1 hx1; have B1 := Lib.hid hb1; have c0 := hc1.c0; clear hc1 hb1 hx1))
    go_ret2
    exact ⟨none, 0, rfl, OwnB.nil_ _ _, B1.out⟩
  by_cases h1 : 255 < h.a.length
  · have he : byt h.pl = ([], 15) := byt_long h.pl hf (.inl h1)
    rw [he]
    have d1 : decide (255 < (h.a.length : Int)) = true := decide_eq_true (by omega)
    clear hk he
    go_enter Try.func17, Try.ntmps17
    go_wp2_with (first
      | (with_reducible show wpList _ _ _ (⟨_, .box _ (.tmp 0), _, _, _, none⟩ :: _) _ _; refine wpList_boxN rfl _ (.tmp 0) rfl h rfl ?_; intro w1 q hc1 hb1 hx1; have B1 := Lib.hid hb1; have c0 := hc1.c0; have c2 := hc1.c2; have c3 := hc1.c3; clear hc1 hb1 hx1))
    go_ret2
    exact ⟨none, 0, rfl, OwnB.nil_ _ _, B1.out⟩
  by_cases h2 : 255 < h.b.length
  · have he : byt h.pl = ([], 15) := byt_long h.pl hf (.inr h2)
    rw [he]
    have d1 : decide (255 < (h.a.length : Int)) = false := decide_eq_false (by omega)
    have d2 : decide (255 < (h.b.length : Int)) = true := decide_eq_true (by omega)
    clear hk he
    go_enter Try.func17, Try.ntmps17
    go_wp2_with (first
      | (with_reducible show wpList _ _ _ (⟨_, .box _ (.tmp 0), _, _, _, none⟩ :: _) _ _; refine wpList_boxN rfl _ (.tmp 0) rfl h rfl ?_; intro w1 q hc1 hb1 hx1; have B1 := Lib.hid hb1; have c0 := hc1.c0; have c2 := hc1.c2; have c3 := hc1.c3; clear hc1 hb1 hx1))
    go_ret2
    exact ⟨none, 0, rfl, OwnB.nil_ _ _, B1.out⟩
  have he : byt h.pl = (rawP h.pl, 0) := byt_ok h.pl hf (by show ¬ (255 < h.a.length ∨ 255 < h.b.length); omega)
  rw [he]
  have d1 : decide (255 < (h.a.length : Int)) = false := decide_eq_false (by omega)
  have d2 : decide (255 < (h.b.length : Int)) = false := decide_eq_false (by omega)
  have hv32 := hk.v32
  clear hk he
  go_enter Try.func17, Try.ntmps17
  go_wp2_with (first
    | (with_reducible show wpList _ _ _ (⟨_, .box _ (.tmp 0), _, _, _, none⟩ :: _) _ _; refine wpList_boxN rfl _ (.tmp 0) rfl h rfl ?_; intro w1 q hc1 hb1 hx1; have B1 := Lib.hid hb1; have C1 := Lib.hid hc1; have c0 := hc1.c0; have c1 := hc1.c1; have c2 := hc1.c2; have c3 := hc1.c3; clear hc1 hb1 hx1))
  have ha255 : h.a.length ≤ 255 := by omega
  have hb255 : h.b.length ≤ 255 := by omega
  have l5 := lit5 h.f h.v hv32
  obtain ⟨L0, HL0⟩ : ∃ L, Hid (L = h.f :: putL h.v 4) := ⟨_, Lib.hid rfl⟩
  rw [← HL0.out] at l5
  have hl5 : L0.length = 5 := by rw [HL0.out]; simp [putL_four]
  obtain ⟨cs, HCS⟩ : ∃ cs, Hid (cs = #[Value.int .u8 (h.f.toNat : Int), .int .u8 ((h.v : Int) / 16777216), .int .u8 ((h.v : Int) / 65536 % 256), .int .u8 ((h.v : Int) / 256 % 256), .int .u8 ((h.v : Int) % 256)]) := ⟨_, Lib.hid rfl⟩
  rw [← HCS.out] at l5 ⊢
  have OL0 : Hid (OwnB (w1.alloc (.cells cs 5)).drew w.heap.size (some ⟨w1.heap.size, 0, none⟩) 5 5 L0) := Lib.hid (OwnB.lit w1 _ L0 cs 5 l5 hl5 (by unfold maxLen; omega) B1.out.size)
  have BL0 : Hid (Below w.heap.size w (w1.alloc (.cells cs 5)).drew) := Lib.hid (bel_next B1.out (below_alloc _ _)).drew
  have CL0 : Hid (Hc 31 (w1.alloc (.cells cs 5)).drew q h) := Lib.hid (C1.out.step (below_alloc _ _).drew)
  obtain ⟨v0, HV0⟩ : ∃ v0, Hid (v0 = w1.alloc (.cells cs 5)) := ⟨_, Lib.hid rfl⟩
  obtain ⟨g0, HG0⟩ : ∃ v0, Hid (v0 = w1.heap.size) := ⟨_, Lib.hid rfl⟩
  rw [← HV0.out] at OL0 BL0 CL0 ⊢
  rw [← HG0.out] at OL0 ⊢
  have hwa : IntKind.u8.wrap (h.a.length : Int) = (h.a.length : Int) := by rw [IntKind.wrap_u8]; omega
  have hwb : IntKind.u8.wrap (h.b.length : Int) = (h.b.length : Int) := by rw [IntKind.wrap_u8]; omega
  have la1 := lit1 h.a.length ha255
  have lb1 := lit1 h.b.length hb255
  have LA1 := Lib.hid la1
  have LB1 := Lib.hid lb1
  clear C1 B1 c0 c1 c2 c3 l5 HCS la1 lb1
  refine wp_region_held_drew (S := fun w' => Hc 31 w' q h) (by kernel_rfl) CL0.out (fun hHeld => ?_)
  (try dsimp only at hHeld)
  refine wpAnyH_take (i := 0) (v := ?v0_1) rfl (by kernel_rfl) (by kernel_rfl) (by kernel_rfl) (fun _ _ _ h => h) (Or.inl ⟨by rfl, ?hy0_1⟩) hHeld ?_
  case hy0_1 => (intro w hSw; (try dsimp only at hSw); have q0 := hSw.c0; have q1 := hSw.c1; have q2 := hSw.c2; have q3 := hSw.c3; (try simp only [List.getElem_toArray, List.getElem_cons_zero, List.getElem_cons_succ]); go_simp <;> with_reducible rfl)
  (try simp only [Act.put, List.getElem_toArray, List.getElem_cons_zero, List.getElem_cons_succ, List.setIfInBounds_toArray, List.set_cons_zero, List.set_cons_succ])
  refine wpAnyH_take (i := 1) (v := ?v1_2) rfl (by kernel_rfl) (by kernel_rfl) (by kernel_rfl) (fun _ _ _ h => h) (Or.inl ⟨by rfl, ?hy1_2⟩) hHeld ?_
  case hy1_2 => (intro w hSw; (try dsimp only at hSw); have q0 := hSw.c0; have q1 := hSw.c1; have q2 := hSw.c2; have q3 := hSw.c3; (try simp only [List.getElem_toArray, List.getElem_cons_zero, List.getElem_cons_succ]); go_simp <;> with_reducible rfl)
  (try simp only [Act.put, List.getElem_toArray, List.getElem_cons_zero, List.getElem_cons_succ, List.setIfInBounds_toArray, List.set_cons_zero, List.set_cons_succ])
  refine wpAnyH_take (i := 2) (v := ?v2_3) rfl (by kernel_rfl) (by kernel_rfl) (by kernel_rfl) (fun _ _ _ h => h) (Or.inl ⟨by rfl, ?hy2_3⟩) hHeld ?_
  case hy2_3 => (intro w hSw; (try dsimp only at hSw); have q0 := hSw.c0; have q1 := hSw.c1; have q2 := hSw.c2; have q3 := hSw.c3; (try simp only [List.getElem_toArray, List.getElem_cons_zero, List.getElem_cons_succ]); go_simp <;> with_reducible rfl)
  (try simp only [Act.put, List.getElem_toArray, List.getElem_cons_zero, List.getElem_cons_succ, List.setIfInBounds_toArray, List.set_cons_zero, List.set_cons_succ])
  refine wpAnyH_take (i := 3) (v := ?v3_4) rfl (by kernel_rfl) (by kernel_rfl) (by kernel_rfl) (fun _ _ _ h => h) (Or.inl ⟨by rfl, ?hy3_4⟩) hHeld ?_
  case hy3_4 => (intro w hSw; (try dsimp only at hSw); have q0 := hSw.c0; have q1 := hSw.c1; have q2 := hSw.c2; have q3 := hSw.c3; (try simp only [List.getElem_toArray, List.getElem_cons_zero, List.getElem_cons_succ]); go_simp <;> with_reducible rfl)
  (try simp only [Act.put, List.getElem_toArray, List.getElem_cons_zero, List.getElem_cons_succ, List.setIfInBounds_toArray, List.set_cons_zero, List.set_cons_succ])
  refine wpAnyH_take (i := 4) (v := ?v4_5) rfl (by kernel_rfl) (by kernel_rfl) (by kernel_rfl) (fun _ _ _ h => h) (Or.inl ⟨by rfl, ?hy4_5⟩) hHeld ?_
  case hy4_5 => (intro w hSw; (try dsimp only at hSw); have q0 := hSw.c0; have q1 := hSw.c1; have q2 := hSw.c2; have q3 := hSw.c3; (try simp only [List.getElem_toArray, List.getElem_cons_zero, List.getElem_cons_succ]); go_simp <;> with_reducible rfl)
  (try simp only [Act.put, List.getElem_toArray, List.getElem_cons_zero, List.getElem_cons_succ, List.setIfInBounds_toArray, List.set_cons_zero, List.set_cons_succ])
  refine wpAnyH_take (i := 7) (v := ?v7_6) rfl (by kernel_rfl) (by kernel_rfl) (by kernel_rfl) (fun _ _ _ h => h) (Or.inl ⟨by rfl, ?hy7_6⟩) hHeld ?_
  case hy7_6 => (intro w hSw; (try dsimp only at hSw); have q0 := hSw.c0; have q1 := hSw.c1; have q2 := hSw.c2; have q3 := hSw.c3; (try simp only [List.getElem_toArray, List.getElem_cons_zero, List.getElem_cons_succ]); go_simp <;> with_reducible rfl)
  (try simp only [Act.put, List.getElem_toArray, List.getElem_cons_zero, List.getElem_cons_succ, List.setIfInBounds_toArray, List.set_cons_zero, List.set_cons_succ])
  refine wpAnyH_take (i := 8) (v := ?v8_7) rfl (by kernel_rfl) (by kernel_rfl) (by kernel_rfl) (fun _ _ _ h => h) (Or.inl ⟨by rfl, ?hy8_7⟩) hHeld ?_
  case hy8_7 => (intro w hSw; (try dsimp only at hSw); have q0 := hSw.c0; have q1 := hSw.c1; have q2 := hSw.c2; have q3 := hSw.c3; (try simp only [List.getElem_toArray, List.getElem_cons_zero, List.getElem_cons_succ]); go_simp <;> with_reducible rfl)
  (try simp only [Act.put, List.getElem_toArray, List.getElem_cons_zero, List.getElem_cons_succ, List.setIfInBounds_toArray, List.set_cons_zero, List.set_cons_succ])
  refine wpAnyH_ready (rs := [5]) (by kernel_rfl) (by simp) ?_
  refine AllReadyH.cons rfl (fun K hK => ?_) AllReadyH.nil
  (try simp only [List.getElem_toArray, List.getElem_cons_zero, List.getElem_cons_succ])
  go_simp
  (try rw [hwa])
  refine hK.out _ _ (CL0.out.step (below_alloc _ _)) (fun hHeld => ?_)
  clear hK K
  (try simp only [Act.put, List.getElem_toArray, List.getElem_cons_zero, List.getElem_cons_succ, List.setIfInBounds_toArray, List.set_cons_zero, List.set_cons_succ])
  refine wpAnyH_ready (rs := [6]) (by kernel_rfl) (by simp) ?_
  refine AllReadyH.cons rfl (fun K hK => ?_) AllReadyH.nil
  (try simp only [List.getElem_toArray, List.getElem_cons_zero, List.getElem_cons_succ])
  rw [if_pos (by rfl)]
  refine wp_app (.tmp 36) (.tmp 41) rfl w.heap.size _ _ _ L0 rfl (by exact (OL0.out.below (below_alloc _ (.cells #[.int .u8 (h.a.length : Int)] 5)))) _ (some ⟨v0.drew.heap.size, 0, none⟩) 1 1 [UInt8.ofNat h.a.length] rfl (by exact (RB.lit v0.drew [UInt8.ofNat h.a.length] _ 1 _ LA1.out rfl rfl)) (by omega) (by exact (bel_next BL0.out (below_alloc _ (.cells #[.int .u8 (h.a.length : Int)] 5))).size) ?_
  intro A1 k1 v1 ho hg hb
  have OL1 := Lib.hid ho
  have BL1 := Lib.hid ((bel_next BL0.out (below_alloc _ (.cells #[.int .u8 (h.a.length : Int)] 5))).trans hb)
  have CL1 : Hid (Hc 31 v1 q h) := Lib.hid (Hc.app (CL0.out.step (below_alloc _ (.cells #[.int .u8 (h.a.length : Int)] 5))) (by decide) (OL0.out.below (below_alloc _ (.cells #[.int .u8 (h.a.length : Int)] 5))) (Oth.of_grown hg))
  clear ho hg hb
  refine hK.out _ _ CL1.out (fun hHeld => ?_)
  clear hK K
  (try simp only [Act.put, List.getElem_toArray, List.getElem_cons_zero, List.getElem_cons_succ, List.setIfInBounds_toArray, List.set_cons_zero, List.set_cons_succ])
  refine wpAnyH_ready (rs := [9]) (by kernel_rfl) (by simp) ?_
  refine AllReadyH.cons rfl (fun K hK => ?_) AllReadyH.nil
  (try simp only [List.getElem_toArray, List.getElem_cons_zero, List.getElem_cons_succ])
  rw [if_pos (by rfl)]
  refine wp_app (.tmp 42) (.tmp 44) rfl w.heap.size _ _ _ (L0 ++ [UInt8.ofNat h.a.length]) rfl (by exact OL1.out) _ h.A h.a.length h.c h.a rfl (by exact (HK.out.a.below BL1.out)) (by omega) (by exact BL1.out.size) ?_
  intro A2 k2 v2 ho hg hb
  have OL2 := Lib.hid ho
  have BL2 := Lib.hid (BL1.out.trans hb)
  have CL2 : Hid (Hc 31 v2 q h) := Lib.hid (Hc.app (CL1.out) (by decide) OL1.out (Oth.of_grown hg))
  clear ho hg hb
  refine hK.out _ _ CL2.out (fun hHeld => ?_)
  clear hK K
  (try simp only [Act.put, List.getElem_toArray, List.getElem_cons_zero, List.getElem_cons_succ, List.setIfInBounds_toArray, List.set_cons_zero, List.set_cons_succ])
  refine wpAnyH_take (i := 10) (v := ?v10_8) rfl (by kernel_rfl) (by kernel_rfl) (by kernel_rfl) (fun _ _ _ h => h) (Or.inl ⟨by rfl, ?hy10_8⟩) hHeld ?_
  case hy10_8 => (intro w hSw; (try dsimp only at hSw); have q0 := hSw.c0; have q1 := hSw.c1; have q2 := hSw.c2; have q3 := hSw.c3; (try simp only [List.getElem_toArray, List.getElem_cons_zero, List.getElem_cons_succ]); go_simp <;> with_reducible rfl)
  (try simp only [Act.put, List.getElem_toArray, List.getElem_cons_zero, List.getElem_cons_succ, List.setIfInBounds_toArray, List.set_cons_zero, List.set_cons_succ])
  refine wpAnyH_done (by kernel_rfl) ?_ _
  go_wp2_with fail
  obtain ⟨m6, hm6⟩ : ∃ m6, m6 = 6 + h.a.length := ⟨_, rfl⟩
  rw [show 5 + 1 + h.a.length = m6 from by omega] at OL2 ⊢
  (try rw [← hm6])
  have bm6 : m6 ≤ 300 := by omega
  clear hm6
  obtain ⟨L2, HL2⟩ : ∃ L2, Hid (L2 = L0 ++ [UInt8.ofNat h.a.length] ++ h.a) := ⟨_, Lib.hid rfl⟩
  rw [← HL2.out] at OL2
  have OD2 : Hid (OwnB v2.drew w.heap.size A2 m6 k2 L2) := Lib.hid OL2.out.drew
  have BD2 : Hid (Below w.heap.size w v2.drew) := Lib.hid BL2.out.drew
  have CD2 : Hid (Hc 31 v2.drew q h) := CL2
  clear OL0 BL0 CL0 OL1 BL1 CL1 OL2 BL2 CL2 hHeld
  refine wp_region_held_drew (S := fun w' => Hc 31 w' q h) (by kernel_rfl) CD2.out (fun hHeld => ?_)
  (try dsimp only at hHeld)
  refine wpAnyH_take (i := 0) (v := ?v0_51) rfl (by kernel_rfl) (by kernel_rfl) (by kernel_rfl) (fun _ _ _ h => h) (Or.inl ⟨by rfl, ?hy0_51⟩) hHeld ?_
  case hy0_51 => (intro w hSw; (try dsimp only at hSw); have q0 := hSw.c0; have q1 := hSw.c1; have q2 := hSw.c2; have q3 := hSw.c3; (try simp only [List.getElem_toArray, List.getElem_cons_zero, List.getElem_cons_succ]); go_simp <;> with_reducible rfl)
  (try simp only [Act.put, List.getElem_toArray, List.getElem_cons_zero, List.getElem_cons_succ, List.setIfInBounds_toArray, List.set_cons_zero, List.set_cons_succ])
  refine wpAnyH_take (i := 1) (v := ?v1_52) rfl (by kernel_rfl) (by kernel_rfl) (by kernel_rfl) (fun _ _ _ h => h) (Or.inl ⟨by rfl, ?hy1_52⟩) hHeld ?_
  case hy1_52 => (intro w hSw; (try dsimp only at hSw); have q0 := hSw.c0; have q1 := hSw.c1; have q2 := hSw.c2; have q3 := hSw.c3; (try simp only [List.getElem_toArray, List.getElem_cons_zero, List.getElem_cons_succ]); go_simp <;> with_reducible rfl)
  (try simp only [Act.put, List.getElem_toArray, List.getElem_cons_zero, List.getElem_cons_succ, List.setIfInBounds_toArray, List.set_cons_zero, List.set_cons_succ])
  refine wpAnyH_take (i := 2) (v := ?v2_53) rfl (by kernel_rfl) (by kernel_rfl) (by kernel_rfl) (fun _ _ _ h => h) (Or.inl ⟨by rfl, ?hy2_53⟩) hHeld ?_
  case hy2_53 => (intro w hSw; (try dsimp only at hSw); have q0 := hSw.c0; have q1 := hSw.c1; have q2 := hSw.c2; have q3 := hSw.c3; (try simp only [List.getElem_toArray, List.getElem_cons_zero, List.getElem_cons_succ]); go_simp <;> with_reducible rfl)
  (try simp only [Act.put, List.getElem_toArray, List.getElem_cons_zero, List.getElem_cons_succ, List.setIfInBounds_toArray, List.set_cons_zero, List.set_cons_succ])
  refine wpAnyH_take (i := 3) (v := ?v3_54) rfl (by kernel_rfl) (by kernel_rfl) (by kernel_rfl) (fun _ _ _ h => h) (Or.inl ⟨by rfl, ?hy3_54⟩) hHeld ?_
  case hy3_54 => (intro w hSw; (try dsimp only at hSw); have q0 := hSw.c0; have q1 := hSw.c1; have q2 := hSw.c2; have q3 := hSw.c3; (try simp only [List.getElem_toArray, List.getElem_cons_zero, List.getElem_cons_succ]); go_simp <;> with_reducible rfl)
  (try simp only [Act.put, List.getElem_toArray, List.getElem_cons_zero, List.getElem_cons_succ, List.setIfInBounds_toArray, List.set_cons_zero, List.set_cons_succ])
  refine wpAnyH_take (i := 4) (v := ?v4_55) rfl (by kernel_rfl) (by kernel_rfl) (by kernel_rfl) (fun _ _ _ h => h) (Or.inl ⟨by rfl, ?hy4_55⟩) hHeld ?_
  case hy4_55 => (intro w hSw; (try dsimp only at hSw); have q0 := hSw.c0; have q1 := hSw.c1; have q2 := hSw.c2; have q3 := hSw.c3; (try simp only [List.getElem_toArray, List.getElem_cons_zero, List.getElem_cons_succ]); go_simp <;> with_reducible rfl)
  (try simp only [Act.put, List.getElem_toArray, List.getElem_cons_zero, List.getElem_cons_succ, List.setIfInBounds_toArray, List.set_cons_zero, List.set_cons_succ])
  refine wpAnyH_take (i := 7) (v := ?v7_56) rfl (by kernel_rfl) (by kernel_rfl) (by kernel_rfl) (fun _ _ _ h => h) (Or.inl ⟨by rfl, ?hy7_56⟩) hHeld ?_
  case hy7_56 => (intro w hSw; (try dsimp only at hSw); have q0 := hSw.c0; have q1 := hSw.c1; have q2 := hSw.c2; have q3 := hSw.c3; (try simp only [List.getElem_toArray, List.getElem_cons_zero, List.getElem_cons_succ]); go_simp <;> with_reducible rfl)
  (try simp only [Act.put, List.getElem_toArray, List.getElem_cons_zero, List.getElem_cons_succ, List.setIfInBounds_toArray, List.set_cons_zero, List.set_cons_succ])
  refine wpAnyH_take (i := 8) (v := ?v8_57) rfl (by kernel_rfl) (by kernel_rfl) (by kernel_rfl) (fun _ _ _ h => h) (Or.inl ⟨by rfl, ?hy8_57⟩) hHeld ?_
  case hy8_57 => (intro w hSw; (try dsimp only at hSw); have q0 := hSw.c0; have q1 := hSw.c1; have q2 := hSw.c2; have q3 := hSw.c3; (try simp only [List.getElem_toArray, List.getElem_cons_zero, List.getElem_cons_succ]); go_simp <;> with_reducible rfl)
  (try simp only [Act.put, List.getElem_toArray, List.getElem_cons_zero, List.getElem_cons_succ, List.setIfInBounds_toArray, List.set_cons_zero, List.set_cons_succ])
  refine wpAnyH_ready (rs := [5]) (by kernel_rfl) (by simp) ?_
  refine AllReadyH.cons rfl (fun K hK => ?_) AllReadyH.nil
  (try simp only [List.getElem_toArray, List.getElem_cons_zero, List.getElem_cons_succ])
  go_simp
  (try rw [hwb])
  refine hK.out _ _ (CD2.out.step (below_alloc _ _)) (fun hHeld => ?_)
  clear hK K
  (try simp only [Act.put, List.getElem_toArray, List.getElem_cons_zero, List.getElem_cons_succ, List.setIfInBounds_toArray, List.set_cons_zero, List.set_cons_succ])
  refine wpAnyH_ready (rs := [6]) (by kernel_rfl) (by simp) ?_
  refine AllReadyH.cons rfl (fun K hK => ?_) AllReadyH.nil
  (try simp only [List.getElem_toArray, List.getElem_cons_zero, List.getElem_cons_succ])
  rw [if_pos (by rfl)]
  refine wp_app (.tmp 46) (.tmp 51) rfl w.heap.size _ _ _ L2 rfl (by exact (OD2.out.below (below_alloc _ (.cells #[.int .u8 (h.b.length : Int)] 5)))) _ (some ⟨v2.drew.heap.size, 0, none⟩) 1 1 [UInt8.ofNat h.b.length] rfl (by exact (RB.lit v2.drew [UInt8.ofNat h.b.length] _ 1 _ LB1.out rfl rfl)) (by omega) (by exact (bel_next BD2.out (below_alloc _ (.cells #[.int .u8 (h.b.length : Int)] 5))).size) ?_
  intro A3 k3 v3 ho hg hb
  have OL3 := Lib.hid ho
  have BL3 := Lib.hid ((bel_next BD2.out (below_alloc _ (.cells #[.int .u8 (h.b.length : Int)] 5))).trans hb)
  have CL3 : Hid (Hc 31 v3 q h) := Lib.hid (Hc.app (CD2.out.step (below_alloc _ (.cells #[.int .u8 (h.b.length : Int)] 5))) (by decide) (OD2.out.below (below_alloc _ (.cells #[.int .u8 (h.b.length : Int)] 5))) (Oth.of_grown hg))
  clear ho hg hb
  refine hK.out _ _ CL3.out (fun hHeld => ?_)
  clear hK K
  (try simp only [Act.put, List.getElem_toArray, List.getElem_cons_zero, List.getElem_cons_succ, List.setIfInBounds_toArray, List.set_cons_zero, List.set_cons_succ])
  refine wpAnyH_ready (rs := [9]) (by kernel_rfl) (by simp) ?_
  refine AllReadyH.cons rfl (fun K hK => ?_) AllReadyH.nil
  (try simp only [List.getElem_toArray, List.getElem_cons_zero, List.getElem_cons_succ])
  rw [if_pos (by rfl)]
  refine wp_app (.tmp 52) (.tmp 54) rfl w.heap.size _ _ _ (L2 ++ [UInt8.ofNat h.b.length]) rfl (by exact OL3.out) _ h.B h.b.length h.d h.b rfl (by exact (HK.out.b.below BL3.out)) (by omega) (by exact BL3.out.size) ?_
  intro A4 k4 v4 ho hg hb
  have OL4 := Lib.hid ho
  have BL4 := Lib.hid (BL3.out.trans hb)
  have CL4 : Hid (Hc 31 v4 q h) := Lib.hid (Hc.app (CL3.out) (by decide) OL3.out (Oth.of_grown hg))
  clear ho hg hb
  refine hK.out _ _ CL4.out (fun hHeld => ?_)
  clear hK K
  (try simp only [Act.put, List.getElem_toArray, List.getElem_cons_zero, List.getElem_cons_succ, List.setIfInBounds_toArray, List.set_cons_zero, List.set_cons_succ])
  refine wpAnyH_take (i := 10) (v := ?v10_58) rfl (by kernel_rfl) (by kernel_rfl) (by kernel_rfl) (fun _ _ _ h => h) (Or.inl ⟨by rfl, ?hy10_58⟩) hHeld ?_
  case hy10_58 => (intro w hSw; (try dsimp only at hSw); have q0 := hSw.c0; have q1 := hSw.c1; have q2 := hSw.c2; have q3 := hSw.c3; (try simp only [List.getElem_toArray, List.getElem_cons_zero, List.getElem_cons_succ]); go_simp <;> with_reducible rfl)
  (try simp only [Act.put, List.getElem_toArray, List.getElem_cons_zero, List.getElem_cons_succ, List.setIfInBounds_toArray, List.set_cons_zero, List.set_cons_succ])
  refine wpAnyH_take (i := 11) (v := ?v11_59) rfl (by kernel_rfl) (by kernel_rfl) (by kernel_rfl) (fun _ _ _ h => h) (Or.inl ⟨by rfl, ?hy11_59⟩) hHeld ?_
  case hy11_59 => (intro w hSw; (try dsimp only at hSw); have q0 := hSw.c0; have q1 := hSw.c1; have q2 := hSw.c2; have q3 := hSw.c3; (try simp only [List.getElem_toArray, List.getElem_cons_zero, List.getElem_cons_succ]); go_simp <;> with_reducible rfl)
  (try simp only [Act.put, List.getElem_toArray, List.getElem_cons_zero, List.getElem_cons_succ, List.setIfInBounds_toArray, List.set_cons_zero, List.set_cons_succ])
  refine wpAnyH_done (by kernel_rfl) ?_ _
  go_wp2_with fail
  go_ret2
  have eL : L2 ++ [UInt8.ofNat h.b.length] ++ h.b = rawP h.pl := by
    rw [HL2.out, HL0.out]
    unfold rawP
    simp [Hd.pl]
  have O4 := OL4.out
  rw [eL] at O4
  have hn := O4.len
  rw [← hn] at O4
  exact ⟨A4, k4, by rw [hn]; rfl, O4, BL4.out⟩
end Go.Proofs.Ytpkombfiejdflaa
