/- Layer 18: Install, Retire. Condition: the configurations' keys have sixteen bytes; fewer than a million were installed. -/
import Derived.Test.YtkcchidklcnnnaaGreatSlA
import Derived.Test.YtkcchidklcnnnaaGreatMdU
namespace Go.Proofs.YtkcchidklcnnnaaGreat
open Go.RowKit
set_option linter.unusedVariables false
set_option linter.unusedSimpArgs false
theorem zh_def : zh = hcel zeroC 0 := rfl
theorem p_def (s : Sl) : pSl s = p3 (s.row 0) (s.row 1) (s.row 2) (s.tm 0) (s.tm 1) (s.tm 2) s.n := rfl
theorem r_def (s : Sl) : rSl s = r3 (s.row 0) (s.row 1) (s.row 2) (s.tm 0) (s.tm 1) (s.tm 2) s.n := rfl
theorem bld_held (c : Cfg) (hc : c.ok) (t : Nat) : Tryz.prog.built 66 [(0, c.val), (1, .int .i64 (t : Int))] = some (hcel c t).toArray := by
  obtain ⟨m, s, n, k⟩ := c
  have hk : k.length = 16 := hc.k
  match k, hk with
  | [a0, a1, a2, a3, a4, a5, a6, a7, a8, a9, b0, b1, b2, b3, b4, b5], _ => show Tryz.prog.built _ _ = _; kernel_rfl
noncomputable def bldH (a b : Value) (w : World) : Result Next := Sem.run Tryz.prog (do let r ← Instr.build 66 #[(0, a), (1, b)]; pure (Next.value r)) w
theorem ex_blH (ev : Operand → Value) (x y : Operand) (d : Option Tmp) (ty : TypeId) (ps : String) (af : Array Edge) (g : Option (Nat × Bool)) (w : World) : (execOp ev ⟨d, .build 66 #[(0, x), (1, y)], ty, ps, af, g⟩).run Tryz.prog w = bldH (ev x) (ev y) w := by
  unfold bldH execOp
  simp only [List.map_toArray, List.map_cons, List.map_nil]
theorem bl_held (c : Cfg) (hc : c.ok) (t : Nat) (w : World) : bldH c.val (.int .i64 (t : Int)) w = .ok (.value (.agg (hcel c t).toArray)) w := by
  unfold bldH
  simp only [Sem.run_bind, run_build w _ #[(0, c.val), (1, .int .i64 (t : Int))] _ (bld_held c hc t), Result.andThen_ok, Sem.run_pure]
theorem inst_range {s : Sl} {p : Int} {c : Cfg} (h : inB p = false) : instS s p c = (s, 11) := by
  unfold inB at h; rw [decide_eq_false_iff_not] at h; unfold instS; rw [if_pos h]
theorem inst_form {s : Sl} {p : Int} {c : Cfg} (h : inB p = true) (hr : rtB c = false) : instS s p c = (s, 10) := by
  unfold inB at h; rw [decide_eq_true_eq] at h; unfold instS; rw [if_neg (fun e => e h), if_pos hr]
theorem in_has {s : Sl} {p : Int} (h : inB p = true) {v : Bool} (hh : hasS s p = v) : v = decide (0 < s.tm p.toNat) := by
  unfold inB at h; rw [decide_eq_true_eq] at h; rw [← hh]; unfold hasS
  rw [decide_eq_decide]
  exact ⟨fun e => e.2, fun e => ⟨h, e⟩⟩
theorem inst_there {s : Sl} {p : Int} {c : Cfg} (h : inB p = true) (hr : rtB c = true) (hh : hasS s p = true) : instS s p c = (s, 16) := by
  have e := in_has h hh
  unfold inB at h; rw [decide_eq_true_eq] at h; unfold instS
  rw [if_neg (fun e => e h), if_neg (by rw [hr]; decide), if_pos (of_decide_eq_true e.symm)]
theorem inst_ok0 {s : Sl} {p : Int} {c : Cfg} (h : inB p = true) (hr : rtB c = true) (hh : hasS s p = false) : instS s p c = (putS s p.toNat c, 0) := by
  have e := in_has h hh
  unfold inB at h; rw [decide_eq_true_eq] at h; unfold instS
  rw [if_neg (fun e => e h), if_neg (by rw [hr]; decide), if_neg (of_decide_eq_false e.symm)]
theorem ret_range {s : Sl} {p : Int} (h : inB p = false) : retS s p = (s, 11) := by
  unfold inB at h; rw [decide_eq_false_iff_not] at h; unfold retS; rw [if_pos h]
theorem ret_none {s : Sl} {p : Int} (h : inB p = true) (hh : hasS s p = false) : retS s p = (s, 17) := by
  have e := in_has h hh
  have e0 : s.tm p.toNat = 0 := by have := of_decide_eq_false e.symm; omega
  unfold inB at h; rw [decide_eq_true_eq] at h; unfold retS
  rw [if_neg (fun e => e h), if_pos e0]
theorem ret_ok0 {s : Sl} {p : Int} (h : inB p = true) (hh : hasS s p = true) : retS s p = (offS s p.toNat, 0) := by
  have e := in_has h hh
  have e0 : ¬ s.tm p.toNat = 0 := by have := of_decide_eq_true e.symm; omega
  unfold inB at h; rw [decide_eq_true_eq] at h; unfold retS
  rw [if_neg (fun e => e h), if_neg e0]
theorem p3_60 {c0 c1 c2 : Cfg} {t0 t1 t2 n : Nat} (h0 : c0.ok) (h1 : c1.ok) (h2 : c2.ok) : (p3 c0 c1 c2 t0 t1 t2 n)[60]? = some (.int .i64 (n : Int)) := by
  unfold p3
  rw [← List.append_assoc, ← List.append_assoc, List.getElem?_append_right (by simp only [List.length_append, hcel_len h0, hcel_len h1, hcel_len h2]; omega)]
  simp only [List.length_append, hcel_len h0, hcel_len h1, hcel_len h2]
  rfl
theorem st_held {T : TypeId} {w : World} {x o : Nat} {cs : List Value} {c : Cfg} {t : Nat} (k : Blk T w x cs) (hc : c.ok) (hl : cs.length = 61) (ho : o + 20 ≤ 61) : stHd 66 (.pointer (some ⟨x, o, none⟩)) (.agg (hcel c t).toArray) w = .ok .skip (w.setCells x o (hcel c t)) := by
  exact stB_m rt_held k hcel_one (hcel_zh hc) (by rw [zh_len, hl]; exact ho)
/-- What a call that may change slots leaves: an answer, the slots, all else as it was. -/
def RetS (T : TypeId) (x : Nat) (f : Sl → List Value) (r : Sl × Int) (w : World) (e : Ending) (w' : World) : Prop := e = .returned (.int .i64 r.2) ∧ Blk T w' x (f r.1) ∧ Oth [x] w w'
theorem ret_s {T : TypeId} {x : Nat} {f : Sl → List Value} {s : Sl} {z : Int} {r : Sl × Int} {w w' : World} {cs : List Value} {bs : List (TypeId × Nat × List Value)} (k : VK [x] w bs w') (hr : r = (s, z)) (h : Blk T w' x cs) (hc : cs = f s) : RetS T x f r w (.returned (.int .i64 z)) w' := by
  subst hr; subst hc; exact ⟨rfl, h, k.oth⟩
attribute [local irreducible] Cfg.val Cfg.cells rtB Rt zK sizeC zeroC hcel zh pSl rSl aSl p3 r3 hasS ofS tmS tmN Sl.row Sl.tm inB instS retS putS offS
attribute [local go_sem ↓] ex_ldC ex_ldH ex_stH ex_blH
set_option maxRecDepth 100000 in
set_option maxHeartbeats 400000 in
theorem inst_no (s : Sl) (hs : s.ok) (hn : s.n ≤ 1000000) (x : Nat) (p : Int) (c : Cfg) (hc : c.ok) (w : World) (h : Blk 69 w x (pSl s)) (hv : inB p = false) :
    Calls Tryz.prog 22 #[.pointer (some ⟨x, 0, none⟩), .int .i64 p, c.val] w (RetS 69 x pSl (instS s p c) w) := by
  have HC := Lib.hid hc
  have HS := Lib.hid hs
  have K0 := Lib.hid ((VK.start [x] w).hold h (by simp))
  have HV := Lib.hid hv
  have HE := Lib.hid (inst_range (s := s) (c := c) hv)
  clear h hs hc hv hn
  go_enter Tryz.func22, Tryz.ntmps22
  go_wp2_with (first | (refine wpList_boxB rfl 35 (.tmp 2) rfl c.cells (val_agg c) ?_; intro w1 q hc1 hb1 hx1; have K1 := Lib.hid (K0.out.new hb1 hx1 hc1); have HQ := Lib.hid (Nat.le_trans K0.out.oth.size hx1); have qc := ld_cfg rt_cfg K1.out.b0 HC.out; clear hc1 hb1 hx1))
  refine (exists_any _ false (by exact HV.out) _).mono ?_
  rintro e w2 ⟨rfl, rfl⟩
  go_wp2_with fail
  go_ret
  exact ret_s K1.out HE.out K1.out.b1 rfl
set_option maxRecDepth 100000 in
set_option maxHeartbeats 400000 in
theorem inst_bad (s : Sl) (hs : s.ok) (hn : s.n ≤ 1000000) (x : Nat) (p : Int) (c : Cfg) (hc : c.ok) (w : World) (h : Blk 69 w x (pSl s)) (hv : inB p = true) (hr : rtB c = false) :
    Calls Tryz.prog 22 #[.pointer (some ⟨x, 0, none⟩), .int .i64 p, c.val] w (RetS 69 x pSl (instS s p c) w) := by
  have HC := Lib.hid hc
  have HS := Lib.hid hs
  have K0 := Lib.hid ((VK.start [x] w).hold h (by simp))
  have HV := Lib.hid hv
  have HR := Lib.hid hr
  have HE := Lib.hid (inst_form (s := s) hv hr)
  clear h hs hc hv hr hn
  go_enter Tryz.func22, Tryz.ntmps22
  go_wp2_with (first | (refine wpList_boxB rfl 35 (.tmp 2) rfl c.cells (val_agg c) ?_; intro w1 q hc1 hb1 hx1; have K1 := Lib.hid (K0.out.new hb1 hx1 hc1); have HQ := Lib.hid (Nat.le_trans K0.out.oth.size hx1); have qc := ld_cfg rt_cfg K1.out.b0 HC.out; clear hc1 hb1 hx1))
  refine (exists_any _ true (by exact HV.out) _).mono ?_
  rintro e w2 ⟨rfl, rfl⟩
  go_wp2_with fail
  refine (mright_any c HC.out false (by exact HR.out) _).mono ?_
  rintro e w3 ⟨rfl, hb⟩
  have K2 := Lib.hid (K1.out.step hb)
  clear hb qc
  have qc := ld_cfg rt_cfg K2.out.b0 HC.out
  go_wp2_with fail
  go_ret
  exact ret_s K2.out HE.out K2.out.b1 rfl
set_option maxRecDepth 100000 in
set_option maxHeartbeats 400000 in
theorem inst_has (s : Sl) (hs : s.ok) (hn : s.n ≤ 1000000) (x : Nat) (p : Int) (c : Cfg) (hc : c.ok) (w : World) (h : Blk 69 w x (pSl s)) (hv : inB p = true) (hr : rtB c = true) (hh : hasS s p = true) :
    Calls Tryz.prog 22 #[.pointer (some ⟨x, 0, none⟩), .int .i64 p, c.val] w (RetS 69 x pSl (instS s p c) w) := by
  have HC := Lib.hid hc
  have HS := Lib.hid hs
  have K0 := Lib.hid ((VK.start [x] w).hold h (by simp))
  have HV := Lib.hid hv
  have HR := Lib.hid hr
  have HH := Lib.hid hh
  have HE := Lib.hid (inst_there hv hr hh)
  clear h hs hc hv hr hh hn
  go_enter Tryz.func22, Tryz.ntmps22
  go_wp2_with (first | (refine wpList_boxB rfl 35 (.tmp 2) rfl c.cells (val_agg c) ?_; intro w1 q hc1 hb1 hx1; have K1 := Lib.hid (K0.out.new hb1 hx1 hc1); have HQ := Lib.hid (Nat.le_trans K0.out.oth.size hx1); have qc := ld_cfg rt_cfg K1.out.b0 HC.out; clear hc1 hb1 hx1))
  refine (exists_any _ true (by exact HV.out) _).mono ?_
  rintro e w2 ⟨rfl, rfl⟩
  go_wp2_with fail
  refine (mright_any c HC.out true (by exact HR.out) _).mono ?_
  rintro e w3 ⟨rfl, hb⟩
  have K2 := Lib.hid (K1.out.step hb)
  clear hb qc
  have qc := ld_cfg rt_cfg K2.out.b0 HC.out
  go_wp2_with fail
  refine (sat_any s HS.out x p _ K2.out.b1).mono ?_
  rintro e w4 ⟨rfl, hb⟩
  have K3 := Lib.hid (K2.out.step hb)
  clear hb qc
  have qc := ld_cfg rt_cfg K3.out.b0 HC.out
  go_wp2_with fail
  refine (empty_any (ofS s p) (ofS_ok HS.out p) (tmN s p) false (by rw [held_empty HS.out, HH.out]; rfl) _).mono ?_
  rintro e w5 ⟨rfl, hb⟩
  have K4 := Lib.hid (K3.out.step hb)
  clear hb qc
  have qc := ld_cfg rt_cfg K4.out.b0 HC.out
  go_wp2_with fail
  go_ret
  exact ret_s K4.out HE.out K4.out.b1 rfl
set_option maxRecDepth 100000 in
set_option maxHeartbeats 400000 in
theorem inst_0 (s : Sl) (hs : s.ok) (hn : s.n ≤ 1000000) (x : Nat) (p : Int) (c : Cfg) (hc : c.ok) (w : World) (h : Blk 69 w x (pSl s)) (hp : p = 0) (hr : rtB c = true) (hh : hasS s p = false) :
    Calls Tryz.prog 22 #[.pointer (some ⟨x, 0, none⟩), .int .i64 p, c.val] w (RetS 69 x pSl (instS s p c) w) := by
  have HC := Lib.hid hc
  have HS := Lib.hid hs
  have K0 := Lib.hid ((VK.start [x] w).hold h (by simp))
  subst hp
  have HV : Hid (inB 0 = true) := Lib.hid in_0
  have HR := Lib.hid hr
  have HH := Lib.hid hh
  have HN := Lib.hid hn
  have HE := Lib.hid (inst_ok0 in_0 hr hh)
  obtain ⟨m, hm⟩ : ∃ m, m = s.n + 1 := ⟨_, rfl⟩
  have HM := Lib.hid hm
  clear hm
  have HN60 : Hid ((p3 (s.row 0) (s.row 1) (s.row 2) (s.tm 0) (s.tm 1) (s.tm 2) m)[60]? = some (.int .i64 (m : Int))) := Lib.hid (by rw [← pSl_set hs, List.getElem?_set_self (by rw [pSl_len hs]; omega)])
  clear h hs hc hr hh
  go_enter Tryz.func22, Tryz.ntmps22
  go_wp2_with (first | (refine wpList_boxB rfl 35 (.tmp 2) rfl c.cells (val_agg c) ?_; intro w1 q hc1 hb1 hx1; have K1 := Lib.hid (K0.out.new hb1 hx1 hc1); have HQ := Lib.hid (Nat.le_trans K0.out.oth.size hx1); have qc := ld_cfg rt_cfg K1.out.b0 HC.out; clear hc1 hb1 hx1))
  refine (exists_any _ true (by exact HV.out) _).mono ?_
  rintro e w2 ⟨rfl, rfl⟩
  go_wp2_with fail
  refine (mright_any c HC.out true (by exact HR.out) _).mono ?_
  rintro e w3 ⟨rfl, hb⟩
  have K2 := Lib.hid (K1.out.step hb)
  clear hb qc
  have qc := ld_cfg rt_cfg K2.out.b0 HC.out
  go_wp2_with fail
  refine (sat_any s HS.out x 0 _ K2.out.b1).mono ?_
  rintro e w4 ⟨rfl, hb⟩
  have K3 := Lib.hid (K2.out.step hb)
  clear hb qc
  have qc := ld_cfg rt_cfg K3.out.b0 HC.out
  go_wp2_with fail
  refine (empty_any (ofS s 0) (ofS_ok HS.out 0) (tmN s 0) true (by rw [held_empty HS.out, HH.out]; rfl) _).mono ?_
  rintro e w5 ⟨rfl, hb⟩
  have K4 := Lib.hid (K3.out.step hb)
  clear hb qc
  have qc := ld_cfg rt_cfg K4.out.b0 HC.out
  have sn := s_n HS.out K4.out.b1
  have snf := K4.out.b1.free 60
  go_wp2_with fail
  rw [show (s.n : Int) + 1 = (m : Int) from (by rw [HM.out]; rfl)]
  have K5 := Lib.hid (K4.out.set1 1 60 (.int .i64 (m : Int)) rfl (.inl (by simp)) (pSl_set HS.out) rfl)
  have K6 := Lib.hid K5.out.draw
  have HD := And.intro K6.out.b0 ((K6.out.b1.cell 60).trans HN60.out)
  clear qc sn snf hn
  refine wp_region_held_drew (S := fun w' => Blk 35 w' q c.cells ∧ w'.cell? ⟨x, 60, none⟩ = some (.int .i64 (m : Int))) (by kernel_rfl) HD (fun hHeld => ?_)
  (try dsimp only at hHeld)
  refine wpAnyH_take (i := 0) (v := ?v0_1) rfl (by kernel_rfl) (by kernel_rfl) (by kernel_rfl) (fun _ _ _ h => h) (Or.inl ⟨by rfl, ?hy0_1⟩) hHeld ?_
  case hy0_1 => (intro w hSw; (try dsimp only at hSw); have q0 := ld_cfg rt_cfg hSw.1 HC.out; have q1 := hSw.2; have q2 := bl_held c HC.out m w; (try simp only [List.getElem_toArray, List.getElem_cons_zero, List.getElem_cons_succ]); go_simp <;> with_reducible rfl)
  (try simp only [Act.put, List.getElem_toArray, List.getElem_cons_zero, List.getElem_cons_succ, List.setIfInBounds_toArray, List.set_cons_zero, List.set_cons_succ])
  refine wpAnyH_take (i := 1) (v := ?v1_2) rfl (by kernel_rfl) (by kernel_rfl) (by kernel_rfl) (fun _ _ _ h => h) (Or.inl ⟨by rfl, ?hy1_2⟩) hHeld ?_
  case hy1_2 => (intro w hSw; (try dsimp only at hSw); have q0 := ld_cfg rt_cfg hSw.1 HC.out; have q1 := hSw.2; have q2 := bl_held c HC.out m w; (try simp only [List.getElem_toArray, List.getElem_cons_zero, List.getElem_cons_succ]); go_simp <;> with_reducible rfl)
  (try simp only [Act.put, List.getElem_toArray, List.getElem_cons_zero, List.getElem_cons_succ, List.setIfInBounds_toArray, List.set_cons_zero, List.set_cons_succ])
  refine wpAnyH_take (i := 2) (v := ?v2_3) rfl (by kernel_rfl) (by kernel_rfl) (by kernel_rfl) (fun _ _ _ h => h) (Or.inl ⟨by rfl, ?hy2_3⟩) hHeld ?_
  case hy2_3 => (intro w hSw; (try dsimp only at hSw); have q0 := ld_cfg rt_cfg hSw.1 HC.out; have q1 := hSw.2; have q2 := bl_held c HC.out m w; (try simp only [List.getElem_toArray, List.getElem_cons_zero, List.getElem_cons_succ]); go_simp <;> with_reducible rfl)
  (try simp only [Act.put, List.getElem_toArray, List.getElem_cons_zero, List.getElem_cons_succ, List.setIfInBounds_toArray, List.set_cons_zero, List.set_cons_succ])
  refine wpAnyH_take (i := 3) (v := ?v3_4) rfl (by kernel_rfl) (by kernel_rfl) (by kernel_rfl) (fun _ _ _ h => h) (Or.inl ⟨by rfl, ?hy3_4⟩) hHeld ?_
  case hy3_4 => (intro w hSw; (try dsimp only at hSw); have q0 := ld_cfg rt_cfg hSw.1 HC.out; have q1 := hSw.2; have q2 := bl_held c HC.out m w; (try simp only [List.getElem_toArray, List.getElem_cons_zero, List.getElem_cons_succ]); go_simp <;> with_reducible rfl)
  (try simp only [Act.put, List.getElem_toArray, List.getElem_cons_zero, List.getElem_cons_succ, List.setIfInBounds_toArray, List.set_cons_zero, List.set_cons_succ])
  refine wpAnyH_take (i := 4) (v := ?v4_5) rfl (by kernel_rfl) (by kernel_rfl) (by kernel_rfl) (fun _ _ _ h => h) (Or.inl ⟨by rfl, ?hy4_5⟩) hHeld ?_
  case hy4_5 => (intro w hSw; (try dsimp only at hSw); have q0 := ld_cfg rt_cfg hSw.1 HC.out; have q1 := hSw.2; have q2 := bl_held c HC.out m w; (try simp only [List.getElem_toArray, List.getElem_cons_zero, List.getElem_cons_succ]); go_simp <;> with_reducible rfl)
  (try simp only [Act.put, List.getElem_toArray, List.getElem_cons_zero, List.getElem_cons_succ, List.setIfInBounds_toArray, List.set_cons_zero, List.set_cons_succ])
  refine wpAnyH_take (i := 5) (v := ?v5_6) rfl (by kernel_rfl) (by kernel_rfl) (by kernel_rfl) (fun _ _ _ h => h) (Or.inl ⟨by rfl, ?hy5_6⟩) hHeld ?_
  case hy5_6 => (intro w hSw; (try dsimp only at hSw); have q0 := ld_cfg rt_cfg hSw.1 HC.out; have q1 := hSw.2; have q2 := bl_held c HC.out m w; (try simp only [List.getElem_toArray, List.getElem_cons_zero, List.getElem_cons_succ]); go_simp <;> with_reducible rfl)
  (try simp only [Act.put, List.getElem_toArray, List.getElem_cons_zero, List.getElem_cons_succ, List.setIfInBounds_toArray, List.set_cons_zero, List.set_cons_succ])
  refine wpAnyH_take (i := 6) (v := ?v6_7) rfl (by kernel_rfl) (by kernel_rfl) (by kernel_rfl) (fun _ _ _ h => h) (Or.inl ⟨by rfl, ?hy6_7⟩) hHeld ?_
  case hy6_7 => (intro w hSw; (try dsimp only at hSw); have q0 := ld_cfg rt_cfg hSw.1 HC.out; have q1 := hSw.2; have q2 := bl_held c HC.out m w; (try simp only [List.getElem_toArray, List.getElem_cons_zero, List.getElem_cons_succ]); go_simp <;> with_reducible rfl)
  (try simp only [Act.put, List.getElem_toArray, List.getElem_cons_zero, List.getElem_cons_succ, List.setIfInBounds_toArray, List.set_cons_zero, List.set_cons_succ])
  refine wpAnyH_take (i := 7) (v := ?v7_8) rfl (by kernel_rfl) (by kernel_rfl) (by kernel_rfl) (fun _ _ _ h => h) (Or.inl ⟨by rfl, ?hy7_8⟩) hHeld ?_
  case hy7_8 => (intro w hSw; (try dsimp only at hSw); have q0 := ld_cfg rt_cfg hSw.1 HC.out; have q1 := hSw.2; have q2 := bl_held c HC.out m w; (try simp only [List.getElem_toArray, List.getElem_cons_zero, List.getElem_cons_succ]); go_simp <;> with_reducible rfl)
  (try simp only [Act.put, List.getElem_toArray, List.getElem_cons_zero, List.getElem_cons_succ, List.setIfInBounds_toArray, List.set_cons_zero, List.set_cons_succ])
  refine wpAnyH_take (i := 8) (v := ?v8_9) rfl (by kernel_rfl) (by kernel_rfl) (by kernel_rfl) (fun _ _ _ h => h) (Or.inl ⟨by rfl, ?hy8_9⟩) hHeld ?_
  case hy8_9 => (intro w hSw; (try dsimp only at hSw); have q0 := ld_cfg rt_cfg hSw.1 HC.out; have q1 := hSw.2; have q2 := bl_held c HC.out m w; (try simp only [List.getElem_toArray, List.getElem_cons_zero, List.getElem_cons_succ]); go_simp <;> with_reducible rfl)
  (try simp only [Act.put, List.getElem_toArray, List.getElem_cons_zero, List.getElem_cons_succ, List.setIfInBounds_toArray, List.set_cons_zero, List.set_cons_succ])
  refine wpAnyH_take (i := 9) (v := ?v9_10) rfl (by kernel_rfl) (by kernel_rfl) (by kernel_rfl) (fun _ _ _ h => h) (Or.inl ⟨by rfl, ?hy9_10⟩) hHeld ?_
  case hy9_10 => (intro w hSw; (try dsimp only at hSw); have q0 := ld_cfg rt_cfg hSw.1 HC.out; have q1 := hSw.2; have q2 := bl_held c HC.out m w; (try simp only [List.getElem_toArray, List.getElem_cons_zero, List.getElem_cons_succ]); go_simp <;> with_reducible rfl)
  (try simp only [Act.put, List.getElem_toArray, List.getElem_cons_zero, List.getElem_cons_succ, List.setIfInBounds_toArray, List.set_cons_zero, List.set_cons_succ])
  refine wpAnyH_take (i := 10) (v := ?v10_11) rfl (by kernel_rfl) (by kernel_rfl) (by kernel_rfl) (fun _ _ _ h => h) (Or.inl ⟨by rfl, ?hy10_11⟩) hHeld ?_
  case hy10_11 => (intro w hSw; (try dsimp only at hSw); have q0 := ld_cfg rt_cfg hSw.1 HC.out; have q1 := hSw.2; have q2 := bl_held c HC.out m w; (try simp only [List.getElem_toArray, List.getElem_cons_zero, List.getElem_cons_succ]); go_simp <;> with_reducible rfl)
  (try simp only [Act.put, List.getElem_toArray, List.getElem_cons_zero, List.getElem_cons_succ, List.setIfInBounds_toArray, List.set_cons_zero, List.set_cons_succ])
  have st := st_held (o := 0) (t := m) K6.out.b1 HC.out (p3_len (HS.out.g _) (HS.out.g _) (HS.out.g _)) (by decide)
  refine wpAnyH_ready (rs := [11]) (by kernel_rfl) (by simp) ?_
  refine AllReadyH.cons rfl (fun K hK => ?_) AllReadyH.nil
  (try simp only [List.getElem_toArray, List.getElem_cons_zero, List.getElem_cons_succ])
  go_simp
  have K7 := Lib.hid (K6.out.putAt 1 0 (hcel c m) rfl (.inl (by simp)) (p3_put0 (HS.out.g 0) HC.out) rfl)
  clear st
  refine hK.out _ _ ⟨K7.out.b0, ((K7.out.b1.cell 60).trans (p3_60 HC.out (HS.out.g _) (HS.out.g _)))⟩ (fun hHeld => ?_)
  clear hK K
  (try simp only [Act.put, List.getElem_toArray, List.getElem_cons_zero, List.getElem_cons_succ, List.setIfInBounds_toArray, List.set_cons_zero, List.set_cons_succ])
  refine wpAnyH_done (by kernel_rfl) ?_ _
  clear hHeld HD
  go_wp2_with fail
  go_ret
  exact ret_s K7.out HE.out K7.out.b1 (by rw [HM.out]; exact (pSl_putS (k := 0) HS.out (by decide)).symm)
set_option maxRecDepth 100000 in
set_option maxHeartbeats 400000 in
theorem inst_1 (s : Sl) (hs : s.ok) (hn : s.n ≤ 1000000) (x : Nat) (p : Int) (c : Cfg) (hc : c.ok) (w : World) (h : Blk 69 w x (pSl s)) (hp : p = 1) (hr : rtB c = true) (hh : hasS s p = false) :
    Calls Tryz.prog 22 #[.pointer (some ⟨x, 0, none⟩), .int .i64 p, c.val] w (RetS 69 x pSl (instS s p c) w) := by
  have HC := Lib.hid hc
  have HS := Lib.hid hs
  have K0 := Lib.hid ((VK.start [x] w).hold h (by simp))
  subst hp
  have HV : Hid (inB 1 = true) := Lib.hid in_1
  have HR := Lib.hid hr
  have HH := Lib.hid hh
  have HN := Lib.hid hn
  have HE := Lib.hid (inst_ok0 in_1 hr hh)
  obtain ⟨m, hm⟩ : ∃ m, m = s.n + 1 := ⟨_, rfl⟩
  have HM := Lib.hid hm
  clear hm
  have HN60 : Hid ((p3 (s.row 0) (s.row 1) (s.row 2) (s.tm 0) (s.tm 1) (s.tm 2) m)[60]? = some (.int .i64 (m : Int))) := Lib.hid (by rw [← pSl_set hs, List.getElem?_set_self (by rw [pSl_len hs]; omega)])
  clear h hs hc hr hh
  go_enter Tryz.func22, Tryz.ntmps22
  go_wp2_with (first | (refine wpList_boxB rfl 35 (.tmp 2) rfl c.cells (val_agg c) ?_; intro w1 q hc1 hb1 hx1; have K1 := Lib.hid (K0.out.new hb1 hx1 hc1); have HQ := Lib.hid (Nat.le_trans K0.out.oth.size hx1); have qc := ld_cfg rt_cfg K1.out.b0 HC.out; clear hc1 hb1 hx1))
  refine (exists_any _ true (by exact HV.out) _).mono ?_
  rintro e w2 ⟨rfl, rfl⟩
  go_wp2_with fail
  refine (mright_any c HC.out true (by exact HR.out) _).mono ?_
  rintro e w3 ⟨rfl, hb⟩
  have K2 := Lib.hid (K1.out.step hb)
  clear hb qc
  have qc := ld_cfg rt_cfg K2.out.b0 HC.out
  go_wp2_with fail
  refine (sat_any s HS.out x 1 _ K2.out.b1).mono ?_
  rintro e w4 ⟨rfl, hb⟩
  have K3 := Lib.hid (K2.out.step hb)
  clear hb qc
  have qc := ld_cfg rt_cfg K3.out.b0 HC.out
  go_wp2_with fail
  refine (empty_any (ofS s 1) (ofS_ok HS.out 1) (tmN s 1) true (by rw [held_empty HS.out, HH.out]; rfl) _).mono ?_
  rintro e w5 ⟨rfl, hb⟩
  have K4 := Lib.hid (K3.out.step hb)
  clear hb qc
  have qc := ld_cfg rt_cfg K4.out.b0 HC.out
  have sn := s_n HS.out K4.out.b1
  have snf := K4.out.b1.free 60
  go_wp2_with fail
  rw [show (s.n : Int) + 1 = (m : Int) from (by rw [HM.out]; rfl)]
  have K5 := Lib.hid (K4.out.set1 1 60 (.int .i64 (m : Int)) rfl (.inl (by simp)) (pSl_set HS.out) rfl)
  have K6 := Lib.hid K5.out.draw
  have HD := And.intro K6.out.b0 ((K6.out.b1.cell 60).trans HN60.out)
  clear qc sn snf hn
  refine wp_region_held_drew (S := fun w' => Blk 35 w' q c.cells ∧ w'.cell? ⟨x, 60, none⟩ = some (.int .i64 (m : Int))) (by kernel_rfl) HD (fun hHeld => ?_)
  (try dsimp only at hHeld)
  refine wpAnyH_take (i := 0) (v := ?v0_12) rfl (by kernel_rfl) (by kernel_rfl) (by kernel_rfl) (fun _ _ _ h => h) (Or.inl ⟨by rfl, ?hy0_12⟩) hHeld ?_
  case hy0_12 => (intro w hSw; (try dsimp only at hSw); have q0 := ld_cfg rt_cfg hSw.1 HC.out; have q1 := hSw.2; have q2 := bl_held c HC.out m w; (try simp only [List.getElem_toArray, List.getElem_cons_zero, List.getElem_cons_succ]); go_simp <;> with_reducible rfl)
  (try simp only [Act.put, List.getElem_toArray, List.getElem_cons_zero, List.getElem_cons_succ, List.setIfInBounds_toArray, List.set_cons_zero, List.set_cons_succ])
  refine wpAnyH_take (i := 1) (v := ?v1_13) rfl (by kernel_rfl) (by kernel_rfl) (by kernel_rfl) (fun _ _ _ h => h) (Or.inl ⟨by rfl, ?hy1_13⟩) hHeld ?_
  case hy1_13 => (intro w hSw; (try dsimp only at hSw); have q0 := ld_cfg rt_cfg hSw.1 HC.out; have q1 := hSw.2; have q2 := bl_held c HC.out m w; (try simp only [List.getElem_toArray, List.getElem_cons_zero, List.getElem_cons_succ]); go_simp <;> with_reducible rfl)
  (try simp only [Act.put, List.getElem_toArray, List.getElem_cons_zero, List.getElem_cons_succ, List.setIfInBounds_toArray, List.set_cons_zero, List.set_cons_succ])
  refine wpAnyH_take (i := 2) (v := ?v2_14) rfl (by kernel_rfl) (by kernel_rfl) (by kernel_rfl) (fun _ _ _ h => h) (Or.inl ⟨by rfl, ?hy2_14⟩) hHeld ?_
  case hy2_14 => (intro w hSw; (try dsimp only at hSw); have q0 := ld_cfg rt_cfg hSw.1 HC.out; have q1 := hSw.2; have q2 := bl_held c HC.out m w; (try simp only [List.getElem_toArray, List.getElem_cons_zero, List.getElem_cons_succ]); go_simp <;> with_reducible rfl)
  (try simp only [Act.put, List.getElem_toArray, List.getElem_cons_zero, List.getElem_cons_succ, List.setIfInBounds_toArray, List.set_cons_zero, List.set_cons_succ])
  refine wpAnyH_take (i := 3) (v := ?v3_15) rfl (by kernel_rfl) (by kernel_rfl) (by kernel_rfl) (fun _ _ _ h => h) (Or.inl ⟨by rfl, ?hy3_15⟩) hHeld ?_
  case hy3_15 => (intro w hSw; (try dsimp only at hSw); have q0 := ld_cfg rt_cfg hSw.1 HC.out; have q1 := hSw.2; have q2 := bl_held c HC.out m w; (try simp only [List.getElem_toArray, List.getElem_cons_zero, List.getElem_cons_succ]); go_simp <;> with_reducible rfl)
  (try simp only [Act.put, List.getElem_toArray, List.getElem_cons_zero, List.getElem_cons_succ, List.setIfInBounds_toArray, List.set_cons_zero, List.set_cons_succ])
  refine wpAnyH_take (i := 4) (v := ?v4_16) rfl (by kernel_rfl) (by kernel_rfl) (by kernel_rfl) (fun _ _ _ h => h) (Or.inl ⟨by rfl, ?hy4_16⟩) hHeld ?_
  case hy4_16 => (intro w hSw; (try dsimp only at hSw); have q0 := ld_cfg rt_cfg hSw.1 HC.out; have q1 := hSw.2; have q2 := bl_held c HC.out m w; (try simp only [List.getElem_toArray, List.getElem_cons_zero, List.getElem_cons_succ]); go_simp <;> with_reducible rfl)
  (try simp only [Act.put, List.getElem_toArray, List.getElem_cons_zero, List.getElem_cons_succ, List.setIfInBounds_toArray, List.set_cons_zero, List.set_cons_succ])
  refine wpAnyH_take (i := 5) (v := ?v5_17) rfl (by kernel_rfl) (by kernel_rfl) (by kernel_rfl) (fun _ _ _ h => h) (Or.inl ⟨by rfl, ?hy5_17⟩) hHeld ?_
  case hy5_17 => (intro w hSw; (try dsimp only at hSw); have q0 := ld_cfg rt_cfg hSw.1 HC.out; have q1 := hSw.2; have q2 := bl_held c HC.out m w; (try simp only [List.getElem_toArray, List.getElem_cons_zero, List.getElem_cons_succ]); go_simp <;> with_reducible rfl)
  (try simp only [Act.put, List.getElem_toArray, List.getElem_cons_zero, List.getElem_cons_succ, List.setIfInBounds_toArray, List.set_cons_zero, List.set_cons_succ])
  refine wpAnyH_take (i := 6) (v := ?v6_18) rfl (by kernel_rfl) (by kernel_rfl) (by kernel_rfl) (fun _ _ _ h => h) (Or.inl ⟨by rfl, ?hy6_18⟩) hHeld ?_
  case hy6_18 => (intro w hSw; (try dsimp only at hSw); have q0 := ld_cfg rt_cfg hSw.1 HC.out; have q1 := hSw.2; have q2 := bl_held c HC.out m w; (try simp only [List.getElem_toArray, List.getElem_cons_zero, List.getElem_cons_succ]); go_simp <;> with_reducible rfl)
  (try simp only [Act.put, List.getElem_toArray, List.getElem_cons_zero, List.getElem_cons_succ, List.setIfInBounds_toArray, List.set_cons_zero, List.set_cons_succ])
  refine wpAnyH_take (i := 7) (v := ?v7_19) rfl (by kernel_rfl) (by kernel_rfl) (by kernel_rfl) (fun _ _ _ h => h) (Or.inl ⟨by rfl, ?hy7_19⟩) hHeld ?_
  case hy7_19 => (intro w hSw; (try dsimp only at hSw); have q0 := ld_cfg rt_cfg hSw.1 HC.out; have q1 := hSw.2; have q2 := bl_held c HC.out m w; (try simp only [List.getElem_toArray, List.getElem_cons_zero, List.getElem_cons_succ]); go_simp <;> with_reducible rfl)
  (try simp only [Act.put, List.getElem_toArray, List.getElem_cons_zero, List.getElem_cons_succ, List.setIfInBounds_toArray, List.set_cons_zero, List.set_cons_succ])
  refine wpAnyH_take (i := 8) (v := ?v8_20) rfl (by kernel_rfl) (by kernel_rfl) (by kernel_rfl) (fun _ _ _ h => h) (Or.inl ⟨by rfl, ?hy8_20⟩) hHeld ?_
  case hy8_20 => (intro w hSw; (try dsimp only at hSw); have q0 := ld_cfg rt_cfg hSw.1 HC.out; have q1 := hSw.2; have q2 := bl_held c HC.out m w; (try simp only [List.getElem_toArray, List.getElem_cons_zero, List.getElem_cons_succ]); go_simp <;> with_reducible rfl)
  (try simp only [Act.put, List.getElem_toArray, List.getElem_cons_zero, List.getElem_cons_succ, List.setIfInBounds_toArray, List.set_cons_zero, List.set_cons_succ])
  refine wpAnyH_take (i := 9) (v := ?v9_21) rfl (by kernel_rfl) (by kernel_rfl) (by kernel_rfl) (fun _ _ _ h => h) (Or.inl ⟨by rfl, ?hy9_21⟩) hHeld ?_
  case hy9_21 => (intro w hSw; (try dsimp only at hSw); have q0 := ld_cfg rt_cfg hSw.1 HC.out; have q1 := hSw.2; have q2 := bl_held c HC.out m w; (try simp only [List.getElem_toArray, List.getElem_cons_zero, List.getElem_cons_succ]); go_simp <;> with_reducible rfl)
  (try simp only [Act.put, List.getElem_toArray, List.getElem_cons_zero, List.getElem_cons_succ, List.setIfInBounds_toArray, List.set_cons_zero, List.set_cons_succ])
  refine wpAnyH_take (i := 10) (v := ?v10_22) rfl (by kernel_rfl) (by kernel_rfl) (by kernel_rfl) (fun _ _ _ h => h) (Or.inl ⟨by rfl, ?hy10_22⟩) hHeld ?_
  case hy10_22 => (intro w hSw; (try dsimp only at hSw); have q0 := ld_cfg rt_cfg hSw.1 HC.out; have q1 := hSw.2; have q2 := bl_held c HC.out m w; (try simp only [List.getElem_toArray, List.getElem_cons_zero, List.getElem_cons_succ]); go_simp <;> with_reducible rfl)
  (try simp only [Act.put, List.getElem_toArray, List.getElem_cons_zero, List.getElem_cons_succ, List.setIfInBounds_toArray, List.set_cons_zero, List.set_cons_succ])
  have st := st_held (o := 20) (t := m) K6.out.b1 HC.out (p3_len (HS.out.g _) (HS.out.g _) (HS.out.g _)) (by decide)
  refine wpAnyH_ready (rs := [11]) (by kernel_rfl) (by simp) ?_
  refine AllReadyH.cons rfl (fun K hK => ?_) AllReadyH.nil
  (try simp only [List.getElem_toArray, List.getElem_cons_zero, List.getElem_cons_succ])
  go_simp
  have K7 := Lib.hid (K6.out.putAt 1 20 (hcel c m) rfl (.inl (by simp)) (p3_put1 (HS.out.g 0) (HS.out.g 1) HC.out) rfl)
  clear st
  refine hK.out _ _ ⟨K7.out.b0, ((K7.out.b1.cell 60).trans (p3_60 (HS.out.g _) HC.out (HS.out.g _)))⟩ (fun hHeld => ?_)
  clear hK K
  (try simp only [Act.put, List.getElem_toArray, List.getElem_cons_zero, List.getElem_cons_succ, List.setIfInBounds_toArray, List.set_cons_zero, List.set_cons_succ])
  refine wpAnyH_done (by kernel_rfl) ?_ _
  clear hHeld HD
  go_wp2_with fail
  go_ret
  exact ret_s K7.out HE.out K7.out.b1 (by rw [HM.out]; exact (pSl_putS (k := 1) HS.out (by decide)).symm)
set_option maxRecDepth 100000 in
set_option maxHeartbeats 400000 in
theorem inst_2 (s : Sl) (hs : s.ok) (hn : s.n ≤ 1000000) (x : Nat) (p : Int) (c : Cfg) (hc : c.ok) (w : World) (h : Blk 69 w x (pSl s)) (hp : p = 2) (hr : rtB c = true) (hh : hasS s p = false) :
    Calls Tryz.prog 22 #[.pointer (some ⟨x, 0, none⟩), .int .i64 p, c.val] w (RetS 69 x pSl (instS s p c) w) := by
  have HC := Lib.hid hc
  have HS := Lib.hid hs
  have K0 := Lib.hid ((VK.start [x] w).hold h (by simp))
  subst hp
  have HV : Hid (inB 2 = true) := Lib.hid in_2
  have HR := Lib.hid hr
  have HH := Lib.hid hh
  have HN := Lib.hid hn
  have HE := Lib.hid (inst_ok0 in_2 hr hh)
  obtain ⟨m, hm⟩ : ∃ m, m = s.n + 1 := ⟨_, rfl⟩
  have HM := Lib.hid hm
  clear hm
  have HN60 : Hid ((p3 (s.row 0) (s.row 1) (s.row 2) (s.tm 0) (s.tm 1) (s.tm 2) m)[60]? = some (.int .i64 (m : Int))) := Lib.hid (by rw [← pSl_set hs, List.getElem?_set_self (by rw [pSl_len hs]; omega)])
  clear h hs hc hr hh
  go_enter Tryz.func22, Tryz.ntmps22
  go_wp2_with (first | (refine wpList_boxB rfl 35 (.tmp 2) rfl c.cells (val_agg c) ?_; intro w1 q hc1 hb1 hx1; have K1 := Lib.hid (K0.out.new hb1 hx1 hc1); have HQ := Lib.hid (Nat.le_trans K0.out.oth.size hx1); have qc := ld_cfg rt_cfg K1.out.b0 HC.out; clear hc1 hb1 hx1))
  refine (exists_any _ true (by exact HV.out) _).mono ?_
  rintro e w2 ⟨rfl, rfl⟩
  go_wp2_with fail
  refine (mright_any c HC.out true (by exact HR.out) _).mono ?_
  rintro e w3 ⟨rfl, hb⟩
  have K2 := Lib.hid (K1.out.step hb)
  clear hb qc
  have qc := ld_cfg rt_cfg K2.out.b0 HC.out
  go_wp2_with fail
  refine (sat_any s HS.out x 2 _ K2.out.b1).mono ?_
  rintro e w4 ⟨rfl, hb⟩
  have K3 := Lib.hid (K2.out.step hb)
  clear hb qc
  have qc := ld_cfg rt_cfg K3.out.b0 HC.out
  go_wp2_with fail
  refine (empty_any (ofS s 2) (ofS_ok HS.out 2) (tmN s 2) true (by rw [held_empty HS.out, HH.out]; rfl) _).mono ?_
  rintro e w5 ⟨rfl, hb⟩
  have K4 := Lib.hid (K3.out.step hb)
  clear hb qc
  have qc := ld_cfg rt_cfg K4.out.b0 HC.out
  have sn := s_n HS.out K4.out.b1
  have snf := K4.out.b1.free 60
  go_wp2_with fail
  rw [show (s.n : Int) + 1 = (m : Int) from (by rw [HM.out]; rfl)]
  have K5 := Lib.hid (K4.out.set1 1 60 (.int .i64 (m : Int)) rfl (.inl (by simp)) (pSl_set HS.out) rfl)
  have K6 := Lib.hid K5.out.draw
  have HD := And.intro K6.out.b0 ((K6.out.b1.cell 60).trans HN60.out)
  clear qc sn snf hn
  refine wp_region_held_drew (S := fun w' => Blk 35 w' q c.cells ∧ w'.cell? ⟨x, 60, none⟩ = some (.int .i64 (m : Int))) (by kernel_rfl) HD (fun hHeld => ?_)
  (try dsimp only at hHeld)
  refine wpAnyH_take (i := 0) (v := ?v0_23) rfl (by kernel_rfl) (by kernel_rfl) (by kernel_rfl) (fun _ _ _ h => h) (Or.inl ⟨by rfl, ?hy0_23⟩) hHeld ?_
  case hy0_23 => (intro w hSw; (try dsimp only at hSw); have q0 := ld_cfg rt_cfg hSw.1 HC.out; have q1 := hSw.2; have q2 := bl_held c HC.out m w; (try simp only [List.getElem_toArray, List.getElem_cons_zero, List.getElem_cons_succ]); go_simp <;> with_reducible rfl)
  (try simp only [Act.put, List.getElem_toArray, List.getElem_cons_zero, List.getElem_cons_succ, List.setIfInBounds_toArray, List.set_cons_zero, List.set_cons_succ])
  refine wpAnyH_take (i := 1) (v := ?v1_24) rfl (by kernel_rfl) (by kernel_rfl) (by kernel_rfl) (fun _ _ _ h => h) (Or.inl ⟨by rfl, ?hy1_24⟩) hHeld ?_
  case hy1_24 => (intro w hSw; (try dsimp only at hSw); have q0 := ld_cfg rt_cfg hSw.1 HC.out; have q1 := hSw.2; have q2 := bl_held c HC.out m w; (try simp only [List.getElem_toArray, List.getElem_cons_zero, List.getElem_cons_succ]); go_simp <;> with_reducible rfl)
  (try simp only [Act.put, List.getElem_toArray, List.getElem_cons_zero, List.getElem_cons_succ, List.setIfInBounds_toArray, List.set_cons_zero, List.set_cons_succ])
  refine wpAnyH_take (i := 2) (v := ?v2_25) rfl (by kernel_rfl) (by kernel_rfl) (by kernel_rfl) (fun _ _ _ h => h) (Or.inl ⟨by rfl, ?hy2_25⟩) hHeld ?_
  case hy2_25 => (intro w hSw; (try dsimp only at hSw); have q0 := ld_cfg rt_cfg hSw.1 HC.out; have q1 := hSw.2; have q2 := bl_held c HC.out m w; (try simp only [List.getElem_toArray, List.getElem_cons_zero, List.getElem_cons_succ]); go_simp <;> with_reducible rfl)
  (try simp only [Act.put, List.getElem_toArray, List.getElem_cons_zero, List.getElem_cons_succ, List.setIfInBounds_toArray, List.set_cons_zero, List.set_cons_succ])
  refine wpAnyH_take (i := 3) (v := ?v3_26) rfl (by kernel_rfl) (by kernel_rfl) (by kernel_rfl) (fun _ _ _ h => h) (Or.inl ⟨by rfl, ?hy3_26⟩) hHeld ?_
  case hy3_26 => (intro w hSw; (try dsimp only at hSw); have q0 := ld_cfg rt_cfg hSw.1 HC.out; have q1 := hSw.2; have q2 := bl_held c HC.out m w; (try simp only [List.getElem_toArray, List.getElem_cons_zero, List.getElem_cons_succ]); go_simp <;> with_reducible rfl)
  (try simp only [Act.put, List.getElem_toArray, List.getElem_cons_zero, List.getElem_cons_succ, List.setIfInBounds_toArray, List.set_cons_zero, List.set_cons_succ])
  refine wpAnyH_take (i := 4) (v := ?v4_27) rfl (by kernel_rfl) (by kernel_rfl) (by kernel_rfl) (fun _ _ _ h => h) (Or.inl ⟨by rfl, ?hy4_27⟩) hHeld ?_
  case hy4_27 => (intro w hSw; (try dsimp only at hSw); have q0 := ld_cfg rt_cfg hSw.1 HC.out; have q1 := hSw.2; have q2 := bl_held c HC.out m w; (try simp only [List.getElem_toArray, List.getElem_cons_zero, List.getElem_cons_succ]); go_simp <;> with_reducible rfl)
  (try simp only [Act.put, List.getElem_toArray, List.getElem_cons_zero, List.getElem_cons_succ, List.setIfInBounds_toArray, List.set_cons_zero, List.set_cons_succ])
  refine wpAnyH_take (i := 5) (v := ?v5_28) rfl (by kernel_rfl) (by kernel_rfl) (by kernel_rfl) (fun _ _ _ h => h) (Or.inl ⟨by rfl, ?hy5_28⟩) hHeld ?_
  case hy5_28 => (intro w hSw; (try dsimp only at hSw); have q0 := ld_cfg rt_cfg hSw.1 HC.out; have q1 := hSw.2; have q2 := bl_held c HC.out m w; (try simp only [List.getElem_toArray, List.getElem_cons_zero, List.getElem_cons_succ]); go_simp <;> with_reducible rfl)
  (try simp only [Act.put, List.getElem_toArray, List.getElem_cons_zero, List.getElem_cons_succ, List.setIfInBounds_toArray, List.set_cons_zero, List.set_cons_succ])
  refine wpAnyH_take (i := 6) (v := ?v6_29) rfl (by kernel_rfl) (by kernel_rfl) (by kernel_rfl) (fun _ _ _ h => h) (Or.inl ⟨by rfl, ?hy6_29⟩) hHeld ?_
  case hy6_29 => (intro w hSw; (try dsimp only at hSw); have q0 := ld_cfg rt_cfg hSw.1 HC.out; have q1 := hSw.2; have q2 := bl_held c HC.out m w; (try simp only [List.getElem_toArray, List.getElem_cons_zero, List.getElem_cons_succ]); go_simp <;> with_reducible rfl)
  (try simp only [Act.put, List.getElem_toArray, List.getElem_cons_zero, List.getElem_cons_succ, List.setIfInBounds_toArray, List.set_cons_zero, List.set_cons_succ])
  refine wpAnyH_take (i := 7) (v := ?v7_30) rfl (by kernel_rfl) (by kernel_rfl) (by kernel_rfl) (fun _ _ _ h => h) (Or.inl ⟨by rfl, ?hy7_30⟩) hHeld ?_
  case hy7_30 => (intro w hSw; (try dsimp only at hSw); have q0 := ld_cfg rt_cfg hSw.1 HC.out; have q1 := hSw.2; have q2 := bl_held c HC.out m w; (try simp only [List.getElem_toArray, List.getElem_cons_zero, List.getElem_cons_succ]); go_simp <;> with_reducible rfl)
  (try simp only [Act.put, List.getElem_toArray, List.getElem_cons_zero, List.getElem_cons_succ, List.setIfInBounds_toArray, List.set_cons_zero, List.set_cons_succ])
  refine wpAnyH_take (i := 8) (v := ?v8_31) rfl (by kernel_rfl) (by kernel_rfl) (by kernel_rfl) (fun _ _ _ h => h) (Or.inl ⟨by rfl, ?hy8_31⟩) hHeld ?_
  case hy8_31 => (intro w hSw; (try dsimp only at hSw); have q0 := ld_cfg rt_cfg hSw.1 HC.out; have q1 := hSw.2; have q2 := bl_held c HC.out m w; (try simp only [List.getElem_toArray, List.getElem_cons_zero, List.getElem_cons_succ]); go_simp <;> with_reducible rfl)
  (try simp only [Act.put, List.getElem_toArray, List.getElem_cons_zero, List.getElem_cons_succ, List.setIfInBounds_toArray, List.set_cons_zero, List.set_cons_succ])
  refine wpAnyH_take (i := 9) (v := ?v9_32) rfl (by kernel_rfl) (by kernel_rfl) (by kernel_rfl) (fun _ _ _ h => h) (Or.inl ⟨by rfl, ?hy9_32⟩) hHeld ?_
  case hy9_32 => (intro w hSw; (try dsimp only at hSw); have q0 := ld_cfg rt_cfg hSw.1 HC.out; have q1 := hSw.2; have q2 := bl_held c HC.out m w; (try simp only [List.getElem_toArray, List.getElem_cons_zero, List.getElem_cons_succ]); go_simp <;> with_reducible rfl)
  (try simp only [Act.put, List.getElem_toArray, List.getElem_cons_zero, List.getElem_cons_succ, List.setIfInBounds_toArray, List.set_cons_zero, List.set_cons_succ])
  refine wpAnyH_take (i := 10) (v := ?v10_33) rfl (by kernel_rfl) (by kernel_rfl) (by kernel_rfl) (fun _ _ _ h => h) (Or.inl ⟨by rfl, ?hy10_33⟩) hHeld ?_
  case hy10_33 => (intro w hSw; (try dsimp only at hSw); have q0 := ld_cfg rt_cfg hSw.1 HC.out; have q1 := hSw.2; have q2 := bl_held c HC.out m w; (try simp only [List.getElem_toArray, List.getElem_cons_zero, List.getElem_cons_succ]); go_simp <;> with_reducible rfl)
  (try simp only [Act.put, List.getElem_toArray, List.getElem_cons_zero, List.getElem_cons_succ, List.setIfInBounds_toArray, List.set_cons_zero, List.set_cons_succ])
  have st := st_held (o := 40) (t := m) K6.out.b1 HC.out (p3_len (HS.out.g _) (HS.out.g _) (HS.out.g _)) (by decide)
  refine wpAnyH_ready (rs := [11]) (by kernel_rfl) (by simp) ?_
  refine AllReadyH.cons rfl (fun K hK => ?_) AllReadyH.nil
  (try simp only [List.getElem_toArray, List.getElem_cons_zero, List.getElem_cons_succ])
  go_simp
  have K7 := Lib.hid (K6.out.putAt 1 40 (hcel c m) rfl (.inl (by simp)) (p3_put2 (HS.out.g 0) (HS.out.g 1) (HS.out.g 2) HC.out) rfl)
  clear st
  refine hK.out _ _ ⟨K7.out.b0, ((K7.out.b1.cell 60).trans (p3_60 (HS.out.g _) (HS.out.g _) HC.out))⟩ (fun hHeld => ?_)
  clear hK K
  (try simp only [Act.put, List.getElem_toArray, List.getElem_cons_zero, List.getElem_cons_succ, List.setIfInBounds_toArray, List.set_cons_zero, List.set_cons_succ])
  refine wpAnyH_done (by kernel_rfl) ?_ _
  clear hHeld HD
  go_wp2_with fail
  go_ret
  exact ret_s K7.out HE.out K7.out.b1 (by rw [HM.out]; exact (pSl_putS (k := 2) HS.out (by decide)).symm)
theorem inst_any (s : Sl) (hs : s.ok) (hn : s.n ≤ 1000000) (x : Nat) (p : Int) (c : Cfg) (hc : c.ok) (w : World) (h : Blk 69 w x (pSl s)) :
    Calls Tryz.prog 22 #[.pointer (some ⟨x, 0, none⟩), .int .i64 p, c.val] w (RetS 69 x pSl (instS s p c) w) := by
  cases hv : inB p
  · exact inst_no s hs hn x p c hc w h hv
  cases hr : rtB c
  · exact inst_bad s hs hn x p c hc w h hv hr
  cases hh : hasS s p
  · rcases in_cases hv with e | e | e
    · exact inst_0 s hs hn x p c hc w h e hr hh
    · exact inst_1 s hs hn x p c hc w h e hr hh
    · exact inst_2 s hs hn x p c hc w h e hr hh
  · exact inst_has s hs hn x p c hc w h hv hr hh
set_option maxRecDepth 100000 in
set_option maxHeartbeats 400000 in
theorem ret_no (s : Sl) (hs : s.ok) (x : Nat) (p : Int) (w : World) (h : Blk 69 w x (pSl s)) (hv : inB p = false) :
    Calls Tryz.prog 23 #[.pointer (some ⟨x, 0, none⟩), .int .i64 p] w (RetS 69 x pSl (retS s p) w) := by
  have HS := Lib.hid hs
  have K0 := Lib.hid ((VK.start [x] w).hold h (by simp))
  have HV := Lib.hid hv
  have HE := Lib.hid (ret_range (s := s) hv)
  clear h hs hv
  go_enter Tryz.func23, Tryz.ntmps23
  go_wp2_with fail
  refine (exists_any _ false (by exact HV.out) _).mono ?_
  rintro e w2 ⟨rfl, rfl⟩
  go_wp2_with fail
  go_ret
  exact ret_s K0.out HE.out K0.out.b0 rfl
set_option maxRecDepth 100000 in
set_option maxHeartbeats 400000 in
theorem ret_em (s : Sl) (hs : s.ok) (x : Nat) (p : Int) (w : World) (h : Blk 69 w x (pSl s)) (hv : inB p = true) (hh : hasS s p = false) :
    Calls Tryz.prog 23 #[.pointer (some ⟨x, 0, none⟩), .int .i64 p] w (RetS 69 x pSl (retS s p) w) := by
  have HS := Lib.hid hs
  have K0 := Lib.hid ((VK.start [x] w).hold h (by simp))
  have HV := Lib.hid hv
  have HH := Lib.hid hh
  have HE := Lib.hid (ret_none hv hh)
  clear h hs hv hh
  go_enter Tryz.func23, Tryz.ntmps23
  go_wp2_with fail
  refine (exists_any _ true (by exact HV.out) _).mono ?_
  rintro e w2 ⟨rfl, rfl⟩
  go_wp2_with fail
  refine (sat_any s HS.out x p _ K0.out.b0).mono ?_
  rintro e w4 ⟨rfl, hb⟩
  have K3 := Lib.hid (K0.out.step hb)
  clear hb
  go_wp2_with fail
  refine (empty_any (ofS s p) (ofS_ok HS.out p) (tmN s p) true (by rw [held_empty HS.out, HH.out]; rfl) _).mono ?_
  rintro e w5 ⟨rfl, hb⟩
  have K4 := Lib.hid (K3.out.step hb)
  clear hb
  go_wp2_with fail
  go_ret
  exact ret_s K4.out HE.out K4.out.b0 rfl
set_option maxRecDepth 100000 in
set_option maxHeartbeats 400000 in
theorem ret_0 (s : Sl) (hs : s.ok) (x : Nat) (p : Int) (w : World) (h : Blk 69 w x (pSl s)) (hp : p = 0) (hh : hasS s p = true) :
    Calls Tryz.prog 23 #[.pointer (some ⟨x, 0, none⟩), .int .i64 p] w (RetS 69 x pSl (retS s p) w) := by
  have HS := Lib.hid hs
  have K0 := Lib.hid ((VK.start [x] w).hold h (by simp))
  subst hp
  have HV : Hid (inB 0 = true) := Lib.hid in_0
  have HH := Lib.hid hh
  have HE := Lib.hid (ret_ok0 in_0 hh)
  clear h hs hh
  go_enter Tryz.func23, Tryz.ntmps23
  go_wp2_with fail
  refine (exists_any _ true (by exact HV.out) _).mono ?_
  rintro e w2 ⟨rfl, rfl⟩
  go_wp2_with fail
  refine (sat_any s HS.out x 0 _ K0.out.b0).mono ?_
  rintro e w4 ⟨rfl, hb⟩
  have K3 := Lib.hid (K0.out.step hb)
  clear hb
  go_wp2_with fail
  refine (empty_any (ofS s 0) (ofS_ok HS.out 0) (tmN s 0) false (by rw [held_empty HS.out, HH.out]; rfl) _).mono ?_
  rintro e w5 ⟨rfl, hb⟩
  have K4 := Lib.hid (K3.out.step hb)
  clear hb
  go_wp2_with (first | (refine wpList_stB rt_held rfl (.tmp 17) (.tmp 14) rfl x 0 rfl (pSl s) zh zh_lit (by unfold zh; exact hcel_one) rfl (by exact K4.out.b0) (by rw [pSl_len HS.out, zh_len]; decide) ?_; intro w6 hc2 ho2 hs2; have K5 := Lib.hid (K4.out.put 0 rfl (.inl (by simp)) ho2 hc2 rfl); clear hc2 ho2 hs2))
  go_ret
  exact ret_s K5.out HE.out K5.out.b0 (by rw [zh_def, p_def s, p3_put0 (HS.out.g 0) zeroC_ok]; exact (pSl_offS (k := 0) HS.out (by decide)).symm)
set_option maxRecDepth 100000 in
set_option maxHeartbeats 400000 in
theorem ret_1 (s : Sl) (hs : s.ok) (x : Nat) (p : Int) (w : World) (h : Blk 69 w x (pSl s)) (hp : p = 1) (hh : hasS s p = true) :
    Calls Tryz.prog 23 #[.pointer (some ⟨x, 0, none⟩), .int .i64 p] w (RetS 69 x pSl (retS s p) w) := by
  have HS := Lib.hid hs
  have K0 := Lib.hid ((VK.start [x] w).hold h (by simp))
  subst hp
  have HV : Hid (inB 1 = true) := Lib.hid in_1
  have HH := Lib.hid hh
  have HE := Lib.hid (ret_ok0 in_1 hh)
  clear h hs hh
  go_enter Tryz.func23, Tryz.ntmps23
  go_wp2_with fail
  refine (exists_any _ true (by exact HV.out) _).mono ?_
  rintro e w2 ⟨rfl, rfl⟩
  go_wp2_with fail
  refine (sat_any s HS.out x 1 _ K0.out.b0).mono ?_
  rintro e w4 ⟨rfl, hb⟩
  have K3 := Lib.hid (K0.out.step hb)
  clear hb
  go_wp2_with fail
  refine (empty_any (ofS s 1) (ofS_ok HS.out 1) (tmN s 1) false (by rw [held_empty HS.out, HH.out]; rfl) _).mono ?_
  rintro e w5 ⟨rfl, hb⟩
  have K4 := Lib.hid (K3.out.step hb)
  clear hb
  go_wp2_with (first | (refine wpList_stB rt_held rfl (.tmp 17) (.tmp 14) rfl x 20 rfl (pSl s) zh zh_lit (by unfold zh; exact hcel_one) rfl (by exact K4.out.b0) (by rw [pSl_len HS.out, zh_len]; decide) ?_; intro w6 hc2 ho2 hs2; have K5 := Lib.hid (K4.out.put 0 rfl (.inl (by simp)) ho2 hc2 rfl); clear hc2 ho2 hs2))
  go_ret
  exact ret_s K5.out HE.out K5.out.b0 (by rw [zh_def, p_def s, p3_put1 (HS.out.g 0) (HS.out.g 1) zeroC_ok]; exact (pSl_offS (k := 1) HS.out (by decide)).symm)
set_option maxRecDepth 100000 in
set_option maxHeartbeats 400000 in
theorem ret_2 (s : Sl) (hs : s.ok) (x : Nat) (p : Int) (w : World) (h : Blk 69 w x (pSl s)) (hp : p = 2) (hh : hasS s p = true) :
    Calls Tryz.prog 23 #[.pointer (some ⟨x, 0, none⟩), .int .i64 p] w (RetS 69 x pSl (retS s p) w) := by
  have HS := Lib.hid hs
  have K0 := Lib.hid ((VK.start [x] w).hold h (by simp))
  subst hp
  have HV : Hid (inB 2 = true) := Lib.hid in_2
  have HH := Lib.hid hh
  have HE := Lib.hid (ret_ok0 in_2 hh)
  clear h hs hh
  go_enter Tryz.func23, Tryz.ntmps23
  go_wp2_with fail
  refine (exists_any _ true (by exact HV.out) _).mono ?_
  rintro e w2 ⟨rfl, rfl⟩
  go_wp2_with fail
  refine (sat_any s HS.out x 2 _ K0.out.b0).mono ?_
  rintro e w4 ⟨rfl, hb⟩
  have K3 := Lib.hid (K0.out.step hb)
  clear hb
  go_wp2_with fail
  refine (empty_any (ofS s 2) (ofS_ok HS.out 2) (tmN s 2) false (by rw [held_empty HS.out, HH.out]; rfl) _).mono ?_
  rintro e w5 ⟨rfl, hb⟩
  have K4 := Lib.hid (K3.out.step hb)
  clear hb
  go_wp2_with (first | (refine wpList_stB rt_held rfl (.tmp 17) (.tmp 14) rfl x 40 rfl (pSl s) zh zh_lit (by unfold zh; exact hcel_one) rfl (by exact K4.out.b0) (by rw [pSl_len HS.out, zh_len]; decide) ?_; intro w6 hc2 ho2 hs2; have K5 := Lib.hid (K4.out.put 0 rfl (.inl (by simp)) ho2 hc2 rfl); clear hc2 ho2 hs2))
  go_ret
  exact ret_s K5.out HE.out K5.out.b0 (by rw [zh_def, p_def s, p3_put2 (HS.out.g 0) (HS.out.g 1) (HS.out.g 2) zeroC_ok]; exact (pSl_offS (k := 2) HS.out (by decide)).symm)
theorem ret_any (s : Sl) (hs : s.ok) (x : Nat) (p : Int) (w : World) (h : Blk 69 w x (pSl s)) :
    Calls Tryz.prog 23 #[.pointer (some ⟨x, 0, none⟩), .int .i64 p] w (RetS 69 x pSl (retS s p) w) := by
  cases hv : inB p
  · exact ret_no s hs x p w h hv
  cases hh : hasS s p
  · exact ret_em s hs x p w h hv hh
  · rcases in_cases hv with e | e | e
    · exact ret_0 s hs x p w h e hh
    · exact ret_1 s hs x p w h e hh
    · exact ret_2 s hs x p w h e hh
end Go.Proofs.YtkcchidklcnnnaaGreat
