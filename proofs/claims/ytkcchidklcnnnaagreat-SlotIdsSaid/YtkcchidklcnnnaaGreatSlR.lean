/- Layer 18: the reference's Has, Install, Retire. Condition: the configurations' keys have sixteen bytes; fewer than a million were installed. -/
import Derived.Test.YtkcchidklcnnnaaGreatSlB
import Derived.Test.YtkcchidklcnnnaaGreatMdUr
namespace Go.Proofs.YtkcchidklcnnnaaGreat
open Go.RowKit
set_option linter.unusedVariables false
set_option linter.unusedSimpArgs false
theorem st_rcfg {T : TypeId} {w : World} {x o : Nat} {cs : List Value} {c : Cfg} (k : Blk T w x cs) (hc : c.ok) (hl : cs.length = 61) (ho : o + 19 ≤ 61) : stHd 29 (.pointer (some ⟨x, o, none⟩)) c.val w = .ok .skip (w.setCells x o c.cells) := by
  rw [val_agg]
  exact stB_m rt_rcfg k (cells_one c) (by rw [Cfg.cells_len hc, zeroC_len]) (by rw [zeroC_len, hl]; exact ho)
theorem r3_60 {c0 c1 c2 : Cfg} {t0 t1 t2 n : Nat} (h0 : c0.ok) (h1 : c1.ok) (h2 : c2.ok) (j : Nat) : (r3 c0 c1 c2 t0 t1 t2 n)[57 + j]? = [Value.int .i64 (t0 : Int), .int .i64 (t1 : Int), .int .i64 (t2 : Int), .int .i64 (n : Int)][j]? := by
  unfold r3
  rw [← List.append_assoc, ← List.append_assoc, List.getElem?_append_right (by simp only [List.length_append, Cfg.cells_len h0, Cfg.cells_len h1, Cfg.cells_len h2]; omega)]
  simp only [List.length_append, Cfg.cells_len h0, Cfg.cells_len h1, Cfg.cells_len h2]
  rw [show 57 + j - (19 + 19 + 19) = j by omega]
theorem r3_s0 {c0 c1 c2 : Cfg} {t0 t1 t2 n : Nat} (h0 : c0.ok) (h1 : c1.ok) (h2 : c2.ok) (m : Nat) : (r3 c0 c1 c2 t0 t1 t2 n).set 57 (.int .i64 (m : Int)) = r3 c0 c1 c2 m t1 t2 n := r3_set h0 h1 h2 0 _
theorem r3_s1 {c0 c1 c2 : Cfg} {t0 t1 t2 n : Nat} (h0 : c0.ok) (h1 : c1.ok) (h2 : c2.ok) (m : Nat) : (r3 c0 c1 c2 t0 t1 t2 n).set 58 (.int .i64 (m : Int)) = r3 c0 c1 c2 t0 m t2 n := r3_set h0 h1 h2 1 _
theorem r3_s2 {c0 c1 c2 : Cfg} {t0 t1 t2 n : Nat} (h0 : c0.ok) (h1 : c1.ok) (h2 : c2.ok) (m : Nat) : (r3 c0 c1 c2 t0 t1 t2 n).set 59 (.int .i64 (m : Int)) = r3 c0 c1 c2 t0 t1 m n := r3_set h0 h1 h2 2 _
theorem r3_s3 {c0 c1 c2 : Cfg} {t0 t1 t2 n : Nat} (h0 : c0.ok) (h1 : c1.ok) (h2 : c2.ok) (m : Nat) : (r3 c0 c1 c2 t0 t1 t2 n).set 60 (.int .i64 (m : Int)) = r3 c0 c1 c2 t0 t1 t2 m := r3_set h0 h1 h2 3 _
theorem has_0 (s : Sl) : hasS s 0 = decide (0 < s.tm 0) := by unfold hasS; rw [decide_eq_decide]; exact ⟨fun e => e.2, fun e => ⟨by omega, e⟩⟩
theorem has_1 (s : Sl) : hasS s 1 = decide (0 < s.tm 1) := by unfold hasS; rw [decide_eq_decide]; exact ⟨fun e => e.2, fun e => ⟨by omega, e⟩⟩
theorem has_2 (s : Sl) : hasS s 2 = decide (0 < s.tm 2) := by unfold hasS; rw [decide_eq_decide]; exact ⟨fun e => e.2, fun e => ⟨by omega, e⟩⟩
attribute [local irreducible] Cfg.val Cfg.cells rtB Rt zK sizeC zeroC hcel zh pSl rSl aSl p3 r3 hasS ofS tmS tmN Sl.row Sl.tm inB instS retS putS offS
attribute [local go_sem ↓] ex_ldR ex_stR
set_option maxRecDepth 100000 in
set_option maxHeartbeats 400000 in
theorem rhas_any (s : Sl) (hs : s.ok) (x : Nat) (p : Int) (v : Bool) (hv : hasS s p = v) (w : World) (h : Blk 33 w x (rSl s)) :
    Calls Tryz.prog 29 #[.pointer (some ⟨x, 0, none⟩), .int .i64 p] w fun e w' => e = .returned (.bool v) ∧ w = w' := by
  by_cases h0 : 0 ≤ p
  · have d0 : decide (0 ≤ p) = true := decide_eq_true h0
    by_cases h3 : p < 3
    · rcases (show p = 0 ∨ p = 1 ∨ p = 2 by omega) with rfl | rfl | rfl
      · have ht := r_t0 hs h
        rw [has_0] at hv
        clear h0 h3 h hs d0
        go_enter Tryz.func29, Tryz.ntmps29
        go_wp2_with fail
        go_ret
        exact ⟨rfl, rfl⟩
      · have ht := r_t1 hs h
        rw [has_1] at hv
        clear h0 h3 h hs d0
        go_enter Tryz.func29, Tryz.ntmps29
        go_wp2_with fail
        go_ret
        exact ⟨rfl, rfl⟩
      · have ht := r_t2 hs h
        rw [has_2] at hv
        clear h0 h3 h hs d0
        go_enter Tryz.func29, Tryz.ntmps29
        go_wp2_with fail
        go_ret
        exact ⟨rfl, rfl⟩
    · have d3 : decide (p < 3) = false := decide_eq_false h3
      obtain rfl : false = v := by rw [← hv]; exact (in_no (by unfold inB; exact decide_eq_false (fun e => h3 e.2))).symm
      clear h0 h3 hv h hs
      go_enter Tryz.func29, Tryz.ntmps29
      go_wp2_with fail
      go_ret
      exact ⟨rfl, rfl⟩
  · have d0 : decide (0 ≤ p) = false := decide_eq_false h0
    obtain rfl : false = v := by rw [← hv]; exact (in_no (by unfold inB; exact decide_eq_false (fun e => h0 e.1))).symm
    clear h0 hv h hs
    go_enter Tryz.func29, Tryz.ntmps29
    go_wp2_with fail
    go_ret
    exact ⟨rfl, rfl⟩
set_option maxRecDepth 100000 in
set_option maxHeartbeats 400000 in
theorem rinst_neg (s : Sl) (hs : s.ok) (hn : s.n ≤ 1000000) (x : Nat) (p : Int) (c : Cfg) (hc : c.ok) (w : World) (h : Blk 33 w x (rSl s)) (h0 : p < 0) :
    Calls Tryz.prog 26 #[.pointer (some ⟨x, 0, none⟩), .int .i64 p, c.val] w (RetS 33 x rSl (instS s p c) w) := by
  have HC := Lib.hid hc
  have HS := Lib.hid hs
  have K0 := Lib.hid ((VK.start [x] w).hold h (by simp))
  have d0 : decide (p < 0) = true := decide_eq_true h0
  have HE := Lib.hid (inst_range (s := s) (c := c) (p := p) (by unfold inB; exact decide_eq_false (by omega)))
  clear h hs hc h0 hn
  go_enter Tryz.func26, Tryz.ntmps26
  go_wp2_with (first | (refine wpList_boxB rfl 29 (.tmp 2) rfl c.cells (val_agg c) ?_; intro w1 q hc1 hb1 hx1; have K1 := Lib.hid (K0.out.new hb1 hx1 hc1); have HQ := Lib.hid (Nat.le_trans K0.out.oth.size hx1); have qc := ld_cfg rt_rcfg K1.out.b0 HC.out; clear hc1 hb1 hx1))
  go_ret
  exact ret_s K1.out HE.out K1.out.b1 rfl
set_option maxRecDepth 100000 in
set_option maxHeartbeats 400000 in
theorem rinst_big (s : Sl) (hs : s.ok) (hn : s.n ≤ 1000000) (x : Nat) (p : Int) (c : Cfg) (hc : c.ok) (w : World) (h : Blk 33 w x (rSl s)) (h0 : 2 < p) :
    Calls Tryz.prog 26 #[.pointer (some ⟨x, 0, none⟩), .int .i64 p, c.val] w (RetS 33 x rSl (instS s p c) w) := by
  have HC := Lib.hid hc
  have HS := Lib.hid hs
  have K0 := Lib.hid ((VK.start [x] w).hold h (by simp))
  have d0 : decide (p < 0) = false := decide_eq_false (by omega)
  have d2 : decide (2 < p) = true := decide_eq_true h0
  have HE := Lib.hid (inst_range (s := s) (c := c) (p := p) (by unfold inB; exact decide_eq_false (by omega)))
  clear h hs hc h0 hn
  go_enter Tryz.func26, Tryz.ntmps26
  go_wp2_with (first | (refine wpList_boxB rfl 29 (.tmp 2) rfl c.cells (val_agg c) ?_; intro w1 q hc1 hb1 hx1; have K1 := Lib.hid (K0.out.new hb1 hx1 hc1); have HQ := Lib.hid (Nat.le_trans K0.out.oth.size hx1); have qc := ld_cfg rt_rcfg K1.out.b0 HC.out; clear hc1 hb1 hx1))
  go_ret
  exact ret_s K1.out HE.out K1.out.b1 rfl
set_option maxRecDepth 100000 in
set_option maxHeartbeats 400000 in
theorem rinst_bad (s : Sl) (hs : s.ok) (hn : s.n ≤ 1000000) (x : Nat) (p : Int) (c : Cfg) (hc : c.ok) (w : World) (h : Blk 33 w x (rSl s)) (hv : inB p = true) (hr : rtB c = false) :
    Calls Tryz.prog 26 #[.pointer (some ⟨x, 0, none⟩), .int .i64 p, c.val] w (RetS 33 x rSl (instS s p c) w) := by
  have HC := Lib.hid hc
  have HS := Lib.hid hs
  have K0 := Lib.hid ((VK.start [x] w).hold h (by simp))
  have HR := Lib.hid hr
  have HE := Lib.hid (inst_form (s := s) hv hr)
  have h1 := in_cases hv
  have d0 : decide (p < 0) = false := decide_eq_false (by omega)
  have d2 : decide (2 < p) = false := decide_eq_false (by omega)
  clear h hs hc hv hr hn h1
  go_enter Tryz.func26, Tryz.ntmps26
  go_wp2_with (first | (refine wpList_boxB rfl 29 (.tmp 2) rfl c.cells (val_agg c) ?_; intro w1 q hc1 hb1 hx1; have K1 := Lib.hid (K0.out.new hb1 hx1 hc1); have HQ := Lib.hid (Nat.le_trans K0.out.oth.size hx1); have qc := ld_cfg rt_rcfg K1.out.b0 HC.out; clear hc1 hb1 hx1))
  refine (rmright_any c HC.out false (by exact HR.out) _).mono ?_
  rintro e w3 ⟨rfl, hb⟩
  have K2 := Lib.hid (K1.out.step hb)
  clear hb qc
  have qc := ld_cfg rt_rcfg K2.out.b0 HC.out
  go_wp2_with fail
  go_ret
  exact ret_s K2.out HE.out K2.out.b1 rfl
set_option maxRecDepth 100000 in
set_option maxHeartbeats 400000 in
theorem rinst_has0 (s : Sl) (hs : s.ok) (hn : s.n ≤ 1000000) (x : Nat) (p : Int) (c : Cfg) (hc : c.ok) (w : World) (h : Blk 33 w x (rSl s)) (hp : p = 0) (hr : rtB c = true) (hh : hasS s p = true) :
    Calls Tryz.prog 26 #[.pointer (some ⟨x, 0, none⟩), .int .i64 p, c.val] w (RetS 33 x rSl (instS s p c) w) := by
  have HC := Lib.hid hc
  have HS := Lib.hid hs
  have K0 := Lib.hid ((VK.start [x] w).hold h (by simp))
  subst hp
  have HR := Lib.hid hr
  have HE := Lib.hid (inst_there in_0 hr hh)
  rw [has_0] at hh
  clear h hs hc hr hn
  go_enter Tryz.func26, Tryz.ntmps26
  go_wp2_with (first | (refine wpList_boxB rfl 29 (.tmp 2) rfl c.cells (val_agg c) ?_; intro w1 q hc1 hb1 hx1; have K1 := Lib.hid (K0.out.new hb1 hx1 hc1); have HQ := Lib.hid (Nat.le_trans K0.out.oth.size hx1); have qc := ld_cfg rt_rcfg K1.out.b0 HC.out; clear hc1 hb1 hx1))
  refine (rmright_any c HC.out true (by exact HR.out) _).mono ?_
  rintro e w3 ⟨rfl, hb⟩
  have K2 := Lib.hid (K1.out.step hb)
  clear hb qc
  have qc := ld_cfg rt_rcfg K2.out.b0 HC.out
  have ht := r_t0 HS.out K2.out.b1
  go_wp2_with fail
  go_ret
  exact ret_s K2.out HE.out K2.out.b1 rfl
set_option maxRecDepth 100000 in
set_option maxHeartbeats 400000 in
theorem rinst_has1 (s : Sl) (hs : s.ok) (hn : s.n ≤ 1000000) (x : Nat) (p : Int) (c : Cfg) (hc : c.ok) (w : World) (h : Blk 33 w x (rSl s)) (hp : p = 1) (hr : rtB c = true) (hh : hasS s p = true) :
    Calls Tryz.prog 26 #[.pointer (some ⟨x, 0, none⟩), .int .i64 p, c.val] w (RetS 33 x rSl (instS s p c) w) := by
  have HC := Lib.hid hc
  have HS := Lib.hid hs
  have K0 := Lib.hid ((VK.start [x] w).hold h (by simp))
  subst hp
  have HR := Lib.hid hr
  have HE := Lib.hid (inst_there in_1 hr hh)
  rw [has_1] at hh
  clear h hs hc hr hn
  go_enter Tryz.func26, Tryz.ntmps26
  go_wp2_with (first | (refine wpList_boxB rfl 29 (.tmp 2) rfl c.cells (val_agg c) ?_; intro w1 q hc1 hb1 hx1; have K1 := Lib.hid (K0.out.new hb1 hx1 hc1); have HQ := Lib.hid (Nat.le_trans K0.out.oth.size hx1); have qc := ld_cfg rt_rcfg K1.out.b0 HC.out; clear hc1 hb1 hx1))
  refine (rmright_any c HC.out true (by exact HR.out) _).mono ?_
  rintro e w3 ⟨rfl, hb⟩
  have K2 := Lib.hid (K1.out.step hb)
  clear hb qc
  have qc := ld_cfg rt_rcfg K2.out.b0 HC.out
  have ht := r_t1 HS.out K2.out.b1
  go_wp2_with fail
  go_ret
  exact ret_s K2.out HE.out K2.out.b1 rfl
set_option maxRecDepth 100000 in
set_option maxHeartbeats 400000 in
theorem rinst_has2 (s : Sl) (hs : s.ok) (hn : s.n ≤ 1000000) (x : Nat) (p : Int) (c : Cfg) (hc : c.ok) (w : World) (h : Blk 33 w x (rSl s)) (hp : p = 2) (hr : rtB c = true) (hh : hasS s p = true) :
    Calls Tryz.prog 26 #[.pointer (some ⟨x, 0, none⟩), .int .i64 p, c.val] w (RetS 33 x rSl (instS s p c) w) := by
  have HC := Lib.hid hc
  have HS := Lib.hid hs
  have K0 := Lib.hid ((VK.start [x] w).hold h (by simp))
  subst hp
  have HR := Lib.hid hr
  have HE := Lib.hid (inst_there in_2 hr hh)
  rw [has_2] at hh
  clear h hs hc hr hn
  go_enter Tryz.func26, Tryz.ntmps26
  go_wp2_with (first | (refine wpList_boxB rfl 29 (.tmp 2) rfl c.cells (val_agg c) ?_; intro w1 q hc1 hb1 hx1; have K1 := Lib.hid (K0.out.new hb1 hx1 hc1); have HQ := Lib.hid (Nat.le_trans K0.out.oth.size hx1); have qc := ld_cfg rt_rcfg K1.out.b0 HC.out; clear hc1 hb1 hx1))
  refine (rmright_any c HC.out true (by exact HR.out) _).mono ?_
  rintro e w3 ⟨rfl, hb⟩
  have K2 := Lib.hid (K1.out.step hb)
  clear hb qc
  have qc := ld_cfg rt_rcfg K2.out.b0 HC.out
  have ht := r_t2 HS.out K2.out.b1
  go_wp2_with fail
  go_ret
  exact ret_s K2.out HE.out K2.out.b1 rfl
set_option maxRecDepth 100000 in
set_option maxHeartbeats 400000 in
theorem rinst_0 (s : Sl) (hs : s.ok) (hn : s.n ≤ 1000000) (x : Nat) (p : Int) (c : Cfg) (hc : c.ok) (w : World) (h : Blk 33 w x (rSl s)) (hp : p = 0) (hr : rtB c = true) (hh : hasS s p = false) :
    Calls Tryz.prog 26 #[.pointer (some ⟨x, 0, none⟩), .int .i64 p, c.val] w (RetS 33 x rSl (instS s p c) w) := by
  have HC := Lib.hid hc
  have HS := Lib.hid hs
  have K0 := Lib.hid ((VK.start [x] w).hold h (by simp))
  subst hp
  have HR := Lib.hid hr
  have HE := Lib.hid (inst_ok0 in_0 hr hh)
  rw [has_0] at hh
  obtain ⟨m, hm⟩ : ∃ m, m = s.n + 1 := ⟨_, rfl⟩
  have HM := Lib.hid hm
  clear hm
  clear h hs hc hr
  go_enter Tryz.func26, Tryz.ntmps26
  go_wp2_with (first | (refine wpList_boxB rfl 29 (.tmp 2) rfl c.cells (val_agg c) ?_; intro w1 q hc1 hb1 hx1; have K1 := Lib.hid (K0.out.new hb1 hx1 hc1); have HQ := Lib.hid (Nat.le_trans K0.out.oth.size hx1); have qc := ld_cfg rt_rcfg K1.out.b0 HC.out; clear hc1 hb1 hx1))
  refine (rmright_any c HC.out true (by exact HR.out) _).mono ?_
  rintro e w3 ⟨rfl, hb⟩
  have K2 := Lib.hid (K1.out.step hb)
  clear hb qc
  have qc := ld_cfg rt_rcfg K2.out.b0 HC.out
  have ht := r_t0 HS.out K2.out.b1
  have sn := r_n HS.out K2.out.b1
  have snf := K2.out.b1.free 60
  go_wp2_with fail
  rw [show (s.n : Int) + 1 = (m : Int) from (by rw [HM.out]; rfl)]
  have K5 := Lib.hid (K2.out.set1 1 60 (.int .i64 (m : Int)) rfl (.inl (by simp)) (show _ = r3 (s.row 0) (s.row 1) (s.row 2) (s.tm 0) (s.tm 1) (s.tm 2) m from (by rw [r_def s]; exact r3_s3 (HS.out.g 0) (HS.out.g 1) (HS.out.g 2) m)) rfl)
  have K6 := Lib.hid K5.out.draw
  have HD := K6.out.b0
  clear qc sn snf hn ht hh
  refine wp_region_held_drew (S := fun w' => Blk 29 w' q c.cells) (by kernel_rfl) HD (fun hHeld => ?_)
  (try dsimp only at hHeld)
  refine wpAnyH_take (i := 0) (v := ?v0_1) rfl (by kernel_rfl) (by kernel_rfl) (by kernel_rfl) (fun _ _ _ h => h) (Or.inl ⟨by rfl, ?hy0_1⟩) hHeld ?_
  case hy0_1 => (intro w hSw; (try dsimp only at hSw); have q0 := ld_cfg rt_rcfg hSw HC.out; (try simp only [List.getElem_toArray, List.getElem_cons_zero, List.getElem_cons_succ]); go_simp <;> with_reducible rfl)
  (try simp only [Act.put, List.getElem_toArray, List.getElem_cons_zero, List.getElem_cons_succ, List.setIfInBounds_toArray, List.set_cons_zero, List.set_cons_succ])
  refine wpAnyH_take (i := 1) (v := ?v1_2) rfl (by kernel_rfl) (by kernel_rfl) (by kernel_rfl) (fun _ _ _ h => h) (Or.inl ⟨by rfl, ?hy1_2⟩) hHeld ?_
  case hy1_2 => (intro w hSw; (try dsimp only at hSw); have q0 := ld_cfg rt_rcfg hSw HC.out; (try simp only [List.getElem_toArray, List.getElem_cons_zero, List.getElem_cons_succ]); go_simp <;> with_reducible rfl)
  (try simp only [Act.put, List.getElem_toArray, List.getElem_cons_zero, List.getElem_cons_succ, List.setIfInBounds_toArray, List.set_cons_zero, List.set_cons_succ])
  refine wpAnyH_take (i := 2) (v := ?v2_3) rfl (by kernel_rfl) (by kernel_rfl) (by kernel_rfl) (fun _ _ _ h => h) (Or.inl ⟨by rfl, ?hy2_3⟩) hHeld ?_
  case hy2_3 => (intro w hSw; (try dsimp only at hSw); have q0 := ld_cfg rt_rcfg hSw HC.out; (try simp only [List.getElem_toArray, List.getElem_cons_zero, List.getElem_cons_succ]); go_simp <;> with_reducible rfl)
  (try simp only [Act.put, List.getElem_toArray, List.getElem_cons_zero, List.getElem_cons_succ, List.setIfInBounds_toArray, List.set_cons_zero, List.set_cons_succ])
  refine wpAnyH_take (i := 3) (v := ?v3_4) rfl (by kernel_rfl) (by kernel_rfl) (by kernel_rfl) (fun _ _ _ h => h) (Or.inl ⟨by rfl, ?hy3_4⟩) hHeld ?_
  case hy3_4 => (intro w hSw; (try dsimp only at hSw); have q0 := ld_cfg rt_rcfg hSw HC.out; (try simp only [List.getElem_toArray, List.getElem_cons_zero, List.getElem_cons_succ]); go_simp <;> with_reducible rfl)
  (try simp only [Act.put, List.getElem_toArray, List.getElem_cons_zero, List.getElem_cons_succ, List.setIfInBounds_toArray, List.set_cons_zero, List.set_cons_succ])
  refine wpAnyH_take (i := 4) (v := ?v4_5) rfl (by kernel_rfl) (by kernel_rfl) (by kernel_rfl) (fun _ _ _ h => h) (Or.inl ⟨by rfl, ?hy4_5⟩) hHeld ?_
  case hy4_5 => (intro w hSw; (try dsimp only at hSw); have q0 := ld_cfg rt_rcfg hSw HC.out; (try simp only [List.getElem_toArray, List.getElem_cons_zero, List.getElem_cons_succ]); go_simp <;> with_reducible rfl)
  (try simp only [Act.put, List.getElem_toArray, List.getElem_cons_zero, List.getElem_cons_succ, List.setIfInBounds_toArray, List.set_cons_zero, List.set_cons_succ])
  refine wpAnyH_take (i := 5) (v := ?v5_6) rfl (by kernel_rfl) (by kernel_rfl) (by kernel_rfl) (fun _ _ _ h => h) (Or.inl ⟨by rfl, ?hy5_6⟩) hHeld ?_
  case hy5_6 => (intro w hSw; (try dsimp only at hSw); have q0 := ld_cfg rt_rcfg hSw HC.out; (try simp only [List.getElem_toArray, List.getElem_cons_zero, List.getElem_cons_succ]); go_simp <;> with_reducible rfl)
  (try simp only [Act.put, List.getElem_toArray, List.getElem_cons_zero, List.getElem_cons_succ, List.setIfInBounds_toArray, List.set_cons_zero, List.set_cons_succ])
  have st := st_rcfg (o := 0) K6.out.b1 HC.out (r3_len (HS.out.g _) (HS.out.g _) (HS.out.g _)) (by decide)
  refine wpAnyH_ready (rs := [6]) (by kernel_rfl) (by simp) ?_
  refine AllReadyH.cons rfl (fun K hK => ?_) AllReadyH.nil
  (try simp only [List.getElem_toArray, List.getElem_cons_zero, List.getElem_cons_succ])
  go_simp
  have K7 := Lib.hid (K6.out.putAt 1 0 c.cells rfl (.inl (by simp)) (r3_put0 (HS.out.g 0) HC.out) rfl)
  clear st
  refine hK.out _ _ K7.out.b0 (fun hHeld => ?_)
  clear hK K
  (try simp only [Act.put, List.getElem_toArray, List.getElem_cons_zero, List.getElem_cons_succ, List.setIfInBounds_toArray, List.set_cons_zero, List.set_cons_succ])
  refine wpAnyH_done (by kernel_rfl) ?_ _
  clear hHeld HD
  go_wp2_with fail
  have K8 := Lib.hid K7.out.draw
  have HD := (K8.out.b1.cell 60).trans (r3_60 HC.out (HS.out.g 1) (HS.out.g 2) 3)
  refine wp_region_held_drew (S := fun w' => w'.cell? ⟨x, 60, none⟩ = some (.int .i64 (m : Int))) (by kernel_rfl) HD (fun hHeld => ?_)
  (try dsimp only at hHeld)
  refine wpAnyH_take (i := 0) (v := ?v0_7) rfl (by kernel_rfl) (by kernel_rfl) (by kernel_rfl) (fun _ _ _ h => h) (Or.inl ⟨by rfl, ?hy0_7⟩) hHeld ?_
  case hy0_7 => (intro w hSw; (try dsimp only at hSw); have q0 := hSw; (try simp only [List.getElem_toArray, List.getElem_cons_zero, List.getElem_cons_succ]); go_simp <;> with_reducible rfl)
  (try simp only [Act.put, List.getElem_toArray, List.getElem_cons_zero, List.getElem_cons_succ, List.setIfInBounds_toArray, List.set_cons_zero, List.set_cons_succ])
  refine wpAnyH_take (i := 1) (v := ?v1_8) rfl (by kernel_rfl) (by kernel_rfl) (by kernel_rfl) (fun _ _ _ h => h) (Or.inl ⟨by rfl, ?hy1_8⟩) hHeld ?_
  case hy1_8 => (intro w hSw; (try dsimp only at hSw); have q0 := hSw; (try simp only [List.getElem_toArray, List.getElem_cons_zero, List.getElem_cons_succ]); go_simp <;> with_reducible rfl)
  (try simp only [Act.put, List.getElem_toArray, List.getElem_cons_zero, List.getElem_cons_succ, List.setIfInBounds_toArray, List.set_cons_zero, List.set_cons_succ])
  refine wpAnyH_take (i := 2) (v := ?v2_9) rfl (by kernel_rfl) (by kernel_rfl) (by kernel_rfl) (fun _ _ _ h => h) (Or.inl ⟨by rfl, ?hy2_9⟩) hHeld ?_
  case hy2_9 => (intro w hSw; (try dsimp only at hSw); have q0 := hSw; (try simp only [List.getElem_toArray, List.getElem_cons_zero, List.getElem_cons_succ]); go_simp <;> with_reducible rfl)
  (try simp only [Act.put, List.getElem_toArray, List.getElem_cons_zero, List.getElem_cons_succ, List.setIfInBounds_toArray, List.set_cons_zero, List.set_cons_succ])
  refine wpAnyH_take (i := 3) (v := ?v3_10) rfl (by kernel_rfl) (by kernel_rfl) (by kernel_rfl) (fun _ _ _ h => h) (Or.inl ⟨by rfl, ?hy3_10⟩) hHeld ?_
  case hy3_10 => (intro w hSw; (try dsimp only at hSw); have q0 := hSw; (try simp only [List.getElem_toArray, List.getElem_cons_zero, List.getElem_cons_succ]); go_simp <;> with_reducible rfl)
  (try simp only [Act.put, List.getElem_toArray, List.getElem_cons_zero, List.getElem_cons_succ, List.setIfInBounds_toArray, List.set_cons_zero, List.set_cons_succ])
  refine wpAnyH_take (i := 4) (v := ?v4_11) rfl (by kernel_rfl) (by kernel_rfl) (by kernel_rfl) (fun _ _ _ h => h) (Or.inl ⟨by rfl, ?hy4_11⟩) hHeld ?_
  case hy4_11 => (intro w hSw; (try dsimp only at hSw); have q0 := hSw; (try simp only [List.getElem_toArray, List.getElem_cons_zero, List.getElem_cons_succ]); go_simp <;> with_reducible rfl)
  (try simp only [Act.put, List.getElem_toArray, List.getElem_cons_zero, List.getElem_cons_succ, List.setIfInBounds_toArray, List.set_cons_zero, List.set_cons_succ])
  refine wpAnyH_take (i := 5) (v := ?v5_12) rfl (by kernel_rfl) (by kernel_rfl) (by kernel_rfl) (fun _ _ _ h => h) (Or.inl ⟨by rfl, ?hy5_12⟩) hHeld ?_
  case hy5_12 => (intro w hSw; (try dsimp only at hSw); have q0 := hSw; (try simp only [List.getElem_toArray, List.getElem_cons_zero, List.getElem_cons_succ]); go_simp <;> with_reducible rfl)
  (try simp only [Act.put, List.getElem_toArray, List.getElem_cons_zero, List.getElem_cons_succ, List.setIfInBounds_toArray, List.set_cons_zero, List.set_cons_succ])
  refine wpAnyH_take (i := 6) (v := ?v6_13) rfl (by kernel_rfl) (by kernel_rfl) (by kernel_rfl) (fun _ _ _ h => h) (Or.inl ⟨by rfl, ?hy6_13⟩) hHeld ?_
  case hy6_13 => (intro w hSw; (try dsimp only at hSw); have q0 := hSw; (try simp only [List.getElem_toArray, List.getElem_cons_zero, List.getElem_cons_succ]); go_simp <;> with_reducible rfl)
  (try simp only [Act.put, List.getElem_toArray, List.getElem_cons_zero, List.getElem_cons_succ, List.setIfInBounds_toArray, List.set_cons_zero, List.set_cons_succ])
  refine wpAnyH_take (i := 7) (v := ?v7_14) rfl (by kernel_rfl) (by kernel_rfl) (by kernel_rfl) (fun _ _ _ h => h) (Or.inl ⟨by rfl, ?hy7_14⟩) hHeld ?_
  case hy7_14 => (intro w hSw; (try dsimp only at hSw); have q0 := hSw; (try simp only [List.getElem_toArray, List.getElem_cons_zero, List.getElem_cons_succ]); go_simp <;> with_reducible rfl)
  (try simp only [Act.put, List.getElem_toArray, List.getElem_cons_zero, List.getElem_cons_succ, List.setIfInBounds_toArray, List.set_cons_zero, List.set_cons_succ])
  refine wpAnyH_take (i := 8) (v := ?v8_15) rfl (by kernel_rfl) (by kernel_rfl) (by kernel_rfl) (fun _ _ _ h => h) (Or.inl ⟨by rfl, ?hy8_15⟩) hHeld ?_
  case hy8_15 => (intro w hSw; (try dsimp only at hSw); have q0 := hSw; (try simp only [List.getElem_toArray, List.getElem_cons_zero, List.getElem_cons_succ]); go_simp <;> with_reducible rfl)
  (try simp only [Act.put, List.getElem_toArray, List.getElem_cons_zero, List.getElem_cons_succ, List.setIfInBounds_toArray, List.set_cons_zero, List.set_cons_succ])
  have sf := K8.out.b1.free 57
  have sc := (K8.out.b1.cell 57).trans (r3_60 HC.out (HS.out.g 1) (HS.out.g 2) 0)
  refine wpAnyH_ready (rs := [9]) (by kernel_rfl) (by simp) ?_
  refine AllReadyH.cons rfl (fun K hK => ?_) AllReadyH.nil
  (try simp only [List.getElem_toArray, List.getElem_cons_zero, List.getElem_cons_succ])
  go_simp
  have K9 := Lib.hid (K8.out.set1 1 57 (.int .i64 (m : Int)) rfl (.inl (by simp)) (show _ = r3 c (s.row 1) (s.row 2) m (s.tm 1) (s.tm 2) m from r3_s0 HC.out (HS.out.g 1) (HS.out.g 2) m) rfl)
  clear sf sc
  refine hK.out _ _ ((K9.out.b1.cell 60).trans (r3_60 HC.out (HS.out.g 1) (HS.out.g 2) 3)) (fun hHeld => ?_)
  clear hK K
  (try simp only [Act.put, List.getElem_toArray, List.getElem_cons_zero, List.getElem_cons_succ, List.setIfInBounds_toArray, List.set_cons_zero, List.set_cons_succ])
  refine wpAnyH_done (by kernel_rfl) ?_ _
  clear hHeld HD
  go_wp2_with fail
  go_ret
  exact ret_s K9.out HE.out K9.out.b1 (by rw [HM.out]; exact (rSl_putS (k := 0) HS.out (by decide)).symm)
set_option maxRecDepth 100000 in
set_option maxHeartbeats 400000 in
theorem rinst_1 (s : Sl) (hs : s.ok) (hn : s.n ≤ 1000000) (x : Nat) (p : Int) (c : Cfg) (hc : c.ok) (w : World) (h : Blk 33 w x (rSl s)) (hp : p = 1) (hr : rtB c = true) (hh : hasS s p = false) :
    Calls Tryz.prog 26 #[.pointer (some ⟨x, 0, none⟩), .int .i64 p, c.val] w (RetS 33 x rSl (instS s p c) w) := by
  have HC := Lib.hid hc
  have HS := Lib.hid hs
  have K0 := Lib.hid ((VK.start [x] w).hold h (by simp))
  subst hp
  have HR := Lib.hid hr
  have HE := Lib.hid (inst_ok0 in_1 hr hh)
  rw [has_1] at hh
  obtain ⟨m, hm⟩ : ∃ m, m = s.n + 1 := ⟨_, rfl⟩
  have HM := Lib.hid hm
  clear hm
  clear h hs hc hr
  go_enter Tryz.func26, Tryz.ntmps26
  go_wp2_with (first | (refine wpList_boxB rfl 29 (.tmp 2) rfl c.cells (val_agg c) ?_; intro w1 q hc1 hb1 hx1; have K1 := Lib.hid (K0.out.new hb1 hx1 hc1); have HQ := Lib.hid (Nat.le_trans K0.out.oth.size hx1); have qc := ld_cfg rt_rcfg K1.out.b0 HC.out; clear hc1 hb1 hx1))
  refine (rmright_any c HC.out true (by exact HR.out) _).mono ?_
  rintro e w3 ⟨rfl, hb⟩
  have K2 := Lib.hid (K1.out.step hb)
  clear hb qc
  have qc := ld_cfg rt_rcfg K2.out.b0 HC.out
  have ht := r_t1 HS.out K2.out.b1
  have sn := r_n HS.out K2.out.b1
  have snf := K2.out.b1.free 60
  go_wp2_with fail
  rw [show (s.n : Int) + 1 = (m : Int) from (by rw [HM.out]; rfl)]
  have K5 := Lib.hid (K2.out.set1 1 60 (.int .i64 (m : Int)) rfl (.inl (by simp)) (show _ = r3 (s.row 0) (s.row 1) (s.row 2) (s.tm 0) (s.tm 1) (s.tm 2) m from (by rw [r_def s]; exact r3_s3 (HS.out.g 0) (HS.out.g 1) (HS.out.g 2) m)) rfl)
  have K6 := Lib.hid K5.out.draw
  have HD := K6.out.b0
  clear qc sn snf hn ht hh
  refine wp_region_held_drew (S := fun w' => Blk 29 w' q c.cells) (by kernel_rfl) HD (fun hHeld => ?_)
  (try dsimp only at hHeld)
  refine wpAnyH_take (i := 0) (v := ?v0_16) rfl (by kernel_rfl) (by kernel_rfl) (by kernel_rfl) (fun _ _ _ h => h) (Or.inl ⟨by rfl, ?hy0_16⟩) hHeld ?_
  case hy0_16 => (intro w hSw; (try dsimp only at hSw); have q0 := ld_cfg rt_rcfg hSw HC.out; (try simp only [List.getElem_toArray, List.getElem_cons_zero, List.getElem_cons_succ]); go_simp <;> with_reducible rfl)
  (try simp only [Act.put, List.getElem_toArray, List.getElem_cons_zero, List.getElem_cons_succ, List.setIfInBounds_toArray, List.set_cons_zero, List.set_cons_succ])
  refine wpAnyH_take (i := 1) (v := ?v1_17) rfl (by kernel_rfl) (by kernel_rfl) (by kernel_rfl) (fun _ _ _ h => h) (Or.inl ⟨by rfl, ?hy1_17⟩) hHeld ?_
  case hy1_17 => (intro w hSw; (try dsimp only at hSw); have q0 := ld_cfg rt_rcfg hSw HC.out; (try simp only [List.getElem_toArray, List.getElem_cons_zero, List.getElem_cons_succ]); go_simp <;> with_reducible rfl)
  (try simp only [Act.put, List.getElem_toArray, List.getElem_cons_zero, List.getElem_cons_succ, List.setIfInBounds_toArray, List.set_cons_zero, List.set_cons_succ])
  refine wpAnyH_take (i := 2) (v := ?v2_18) rfl (by kernel_rfl) (by kernel_rfl) (by kernel_rfl) (fun _ _ _ h => h) (Or.inl ⟨by rfl, ?hy2_18⟩) hHeld ?_
  case hy2_18 => (intro w hSw; (try dsimp only at hSw); have q0 := ld_cfg rt_rcfg hSw HC.out; (try simp only [List.getElem_toArray, List.getElem_cons_zero, List.getElem_cons_succ]); go_simp <;> with_reducible rfl)
  (try simp only [Act.put, List.getElem_toArray, List.getElem_cons_zero, List.getElem_cons_succ, List.setIfInBounds_toArray, List.set_cons_zero, List.set_cons_succ])
  refine wpAnyH_take (i := 3) (v := ?v3_19) rfl (by kernel_rfl) (by kernel_rfl) (by kernel_rfl) (fun _ _ _ h => h) (Or.inl ⟨by rfl, ?hy3_19⟩) hHeld ?_
  case hy3_19 => (intro w hSw; (try dsimp only at hSw); have q0 := ld_cfg rt_rcfg hSw HC.out; (try simp only [List.getElem_toArray, List.getElem_cons_zero, List.getElem_cons_succ]); go_simp <;> with_reducible rfl)
  (try simp only [Act.put, List.getElem_toArray, List.getElem_cons_zero, List.getElem_cons_succ, List.setIfInBounds_toArray, List.set_cons_zero, List.set_cons_succ])
  refine wpAnyH_take (i := 4) (v := ?v4_20) rfl (by kernel_rfl) (by kernel_rfl) (by kernel_rfl) (fun _ _ _ h => h) (Or.inl ⟨by rfl, ?hy4_20⟩) hHeld ?_
  case hy4_20 => (intro w hSw; (try dsimp only at hSw); have q0 := ld_cfg rt_rcfg hSw HC.out; (try simp only [List.getElem_toArray, List.getElem_cons_zero, List.getElem_cons_succ]); go_simp <;> with_reducible rfl)
  (try simp only [Act.put, List.getElem_toArray, List.getElem_cons_zero, List.getElem_cons_succ, List.setIfInBounds_toArray, List.set_cons_zero, List.set_cons_succ])
  refine wpAnyH_take (i := 5) (v := ?v5_21) rfl (by kernel_rfl) (by kernel_rfl) (by kernel_rfl) (fun _ _ _ h => h) (Or.inl ⟨by rfl, ?hy5_21⟩) hHeld ?_
  case hy5_21 => (intro w hSw; (try dsimp only at hSw); have q0 := ld_cfg rt_rcfg hSw HC.out; (try simp only [List.getElem_toArray, List.getElem_cons_zero, List.getElem_cons_succ]); go_simp <;> with_reducible rfl)
  (try simp only [Act.put, List.getElem_toArray, List.getElem_cons_zero, List.getElem_cons_succ, List.setIfInBounds_toArray, List.set_cons_zero, List.set_cons_succ])
  have st := st_rcfg (o := 19) K6.out.b1 HC.out (r3_len (HS.out.g _) (HS.out.g _) (HS.out.g _)) (by decide)
  refine wpAnyH_ready (rs := [6]) (by kernel_rfl) (by simp) ?_
  refine AllReadyH.cons rfl (fun K hK => ?_) AllReadyH.nil
  (try simp only [List.getElem_toArray, List.getElem_cons_zero, List.getElem_cons_succ])
  go_simp
  have K7 := Lib.hid (K6.out.putAt 1 19 c.cells rfl (.inl (by simp)) (r3_put1 (HS.out.g 0) (HS.out.g 1) HC.out) rfl)
  clear st
  refine hK.out _ _ K7.out.b0 (fun hHeld => ?_)
  clear hK K
  (try simp only [Act.put, List.getElem_toArray, List.getElem_cons_zero, List.getElem_cons_succ, List.setIfInBounds_toArray, List.set_cons_zero, List.set_cons_succ])
  refine wpAnyH_done (by kernel_rfl) ?_ _
  clear hHeld HD
  go_wp2_with fail
  have K8 := Lib.hid K7.out.draw
  have HD := (K8.out.b1.cell 60).trans (r3_60 (HS.out.g 0) HC.out (HS.out.g 2) 3)
  refine wp_region_held_drew (S := fun w' => w'.cell? ⟨x, 60, none⟩ = some (.int .i64 (m : Int))) (by kernel_rfl) HD (fun hHeld => ?_)
  (try dsimp only at hHeld)
  refine wpAnyH_take (i := 0) (v := ?v0_22) rfl (by kernel_rfl) (by kernel_rfl) (by kernel_rfl) (fun _ _ _ h => h) (Or.inl ⟨by rfl, ?hy0_22⟩) hHeld ?_
  case hy0_22 => (intro w hSw; (try dsimp only at hSw); have q0 := hSw; (try simp only [List.getElem_toArray, List.getElem_cons_zero, List.getElem_cons_succ]); go_simp <;> with_reducible rfl)
  (try simp only [Act.put, List.getElem_toArray, List.getElem_cons_zero, List.getElem_cons_succ, List.setIfInBounds_toArray, List.set_cons_zero, List.set_cons_succ])
  refine wpAnyH_take (i := 1) (v := ?v1_23) rfl (by kernel_rfl) (by kernel_rfl) (by kernel_rfl) (fun _ _ _ h => h) (Or.inl ⟨by rfl, ?hy1_23⟩) hHeld ?_
  case hy1_23 => (intro w hSw; (try dsimp only at hSw); have q0 := hSw; (try simp only [List.getElem_toArray, List.getElem_cons_zero, List.getElem_cons_succ]); go_simp <;> with_reducible rfl)
  (try simp only [Act.put, List.getElem_toArray, List.getElem_cons_zero, List.getElem_cons_succ, List.setIfInBounds_toArray, List.set_cons_zero, List.set_cons_succ])
  refine wpAnyH_take (i := 2) (v := ?v2_24) rfl (by kernel_rfl) (by kernel_rfl) (by kernel_rfl) (fun _ _ _ h => h) (Or.inl ⟨by rfl, ?hy2_24⟩) hHeld ?_
  case hy2_24 => (intro w hSw; (try dsimp only at hSw); have q0 := hSw; (try simp only [List.getElem_toArray, List.getElem_cons_zero, List.getElem_cons_succ]); go_simp <;> with_reducible rfl)
  (try simp only [Act.put, List.getElem_toArray, List.getElem_cons_zero, List.getElem_cons_succ, List.setIfInBounds_toArray, List.set_cons_zero, List.set_cons_succ])
  refine wpAnyH_take (i := 3) (v := ?v3_25) rfl (by kernel_rfl) (by kernel_rfl) (by kernel_rfl) (fun _ _ _ h => h) (Or.inl ⟨by rfl, ?hy3_25⟩) hHeld ?_
  case hy3_25 => (intro w hSw; (try dsimp only at hSw); have q0 := hSw; (try simp only [List.getElem_toArray, List.getElem_cons_zero, List.getElem_cons_succ]); go_simp <;> with_reducible rfl)
  (try simp only [Act.put, List.getElem_toArray, List.getElem_cons_zero, List.getElem_cons_succ, List.setIfInBounds_toArray, List.set_cons_zero, List.set_cons_succ])
  refine wpAnyH_take (i := 4) (v := ?v4_26) rfl (by kernel_rfl) (by kernel_rfl) (by kernel_rfl) (fun _ _ _ h => h) (Or.inl ⟨by rfl, ?hy4_26⟩) hHeld ?_
  case hy4_26 => (intro w hSw; (try dsimp only at hSw); have q0 := hSw; (try simp only [List.getElem_toArray, List.getElem_cons_zero, List.getElem_cons_succ]); go_simp <;> with_reducible rfl)
  (try simp only [Act.put, List.getElem_toArray, List.getElem_cons_zero, List.getElem_cons_succ, List.setIfInBounds_toArray, List.set_cons_zero, List.set_cons_succ])
  refine wpAnyH_take (i := 5) (v := ?v5_27) rfl (by kernel_rfl) (by kernel_rfl) (by kernel_rfl) (fun _ _ _ h => h) (Or.inl ⟨by rfl, ?hy5_27⟩) hHeld ?_
  case hy5_27 => (intro w hSw; (try dsimp only at hSw); have q0 := hSw; (try simp only [List.getElem_toArray, List.getElem_cons_zero, List.getElem_cons_succ]); go_simp <;> with_reducible rfl)
  (try simp only [Act.put, List.getElem_toArray, List.getElem_cons_zero, List.getElem_cons_succ, List.setIfInBounds_toArray, List.set_cons_zero, List.set_cons_succ])
  refine wpAnyH_take (i := 6) (v := ?v6_28) rfl (by kernel_rfl) (by kernel_rfl) (by kernel_rfl) (fun _ _ _ h => h) (Or.inl ⟨by rfl, ?hy6_28⟩) hHeld ?_
  case hy6_28 => (intro w hSw; (try dsimp only at hSw); have q0 := hSw; (try simp only [List.getElem_toArray, List.getElem_cons_zero, List.getElem_cons_succ]); go_simp <;> with_reducible rfl)
  (try simp only [Act.put, List.getElem_toArray, List.getElem_cons_zero, List.getElem_cons_succ, List.setIfInBounds_toArray, List.set_cons_zero, List.set_cons_succ])
  refine wpAnyH_take (i := 7) (v := ?v7_29) rfl (by kernel_rfl) (by kernel_rfl) (by kernel_rfl) (fun _ _ _ h => h) (Or.inl ⟨by rfl, ?hy7_29⟩) hHeld ?_
  case hy7_29 => (intro w hSw; (try dsimp only at hSw); have q0 := hSw; (try simp only [List.getElem_toArray, List.getElem_cons_zero, List.getElem_cons_succ]); go_simp <;> with_reducible rfl)
  (try simp only [Act.put, List.getElem_toArray, List.getElem_cons_zero, List.getElem_cons_succ, List.setIfInBounds_toArray, List.set_cons_zero, List.set_cons_succ])
  refine wpAnyH_take (i := 8) (v := ?v8_30) rfl (by kernel_rfl) (by kernel_rfl) (by kernel_rfl) (fun _ _ _ h => h) (Or.inl ⟨by rfl, ?hy8_30⟩) hHeld ?_
  case hy8_30 => (intro w hSw; (try dsimp only at hSw); have q0 := hSw; (try simp only [List.getElem_toArray, List.getElem_cons_zero, List.getElem_cons_succ]); go_simp <;> with_reducible rfl)
  (try simp only [Act.put, List.getElem_toArray, List.getElem_cons_zero, List.getElem_cons_succ, List.setIfInBounds_toArray, List.set_cons_zero, List.set_cons_succ])
  have sf := K8.out.b1.free 58
  have sc := (K8.out.b1.cell 58).trans (r3_60 (HS.out.g 0) HC.out (HS.out.g 2) 1)
  refine wpAnyH_ready (rs := [9]) (by kernel_rfl) (by simp) ?_
  refine AllReadyH.cons rfl (fun K hK => ?_) AllReadyH.nil
  (try simp only [List.getElem_toArray, List.getElem_cons_zero, List.getElem_cons_succ])
  go_simp
  have K9 := Lib.hid (K8.out.set1 1 58 (.int .i64 (m : Int)) rfl (.inl (by simp)) (show _ = r3 (s.row 0) c (s.row 2) (s.tm 0) m (s.tm 2) m from r3_s1 (HS.out.g 0) HC.out (HS.out.g 2) m) rfl)
  clear sf sc
  refine hK.out _ _ ((K9.out.b1.cell 60).trans (r3_60 (HS.out.g 0) HC.out (HS.out.g 2) 3)) (fun hHeld => ?_)
  clear hK K
  (try simp only [Act.put, List.getElem_toArray, List.getElem_cons_zero, List.getElem_cons_succ, List.setIfInBounds_toArray, List.set_cons_zero, List.set_cons_succ])
  refine wpAnyH_done (by kernel_rfl) ?_ _
  clear hHeld HD
  go_wp2_with fail
  go_ret
  exact ret_s K9.out HE.out K9.out.b1 (by rw [HM.out]; exact (rSl_putS (k := 1) HS.out (by decide)).symm)
set_option maxRecDepth 100000 in
set_option maxHeartbeats 400000 in
theorem rinst_2 (s : Sl) (hs : s.ok) (hn : s.n ≤ 1000000) (x : Nat) (p : Int) (c : Cfg) (hc : c.ok) (w : World) (h : Blk 33 w x (rSl s)) (hp : p = 2) (hr : rtB c = true) (hh : hasS s p = false) :
    Calls Tryz.prog 26 #[.pointer (some ⟨x, 0, none⟩), .int .i64 p, c.val] w (RetS 33 x rSl (instS s p c) w) := by
  have HC := Lib.hid hc
  have HS := Lib.hid hs
  have K0 := Lib.hid ((VK.start [x] w).hold h (by simp))
  subst hp
  have HR := Lib.hid hr
  have HE := Lib.hid (inst_ok0 in_2 hr hh)
  rw [has_2] at hh
  obtain ⟨m, hm⟩ : ∃ m, m = s.n + 1 := ⟨_, rfl⟩
  have HM := Lib.hid hm
  clear hm
  clear h hs hc hr
  go_enter Tryz.func26, Tryz.ntmps26
  go_wp2_with (first | (refine wpList_boxB rfl 29 (.tmp 2) rfl c.cells (val_agg c) ?_; intro w1 q hc1 hb1 hx1; have K1 := Lib.hid (K0.out.new hb1 hx1 hc1); have HQ := Lib.hid (Nat.le_trans K0.out.oth.size hx1); have qc := ld_cfg rt_rcfg K1.out.b0 HC.out; clear hc1 hb1 hx1))
  refine (rmright_any c HC.out true (by exact HR.out) _).mono ?_
  rintro e w3 ⟨rfl, hb⟩
  have K2 := Lib.hid (K1.out.step hb)
  clear hb qc
  have qc := ld_cfg rt_rcfg K2.out.b0 HC.out
  have ht := r_t2 HS.out K2.out.b1
  have sn := r_n HS.out K2.out.b1
  have snf := K2.out.b1.free 60
  go_wp2_with fail
  rw [show (s.n : Int) + 1 = (m : Int) from (by rw [HM.out]; rfl)]
  have K5 := Lib.hid (K2.out.set1 1 60 (.int .i64 (m : Int)) rfl (.inl (by simp)) (show _ = r3 (s.row 0) (s.row 1) (s.row 2) (s.tm 0) (s.tm 1) (s.tm 2) m from (by rw [r_def s]; exact r3_s3 (HS.out.g 0) (HS.out.g 1) (HS.out.g 2) m)) rfl)
  have K6 := Lib.hid K5.out.draw
  have HD := K6.out.b0
  clear qc sn snf hn ht hh
  refine wp_region_held_drew (S := fun w' => Blk 29 w' q c.cells) (by kernel_rfl) HD (fun hHeld => ?_)
  (try dsimp only at hHeld)
  refine wpAnyH_take (i := 0) (v := ?v0_31) rfl (by kernel_rfl) (by kernel_rfl) (by kernel_rfl) (fun _ _ _ h => h) (Or.inl ⟨by rfl, ?hy0_31⟩) hHeld ?_
  case hy0_31 => (intro w hSw; (try dsimp only at hSw); have q0 := ld_cfg rt_rcfg hSw HC.out; (try simp only [List.getElem_toArray, List.getElem_cons_zero, List.getElem_cons_succ]); go_simp <;> with_reducible rfl)
  (try simp only [Act.put, List.getElem_toArray, List.getElem_cons_zero, List.getElem_cons_succ, List.setIfInBounds_toArray, List.set_cons_zero, List.set_cons_succ])
  refine wpAnyH_take (i := 1) (v := ?v1_32) rfl (by kernel_rfl) (by kernel_rfl) (by kernel_rfl) (fun _ _ _ h => h) (Or.inl ⟨by rfl, ?hy1_32⟩) hHeld ?_
  case hy1_32 => (intro w hSw; (try dsimp only at hSw); have q0 := ld_cfg rt_rcfg hSw HC.out; (try simp only [List.getElem_toArray, List.getElem_cons_zero, List.getElem_cons_succ]); go_simp <;> with_reducible rfl)
  (try simp only [Act.put, List.getElem_toArray, List.getElem_cons_zero, List.getElem_cons_succ, List.setIfInBounds_toArray, List.set_cons_zero, List.set_cons_succ])
  refine wpAnyH_take (i := 2) (v := ?v2_33) rfl (by kernel_rfl) (by kernel_rfl) (by kernel_rfl) (fun _ _ _ h => h) (Or.inl ⟨by rfl, ?hy2_33⟩) hHeld ?_
  case hy2_33 => (intro w hSw; (try dsimp only at hSw); have q0 := ld_cfg rt_rcfg hSw HC.out; (try simp only [List.getElem_toArray, List.getElem_cons_zero, List.getElem_cons_succ]); go_simp <;> with_reducible rfl)
  (try simp only [Act.put, List.getElem_toArray, List.getElem_cons_zero, List.getElem_cons_succ, List.setIfInBounds_toArray, List.set_cons_zero, List.set_cons_succ])
  refine wpAnyH_take (i := 3) (v := ?v3_34) rfl (by kernel_rfl) (by kernel_rfl) (by kernel_rfl) (fun _ _ _ h => h) (Or.inl ⟨by rfl, ?hy3_34⟩) hHeld ?_
  case hy3_34 => (intro w hSw; (try dsimp only at hSw); have q0 := ld_cfg rt_rcfg hSw HC.out; (try simp only [List.getElem_toArray, List.getElem_cons_zero, List.getElem_cons_succ]); go_simp <;> with_reducible rfl)
  (try simp only [Act.put, List.getElem_toArray, List.getElem_cons_zero, List.getElem_cons_succ, List.setIfInBounds_toArray, List.set_cons_zero, List.set_cons_succ])
  refine wpAnyH_take (i := 4) (v := ?v4_35) rfl (by kernel_rfl) (by kernel_rfl) (by kernel_rfl) (fun _ _ _ h => h) (Or.inl ⟨by rfl, ?hy4_35⟩) hHeld ?_
  case hy4_35 => (intro w hSw; (try dsimp only at hSw); have q0 := ld_cfg rt_rcfg hSw HC.out; (try simp only [List.getElem_toArray, List.getElem_cons_zero, List.getElem_cons_succ]); go_simp <;> with_reducible rfl)
  (try simp only [Act.put, List.getElem_toArray, List.getElem_cons_zero, List.getElem_cons_succ, List.setIfInBounds_toArray, List.set_cons_zero, List.set_cons_succ])
  refine wpAnyH_take (i := 5) (v := ?v5_36) rfl (by kernel_rfl) (by kernel_rfl) (by kernel_rfl) (fun _ _ _ h => h) (Or.inl ⟨by rfl, ?hy5_36⟩) hHeld ?_
  case hy5_36 => (intro w hSw; (try dsimp only at hSw); have q0 := ld_cfg rt_rcfg hSw HC.out; (try simp only [List.getElem_toArray, List.getElem_cons_zero, List.getElem_cons_succ]); go_simp <;> with_reducible rfl)
  (try simp only [Act.put, List.getElem_toArray, List.getElem_cons_zero, List.getElem_cons_succ, List.setIfInBounds_toArray, List.set_cons_zero, List.set_cons_succ])
  have st := st_rcfg (o := 38) K6.out.b1 HC.out (r3_len (HS.out.g _) (HS.out.g _) (HS.out.g _)) (by decide)
  refine wpAnyH_ready (rs := [6]) (by kernel_rfl) (by simp) ?_
  refine AllReadyH.cons rfl (fun K hK => ?_) AllReadyH.nil
  (try simp only [List.getElem_toArray, List.getElem_cons_zero, List.getElem_cons_succ])
  go_simp
  have K7 := Lib.hid (K6.out.putAt 1 38 c.cells rfl (.inl (by simp)) (r3_put2 (HS.out.g 0) (HS.out.g 1) (HS.out.g 2) HC.out) rfl)
  clear st
  refine hK.out _ _ K7.out.b0 (fun hHeld => ?_)
  clear hK K
  (try simp only [Act.put, List.getElem_toArray, List.getElem_cons_zero, List.getElem_cons_succ, List.setIfInBounds_toArray, List.set_cons_zero, List.set_cons_succ])
  refine wpAnyH_done (by kernel_rfl) ?_ _
  clear hHeld HD
  go_wp2_with fail
  have K8 := Lib.hid K7.out.draw
  have HD := (K8.out.b1.cell 60).trans (r3_60 (HS.out.g 0) (HS.out.g 1) HC.out 3)
  refine wp_region_held_drew (S := fun w' => w'.cell? ⟨x, 60, none⟩ = some (.int .i64 (m : Int))) (by kernel_rfl) HD (fun hHeld => ?_)
  (try dsimp only at hHeld)
  refine wpAnyH_take (i := 0) (v := ?v0_37) rfl (by kernel_rfl) (by kernel_rfl) (by kernel_rfl) (fun _ _ _ h => h) (Or.inl ⟨by rfl, ?hy0_37⟩) hHeld ?_
  case hy0_37 => (intro w hSw; (try dsimp only at hSw); have q0 := hSw; (try simp only [List.getElem_toArray, List.getElem_cons_zero, List.getElem_cons_succ]); go_simp <;> with_reducible rfl)
  (try simp only [Act.put, List.getElem_toArray, List.getElem_cons_zero, List.getElem_cons_succ, List.setIfInBounds_toArray, List.set_cons_zero, List.set_cons_succ])
  refine wpAnyH_take (i := 1) (v := ?v1_38) rfl (by kernel_rfl) (by kernel_rfl) (by kernel_rfl) (fun _ _ _ h => h) (Or.inl ⟨by rfl, ?hy1_38⟩) hHeld ?_
  case hy1_38 => (intro w hSw; (try dsimp only at hSw); have q0 := hSw; (try simp only [List.getElem_toArray, List.getElem_cons_zero, List.getElem_cons_succ]); go_simp <;> with_reducible rfl)
  (try simp only [Act.put, List.getElem_toArray, List.getElem_cons_zero, List.getElem_cons_succ, List.setIfInBounds_toArray, List.set_cons_zero, List.set_cons_succ])
  refine wpAnyH_take (i := 2) (v := ?v2_39) rfl (by kernel_rfl) (by kernel_rfl) (by kernel_rfl) (fun _ _ _ h => h) (Or.inl ⟨by rfl, ?hy2_39⟩) hHeld ?_
  case hy2_39 => (intro w hSw; (try dsimp only at hSw); have q0 := hSw; (try simp only [List.getElem_toArray, List.getElem_cons_zero, List.getElem_cons_succ]); go_simp <;> with_reducible rfl)
  (try simp only [Act.put, List.getElem_toArray, List.getElem_cons_zero, List.getElem_cons_succ, List.setIfInBounds_toArray, List.set_cons_zero, List.set_cons_succ])
  refine wpAnyH_take (i := 3) (v := ?v3_40) rfl (by kernel_rfl) (by kernel_rfl) (by kernel_rfl) (fun _ _ _ h => h) (Or.inl ⟨by rfl, ?hy3_40⟩) hHeld ?_
  case hy3_40 => (intro w hSw; (try dsimp only at hSw); have q0 := hSw; (try simp only [List.getElem_toArray, List.getElem_cons_zero, List.getElem_cons_succ]); go_simp <;> with_reducible rfl)
  (try simp only [Act.put, List.getElem_toArray, List.getElem_cons_zero, List.getElem_cons_succ, List.setIfInBounds_toArray, List.set_cons_zero, List.set_cons_succ])
  refine wpAnyH_take (i := 4) (v := ?v4_41) rfl (by kernel_rfl) (by kernel_rfl) (by kernel_rfl) (fun _ _ _ h => h) (Or.inl ⟨by rfl, ?hy4_41⟩) hHeld ?_
  case hy4_41 => (intro w hSw; (try dsimp only at hSw); have q0 := hSw; (try simp only [List.getElem_toArray, List.getElem_cons_zero, List.getElem_cons_succ]); go_simp <;> with_reducible rfl)
  (try simp only [Act.put, List.getElem_toArray, List.getElem_cons_zero, List.getElem_cons_succ, List.setIfInBounds_toArray, List.set_cons_zero, List.set_cons_succ])
  refine wpAnyH_take (i := 5) (v := ?v5_42) rfl (by kernel_rfl) (by kernel_rfl) (by kernel_rfl) (fun _ _ _ h => h) (Or.inl ⟨by rfl, ?hy5_42⟩) hHeld ?_
  case hy5_42 => (intro w hSw; (try dsimp only at hSw); have q0 := hSw; (try simp only [List.getElem_toArray, List.getElem_cons_zero, List.getElem_cons_succ]); go_simp <;> with_reducible rfl)
  (try simp only [Act.put, List.getElem_toArray, List.getElem_cons_zero, List.getElem_cons_succ, List.setIfInBounds_toArray, List.set_cons_zero, List.set_cons_succ])
  refine wpAnyH_take (i := 6) (v := ?v6_43) rfl (by kernel_rfl) (by kernel_rfl) (by kernel_rfl) (fun _ _ _ h => h) (Or.inl ⟨by rfl, ?hy6_43⟩) hHeld ?_
  case hy6_43 => (intro w hSw; (try dsimp only at hSw); have q0 := hSw; (try simp only [List.getElem_toArray, List.getElem_cons_zero, List.getElem_cons_succ]); go_simp <;> with_reducible rfl)
  (try simp only [Act.put, List.getElem_toArray, List.getElem_cons_zero, List.getElem_cons_succ, List.setIfInBounds_toArray, List.set_cons_zero, List.set_cons_succ])
  refine wpAnyH_take (i := 7) (v := ?v7_44) rfl (by kernel_rfl) (by kernel_rfl) (by kernel_rfl) (fun _ _ _ h => h) (Or.inl ⟨by rfl, ?hy7_44⟩) hHeld ?_
  case hy7_44 => (intro w hSw; (try dsimp only at hSw); have q0 := hSw; (try simp only [List.getElem_toArray, List.getElem_cons_zero, List.getElem_cons_succ]); go_simp <;> with_reducible rfl)
  (try simp only [Act.put, List.getElem_toArray, List.getElem_cons_zero, List.getElem_cons_succ, List.setIfInBounds_toArray, List.set_cons_zero, List.set_cons_succ])
  refine wpAnyH_take (i := 8) (v := ?v8_45) rfl (by kernel_rfl) (by kernel_rfl) (by kernel_rfl) (fun _ _ _ h => h) (Or.inl ⟨by rfl, ?hy8_45⟩) hHeld ?_
  case hy8_45 => (intro w hSw; (try dsimp only at hSw); have q0 := hSw; (try simp only [List.getElem_toArray, List.getElem_cons_zero, List.getElem_cons_succ]); go_simp <;> with_reducible rfl)
  (try simp only [Act.put, List.getElem_toArray, List.getElem_cons_zero, List.getElem_cons_succ, List.setIfInBounds_toArray, List.set_cons_zero, List.set_cons_succ])
  have sf := K8.out.b1.free 59
  have sc := (K8.out.b1.cell 59).trans (r3_60 (HS.out.g 0) (HS.out.g 1) HC.out 2)
  refine wpAnyH_ready (rs := [9]) (by kernel_rfl) (by simp) ?_
  refine AllReadyH.cons rfl (fun K hK => ?_) AllReadyH.nil
  (try simp only [List.getElem_toArray, List.getElem_cons_zero, List.getElem_cons_succ])
  go_simp
  have K9 := Lib.hid (K8.out.set1 1 59 (.int .i64 (m : Int)) rfl (.inl (by simp)) (show _ = r3 (s.row 0) (s.row 1) c (s.tm 0) (s.tm 1) m m from r3_s2 (HS.out.g 0) (HS.out.g 1) HC.out m) rfl)
  clear sf sc
  refine hK.out _ _ ((K9.out.b1.cell 60).trans (r3_60 (HS.out.g 0) (HS.out.g 1) HC.out 3)) (fun hHeld => ?_)
  clear hK K
  (try simp only [Act.put, List.getElem_toArray, List.getElem_cons_zero, List.getElem_cons_succ, List.setIfInBounds_toArray, List.set_cons_zero, List.set_cons_succ])
  refine wpAnyH_done (by kernel_rfl) ?_ _
  clear hHeld HD
  go_wp2_with fail
  go_ret
  exact ret_s K9.out HE.out K9.out.b1 (by rw [HM.out]; exact (rSl_putS (k := 2) HS.out (by decide)).symm)
theorem rinst_any (s : Sl) (hs : s.ok) (hn : s.n ≤ 1000000) (x : Nat) (p : Int) (c : Cfg) (hc : c.ok) (w : World) (h : Blk 33 w x (rSl s)) :
    Calls Tryz.prog 26 #[.pointer (some ⟨x, 0, none⟩), .int .i64 p, c.val] w (RetS 33 x rSl (instS s p c) w) := by
  cases hv : inB p
  · by_cases h0 : p < 0
    · exact rinst_neg s hs hn x p c hc w h h0
    · refine rinst_big s hs hn x p c hc w h ?_
      unfold inB at hv; rw [decide_eq_false_iff_not] at hv; omega
  cases hr : rtB c
  · exact rinst_bad s hs hn x p c hc w h hv hr
  cases hh : hasS s p
  · rcases in_cases hv with e | e | e
    · exact rinst_0 s hs hn x p c hc w h e hr hh
    · exact rinst_1 s hs hn x p c hc w h e hr hh
    · exact rinst_2 s hs hn x p c hc w h e hr hh
  · rcases in_cases hv with e | e | e
    · exact rinst_has0 s hs hn x p c hc w h e hr hh
    · exact rinst_has1 s hs hn x p c hc w h e hr hh
    · exact rinst_has2 s hs hn x p c hc w h e hr hh
set_option maxRecDepth 100000 in
set_option maxHeartbeats 400000 in
theorem rret_neg (s : Sl) (hs : s.ok) (x : Nat) (p : Int) (w : World) (h : Blk 33 w x (rSl s)) (h0 : p < 0) :
    Calls Tryz.prog 28 #[.pointer (some ⟨x, 0, none⟩), .int .i64 p] w (RetS 33 x rSl (retS s p) w) := by
  have HS := Lib.hid hs
  have K0 := Lib.hid ((VK.start [x] w).hold h (by simp))
  have d0 : decide (p < 0) = true := decide_eq_true h0
  have HE := Lib.hid (ret_range (s := s) (p := p) (by unfold inB; exact decide_eq_false (by omega)))
  clear h hs h0
  go_enter Tryz.func28, Tryz.ntmps28
  go_wp2_with fail
  go_ret
  exact ret_s K0.out HE.out K0.out.b0 rfl
set_option maxRecDepth 100000 in
set_option maxHeartbeats 400000 in
theorem rret_big (s : Sl) (hs : s.ok) (x : Nat) (p : Int) (w : World) (h : Blk 33 w x (rSl s)) (h0 : 2 < p) :
    Calls Tryz.prog 28 #[.pointer (some ⟨x, 0, none⟩), .int .i64 p] w (RetS 33 x rSl (retS s p) w) := by
  have HS := Lib.hid hs
  have K0 := Lib.hid ((VK.start [x] w).hold h (by simp))
  have d0 : decide (p < 0) = false := decide_eq_false (by omega)
  have d2 : decide (2 < p) = true := decide_eq_true h0
  have HE := Lib.hid (ret_range (s := s) (p := p) (by unfold inB; exact decide_eq_false (by omega)))
  clear h hs h0
  go_enter Tryz.func28, Tryz.ntmps28
  go_wp2_with fail
  go_ret
  exact ret_s K0.out HE.out K0.out.b0 rfl
set_option maxRecDepth 100000 in
set_option maxHeartbeats 400000 in
theorem rret_em0 (s : Sl) (hs : s.ok) (x : Nat) (p : Int) (w : World) (h : Blk 33 w x (rSl s)) (hp : p = 0) (hh : hasS s p = false) :
    Calls Tryz.prog 28 #[.pointer (some ⟨x, 0, none⟩), .int .i64 p] w (RetS 33 x rSl (retS s p) w) := by
  have HS := Lib.hid hs
  have K0 := Lib.hid ((VK.start [x] w).hold h (by simp))
  subst hp
  have HE := Lib.hid (ret_none in_0 hh)
  rw [has_0] at hh
  have ht := r_t0 hs h
  have e0 : ((s.tm 0 : Int) == 0) = true := by rw [beq_iff_eq]; have := of_decide_eq_false hh; omega
  clear h hs hh
  have e1 : (s.tm 0 == 0) = true := by rw [beq_iff_eq] at e0 ⊢; omega
  go_enter Tryz.func28, Tryz.ntmps28
  go_wp2_with fail
  go_ret
  exact ret_s K0.out HE.out K0.out.b0 rfl
set_option maxRecDepth 100000 in
set_option maxHeartbeats 400000 in
theorem rret_0 (s : Sl) (hs : s.ok) (x : Nat) (p : Int) (w : World) (h : Blk 33 w x (rSl s)) (hp : p = 0) (hh : hasS s p = true) :
    Calls Tryz.prog 28 #[.pointer (some ⟨x, 0, none⟩), .int .i64 p] w (RetS 33 x rSl (retS s p) w) := by
  have HS := Lib.hid hs
  have K0 := Lib.hid ((VK.start [x] w).hold h (by simp))
  subst hp
  have HE := Lib.hid (ret_ok0 in_0 hh)
  rw [has_0] at hh
  have ht := r_t0 hs h
  have e0 : ((s.tm 0 : Int) == 0) = false := by rw [beq_eq_false_iff_ne]; have := of_decide_eq_true hh; omega
  clear h hs hh
  have e1 : (s.tm 0 == 0) = false := by rw [beq_eq_false_iff_ne] at e0 ⊢; omega
  go_enter Tryz.func28, Tryz.ntmps28
  go_wp2_with (first | (refine wpList_stB rt_rcfg rfl (.tmp 23) (.tmp 20) rfl x 0 rfl (rSl s) zeroC.cells zero_lit (cells_one zeroC) rfl (by exact K0.out.b0) (by rw [rSl_len HS.out, zeroC_len]; decide) ?_; intro w6 hc2 ho2 hs2; have K5 := Lib.hid (K0.out.put 0 rfl (.inl (by simp)) ho2 (by rw [r_def, r3_put0 (HS.out.g 0) zeroC_ok] at hc2; exact hc2) rfl); have sf := K5.out.b0.free 57; have sc := (K5.out.b0.cell 57).trans (r3_60 zeroC_ok (HS.out.g 1) (HS.out.g 2) 0); clear hc2 ho2 hs2 ht))
  have K6 := Lib.hid (K5.out.set1 0 57 (.int .i64 ((0 : Nat) : Int)) rfl (.inl (by simp)) (show _ = r3 zeroC (s.row 1) (s.row 2) 0 (s.tm 1) (s.tm 2) s.n from r3_s0 zeroC_ok (HS.out.g 1) (HS.out.g 2) 0) rfl)
  go_ret
  exact ret_s K6.out HE.out K6.out.b0 (rSl_offS (k := 0) HS.out (by decide)).symm
set_option maxRecDepth 100000 in
set_option maxHeartbeats 400000 in
theorem rret_em1 (s : Sl) (hs : s.ok) (x : Nat) (p : Int) (w : World) (h : Blk 33 w x (rSl s)) (hp : p = 1) (hh : hasS s p = false) :
    Calls Tryz.prog 28 #[.pointer (some ⟨x, 0, none⟩), .int .i64 p] w (RetS 33 x rSl (retS s p) w) := by
  have HS := Lib.hid hs
  have K0 := Lib.hid ((VK.start [x] w).hold h (by simp))
  subst hp
  have HE := Lib.hid (ret_none in_1 hh)
  rw [has_1] at hh
  have ht := r_t1 hs h
  have e0 : ((s.tm 1 : Int) == 0) = true := by rw [beq_iff_eq]; have := of_decide_eq_false hh; omega
  clear h hs hh
  have e1 : (s.tm 1 == 0) = true := by rw [beq_iff_eq] at e0 ⊢; omega
  go_enter Tryz.func28, Tryz.ntmps28
  go_wp2_with fail
  go_ret
  exact ret_s K0.out HE.out K0.out.b0 rfl
set_option maxRecDepth 100000 in
set_option maxHeartbeats 400000 in
theorem rret_1 (s : Sl) (hs : s.ok) (x : Nat) (p : Int) (w : World) (h : Blk 33 w x (rSl s)) (hp : p = 1) (hh : hasS s p = true) :
    Calls Tryz.prog 28 #[.pointer (some ⟨x, 0, none⟩), .int .i64 p] w (RetS 33 x rSl (retS s p) w) := by
  have HS := Lib.hid hs
  have K0 := Lib.hid ((VK.start [x] w).hold h (by simp))
  subst hp
  have HE := Lib.hid (ret_ok0 in_1 hh)
  rw [has_1] at hh
  have ht := r_t1 hs h
  have e0 : ((s.tm 1 : Int) == 0) = false := by rw [beq_eq_false_iff_ne]; have := of_decide_eq_true hh; omega
  clear h hs hh
  have e1 : (s.tm 1 == 0) = false := by rw [beq_eq_false_iff_ne] at e0 ⊢; omega
  go_enter Tryz.func28, Tryz.ntmps28
  go_wp2_with (first | (refine wpList_stB rt_rcfg rfl (.tmp 23) (.tmp 20) rfl x 19 rfl (rSl s) zeroC.cells zero_lit (cells_one zeroC) rfl (by exact K0.out.b0) (by rw [rSl_len HS.out, zeroC_len]; decide) ?_; intro w6 hc2 ho2 hs2; have K5 := Lib.hid (K0.out.put 0 rfl (.inl (by simp)) ho2 (by rw [r_def, r3_put1 (HS.out.g 0) (HS.out.g 1) zeroC_ok] at hc2; exact hc2) rfl); have sf := K5.out.b0.free 58; have sc := (K5.out.b0.cell 58).trans (r3_60 (HS.out.g 0) zeroC_ok (HS.out.g 2) 1); clear hc2 ho2 hs2 ht))
  have K6 := Lib.hid (K5.out.set1 0 58 (.int .i64 ((0 : Nat) : Int)) rfl (.inl (by simp)) (show _ = r3 (s.row 0) zeroC (s.row 2) (s.tm 0) 0 (s.tm 2) s.n from r3_s1 (HS.out.g 0) zeroC_ok (HS.out.g 2) 0) rfl)
  go_ret
  exact ret_s K6.out HE.out K6.out.b0 (rSl_offS (k := 1) HS.out (by decide)).symm
set_option maxRecDepth 100000 in
set_option maxHeartbeats 400000 in
theorem rret_em2 (s : Sl) (hs : s.ok) (x : Nat) (p : Int) (w : World) (h : Blk 33 w x (rSl s)) (hp : p = 2) (hh : hasS s p = false) :
    Calls Tryz.prog 28 #[.pointer (some ⟨x, 0, none⟩), .int .i64 p] w (RetS 33 x rSl (retS s p) w) := by
  have HS := Lib.hid hs
  have K0 := Lib.hid ((VK.start [x] w).hold h (by simp))
  subst hp
  have HE := Lib.hid (ret_none in_2 hh)
  rw [has_2] at hh
  have ht := r_t2 hs h
  have e0 : ((s.tm 2 : Int) == 0) = true := by rw [beq_iff_eq]; have := of_decide_eq_false hh; omega
  clear h hs hh
  have e1 : (s.tm 2 == 0) = true := by rw [beq_iff_eq] at e0 ⊢; omega
  go_enter Tryz.func28, Tryz.ntmps28
  go_wp2_with fail
  go_ret
  exact ret_s K0.out HE.out K0.out.b0 rfl
set_option maxRecDepth 100000 in
set_option maxHeartbeats 400000 in
theorem rret_2 (s : Sl) (hs : s.ok) (x : Nat) (p : Int) (w : World) (h : Blk 33 w x (rSl s)) (hp : p = 2) (hh : hasS s p = true) :
    Calls Tryz.prog 28 #[.pointer (some ⟨x, 0, none⟩), .int .i64 p] w (RetS 33 x rSl (retS s p) w) := by
  have HS := Lib.hid hs
  have K0 := Lib.hid ((VK.start [x] w).hold h (by simp))
  subst hp
  have HE := Lib.hid (ret_ok0 in_2 hh)
  rw [has_2] at hh
  have ht := r_t2 hs h
  have e0 : ((s.tm 2 : Int) == 0) = false := by rw [beq_eq_false_iff_ne]; have := of_decide_eq_true hh; omega
  clear h hs hh
  have e1 : (s.tm 2 == 0) = false := by rw [beq_eq_false_iff_ne] at e0 ⊢; omega
  go_enter Tryz.func28, Tryz.ntmps28
  go_wp2_with (first | (refine wpList_stB rt_rcfg rfl (.tmp 23) (.tmp 20) rfl x 38 rfl (rSl s) zeroC.cells zero_lit (cells_one zeroC) rfl (by exact K0.out.b0) (by rw [rSl_len HS.out, zeroC_len]; decide) ?_; intro w6 hc2 ho2 hs2; have K5 := Lib.hid (K0.out.put 0 rfl (.inl (by simp)) ho2 (by rw [r_def, r3_put2 (HS.out.g 0) (HS.out.g 1) (HS.out.g 2) zeroC_ok] at hc2; exact hc2) rfl); have sf := K5.out.b0.free 59; have sc := (K5.out.b0.cell 59).trans (r3_60 (HS.out.g 0) (HS.out.g 1) zeroC_ok 2); clear hc2 ho2 hs2 ht))
  have K6 := Lib.hid (K5.out.set1 0 59 (.int .i64 ((0 : Nat) : Int)) rfl (.inl (by simp)) (show _ = r3 (s.row 0) (s.row 1) zeroC (s.tm 0) (s.tm 1) 0 s.n from r3_s2 (HS.out.g 0) (HS.out.g 1) zeroC_ok 0) rfl)
  go_ret
  exact ret_s K6.out HE.out K6.out.b0 (rSl_offS (k := 2) HS.out (by decide)).symm
theorem rret_any (s : Sl) (hs : s.ok) (x : Nat) (p : Int) (w : World) (h : Blk 33 w x (rSl s)) :
    Calls Tryz.prog 28 #[.pointer (some ⟨x, 0, none⟩), .int .i64 p] w (RetS 33 x rSl (retS s p) w) := by
  cases hv : inB p
  · by_cases h0 : p < 0
    · exact rret_neg s hs x p w h h0
    · refine rret_big s hs x p w h ?_
      unfold inB at hv; rw [decide_eq_false_iff_not] at hv; omega
  cases hh : hasS s p
  · rcases in_cases hv with e | e | e
    · exact rret_em0 s hs x p w h e hh
    · exact rret_em1 s hs x p w h e hh
    · exact rret_em2 s hs x p w h e hh
  · rcases in_cases hv with e | e | e
    · exact rret_0 s hs x p w h e hh
    · exact rret_1 s hs x p w h e hh
    · exact rret_2 s hs x p w h e hh
end Go.Proofs.YtkcchidklcnnnaaGreat
