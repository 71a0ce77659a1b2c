/- Layer 18: a call on both, the program's slots and the reference's. Condition: the configurations' keys have sixteen bytes; fewer than a million were installed. -/
import Derived.Test.YtkcchidklcnnnaaGreatSlR
import Derived.Test.YtkcchidklcnnnaaGreatMdUr
namespace Go.Proofs.YtkcchidklcnnnaaGreat
open Go.RowKit
set_option linter.unusedVariables false
set_option linter.unusedSimpArgs false
/-- A call: what, where, of which configuration. -/
structure Cl where
  t : Int
  p : Int
  c : Cfg
def Cl.cells (k : Cl) : List Value := .int .i64 k.t :: .int .i64 k.p :: k.c.cells
def Cl.val (k : Cl) : Value := .agg k.cells.toArray
theorem cl_val (k : Cl) : k.val = .agg k.cells.toArray := rfl
structure Cl.ok (k : Cl) : Prop where
  c : k.c.ok
  t : -9223372036854775808 ≤ k.t ∧ k.t ≤ 9223372036854775807
  p : -9223372036854775808 ≤ k.p ∧ k.p ≤ 9223372036854775807
def doS (s : Sl) (k : Cl) : Sl × Int := if k.t = 0 then instS s k.p k.c else if k.t = 1 then retS s k.p else (s, 0)
theorem do_0 {s : Sl} {k : Cl} (h : k.t = 0) : doS s k = instS s k.p k.c := by unfold doS; rw [if_pos h]
theorem do_1 {s : Sl} {k : Cl} (h : k.t = 1) : doS s k = retS s k.p := by unfold doS; rw [if_neg (by omega), if_pos h]
theorem do_2 {s : Sl} {k : Cl} (h : ¬ k.t = 0) (h1 : ¬ k.t = 1) : doS s k = (s, 0) := by unfold doS; rw [if_neg h, if_neg h1]
theorem do_ok {s : Sl} {k : Cl} (h : s.ok) (hk : k.ok) : (doS s k).1.ok := by
  unfold doS
  split
  · exact inst_ok h hk.c _
  · split
    · exact ret_ok h _
    · exact h
theorem do_n (s : Sl) (k : Cl) : (doS s k).1.n ≤ s.n + 1 := by
  unfold doS
  split
  · exact inst_n _ _ _
  · split
    · rw [ret_n]; exact Nat.le_succ _
    · exact Nat.le_succ _
theorem Cl.cells_len {k : Cl} (h : k.ok) : k.cells.length = 21 := by unfold Cl.cells; simp [Cfg.cells_len h.c]
theorem Cl.cells_one (k : Cl) : ones k.cells := by
  intro v hv
  unfold Cl.cells at hv
  rcases List.mem_cons.1 hv with rfl | hv
  · rfl
  rcases List.mem_cons.1 hv with rfl | hv
  · rfl
  exact Go.Proofs.YtkcchidklcnnnaaGreat.cells_one k.c v hv
def zCl : Cl := ⟨0, 0, zeroC⟩
theorem zCl_ok : zCl.ok := ⟨zeroC_ok, by decide, by decide⟩
set_option maxRecDepth 100000 in
theorem rt_call : RT 37 zCl.cells := ⟨row_of (by kernel_rfl), by kernel_rfl⟩
section
variable {w : World} {q : Nat} {k : Cl} {T : TypeId}
theorem cl0 (h : Blk T w q k.cells) : w.cell? ⟨q, 0, none⟩ = some (.int .i64 k.t) := h.cell 0
theorem cl1 (h : Blk T w q k.cells) : w.cell? ⟨q, 1, none⟩ = some (.int .i64 k.p) := h.cell 1
theorem ld_ccfg (hk : k.ok) (h : Blk T w q k.cells) : ldHd 35 (.pointer (some ⟨q, 2, none⟩)) w = .ok (.value k.c.val) w := by
  rw [val_agg]
  exact ld_mid rt_cfg h (by show (k.c.cells).take _ = _; rw [List.take_of_length_le (Nat.le_refl _)]) (by rw [Cfg.cells_len hk.c, zeroC_len])
theorem ld_call (hk : k.ok) (h : Blk T w q k.cells) : ldHd 37 (.pointer (some ⟨q, 0, none⟩)) w = .ok (.value k.val) w :=
  ld_mid rt_call h (by rw [List.drop_zero, List.take_of_length_le (Nat.le_refl _)]) (by rw [Cl.cells_len hk, Cl.cells_len zCl_ok])
end
theorem ex_ldK18 (ev : Operand → Value) (x : Operand) (d : Option Tmp) (ty : TypeId) (ps : String) (af : Array Edge) (g : Option (Nat × Bool)) (w : World) : (execOp ev ⟨d, .load 37 x, ty, ps, af, g⟩).run Tryz.prog w = ldHd 37 (ev x) w := rfl
/-- What Do leaves: both have done the call, all else is as it was; true, if both were the same. -/
def RetD (x y : Nat) (s u : Sl) (k : Cl) (w : World) (e : Ending) (w' : World) : Prop :=
  ∃ b, e = .returned (.bool b) ∧ (s = u → b = true) ∧ Blk 69 w' x (pSl (doS s k).1) ∧ Blk 33 w' y (rSl (doS u k).1) ∧ Oth [x, y] w w'
attribute [local irreducible] Cfg.val Cfg.cells rtB Rt zK sizeC zeroC hcel zh pSl rSl aSl p3 r3 hasS ofS tmS tmN Sl.row Sl.tm inB instS retS putS offS doS Cl.cells Cl.val
attribute [local go_sem ↓] ex_ldC
set_option maxRecDepth 100000 in
set_option maxHeartbeats 1000000 in
theorem do_inst (x y : Nat) (s u : Sl) (hs : s.ok) (hu : u.ok) (hn : s.n ≤ 1000000) (hm : u.n ≤ 1000000) (k : Cl) (hk : k.ok) (w : World) (h : Blk 69 w x (pSl s)) (h' : Blk 33 w y (rSl u)) (ht : k.t = 0) :
    Calls Tryz.prog 9 #[.pointer (some ⟨x, 0, none⟩), .pointer (some ⟨y, 0, none⟩), k.val] w (RetD x y s u k w) := by
  have HS := Lib.hid hs
  have HU := Lib.hid hu
  have HN := Lib.hid (And.intro hn hm)
  have HK := Lib.hid hk
  have K0 := Lib.hid (((VK.start [x, y] w).hold h' (by simp)).hold h (by simpa using h.far h' (by decide)))
  have e0 : (k.t == 0) = true := by rw [beq_iff_eq]; exact ht
  have HE := Lib.hid (do_0 (s := s) ht)
  have HF := Lib.hid (do_0 (s := u) ht)
  clear h h' hs hu hn hm hk ht
  go_enter Tryz.func9, Tryz.ntmps9
  go_wp2_with (first | (refine wpList_boxB rfl 37 (.tmp 2) rfl k.cells (cl_val k) ?_; intro w1 q hc1 hb1 hx1; have K1 := Lib.hid (K0.out.new hb1 hx1 hc1); have c0 := cl0 K1.out.b0; clear hc1 hb1 hx1))
  have K2 := Lib.hid K1.out.draw
  have HD := K2.out.b0
  clear c0
  refine wp_region_held_drew (S := fun w' => Blk 37 w' q k.cells) (by kernel_rfl) HD (fun hHeld => ?_)
  (try dsimp only at hHeld)
  refine wpAnyH_take (i := 0) (v := ?v0_1) rfl (by kernel_rfl) (by kernel_rfl) (by kernel_rfl) (fun _ _ _ h => h) (Or.inl ⟨by rfl, ?hy0_1⟩) hHeld ?_
  case hy0_1 => (intro w hSw; (try dsimp only at hSw); have q0 := cl1 hSw; have q1 := ld_ccfg HK.out hSw; (try simp only [List.getElem_toArray, List.getElem_cons_zero, List.getElem_cons_succ]); go_simp <;> with_reducible rfl)
  (try simp only [Act.put, List.getElem_toArray, List.getElem_cons_zero, List.getElem_cons_succ, List.setIfInBounds_toArray, List.set_cons_zero, List.set_cons_succ])
  refine wpAnyH_take (i := 1) (v := ?v1_2) rfl (by kernel_rfl) (by kernel_rfl) (by kernel_rfl) (fun _ _ _ h => h) (Or.inl ⟨by rfl, ?hy1_2⟩) hHeld ?_
  case hy1_2 => (intro w hSw; (try dsimp only at hSw); have q0 := cl1 hSw; have q1 := ld_ccfg HK.out hSw; (try simp only [List.getElem_toArray, List.getElem_cons_zero, List.getElem_cons_succ]); go_simp <;> with_reducible rfl)
  (try simp only [Act.put, List.getElem_toArray, List.getElem_cons_zero, List.getElem_cons_succ, List.setIfInBounds_toArray, List.set_cons_zero, List.set_cons_succ])
  refine wpAnyH_take (i := 2) (v := ?v2_3) rfl (by kernel_rfl) (by kernel_rfl) (by kernel_rfl) (fun _ _ _ h => h) (Or.inl ⟨by rfl, ?hy2_3⟩) hHeld ?_
  case hy2_3 => (intro w hSw; (try dsimp only at hSw); have q0 := cl1 hSw; have q1 := ld_ccfg HK.out hSw; (try simp only [List.getElem_toArray, List.getElem_cons_zero, List.getElem_cons_succ]); go_simp <;> with_reducible rfl)
  (try simp only [Act.put, List.getElem_toArray, List.getElem_cons_zero, List.getElem_cons_succ, List.setIfInBounds_toArray, List.set_cons_zero, List.set_cons_succ])
  refine wpAnyH_take (i := 3) (v := ?v3_4) rfl (by kernel_rfl) (by kernel_rfl) (by kernel_rfl) (fun _ _ _ h => h) (Or.inl ⟨by rfl, ?hy3_4⟩) hHeld ?_
  case hy3_4 => (intro w hSw; (try dsimp only at hSw); have q0 := cl1 hSw; have q1 := ld_ccfg HK.out hSw; (try simp only [List.getElem_toArray, List.getElem_cons_zero, List.getElem_cons_succ]); go_simp <;> with_reducible rfl)
  (try simp only [Act.put, List.getElem_toArray, List.getElem_cons_zero, List.getElem_cons_succ, List.setIfInBounds_toArray, List.set_cons_zero, List.set_cons_succ])
  refine wpAnyH_take (i := 4) (v := ?v4_5) rfl (by kernel_rfl) (by kernel_rfl) (by kernel_rfl) (fun _ _ _ h => h) (Or.inl ⟨by rfl, ?hy4_5⟩) hHeld ?_
  case hy4_5 => (intro w hSw; (try dsimp only at hSw); have q0 := cl1 hSw; have q1 := ld_ccfg HK.out hSw; (try simp only [List.getElem_toArray, List.getElem_cons_zero, List.getElem_cons_succ]); go_simp <;> with_reducible rfl)
  (try simp only [Act.put, List.getElem_toArray, List.getElem_cons_zero, List.getElem_cons_succ, List.setIfInBounds_toArray, List.set_cons_zero, List.set_cons_succ])
  refine wpAnyH_take (i := 6) (v := ?v6_6) rfl (by kernel_rfl) (by kernel_rfl) (by kernel_rfl) (fun _ _ _ h => h) (Or.inl ⟨by rfl, ?hy6_6⟩) hHeld ?_
  case hy6_6 => (intro w hSw; (try dsimp only at hSw); have q0 := cl1 hSw; have q1 := ld_ccfg HK.out hSw; (try simp only [List.getElem_toArray, List.getElem_cons_zero, List.getElem_cons_succ]); go_simp <;> with_reducible rfl)
  (try simp only [Act.put, List.getElem_toArray, List.getElem_cons_zero, List.getElem_cons_succ, List.setIfInBounds_toArray, List.set_cons_zero, List.set_cons_succ])
  refine wpAnyH_take (i := 7) (v := ?v7_7) rfl (by kernel_rfl) (by kernel_rfl) (by kernel_rfl) (fun _ _ _ h => h) (Or.inl ⟨by rfl, ?hy7_7⟩) hHeld ?_
  case hy7_7 => (intro w hSw; (try dsimp only at hSw); have q0 := cl1 hSw; have q1 := ld_ccfg HK.out hSw; (try simp only [List.getElem_toArray, List.getElem_cons_zero, List.getElem_cons_succ]); go_simp <;> with_reducible rfl)
  (try simp only [Act.put, List.getElem_toArray, List.getElem_cons_zero, List.getElem_cons_succ, List.setIfInBounds_toArray, List.set_cons_zero, List.set_cons_succ])
  refine wpAnyH_take (i := 8) (v := ?v8_8) rfl (by kernel_rfl) (by kernel_rfl) (by kernel_rfl) (fun _ _ _ h => h) (Or.inl ⟨by rfl, ?hy8_8⟩) hHeld ?_
  case hy8_8 => (intro w hSw; (try dsimp only at hSw); have q0 := cl1 hSw; have q1 := ld_ccfg HK.out hSw; (try simp only [List.getElem_toArray, List.getElem_cons_zero, List.getElem_cons_succ]); go_simp <;> with_reducible rfl)
  (try simp only [Act.put, List.getElem_toArray, List.getElem_cons_zero, List.getElem_cons_succ, List.setIfInBounds_toArray, List.set_cons_zero, List.set_cons_succ])
  refine wpAnyH_take (i := 9) (v := ?v9_9) rfl (by kernel_rfl) (by kernel_rfl) (by kernel_rfl) (fun _ _ _ h => h) (Or.inl ⟨by rfl, ?hy9_9⟩) hHeld ?_
  case hy9_9 => (intro w hSw; (try dsimp only at hSw); have q0 := cl1 hSw; have q1 := ld_ccfg HK.out hSw; (try simp only [List.getElem_toArray, List.getElem_cons_zero, List.getElem_cons_succ]); go_simp <;> with_reducible rfl)
  (try simp only [Act.put, List.getElem_toArray, List.getElem_cons_zero, List.getElem_cons_succ, List.setIfInBounds_toArray, List.set_cons_zero, List.set_cons_succ])
  refine wpAnyH_take (i := 10) (v := ?v10_10) rfl (by kernel_rfl) (by kernel_rfl) (by kernel_rfl) (fun _ _ _ h => h) (Or.inl ⟨by rfl, ?hy10_10⟩) hHeld ?_
  case hy10_10 => (intro w hSw; (try dsimp only at hSw); have q0 := cl1 hSw; have q1 := ld_ccfg HK.out hSw; (try simp only [List.getElem_toArray, List.getElem_cons_zero, List.getElem_cons_succ]); go_simp <;> with_reducible rfl)
  (try simp only [Act.put, List.getElem_toArray, List.getElem_cons_zero, List.getElem_cons_succ, List.setIfInBounds_toArray, List.set_cons_zero, List.set_cons_succ])
  refine wpAnyH_ready (rs := [5]) (by kernel_rfl) (by simp) ?_
  refine AllReadyH.cons rfl (fun K hK => ?_) AllReadyH.nil
  (try simp only [List.getElem_toArray, List.getElem_cons_zero, List.getElem_cons_succ])
  go_simp
  refine (inst_any s HS.out HN.out.1 x k.p k.c HK.out.c _ K2.out.b1).mono ?_
  rintro e w3 ⟨rfl, hc, ho⟩
  have K3 := Lib.hid (K2.out.put 1 rfl (.inl (by simp)) ho hc rfl)
  clear hc ho
  (try go_wp2_with fail)
  refine hK.out _ _ K3.out.b0 (fun hHeld => ?_)
  clear hK K
  (try simp only [Act.put, List.getElem_toArray, List.getElem_cons_zero, List.getElem_cons_succ, List.setIfInBounds_toArray, List.set_cons_zero, List.set_cons_succ])
  refine wpAnyH_ready (rs := [11]) (by kernel_rfl) (by simp) ?_
  refine AllReadyH.cons rfl (fun K hK => ?_) AllReadyH.nil
  (try simp only [List.getElem_toArray, List.getElem_cons_zero, List.getElem_cons_succ])
  go_simp
  refine (mof_any k.c HK.out.c _).mono ?_
  rintro e w4 ⟨rfl, hb⟩
  have K4 := Lib.hid (K3.out.step hb)
  clear hb
  (try go_wp2_with fail)
  refine hK.out _ _ K4.out.b0 (fun hHeld => ?_)
  clear hK K
  (try simp only [Act.put, List.getElem_toArray, List.getElem_cons_zero, List.getElem_cons_succ, List.setIfInBounds_toArray, List.set_cons_zero, List.set_cons_succ])
  refine wpAnyH_ready (rs := [12]) (by kernel_rfl) (by simp) ?_
  refine AllReadyH.cons rfl (fun K hK => ?_) AllReadyH.nil
  (try simp only [List.getElem_toArray, List.getElem_cons_zero, List.getElem_cons_succ])
  go_simp
  refine (rinst_any u HU.out HN.out.2 y k.p k.c HK.out.c _ K4.out.b2).mono ?_
  rintro e w5 ⟨rfl, hc, ho⟩
  have K5 := Lib.hid (K4.out.put 2 rfl (.inl (by simp)) ho hc rfl)
  clear hc ho
  (try go_wp2_with fail)
  refine hK.out _ _ K5.out.b0 (fun hHeld => ?_)
  clear hK K
  (try simp only [Act.put, List.getElem_toArray, List.getElem_cons_zero, List.getElem_cons_succ, List.setIfInBounds_toArray, List.set_cons_zero, List.set_cons_succ])
  refine wpAnyH_take (i := 13) (v := ?v13_11) rfl (by kernel_rfl) (by kernel_rfl) (by kernel_rfl) (fun _ _ _ h => h) (Or.inl ⟨by rfl, ?hy13_11⟩) hHeld ?_
  case hy13_11 => (intro w hSw; (try dsimp only at hSw); (try simp only [List.getElem_toArray, List.getElem_cons_zero, List.getElem_cons_succ]); go_simp <;> with_reducible rfl)
  (try simp only [Act.put, List.getElem_toArray, List.getElem_cons_zero, List.getElem_cons_succ, List.setIfInBounds_toArray, List.set_cons_zero, List.set_cons_succ])
  refine wpAnyH_take (i := 14) (v := ?v14_12) rfl (by kernel_rfl) (by kernel_rfl) (by kernel_rfl) (fun _ _ _ h => h) (Or.inl ⟨by rfl, ?hy14_12⟩) hHeld ?_
  case hy14_12 => (intro w hSw; (try dsimp only at hSw); (try simp only [List.getElem_toArray, List.getElem_cons_zero, List.getElem_cons_succ]); go_simp <;> with_reducible rfl)
  (try simp only [Act.put, List.getElem_toArray, List.getElem_cons_zero, List.getElem_cons_succ, List.setIfInBounds_toArray, List.set_cons_zero, List.set_cons_succ])
  refine wpAnyH_done (by kernel_rfl) ?_ _
  clear hHeld HD
  go_wp2_with fail
  go_ret
  exact ⟨_, rfl, (fun e => by subst e; exact beq_self_eq_true _), by rw [HE.out]; exact K5.out.b1, by rw [HF.out]; exact K5.out.b2, K5.out.oth⟩
set_option maxRecDepth 100000 in
set_option maxHeartbeats 1000000 in
theorem do_ret (x y : Nat) (s u : Sl) (hs : s.ok) (hu : u.ok) (hn : s.n ≤ 1000000) (hm : u.n ≤ 1000000) (k : Cl) (hk : k.ok) (w : World) (h : Blk 69 w x (pSl s)) (h' : Blk 33 w y (rSl u)) (ht : k.t = 1) :
    Calls Tryz.prog 9 #[.pointer (some ⟨x, 0, none⟩), .pointer (some ⟨y, 0, none⟩), k.val] w (RetD x y s u k w) := by
  have HS := Lib.hid hs
  have HU := Lib.hid hu
  have HN := Lib.hid (And.intro hn hm)
  have HK := Lib.hid hk
  have K0 := Lib.hid (((VK.start [x, y] w).hold h' (by simp)).hold h (by simpa using h.far h' (by decide)))
  have e0 : (k.t == 0) = false := by rw [beq_eq_false_iff_ne]; omega
  have e1 : (k.t == 1) = true := by rw [beq_iff_eq]; exact ht
  have HE := Lib.hid (do_1 (s := s) ht)
  have HF := Lib.hid (do_1 (s := u) ht)
  clear h h' hs hu hn hm hk ht
  go_enter Tryz.func9, Tryz.ntmps9
  go_wp2_with (first | (refine wpList_boxB rfl 37 (.tmp 2) rfl k.cells (cl_val k) ?_; intro w1 q hc1 hb1 hx1; have K1 := Lib.hid (K0.out.new hb1 hx1 hc1); have c0 := cl0 K1.out.b0; clear hc1 hb1 hx1))
  have K2 := Lib.hid K1.out.draw
  have HD := K2.out.b0
  clear c0
  refine wp_region_held_drew (S := fun w' => Blk 37 w' q k.cells) (by kernel_rfl) HD (fun hHeld => ?_)
  (try dsimp only at hHeld)
  refine wpAnyH_take (i := 0) (v := ?v0_13) rfl (by kernel_rfl) (by kernel_rfl) (by kernel_rfl) (fun _ _ _ h => h) (Or.inl ⟨by rfl, ?hy0_13⟩) hHeld ?_
  case hy0_13 => (intro w hSw; (try dsimp only at hSw); have q0 := cl1 hSw; (try simp only [List.getElem_toArray, List.getElem_cons_zero, List.getElem_cons_succ]); go_simp <;> with_reducible rfl)
  (try simp only [Act.put, List.getElem_toArray, List.getElem_cons_zero, List.getElem_cons_succ, List.setIfInBounds_toArray, List.set_cons_zero, List.set_cons_succ])
  refine wpAnyH_take (i := 1) (v := ?v1_14) rfl (by kernel_rfl) (by kernel_rfl) (by kernel_rfl) (fun _ _ _ h => h) (Or.inl ⟨by rfl, ?hy1_14⟩) hHeld ?_
  case hy1_14 => (intro w hSw; (try dsimp only at hSw); have q0 := cl1 hSw; (try simp only [List.getElem_toArray, List.getElem_cons_zero, List.getElem_cons_succ]); go_simp <;> with_reducible rfl)
  (try simp only [Act.put, List.getElem_toArray, List.getElem_cons_zero, List.getElem_cons_succ, List.setIfInBounds_toArray, List.set_cons_zero, List.set_cons_succ])
  refine wpAnyH_take (i := 2) (v := ?v2_15) rfl (by kernel_rfl) (by kernel_rfl) (by kernel_rfl) (fun _ _ _ h => h) (Or.inl ⟨by rfl, ?hy2_15⟩) hHeld ?_
  case hy2_15 => (intro w hSw; (try dsimp only at hSw); have q0 := cl1 hSw; (try simp only [List.getElem_toArray, List.getElem_cons_zero, List.getElem_cons_succ]); go_simp <;> with_reducible rfl)
  (try simp only [Act.put, List.getElem_toArray, List.getElem_cons_zero, List.getElem_cons_succ, List.setIfInBounds_toArray, List.set_cons_zero, List.set_cons_succ])
  refine wpAnyH_take (i := 4) (v := ?v4_16) rfl (by kernel_rfl) (by kernel_rfl) (by kernel_rfl) (fun _ _ _ h => h) (Or.inl ⟨by rfl, ?hy4_16⟩) hHeld ?_
  case hy4_16 => (intro w hSw; (try dsimp only at hSw); have q0 := cl1 hSw; (try simp only [List.getElem_toArray, List.getElem_cons_zero, List.getElem_cons_succ]); go_simp <;> with_reducible rfl)
  (try simp only [Act.put, List.getElem_toArray, List.getElem_cons_zero, List.getElem_cons_succ, List.setIfInBounds_toArray, List.set_cons_zero, List.set_cons_succ])
  refine wpAnyH_take (i := 5) (v := ?v5_17) rfl (by kernel_rfl) (by kernel_rfl) (by kernel_rfl) (fun _ _ _ h => h) (Or.inl ⟨by rfl, ?hy5_17⟩) hHeld ?_
  case hy5_17 => (intro w hSw; (try dsimp only at hSw); have q0 := cl1 hSw; (try simp only [List.getElem_toArray, List.getElem_cons_zero, List.getElem_cons_succ]); go_simp <;> with_reducible rfl)
  (try simp only [Act.put, List.getElem_toArray, List.getElem_cons_zero, List.getElem_cons_succ, List.setIfInBounds_toArray, List.set_cons_zero, List.set_cons_succ])
  refine wpAnyH_take (i := 6) (v := ?v6_18) rfl (by kernel_rfl) (by kernel_rfl) (by kernel_rfl) (fun _ _ _ h => h) (Or.inl ⟨by rfl, ?hy6_18⟩) hHeld ?_
  case hy6_18 => (intro w hSw; (try dsimp only at hSw); have q0 := cl1 hSw; (try simp only [List.getElem_toArray, List.getElem_cons_zero, List.getElem_cons_succ]); go_simp <;> with_reducible rfl)
  (try simp only [Act.put, List.getElem_toArray, List.getElem_cons_zero, List.getElem_cons_succ, List.setIfInBounds_toArray, List.set_cons_zero, List.set_cons_succ])
  refine wpAnyH_ready (rs := [3]) (by kernel_rfl) (by simp) ?_
  refine AllReadyH.cons rfl (fun K hK => ?_) AllReadyH.nil
  (try simp only [List.getElem_toArray, List.getElem_cons_zero, List.getElem_cons_succ])
  go_simp
  refine (ret_any s HS.out x k.p _ K2.out.b1).mono ?_
  rintro e w3 ⟨rfl, hc, ho⟩
  have K3 := Lib.hid (K2.out.put 1 rfl (.inl (by simp)) ho hc rfl)
  clear hc ho
  (try go_wp2_with fail)
  refine hK.out _ _ K3.out.b0 (fun hHeld => ?_)
  clear hK K
  (try simp only [Act.put, List.getElem_toArray, List.getElem_cons_zero, List.getElem_cons_succ, List.setIfInBounds_toArray, List.set_cons_zero, List.set_cons_succ])
  refine wpAnyH_ready (rs := [7]) (by kernel_rfl) (by simp) ?_
  refine AllReadyH.cons rfl (fun K hK => ?_) AllReadyH.nil
  (try simp only [List.getElem_toArray, List.getElem_cons_zero, List.getElem_cons_succ])
  go_simp
  refine (rret_any u HU.out y k.p _ K3.out.b2).mono ?_
  rintro e w5 ⟨rfl, hc, ho⟩
  have K5 := Lib.hid (K3.out.put 2 rfl (.inl (by simp)) ho hc rfl)
  clear hc ho
  (try go_wp2_with fail)
  refine hK.out _ _ K5.out.b0 (fun hHeld => ?_)
  clear hK K
  (try simp only [Act.put, List.getElem_toArray, List.getElem_cons_zero, List.getElem_cons_succ, List.setIfInBounds_toArray, List.set_cons_zero, List.set_cons_succ])
  refine wpAnyH_take (i := 8) (v := ?v8_19) rfl (by kernel_rfl) (by kernel_rfl) (by kernel_rfl) (fun _ _ _ h => h) (Or.inl ⟨by rfl, ?hy8_19⟩) hHeld ?_
  case hy8_19 => (intro w hSw; (try dsimp only at hSw); (try simp only [List.getElem_toArray, List.getElem_cons_zero, List.getElem_cons_succ]); go_simp <;> with_reducible rfl)
  (try simp only [Act.put, List.getElem_toArray, List.getElem_cons_zero, List.getElem_cons_succ, List.setIfInBounds_toArray, List.set_cons_zero, List.set_cons_succ])
  refine wpAnyH_take (i := 9) (v := ?v9_20) rfl (by kernel_rfl) (by kernel_rfl) (by kernel_rfl) (fun _ _ _ h => h) (Or.inl ⟨by rfl, ?hy9_20⟩) hHeld ?_
  case hy9_20 => (intro w hSw; (try dsimp only at hSw); (try simp only [List.getElem_toArray, List.getElem_cons_zero, List.getElem_cons_succ]); go_simp <;> with_reducible rfl)
  (try simp only [Act.put, List.getElem_toArray, List.getElem_cons_zero, List.getElem_cons_succ, List.setIfInBounds_toArray, List.set_cons_zero, List.set_cons_succ])
  refine wpAnyH_done (by kernel_rfl) ?_ _
  clear hHeld HD
  go_wp2_with fail
  go_ret
  exact ⟨_, rfl, (fun e => by subst e; exact beq_self_eq_true _), by rw [HE.out]; exact K5.out.b1, by rw [HF.out]; exact K5.out.b2, K5.out.oth⟩
set_option maxRecDepth 100000 in
set_option maxHeartbeats 1000000 in
theorem do_else (x y : Nat) (s u : Sl) (hs : s.ok) (hu : u.ok) (hn : s.n ≤ 1000000) (hm : u.n ≤ 1000000) (k : Cl) (hk : k.ok) (w : World) (h : Blk 69 w x (pSl s)) (h' : Blk 33 w y (rSl u)) (ht : ¬ k.t = 0) (ht1 : ¬ k.t = 1) :
    Calls Tryz.prog 9 #[.pointer (some ⟨x, 0, none⟩), .pointer (some ⟨y, 0, none⟩), k.val] w (RetD x y s u k w) := by
  have HS := Lib.hid hs
  have HU := Lib.hid hu
  have HN := Lib.hid (And.intro hn hm)
  have HK := Lib.hid hk
  have K0 := Lib.hid (((VK.start [x, y] w).hold h' (by simp)).hold h (by simpa using h.far h' (by decide)))
  have e0 : (k.t == 0) = false := by rw [beq_eq_false_iff_ne]; exact ht
  have e1 : (k.t == 1) = false := by rw [beq_eq_false_iff_ne]; exact ht1
  have HE := Lib.hid (do_2 (s := s) ht ht1)
  have HF := Lib.hid (do_2 (s := u) ht ht1)
  clear h h' hs hu hn hm hk ht ht1
  go_enter Tryz.func9, Tryz.ntmps9
  go_wp2_with (first | (refine wpList_boxB rfl 37 (.tmp 2) rfl k.cells (cl_val k) ?_; intro w1 q hc1 hb1 hx1; have K1 := Lib.hid (K0.out.new hb1 hx1 hc1); have c0 := cl0 K1.out.b0; clear hc1 hb1 hx1))
  go_ret
  exact ⟨_, rfl, (fun _ => rfl), by rw [HE.out]; exact K1.out.b1, by rw [HF.out]; exact K1.out.b2, K1.out.oth⟩
theorem do_any (x y : Nat) (s u : Sl) (hs : s.ok) (hu : u.ok) (hn : s.n ≤ 1000000) (hm : u.n ≤ 1000000) (k : Cl) (hk : k.ok) (w : World) (h : Blk 69 w x (pSl s)) (h' : Blk 33 w y (rSl u)) :
    Calls Tryz.prog 9 #[.pointer (some ⟨x, 0, none⟩), .pointer (some ⟨y, 0, none⟩), k.val] w (RetD x y s u k w) := by
  by_cases h0 : k.t = 0
  · exact do_inst x y s u hs hu hn hm k hk w h h' h0
  by_cases h1 : k.t = 1
  · exact do_ret x y s u hs hu hn hm k hk w h h' h1
  · exact do_else x y s u hs hu hn hm k hk w h h' h0 h1
end Go.Proofs.YtkcchidklcnnnaaGreat
