/- Layer 18: exists, empty, at, Stamp, Of, New, Clone, All. Condition: the slots' configurations have keys of sixteen bytes. -/
import Derived.Test.YtkcchidklcnnnaaGreatSlM
namespace Go.Proofs.YtkcchidklcnnnaaGreat
open Go.RowKit
set_option linter.unusedVariables false
set_option linter.unusedSimpArgs false
theorem zh_lit : (Value.agg #[.int .i64 0, .int .i64 0, .int .i64 0, .int .u8 0, .int .u8 0, .int .u8 0, .int .u8 0, .int .u8 0, .int .u8 0, .int .u8 0, .int .u8 0, .int .u8 0, .int .u8 0, .int .u8 0, .int .u8 0, .int .u8 0, .int .u8 0, .int .u8 0, .int .u8 0, .int .i64 0]) = .agg zh.toArray := rfl
theorem in_0 : inB 0 = true := by decide
theorem in_1 : inB 1 = true := by decide
theorem in_2 : inB 2 = true := by decide
theorem held_f1 : (Tryz.prog.fieldsOf 66)[1]?.map (fun f => (f.type, f.offset)) = some (2, 19) := by kernel_rfl
theorem fld_stamp (c : Cfg) (hc : c.ok) (t : Nat) (W : World) : (Instr.field 66 (.agg (hcel c t).toArray) 1).run Tryz.prog W = .ok (.int .i64 (t : Int)) W := by
  have h := held_f1
  unfold Instr.field
  simp only [Sem.run_bind, run_underlying held_u, Result.andThen_ok]
  rcases hf : (Tryz.prog.fieldsOf 66)[1]? with _ | f
  · rw [hf] at h; cases h
  · rw [hf] at h
    simp only [Option.map_some, Option.some.injEq, Prod.mk.injEq] at h
    simp only [asAgg, Sem.run_bind, Sem.run_pure, Result.andThen_ok, h.1, h.2, part_stamp c hc]
theorem p_one {s : Sl} : ones (pSl s) := fun v hv => by
  unfold pSl p3 at hv
  rcases List.mem_append.1 hv with hv | hv
  · exact hcel_one v hv
  rcases List.mem_append.1 hv with hv | hv
  · exact hcel_one v hv
  rcases List.mem_append.1 hv with hv | hv
  · exact hcel_one v hv
  rw [List.mem_singleton.1 hv]; rfl
attribute [local irreducible] Cfg.val Cfg.cells rtB Rt zK sizeC zeroC hcel zh pSl rSl aSl hasS ofS tmS tmN Sl.row Sl.tm inB
attribute [local go_sem ↓] ex_ldC ex_ldH ex_stH ex_stC ex_ldS
set_option maxRecDepth 100000 in
set_option maxHeartbeats 4000000 in
theorem exists_any (p : Int) (v : Bool) (hv : inB p = v) (w : World) :
    Calls Tryz.prog 41 #[.int .i64 p] w fun e w' => e = .returned (.bool v) ∧ w = w' := by
  unfold inB at hv
  by_cases h0 : 0 ≤ p
  · have d0 : decide (0 ≤ p) = true := decide_eq_true h0
    by_cases h3 : p < 3
    · have d3 : decide (p < 3) = true := decide_eq_true h3
      obtain rfl : true = v := by rw [← hv, decide_eq_true ⟨h0, h3⟩]
      clear h0 h3 hv
      go_enter Tryz.func41, Tryz.ntmps41
      go_wp2_with fail
      go_ret
      exact ⟨rfl, rfl⟩
    · have d3 : decide (p < 3) = false := decide_eq_false h3
      obtain rfl : false = v := by rw [← hv, decide_eq_false (fun e => h3 e.2)]
      clear h0 h3 hv
      go_enter Tryz.func41, Tryz.ntmps41
      go_wp2_with fail
      go_ret
      exact ⟨rfl, rfl⟩
  · have d0 : decide (0 ≤ p) = false := decide_eq_false h0
    obtain rfl : false = v := by rw [← hv, decide_eq_false (fun e => h0 e.1)]
    clear h0 hv
    go_enter Tryz.func41, Tryz.ntmps41
    go_wp2_with fail
    go_ret
    exact ⟨rfl, rfl⟩
set_option maxRecDepth 100000 in
set_option maxHeartbeats 4000000 in
theorem empty_any (c : Cfg) (hc : c.ok) (t : Nat) (v : Bool) (hv : decide (c = zeroC ∧ t = 0) = v) (w : World) :
    Calls Tryz.prog 32 #[.agg (hcel c t).toArray] w fun e w' => e = .returned (.bool v) ∧ Below w.heap.size w w' := by
  have HC := Lib.hid hc
  have hq : ∀ W : World, (binOp .eql 66 (.agg (hcel c t).toArray) (.agg #[.int .i64 0, .int .i64 0, .int .i64 0, .int .u8 0, .int .u8 0, .int .u8 0, .int .u8 0, .int .u8 0, .int .u8 0, .int .u8 0, .int .u8 0, .int .u8 0, .int .u8 0, .int .u8 0, .int .u8 0, .int .u8 0, .int .u8 0, .int .u8 0, .int .u8 0, .int .i64 0])).run Tryz.prog W = .ok (.bool v) W := fun W => by
    rw [zh_lit, ← hv]; unfold zh; exact eql_held c zeroC t 0 hc zeroC_ok W
  have hg : ∀ (x y : Operand) (cs ds : Array Value) (W : World), (eqGuard .eql 66 x y (.agg cs) (.agg ds)).run Tryz.prog W = .ok () W := fun x y cs ds W => run_eqGuard_agg W _ _ x y _ _ held_g
  clear hc hv
  go_enter Tryz.func32, Tryz.ntmps32
  go_wp2_with (first | (refine wpList_boxB rfl 66 (.tmp 0) rfl (hcel c t) rfl ?_; intro w1 q hc1 hb1 hx1; have K1 := Lib.hid ((VK.start [] w).new hb1 hx1 hc1); have ql := ld_held HC.out K1.out.b0; clear hc1 hb1 hx1))
  go_ret
  exact ⟨rfl, K1.out.bel⟩
set_option maxRecDepth 100000 in
set_option maxHeartbeats 4000000 in
theorem at_no (s : Sl) (hs : s.ok) (x : Nat) (p : Int) (w : World) (h : Blk 69 w x (pSl s)) (hv : inB p = false) :
    Calls Tryz.prog 30 #[.pointer (some ⟨x, 0, none⟩), .int .i64 p] w fun e w' => e = .returned (.agg (hcel (ofS s p) (tmN s p)).toArray) ∧ Below w.heap.size w w' := by
  have HS := Lib.hid hs
  have K0 := Lib.hid ((VK.start [] w).hold h (by simp))
  have HV := Lib.hid hv
  have HE : Hid (Ending.returned (.agg (hcel (ofS s p) (tmN s p)).toArray) = .returned (.agg zh.toArray)) := Lib.hid (by rw [(has_no (in_no hv)).1, (has_no (in_no hv)).2.2]; unfold zh; rfl)
  clear h hv hs
  go_enter Tryz.func30, Tryz.ntmps30
  go_wp2_with (first | (refine wpList_newB rt_held rfl rfl ?_; intro w1 q hc1 hb1 hx1; have K1 := Lib.hid (And.intro (K0.out.new hb1 hx1 hc1) (Nat.le_trans K0.out.oth.size hx1)); clear hc1 hb1 hx1))
  refine (exists_any _ false (by exact HV.out) _).mono ?_
  rintro e w2 ⟨rfl, rfl⟩
  go_wp2_with (first | (refine wpList_stB rt_held rfl (.tmp 4) (.tmp 8) rfl q 0 rfl zh (zh) zh_lit (by unfold zh; exact hcel_one) rfl (by exact K1.out.1.blk _ (.head _)) (by rw [zh_len]; decide) ?_; intro w3 hc2 ho2 hs2; have K2 := Lib.hid (And.intro (K1.out.1.put 0 rfl (.inr K1.out.2) ho2 hc2 rfl) K1.out.2); clear hc2 ho2 hs2))
  refine bodyPost_ret (res_rec rt_held rfl _ _ q (zh) rfl (by have := K2.out.1.b0; rwa [puts_whole _ _ rfl] at this) rfl) rfl ⟨?_, K2.out.1.bel⟩
  rw [HE.out]
set_option maxRecDepth 100000 in
set_option maxHeartbeats 4000000 in
theorem at_0 (s : Sl) (hs : s.ok) (x : Nat) (p : Int) (w : World) (h : Blk 69 w x (pSl s)) (hp : p = 0) :
    Calls Tryz.prog 30 #[.pointer (some ⟨x, 0, none⟩), .int .i64 p] w fun e w' => e = .returned (.agg (hcel (ofS s p) (tmN s p)).toArray) ∧ Below w.heap.size w w' := by
  have HS := Lib.hid hs
  have K0 := Lib.hid ((VK.start [] w).hold h (by simp))
  have HE : Hid (Ending.returned (.agg (hcel (ofS s p) (tmN s p)).toArray) = .returned (.agg (hcel (s.row 0) (s.tm 0)).toArray)) := Lib.hid (by
    subst hp
    have e := held_in (p := 0) hs in_0
    rw [e.1, e.2]; rfl)
  have HV : Hid (inB p = true) := Lib.hid (by subst hp; exact in_0)
  subst hp
  clear h hs
  go_enter Tryz.func30, Tryz.ntmps30
  go_wp2_with (first | (refine wpList_newB rt_held rfl rfl ?_; intro w1 q hc1 hb1 hx1; have K1 := Lib.hid (And.intro (K0.out.new hb1 hx1 hc1) (Nat.le_trans K0.out.oth.size hx1)); clear hc1 hb1 hx1))
  refine (exists_any _ true (by exact HV.out) _).mono ?_
  rintro e w2 ⟨rfl, rfl⟩
  have l0 := ld_s0 HS.out K1.out.1.b1
  go_wp2_with (first | (refine wpList_stB rt_held rfl (.tmp 4) (.tmp 14) rfl q 0 rfl zh (hcel (s.row 0) (s.tm 0)) rfl hcel_one (hcel_zh (HS.out.g _)) (by exact K1.out.1.blk _ (.head _)) (by rw [zh_len]; decide) ?_; intro w3 hc2 ho2 hs2; have K2 := Lib.hid (And.intro (K1.out.1.put 0 rfl (.inr K1.out.2) ho2 hc2 rfl) K1.out.2); clear hc2 ho2 hs2))
  refine bodyPost_ret (res_rec rt_held rfl _ _ q (hcel (s.row 0) (s.tm 0)) rfl (by have := K2.out.1.b0; rwa [puts_whole _ _ (by rw [hcel_len (HS.out.g _), zh_len])] at this) (by rw [hcel_len (HS.out.g _), zh_len])) rfl ⟨?_, K2.out.1.bel⟩
  rw [HE.out]
set_option maxRecDepth 100000 in
set_option maxHeartbeats 4000000 in
theorem at_1 (s : Sl) (hs : s.ok) (x : Nat) (p : Int) (w : World) (h : Blk 69 w x (pSl s)) (hp : p = 1) :
    Calls Tryz.prog 30 #[.pointer (some ⟨x, 0, none⟩), .int .i64 p] w fun e w' => e = .returned (.agg (hcel (ofS s p) (tmN s p)).toArray) ∧ Below w.heap.size w w' := by
  have HS := Lib.hid hs
  have K0 := Lib.hid ((VK.start [] w).hold h (by simp))
  have HE : Hid (Ending.returned (.agg (hcel (ofS s p) (tmN s p)).toArray) = .returned (.agg (hcel (s.row 1) (s.tm 1)).toArray)) := Lib.hid (by
    subst hp
    have e := held_in (p := 1) hs in_1
    rw [e.1, e.2]; rfl)
  have HV : Hid (inB p = true) := Lib.hid (by subst hp; exact in_1)
  subst hp
  clear h hs
  go_enter Tryz.func30, Tryz.ntmps30
  go_wp2_with (first | (refine wpList_newB rt_held rfl rfl ?_; intro w1 q hc1 hb1 hx1; have K1 := Lib.hid (And.intro (K0.out.new hb1 hx1 hc1) (Nat.le_trans K0.out.oth.size hx1)); clear hc1 hb1 hx1))
  refine (exists_any _ true (by exact HV.out) _).mono ?_
  rintro e w2 ⟨rfl, rfl⟩
  have l0 := ld_s1 HS.out K1.out.1.b1
  go_wp2_with (first | (refine wpList_stB rt_held rfl (.tmp 4) (.tmp 14) rfl q 0 rfl zh (hcel (s.row 1) (s.tm 1)) rfl hcel_one (hcel_zh (HS.out.g _)) (by exact K1.out.1.blk _ (.head _)) (by rw [zh_len]; decide) ?_; intro w3 hc2 ho2 hs2; have K2 := Lib.hid (And.intro (K1.out.1.put 0 rfl (.inr K1.out.2) ho2 hc2 rfl) K1.out.2); clear hc2 ho2 hs2))
  refine bodyPost_ret (res_rec rt_held rfl _ _ q (hcel (s.row 1) (s.tm 1)) rfl (by have := K2.out.1.b0; rwa [puts_whole _ _ (by rw [hcel_len (HS.out.g _), zh_len])] at this) (by rw [hcel_len (HS.out.g _), zh_len])) rfl ⟨?_, K2.out.1.bel⟩
  rw [HE.out]
set_option maxRecDepth 100000 in
set_option maxHeartbeats 4000000 in
theorem at_2 (s : Sl) (hs : s.ok) (x : Nat) (p : Int) (w : World) (h : Blk 69 w x (pSl s)) (hp : p = 2) :
    Calls Tryz.prog 30 #[.pointer (some ⟨x, 0, none⟩), .int .i64 p] w fun e w' => e = .returned (.agg (hcel (ofS s p) (tmN s p)).toArray) ∧ Below w.heap.size w w' := by
  have HS := Lib.hid hs
  have K0 := Lib.hid ((VK.start [] w).hold h (by simp))
  have HE : Hid (Ending.returned (.agg (hcel (ofS s p) (tmN s p)).toArray) = .returned (.agg (hcel (s.row 2) (s.tm 2)).toArray)) := Lib.hid (by
    subst hp
    have e := held_in (p := 2) hs in_2
    rw [e.1, e.2]; rfl)
  have HV : Hid (inB p = true) := Lib.hid (by subst hp; exact in_2)
  subst hp
  clear h hs
  go_enter Tryz.func30, Tryz.ntmps30
  go_wp2_with (first | (refine wpList_newB rt_held rfl rfl ?_; intro w1 q hc1 hb1 hx1; have K1 := Lib.hid (And.intro (K0.out.new hb1 hx1 hc1) (Nat.le_trans K0.out.oth.size hx1)); clear hc1 hb1 hx1))
  refine (exists_any _ true (by exact HV.out) _).mono ?_
  rintro e w2 ⟨rfl, rfl⟩
  have l0 := ld_s2 HS.out K1.out.1.b1
  go_wp2_with (first | (refine wpList_stB rt_held rfl (.tmp 4) (.tmp 14) rfl q 0 rfl zh (hcel (s.row 2) (s.tm 2)) rfl hcel_one (hcel_zh (HS.out.g _)) (by exact K1.out.1.blk _ (.head _)) (by rw [zh_len]; decide) ?_; intro w3 hc2 ho2 hs2; have K2 := Lib.hid (And.intro (K1.out.1.put 0 rfl (.inr K1.out.2) ho2 hc2 rfl) K1.out.2); clear hc2 ho2 hs2))
  refine bodyPost_ret (res_rec rt_held rfl _ _ q (hcel (s.row 2) (s.tm 2)) rfl (by have := K2.out.1.b0; rwa [puts_whole _ _ (by rw [hcel_len (HS.out.g _), zh_len])] at this) (by rw [hcel_len (HS.out.g _), zh_len])) rfl ⟨?_, K2.out.1.bel⟩
  rw [HE.out]
theorem sat_any (s : Sl) (hs : s.ok) (x : Nat) (p : Int) (w : World) (h : Blk 69 w x (pSl s)) :
    Calls Tryz.prog 30 #[.pointer (some ⟨x, 0, none⟩), .int .i64 p] w fun e w' => e = .returned (.agg (hcel (ofS s p) (tmN s p)).toArray) ∧ Below w.heap.size w w' := by
  cases hv : inB p
  · exact at_no s hs x p w h hv
  rcases in_cases hv with e | e | e
  · exact at_0 s hs x p w h e
  · exact at_1 s hs x p w h e
  · exact at_2 s hs x p w h e
set_option maxRecDepth 100000 in
set_option maxHeartbeats 4000000 in
theorem stamp18_any (s : Sl) (hs : s.ok) (x : Nat) (p : Int) (w : World) (h : Blk 69 w x (pSl s)) :
    Calls Tryz.prog 20 #[.pointer (some ⟨x, 0, none⟩), .int .i64 p] w fun e w' => e = .returned (.int .i64 (tmS s p)) ∧ Below w.heap.size w w' := by
  have HT := Lib.hid (tmS_N s p)
  have HA := Lib.hid (sat_any s hs x p w h)
  have hf := fld_stamp (ofS s p) (ofS_ok hs p) (tmN s p)
  clear h hs
  go_enter Tryz.func20, Tryz.ntmps20
  go_wp2_with fail
  refine HA.out.mono ?_
  rintro e w1 ⟨rfl, hb⟩
  have HB := Lib.hid hb
  clear hb
  go_wp2_with fail
  go_ret
  exact ⟨by rw [HT.out]; rfl, HB.out⟩
theorem z_lit : (Value.agg #[.int .i64 0, .int .i64 0, .int .i64 0, .int .u8 0, .int .u8 0, .int .u8 0, .int .u8 0, .int .u8 0, .int .u8 0, .int .u8 0, .int .u8 0, .int .u8 0, .int .u8 0, .int .u8 0, .int .u8 0, .int .u8 0, .int .u8 0, .int .u8 0, .int .u8 0, .int .i64 0, .int .i64 0, .int .i64 0, .int .i64 0, .int .u8 0, .int .u8 0, .int .u8 0, .int .u8 0, .int .u8 0, .int .u8 0, .int .u8 0, .int .u8 0, .int .u8 0, .int .u8 0, .int .u8 0, .int .u8 0, .int .u8 0, .int .u8 0, .int .u8 0, .int .u8 0, .int .i64 0, .int .i64 0, .int .i64 0, .int .i64 0, .int .u8 0, .int .u8 0, .int .u8 0, .int .u8 0, .int .u8 0, .int .u8 0, .int .u8 0, .int .u8 0, .int .u8 0, .int .u8 0, .int .u8 0, .int .u8 0, .int .u8 0, .int .u8 0, .int .u8 0, .int .u8 0, .int .i64 0, .int .i64 0]) = .agg (pSl zSl).toArray := by unfold pSl p3 zSl Sl.row Sl.tm hcel zeroC Cfg.cells zK; rfl
set_option maxRecDepth 100000 in
set_option maxHeartbeats 4000000 in
theorem new18_any (w : World) :
    Calls Tryz.prog 8 #[] w fun e w' => ∃ x, e = .returned (.pointer (some ⟨x, 0, none⟩)) ∧ Blk 69 w' x (pSl zSl) ∧ w.heap.size ≤ x ∧ Below w.heap.size w w' := by
  go_enter Tryz.func8, Tryz.ntmps8
  go_wp2_with (first | (refine wpList_boxB rfl 69 (.tmp 1) rfl (pSl zSl) z_lit ?_; intro w1 q hc1 hb1 hx1; have K1 := Lib.hid (And.intro hc1 (And.intro hx1 hb1)); clear hc1 hb1 hx1))
  go_ret
  exact ⟨q, rfl, K1.out⟩
set_option maxRecDepth 100000 in
set_option maxHeartbeats 4000000 in
theorem clone18_any (s : Sl) (hs : s.ok) (x : Nat) (w : World) (h : Blk 69 w x (pSl s)) :
    Calls Tryz.prog 11 #[.pointer (some ⟨x, 0, none⟩)] w fun e w' => ∃ y, e = .returned (.pointer (some ⟨y, 0, none⟩)) ∧ Blk 69 w' y (pSl s) ∧ w.heap.size ≤ y ∧ Below w.heap.size w w' := by
  have HS := Lib.hid hs
  have K0 := Lib.hid ((VK.start [] w).hold h (by simp))
  have l0 := ld_ss hs h
  have HL : Hid ((pSl s).length = (pSl zSl).length) := Lib.hid (by rw [pSl_len hs, pSl_len zSl_ok])
  clear h hs
  go_enter Tryz.func11, Tryz.ntmps11
  go_wp2_with (first | (refine wpList_newB rt_slots rfl rfl ?_; intro w1 q hc1 hb1 hx1; have K1 := Lib.hid (And.intro (K0.out.new hb1 hx1 hc1) (Nat.le_trans K0.out.oth.size hx1)); clear hc1 hb1 hx1) | (refine wpList_stB rt_slots rfl (.tmp 3) (.tmp 6) rfl q 0 rfl (pSl zSl) (pSl s) rfl p_one HL.out (by exact K1.out.1.b0) (by rw [Nat.zero_add]; exact Nat.le_refl _) ?_; intro w2 hc2 ho2 hs2; have K2 := Lib.hid (And.intro (K1.out.1.put 0 rfl (.inr K1.out.2) ho2 hc2 rfl) K1.out.2); clear hc2 ho2 hs2))
  go_ret
  exact ⟨q, rfl, by have := K2.out.1.b0; rwa [puts_whole _ _ HL.out] at this, K2.out.2, K2.out.1.bel⟩
set_option maxRecDepth 100000 in
set_option maxHeartbeats 4000000 in
theorem all18_any (x : Nat) (w : World) :
    Calls Tryz.prog 25 #[.pointer (some ⟨x, 0, none⟩)] w fun e w' => e = .returned (.func (.func 43) #[] #[.pointer (some ⟨w.heap.size, 0, none⟩)]) ∧ w' = w.alloc (.cells #[.pointer (some ⟨x, 0, none⟩)] 24) := by
  go_enter Tryz.func25, Tryz.ntmps25
  go_wp2_with fail
  go_ret
  exact ⟨rfl, rfl⟩
set_option maxRecDepth 100000 in
set_option maxHeartbeats 4000000 in
theorem of18_any (s : Sl) (hs : s.ok) (x : Nat) (p : Int) (w : World) (h : Blk 69 w x (pSl s)) :
    Calls Tryz.prog 19 #[.pointer (some ⟨x, 0, none⟩), .int .i64 p] w fun e w' => e = .returned (.tuple #[(ofS s p).val, .bool (hasS s p)]) ∧ Below w.heap.size w w' := by
  have HO := Lib.hid (ofS_ok hs p)
  have HS := Lib.hid hs
  have HE := Lib.hid (empty_any (ofS s p) (ofS_ok hs p) (tmN s p) (!hasS s p) (held_empty hs p))
  have K0 := Lib.hid ((VK.start [] w).hold h (by simp))
  clear h hs
  go_enter Tryz.func19, Tryz.ntmps19
  go_wp2_with (first | (refine wpList_newB rt_cfg rfl rfl ?_; intro w1 q hc1 hb1 hx1; have K1 := Lib.hid (And.intro (K0.out.new hb1 hx1 hc1) (Nat.le_trans K0.out.oth.size hx1)); clear hc1 hb1 hx1))
  refine (sat_any s HS.out x p _ K1.out.1.b1).mono ?_
  rintro e w2 ⟨rfl, hb⟩
  have K2 := Lib.hid (And.intro (K1.out.1.step hb) K1.out.2)
  clear hb
  go_wp2_with (first | (refine wpList_newB rt_held rfl rfl ?_; intro w3 q2 hc1 hb1 hx1; have K3 := Lib.hid (And.intro (K2.out.1.new hb1 hx1 hc1) (Nat.le_trans K2.out.1.oth.size hx1)); clear hc1 hb1 hx1) | (refine wpList_stB rt_held rfl (.tmp 6) (.tmp 9) rfl q2 0 rfl zh (hcel (ofS s p) (tmN s p)) rfl hcel_one (hcel_zh HO.out) (by exact K3.out.1.blk _ (.head _)) (by rw [zh_len]; decide) ?_; intro w5 hc2 ho2 hs2; have K4 := Lib.hid (And.intro (K3.out.1.put 0 rfl (.inr K3.out.2) ho2 (by rwa [puts_whole _ _ (hcel_zh HO.out)] at hc2) rfl) K3.out.2); clear hc2 ho2 hs2))
  have K5 := Lib.hid K4.out.1.draw
  have HD : Blk 66 w5.drew q2 (hcel (ofS s p) (tmN s p)) := K5.out.b0
  refine wp_region_held_drew (S := fun w' => Blk 66 w' q2 (hcel (ofS s p) (tmN s p))) (by kernel_rfl) HD (fun hHeld => ?_)
  (try dsimp only at hHeld)
  refine wpAnyH_take (i := 0) (v := ?v0_1) rfl (by kernel_rfl) (by kernel_rfl) (by kernel_rfl) (fun _ _ _ h => h) (Or.inl ⟨by rfl, ?hy0_1⟩) hHeld ?_
  case hy0_1 => (intro w hSw; (try dsimp only at hSw); have q0 := ld_held HO.out hSw; have q1 := ld_hcfg HO.out hSw; (try simp only [List.getElem_toArray, List.getElem_cons_zero, List.getElem_cons_succ]); go_simp <;> with_reducible rfl)
  (try simp only [Act.put, List.getElem_toArray, List.getElem_cons_zero, List.getElem_cons_succ, List.setIfInBounds_toArray, List.set_cons_zero, List.set_cons_succ])
  refine wpAnyH_take (i := 1) (v := ?v1_2) rfl (by kernel_rfl) (by kernel_rfl) (by kernel_rfl) (fun _ _ _ h => h) (Or.inl ⟨by rfl, ?hy1_2⟩) hHeld ?_
  case hy1_2 => (intro w hSw; (try dsimp only at hSw); have q0 := ld_held HO.out hSw; have q1 := ld_hcfg HO.out hSw; (try simp only [List.getElem_toArray, List.getElem_cons_zero, List.getElem_cons_succ]); go_simp <;> with_reducible rfl)
  (try simp only [Act.put, List.getElem_toArray, List.getElem_cons_zero, List.getElem_cons_succ, List.setIfInBounds_toArray, List.set_cons_zero, List.set_cons_succ])
  refine wpAnyH_take (i := 2) (v := ?v2_3) rfl (by kernel_rfl) (by kernel_rfl) (by kernel_rfl) (fun _ _ _ h => h) (Or.inl ⟨by rfl, ?hy2_3⟩) hHeld ?_
  case hy2_3 => (intro w hSw; (try dsimp only at hSw); have q0 := ld_held HO.out hSw; have q1 := ld_hcfg HO.out hSw; (try simp only [List.getElem_toArray, List.getElem_cons_zero, List.getElem_cons_succ]); go_simp <;> with_reducible rfl)
  (try simp only [Act.put, List.getElem_toArray, List.getElem_cons_zero, List.getElem_cons_succ, List.setIfInBounds_toArray, List.set_cons_zero, List.set_cons_succ])
  refine wpAnyH_ready (rs := [3]) (by kernel_rfl) (by simp) ?_
  refine AllReadyH.cons rfl (fun K hK => ?_) AllReadyH.nil
  (try simp only [List.getElem_toArray, List.getElem_cons_zero, List.getElem_cons_succ])
  go_simp
  refine (HE.out _).mono ?_
  rintro e w6 ⟨rfl, hb⟩
  have K6 := Lib.hid (K5.out.step hb)
  clear hb
  (try go_wp2_with fail)
  refine hK.out _ _ K6.out.b0 (fun hHeld => ?_)
  clear hK K
  (try simp only [Act.put, List.getElem_toArray, List.getElem_cons_zero, List.getElem_cons_succ, List.setIfInBounds_toArray, List.set_cons_zero, List.set_cons_succ])
  refine wpAnyH_take (i := 4) (v := ?v4_4) rfl (by kernel_rfl) (by kernel_rfl) (by kernel_rfl) (fun _ _ _ h => h) (Or.inl ⟨by rfl, ?hy4_4⟩) hHeld ?_
  case hy4_4 => (intro w hSw; (try dsimp only at hSw); (try simp only [List.getElem_toArray, List.getElem_cons_zero, List.getElem_cons_succ]); go_simp <;> with_reducible rfl)
  (try simp only [Act.put, List.getElem_toArray, List.getElem_cons_zero, List.getElem_cons_succ, List.setIfInBounds_toArray, List.set_cons_zero, List.set_cons_succ])
  have st := st_cfg rt_cfg (c := zeroC) K6.out.b1 zeroC_ok HO.out
  refine wpAnyH_ready (rs := [5]) (by kernel_rfl) (by simp) ?_
  refine AllReadyH.cons rfl (fun K hK => ?_) AllReadyH.nil
  (try simp only [List.getElem_toArray, List.getElem_cons_zero, List.getElem_cons_succ])
  go_simp
  have K7 := Lib.hid (K6.out.putAt 1 0 (ofS s p).cells rfl (.inr K2.out.2) (puts_whole _ _ (by rw [Cfg.cells_len HO.out, zeroC_len])) rfl)
  clear st
  refine hK.out _ _ K7.out.b0 (fun hHeld => ?_)
  clear hK K
  (try simp only [Act.put, List.getElem_toArray, List.getElem_cons_zero, List.getElem_cons_succ, List.setIfInBounds_toArray, List.set_cons_zero, List.set_cons_succ])
  refine wpAnyH_take (i := 6) (v := ?v6_5) rfl (by kernel_rfl) (by kernel_rfl) (by kernel_rfl) (fun _ _ _ h => h) (Or.inl ⟨by rfl, ?hy6_5⟩) hHeld ?_
  case hy6_5 => (intro w hSw; (try dsimp only at hSw); (try simp only [List.getElem_toArray, List.getElem_cons_zero, List.getElem_cons_succ]); go_simp <;> with_reducible rfl)
  (try simp only [Act.put, List.getElem_toArray, List.getElem_cons_zero, List.getElem_cons_succ, List.setIfInBounds_toArray, List.set_cons_zero, List.set_cons_succ])
  refine wpAnyH_done (by kernel_rfl) ?_ _
  go_wp2_with fail
  rw [val_agg]
  refine bodyPost_ret (res_rec2 rt_cfg rfl _ _ q (ofS s p).cells (.bool (hasS s p)) rfl (by simp) K7.out.b1 (by rw [Cfg.cells_len HO.out, zeroC_len])) rfl ⟨rfl, K7.out.bel⟩
end Go.Proofs.YtkcchidklcnnnaaGreat
