/- Layer 18: the iterator over the slots that are not empty. Condition: the slots' configurations have keys of sixteen bytes. -/
import Derived.RangeFuncNested
import Derived.RangeFuncBound
import Derived.RangeFuncCalls
import Derived.RangeFuncLeaves
import Derived.Shelf.Abstract
import Derived.Shelf.RegionOpen
import Derived.OwnWalkIn
import Derived.TacticsInMore
import Derived.LoopNIn
import Derived.LoopIn
import Derived.Lib.QuietBelow
import Derived.Test.YtkcchidklcnnnaaGreatSlA
namespace Go.Proofs.YtkcchidklcnnnaaGreat
open Go.RowKit Go.Shelf
set_option linter.unusedVariables false
set_option linter.unusedSimpArgs false
/-! Records inside a fence. -/
section
variable {F : Fence} {nf : Nat} {w : World} {ops : Array Oper} {rest : List Oper} {o : Oper} {a : Act} {Q : Exit → Act → World → Prop} {T T' : TypeId} {z : List Value}
theorem wpListIn_newB (rt : RT T z) (hgd : o.guard = none) (hop : o.op = .alloc T)
    (hk : ∀ w' q, Blk T w' q z → Below w.heap.size w w' → w.heap.size ≤ q → wpListIn F nf Tryz.prog ops Q rest (a.put o.dst (.pointer (some ⟨q, 0, none⟩))) w') : wpListIn F nf Tryz.prog ops Q (o :: rest) a w := by
  have hk := hk _ _ (Blk.new _ _ _ _ rfl) (below_alloc _ _) (Nat.le_refl _)
  have hz := rt.zero w
  have hr : (Instr.alloc T true (.tuple #[])).run Tryz.prog w = .ok (.pointer (some ⟨w.heap.size, 0, none⟩)) (w.alloc (.cells z.toArray T)) := by
    unfold Instr.alloc
    simp only [Sem.run_bind, hz, Result.andThen_ok]
    rfl
  refine wpListIn_plain hgd fun K hK => ⟨fun f hf => ?_, ?_⟩
  · simp [Oper.about, hop] at hf
  · rw [Oper.semAt_eq _ _ _ (by simp [hop])]
    unfold execOp
    simp only [hop, Sem.run_bind, hr, Result.andThen_ok]
    exact hK _ _ hk
theorem wpListIn_stB (rt : RT T z) (hgd : o.guard = none) (x y : Operand) (hop : o.op = .store T x y) (g k : Nat) (hx : a.eval x = .pointer (some ⟨g, k, none⟩)) (cs vs : List Value) (hy : a.eval y = .agg vs.toArray) (h1 : ones vs) (hl : vs.length = z.length) (hc : Blk T' w g cs) (hr : k + z.length ≤ cs.length)
    (hk : ∀ w', Blk T' w' g (putsL cs k vs) → Oth [g] w w' → w'.heap.size = w.heap.size → wpListIn F nf Tryz.prog ops Q rest (a.put o.dst undef) w') : wpListIn F nf Tryz.prog ops Q (o :: rest) a w := by
  have e : (execOp a.eval o).run Tryz.prog w = .ok .skip (w.setCells g k vs) := by
    unfold execOp
    simp only [hop, hx, hy]
    exact stB_m rt hc h1 hl hr
  have hk := hk _ (hc.puts _ _ _ _) (oth_setCells g _ _ _ _ (Oth.refl _ _)) (size_setCellsH g _ _ _)
  refine wpListIn_plain hgd fun K hK => ⟨fun f hf => ?_, ?_⟩
  · simp [Oper.about, hop] at hf
  · rw [Oper.semAt_eq _ _ _ (by simp [hop]), e]
    exact hK _ _ hk
theorem wpListIn_ldW (hw : Region.wanted o (yielded ops a.tmps) = true) (x : Operand) (hop : o.op = .load T x) (v : Value) (e : ldHd T (a.eval x) w = .ok (.value v) w)
    (hk : wpListIn F nf Tryz.prog ops Q rest (a.put o.dst v) w) : wpListIn F nf Tryz.prog ops Q (o :: rest) a w := by
  have e2 : (execOp a.eval o).run Tryz.prog w = .ok (.value v) w := by
    unfold execOp
    simp only [hop]
    exact e
  refine wpListIn_step fun K hK => ?_
  rw [if_pos hw]
  refine ⟨fun f hf => ?_, ?_⟩
  · simp [Oper.about, hop] at hf
  · rw [Oper.semAt_eq _ _ _ (by simp [hop]), e2]
    exact hK _ _ hk
/-! A region that draws its order within a round: walked as outside, where its operations read only and none defers. -/
def noDefer (o : Oper) : Bool := match o.op with | .defer _ => false | _ => true
theorem noDefer_of {o : Oper} (h : noDefer o = true) : ∀ c, o.op ≠ .defer c := fun c e => by unfold noDefer at h; rw [e] at h; cases h
variable {P : Program} {md : Region.Mode} {C : World → Prop} {l : Nat}
theorem wpIn_of_quietR {K : Act → Prop} {K' : Act → World → Prop} {Q' : Exit → Act → World → Prop} (hd : noDefer o = true) (hw : C w) (h : ∀ a w', C w' → K a → K' a w') (hh : o.quiet P a C K) : o.wpIn (Fence.wide.inRound l) nf P a w K' Q' := by
  obtain ⟨v, h1, h2⟩ := hh
  have h3 := h1 w hw
  unfold Oper.quietAt at h3
  unfold Oper.wpIn
  refine ⟨fun _ _ => trivial, ?_⟩
  rw [Oper.semAt_eq _ _ _ (noDefer_of hd)]
  generalize (execOp a.eval o).run P w = r at *
  cases r with
  | ok x w' =>
    cases x <;> simp only [Oper.quietUpon] at h3 <;> simp only [Oper.uponIn]
    case value u =>
      obtain ⟨e1, e2⟩ := h3
      rw [e1, e2]
      exact h _ _ hw h2
    case skip =>
      obtain ⟨e1, e2⟩ := h3
      rw [e1, ← e2]
      exact h _ _ hw h2
    case enter f args =>
      obtain ⟨e1, hc⟩ := h3
      rw [e1]
      exact ⟨(fun h => by cases h), CallsIn.inRound l (callsIn_wide.2 (hc.mono fun e w'' ⟨he, hw''⟩ => by subst he; exact h _ _ hw'' h2))⟩
  | halt x w' => simp only [Oper.quietUpon] at h3
theorem wpAnyIn_of_quietR {Q : Exit → Act → World → Prop} {Q0 : Act → Prop} (hd : ∀ (i : Nat) o, ops[i]? = some o → noDefer o = true) (h0 : ∀ a w', C w' → Q0 a → Q .normal a w') : ∀ (fuel : Nat) (listed : Array Bool) (a : Act) (w : World), C w → wpAnyQ P md ops C Q0 fuel listed a → wpAnyIn (Fence.wide.inRound l) nf P md ops Q fuel listed a w
  | 0, listed, a, w, hw, h => ⟨h.1, h0 _ _ hw h.2⟩
  | fuel + 1, listed, a, w, hw, h => ⟨fun e => h0 _ _ hw (h.1 e), fun i hi => by
    have h1 := h.2 i hi
    unfold qOp at h1
    unfold wpOpIn
    cases ho : ops[i]? with
    | none => simp only [ho] at h1 ⊢; exact wpAnyIn_of_quietR hd h0 fuel _ _ _ hw h1
    | some o =>
      simp only [ho] at h1 ⊢
      split
      · rename_i hwd
        simp only [hwd, if_true] at h1
        exact wpIn_of_quietR (hd i o ho) hw (fun a w' hw' hk => wpAnyIn_of_quietR hd h0 fuel _ _ _ hw' hk) h1
      · rename_i hwd
        simp only [hwd] at h1
        exact ⟨fun _ _ => trivial, wpAnyIn_of_quietR hd h0 fuel _ _ _ hw h1⟩⟩
theorem wpIn_region_round {id : Nat} {l0 : List Oper} (hm : P.follows .mixedOrders = true) (hB : Region.lexB .any l0.toArray = true) (hd : l0.all noDefer = true)
    (h : wpQuiet P l0.toArray (fun w' => ∃ p : Regrown, w' = Sort.grow (redrawn w p.d) p.os) (fun a' => ∀ w', (∃ p : Regrown, w' = Sort.grow (redrawn w p.d) p.os) → Q .normal a' w') l0 a) : (Code.region id l0.toArray true).wpIn (Fence.wide.inRound l) nf P Q a w := by
  have hB' := hB
  simp only [Region.lexB, Bool.and_eq_true] at hB
  refine wpIn_region_any hm (wpAnyIn_of_quietR (C := fun w' => ∃ p : Regrown, w' = Sort.grow (redrawn w p.d) p.os) (Q0 := fun a' => ∀ w', (∃ p : Regrown, w' = Sort.grow (redrawn w p.d) p.os) → Q .normal a' w') (fun i o ho => ?_) (fun _ w' hw' h => h w' hw') _ _ _ _ ⟨⟨w.drawn + 1, #[]⟩, by rw [Sort.grow_empty]; rfl⟩ ?_)
  · have hm := List.mem_of_getElem? (l := l0) (by simpa using ho)
    exact List.all_eq_true.1 hd o hm
  · have := wpAnyQ_lex (C := fun w' => ∃ p : Regrown, w' = Sort.grow (redrawn w p.d) p.os) (md := .any) hB.1 l0 0 (Array.replicate l0.toArray.size false) a (by simp) (by simpa using hB.2) h
    simpa using this
end
theorem grown_belS {W W' : World} (hb : Below W.heap.size W W') : W.grownBy W' none := ⟨hb.os, hb.tape, hb.output, hb.size, fun k hk _ => hb.block k hk⟩
theorem keeps_belS {W W' : World} (hb : Below W.heap.size W W') : KeepsOthers W W' := ⟨hb.size, fun k o hk _ => (hb.block k (Array.getElem?_eq_some_iff.1 hk).1).trans hk⟩
/-! The iterator. -/
/-- A slot that is not empty. -/
def PtS (s : Sl) : Type := { k : Nat // k < 3 ∧ 0 < s.tm k }
def encS (s : Sl) (x : PtS s) : Array Value := #[.int .i64 (x.1 : Int), (s.row x.1).val]
/-- The slots among the first k that are not empty. -/
def upS (s : Sl) : Nat → List (PtS s)
  | 0 => []
  | k + 1 => upS s k ++ (if h : k < 3 ∧ 0 < s.tm k then [⟨k, h⟩] else [])
theorem upS_zero {s : Sl} : upS s 0 = [] := rfl
theorem upS_yes {s : Sl} {k : Nat} (h : k < 3 ∧ 0 < s.tm k) : upS s (k + 1) = upS s k ++ [⟨k, h⟩] := by rw [upS, dif_pos h]
theorem upS_no {s : Sl} {k : Nat} (h : ¬ 0 < s.tm k) : upS s (k + 1) = upS s k := by rw [upS, dif_neg (fun e => h e.2), List.append_nil]
theorem upS_pre {s : Sl} {k : Nat} (h : k ≤ 3) : upS s k <+: upS s 3 := by
  rcases (show k = 0 ∨ k = 1 ∨ k = 2 ∨ k = 3 by omega) with rfl | rfl | rfl | rfl
  · exact List.nil_prefix
  · exact ⟨_, (List.append_assoc _ _ _).symm⟩
  · exact ⟨_, rfl⟩
  · exact List.prefix_refl _
theorem upS_len {s : Sl} : ∀ k, (upS s k).length ≤ k
  | 0 => Nat.le_refl _
  | k + 1 => by
    rw [upS, List.length_append]
    have := upS_len (s := s) k
    split
    · show _ + 1 ≤ k + 1; omega
    · show _ + 0 ≤ k + 1; omega
theorem a_one {s : Sl} : ones (aSl s) := fun v hv => by
  unfold aSl arr3 at hv
  rcases List.mem_append.1 hv with hv | hv
  · exact hcel_one v hv
  rcases List.mem_append.1 hv with hv | hv
  · exact hcel_one v hv
  · exact hcel_one v hv
theorem ix_arr {s : Sl} (hs : s.ok) (k : Nat) (c : Cfg) (t : Nat) (hc : c.ok) (hk : k < 3) (e : ((aSl s).drop (k * 20)).take 20 = hcel c t) (W : World) : (Instr.index 67 (.agg (aSl s).toArray) (.int .i64 (k : Int))).run Tryz.prog W = .ok (.agg (hcel c t).toArray) W := by
  obtain ⟨i, hi⟩ := info_of_underlying held_u
  have hcs : Tryz.prog.cellsOf 66 = 20 := by kernel_rfl
  have ex : (aSl s).toArray.extract (k * 20) (k * 20 + 20) = (hcel c t).toArray := by
    apply Array.toList_inj.1
    rw [Array.toList_extract]
    simp only [List.extract]
    rw [show k * 20 + 20 - k * 20 = 20 by omega]
    exact e
  have hk0 : (0 : Int) ≤ (k : Int) ∧ (k : Int) < ((3 : Nat) : Int) := by omega
  unfold Instr.index
  simp only [asIntOf, Sem.run_bind, Sem.run_pure, Result.andThen_ok, run_underlying Tryz.underlying67, run_sizeOf W hi, hcs, if_pos hk0, Int.toNat_natCast, part, isAgg, run_underlying held_u, if_true, ex]
theorem ix_0 {s : Sl} (hs : s.ok) (W : World) : (Instr.index 67 (.agg (aSl s).toArray) (.int .i64 0)).run Tryz.prog W = .ok (.agg (hcel (s.row 0) (s.tm 0)).toArray) W := ix_arr hs 0 _ _ (hs.g 0) (by decide) (aSl_0 hs) W
theorem ix_1 {s : Sl} (hs : s.ok) (W : World) : (Instr.index 67 (.agg (aSl s).toArray) (.int .i64 1)).run Tryz.prog W = .ok (.agg (hcel (s.row 1) (s.tm 1)).toArray) W := ix_arr hs 1 _ _ (hs.g 1) (by decide) (aSl_1 hs) W
theorem ix_2 {s : Sl} (hs : s.ok) (W : World) : (Instr.index 67 (.agg (aSl s).toArray) (.int .i64 2)).run Tryz.prog W = .ok (.agg (hcel (s.row 2) (s.tm 2)).toArray) W := ix_arr hs 2 _ _ (hs.g 2) (by decide) (aSl_2 hs) W
attribute [local irreducible] Cfg.val Cfg.cells rtB Rt zK sizeC zeroC hcel zh pSl rSl aSl hasS ofS tmS tmN Sl.row Sl.tm inB upS
attribute [local go_sem ↓] ex_ldC ex_ldH ex_ldA
attribute [local go_sem] Oper.semAt_some

set_option maxRecDepth 100000 in
set_option maxHeartbeats 1000000 in
theorem all1_in (s : Sl) (hs : s.ok) (n : Nat) (hn : 1 ≤ n) (l q x B0 : Nat) (J Jx : List (PtS s) → World → Prop) (hJa : AbidesFrom B0 J)
    (hY : ∀ pre x W, J pre W → pre.length < 3 → YieldAt Fence.wide (n - 1) Tryz.prog l (encS s x) W fun e W' => (e = .returned (.bool true) ∧ J (pre ++ [x]) W' ∧ True) ∨ (e = .returned (.bool false) ∧ Jx (pre ++ [x]) W'))
    (W : World) (hq : W.cell? ⟨q, 0, none⟩ = some (.pointer (some ⟨x, 0, none⟩))) (hx : Blk 69 W x (pSl s)) (hJ0 : J [] W) :
    CallsIn Fence.wide n Tryz.prog 43 #[.func (.yield l) #[] #[], .pointer (some ⟨q, 0, none⟩)] W fun e W' => (∃ v, e = .returned v) ∧
      ((∃ ys, ys = upS s 3 ∧ J ys W') ∨ (∃ pre, pre <+: upS s 3 ∧ Jx pre W')) := by
  have HS := Lib.hid hs
  have HJA := Lib.hid (fun pre W W' (h : J pre W) (hb : Below W.heap.size W W') => hJa pre W W' none h (grown_belS hb) (fun r e => by cases e))
  have HYY := Lib.hid hY
  have HJ0 := Lib.hid hJ0
  have K0 := Lib.hid ((VK.start [] W).hold hx (by simp))
  have la := ld_sa hs hx
  have hix0 := ix_0 hs
  have hix1 := ix_1 hs
  have hix2 := ix_2 hs
  have HLN : Hid ((aSl s).length = (aSl zSl).length) := Lib.hid (by rw [aSl_len hs, aSl_len zSl_ok])
  clear hJa hY hJ0 hx hs
  refine callsIn_of_wp Tryz.func43 rfl trivial ?_ rfl
  simp only [Tryz.ntmps43, List.size_toArray, List.length_cons, List.length_nil, Nat.reduceAdd, Nat.reduceSub, Array.replicate_succ, Array.replicate_zero, List.push_toArray, List.append_toArray, List.nil_append, List.cons_append]
  gi_wp2_with (first
    | ((with_reducible show wpListIn _ _ _ _ _ (⟨some 9, _, _, _, _, _⟩ :: _) _ _); refine wpListIn_ldW (by go_simp) (.tmp 8) rfl _ (by exact la) ?_)
    | ((with_reducible show wpListIn _ _ _ _ _ (⟨some 10, _, _, _, _, _⟩ :: _) _ _); refine wpListIn_ldW (by go_simp) (.tmp 3) rfl _ (by exact laa) ?_)
    | (with_reducible show wpListIn _ _ _ _ _ (⟨some 3, .alloc _, _, _, _, _⟩ :: _) _ _; refine wpListIn_newB rt_arr rfl rfl ?_; intro w1 q3 hc1 hb1 hx1; have K1 := Lib.hid (K0.out.new hb1 hx1 hc1); have HQ := Lib.hid (Nat.le_trans K0.out.oth.size hx1); clear hc1 hb1 hx1)
    | (refine wpListIn_stB rt_arr rfl (.tmp 3) (.tmp 9) rfl q3 0 rfl (aSl zSl) (aSl s) rfl a_one HLN.out (by exact K1.out.b0) (by rw [Nat.zero_add]; exact Nat.le_refl _) ?_; intro w2 hc2 ho2 hs2; have K2 := Lib.hid (K1.out.put 0 rfl (.inr HQ.out) ho2 (by rwa [puts_whole _ _ HLN.out] at hc2) rfl); have laa := ld_aa HS.out K2.out.b0; clear hc2 ho2 hs2 la))
  have HJ2 := Lib.hid (HJA.out _ _ _ HJ0.out K2.out.bel)
  clear laa hq hix0 hix1 hix2
  gi_loopw [11] (fun t wr => ∃ k : Nat, k ≤ 3 ∧ t = .int .i64 (k : Int) ∧ Hid (J (upS s k) wr)) (fun t _ => 3 - (intOf t).toNat)
  case atStart => exact ⟨0, by omega, rfl, Lib.hid (by rw [upS_zero]; exact HJ2.out)⟩
  case round =>
    obtain ⟨k, hk, rfl, HJ⟩ := hrel
    clear HJ2 HJ0 K2 K1 K0 HQ
    by_cases hlt : k < 3
    · rcases (show k = 0 ∨ k = 1 ∨ k = 2 by omega) with rfl | rfl | rfl
      · have hix := ix_0 HS.out
        by_cases hm : 0 < s.tm 0
        · have HEV : Hid (decide ((s.row 0) = zeroC ∧ (s.tm 0) = 0) = false) := Lib.hid (decide_eq_false (fun e => by omega))
          gi_wp2_with (first
          | (with_reducible show wpListIn _ _ _ _ _ (⟨some 5, .alloc _, _, _, _, _⟩ :: _) _ _; refine wpListIn_newB rt_held rfl rfl ?_; intro w3 q5 hc1 hb1 hx1; have K3 := Lib.hid ((VK.start [] wr).new hb1 hx1 hc1); have HQ := Lib.hid hx1; clear hc1 hb1 hx1)
          | (refine wpListIn_stB rt_held rfl (.tmp 5) (.tmp 14) rfl q5 0 rfl zh (hcel (s.row 0) (s.tm 0)) rfl hcel_one (hcel_zh (HS.out.g _)) (by exact K3.out.b0) (by rw [zh_len]; decide) ?_; intro w4 hc2 ho2 hs2; have K4 := Lib.hid (K3.out.put 0 rfl (.inr HQ.out) ho2 (by rwa [puts_whole _ _ (hcel_zh (HS.out.g _))] at hc2) rfl); clear hc2 ho2 hs2)
          | ((with_reducible show wpListIn _ _ _ _ _ (⟨some 15, _, _, _, _, _⟩ :: _) _ _); refine wpListIn_ldW (by go_simp) (.tmp 5) rfl _ (by exact (ld_held (HS.out.g _) K4.out.b0)) ?_)
          | (refine ⟨trivial, ?_⟩; gi_at_call 32; refine (callsIn_wide.2 (empty_any (s.row 0) (HS.out.g _) (s.tm 0) false HEV.out _)).mono ?_; rintro e w5 ⟨rfl, hb⟩; have K5 := Lib.hid (K4.out.step hb); clear hb; have HJ5 := Lib.hid (HJA.out _ _ _ HJ.out K5.out.bel); obtain ⟨fn, tmps, assign, body, hy0, hR⟩ := HYY.out (upS s 0) ⟨0, by decide, hm⟩ w5 HJ5.out (Nat.lt_of_le_of_lt (upS_len 0) (by decide)); have hy : (Instr.yield l #[.int .i64 0, (s.row 0).val]).run Tryz.prog w5 = .ok (.round l fn tmps assign body) w5 := hy0; have HRD := Lib.hid hR; clear hR hy0)
          | ((with_reducible show wpListIn _ _ _ _ _ (⟨some 22, _, _, _, _, _⟩ :: _) _ _); refine wpListIn_ldW (by go_simp) (.tmp 21) rfl _ (by exact (ld_hcfg (HS.out.g _) K5.out.b0)) ?_))
          refine HRD.out.mono ?_
          rintro e W6 (⟨rfl, hJ6, -⟩ | ⟨rfl, hJx6⟩)
          · have HJ6 := Lib.hid hJ6
            clear hJ6 hy hix
            gi_wp2_with fail
            go_roundw
            case rel => exact ⟨1, by decide, rfl, Lib.hid (by rw [upS_yes ⟨by decide, hm⟩]; exact HJ6.out)⟩
            case measure => simp [intOf]
          · have HJX := Lib.hid hJx6
            clear hJx6 hy hix
            gi_wp2_with fail
            refine bodyPost_ret (results_none rfl _ _ _) rfl ?_
            exact ⟨⟨_, rfl⟩, .inr ⟨_, by rw [← upS_yes (k := 0) ⟨by decide, hm⟩]; exact upS_pre (by decide), HJX.out⟩⟩
        · have HEV : Hid (decide ((s.row 0) = zeroC ∧ (s.tm 0) = 0) = true) := Lib.hid (decide_eq_true (by have h0 : s.tm 0 = 0 := (by omega); exact ⟨HS.out.z _ h0, h0⟩))
          gi_wp2_with (first
          | (with_reducible show wpListIn _ _ _ _ _ (⟨some 5, .alloc _, _, _, _, _⟩ :: _) _ _; refine wpListIn_newB rt_held rfl rfl ?_; intro w3 q5 hc1 hb1 hx1; have K3 := Lib.hid ((VK.start [] wr).new hb1 hx1 hc1); have HQ := Lib.hid hx1; clear hc1 hb1 hx1)
          | (refine wpListIn_stB rt_held rfl (.tmp 5) (.tmp 14) rfl q5 0 rfl zh (hcel (s.row 0) (s.tm 0)) rfl hcel_one (hcel_zh (HS.out.g _)) (by exact K3.out.b0) (by rw [zh_len]; decide) ?_; intro w4 hc2 ho2 hs2; have K4 := Lib.hid (K3.out.put 0 rfl (.inr HQ.out) ho2 (by rwa [puts_whole _ _ (hcel_zh (HS.out.g _))] at hc2) rfl); clear hc2 ho2 hs2)
          | ((with_reducible show wpListIn _ _ _ _ _ (⟨some 15, _, _, _, _, _⟩ :: _) _ _); refine wpListIn_ldW (by go_simp) (.tmp 5) rfl _ (by exact (ld_held (HS.out.g _) K4.out.b0)) ?_)
          | (refine ⟨trivial, ?_⟩; gi_at_call 32; refine (callsIn_wide.2 (empty_any (s.row 0) (HS.out.g _) (s.tm 0) true HEV.out _)).mono ?_; rintro e w5 ⟨rfl, hb⟩; have K5 := Lib.hid (K4.out.step hb); clear hb; have HJ5 := Lib.hid (HJA.out _ _ _ HJ.out K5.out.bel)))
          refine ⟨(fun _ h => (by cases h)), ?_⟩
          clear hix
          gi_wp2_with fail
          go_roundw
          case rel => exact ⟨1, by decide, rfl, Lib.hid (by rw [upS_no hm]; exact HJ5.out)⟩
          case measure => simp [intOf]
      · have hix := ix_1 HS.out
        by_cases hm : 0 < s.tm 1
        · have HEV : Hid (decide ((s.row 1) = zeroC ∧ (s.tm 1) = 0) = false) := Lib.hid (decide_eq_false (fun e => by omega))
          gi_wp2_with (first
          | (with_reducible show wpListIn _ _ _ _ _ (⟨some 5, .alloc _, _, _, _, _⟩ :: _) _ _; refine wpListIn_newB rt_held rfl rfl ?_; intro w3 q5 hc1 hb1 hx1; have K3 := Lib.hid ((VK.start [] wr).new hb1 hx1 hc1); have HQ := Lib.hid hx1; clear hc1 hb1 hx1)
          | (refine wpListIn_stB rt_held rfl (.tmp 5) (.tmp 14) rfl q5 0 rfl zh (hcel (s.row 1) (s.tm 1)) rfl hcel_one (hcel_zh (HS.out.g _)) (by exact K3.out.b0) (by rw [zh_len]; decide) ?_; intro w4 hc2 ho2 hs2; have K4 := Lib.hid (K3.out.put 0 rfl (.inr HQ.out) ho2 (by rwa [puts_whole _ _ (hcel_zh (HS.out.g _))] at hc2) rfl); clear hc2 ho2 hs2)
          | ((with_reducible show wpListIn _ _ _ _ _ (⟨some 15, _, _, _, _, _⟩ :: _) _ _); refine wpListIn_ldW (by go_simp) (.tmp 5) rfl _ (by exact (ld_held (HS.out.g _) K4.out.b0)) ?_)
          | (refine ⟨trivial, ?_⟩; gi_at_call 32; refine (callsIn_wide.2 (empty_any (s.row 1) (HS.out.g _) (s.tm 1) false HEV.out _)).mono ?_; rintro e w5 ⟨rfl, hb⟩; have K5 := Lib.hid (K4.out.step hb); clear hb; have HJ5 := Lib.hid (HJA.out _ _ _ HJ.out K5.out.bel); obtain ⟨fn, tmps, assign, body, hy0, hR⟩ := HYY.out (upS s 1) ⟨1, by decide, hm⟩ w5 HJ5.out (Nat.lt_of_le_of_lt (upS_len 1) (by decide)); have hy : (Instr.yield l #[.int .i64 1, (s.row 1).val]).run Tryz.prog w5 = .ok (.round l fn tmps assign body) w5 := hy0; have HRD := Lib.hid hR; clear hR hy0)
          | ((with_reducible show wpListIn _ _ _ _ _ (⟨some 22, _, _, _, _, _⟩ :: _) _ _); refine wpListIn_ldW (by go_simp) (.tmp 21) rfl _ (by exact (ld_hcfg (HS.out.g _) K5.out.b0)) ?_))
          refine HRD.out.mono ?_
          rintro e W6 (⟨rfl, hJ6, -⟩ | ⟨rfl, hJx6⟩)
          · have HJ6 := Lib.hid hJ6
            clear hJ6 hy hix
            gi_wp2_with fail
            go_roundw
            case rel => exact ⟨2, by decide, rfl, Lib.hid (by rw [upS_yes ⟨by decide, hm⟩]; exact HJ6.out)⟩
            case measure => simp [intOf]
          · have HJX := Lib.hid hJx6
            clear hJx6 hy hix
            gi_wp2_with fail
            refine bodyPost_ret (results_none rfl _ _ _) rfl ?_
            exact ⟨⟨_, rfl⟩, .inr ⟨_, by rw [← upS_yes (k := 1) ⟨by decide, hm⟩]; exact upS_pre (by decide), HJX.out⟩⟩
        · have HEV : Hid (decide ((s.row 1) = zeroC ∧ (s.tm 1) = 0) = true) := Lib.hid (decide_eq_true (by have h0 : s.tm 1 = 0 := (by omega); exact ⟨HS.out.z _ h0, h0⟩))
          gi_wp2_with (first
          | (with_reducible show wpListIn _ _ _ _ _ (⟨some 5, .alloc _, _, _, _, _⟩ :: _) _ _; refine wpListIn_newB rt_held rfl rfl ?_; intro w3 q5 hc1 hb1 hx1; have K3 := Lib.hid ((VK.start [] wr).new hb1 hx1 hc1); have HQ := Lib.hid hx1; clear hc1 hb1 hx1)
          | (refine wpListIn_stB rt_held rfl (.tmp 5) (.tmp 14) rfl q5 0 rfl zh (hcel (s.row 1) (s.tm 1)) rfl hcel_one (hcel_zh (HS.out.g _)) (by exact K3.out.b0) (by rw [zh_len]; decide) ?_; intro w4 hc2 ho2 hs2; have K4 := Lib.hid (K3.out.put 0 rfl (.inr HQ.out) ho2 (by rwa [puts_whole _ _ (hcel_zh (HS.out.g _))] at hc2) rfl); clear hc2 ho2 hs2)
          | ((with_reducible show wpListIn _ _ _ _ _ (⟨some 15, _, _, _, _, _⟩ :: _) _ _); refine wpListIn_ldW (by go_simp) (.tmp 5) rfl _ (by exact (ld_held (HS.out.g _) K4.out.b0)) ?_)
          | (refine ⟨trivial, ?_⟩; gi_at_call 32; refine (callsIn_wide.2 (empty_any (s.row 1) (HS.out.g _) (s.tm 1) true HEV.out _)).mono ?_; rintro e w5 ⟨rfl, hb⟩; have K5 := Lib.hid (K4.out.step hb); clear hb; have HJ5 := Lib.hid (HJA.out _ _ _ HJ.out K5.out.bel)))
          refine ⟨(fun _ h => (by cases h)), ?_⟩
          clear hix
          gi_wp2_with fail
          go_roundw
          case rel => exact ⟨2, by decide, rfl, Lib.hid (by rw [upS_no hm]; exact HJ5.out)⟩
          case measure => simp [intOf]
      · have hix := ix_2 HS.out
        by_cases hm : 0 < s.tm 2
        · have HEV : Hid (decide ((s.row 2) = zeroC ∧ (s.tm 2) = 0) = false) := Lib.hid (decide_eq_false (fun e => by omega))
          gi_wp2_with (first
          | (with_reducible show wpListIn _ _ _ _ _ (⟨some 5, .alloc _, _, _, _, _⟩ :: _) _ _; refine wpListIn_newB rt_held rfl rfl ?_; intro w3 q5 hc1 hb1 hx1; have K3 := Lib.hid ((VK.start [] wr).new hb1 hx1 hc1); have HQ := Lib.hid hx1; clear hc1 hb1 hx1)
          | (refine wpListIn_stB rt_held rfl (.tmp 5) (.tmp 14) rfl q5 0 rfl zh (hcel (s.row 2) (s.tm 2)) rfl hcel_one (hcel_zh (HS.out.g _)) (by exact K3.out.b0) (by rw [zh_len]; decide) ?_; intro w4 hc2 ho2 hs2; have K4 := Lib.hid (K3.out.put 0 rfl (.inr HQ.out) ho2 (by rwa [puts_whole _ _ (hcel_zh (HS.out.g _))] at hc2) rfl); clear hc2 ho2 hs2)
          | ((with_reducible show wpListIn _ _ _ _ _ (⟨some 15, _, _, _, _, _⟩ :: _) _ _); refine wpListIn_ldW (by go_simp) (.tmp 5) rfl _ (by exact (ld_held (HS.out.g _) K4.out.b0)) ?_)
          | (refine ⟨trivial, ?_⟩; gi_at_call 32; refine (callsIn_wide.2 (empty_any (s.row 2) (HS.out.g _) (s.tm 2) false HEV.out _)).mono ?_; rintro e w5 ⟨rfl, hb⟩; have K5 := Lib.hid (K4.out.step hb); clear hb; have HJ5 := Lib.hid (HJA.out _ _ _ HJ.out K5.out.bel); obtain ⟨fn, tmps, assign, body, hy0, hR⟩ := HYY.out (upS s 2) ⟨2, by decide, hm⟩ w5 HJ5.out (Nat.lt_of_le_of_lt (upS_len 2) (by decide)); have hy : (Instr.yield l #[.int .i64 2, (s.row 2).val]).run Tryz.prog w5 = .ok (.round l fn tmps assign body) w5 := hy0; have HRD := Lib.hid hR; clear hR hy0)
          | ((with_reducible show wpListIn _ _ _ _ _ (⟨some 22, _, _, _, _, _⟩ :: _) _ _); refine wpListIn_ldW (by go_simp) (.tmp 21) rfl _ (by exact (ld_hcfg (HS.out.g _) K5.out.b0)) ?_))
          refine HRD.out.mono ?_
          rintro e W6 (⟨rfl, hJ6, -⟩ | ⟨rfl, hJx6⟩)
          · have HJ6 := Lib.hid hJ6
            clear hJ6 hy hix
            gi_wp2_with fail
            go_roundw
            case rel => exact ⟨3, by decide, rfl, Lib.hid (by rw [upS_yes ⟨by decide, hm⟩]; exact HJ6.out)⟩
            case measure => simp [intOf]
          · have HJX := Lib.hid hJx6
            clear hJx6 hy hix
            gi_wp2_with fail
            refine bodyPost_ret (results_none rfl _ _ _) rfl ?_
            exact ⟨⟨_, rfl⟩, .inr ⟨_, by rw [← upS_yes (k := 2) ⟨by decide, hm⟩]; exact upS_pre (by decide), HJX.out⟩⟩
        · have HEV : Hid (decide ((s.row 2) = zeroC ∧ (s.tm 2) = 0) = true) := Lib.hid (decide_eq_true (by have h0 : s.tm 2 = 0 := (by omega); exact ⟨HS.out.z _ h0, h0⟩))
          gi_wp2_with (first
          | (with_reducible show wpListIn _ _ _ _ _ (⟨some 5, .alloc _, _, _, _, _⟩ :: _) _ _; refine wpListIn_newB rt_held rfl rfl ?_; intro w3 q5 hc1 hb1 hx1; have K3 := Lib.hid ((VK.start [] wr).new hb1 hx1 hc1); have HQ := Lib.hid hx1; clear hc1 hb1 hx1)
          | (refine wpListIn_stB rt_held rfl (.tmp 5) (.tmp 14) rfl q5 0 rfl zh (hcel (s.row 2) (s.tm 2)) rfl hcel_one (hcel_zh (HS.out.g _)) (by exact K3.out.b0) (by rw [zh_len]; decide) ?_; intro w4 hc2 ho2 hs2; have K4 := Lib.hid (K3.out.put 0 rfl (.inr HQ.out) ho2 (by rwa [puts_whole _ _ (hcel_zh (HS.out.g _))] at hc2) rfl); clear hc2 ho2 hs2)
          | ((with_reducible show wpListIn _ _ _ _ _ (⟨some 15, _, _, _, _, _⟩ :: _) _ _); refine wpListIn_ldW (by go_simp) (.tmp 5) rfl _ (by exact (ld_held (HS.out.g _) K4.out.b0)) ?_)
          | (refine ⟨trivial, ?_⟩; gi_at_call 32; refine (callsIn_wide.2 (empty_any (s.row 2) (HS.out.g _) (s.tm 2) true HEV.out _)).mono ?_; rintro e w5 ⟨rfl, hb⟩; have K5 := Lib.hid (K4.out.step hb); clear hb; have HJ5 := Lib.hid (HJA.out _ _ _ HJ.out K5.out.bel)))
          refine ⟨(fun _ h => (by cases h)), ?_⟩
          clear hix
          gi_wp2_with fail
          go_roundw
          case rel => exact ⟨3, by decide, rfl, Lib.hid (by rw [upS_no hm]; exact HJ5.out)⟩
          case measure => simp [intOf]
    · obtain rfl : k = 3 := by omega
      gi_wp2_with fail
      go_end0
      exact ⟨⟨_, rfl⟩, .inl ⟨_, rfl, HJ.out⟩⟩
theorem all_stops (s : Sl) (hs : s.ok) (n : Nat) (hn : 1 ≤ n) (q x : Nat) (w : World) (hq : w.cell? ⟨q, 0, none⟩ = some (.pointer (some ⟨x, 0, none⟩))) (hqw : q < w.heap.size) (hx : Blk 69 w x (pSl s)) :
    SeqStopsK Fence.wide n Tryz.prog 43 #[.pointer (some ⟨q, 0, none⟩)] (encS s) (fun _ _ => True) (fun ys => ys = upS s 3) (fun pre => pre <+: upS s 3) 3 w := fun l J Jx W hW hJ _ hY h0 =>
  all1_in s hs n hn l q x W.heap.size J Jx hJ hY W ((hW.cell (p := ⟨q, 0, none⟩) hqw).trans hq) (hx.step hW) h0
end Go.Proofs.YtkcchidklcnnnaaGreat
