/- Layer 18: the statements' Agree. Condition: the configurations' keys have sixteen bytes. -/
import Derived.Test.YtkcchidklcnnnaaGreatSlI
import Derived.Test.YtkcchidklcnnnaaGreatSlR
import Derived.Test.YtkcchidklcnnnaaGreatMdUr
namespace Go.Proofs.YtkcchidklcnnnaaGreat
open Go.RowKit Go.Shelf
set_option linter.unusedVariables false
set_option linter.unusedSimpArgs false
section
variable {S : List Nat} {v w : World} {bs : List (TypeId × Nat × List Value)} {a b c d e f g : TypeId × Nat × List Value}
theorem VK.b3 (k : VK S v (a :: b :: c :: d :: bs) w) : Blk d.1 w d.2.1 d.2.2 := k.tail.b2
theorem VK.b4 (k : VK S v (a :: b :: c :: d :: e :: bs) w) : Blk e.1 w e.2.1 e.2.2 := k.tail.b3
theorem VK.b5 (k : VK S v (a :: b :: c :: d :: e :: f :: bs) w) : Blk f.1 w f.2.1 f.2.2 := k.tail.b4
theorem VK.b6 (k : VK S v (a :: b :: c :: d :: e :: f :: g :: bs) w) : Blk g.1 w g.2.1 g.2.2 := k.tail.b5
end
/-! Variables of one cell. -/
structure RW1 (T : TypeId) (z : Value) : Prop where
  info : (Tryz.prog.info? T).map (fun i => (i.zero, i.size)) = some (some z, 1)
theorem RW1.zero {T : TypeId} {z : Value} (h : RW1 T z) (w : World) : (zeroValue T).run Tryz.prog w = .ok z w := by
  have h2 := h.info
  rcases hi : Tryz.prog.info? T with _ | i
  · rw [hi] at h2; cases h2
  · rw [hi] at h2
    simp only [Option.map_some, Option.some.injEq, Prod.mk.injEq] at h2
    simp [zeroValue, typeInfo, hi, h2.1]
theorem RW1.size {T : TypeId} {z : Value} (h : RW1 T z) : (Tryz.prog.info? T).map (·.size) = some 1 := by
  have h2 := h.info
  rcases hi : Tryz.prog.info? T with _ | i
  · rw [hi] at h2; cases h2
  · rw [hi] at h2
    simp only [Option.map_some, Option.some.injEq, Prod.mk.injEq] at h2
    simp [h2.2]
theorem rw_int : RW1 3 (.int .i64 0) := ⟨by kernel_rfl⟩
theorem rw_bool : RW1 4 (.bool false) := ⟨by kernel_rfl⟩
section
variable {w : World} {ops : Array Oper} {rest : List Oper} {o : Oper} {a : Act} {Q : Exit → Act → World → Prop} {T : TypeId} {z : Value}
theorem wpList_newV (rt : RW1 T z) (hz : z.cells = #[z]) (hgd : o.guard = none) (hop : o.op = .alloc T)
    (hk : ∀ w' q, Blk T w' q [z] → Below w.heap.size w w' → w.heap.size ≤ q → wpList Tryz.prog ops Q rest (a.put o.dst (.pointer (some ⟨q, 0, none⟩))) w') : wpList Tryz.prog ops Q (o :: rest) a w := by
  have hk := hk _ _ (Blk.new w T [z] _ rfl) (below_alloc _ _) (Nat.le_refl _)
  refine wpList_plain hgd fun K hK => ?_
  have hz1 := rt.zero w
  have hr : (Instr.alloc T true (.tuple #[])).run Tryz.prog w = .ok (.pointer (some ⟨w.heap.size, 0, none⟩)) (w.alloc (.cells #[z] T)) := by
    unfold Instr.alloc
    simp only [Sem.run_bind, hz1, Result.andThen_ok]
    rw [← hz]
    rfl
  unfold Oper.wp execOp
  simp only [hop, Sem.run_bind, hr, Result.andThen_ok]
  exact hK _ _ hk
theorem wpList_boxV (hgd : o.guard = none) (T : TypeId) (x : Operand) (hop : o.op = .box T x) (v : Value) (hx : a.eval x = v) (hv : v.cells = #[v])
    (hk : ∀ w' q, Blk T w' q [v] → Below w.heap.size w w' → w.heap.size ≤ q → wpList Tryz.prog ops Q rest (a.put o.dst (.pointer (some ⟨q, 0, none⟩))) w') : wpList Tryz.prog ops Q (o :: rest) a w := by
  have hk := hk _ _ (Blk.new w T [v] _ rfl) (below_alloc _ _) (Nat.le_refl _)
  refine wpList_plain hgd fun K hK => ?_
  have hr : (Instr.box T v).run Tryz.prog w = .ok (.pointer (some ⟨w.heap.size, 0, none⟩)) (w.alloc (.cells #[v] T)) := by rw [← hv]; rfl
  unfold Oper.wp execOp
  simp only [hop, hx, Sem.run_bind, hr, Result.andThen_ok]
  exact hK _ _ hk
theorem wpListIn_stC {F : Fence} {nf : Nat} {ty : TypeId} (hty : (Tryz.prog.info? ty).map (·.size) = some 1) (hgd : o.guard = none) (x y : Operand) (hop : o.op = .store ty x y) (g j : Nat) (hx : a.eval x = .pointer (some ⟨g, j, none⟩)) (v : Value) (hy : a.eval y = v) (h1 : v.oneCell' = true) (cs : List Value) (hc : Blk T w g cs) (hj : j < cs.length)
    (hk : ∀ w', Blk T w' g (cs.set j v) → Oth [g] w w' → w'.heap.size = w.heap.size → wpListIn F nf Tryz.prog ops Q rest (a.put o.dst undef) w') : wpListIn F nf Tryz.prog ops Q (o :: rest) a w := by
  have hrun : (storeVar ty ⟨g, j, none⟩ v).run Tryz.prog w = .ok () (w.setCell ⟨g, j, none⟩ v) := by
    have h2 := run_storeCells_cells (P := Tryz.prog) g j [v] 0 w (fun i hi => by
      obtain rfl : i = 0 := by simpa using hi
      show (w.cell? ⟨g, j, none⟩).isSome = true
      rw [hc.cell, List.getElem?_eq_getElem hj]; rfl) (fun i _ => hc.free _) (fun u hu => by simp at hu; subst hu; exact h1)
    have hcs : v.cells = #[v] := by cases v <;> first | rfl | cases h1
    cases hq : Tryz.prog.info? ty with
    | none => simp [hq] at hty
    | some i =>
      have hs : i.size = 1 := by simpa [hq] using hty
      simp only [Nat.add_zero] at h2
      simp [storeVar, sizeOf, typeInfo, hq, hcs, hs, h2, World.setCells]
  have hk := hk _ (hc.set j v) ((Oth.refl [g] w).set (x := g) (by simp) j v) (by simp)
  refine wpListIn_plain hgd fun K hK => ⟨fun f hf => ?_, ?_⟩
  · simp [Oper.about, hop] at hf
  · rw [Oper.semAt_eq _ _ _ (by simp [hop])]
    unfold execOp
    simp only [hop, hx, hy, Instr.storeAt, Instr.sureAddr, Sem.run_bind, Sem.run_pure, Result.andThen_ok, hrun]
    exact hK _ _ hk
end
theorem all18_b (x : Nat) (w : World) :
    Calls Tryz.prog 25 #[.pointer (some ⟨x, 0, none⟩)] w fun e w' => ∃ q, e = .returned (.func (.func 43) #[] #[.pointer (some ⟨q, 0, none⟩)]) ∧ Blk 24 w' q [.pointer (some ⟨x, 0, none⟩)] ∧ w.heap.size ≤ q ∧ Below w.heap.size w w' :=
  (all18_any x w).mono fun e w' ⟨he, hw⟩ => ⟨w.heap.size, he, by rw [hw]; exact Blk.new w 24 [.pointer (some ⟨x, 0, none⟩)] _ rfl, Nat.le_refl _, by rw [hw]; exact below_alloc _ _⟩
/-! What the range over the slots counts. -/
def lastI {s : Sl} (pre : List (PtS s)) : Int := match pre.getLast? with | none => -1 | some x => (x.1 : Int)
def UpL {s : Sl} (pre : List (PtS s)) : Prop := pre.Pairwise (fun a b => a.1 < b.1)
section
variable {s : Sl} {pre : List (PtS s)} {x : PtS s}
theorem last_nil : lastI ([] : List (PtS s)) = -1 := rfl
theorem up_nil : UpL ([] : List (PtS s)) := List.Pairwise.nil
theorem last_snoc : lastI (pre ++ [x]) = (x.1 : Int) := by unfold lastI; rw [List.getLast?_concat]
theorem last_le (h : UpL pre) : ∀ a ∈ pre, (a.1 : Int) ≤ lastI pre := by
  rcases List.eq_nil_or_concat pre with rfl | ⟨L, b, e⟩
  · intro a ha; cases ha
  · intro a ha
    rw [List.concat_eq_append] at e
    subst e
    rw [last_snoc]
    unfold UpL at h
    rw [List.pairwise_append] at h
    rcases List.mem_append.1 ha with ha | ha
    · have := h.2.2 a ha b (by simp); omega
    · rw [List.mem_singleton.1 ha]; omega
theorem last_in : lastI pre = -1 ∨ ∃ a ∈ pre, (a.1 : Int) = lastI pre := by
  rcases List.eq_nil_or_concat pre with rfl | ⟨L, b, e⟩
  · exact .inl rfl
  · rw [List.concat_eq_append] at e
    subst e
    exact .inr ⟨b, by simp, last_snoc.symm⟩
theorem up_snoc (h : UpL pre) (hx : lastI pre < (x.1 : Int)) : UpL (pre ++ [x]) := by
  unfold UpL
  rw [List.pairwise_append]
  exact ⟨h, List.pairwise_singleton _ _, fun a ha b hb => by
    rw [List.mem_singleton.1 hb]
    have := last_le h a ha
    omega⟩
theorem up_not (hx : ¬ lastI pre < (x.1 : Int)) : ¬ UpL (pre ++ [x]) := fun h => by
  unfold UpL at h
  rw [List.pairwise_append] at h
  rcases last_in (pre := pre) with e | ⟨a, ha, e⟩
  · omega
  · have := h.2.2 a ha x (by simp)
    omega
theorem up_pre {l : List (PtS s)} (h : UpL l) (hp : pre <+: l) : UpL pre := by
  obtain ⟨t, rfl⟩ := hp
  unfold UpL at h
  rw [List.pairwise_append] at h
  exact h.1
theorem up_full : ∀ k, UpL (upS s k) ∧ ∀ a ∈ upS s k, a.1 < k
  | 0 => ⟨List.Pairwise.nil, fun a ha => by cases ha⟩
  | k + 1 => by
    obtain ⟨h1, h2⟩ := up_full k
    by_cases hm : k < 3 ∧ 0 < s.tm k
    · rw [upS_yes hm]
      refine ⟨?_, fun a ha => ?_⟩
      · unfold UpL
        rw [List.pairwise_append]
        exact ⟨h1, List.pairwise_singleton _ _, fun a ha b hb => by rw [List.mem_singleton.1 hb]; exact h2 a ha⟩
      · rcases List.mem_append.1 ha with ha | ha
        · have := h2 a ha; omega
        · rw [List.mem_singleton.1 ha]; exact Nat.lt_succ_self _
    · rw [show upS s (k + 1) = upS s k by rw [upS, dif_neg hm, List.append_nil]]
      exact ⟨h1, fun a ha => Nat.lt_succ_of_lt (h2 a ha)⟩
end
/-- A walk's blocks abide what a range over a function turns. -/
theorem VK.turned {v W W' : World} {bs : List (TypeId × Nat × List Value)} {row : Option Nat} {B : Nat} (k : VK [] v bs W) (hB : v.heap.size ≤ B) (hg : W.grownBy W' row) (hr : ∀ r, row = some r → B ≤ r ∧ ∃ o : Obj, W.heap[r]? = some o ∧ o.isCells = false) : VK [] v bs W' :=
  ⟨Oth.of_below (k.bel.grown hg k.bel.size (fun j e => Nat.le_trans hB (hr j e).1)), fun b hb => (grownBy_keeps_cells hg (fun r e => (hr r e).2) (k.blk b hb) rfl).trans (k.blk b hb), k.nd⟩
theorem Blk.turned {W W' : World} {T : TypeId} {q : Nat} {cs : List Value} {row : Option Nat} {B : Nat} (k : Blk T W q cs) (hg : W.grownBy W' row) (hr : ∀ r, row = some r → B ≤ r ∧ ∃ o : Obj, W.heap[r]? = some o ∧ o.isCells = false) : Blk T W' q cs :=
  (grownBy_keeps_cells hg (fun r e => (hr r e).2) k rfl).trans k
theorem keeps_oth {w w' : World} {T : TypeId} {q : Nat} {cs : List Value} (k : Blk T w q cs) (ho : Oth [q] w w') : KeepsOthers w w' := ⟨ho.size, fun j o hj hc => by
  by_cases e : j = q
  · subst e
    rw [show w.heap[j]? = _ from k] at hj
    injection hj with hj
    subst hj
    cases hc
  · exact (ho.block j (Array.getElem?_eq_some_iff.1 hj).1 (by simp [e])).trans hj⟩
theorem has_k {s : Sl} {k : Nat} (hk : k < 3) : hasS s (k : Int) = decide (0 < s.tm k) := by
  unfold hasS; rw [decide_eq_decide, Int.toNat_natCast]; exact ⟨fun e => e.2, fun e => ⟨by omega, e⟩⟩
theorem zeroC_lit : (Value.agg #[.int .i64 0, .int .i64 0, .int .i64 0, .int .u8 0, .int .u8 0, .int .u8 0, .int .u8 0, .int .u8 0, .int .u8 0, .int .u8 0, .int .u8 0, .int .u8 0, .int .u8 0, .int .u8 0, .int .u8 0, .int .u8 0, .int .u8 0, .int .u8 0, .int .u8 0]) = zeroC.val := rfl
attribute [local irreducible] Cfg.val Cfg.cells rtB Rt zK sizeC zeroC hcel zh pSl rSl aSl hasS ofS tmS tmN Sl.row Sl.tm inB upS lastI UpL
attribute [local go_sem ↓] ex_ldC ex_ldR
attribute [local go_sem] Oper.semAt_some
set_option maxRecDepth 100000 in
set_option maxHeartbeats 1000000 in
theorem agree_any (x y : Nat) (s : Sl) (hs : s.ok) (w : World) (h : Blk 69 w x (pSl s)) (h' : Blk 33 w y (rSl s)) :
    Calls Tryz.prog 10 #[.pointer (some ⟨x, 0, none⟩), .pointer (some ⟨y, 0, none⟩)] w fun e w' => e = .returned (.bool true) ∧ Below w.heap.size w w' := by
  have HS := Lib.hid hs
  have K0 := Lib.hid (((VK.start [] w).hold h' (by simp)).hold h (by simpa using h.far h' (by decide)))
  clear hs h h'
  refine (callsIn_wide (n := 3)).1 ?_
  refine callsIn_of_wp_marks Tryz.func10 rfl trivial ?_ rfl
  simp only [Tryz.ntmps10, List.size_toArray, List.length_cons, List.length_nil, Nat.reduceAdd, Nat.reduceSub, Array.replicate_succ, Array.replicate_zero, List.push_toArray, List.append_toArray, List.nil_append, List.cons_append]
  refine wpIn_wide.2 ?_
  go_wp2_with (first
    | (refine wpList_boxV rfl 26 (.tmp 1) rfl _ rfl rfl ?_; intro w1 q3 hc1 hb1 hx1; have K1 := Lib.hid (K0.out.new hb1 hx1 hc1); have HQ3 := Lib.hid (Nat.le_trans K0.out.oth.size hx1); clear hc1 hb1 hx1)
    | ((with_reducible show wpList _ _ _ (⟨some 4, .alloc _, _, _, _, _⟩ :: _) _ _); refine wpList_newV rw_bool rfl rfl rfl ?_; intro w2 q4 hc1 hb1 hx1; have K2 := Lib.hid (K1.out.new hb1 hx1 hc1); have HQ4 := Lib.hid (Nat.le_trans K1.out.oth.size hx1); clear hc1 hb1 hx1))
  go_loopw [5] (fun t wr => ∃ p : Int, -1 ≤ p ∧ p ≤ 4 ∧ t = .int .i64 p ∧ Hid (VK [] w [(4, q4, [.bool false]), (26, q3, [.pointer (some ⟨y, 0, none⟩)]), (69, x, pSl s), (33, y, rSl s)] wr)) (fun t _ => (4 - intOf t).toNat)
  case atStart => exact ⟨-1, by omega, by omega, rfl, K2⟩
  case round =>
    obtain ⟨p, hp0, hp4, rfl, KR⟩ := hrel
    clear K0 K1 K2
    by_cases hlt : p < 4
    · cases hh : hasS s p
      · have _ := 0
        have HO : Hid (ofS s p = zeroC) := Lib.hid (has_no hh).1
        have HT : Hid (tmS s p = 0) := Lib.hid (has_no hh).2.1
        have HH := Lib.hid hh
        clear hh
        have HST : Hid (∀ u : World, Blk 69 u x (pSl s) → Calls Tryz.prog 20 #[.pointer (some ⟨x, 0, none⟩), .int .i64 p] u fun e w' => e = .returned (.int .i64 0) ∧ Below u.heap.size u w') := Lib.hid (fun u hu => by have hz := stamp18_any s HS.out x p u hu; rw [HT.out] at hz; exact hz)
        go_wp2_with fail
        refine (of18_any s HS.out x p _ KR.out.b2).mono ?_
        rw [HO.out, HH.out]
        rintro e w1 ⟨rfl, hb⟩
        have K1 := Lib.hid (KR.out.step hb)
        clear hb
        go_wp2_with (first
          | ((with_reducible show wpList _ _ _ (⟨some 6, .alloc _, _, _, _, _⟩ :: _) _ _); refine wpList_newB rt_cfg rfl rfl ?_; intro w3 q6 hc1 hb1 hx1; have K2 := Lib.hid (K1.out.new hb1 hx1 hc1); have HQ6 := Lib.hid (Nat.le_trans K1.out.oth.size hx1); clear hc1 hb1 hx1)
          | (refine wpList_stB rt_cfg rfl (.tmp 6) (.tmp 21) rfl q6 0 rfl zeroC.cells zeroC.cells (val_agg _) (cells_one _) (by exact (Cfg.cells_len zeroC_ok).trans zeroC_len.symm) (by exact K2.out.b0) (by rw [zeroC_len]; decide) ?_; intro w4 hc2 ho2 hs2; have K3 := Lib.hid (K2.out.put 0 rfl (.inr HQ6.out) ho2 (by rwa [puts_whole _ _ ((Cfg.cells_len zeroC_ok).trans zeroC_len.symm)] at hc2) rfl); have c3 := K3.out.b2.cell 0; dsimp only [List.getElem?_cons_zero] at c3; clear hc2 ho2 hs2))
        refine (rhas_any s HS.out y p false HH.out _ K3.out.b4).mono ?_
        rintro e w5 ⟨rfl, rfl⟩
        clear c3
        go_wp2_with fail
        have hq1 : ∀ W : World, (binOp .neq 35 zeroC.val (.agg #[.int .i64 0, .int .i64 0, .int .i64 0, .int .u8 0, .int .u8 0, .int .u8 0, .int .u8 0, .int .u8 0, .int .u8 0, .int .u8 0, .int .u8 0, .int .u8 0, .int .u8 0, .int .u8 0, .int .u8 0, .int .u8 0, .int .u8 0, .int .u8 0, .int .u8 0])).run Tryz.prog W = .ok (.bool false) W := fun W => by rw [zeroC_lit, neq_cfg et_cfg zeroC zeroC zeroC_ok zeroC_ok, decide_eq_true rfl]; rfl
        have hg1 : ∀ (op : BinOp) (x y : Operand) (cs : Array Value) (W : World), (eqGuard op 35 x y zeroC.val (.agg cs)).run Tryz.prog W = .ok () W := fun op x y cs W => by rw [val_agg]; exact run_eqGuard_agg W op _ x y _ _ et_cfg.g
        have lc : ∀ (d : Nat) (os : Array Obj), ldHd 35 (.pointer (some ⟨q6, 0, none⟩)) (Sort.grow (redrawn w4 d) os) = .ok (.value zeroC.val) (Sort.grow (redrawn w4 d) os) := fun d os => ld_cfg rt_cfg (K3.out.b0.step (below_regrown w4 d os)) zeroC_ok
        refine wp_region_quiet_below (by kernel_rfl) (by kernel_rfl) ?_
        repeat (go_big_quiet_step ((first
          | (go_at_call 20; exact Calls.regrown_of (HST.out _ (K3.out.b3.step (below_regrown w4 _ _)))))))
        refine wpQuiet_nil ?_
        intro _ hw'
        obtain ⟨⟨dq, osq⟩, hw''⟩ := hw'
        subst hw''
        have hb3 := below_regrown w4 dq osq
        generalize Sort.grow (redrawn w4 dq) osq = w6 at hb3 ⊢
        have K4 := Lib.hid (K3.out.step hb3)
        clear hb3 lc hq1 hg1
        go_wp2_with fail
        go_roundw
        case rel => exact ⟨p + 1, by omega, by omega, rfl, Lib.hid K4.out.tail⟩
        case measure => simp [intOf]; omega
      · have hi : inB p = true := by
          cases hi : inB p
          · rw [in_no hi] at hh; cases hh
          · rfl
        clear hlt hp0 hp4
        rcases in_cases hi with he | he | he
        · clear hi
          subst he
          have HO : Hid (ofS s 0 = (s.row 0)) := Lib.hid (has_yes hh).1
          have HT : Hid (tmS s 0 = (s.tm 0 : Int)) := Lib.hid (has_yes hh).2.1
          have HH := Lib.hid hh
          clear hh
          have HST : Hid (∀ u : World, Blk 69 u x (pSl s) → Calls Tryz.prog 20 #[.pointer (some ⟨x, 0, none⟩), .int .i64 0] u fun e w' => e = .returned (.int .i64 (s.tm 0 : Int)) ∧ Below u.heap.size u w') := Lib.hid (fun u hu => by have hz := stamp18_any s HS.out x 0 u hu; rw [HT.out] at hz; exact hz)
          go_wp2_with fail
          refine (of18_any s HS.out x 0 _ KR.out.b2).mono ?_
          rw [HO.out, HH.out]
          rintro e w1 ⟨rfl, hb⟩
          have K1 := Lib.hid (KR.out.step hb)
          clear hb
          go_wp2_with (first
            | ((with_reducible show wpList _ _ _ (⟨some 6, .alloc _, _, _, _, _⟩ :: _) _ _); refine wpList_newB rt_cfg rfl rfl ?_; intro w3 q6 hc1 hb1 hx1; have K2 := Lib.hid (K1.out.new hb1 hx1 hc1); have HQ6 := Lib.hid (Nat.le_trans K1.out.oth.size hx1); clear hc1 hb1 hx1)
            | (refine wpList_stB rt_cfg rfl (.tmp 6) (.tmp 21) rfl q6 0 rfl zeroC.cells (s.row 0).cells (val_agg _) (cells_one _) (by exact (Cfg.cells_len (HS.out.g 0)).trans zeroC_len.symm) (by exact K2.out.b0) (by rw [zeroC_len]; decide) ?_; intro w4 hc2 ho2 hs2; have K3 := Lib.hid (K2.out.put 0 rfl (.inr HQ6.out) ho2 (by rwa [puts_whole _ _ ((Cfg.cells_len (HS.out.g 0)).trans zeroC_len.symm)] at hc2) rfl); have c3 := K3.out.b2.cell 0; dsimp only [List.getElem?_cons_zero] at c3; clear hc2 ho2 hs2))
          refine (rhas_any s HS.out y 0 true HH.out _ K3.out.b4).mono ?_
          rintro e w5 ⟨rfl, rfl⟩
          clear c3
          go_wp2_with fail
          have hq1 : ∀ W : World, (binOp .neq 29 (s.row 0).val (s.row 0).val).run Tryz.prog W = .ok (.bool false) W := fun W => by rw [neq_cfg et_rcfg _ _ (HS.out.g 0) (HS.out.g 0), decide_eq_true rfl]; rfl
          have hg1 : ∀ (op : BinOp) (x y : Operand) (W : World), (eqGuard op 29 x y (s.row 0).val (s.row 0).val).run Tryz.prog W = .ok () W := fun op x y W => by rw [val_agg]; exact run_eqGuard_agg W op _ x y _ _ et_rcfg.g
          have lr : ∀ (d : Nat) (os : Array Obj), ldHd 29 (.pointer (some ⟨y, 0, none⟩)) (Sort.grow (redrawn w4 d) os) = .ok (.value (s.row 0).val) (Sort.grow (redrawn w4 d) os) := fun d os => ld_r0 HS.out (K3.out.b4.step (below_regrown w4 d os))
          have lt : ∀ (d : Nat) (os : Array Obj), (Sort.grow (redrawn w4 d) os).cell? ⟨y, 57, none⟩ = some (.int .i64 (s.tm 0 : Int)) := fun d os => r_t0 HS.out (K3.out.b4.step (below_regrown w4 d os))
          have lp : ∀ (d : Nat) (os : Array Obj), (Sort.grow (redrawn w4 d) os).cell? ⟨q3, 0, none⟩ = some (.pointer (some ⟨y, 0, none⟩)) := fun d os => (K3.out.b2.step (below_regrown w4 d os)).cell 0
          have lc : ∀ (d : Nat) (os : Array Obj), ldHd 35 (.pointer (some ⟨q6, 0, none⟩)) (Sort.grow (redrawn w4 d) os) = .ok (.value (s.row 0).val) (Sort.grow (redrawn w4 d) os) := fun d os => ld_cfg rt_cfg (K3.out.b0.step (below_regrown w4 d os)) (HS.out.g 0)
          refine wp_region_quiet_below (by kernel_rfl) (by kernel_rfl) ?_
          repeat (go_big_quiet_step ((first
            | (go_at_call 27; exact Calls.regrown_of (mof_any (s.row 0) (HS.out.g 0) _))
            | (go_at_call 20; exact Calls.regrown_of (HST.out _ (K3.out.b3.step (below_regrown w4 _ _)))))))
          refine wpQuiet_nil ?_
          intro _ hw'
          obtain ⟨⟨dq, osq⟩, hw''⟩ := hw'
          subst hw''
          have hb3 := below_regrown w4 dq osq
          generalize Sort.grow (redrawn w4 dq) osq = w6 at hb3 ⊢
          have K4 := Lib.hid (K3.out.step hb3)
          clear hb3 lc hq1 hg1 lr lt lp
          go_wp2_with fail
          go_roundw
          case rel => exact ⟨1, by omega, by omega, rfl, Lib.hid K4.out.tail⟩
          case measure => simp [intOf]
        · clear hi
          subst he
          have HO : Hid (ofS s 1 = (s.row 1)) := Lib.hid (has_yes hh).1
          have HT : Hid (tmS s 1 = (s.tm 1 : Int)) := Lib.hid (has_yes hh).2.1
          have HH := Lib.hid hh
          clear hh
          have HST : Hid (∀ u : World, Blk 69 u x (pSl s) → Calls Tryz.prog 20 #[.pointer (some ⟨x, 0, none⟩), .int .i64 1] u fun e w' => e = .returned (.int .i64 (s.tm 1 : Int)) ∧ Below u.heap.size u w') := Lib.hid (fun u hu => by have hz := stamp18_any s HS.out x 1 u hu; rw [HT.out] at hz; exact hz)
          go_wp2_with fail
          refine (of18_any s HS.out x 1 _ KR.out.b2).mono ?_
          rw [HO.out, HH.out]
          rintro e w1 ⟨rfl, hb⟩
          have K1 := Lib.hid (KR.out.step hb)
          clear hb
          go_wp2_with (first
            | ((with_reducible show wpList _ _ _ (⟨some 6, .alloc _, _, _, _, _⟩ :: _) _ _); refine wpList_newB rt_cfg rfl rfl ?_; intro w3 q6 hc1 hb1 hx1; have K2 := Lib.hid (K1.out.new hb1 hx1 hc1); have HQ6 := Lib.hid (Nat.le_trans K1.out.oth.size hx1); clear hc1 hb1 hx1)
            | (refine wpList_stB rt_cfg rfl (.tmp 6) (.tmp 21) rfl q6 0 rfl zeroC.cells (s.row 1).cells (val_agg _) (cells_one _) (by exact (Cfg.cells_len (HS.out.g 1)).trans zeroC_len.symm) (by exact K2.out.b0) (by rw [zeroC_len]; decide) ?_; intro w4 hc2 ho2 hs2; have K3 := Lib.hid (K2.out.put 0 rfl (.inr HQ6.out) ho2 (by rwa [puts_whole _ _ ((Cfg.cells_len (HS.out.g 1)).trans zeroC_len.symm)] at hc2) rfl); have c3 := K3.out.b2.cell 0; dsimp only [List.getElem?_cons_zero] at c3; clear hc2 ho2 hs2))
          refine (rhas_any s HS.out y 1 true HH.out _ K3.out.b4).mono ?_
          rintro e w5 ⟨rfl, rfl⟩
          clear c3
          go_wp2_with fail
          have hq1 : ∀ W : World, (binOp .neq 29 (s.row 1).val (s.row 1).val).run Tryz.prog W = .ok (.bool false) W := fun W => by rw [neq_cfg et_rcfg _ _ (HS.out.g 1) (HS.out.g 1), decide_eq_true rfl]; rfl
          have hg1 : ∀ (op : BinOp) (x y : Operand) (W : World), (eqGuard op 29 x y (s.row 1).val (s.row 1).val).run Tryz.prog W = .ok () W := fun op x y W => by rw [val_agg]; exact run_eqGuard_agg W op _ x y _ _ et_rcfg.g
          have lr : ∀ (d : Nat) (os : Array Obj), ldHd 29 (.pointer (some ⟨y, 19, none⟩)) (Sort.grow (redrawn w4 d) os) = .ok (.value (s.row 1).val) (Sort.grow (redrawn w4 d) os) := fun d os => ld_r1 HS.out (K3.out.b4.step (below_regrown w4 d os))
          have lt : ∀ (d : Nat) (os : Array Obj), (Sort.grow (redrawn w4 d) os).cell? ⟨y, 58, none⟩ = some (.int .i64 (s.tm 1 : Int)) := fun d os => r_t1 HS.out (K3.out.b4.step (below_regrown w4 d os))
          have lp : ∀ (d : Nat) (os : Array Obj), (Sort.grow (redrawn w4 d) os).cell? ⟨q3, 0, none⟩ = some (.pointer (some ⟨y, 0, none⟩)) := fun d os => (K3.out.b2.step (below_regrown w4 d os)).cell 0
          have lc : ∀ (d : Nat) (os : Array Obj), ldHd 35 (.pointer (some ⟨q6, 0, none⟩)) (Sort.grow (redrawn w4 d) os) = .ok (.value (s.row 1).val) (Sort.grow (redrawn w4 d) os) := fun d os => ld_cfg rt_cfg (K3.out.b0.step (below_regrown w4 d os)) (HS.out.g 1)
          refine wp_region_quiet_below (by kernel_rfl) (by kernel_rfl) ?_
          repeat (go_big_quiet_step ((first
            | (go_at_call 27; exact Calls.regrown_of (mof_any (s.row 1) (HS.out.g 1) _))
            | (go_at_call 20; exact Calls.regrown_of (HST.out _ (K3.out.b3.step (below_regrown w4 _ _)))))))
          refine wpQuiet_nil ?_
          intro _ hw'
          obtain ⟨⟨dq, osq⟩, hw''⟩ := hw'
          subst hw''
          have hb3 := below_regrown w4 dq osq
          generalize Sort.grow (redrawn w4 dq) osq = w6 at hb3 ⊢
          have K4 := Lib.hid (K3.out.step hb3)
          clear hb3 lc hq1 hg1 lr lt lp
          go_wp2_with fail
          go_roundw
          case rel => exact ⟨2, by omega, by omega, rfl, Lib.hid K4.out.tail⟩
          case measure => simp [intOf]
        · clear hi
          subst he
          have HO : Hid (ofS s 2 = (s.row 2)) := Lib.hid (has_yes hh).1
          have HT : Hid (tmS s 2 = (s.tm 2 : Int)) := Lib.hid (has_yes hh).2.1
          have HH := Lib.hid hh
          clear hh
          have HST : Hid (∀ u : World, Blk 69 u x (pSl s) → Calls Tryz.prog 20 #[.pointer (some ⟨x, 0, none⟩), .int .i64 2] u fun e w' => e = .returned (.int .i64 (s.tm 2 : Int)) ∧ Below u.heap.size u w') := Lib.hid (fun u hu => by have hz := stamp18_any s HS.out x 2 u hu; rw [HT.out] at hz; exact hz)
          go_wp2_with fail
          refine (of18_any s HS.out x 2 _ KR.out.b2).mono ?_
          rw [HO.out, HH.out]
          rintro e w1 ⟨rfl, hb⟩
          have K1 := Lib.hid (KR.out.step hb)
          clear hb
          go_wp2_with (first
            | ((with_reducible show wpList _ _ _ (⟨some 6, .alloc _, _, _, _, _⟩ :: _) _ _); refine wpList_newB rt_cfg rfl rfl ?_; intro w3 q6 hc1 hb1 hx1; have K2 := Lib.hid (K1.out.new hb1 hx1 hc1); have HQ6 := Lib.hid (Nat.le_trans K1.out.oth.size hx1); clear hc1 hb1 hx1)
            | (refine wpList_stB rt_cfg rfl (.tmp 6) (.tmp 21) rfl q6 0 rfl zeroC.cells (s.row 2).cells (val_agg _) (cells_one _) (by exact (Cfg.cells_len (HS.out.g 2)).trans zeroC_len.symm) (by exact K2.out.b0) (by rw [zeroC_len]; decide) ?_; intro w4 hc2 ho2 hs2; have K3 := Lib.hid (K2.out.put 0 rfl (.inr HQ6.out) ho2 (by rwa [puts_whole _ _ ((Cfg.cells_len (HS.out.g 2)).trans zeroC_len.symm)] at hc2) rfl); have c3 := K3.out.b2.cell 0; dsimp only [List.getElem?_cons_zero] at c3; clear hc2 ho2 hs2))
          refine (rhas_any s HS.out y 2 true HH.out _ K3.out.b4).mono ?_
          rintro e w5 ⟨rfl, rfl⟩
          clear c3
          go_wp2_with fail
          have hq1 : ∀ W : World, (binOp .neq 29 (s.row 2).val (s.row 2).val).run Tryz.prog W = .ok (.bool false) W := fun W => by rw [neq_cfg et_rcfg _ _ (HS.out.g 2) (HS.out.g 2), decide_eq_true rfl]; rfl
          have hg1 : ∀ (op : BinOp) (x y : Operand) (W : World), (eqGuard op 29 x y (s.row 2).val (s.row 2).val).run Tryz.prog W = .ok () W := fun op x y W => by rw [val_agg]; exact run_eqGuard_agg W op _ x y _ _ et_rcfg.g
          have lr : ∀ (d : Nat) (os : Array Obj), ldHd 29 (.pointer (some ⟨y, 38, none⟩)) (Sort.grow (redrawn w4 d) os) = .ok (.value (s.row 2).val) (Sort.grow (redrawn w4 d) os) := fun d os => ld_r2 HS.out (K3.out.b4.step (below_regrown w4 d os))
          have lt : ∀ (d : Nat) (os : Array Obj), (Sort.grow (redrawn w4 d) os).cell? ⟨y, 59, none⟩ = some (.int .i64 (s.tm 2 : Int)) := fun d os => r_t2 HS.out (K3.out.b4.step (below_regrown w4 d os))
          have lp : ∀ (d : Nat) (os : Array Obj), (Sort.grow (redrawn w4 d) os).cell? ⟨q3, 0, none⟩ = some (.pointer (some ⟨y, 0, none⟩)) := fun d os => (K3.out.b2.step (below_regrown w4 d os)).cell 0
          have lc : ∀ (d : Nat) (os : Array Obj), ldHd 35 (.pointer (some ⟨q6, 0, none⟩)) (Sort.grow (redrawn w4 d) os) = .ok (.value (s.row 2).val) (Sort.grow (redrawn w4 d) os) := fun d os => ld_cfg rt_cfg (K3.out.b0.step (below_regrown w4 d os)) (HS.out.g 2)
          refine wp_region_quiet_below (by kernel_rfl) (by kernel_rfl) ?_
          repeat (go_big_quiet_step ((first
            | (go_at_call 27; exact Calls.regrown_of (mof_any (s.row 2) (HS.out.g 2) _))
            | (go_at_call 20; exact Calls.regrown_of (HST.out _ (K3.out.b3.step (below_regrown w4 _ _)))))))
          refine wpQuiet_nil ?_
          intro _ hw'
          obtain ⟨⟨dq, osq⟩, hw''⟩ := hw'
          subst hw''
          have hb3 := below_regrown w4 dq osq
          generalize Sort.grow (redrawn w4 dq) osq = w6 at hb3 ⊢
          have K4 := Lib.hid (K3.out.step hb3)
          clear hb3 lc hq1 hg1 lr lt lp
          go_wp2_with fail
          go_roundw
          case rel => exact ⟨3, by omega, by omega, rfl, Lib.hid K4.out.tail⟩
          case measure => simp [intOf]
    · have d0 : decide (p ≤ 3) = false := decide_eq_false (by omega)
      clear hlt hp0 hp4
      go_wp2_with (first
        | ((with_reducible show wpList _ _ _ (⟨some 8, .alloc _, _, _, _, _⟩ :: _) _ _); refine wpList_newV rw_int rfl rfl rfl ?_; intro w7 q8 hc1 hb1 hx1; have K5 := Lib.hid (KR.out.new hb1 hx1 hc1); have HQ8 := Lib.hid (Nat.le_trans KR.out.oth.size hx1); clear hc1 hb1 hx1)
        | ((with_reducible show wpList _ _ _ (⟨none, .store _ (.tmp 8) _, _, _, _, _⟩ :: _) _ _); (refine wpList_stC rw_int.size rfl (.tmp 8) (.const (.int .i64 (-1))) rfl q8 0 rfl (.int .i64 (-1)) rfl rfl _ (by exact K5.out.b0) (by exact Nat.zero_lt_one) ?_; intro w8 hc2 ho2 hs2; have K6 := Lib.hid (K5.out.put 0 rfl (.inr HQ8.out) ho2 hc2 rfl); clear hc2 ho2 hs2))
        | ((with_reducible show wpList _ _ _ (⟨some 9, .alloc _, _, _, _, _⟩ :: _) _ _); refine wpList_newV rw_int rfl rfl rfl ?_; intro w9 q9 hc1 hb1 hx1; have K7 := Lib.hid (K6.out.new hb1 hx1 hc1); have HQ9 := Lib.hid (Nat.le_trans K6.out.oth.size hx1); clear hc1 hb1 hx1)
        | ((with_reducible show wpList _ _ _ (⟨none, .store _ (.tmp 9) _, _, _, _, _⟩ :: _) _ _); (refine wpList_stC rw_int.size rfl (.tmp 9) (.const (.int .i64 0)) rfl q9 0 rfl (.int .i64 0) rfl rfl _ (by exact K7.out.b0) (by exact Nat.zero_lt_one) ?_; intro w10 hc2 ho2 hs2; have K8 := Lib.hid (K7.out.put 0 rfl (.inr HQ9.out) ho2 hc2 rfl); clear hc2 ho2 hs2)))
      refine (all18_b x _).mono ?_
      rintro e w11 ⟨qa, rfl, hca, hqa, hb⟩
      have K9 := Lib.hid (K8.out.new hb hqa hca)
      have HW0 : Hid (w.heap.size ≤ w11.heap.size) := Lib.hid K9.out.bel.size
      clear hca hqa hb
      go_wp2_with fail
      generalize hF : ({ tmps := _, defers := _ } : Act) = a0
      refine (wpIn_wide (n := 3)).1 ?_
      refine wpIn_rangeFunc_ownH rfl (by omega) (gf := 43) (lb := #[.pointer (some ⟨qa, 0, none⟩)]) (by rw [← hF]; rfl) trivial (enters_of Tryz.func43 (by kernel_rfl) rfl)
        (all_stops s HS.out _ (by omega) qa x w11 (K9.out.b0.cell 0) K9.out.b0.lt K9.out.b5) (fun _ _ => trivial) (fun _ _ _ _ _ _ _ _ => trivial) (Below.refl _ _) (fun _ => rfl)
        (fun pre W => UpL pre ∧ w11.heap.size ≤ W.heap.size ∧ VK [] w [(3, q9, [.int .i64 ((pre.length : Int))]), (3, q8, [.int .i64 (lastI pre)]), (4, q4, [.bool false]), (26, q3, [.pointer (some ⟨y, 0, none⟩)]), (69, x, pSl s), (33, y, rSl s)] W) (fun _ pre _ => ¬ UpL pre) (fun pre W W' row hs hg hr => ⟨hs.1, Nat.le_trans hs.2.1 hg.size, hs.2.2.turned HW0.out hg hr⟩) (fun _ => ownFrom_pure _ _) ⟨up_nil, Nat.le_refl _, by have := K9.out.tail; rw [last_nil]; exact this⟩
        (fun x' a' W => ∃ qc, w11.heap.size ≤ qc ∧ Blk 35 W qc (s.row x'.1).cells ∧ a' = { tmps := (((a0.tmps.setIfInBounds 69 (.int .i64 (x'.1 : Int))).setIfInBounds 70 (s.row x'.1).val).setIfInBounds 10 (.int .i64 (x'.1 : Int))).setIfInBounds 11 (.pointer (some ⟨qc, 0, none⟩)), defers := [] })
        (fun x' a' _ W W' row hs hg hr => by obtain ⟨qc, h1, h2, h3⟩ := hs; exact ⟨qc, h1, h2.turned hg hr, h3⟩) ?assign ?body ?done ?stop
      case assign =>
        intro l pre x' W K hi hK
        have HI := Lib.hid hi
        have HKK := Lib.hid hK
        clear hi hK
        subst hF
        unfold encS
        gi_wp2_with (first
          | ((with_reducible show wpListIn _ _ _ _ _ (⟨some 11, .alloc _, _, _, _, _⟩ :: _) _ _); refine wpListIn_newB rt_cfg rfl rfl ?_; intro wa qc hc1 hb1 hx1; have KA := Lib.hid ((VK.start [] W).new hb1 hx1 hc1); have HQC := Lib.hid hx1; clear hc1 hb1 hx1)
          | (refine wpListIn_stB rt_cfg rfl (.tmp 11) (.tmp 70) rfl qc 0 rfl zeroC.cells (s.row x'.1).cells (val_agg _) (cells_one _) (by exact (Cfg.cells_len (HS.out.g _)).trans zeroC_len.symm) (by exact KA.out.b0) (by rw [zeroC_len]; decide) ?_; intro wb hc2 ho2 hs2; have KC := Lib.hid (KA.out.put 0 rfl (.inr HQC.out) ho2 (by rwa [puts_whole _ _ ((Cfg.cells_len (HS.out.g _)).trans zeroC_len.symm)] at hc2) rfl); clear hc2 ho2 hs2))
        exact HKK.out _ _ ((keeps_belS KC.out.bel).from _) trivial ⟨HI.out.1, Nat.le_trans HI.out.2.1 KC.out.bel.size, HI.out.2.2.step KC.out.bel⟩ ⟨qc, Nat.le_trans HI.out.2.1 HQC.out, KC.out.b0, rfl⟩
      case body =>
        rintro l pre x' a' W hl ⟨r, hr⟩ ⟨hup, hsz, hk⟩ ⟨qc, hqc, hbc, rfl⟩ hlen
        have HUP := Lib.hid hup
        have HSZ := Lib.hid hsz
        have hl3 : pre.length ≤ 1000 := by omega
        have KB := Lib.hid (hk.hold hbc (show _ ∉ _ from K9.out.tail.fresh hqc))
        subst hF
        simp only [List.setIfInBounds_toArray, List.set_cons_succ, List.set_cons_zero]
        clear hl hr hk hbc hup hsz hqc hlen K9 K8 K7 K6 K5 KR d0
        by_cases hx : lastI pre < (x'.1 : Int)
        · rcases (show x'.1 = 0 ∨ x'.1 = 1 ∨ x'.1 = 2 by have := x'.2.1; omega) with e | e | e
          · have d1 : decide ((0 : Int) ≤ lastI pre) = false := decide_eq_false (by omega)
            have HH : Hid (hasS s 0 = true) := Lib.hid (by rw [has_0]; exact decide_eq_true (by have := x'.2.2; rw [e] at this; exact this))
            have HXU := Lib.hid (up_snoc HUP.out hx)
            have HXL : Hid (lastI (pre ++ [x']) = 0) := Lib.hid (by rw [last_snoc, e]; rfl)
            rw [e] at KB
            rw [e, show ((0 : Nat) : Int) = 0 from rfl]
            clear hx e
            have c8 : ∀ (d : Nat) (os : Array Obj), (Sort.grow (redrawn W d) os).cell? ⟨q8, 0, none⟩ = some (.int .i64 (lastI pre)) := fun d os => (KB.out.b2.step (below_regrown W d os)).cell 0
            have lp : ∀ (d : Nat) (os : Array Obj), (Sort.grow (redrawn W d) os).cell? ⟨q3, 0, none⟩ = some (.pointer (some ⟨y, 0, none⟩)) := fun d os => (KB.out.b4.step (below_regrown W d os)).cell 0
            have lc : ∀ (d : Nat) (os : Array Obj), ldHd 35 (.pointer (some ⟨qc, 0, none⟩)) (Sort.grow (redrawn W d) os) = .ok (.value (s.row 0).val) (Sort.grow (redrawn W d) os) := fun d os => ld_cfg rt_cfg (KB.out.b0.step (below_regrown W d os)) (HS.out.g 0)
            have lr : ∀ (d : Nat) (os : Array Obj), ldHd 29 (.pointer (some ⟨y, 0, none⟩)) (Sort.grow (redrawn W d) os) = .ok (.value (s.row 0).val) (Sort.grow (redrawn W d) os) := fun d os => ld_r0 HS.out (KB.out.b6.step (below_regrown W d os))
            have hq1 : ∀ W : World, (binOp .neq 29 (s.row 0).val (s.row 0).val).run Tryz.prog W = .ok (.bool false) W := fun W => by rw [neq_cfg et_rcfg _ _ (HS.out.g 0) (HS.out.g 0), decide_eq_true rfl]; rfl
            have hg1 : ∀ (op : BinOp) (x y : Operand) (W : World), (eqGuard op 29 x y (s.row 0).val (s.row 0).val).run Tryz.prog W = .ok () W := fun op x y W => by rw [val_agg]; exact run_eqGuard_agg W op _ x y _ _ et_rcfg.g
            gi_wp2_with fail
            refine wpIn_region_round (by kernel_rfl) (by kernel_rfl) (by kernel_rfl) ?_
            repeat (go_big_quiet_step ((first
              | (go_at_call 29; exact qb_same (rhas_any s HS.out y 0 true HH.out _ (KB.out.b6.step (below_regrown W _ _))))
              | (go_at_call 27; exact Calls.regrown_of (mof_any (s.row 0) (HS.out.g 0) _)))))
            refine wpQuiet_nil ?_
            intro _ hw'
            obtain ⟨⟨dq, osq⟩, hw''⟩ := hw'
            subst hw''
            have hb3 := below_regrown W dq osq
            generalize Sort.grow (redrawn W dq) osq = w12 at hb3 ⊢
            have KD := Lib.hid (KB.out.step hb3)
            have HB3 := Lib.hid hb3
            have c9 := KD.out.b1.cell 0
            dsimp only [List.getElem?_cons_zero] at c9
            clear hb3 c8 lp lc lr hq1 hg1
            clear c9
            gi_wp2_with (first
              | (refine wpListIn_stC rw_int.size rfl (.tmp 8) (.tmp 91) rfl q8 0 rfl (.int .i64 0) rfl rfl _ (by exact KD.out.b2) (by exact Nat.zero_lt_one) ?_; intro wd hc2 ho2 hs2; have KE := Lib.hid (KD.out.put 2 rfl (.inr HQ8.out) ho2 hc2 rfl); have HOE := Lib.hid (keeps_oth KD.out.b2 ho2); have c9 := KE.out.b1.cell 0; dsimp only [List.getElem?_cons_zero] at c9; clear hc2 ho2 hs2)
              | (refine wpListIn_stC rw_int.size rfl (.tmp 9) (.tmp 93) rfl q9 0 rfl (.int .i64 ((pre.length : Int) + 1)) rfl rfl _ (by exact KE.out.b1) (by exact Nat.zero_lt_one) ?_; intro we hc2 ho2 hs2; have KF := Lib.hid (KE.out.put 1 rfl (.inr HQ9.out) ho2 hc2 rfl); have HOF := Lib.hid (keeps_oth KE.out.b1 ho2); clear hc2 ho2 hs2))
            have hkp := (keeps_belS HB3.out).trans (HOE.out.trans HOF.out)
            exact ⟨hkp.from _, trivial, HXU.out, Nat.le_trans HSZ.out hkp.size, by
              have h := KF.out.tail
              rw [HXL.out, List.length_append, List.length_singleton, Int.natCast_add]
              exact h⟩
          · have d1 : decide ((1 : Int) ≤ lastI pre) = false := decide_eq_false (by omega)
            have HH : Hid (hasS s 1 = true) := Lib.hid (by rw [has_1]; exact decide_eq_true (by have := x'.2.2; rw [e] at this; exact this))
            have HXU := Lib.hid (up_snoc HUP.out hx)
            have HXL : Hid (lastI (pre ++ [x']) = 1) := Lib.hid (by rw [last_snoc, e]; rfl)
            rw [e] at KB
            rw [e, show ((1 : Nat) : Int) = 1 from rfl]
            clear hx e
            have c8 : ∀ (d : Nat) (os : Array Obj), (Sort.grow (redrawn W d) os).cell? ⟨q8, 0, none⟩ = some (.int .i64 (lastI pre)) := fun d os => (KB.out.b2.step (below_regrown W d os)).cell 0
            have lp : ∀ (d : Nat) (os : Array Obj), (Sort.grow (redrawn W d) os).cell? ⟨q3, 0, none⟩ = some (.pointer (some ⟨y, 0, none⟩)) := fun d os => (KB.out.b4.step (below_regrown W d os)).cell 0
            have lc : ∀ (d : Nat) (os : Array Obj), ldHd 35 (.pointer (some ⟨qc, 0, none⟩)) (Sort.grow (redrawn W d) os) = .ok (.value (s.row 1).val) (Sort.grow (redrawn W d) os) := fun d os => ld_cfg rt_cfg (KB.out.b0.step (below_regrown W d os)) (HS.out.g 1)
            have lr : ∀ (d : Nat) (os : Array Obj), ldHd 29 (.pointer (some ⟨y, 19, none⟩)) (Sort.grow (redrawn W d) os) = .ok (.value (s.row 1).val) (Sort.grow (redrawn W d) os) := fun d os => ld_r1 HS.out (KB.out.b6.step (below_regrown W d os))
            have hq1 : ∀ W : World, (binOp .neq 29 (s.row 1).val (s.row 1).val).run Tryz.prog W = .ok (.bool false) W := fun W => by rw [neq_cfg et_rcfg _ _ (HS.out.g 1) (HS.out.g 1), decide_eq_true rfl]; rfl
            have hg1 : ∀ (op : BinOp) (x y : Operand) (W : World), (eqGuard op 29 x y (s.row 1).val (s.row 1).val).run Tryz.prog W = .ok () W := fun op x y W => by rw [val_agg]; exact run_eqGuard_agg W op _ x y _ _ et_rcfg.g
            gi_wp2_with fail
            refine wpIn_region_round (by kernel_rfl) (by kernel_rfl) (by kernel_rfl) ?_
            repeat (go_big_quiet_step ((first
              | (go_at_call 29; exact qb_same (rhas_any s HS.out y 1 true HH.out _ (KB.out.b6.step (below_regrown W _ _))))
              | (go_at_call 27; exact Calls.regrown_of (mof_any (s.row 1) (HS.out.g 1) _)))))
            refine wpQuiet_nil ?_
            intro _ hw'
            obtain ⟨⟨dq, osq⟩, hw''⟩ := hw'
            subst hw''
            have hb3 := below_regrown W dq osq
            generalize Sort.grow (redrawn W dq) osq = w12 at hb3 ⊢
            have KD := Lib.hid (KB.out.step hb3)
            have HB3 := Lib.hid hb3
            have c9 := KD.out.b1.cell 0
            dsimp only [List.getElem?_cons_zero] at c9
            clear hb3 c8 lp lc lr hq1 hg1
            clear c9
            gi_wp2_with (first
              | (refine wpListIn_stC rw_int.size rfl (.tmp 8) (.tmp 91) rfl q8 0 rfl (.int .i64 1) rfl rfl _ (by exact KD.out.b2) (by exact Nat.zero_lt_one) ?_; intro wd hc2 ho2 hs2; have KE := Lib.hid (KD.out.put 2 rfl (.inr HQ8.out) ho2 hc2 rfl); have HOE := Lib.hid (keeps_oth KD.out.b2 ho2); have c9 := KE.out.b1.cell 0; dsimp only [List.getElem?_cons_zero] at c9; clear hc2 ho2 hs2)
              | (refine wpListIn_stC rw_int.size rfl (.tmp 9) (.tmp 93) rfl q9 0 rfl (.int .i64 ((pre.length : Int) + 1)) rfl rfl _ (by exact KE.out.b1) (by exact Nat.zero_lt_one) ?_; intro we hc2 ho2 hs2; have KF := Lib.hid (KE.out.put 1 rfl (.inr HQ9.out) ho2 hc2 rfl); have HOF := Lib.hid (keeps_oth KE.out.b1 ho2); clear hc2 ho2 hs2))
            have hkp := (keeps_belS HB3.out).trans (HOE.out.trans HOF.out)
            exact ⟨hkp.from _, trivial, HXU.out, Nat.le_trans HSZ.out hkp.size, by
              have h := KF.out.tail
              rw [HXL.out, List.length_append, List.length_singleton, Int.natCast_add]
              exact h⟩
          · have d1 : decide ((2 : Int) ≤ lastI pre) = false := decide_eq_false (by omega)
            have HH : Hid (hasS s 2 = true) := Lib.hid (by rw [has_2]; exact decide_eq_true (by have := x'.2.2; rw [e] at this; exact this))
            have HXU := Lib.hid (up_snoc HUP.out hx)
            have HXL : Hid (lastI (pre ++ [x']) = 2) := Lib.hid (by rw [last_snoc, e]; rfl)
            rw [e] at KB
            rw [e, show ((2 : Nat) : Int) = 2 from rfl]
            clear hx e
            have c8 : ∀ (d : Nat) (os : Array Obj), (Sort.grow (redrawn W d) os).cell? ⟨q8, 0, none⟩ = some (.int .i64 (lastI pre)) := fun d os => (KB.out.b2.step (below_regrown W d os)).cell 0
            have lp : ∀ (d : Nat) (os : Array Obj), (Sort.grow (redrawn W d) os).cell? ⟨q3, 0, none⟩ = some (.pointer (some ⟨y, 0, none⟩)) := fun d os => (KB.out.b4.step (below_regrown W d os)).cell 0
            have lc : ∀ (d : Nat) (os : Array Obj), ldHd 35 (.pointer (some ⟨qc, 0, none⟩)) (Sort.grow (redrawn W d) os) = .ok (.value (s.row 2).val) (Sort.grow (redrawn W d) os) := fun d os => ld_cfg rt_cfg (KB.out.b0.step (below_regrown W d os)) (HS.out.g 2)
            have lr : ∀ (d : Nat) (os : Array Obj), ldHd 29 (.pointer (some ⟨y, 38, none⟩)) (Sort.grow (redrawn W d) os) = .ok (.value (s.row 2).val) (Sort.grow (redrawn W d) os) := fun d os => ld_r2 HS.out (KB.out.b6.step (below_regrown W d os))
            have hq1 : ∀ W : World, (binOp .neq 29 (s.row 2).val (s.row 2).val).run Tryz.prog W = .ok (.bool false) W := fun W => by rw [neq_cfg et_rcfg _ _ (HS.out.g 2) (HS.out.g 2), decide_eq_true rfl]; rfl
            have hg1 : ∀ (op : BinOp) (x y : Operand) (W : World), (eqGuard op 29 x y (s.row 2).val (s.row 2).val).run Tryz.prog W = .ok () W := fun op x y W => by rw [val_agg]; exact run_eqGuard_agg W op _ x y _ _ et_rcfg.g
            gi_wp2_with fail
            refine wpIn_region_round (by kernel_rfl) (by kernel_rfl) (by kernel_rfl) ?_
            repeat (go_big_quiet_step ((first
              | (go_at_call 29; exact qb_same (rhas_any s HS.out y 2 true HH.out _ (KB.out.b6.step (below_regrown W _ _))))
              | (go_at_call 27; exact Calls.regrown_of (mof_any (s.row 2) (HS.out.g 2) _)))))
            refine wpQuiet_nil ?_
            intro _ hw'
            obtain ⟨⟨dq, osq⟩, hw''⟩ := hw'
            subst hw''
            have hb3 := below_regrown W dq osq
            generalize Sort.grow (redrawn W dq) osq = w12 at hb3 ⊢
            have KD := Lib.hid (KB.out.step hb3)
            have HB3 := Lib.hid hb3
            have c9 := KD.out.b1.cell 0
            dsimp only [List.getElem?_cons_zero] at c9
            clear hb3 c8 lp lc lr hq1 hg1
            clear c9
            gi_wp2_with (first
              | (refine wpListIn_stC rw_int.size rfl (.tmp 8) (.tmp 91) rfl q8 0 rfl (.int .i64 2) rfl rfl _ (by exact KD.out.b2) (by exact Nat.zero_lt_one) ?_; intro wd hc2 ho2 hs2; have KE := Lib.hid (KD.out.put 2 rfl (.inr HQ8.out) ho2 hc2 rfl); have HOE := Lib.hid (keeps_oth KD.out.b2 ho2); have c9 := KE.out.b1.cell 0; dsimp only [List.getElem?_cons_zero] at c9; clear hc2 ho2 hs2)
              | (refine wpListIn_stC rw_int.size rfl (.tmp 9) (.tmp 93) rfl q9 0 rfl (.int .i64 ((pre.length : Int) + 1)) rfl rfl _ (by exact KE.out.b1) (by exact Nat.zero_lt_one) ?_; intro we hc2 ho2 hs2; have KF := Lib.hid (KE.out.put 1 rfl (.inr HQ9.out) ho2 hc2 rfl); have HOF := Lib.hid (keeps_oth KE.out.b1 ho2); clear hc2 ho2 hs2))
            have hkp := (keeps_belS HB3.out).trans (HOE.out.trans HOF.out)
            exact ⟨hkp.from _, trivial, HXU.out, Nat.le_trans HSZ.out hkp.size, by
              have h := KF.out.tail
              rw [HXL.out, List.length_append, List.length_singleton, Int.natCast_add]
              exact h⟩
        · have HX := Lib.hid (up_not hx)
          have d1 : decide ((x'.1 : Int) ≤ lastI pre) = true := decide_eq_true (by omega)
          have c8 : ∀ (d : Nat) (os : Array Obj), (Sort.grow (redrawn W d) os).cell? ⟨q8, 0, none⟩ = some (.int .i64 (lastI pre)) := fun d os => (KB.out.b2.step (below_regrown W d os)).cell 0
          clear hx
          gi_wp2_with fail
          refine wpIn_region_round (by kernel_rfl) (by kernel_rfl) (by kernel_rfl) ?_
          repeat (go_big_quiet_step (fail))
          refine wpQuiet_nil ?_
          intro _ hw'
          obtain ⟨⟨dq, osq⟩, hw''⟩ := hw'
          subst hw''
          have hb3 := below_regrown W dq osq
          generalize Sort.grow (redrawn W dq) osq = w12 at hb3 ⊢
          have KD := Lib.hid (KB.out.step hb3)
          have HB3 := Lib.hid hb3
          clear hb3 c8
          gi_wp2_with (first
            | (refine wpListIn_stC rw_bool.size rfl (.tmp 4) (.const (.bool false)) rfl q4 0 rfl (.bool false) rfl rfl _ (by exact KD.out.b3) (by exact Nat.zero_lt_one) ?_; intro wd hc2 ho2 hs2; have HOE := Lib.hid (keeps_oth KD.out.b3 ho2); clear hc2 ho2 hs2))
          exact ⟨((keeps_belS HB3.out).trans HOE.out).from _, HX.out⟩
      case done =>
        rintro D ys W hD rfl ⟨hup, hsz, hk⟩ hK
        obtain ⟨zl, hzl⟩ : ∃ zl : Int, lastI (upS s 3) = zl := ⟨_, rfl⟩
        rw [hzl] at hk
        have HK0 : Hid (W.heap[D]? = some (.deferred (some [])) ∧ VK [] w [(3, q9, [.int .i64 (((upS s 3).length : Int) - ((upS s 0).length : Int))]), (3, q8, [.int .i64 zl]), (4, q4, [.bool false]), (26, q3, [.pointer (some ⟨y, 0, none⟩)]), (69, x, pSl s), (33, y, rSl s)] W) := Lib.hid ⟨hK, by rw [upS_zero, List.length_nil, Int.natCast_zero, Int.sub_zero]; exact hk⟩
        have HD := Lib.hid (Nat.le_trans HW0.out hD)
        subst hF
        clear hup hsz hk hK hD hzl d0 K9 K8 K7 K6 K5 KR
        go_wp2_with fail
        go_loopw [12] (fun t wr => ∃ k : Nat, k ≤ 3 ∧ t = .int .i64 (k : Int) ∧ Hid (wr.heap[D]? = some (.deferred (some [])) ∧ VK [] w [(3, q9, [.int .i64 (((upS s 3).length : Int) - ((upS s k).length : Int))]), (3, q8, [.int .i64 zl]), (4, q4, [.bool false]), (26, q3, [.pointer (some ⟨y, 0, none⟩)]), (69, x, pSl s), (33, y, rSl s)] wr)) (fun t _ => 3 - (intOf t).toNat)
        case atStart => exact ⟨0, by omega, rfl, HK0⟩
        case round =>
          obtain ⟨k, hk3, rfl, HJ⟩ := hrel
          clear HK0
          by_cases hlt : k < 3
          · obtain ⟨z, hz⟩ : ∃ z : Int, ((upS s 3).length : Int) - ((upS s k).length : Int) = z := ⟨_, rfl⟩
            have hzb : -3 ≤ z ∧ z ≤ 3 := by have := upS_len (s := s) 3; have := upS_len (s := s) k; omega
            rw [hz] at HJ
            have HZ := Lib.hid hz
            have c3 := HJ.out.2.b3.cell 0
            dsimp only [List.getElem?_cons_zero] at c3
            clear hz
            by_cases hm : 0 < s.tm k
            · have HH : Hid (hasS s (k : Int) = true) := Lib.hid (by rw [has_k hlt]; exact decide_eq_true hm)
              have HNX : Hid (((upS s 3).length : Int) - ((upS s (k + 1)).length : Int) = z - 1) := Lib.hid (by
                rw [upS_yes ⟨hlt, hm⟩, List.length_append]
                have := HZ.out
                show _ - (((upS s k).length + 1 : Nat) : Int) = _
                omega)
              have c9 := HJ.out.2.b0.cell 0
              dsimp only [List.getElem?_cons_zero] at c9
              clear hm
              go_wp2_with fail
              refine (rhas_any s HS.out y (k : Int) true HH.out _ HJ.out.2.b5).mono ?_
              rintro e w5 ⟨rfl, rfl⟩
              go_wp2_with (first
                | (refine wpList_stC rw_int.size rfl (.tmp 9) (.tmp 102) rfl q9 0 rfl (.int .i64 (z - 1)) rfl rfl _ (by exact HJ.out.2.b0) (by exact Nat.zero_lt_one) ?_; intro wb hc2 ho2 hs2; have HK2 := Lib.hid (And.intro ((keeps_oth HJ.out.2.b0 ho2).same D _ HJ.out.1 rfl) (HJ.out.2.put 0 rfl (.inr HQ9.out) ho2 hc2 rfl)); clear hc2 ho2 hs2))
              go_roundw
              case rel => exact ⟨k + 1, by omega, by go_num, Lib.hid ⟨HK2.out.1, by rw [HNX.out]; exact HK2.out.2⟩⟩
              case measure => simp [intOf]; omega
            · have HH : Hid (hasS s (k : Int) = false) := Lib.hid (by rw [has_k hlt]; exact decide_eq_false hm)
              have HNX : Hid (((upS s 3).length : Int) - ((upS s (k + 1)).length : Int) = z) := Lib.hid (by rw [upS_no hm]; exact HZ.out)
              clear hm
              go_wp2_with fail
              refine (rhas_any s HS.out y (k : Int) false HH.out _ HJ.out.2.b5).mono ?_
              rintro e w5 ⟨rfl, rfl⟩
              go_wp2_with fail
              go_roundw
              case rel => exact ⟨k + 1, by omega, by go_num, Lib.hid ⟨HJ.out.1, by rw [HNX.out]; exact HJ.out.2⟩⟩
              case measure => simp [intOf]; omega
          · obtain rfl : k = 3 := by omega
            rw [Int.sub_self] at HJ
            have c9 := HJ.out.2.b0.cell 0
            dsimp only [List.getElem?_cons_zero] at c9
            go_wp2_with (first
              | (refine wpList_stC rw_bool.size rfl (.tmp 4) (.tmp 104) rfl q4 0 rfl (.bool true) rfl rfl _ (by exact HJ.out.2.b2) (by exact Nat.zero_lt_one) ?_; intro wb hc2 ho2 hs2; have HK2 := Lib.hid (And.intro ((keeps_oth HJ.out.2.b2 ho2).same D _ HJ.out.1 rfl) (HJ.out.2.put 2 rfl (.inr HQ4.out) ho2 hc2 rfl)); clear hc2 ho2 hs2))
            refine ⟨by simp, .inl ⟨_, _, rfl, run_takeDeferred HK2.out.1, ?_⟩⟩
            have KZ := HK2.out.2.turned (B := w.heap.size) (Nat.le_refl _) (grownBy_putObj' wb D (.deferred none)) (fun r e => by cases e; exact ⟨HD.out, _, HK2.out.1, rfl⟩)
            have hc5 := KZ.b2.cell 0
            dsimp only [List.getElem?_cons_zero] at hc5
            refine ⟨.bool true, ?_, rfl, KZ.bel⟩
            simp [results, Tryz.f10, go_sem, hc5]
      case stop =>
        rintro D c pre W hD hp hx _
        exact absurd (up_pre (up_full 3).1 hp) hx
end Go.Proofs.YtkcchidklcnnnaaGreat
