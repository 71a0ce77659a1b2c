/- Layer 19: isSeq, New, Seqs, add, Install, Retire, Clone of a ring. Condition: what is said of the ring. -/
import Derived.Test.YtlapnfpdkfhfdaaGreatRiF
import Derived.Great.BuildSlice
namespace Go.Proofs.YtlapnfpdkfhfdaaGreat
open Go.RowKit
set_option linter.unusedVariables false
set_option linter.unusedSimpArgs false

def isSq (q : Int) : Bool := decide (0 ≤ q ∧ q ≤ 127)
set_option maxRecDepth 100000 in
set_option maxHeartbeats 2000000 in
theorem isSeq_any (q : Int) (w : World) : Calls Tryz.prog 37 #[.int .i64 q] w fun e w' => e = .returned (.bool (isSq q)) ∧ w = w' := by
  by_cases h0 : 0 ≤ q
  · have d0 : decide (q ≥ 0) = true := decide_eq_true h0
    by_cases h1 : q ≤ 127
    · have d1 : decide (q ≤ 127) = true := decide_eq_true h1
      rw [show isSq q = true by unfold isSq; exact decide_eq_true ⟨h0, h1⟩]
      go_enter Tryz.func37, Tryz.ntmps37
      go_wp2_with fail
      go_ret
      exact ⟨rfl, rfl⟩
    · have d1 : decide (q ≤ 127) = false := decide_eq_false h1
      rw [show isSq q = false by unfold isSq; exact decide_eq_false (fun e => h1 e.2)]
      go_enter Tryz.func37, Tryz.ntmps37
      go_wp2_with fail
      go_ret
      exact ⟨rfl, rfl⟩
  · have d0 : decide (q ≥ 0) = false := decide_eq_false h0
    rw [show isSq q = false by unfold isSq; exact decide_eq_false (fun e => h0 e.1)]
    go_enter Tryz.func37, Tryz.ntmps37
    go_wp2_with fail
    go_ret
    exact ⟨rfl, rfl⟩
/-- A ring without keys. -/
theorem Rn.new {w w' : World} {x : Nat} (h : Blk 55 w' x [.slice none 0 0]) (hx : w.heap.size ≤ x) (N F : Nat) : Rn w.heap.size w' x none 0 [] N F :=
  ⟨h, Grd.nil_ _ _ _ _, fun e he => (by cases he), List.Pairwise.nil, hx⟩
set_option maxRecDepth 100000 in
set_option maxHeartbeats 2000000 in
theorem rnew_any (w : World) : Calls Tryz.prog 6 #[] w fun e w' => ∃ x, e = .returned (.pointer (some ⟨x, 0, none⟩)) ∧ Below w.heap.size w w' ∧ Rn w.heap.size w' x none 0 [] 1 0 := by
  have h := Blk.new w 55 [.slice none 0 0] _ rfl
  go_enter Tryz.func6, Tryz.ntmps6
  go_wp2_with fail
  go_ret
  exact ⟨_, rfl, below_alloc _ _, Rn.new h (Nat.le_refl _) 1 0⟩
/-! Seqs. -/
theorem puts_all {vs cs : List Value} (h : vs.length = cs.length) : putsL cs 0 vs = vs := by
  rw [putsG_eq vs cs 0 (by omega), List.take_zero, Nat.zero_add, List.drop_of_length_le (by omega), List.append_nil, List.nil_append]
theorem wpList_mkZ0 {w : World} {ops : Array Oper} {rest : List Oper} {o : Oper} {a : Act} {Q : Exit → Act → World → Prop} (hgd : o.guard = none) (lo co : Operand) (hop : o.op = Op.makeSlice 51 lo co)
    (base : Nat) (kl kc : IntKind) (C : Int) (n : Nat) (hl : a.eval lo = .int kl 0) (hc : a.eval co = .int kc C) (hC : C = (n : Int)) (hn : n ≤ 1000000) (hbase : base ≤ w.heap.size)
    (hK : ∀ w', OwnZ w' base (some ⟨w.heap.size, 0, none⟩) 0 n [] → Below w.heap.size w w' → wpList Tryz.prog ops Q rest (a.put o.dst (.slice (some ⟨w.heap.size, 0, none⟩) 0 n)) w') :
    wpList Tryz.prog ops Q (o :: rest) a w := by
  obtain ⟨i0, hi0, hz0, hz1, hz2⟩ := info_parts i64_info
  exact wpList_make_own w hgd lo co 51 hop base 3 i0 _ 1 Tryz.underlying51 hi0 hz0 hz1 kl kc C n hl hc hC (by rw [hz2]; omega) (by unfold maxLen; omega) hbase
    fun w' h1 h2 => hK w' ⟨h1, by simp⟩ ((Below.refl _ _).grown h2 (Nat.le_refl _) (by simp))
set_option maxRecDepth 100000 in
set_option maxHeartbeats 8000000 in
theorem seqs_any (base : Nat) (x : Nat) (A : Option Addr) (c : Nat) (es : Ens) (N F : Nat) (w : World) (h : Rn base w x A c es N F) (hn : es.length ≤ 1000) (hr : ∀ e ∈ es, 0 ≤ e.2 ∧ e.2 ≤ 127) :
    Calls Tryz.prog 20 #[.pointer (some ⟨x, 0, none⟩)] w fun e w' => ∃ B d, e = .returned (.slice B es.length d) ∧ OwnZ w' w.heap.size B es.length d (seqsR (rgE es)) ∧ Below w.heap.size w w' := by
  have H := Lib.hid h
  have HR := Lib.hid hr
  have hc0 := h.c0
  obtain ⟨n, HN⟩ : ∃ n, Hid (es.length = n) := ⟨_, Lib.hid rfl⟩
  rw [HN.out] at hn hc0 ⊢
  clear h hr
  go_enter Tryz.func20, Tryz.ntmps20
  go_wp2_with (first
    | (refine wpList_mkZ0 rfl _ _ rfl w.heap.size .i64 .i64 _ n rfl rfl rfl (by omega) (Nat.le_refl _) ?_; intro w1 ho1 hb1; have HO1 := Lib.hid ho1; have HB1 := Lib.hid hb1; have hc01 := (hb1.cell (p := ⟨x, 0, none⟩) H.out.blk.lt).trans hc0; clear ho1 hb1))
  clear hc0
  go_loopw [17, 3] (fun i v wr => ∃ (k : Nat) (B : Option Addr) (d : Nat), k ≤ n ∧ i = .int .i64 (k : Int) ∧ v = .slice B k d ∧ Hid (Below w.heap.size w wr ∧ OwnZ wr w.heap.size B k d ((seqsR (rgE es)).take k))) (fun i _ _ => n - (intOf i).toNat)
  case atStart => exact ⟨0, _, _, by omega, rfl, rfl, Lib.hid ⟨HB1.out, HO1.out⟩⟩
  case round =>
    obtain ⟨k, B, d, hk, rfl, rfl, HK⟩ := hrel
    by_cases hlt : k < n
    · have HG := Lib.hid (H.out.step HK.out.1)
      obtain ⟨g, e0, rfl, _, _, he, hm, hl, hrg, _, _⟩ := HG.out.at_ (i := k) (by rw [HN.out]; exact hlt)
      have HE := Lib.hid (And.intro he hm)
      have HR2 := Lib.hid (And.intro hl hrg)
      have HBD := Lib.hid (HR.out e0 hm)
      clear he hl hrg hm
      go_wp2_with (first
        | (refine wpList_ldR rt_en rfl (.tmp 19) rfl g (k * 18) (by first | rfl | simp [Act.eval, Act.put]) (enR e0) HR2.out.2 HR2.out.1 ?_)
        | (refine wpList_newB rt_en rfl rfl ?_; intro w2 q2 k2 hb2 hq2; have K2 := Lib.hid k2; have HB2 := Lib.hid hb2; have HQ2 := Lib.hid hq2; clear k2 hb2 hq2)
        | (refine wpList_stB rt_en rfl (.tmp 5) (.tmp 20) rfl q2 0 rfl zEn (enR e0) rfl (enR_one e0) HR2.out.1 K2.out (by show 0 + 18 ≤ 18; omega) ?_; intro w3 k3 ho3 hs3; have hc3 : w3.cell? ⟨q2, 1, none⟩ = some (.int .i64 e0.2) := (by have z := k3.cell 1; rw [puts_all HR2.out.1] at z; exact z); have HB3 := Lib.hid (bel_next HK.out.1 (HB2.out.trans (ho3.below (fun j hj => by rw [List.mem_singleton.1 hj]; exact HQ2.out) HB2.out.size))); have HO3 := Lib.hid (HK.out.2.below (HB2.out.trans (ho3.below (fun j hj => by rw [List.mem_singleton.1 hj]; exact HQ2.out) HB2.out.size))); clear k3 ho3 hs3)
        | (at_builtin; refine wpList_appZ rfl (.tmp 21) (.tmp 24) rfl w.heap.size _ _ _ _ rfl (by exact HO3.out.below (below_alloc _ _)) _ (some ⟨w3.heap.size, 0, none⟩) 1 1 [e0.2] rfl (by exact ZL.lit w3 [e0.2] _ 1 w3.heap.size _ (by rfl) rfl rfl (by intro y hy; rw [List.mem_singleton.1 hy]; have := HBD.out; omega)) (by omega) (by have := HB3.out.size; rw [World.size_alloc]; omega) ?_; intro A4 c4 w4 ho4 _ hb4; have HO4 := Lib.hid ho4; have HB4 := Lib.hid ((HB3.out.trans ((below_alloc w3 _).mono HB3.out.size)).trans hb4); clear ho4 hb4))
      go_roundw
      case rel => exact ⟨k + 1, A4, c4, by omega, by go_num, rfl, Lib.hid ⟨HB4.out, by
        have he : (seqsR (rgE es)).take (k + 1) = (seqsR (rgE es)).take k ++ [e0.2] := by
          rw [List.take_add_one]
          congr 1
          unfold seqsR rgE
          rw [List.map_map, List.getElem?_map, HE.out.1]
          rfl
        rw [he]; exact HO4.out⟩⟩
      case measure => simp [intOf]; omega
    · have hkn : k = n := by omega
      subst hkn
      go_wp2_with fail
      go_ret
      refine ⟨B, d, rfl, ?_, HK.out.1⟩
      have := HK.out.2
      rw [List.take_of_length_le (by rw [seqs_len, rg_len, HN.out]; exact Nat.le_refl _)] at this
      exact this
/-! add. -/
theorem bld_en (p : Option Addr) (q : Int) (l : List UInt8) (hl : l.length = 16) : Tryz.prog.built 60 [(0, .pointer p), (1, .int .i64 q), (2, .agg (bvs l).toArray)] = some (.pointer p :: .int .i64 q :: bvs l).toArray := by
  match l, hl with
  | [a0, a1, a2, a3, a4, a5, a6, a7, a8, a9, b0, b1, b2, b3, b4, b5], _ => show Tryz.prog.built _ _ = _; kernel_rfl
noncomputable def bldE (a b c : Value) (w : World) : Result Next := Sem.run Tryz.prog (do let r ← Instr.build 60 #[(0, a), (1, b), (2, c)]; pure (Next.value r)) w
theorem ex_blE (ev : Operand → Value) (x y z : Operand) (d : Option Tmp) (ty : TypeId) (ps : String) (af : Array Edge) (g : Option (Nat × Bool)) (w : World) : (execOp ev ⟨d, .build 60 #[(0, x), (1, y), (2, z)], ty, ps, af, g⟩).run Tryz.prog w = bldE (ev x) (ev y) (ev z) w := by
  unfold bldE execOp
  simp only [List.map_toArray, List.map_cons, List.map_nil]
theorem ex_ldK (ev : Operand → Value) (x : Operand) (d : Option Tmp) (ty : TypeId) (ps : String) (af : Array Edge) (g : Option (Nat × Bool)) (w : World) : (execOp ev ⟨d, .load 58 x, ty, ps, af, g⟩).run Tryz.prog w = ldHd 58 (ev x) w := rfl
theorem bl_en (p : Option Addr) (q : Int) (l : List UInt8) (hl : l.length = 16) (w : World) : bldE (.pointer p) (.int .i64 q) (.agg (bvs l).toArray) w = .ok (.value (.agg (.pointer p :: .int .i64 q :: bvs l).toArray)) w := by
  unfold bldE
  simp only [Sem.run_bind, run_build w _ #[(0, .pointer p), (1, .int .i64 q), (2, .agg (bvs l).toArray)] _ (bld_en p q l hl), Result.andThen_ok, Sem.run_pure]
noncomputable def bsE (a : Value) (w : World) : Result Next := Sem.run Tryz.prog (do let r ← Instr.buildSlice 53 1 #[(0, a)]; pure (Next.value r)) w
theorem ex_bsE (ev : Operand → Value) (x : Operand) (d : Option Tmp) (ty : TypeId) (ps : String) (af : Array Edge) (g : Option (Nat × Bool)) (w : World) : (execOp ev ⟨d, .buildSlice 53 1 #[(0, x)], ty, ps, af, g⟩).run Tryz.prog w = bsE (ev x) w := by
  unfold bsE execOp
  simp only [List.map_toArray, List.map_cons, List.map_nil]
theorem bs_en (p : Option Addr) (q : Int) (l : List UInt8) (hl : l.length = 16) (w : World) : bsE (.agg (.pointer p :: .int .i64 q :: bvs l).toArray) w = .ok (.value (.slice (some ⟨w.heap.size, 0, none⟩) 1 1)) (w.alloc (.cells (.pointer p :: .int .i64 q :: bvs l).toArray 60)) := by
  obtain ⟨i0, hi0, hz0, hz1, _⟩ := gt_en.parts
  have hf : Instr.fill (fun i => some (i * i0.size, i0.size)) ((Array.range (1 * i0.size)).map ((Value.agg zEn.toArray).cells[· % (Value.agg zEn.toArray).cells.size]!)) [(0, .agg (.pointer p :: .int .i64 q :: bvs l).toArray)] = some (.pointer p :: .int .i64 q :: bvs l).toArray := by
    rw [hz1]
    match l, hl with
    | [a0, a1, a2, a3, a4, a5, a6, a7, a8, a9, b0, b1, b2, b3, b4, b5], _ => show Instr.fill _ _ _ = _; kernel_rfl
  have hr := run_buildSlice (P := Tryz.prog) w 53 60 1 #[(0, .agg (.pointer p :: .int .i64 q :: bvs l).toArray)] _ i0 _ Tryz.underlying53 hi0 hz0 (by rw [hz1, zEn_len]; decide) (by rw [hz1, zEn_len]; decide) hf
  unfold bsE
  simp only [Sem.run_bind, hr, Result.andThen_ok, Sem.run_pure]
theorem rt_key : RT 58 (bvs (List.replicate 16 0)) := ⟨row_of (by kernel_rfl), by kernel_rfl⟩
theorem bvs_len (l : List UInt8) : (bvs l).length = l.length := by simp [bvs]
/-- append's answer hangs on no type that is handed on. -/
theorem app_ty (ts : Array TypeId) (ty ty' : TypeId) (a : Array Value) : Builtin.append_ ts ty a = Builtin.append_ ts ty' a := rfl
theorem rb_blk {T : TypeId} {w : World} {q : Nat} {l : List UInt8} (k : Blk T w q (bvs l)) : RB w w.heap.size (some ⟨q, 0, none⟩) l.length l :=
  ⟨rfl, fun _ => ⟨q, 0, rfl, k.lt, fun i hi => by rw [Nat.zero_add, k.cell]; simp only [bvs, List.getElem?_map, List.getElem?_eq_getElem hi, Option.map_some]⟩⟩
/-- What a call leaves that puts an entry more, or takes one away, or neither: the blocks that it changes are the ring's and its row's. -/
def RetRn (base x : Nat) (A : Option Addr) (es : Ens) (N F : Nat) (s : Rg) (w w' : World) : Prop :=
  ∃ (A' : Option Addr) (c' : Nat) (es' : Ens), Rn base w' x A' c' es' N F ∧ rgE es' = s ∧ Oth (x :: blkO A) w w' ∧ (∀ e ∈ es', e ∈ es ∨ w.heap.size ≤ e.1.L) ∧ (∀ g ∈ blkO A', g ∈ blkO A ∨ w.heap.size ≤ g)
attribute [local go_sem ↓] ex_blE ex_ldK ex_bsE
set_option maxRecDepth 100000 in
set_option maxHeartbeats 8000000 in
theorem add_any (base : Nat) (x : Nat) (A : Option Addr) (c : Nat) (es : Ens) (N F : Nat) (q : Int) (l : List UInt8) (w : World) (h : Rn base w x A c es N F) (hn : es.length ≤ 1000) (hl : l.length = 16) (h1 : 1 ≤ N) (hbw : base ≤ w.heap.size) :
    Calls Tryz.prog 38 #[.pointer (some ⟨x, 0, none⟩), .int .i64 q, .agg (bvs l).toArray] w fun e w' => e = .returned (.tuple #[]) ∧ RetRn base x A es N F (rgE es ++ [(q, l)]) w w' := by
  have H := Lib.hid h
  have HNN := Lib.hid (And.intro hn (And.intro h1 hbw))
  obtain ⟨n, HN⟩ : ∃ n, Hid (es.length = n) := ⟨_, Lib.hid rfl⟩
  have HL := Lib.hid hl
  clear h hl h1 hbw hn
  go_enter Tryz.func38, Tryz.ntmps38
  go_wp2_with (first
    | (refine wpList_boxB rfl 58 (.tmp 2) rfl (bvs l) rfl ?_; intro w1 g1 k1 hb1 hg1; have K1 := Lib.hid k1; have HB1 := Lib.hid (And.intro hb1 hg1); clear k1 hb1 hg1))
  refine (gnew2_any (some ⟨g1, 0, none⟩) 16 l w1 (by have := rb_blk K1.out; rw [HL.out] at this; exact this) (Nat.le_refl _)).mono ?_
  intro e w2 hr
  obtain ⟨b, rfl, hbk, hb2, hbL, hbH, hbo⟩ := EB.of_new hr
  have K2 := Lib.hid (K1.out.step hb2)
  have HB2 := Lib.hid (bel_next HB1.out.1 hb2)
  have H2 := Lib.hid (H.out.step HB2.out)
  have HBO := Lib.hid (And.intro hbk (And.intro hbL (And.intro hbH hbo)))
  have HS1 := Lib.hid HB1.out.1.size
  clear hr hb2 hbk hbL hbH hbo HB1 K1
  -- the append
  obtain ⟨A', c', W, hrun, hG, hO, hA'⟩ := run_appG gt_en 0 (d := 1) (H2.out.grd.step ((Below.refl _ _).drew.trans (below_alloc w2.drew (.cells (enR (b, q)).toArray 60)))) (by
    have := RdG.lit1 60 w2.drew (enR (b, q)) (enR_one _)
    rw [enR_len (by show b.key.length = 16; rw [HBO.out.1]; exact HL.out)] at this
    exact this) (by have := HNN.out.1; omega) (by omega) (Nat.le_trans HNN.out.2.2 (Nat.le_trans HB2.out.size (by simp)))
  rw [HN.out] at hrun
  have HRUN : Hid (∀ ty, (Builtin.append_ #[53, 53] ty #[.slice A n c, .slice (some ⟨w2.heap.size, 0, none⟩) 1 1]).run Tryz.prog (w2.drew.alloc (.cells (enR (b, q)).toArray 60)) = .ok (.slice A' (n + 1) c') W) := Lib.hid (fun ty => by rw [app_ty _ ty 0]; exact hrun)
  have HG := Lib.hid hG
  have HO2 : Hid (Oth (blkO A) w2 W) := Lib.hid ((Oth.of_below ((Below.refl _ _).drew.trans (below_alloc w2.drew _))).trans hO)
  have HA := Lib.hid hA'
  have hxW : Hid (Blk 55 W x [.slice A n c]) := Lib.hid (by
    have := H2.out.blk.oth HO2.out H2.out.nx
    rw [HN.out] at this
    exact this)
  have hcW := hxW.out.cell 0
  have hfW := hxW.out.free 0
  have hcx := H2.out.c0
  rw [HN.out] at hcx
  have hcx2 := ((below_alloc w2 (.cells (Value.pointer (some ⟨b.x, 0, none⟩) :: .int .i64 q :: bvs l).toArray 60)).cell (p := ⟨x, 0, none⟩) H2.out.blk.lt).trans hcx
  have hld : ∀ W : World, W.heap = w2.heap → ldHd 58 (.pointer (some ⟨g1, 0, none⟩)) W = .ok (.value (.agg (bvs l).toArray)) W := fun W e => ldB_m rt_key (T' := 58) (cs := bvs l) (by unfold Blk; rw [e]; exact K2.out) (by rw [List.drop_zero]; exact List.take_of_length_le (by simp [bvs, HL.out])) (by simp [bvs, HL.out])
  have hl1 := hld w2.drew rfl
  have hbe := bl_en (some ⟨b.x, 0, none⟩) q l HL.out
  have hbs := bs_en (some ⟨b.x, 0, none⟩) q l HL.out
  have hen : enR (b, q) = .pointer (some ⟨b.x, 0, none⟩) :: .int .i64 q :: bvs l := by unfold enR; rw [show (b, q).1.key = l from HBO.out.1]
  rw [hen] at HRUN
  clear hen hrun hG hO hA' hld
  have HEND : Hid (RetRn base x A es N F (rgE es ++ [(q, l)]) w (W.setCell ⟨x, 0, none⟩ (.slice A' (n + 1) c'))) := Lib.hid (by
    refine ⟨A', c', es ++ [(b, q)], ?_, ?_, ?_, ?_, ?_⟩
    · have hn1 : (es ++ [(b, q)]).length = n + 1 := by rw [List.length_append, HN.out]; rfl
      have hox : Oth [x] W (W.setCell ⟨x, 0, none⟩ (.slice A' (n + 1) c')) := (Oth.refl [x] W).set (by simp) 0 _
      have hxA : x ∉ blkO A' := HG.out.away hxW.out (by decide)
      have hall : Oth (x :: blkO A) w2 (W.setCell ⟨x, 0, none⟩ (.slice A' (n + 1) c')) := (HO2.out.more (fun k hk => .tail _ hk)).trans (hox.more (fun k hk => by rw [List.mem_singleton.1 hk]; exact .head _))
      have hxlt : x < w.heap.size := H.out.blk.lt
      have hbL : w.heap.size ≤ b.L := by rw [HBO.out.2.1]; exact HS1.out
      have hnew : ∀ g ∈ blkO A', g ∈ blkO A ∨ w2.heap.size ≤ g := fun g hg => (HA.out g hg).imp id (fun k => by simp at k; omega)
      refine ⟨?_, ?_, fun e he => ?_, ?_, H.out.low⟩
      · rw [hn1]; exact hxW.out.set 0 _
      · show Grd _ 18 _ base A' (es ++ [(b, q)]).length c' ((es ++ [(b, q)]).map enR)
        have hG1 := HG.out
        rw [HN.out] at hG1
        rw [hn1, List.map_append]
        exact hG1.oth hox (fun g hg hm => hxA (by rw [List.mem_singleton] at hm; rw [← hm]; exact hg))
      · rcases List.mem_append.1 he with he | he
        · obtain ⟨o1, o2, o3, o4, o5⟩ := H2.out.ok e he
          refine ⟨o1.off hall (fun g hg => ?_), o2, o3, o4, fun g hg => ?_⟩
          · rcases List.mem_cons.1 hg with rfl | hg
            · exact o4
            · exact o5 g hg
          · rcases hnew g hg with hg | hg
            · exact o5 g hg
            · exact .inr (Nat.le_trans o1.le hg)
        · rw [List.mem_singleton.1 he]
          have hlow : ∀ g ∈ x :: blkO A, b.out g := fun g hg => by
            refine .inl (Nat.lt_of_lt_of_le ?_ hbL)
            rcases List.mem_cons.1 hg with rfl | hg
            · exact hxlt
            · exact (H.out.grd.lt g hg).2
          refine ⟨(HBO.out.2.2.2.off hall hlow).up HNN.out.2.1 (Nat.zero_le _), by show b.key.length = 16; rw [HBO.out.1]; exact HL.out, Nat.le_trans HNN.out.2.2 hbL, hlow x (.head _), fun g hg => ?_⟩
          rcases hnew g hg with hg | hg
          · exact hlow g (.tail _ hg)
          · exact .inr (by rw [HBO.out.2.2.1]; exact hg)
      · refine List.pairwise_append.2 ⟨H.out.pw, List.pairwise_singleton _ _, fun a ha c hc => ?_⟩
        rw [List.mem_singleton.1 hc]
        exact Nat.le_trans (H.out.ok a ha).1.le hbL
    · unfold rgE; rw [List.map_append]; show _ ++ [((b, q).2, (b, q).1.key)] = _; rw [show (b, q).1.key = l from HBO.out.1]
    · have hox : Oth [x] W (W.setCell ⟨x, 0, none⟩ (.slice A' (n + 1) c')) := (Oth.refl [x] W).set (by simp) 0 _
      exact ((Oth.of_below HB2.out).trans (HO2.out.more (fun k hk => .tail _ hk))).trans (hox.more (fun k hk => by rw [List.mem_singleton.1 hk]; exact .head _))
    · intro e he
      rcases List.mem_append.1 he with he | he
      · exact .inl he
      · right; rw [List.mem_singleton.1 he]; show w.heap.size ≤ b.L; rw [HBO.out.2.1]; exact HS1.out
    · exact fun g hg => (HA.out g hg).imp id (fun k => by have := HB2.out.size; simp at k; omega))
  clear HG HO2 HA HBO K2
  go_wp2_with fail
  go_region_law (refine step_run rfl (.tmp 17) (.tmp 22) 53 rfl _ _ _ rfl rfl HRUN.out ?_)
  all_goals (go_wp2_with fail; exact ⟨rfl, _, results_none rfl _ _ _, rfl, HEND.out⟩)
end Go.Proofs.YtlapnfpdkfhfdaaGreat
