/- Layer 13: bytes divided into fours (slices.Chunk), and split: their versions. Conditions: the slice's cells are readable; a multiple of four of them. -/
import Derived.RangeFuncNested
import Derived.RangeFuncBound
import Derived.RangeFuncCalls
import Derived.RangeFuncLeaves
import Derived.Shelf.Abstract
import Derived.Shelf.RegionOpen
import Derived.OwnWalkIn
import Derived.TacticsInMore
import Derived.LoopNIn
import Derived.LoopIn
import Derived.Test.YtppopdjfecabfaaOffS
namespace Go.Proofs.Ytppopdjfecabfaa
open Go.RowKit Go.Shelf
set_option linter.unusedVariables false
set_option linter.unusedSimpArgs false

/-- Whatever lay below, and the blocks of the captured variables, are as they were. -/
def KpC (n₀ B C : Nat) (W W' : World) : Prop := Below n₀ W W' ∧ W'.heap[B]? = W.heap[B]? ∧ W'.heap[C]? = W.heap[C]?
theorem kpc_t {n₀ B C : Nat} {W1 W2 W3 : World} (h : KpC n₀ B C W1 W2) (k : KpC n₀ B C W2 W3) : KpC n₀ B C W1 W3 := ⟨h.1.trans k.1, k.2.1.trans h.2.1, k.2.2.trans h.2.2⟩
theorem kpc_b {n₀ B C : Nat} {w : World} (hn : n₀ ≤ w.heap.size) (hB : B < w.heap.size) (hC : C < w.heap.size) (W : World) (l : Nat) (o o' : Obj) (hl : w.heap.size ≤ l) (h : W.heap[l]? = some o) (h1 : o.isCells = false) (h2 : o.isWalk = false) : KpC n₀ B C W (W.putObj l o') :=
  ⟨belowK_b hn W l o o' hl h h1 h2, (belowK_b (Nat.le_refl _) W l o o' hl h h1 h2).block B hB, (belowK_b (Nat.le_refl _) W l o o' hl h h1 h2).block C hC⟩
theorem grown_belC {W W' : World} (hb : Below W.heap.size W W') : W.grownBy W' none := ⟨hb.os, hb.tape, hb.output, hb.size, fun k hk _ => hb.block k hk⟩
theorem keeps_belC {W W' : World} (hb : Below W.heap.size W W') : KeepsOthers W W' := ⟨hb.size, fun k o hk _ => (hb.block k (Array.getElem?_eq_some_iff.1 hk).1).trans hk⟩
theorem range_takeC (m k : Nat) (hk : k < m) : (List.range m).take k ++ [k] = (List.range m).take (k + 1) := by
  rw [List.take_add_one, List.getElem?_range hk]; rfl
theorem addr_add (g o i : Nat) : (⟨g, o, none⟩ : Addr).add i = ⟨g, o + i, none⟩ := by unfold Addr.add; split <;> simp_all
theorem cut_from (g o m c I : Nat) (h1 : I < m) (h2 : m ≤ c) : ∀ W : World, (Instr.slice 22 (.slice (some ⟨g, o, none⟩) m c) (some (.int .i64 (I : Int))) none none).run Try.prog W = .ok (.slice (some ⟨g, o + I, none⟩) (m - I) (c - I)) W := by
  intro W
  have h := cut_l (some ⟨g, o, none⟩) m c I (by omega) W
  unfold cutA at h
  rw [if_neg (by omega), Option.map_some, addr_add] at h
  exact h
theorem cut_four (g o m c I J : Nat) (hJ : J = I + 4) (h1 : I + 4 ≤ m) (h2 : m ≤ c) : ∀ W : World, (Instr.slice 22 (.slice (some ⟨g, o, none⟩) m c) (some (.int .i64 (I : Int))) (some (.int .i64 (J : Int))) (some (.int .i64 (J : Int)))).run Try.prog W = .ok (.slice (some ⟨g, o + I, none⟩) 4 4) W := by
  intro W
  have e1 : I ≤ J := by omega
  have e2 : J ≤ c := by omega
  have e3 : ¬ (J = I) := by omega
  have e4 : J - I = 4 := by omega
  simp [Instr.slice, Instr.sliceBounds, Instr.sliceBound, asIntOf, go_sem, run_underlying Try.underlying22, e1, e2, e3, e4, addr_add]
attribute [local go_sem] Oper.semAt_some

set_option maxRecDepth 100000 in
set_option maxHeartbeats 4000000 in
theorem chunk1_in (n : Nat) (hn : 1 ≤ n) (l B C g o m c M n₀ : Nat) (J Jx : List Nat → World → Prop) (B0 : Nat) (hJa : AbidesFrom B0 J) (hM : m = 4 * M)
    (hY : ∀ pre x W, J pre W → pre.length < M → YieldAt Fence.wide (n - 1) Try.prog l #[.slice (some ⟨g, o + 4 * (x % M), none⟩) 4 4] W fun e W' => (e = .returned (.bool true) ∧ J (pre ++ [x]) W' ∧ KpC n₀ B C W W') ∨ (e = .returned (.bool false) ∧ Jx (pre ++ [x]) W'))
    (W : World) (hB : W.cell? ⟨B, 0, none⟩ = some (.slice (some ⟨g, o, none⟩) m c)) (hC : W.cell? ⟨C, 0, none⟩ = some (.int .i64 4)) (hmc : m ≤ c) (hm : m ≤ 1000000000) (hBW : B < W.heap.size) (hCW : C < W.heap.size) (hJ0 : J [] W) :
    CallsIn Fence.wide n Try.prog 52 #[.func (.yield l) #[] #[], .pointer (some ⟨B, 0, none⟩), .pointer (some ⟨C, 0, none⟩)] W fun e W' => (∃ v, e = .returned v) ∧
      ((∃ ys, ys = List.range M ∧ J ys W') ∨ (∃ pre, pre <+: List.range M ∧ Jx pre W')) := by
  have HJA := Lib.hid hJa
  have HM := Lib.hid hM
  clear hJa hM
  have HRT := Lib.hid (range_takeC M)
  obtain ⟨rs, HRS⟩ : ∃ rs, Hid (rs = List.range M ∧ rs.length = M) := ⟨_, Lib.hid ⟨rfl, List.length_range⟩⟩
  rw [← HRS.out.1] at HRT ⊢
  refine callsIn_of_wp Try.func52 rfl trivial ?_ rfl
  simp only [Try.ntmps52, List.size_toArray, List.length_cons, List.length_nil, Nat.reduceAdd, Nat.reduceSub, Array.replicate_succ, Array.replicate_zero, List.push_toArray, List.append_toArray, List.nil_append, List.cons_append]
  gi_wp2
  gi_loopw [4, 5] (fun t _ wr => ∃ k I : Nat, k ≤ M ∧ Hid (I = 4 * k) ∧ t = .int .i64 (I : Int) ∧ I ≤ m ∧ Hid (J (rs.take k) wr) ∧ Hid (KpC n₀ B C W wr ∧ W.heap.size ≤ wr.heap.size)) (fun t _ _ => m + 4 - (intOf t).toNat)
  case atStart => exact ⟨0, 0, by omega, Lib.hid rfl, rfl, by omega, Lib.hid (by rw [List.take_zero]; exact hJ0), Lib.hid ⟨⟨Below.refl _ _, rfl, rfl⟩, Nat.le_refl _⟩⟩
  case round =>
    obtain ⟨k, I, hk, hI, rfl, hIm, hJ, hb⟩ := hrel
    clear hJ0
    have hcB : wr.cell? ⟨B, 0, none⟩ = some (.slice (some ⟨g, o, none⟩) m c) := (World.cell?_of_block hb.out.1.2.1).trans hB
    have hcC : wr.cell? ⟨C, 0, none⟩ = some (.int .i64 4) := (World.cell?_of_block hb.out.1.2.2).trans hC
    by_cases hlt : I < m
    · have hkM : k < M := by have := HM.out; have := hI.out; omega
      have hI4 : I + 4 ≤ m := by have := HM.out; have := hI.out; omega
      have hcut := cut_from g o m c I hlt hmc
      obtain ⟨I4, HI4⟩ : ∃ I4, I4 = I + 4 := ⟨_, rfl⟩
      have hcut4 := cut_four g o m c I I4 HI4 hI4 hmc
      obtain ⟨d, hd⟩ : ∃ d, d = m - I := ⟨_, rfl⟩
      rw [← hd] at hcut
      have hdm : d ≤ 1000000000 := by omega
      have hd4 : 4 ≤ d := by omega
      have hadd : (I : Int) + 4 = (I4 : Int) := by omega
      have hI9 : I4 ≤ 1000000000 := by omega
      have HI4' := Lib.hid HI4
      have hmod : k % M = k := Nat.mod_eq_of_lt hkM
      have HY := hY (rs.take k) k wr.drew (HJA.out _ wr wr.drew none hJ.out (grown_belC (Below.refl _ _).drew) (fun r e => by cases e)) (by rw [List.length_take, HRS.out.2]; omega)
      rw [hmod, ← hI.out] at HY
      obtain ⟨fn, tmps, assign, body, hy, hRd⟩ := HY
      have HRD := Lib.hid hRd
      have HKM := Lib.hid hkM
      clear hRd hY HI4 hd hmod hkM
      gi_wp2_with fail
      gi_region
      all_goals
        gi_wp2_with fail
      refine HRD.out.mono ?_
      rintro e W4 (⟨rfl, hJ4, hk4⟩ | ⟨rfl, hJx4⟩)
      · have hcC4 : W4.cell? ⟨C, 0, none⟩ = some (.int .i64 4) := (World.cell?_of_block hk4.2.2).trans hcC
        have hn4 : Hid (KpC n₀ B C W W4 ∧ W.heap.size ≤ W4.heap.size) := Lib.hid ⟨kpc_t (kpc_t hb.out.1 ⟨(Below.refl _ _).drew, rfl, rfl⟩) hk4, Nat.le_trans hb.out.2 hk4.1.size⟩
        have HJ4 := Lib.hid hJ4
        clear hk4 hJ4
        gi_wp2_with fail
        go_roundw
        case rel => exact ⟨k + 1, I4, HKM.out, Lib.hid (by have := HI4'.out; have := hI.out; omega), rfl, by have := HI4'.out; omega, Lib.hid (by rw [← HRT.out k HKM.out]; exact HJ4.out), hn4⟩
        case measure => have := HI4'.out; simp [intOf]; omega
      · gi_wp2_with fail
        refine bodyPost_ret (results_none rfl _ _ _) rfl ?_
        exact ⟨⟨_, rfl⟩, .inr ⟨_, by rw [HRT.out k HKM.out]; exact List.take_prefix _ _, hJx4⟩⟩
    · obtain rfl : k = M := by have := HM.out; have := hI.out; omega
      gi_wp2
      go_end0
      exact ⟨⟨_, rfl⟩, .inl ⟨_, rfl, by have h := hJ.out; rw [List.take_of_length_le (by rw [HRS.out.2]; omega)] at h; exact h⟩⟩
theorem chunk_stops (n : Nat) (hn : 1 ≤ n) (B C g o m c M n₀ : Nat) (w : World) (hM : m = 4 * M) (hB : w.cell? ⟨B, 0, none⟩ = some (.slice (some ⟨g, o, none⟩) m c)) (hC : w.cell? ⟨C, 0, none⟩ = some (.int .i64 4)) (hmc : m ≤ c) (hm : m ≤ 1000000000) (hBW : B < w.heap.size) (hCW : C < w.heap.size) :
    SeqStopsK Fence.wide n Try.prog 52 #[.pointer (some ⟨B, 0, none⟩), .pointer (some ⟨C, 0, none⟩)] (fun i : Nat => #[.slice (some ⟨g, o + 4 * (i % M), none⟩) 4 4]) (KpC n₀ B C) (fun ys => ys = List.range M) (fun pre => pre <+: List.range M) M w := fun l J Jx W hW hJ _ hY h0 =>
  chunk1_in n hn l B C g o m c M n₀ J Jx W.heap.size hJ hM hY W ((hW.cell (p := ⟨B, 0, none⟩) hBW).trans hB) ((hW.cell (p := ⟨C, 0, none⟩) hCW).trans hC) hmc hm (Nat.lt_of_lt_of_le hBW hW.size) (Nat.lt_of_lt_of_le hCW hW.size) h0
set_option maxRecDepth 100000 in
theorem chunk_any (A : Option Addr) (m c : Nat) (w : World) : Calls Try.prog 44 #[.slice A m c, .int .i64 4] w fun e w' => e = .returned (.func (.func 52) #[] #[.pointer (some ⟨w.heap.size, 0, none⟩), .pointer (some ⟨w.heap.size + 1, 0, none⟩)]) ∧ w' = (w.alloc (.cells #[.slice A m c] 22)).alloc (.cells #[.int .i64 4] 3) := by
  go_enter Try.func44, Try.ntmps44
  go_wp2_with fail
  go_ret
  exact ⟨rfl, rfl⟩
/-- What split holds between two rounds: its versions, in their variable. -/
structure SpI (w : World) (G : Nat) (A : Option Addr) (n c M : Nat) (R : List UInt8) (pre : List Nat) (W : World) : Prop where
  bel : Below w.heap.size w W
  lg : w.heap.size ≤ G
  out : ∃ A1 c1, W.heap[G]? = some (.cells #[.slice A1 pre.length c1] 23 (0, 0)) ∧ OwnV W w.heap.size A1 pre.length c1 (pre.map fun i => vnum R (i % M))
  b : W.heap[G + 1]? = some (.cells #[.slice A n c] 22 (0, 0))
  c : W.heap[G + 2]? = some (.cells #[.int .i64 4] 3 (0, 0))
theorem OwnV.kept {W W' : World} {row : Option Nat} {base k c : Nat} {A : Option Addr} {xs : List Nat} (h : OwnV W base A k c xs) (hg : W.grownBy W' row) (hr : ∀ r, row = some r → ∃ o : Obj, W.heap[r]? = some o ∧ o.isCells = false) : OwnV W' base A k c xs := by
  refine ⟨⟨h.1.1, ?_⟩, h.2⟩
  rcases h.1.2 with h0 | ⟨g, cap, cur, hv, hbg, hh, r⟩
  · exact .inl h0
  · exact .inr ⟨g, cap, cur, hv, hbg, (grownBy_keeps_cells hg hr hh rfl).trans hh, r⟩
theorem spI_own (w : World) (G : Nat) (A : Option Addr) (n c M : Nat) (R : List UInt8) (B : Nat) (hB : w.heap.size ≤ B) : OwnFrom B (SpI w G A n c M R) := by
  intro s W W' row hs hg hr
  obtain ⟨h1, h2, ⟨A1, c1, h3, h4⟩, h5, h6⟩ := hs
  have hr' : ∀ r, row = some r → ∃ o : Obj, W.heap[r]? = some o ∧ o.isCells = false := fun r e => (hr r e).2
  exact ⟨ownFrom_below (Nat.le_refl _) hB s W W' row h1 hg hr, h2, ⟨A1, c1, (grownBy_keeps_cells hg hr' h3 rfl).trans h3, h4.kept hg hr'⟩, (grownBy_keeps_cells hg hr' h5 rfl).trans h5, (grownBy_keeps_cells hg hr' h6 rfl).trans h6⟩
/-- A block of another type than versions is as it was where versions have grown. -/
theorem own_neV {w : World} {base n c k : Nat} {A : Option Addr} {ls : List Nat} {cs : Array Value} {T : TypeId} {fr : Nat × Nat} (hv : OwnV w base A n c ls) (hk : w.heap[k]? = some (.cells cs T fr)) (hT : T ≠ 34) : ∀ g o, A = some ⟨g, o, none⟩ → g ≠ k := by
  intro g o e hg
  subst hg
  rcases hv.1.2 with ⟨h0, _⟩ | ⟨g', cap, cur, hv, _, hh, _⟩
  · rw [e] at h0; cases h0
  · rw [e] at hv
    injection hv with hv
    injection hv with hv
    injection hv with e1
    subst e1
    rw [hk] at hh
    injection hh with hh
    injection hh with _ e2
    exact hT e2
theorem grown_keep {w w' : World} {base n c k : Nat} {A : Option Addr} {ls : List Nat} {cs : Array Value} {T : TypeId} {fr : Nat × Nat} (hv : OwnV w base A n c ls) (hg : w.grownBy w' (Value.ownBlock (.slice A n c))) (hk : w.heap[k]? = some (.cells cs T fr)) (hT : T ≠ 34) : w'.heap[k]? = some (.cells cs T fr) :=
  ((Oth.of_grown hg).block k (Array.getElem?_eq_some_iff.1 hk).1 (fun hm => own_neV hv hk hT _ _ (hv.spot _ hm).1 rfl)).trans hk
theorem keeps_grownV {w w' : World} {base n c : Nat} {A : Option Addr} {ls : List Nat} (hv : OwnV w base A n c ls) (hg : w.grownBy w' (Value.ownBlock (.slice A n c))) : KeepsOthers w w' :=
  KeepsOthers.of_grownBy hg (fun j o e ho => by
    rcases hv.1.2 with ⟨h0, _⟩ | ⟨g', cap, cur, hv', _, hh, _⟩
    · rw [h0] at e; simp [Value.ownBlock] at e
    · rw [hv'] at e
      simp only [Value.ownBlock, Option.some.injEq] at e
      subst e
      rw [hh] at ho
      injection ho with ho
      rw [← ho]
      rfl)
attribute [local irreducible] vnum splV numL
set_option maxRecDepth 100000 in
set_option maxHeartbeats 4000000 in
theorem osplit_any (A : Option Addr) (n c : Nat) (R : List UInt8) (M : Nat) (w : World) (h : RB w w.heap.size A n R) (hM : n = 4 * M) (hM0 : 0 < M) (hM2 : M ≤ 250000) (hc : n ≤ c ∧ c ≤ maxLen) :
    Calls Try.prog 30 #[.slice A n c] w fun e w' => ∃ A' c', e = .returned (.slice A' M c') ∧ OwnV w' w.heap.size A' M c' ((List.range M).map (vnum R)) ∧ Below w.heap.size w w' := by
  have H := Lib.hid h
  have HM := Lib.hid hM
  have hnm : n ≤ 1000000 := by omega
  have hq : (n : Int) / 4 = (M : Int) := by omega
  obtain ⟨g, o, rfl, hg, -⟩ := h.2 (by omega)
  unfold maxLen at hc
  clear h hM
  refine (callsIn_wide (n := 3)).1 ?_
  refine callsIn_of_wp_marks Try.func30 rfl trivial ?_ rfl
  simp only [Try.ntmps30, List.size_toArray, List.length_cons, List.length_nil, Nat.reduceAdd, Nat.reduceSub, Array.replicate_succ, Array.replicate_zero, List.push_toArray, List.append_toArray, List.nil_append, List.cons_append]
  gi_wp2_with (first
    | (with_reducible show wpListIn _ _ _ _ _ (⟨some 10, .makeSlice _ _ _, _, _, _, none⟩ :: _) _ _; refine wpListIn_mkV0 rfl _ _ rfl w.heap.size .i64 .i64 _ M rfl rfl rfl (by omega) (Nat.le_refl _) ?_; intro w1 ho1 hb1; have HO1 := Lib.hid ho1; have HB1 := Lib.hid hb1; clear ho1 hb1)
    | (refine ⟨trivial, ?_⟩; gi_at_call 44; refine (callsIn_wide.2 (chunk_any _ _ _ _)).mono ?_; rintro e w2 ⟨rfl, rfl⟩))
  obtain ⟨W0, HW0⟩ : ∃ W0, Hid (W0 = ((w1.alloc (.cells #[.slice (some ⟨w.heap.size, 0, none⟩) 0 M] 23)).alloc (.cells #[.slice (some ⟨g, o, none⟩) n c] 22)).alloc (.cells #[.int .i64 4] 3)) := ⟨_, Lib.hid rfl⟩
  obtain ⟨G, HG⟩ : ∃ G, Hid (G = w1.heap.size) := ⟨_, Lib.hid rfl⟩
  have hS0 : W0.heap.size = G + 3 := by rw [HW0.out, HG.out]; simp
  have hlG : w.heap.size ≤ G := by rw [HG.out]; exact HB1.out.size
  have HI0 : Hid (SpI w G (some ⟨g, o, none⟩) n c M R [] W0) := Lib.hid (by
    have hs := HB1.out.size
    rw [HW0.out, HG.out]
    refine ⟨((HB1.out.alloc hs _).alloc (by simp; omega) _).alloc (by simp; omega) _, hs, ⟨some ⟨w.heap.size, 0, none⟩, M, ?_, ?_⟩, ?_, ?_⟩
    · exact (Below.heap_alloc _ _ _ (by simp; omega)).trans ((Below.heap_alloc _ _ _ (by simp)).trans (World.alloc_heap_new w1 _))
    · exact ((HO1.out.below (below_alloc _ _)).below (below_alloc _ _)).below (below_alloc _ _)
    · have h1 := World.alloc_heap_new (w1.alloc (.cells #[.slice (some ⟨w.heap.size, 0, none⟩) 0 M] 23)) (.cells #[.slice (some ⟨g, o, none⟩) n c] 22)
      rw [World.size_alloc] at h1
      exact (Below.heap_alloc _ _ _ (by simp)).trans h1
    · have h1 := World.alloc_heap_new ((w1.alloc (.cells #[.slice (some ⟨w.heap.size, 0, none⟩) 0 M] 23)).alloc (.cells #[.slice (some ⟨g, o, none⟩) n c] 22)) (.cells #[.int .i64 4] 3)
      rw [World.size_alloc, World.size_alloc] at h1
      exact h1)
  have hcB : W0.cell? ⟨G + 1, 0, none⟩ = some (.slice (some ⟨g, o, none⟩) n c) := by rw [cell_of_row W0 (G + 1) 0 _ _ (0, 0) HI0.out.b]; rfl
  have hcC : W0.cell? ⟨G + 1 + 1, 0, none⟩ = some (.int .i64 4) := by rw [cell_of_row W0 (G + 1 + 1) 0 _ _ (0, 0) HI0.out.c]; rfl
  rw [← HW0.out, ← HG.out]
  clear HW0 HO1 HB1
  refine wpIn_rangeFunc_ownF rfl (by omega) (gf := 52) (lb := #[.pointer (some ⟨G + 1, 0, none⟩), .pointer (some ⟨G + 1 + 1, 0, none⟩)]) rfl trivial (enters_of Try.func52 (by kernel_rfl) rfl)
    (chunk_stops _ (by omega) (G + 1) (G + 1 + 1) g o n c M w.heap.size W0 HM.out hcB hcC hc.1 (by omega) (by omega) (by omega)) kpc_t (kpc_b (by omega) (by omega) (by omega)) (Below.refl _ _) (fun _ => rfl)
    (SpI w G (some ⟨g, o, none⟩) n c M R) (fun _ _ _ => False) (spI_own w G _ n c M R _ (by omega)) (fun _ _ _ _ _ hs _ _ => hs) HI0.out
    (fun x => { tmps := #[.slice (some ⟨g, o, none⟩) n c, undef, .slice none 0 0, .pointer (some ⟨G, 0, none⟩), .slice (some ⟨g, o + 4 * (x % M), none⟩) 4 4, undef, undef, .slice (some ⟨g, o, none⟩) n c, .int .i64 (n : Int), .int .i64 (M : Int), .slice (some ⟨w.heap.size, 0, none⟩) 0 M, .slice (some ⟨g, o, none⟩) n c, .func (.func 52) #[] #[.pointer (some ⟨G + 1, 0, none⟩), .pointer (some ⟨G + 1 + 1, 0, none⟩)], .slice (some ⟨g, o + 4 * (x % M), none⟩) 4 4, undef, undef, undef, undef, undef, undef, undef, undef, undef, undef, undef], defers := [] }) ?assign ?body ?done ?stop
  case assign =>
    intro l x W K hK
    gi_wp2
    exact hK
  case body =>
    rintro l pre x W hi hlen
    have HI := Lib.hid hi
    have HPL := Lib.hid hlen
    clear hi hlen HI0 hcB hcC
    obtain ⟨A1, c1, hG1, hv1⟩ := HI.out.out
    obtain ⟨V, HV⟩ : ∃ V, Hid (V = vnum R (x % M)) := ⟨_, Lib.hid rfl⟩
    obtain ⟨q, HQ⟩ : ∃ q, Hid (q = o + 4 * (x % M)) := ⟨_, Lib.hid rfl⟩
    rw [← HQ.out]
    have hV : V ≤ 4294967295 := by rw [HV.out]; exact vnum_le _ _
    have hw := wrap32 V hV
    have HN : Hid (Calls Try.prog 45 #[.slice (some ⟨g, q, none⟩) 4 4] W fun e w' => e = .returned (.tuple #[.int .u64 (V : Int), .int .i64 0]) ∧ W = w') := Lib.hid (by
      have hx := Nat.mod_lt x hM0
      have hmn := HM.out
      have hp := (H.out.below HI.out.bel).part (i := 4 * (x % M)) (j := 4 * (x % M) + 4) (c := c) (by omega) (by omega) hc.1
      unfold cutA at hp
      rw [if_neg (by omega), Option.map_some, addr_add, ← HQ.out, List.drop_take, Nat.add_sub_cancel_left] at hp
      have hn := num_few (some ⟨g, q, none⟩) 4 4 _ _ W hp (by omega)
      rw [vnum_four, ← HV.out] at hn
      exact hn)
    have hcl : W.cell? ⟨G, 0, none⟩ = some (.slice A1 pre.length c1) := by rw [cell_of_row W G 0 _ _ (0, 0) hG1]; rfl
    have HG1 := Lib.hid hG1
    have HV1 := Lib.hid hv1
    have hpl : pre.length ≤ 1000000 := by have := HPL.out; omega
    clear hG1 hv1
    gi_wp2_with (first
      | (refine ⟨trivial, ?_⟩; gi_at_call 45; refine (CallsIn.inRound l (callsIn_wide.2 HN.out)).mono ?_; rintro e w2 ⟨rfl, rfl⟩)
      | (refine wpListIn_appV rfl (.tmp 19) (.tmp 22) rfl w.heap.size A1 pre.length c1 (pre.map fun i => vnum R (i % M)) rfl (by exact HV1.out.below (below_alloc _ _)) _ (some ⟨W.heap.size, 0, none⟩) 1 1 [V] rfl (by exact VL.lit W [V] _ 1 _ _ rfl rfl rfl (by intro y hy; rw [List.mem_singleton.1 hy]; exact hV)) (by omega) (by exact (bel_next HI.out.bel (below_alloc _ _)).size) ?_; intro A2 c2 w3 ho3 hg3 hb3; have HO3 := Lib.hid ho3; have HG3 := Lib.hid hg3; have HB3 := Lib.hid hb3; have hG3 : Hid (w3.heap[G]? = some (.cells #[.slice A1 pre.length c1] 23 (0, 0))) := Lib.hid (grown_keep (HV1.out.below (below_alloc _ _)) hg3 ((Below.heap_alloc _ _ _ (Array.getElem?_eq_some_iff.1 HG1.out).1).trans HG1.out) (by decide)); have k3c : w3.cell? ⟨G, 0, none⟩ = some (.slice A1 pre.length c1) := (by rw [cell_of_row w3 G 0 _ _ (0, 0) hG3.out]; rfl); have k3f : w3.frozen? ⟨G, 0, none⟩ = false := frozen_of_row w3 G 0 _ _ hG3.out; clear ho3 hg3 hb3))
    have hs0 := HI.out.bel.size
    have hgB : w3.heap[G + 1]? = some (.cells #[.slice (some ⟨g, o, none⟩) n c] 22 (0, 0)) := grown_keep (HV1.out.below (below_alloc _ _)) HG3.out ((Below.heap_alloc _ _ _ (Array.getElem?_eq_some_iff.1 HI.out.b).1).trans HI.out.b) (by decide)
    have hgC : w3.heap[G + 2]? = some (.cells #[.int .i64 4] 3 (0, 0)) := grown_keep (HV1.out.below (below_alloc _ _)) HG3.out ((Below.heap_alloc _ _ _ (Array.getElem?_eq_some_iff.1 HI.out.c).1).trans HI.out.c) (by decide)
    have hB4 : Below w.heap.size W (w3.setCell ⟨G, 0, none⟩ (.slice A2 (pre.length + 1) c2)) := (((below_alloc W _).mono hs0).trans HB3.out).setCell (p := ⟨G, 0, none⟩) hlG _
    have hX : Oth [G] w3 (w3.setCell ⟨G, 0, none⟩ (.slice A2 (pre.length + 1) c2)) := (Oth.refl [G] w3).set (x := G) (by simp) 0 _
    have hB5 : (w3.setCell ⟨G, 0, none⟩ (.slice A2 (pre.length + 1) c2)).heap[G + 1]? = some (.cells #[.slice (some ⟨g, o, none⟩) n c] 22 (0, 0)) := (hX.block (G + 1) (Array.getElem?_eq_some_iff.1 hgB).1 (by simp)).trans hgB
    have hC5 : (w3.setCell ⟨G, 0, none⟩ (.slice A2 (pre.length + 1) c2)).heap[G + 2]? = some (.cells #[.int .i64 4] 3 (0, 0)) := (hX.block (G + 2) (Array.getElem?_eq_some_iff.1 hgC).1 (by simp)).trans hgC
    refine ⟨(KeepsOthers.alloc _ _).trans ((keeps_grownV (HV1.out.below (below_alloc _ _)) HG3.out).trans (KeepsOthers.setCell _ _ _)), ⟨hB4, hB5.trans HI.out.b.symm, hC5.trans HI.out.c.symm⟩, HI.out.bel.trans hB4, hlG, ⟨A2, c2, ?_, ?_⟩, hB5, hC5⟩
    · rw [List.length_append, List.length_singleton]
      exact heap_setCell_same w3 G 0 _ _ _ hG3.out
    · rw [List.length_append, List.length_singleton, List.map_append, List.map_cons, List.map_nil, ← HV.out]
      exact HO3.out.oth hX (fun g2 o2 e hm => by
        rw [List.mem_singleton] at hm
        exact own_neV HO3.out hG3.out (by decide) g2 o2 e hm)
  case done =>
    rintro D ys W hD rfl hi hK
    have HI := Lib.hid hi
    have HK := Lib.hid hK
    clear hi hK hcB hcC HI0
    obtain ⟨A1, c1, hG1, hv1⟩ := HI.out.out
    have hcl : W.cell? ⟨G, 0, none⟩ = some (.slice A1 M c1) := by rw [cell_of_row W G 0 _ _ (0, 0) hG1]; simp
    have HV1 := Lib.hid hv1
    clear hG1 hv1
    gi_wp2_with fail
    refine ⟨by simp, .inl ⟨_, _, rfl, run_takeDeferred HK.out, ?_⟩⟩
    refine ⟨_, results_tmp rfl _ _ _, A1, c1, rfl, ?_, ?_⟩
    · have h := HV1.out.kept (grownBy_putObj' W D (.deferred none)) (fun r e => by cases e; exact ⟨_, HK.out, rfl⟩)
      rw [List.length_range] at h
      have e : (List.range M).map (fun i => vnum R (i % M)) = (List.range M).map (vnum R) := List.map_congr_left fun i hi => by rw [Nat.mod_eq_of_lt (List.mem_range.1 hi)]
      rw [e] at h
      exact h
    · exact HI.out.bel.trans (belowK_b (w := w) (Nat.le_refl _) _ D _ _ (by omega) HK.out rfl rfl)
  case stop =>
    rintro D c pre W _ _ h _
    exact h.elim
end Go.Proofs.Ytppopdjfecabfaa
