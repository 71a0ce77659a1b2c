/- Layer 14's Join. Conditions: the slices' cells are readable, lengths are at most a million. -/
import Derived.Test.YtfipdaekfdbaeaaGreatHvH
import Derived.Test.YtfipdaekfdbaeaaGreatMapB
import Derived.Great.BuildSlice
namespace Go.Proofs.YtfipdaekfdbaeaaGreat
open Go.RowKit
set_option linter.unusedVariables false
set_option linter.unusedSimpArgs false
/-- Two sides as a slice. -/
theorem wpList_sides {w : World} {ops : Array Oper} {rest : List Oper} {o : Oper} {a : Act} {Q : Exit → Act → World → Prop} (hgd : o.guard = none) (x y : Operand) (hop : o.op = .buildSlice 157 2 #[(0, x), (1, y)]) (s1 s2 : List Value) (l1 : s1.length = 4) (l2 : s2.length = 4) (V1 V2 : Value) (hx : a.eval x = V1) (hy : a.eval y = V2) (h1 : V1 = .agg s1.toArray) (h2 : V2 = .agg s2.toArray)
    (hK : ∀ w' q, Blk 144 w' q (s1 ++ s2) → Below w.heap.size w w' → wpList Tryz.prog ops Q rest (a.put o.dst (.slice (some ⟨q, 0, none⟩) 2 2)) w') : wpList Tryz.prog ops Q (o :: rest) a w := by
  obtain ⟨i0, hi0, hz1⟩ : ∃ i, Tryz.prog.info? 144 = some i ∧ i.size = 4 := by
    have h2 := rt_side.info
    rcases hi : Tryz.prog.info? 144 with _ | i
    · rw [hi] at h2; cases h2
    · rw [hi] at h2
      simp only [Option.map_some, Option.some.injEq, Prod.mk.injEq] at h2
      exact ⟨i, rfl, h2.2⟩
  obtain ⟨z, hz0, hz2⟩ : ∃ z, i0.zero = some z ∧ z.cells.size = 4 := by
    have h2 := rt_side.info
    rw [hi0] at h2
    simp only [Option.map_some, Option.some.injEq, Prod.mk.injEq] at h2
    exact ⟨_, h2.1, rfl⟩
  refine wpList_buildSlice hgd 157 144 2 _ hop (s1 ++ s2).toArray i0 z Tryz.underlying157 hi0 hz0 (by rw [hz1]; omega) (by rw [hz1]; omega) ?_ (hK _ _ (Blk.new _ _ _ _ rfl) (below_alloc _ _))
  have e : (#[((0 : Nat), x), (1, y)].map fun (i, x) => (i, a.eval x)).toList = (([V1, V2]).zipIdx 0).map fun x => (x.2, x.1) := by
    rw [← hx, ← hy]
    simp [List.zipIdx]
  rw [e, hz1]
  have f := Great.fill_whole (s := 4) (by omega) [V1, V2] ((Array.range (2 * 4)).map (z.cells[· % z.cells.size]!)) (fun v hv => by
    simp only [List.mem_cons, List.not_mem_nil, or_false] at hv
    rcases hv with rfl | rfl
    · rw [h1]; show s1.toArray.size = 4; simpa using l1
    · rw [h2]; show s2.toArray.size = 4; simpa using l2) (by simp)
  rw [f, h1, h2]
  simp [Value.cells]
theorem mp_type : Tryz.prog.underlying 146 = some (.map 4 144) := by kernel_rfl
theorem bl_type : Tryz.prog.underlying 4 = some .bool := by kernel_rfl
theorem fn_true (V1 V2 : Value) (es : Array MapEntry) (h : es = #[{ key := .bool true, val := V1, born := 0 }, { key := .bool false, val := V2, born := 1 }]) : Instr.findNow .bool (.bool true) es.toList 0 = some (some (0, V1)) := by subst h; rfl
theorem fn_false (V1 V2 : Value) (es : Array MapEntry) (h : es = #[{ key := .bool true, val := V1, born := 0 }, { key := .bool false, val := V2, born := 1 }]) : Instr.findNow .bool (.bool false) es.toList 0 = some (some (1, V2)) := by subst h; rfl
/-- The text behind some sides, in the order in which they were laid. -/
def sdL (Z l r : List UInt8) (d s : Nat) (seen : List Nat) : List UInt8 := seen.foldl (fun T b => if b = 0 then layN T l 0 s else layN T r d s) Z
theorem st_push0 (Z l r : List UInt8) (d s : Nat) (seen : Array Nat) : sdL Z l r d s (seen.push 0).toList = layN (sdL Z l r d s seen.toList) l 0 s := by unfold sdL; rw [Array.toList_push, List.foldl_append]; rfl
theorem st_push1 (Z l r : List UInt8) (d s : Nat) (seen : Array Nat) : sdL Z l r d s (seen.push 1).toList = layN (sdL Z l r d s seen.toList) r d s := by unfold sdL; rw [Array.toList_push, List.foldl_append]; rfl
/-- Which sides were laid. -/
def Seen (seen : Array Nat) : Prop := seen = #[] ∨ seen = #[0] ∨ seen = #[1] ∨ seen = #[0, 1] ∨ seen = #[1, 0]
theorem Seen.push0 {seen : Array Nat} (h : Seen seen) (hc : seen.contains 0 = false) : Seen (seen.push 0) ∧ seen.size < 2 := by
  rcases h with rfl | rfl | rfl | rfl | rfl
  · exact ⟨.inr (.inl rfl), by decide⟩
  · exact absurd hc (by simp)
  · exact ⟨.inr (.inr (.inr (.inr rfl))), by decide⟩
  · exact absurd hc (by simp)
  · exact absurd hc (by simp)
theorem Seen.push1 {seen : Array Nat} (h : Seen seen) (hc : seen.contains 1 = false) : Seen (seen.push 1) ∧ seen.size < 2 := by
  rcases h with rfl | rfl | rfl | rfl | rfl
  · exact ⟨.inr (.inr (.inl rfl)), by decide⟩
  · exact ⟨.inr (.inr (.inr (.inl rfl))), by decide⟩
  · exact absurd hc (by simp)
  · exact absurd hc (by simp)
  · exact absurd hc (by simp)
theorem Seen.all {seen : Array Nat} (h : Seen seen) (h0 : seen.contains 0 = true) (h1 : seen.contains 1 = true) (l r : List UInt8) (n : Nat) (hl : l.length = szN n) (hr : r.length = szN n) (h2 : 2 ≤ n) : sdL (List.replicate n 0) l r (n - szN n) (szN n) seen.toList = joinL l r n := by
  rcases h with rfl | rfl | rfl | rfl | rfl
  · exact absurd h0 (by simp)
  · exact absurd h1 (by simp)
  · exact absurd h0 (by simp)
  · exact (lay_both l r n hl hr h2).1
  · exact (lay_both l r n hl hr h2).2
/-- What the loop of Join keeps: the iterator, the map, the text. -/
structure LS (w0 : World) (bm r g N : Nat) (es : Array MapEntry) (Z l q : List UInt8) (d s : Nat) (w : World) (seen : Array Nat) : Prop where
  it : w.heap[r]? = some (.mapIter (some bm) 2 seen 2)
  mp : w.heap[bm]? = some (.map es 2)
  tx : OwnB w w0.heap.size (some ⟨g, 0, none⟩) N N (sdL Z l q d s seen.toList)
  bel : Below w0.heap.size w0 w
  hs : Seen seen
theorem tx_ne {w : World} {base g n c r : Nat} {l : List UInt8} {o : Obj} (t : OwnB w base (some ⟨g, 0, none⟩) n c l) (hr : w.heap[r]? = some o) (hno : ∀ cs T fr, o ≠ .cells cs T fr) : g ≠ r := fun e => by
  subst e
  rcases t.2 with ⟨hv, _⟩ | ⟨g', cap, cur, hv, _, hh, _⟩
  · cases hv
  · injection hv with hv
    injection hv with hv
    injection hv with e1
    subst e1
    rw [hr] at hh
    injection hh with hh
    exact hno _ _ _ hh
theorem LS.size {w0 w : World} {bm r g N d s : Nat} {es : Array MapEntry} {Z l q : List UInt8} {seen : Array Nat} (k : LS w0 bm r g N es Z l q d s w seen) : w.iterSeen r = seen := iter_at k.it
section
variable {w0 w w2 w4 w5 : World} {bm it g N d s : Nat} {es : Array MapEntry} {Z l q : List UInt8} {seen : Array Nat} {b : Nat}
theorem LS.g_it (k : LS w0 bm it g N es Z l q d s w seen) : g ≠ it := tx_ne k.tx k.it (fun _ _ _ e => by cases e)
theorem LS.g_bm (k : LS w0 bm it g N es Z l q d s w seen) : g ≠ bm := tx_ne k.tx k.mp (fun _ _ _ e => by cases e)
theorem LS.it_bm (k : LS w0 bm it g N es Z l q d s w seen) : bm ≠ it := fun e => by have := k.it; rw [← e, k.mp] at this; cases this
theorem LS.mid (k : LS w0 bm it g N es Z l q d s w seen) (ho2 : Oth [it] w w2) (hb4 : Below w2.heap.size w2 w4) (hit : w0.heap.size ≤ it) : Below w0.heap.size w0 w4 ∧ OwnB w4 w0.heap.size (some ⟨g, 0, none⟩) N N (sdL Z l q d s seen.toList) :=
  ⟨bel_next (k.bel.trans (ho2.below (fun j hj => by rw [List.mem_singleton.1 hj]; exact hit) k.bel.size)) hb4,
   (k.tx.oth ho2 (fun g' o e hm => by injection e with e; injection e with e1; exact k.g_it (e1.trans (List.mem_singleton.1 hm)))).below hb4⟩
theorem LS.next (k : LS w0 bm it g N es Z l q d s w seen) (hr2 : w2.heap[it]? = some (.mapIter (some bm) 2 (seen.push b) 2)) (ho2 : Oth [it] w w2) (hb4 : Below w2.heap.size w2 w4) (hit : w0.heap.size ≤ it) (hg : w0.heap.size ≤ g)
    (ho5 : OwnB w5 w0.heap.size (some ⟨g, 0, none⟩) N N (sdL Z l q d s (seen.push b).toList)) (hoth : Oth [g] w4 w5) (hs : Seen (seen.push b)) : LS w0 bm it g N es Z l q d s w5 (seen.push b) := by
  have h2 : w2.heap[bm]? = some (.map es 2) := (ho2.block bm (Array.getElem?_eq_some_iff.1 k.mp).1 (by simpa using k.it_bm)).trans k.mp
  have i4 := (hb4.block it (Array.getElem?_eq_some_iff.1 hr2).1).trans hr2
  have m4 := (hb4.block bm (Array.getElem?_eq_some_iff.1 h2).1).trans h2
  have hm := (k.mid ho2 hb4 hit).1
  exact ⟨(hoth.block it (Array.getElem?_eq_some_iff.1 i4).1 (by simpa using k.g_it.symm)).trans i4, (hoth.block bm (Array.getElem?_eq_some_iff.1 m4).1 (by simpa using k.g_bm.symm)).trans m4, ho5,
    hm.trans (hoth.below (fun j hj => by rw [List.mem_singleton.1 hj]; exact hg) hm.size), hs⟩
end
theorem puts_four {S : List Value} (h : S.length = 4) (a b c d : Value) : putsL [a, b, c, d] 0 S = S := by
  match S, h with
  | [x, y, z, t], _ => rfl
theorem seen_lt {a b : Nat} (h : a < 2) (e : b = a + 1) : 2 - b < 2 - a := by omega
attribute [local irreducible] foursL pairsL cutR trimL joinL blockL joinR trimR blockR maskB edgeN layN sdL
set_option maxRecDepth 100000 in
set_option maxHeartbeats 8000000 in
theorem hjoin_any (A B : Option Addr) (n c m d : Nat) (l r : List UInt8) (z : Int) (w : World) (h : RB w w.heap.size A n l) (k : RB w w.heap.size B m r) (hn : n ≤ 1000000) (hm : m ≤ 1000000) (hz : z ≤ 9223372036854775807) :
    Calls Tryz.prog 81 #[.slice A n c, .slice B m d, .int .i64 z] w (RetBE (joinR l r z).1.length (joinR l r z).1 (joinR l r z).2 w) := by
  have HL := Lib.hid h.len
  have HR := Lib.hid k.len
  cases hv : (fitB z n && fitB z m)
  · have HE : Hid (joinR l r z = ([], 11)) := Lib.hid (joinR_no (by rw [HL.out, HR.out]; exact hv))
    have HF := Lib.hid (hfit_2 w A B n m c d z l r h k hz false (by rw [HL.out, HR.out]; exact hv))
    clear h k hv
    go_enter Tryz.func81, Tryz.ntmps81
    go_wp2_with fail
    refine HF.out.mono ?_
    rintro e w1 ⟨rfl, hb⟩
    have B1 := Lib.hid hb
    clear hb
    go_wp2_with fail
    go_ret2
    rw [HE.out]
    exact ⟨none, 0, rfl, OwnB.nil_ _ _, B1.out⟩
  have HF := Lib.hid (hfit_2 w A B n m c d z l r h k hz true (by rw [HL.out, HR.out]; exact hv))
  rw [Bool.and_eq_true] at hv
  obtain ⟨N, rfl, h2, h28, en⟩ := fitB_nat hv.1
  obtain rfl : n = m := by
    obtain ⟨N', e, _, _, em⟩ := fitB_nat hv.2
    have : N = N' := by omega
    subst this
    omega
  have hl : l.length = szN N := by rw [HL.out]; exact en
  have hr : r.length = szN N := by rw [HR.out]; exact en
  have hs : szN N ≤ N ∧ 2 * szN N = N + N % 2 ∧ 0 < szN N := by unfold szN; omega
  have HP1 := Lib.hid (fun v => hplace_any A n c N true v h2 h28 en)
  have HP2 := Lib.hid (fun v => hplace_any B n d N false v h2 h28 en)
  simp only [Bool.false_eq_true, if_false, if_true] at HP1 HP2
  have he1 : edgeN n true < n := by unfold edgeN; simp only [if_true]; omega
  have he2 : edgeN n false < n := by unfold edgeN; simp only [Bool.false_eq_true, if_false]; omega
  obtain ⟨b1, hb1⟩ : ∃ b1, badB l N true = b1 := ⟨_, rfl⟩
  obtain ⟨b2, hb2⟩ : ∃ b2, badB r N false = b2 := ⟨_, rfl⟩
  have hB1 : decide (gd l (edgeN n true) &&& ~~~ maskB N true ≠ 0) = b1 := by rw [← hb1]; unfold badB; rw [HL.out]
  have hB2 : decide (gd r (edgeN n false) &&& ~~~ maskB N false ≠ 0) = b2 := by rw [← hb2]; unfold badB; rw [HR.out]
  obtain ⟨v, hvv⟩ : ∃ v, (b1 || b2) = v := ⟨_, rfl⟩
  have HBAD : Hid ((badB l N true || badB r N false) = v) := Lib.hid (by rw [hb1, hb2]; exact hvv)
  obtain ⟨e1, he1'⟩ : ∃ e1, edgeN n true = e1 := ⟨_, rfl⟩
  obtain ⟨e2, he2'⟩ : ∃ e2, edgeN n false = e2 := ⟨_, rfl⟩
  obtain ⟨m1, hm1'⟩ : ∃ m1, maskB N true = m1 := ⟨_, rfl⟩
  obtain ⟨m2, hm2'⟩ : ∃ m2, maskB N false = m2 := ⟨_, rfl⟩
  rw [he1', hm1'] at HP1 hB1
  rw [he1'] at he1
  rw [he2', hm2'] at HP2 hB2
  rw [he2'] at he2
  obtain ⟨a2, ha2⟩ : ∃ a2, N - n = a2 := ⟨_, rfl⟩
  rw [ha2] at HP2
  have HI1 := Lib.hid (fun (u : World) (hb : Below w.heap.size w u) => hinv1_any A n c 0 e1 m1 l u (h.step hb) he1 b1 hB1)
  have HI2 := Lib.hid (fun (u : World) (hb : Below w.heap.size w u) => hinv1_any B n d a2 e2 m2 r u (k.step hb) he2 b2 hB2)
  have HA : Hid (a2 + n ≤ N ∧ N ≤ 28 ∧ a2 = N - szN N ∧ n = szN N) := Lib.hid (by omega)
  have HY1 := Lib.hid (fun (u : World) (g : Nat) (L : List UInt8) (hb : Below w.heap.size w u) (t : OwnB u w.heap.size (some ⟨g, 0, none⟩) N N L) => hlay_any A n c 0 e1 m1 l g N N w.heap.size L u (h.below hb) t (by have := HA.out; omega) (by omega))
  have HY2 := Lib.hid (fun (u : World) (g : Nat) (L : List UInt8) (hb : Below w.heap.size w u) (t : OwnB u w.heap.size (some ⟨g, 0, none⟩) N N L) => hlay_any B n d a2 e2 m2 r g N N w.heap.size L u (k.below hb) t (by have := HA.out; omega) (by omega))
  obtain ⟨S1, HS1⟩ : ∃ S, Hid (S = sdC A n c 0 e1 m1) := ⟨_, Lib.hid rfl⟩
  obtain ⟨S2, HS2⟩ : ∃ S, Hid (S = sdC B n d a2 e2 m2) := ⟨_, Lib.hid rfl⟩
  rw [← HS1.out] at HP1 HI1 HY1
  rw [← HS2.out] at HP2 HI2 HY2
  have L1 : Hid (S1.length = 4) := Lib.hid (by rw [HS1.out]; rfl)
  have L2 : Hid (S2.length = 4) := Lib.hid (by rw [HS2.out]; rfl)
  have ON1 : Hid (ones S1) := Lib.hid (by rw [HS1.out]; exact sd_ones _ _ _ _ _ _)
  have ON2 : Hid (ones S2) := Lib.hid (by rw [HS2.out]; exact sd_ones _ _ _ _ _ _)
  obtain ⟨V1, HV1⟩ : ∃ V, Hid (V = Value.agg S1.toArray) := ⟨_, Lib.hid rfl⟩
  obtain ⟨V2, HV2⟩ : ∃ V, Hid (V = Value.agg S2.toArray) := ⟨_, Lib.hid rfl⟩
  rw [← HV1.out] at HP1 HI1
  rw [← HV2.out] at HP2 HI2
  have HJL : Hid ((joinL l r N).length = N) := Lib.hid (join_len l r N)
  have HLR := Lib.hid (And.intro hl (And.intro hr (And.intro h2 h28)))
  have HVV := Lib.hid hvv
  have hmm := @run_makeMap Tryz.prog
  obtain ⟨es, HES⟩ : ∃ es : Array MapEntry, Hid (es = #[{ key := .bool true, val := V1, born := 0 }, { key := .bool false, val := V2, born := 1 }]) := ⟨_, Lib.hid rfl⟩
  have HN28 : N ≤ 28 := h28
  clear h k hv en hl hr hs he1 he2 hb1 hb2 hB1 hB2 he1' he2' hm1' hm2' ha2 h2 h28 hvv
  go_enter Tryz.func81, Tryz.ntmps81
  go_wp2_with fail
  refine HF.out.mono ?_
  rintro e w1 ⟨rfl, hb⟩
  have B1 := Lib.hid hb
  clear hb
  go_wp2_with fail
  refine (HP1.out _).mono ?_
  rintro e w2 ⟨rfl, hb⟩
  have B2 : Hid (Below w.heap.size w w2 ∧ w2.heap[w1.heap.size]? = some (.map #[] 0)) := Lib.hid ⟨B1.out.trans (((below_alloc w1 _).trans (hb.mono (by simp))).mono B1.out.size), (hb.block w1.heap.size (by simp)).trans (heap_alloc_new w1 _)⟩
  have HBM : Hid (w.heap.size ≤ w1.heap.size) := Lib.hid B1.out.size
  obtain ⟨bm, hbm⟩ : ∃ bm, bm = w1.heap.size := ⟨_, rfl⟩
  rw [← hbm] at B2 HBM
  rw [← hbm]
  clear hb B1 hbm
  go_wp2_with (first
    | (with_reducible show wpList _ _ _ (⟨_, .insert _ _ _ _, _, _, _, none⟩ :: _) _ _; refine wpList_insB mp_type bl_type rfl (.tmp 18) (.const (.bool true)) (.tmp 21) rfl bm rfl true rfl V1 rfl #[] 0 (by exact B2.out.2) rfl ?_; intro w3 hm3 ho3 hs3; have K3a : Below w.heap.size w w3 := B2.out.1.trans (ho3.below (fun j hj => by rw [List.mem_singleton.1 hj]; exact HBM.out) B2.out.1.size); have K3 : Hid (Below w.heap.size w w3 ∧ w3.heap[bm]? = some (.map #[{ key := .bool true, val := V1, born := 0 }] 1)) := Lib.hid ⟨K3a, by simpa using hm3⟩; clear K3a; clear hm3 ho3 hs3))
  refine (HP2.out _).mono ?_
  rintro e w4 ⟨rfl, hb⟩
  have K4 : Hid (Below w.heap.size w w4 ∧ w4.heap[bm]? = some (.map #[{ key := .bool true, val := V1, born := 0 }] 1)) := Lib.hid ⟨bel_next K3.out.1 hb, (hb.block bm (Array.getElem?_eq_some_iff.1 K3.out.2).1).trans K3.out.2⟩
  clear hb K3 B2
  go_wp2_with (first
    | (with_reducible show wpList _ _ _ (⟨_, .insert _ _ _ _, _, _, _, none⟩ :: _) _ _; refine wpList_insB mp_type bl_type rfl (.tmp 18) (.const (.bool false)) (.tmp 24) rfl bm rfl false rfl V2 rfl _ 1 (by exact K4.out.2) rfl ?_; intro w5 hm3 ho3 hs3; have K5 : Hid (Below w.heap.size w w5 ∧ w5.heap[bm]? = some (.map es 2)) := Lib.hid ⟨K4.out.1.trans (ho3.below (fun j hj => by rw [List.mem_singleton.1 hj]; exact HBM.out) K4.out.1.size), by rw [HES.out]; simpa using hm3⟩; have q1 := run_lkB (w := w5) mp_type bl_type bm true V1 0 es 2 K5.out.2 (fn_true _ _ es HES.out); have q2 := run_lkB (w := w5) mp_type bl_type bm false V2 1 es 2 K5.out.2 (fn_false _ _ es HES.out); clear hm3 ho3 hs3 K4)
    | (refine wpList_sides rfl (.tmp 27) (.tmp 29) rfl S1 S2 L1.out L2.out V1 V2 rfl rfl HV1.out HV2.out ?_; intro w6 x hx6 hb6; have K6 : Hid (Below w.heap.size w w6 ∧ w6.heap[bm]? = some (.map es 2) ∧ Blk 144 w6 x (S1 ++ S2)) := Lib.hid ⟨bel_next K5.out.1 hb6, (hb6.block bm (Array.getElem?_eq_some_iff.1 K5.out.2).1).trans K5.out.2, hx6⟩; clear hx6 hb6 q1 q2))
  have HIN := Lib.hid (hinvalid_any x S1 S2 L1.out L2.out w6 K6.out.2.2 b1 b2 v HVV.out (fun u hb => by rw [← HV1.out]; exact HI1.out u (bel_next K6.out.1 hb)) (fun u hb => by rw [← HV2.out]; exact HI2.out u (bel_next K6.out.1 hb)))
  clear K5
  refine HIN.out.mono ?_
  rintro e w7 ⟨rfl, hb⟩
  have K7 : Hid (Below w.heap.size w w7 ∧ w7.heap[bm]? = some (.map es 2)) := Lib.hid ⟨bel_next K6.out.1 hb, (hb.block bm (Array.getElem?_eq_some_iff.1 K6.out.2.1).1).trans K6.out.2.1⟩
  clear hb K6 HIN
  cases v
  · have HE := Lib.hid (joinR_ok HLR.out.2.2.1 HLR.out.2.2.2 HLR.out.1 HLR.out.2.1 HBAD.out)
    go_wp2_with (first
      | (at_make; refine wpList_mk rfl _ _ rfl w.heap.size .i64 .i64 _ _ N rfl rfl rfl rfl (by omega) (by exact K7.out.1.size) ?_; intro w8 ho8 hs8 hb8; obtain ⟨g, hg⟩ : ∃ g, g = w7.heap.size := ⟨_, rfl⟩; rw [← hg] at ho8; rw [← hg]; have K8 : Hid (Below w.heap.size w w8 ∧ w8.heap[bm]? = some (.map es 2) ∧ OwnB w8 w.heap.size (some ⟨g, 0, none⟩) N N (List.replicate N 0)) := Lib.hid ⟨bel_next K7.out.1 hb8, (hb8.block bm (Array.getElem?_eq_some_iff.1 K7.out.2).1).trans K7.out.2, ho8⟩; have hrg := run_range_map (P := Tryz.prog) w8 _ _ _ bm es 2 mp_type K8.out.2.1; clear ho8 hs8 hb8 hg))
    obtain ⟨it, hit⟩ : ∃ it, it = w8.heap.size := ⟨_, rfl⟩
    rw [← hit]
    have HIT : Hid (w.heap.size ≤ it) := Lib.hid (by rw [hit]; exact K8.out.1.size)
    have HGB : Hid (w.heap.size ≤ g) := Lib.hid (K8.out.2.2.spot _ rfl).2.1
    have K9 : Hid (LS w bm it g N es (List.replicate N 0) l r a2 n (w8.alloc (.mapIter (some bm) 2 #[] 2)) #[]) := Lib.hid ⟨by rw [hit]; exact heap_alloc_new w8 _, ((below_alloc w8 _).block bm (Array.getElem?_eq_some_iff.1 K8.out.2.1).1).trans K8.out.2.1, by unfold sdL; exact K8.out.2.2.alloc _, bel_next K8.out.1 (below_alloc w8 _), .inl rfl⟩
    clear hrg hit K8 K7
    go_loopw [11] (fun _ wr => ∃ seen : Array Nat, Hid (LS w bm it g N es (List.replicate N 0) l r a2 n wr seen)) (fun _ wr => 2 - (wr.iterSeen it).size)
    case atStart => exact ⟨#[], K9⟩
    case round =>
      obtain ⟨seen, HK⟩ := hrel
      clear K9
      rcases nx_step wr it bm seen es 2 HK.out.it HK.out.mp (by rw [HES.out]; simp) (by rw [HES.out]; simp) with ⟨hall, hnx⟩ | ⟨e, he, hc, w2, hnx, hr2, ho2, hs2, hen⟩
      · have HJ : Hid (sdL (List.replicate N 0) l r a2 n seen.toList = joinL l r N) := Lib.hid (by
          have h0 := hall { key := .bool true, val := V1, born := 0 } (by rw [HES.out]; simp)
          have h1 := hall { key := .bool false, val := V2, born := 1 } (by rw [HES.out]; simp)
          have := HK.out.hs.all h0 h1 l r N HLR.out.1 HLR.out.2.1 HLR.out.2.2.1
          rw [HA.out.2.2.1, HA.out.2.2.2]
          exact this)
        clear hall
        go_wp2_with fail
        go_ret2
        rw [HE.out]
        simp only
        rw [HJL.out]
        exact ⟨some ⟨g, 0, none⟩, N, rfl, by rw [← HJ.out]; exact HK.out.tx, HK.out.bel⟩
      · have he2 : e = { key := .bool true, val := V1, born := 0 } ∨ e = { key := .bool false, val := V2, born := 1 } := by rw [HES.out] at he; simpa using he
        clear he
        rcases he2 with rfl | rfl
        · skip
          have hc' := hc
          obtain ⟨HSN, hsz⟩ := HK.out.hs.push0 hc'
          have HSN' := Lib.hid HSN
          have HSZ : Hid (seen.size < 2) := Lib.hid hsz
          have O2 : Hid (w2.heap[it]? = some (.mapIter (some bm) 2 (seen.push 0) 2) ∧ Oth [it] wr w2) := Lib.hid ⟨hr2, ho2⟩
          have hen2 : (Instr.entry (.pointer (some ⟨it, 0, none⟩))).run Tryz.prog w2 = .ok (.tuple #[.bool true, V1]) w2 := hen
          have hnx2 : ∀ ty, (Instr.next (.pointer (some ⟨it, 0, none⟩)) false ty).run Tryz.prog wr = .ok (.tuple #[.bool true, .bool true, V1]) w2 := hnx
          clear hc hc' HSN hsz hr2 ho2 hs2 hen hnx
          go_wp2_with (first
            | (with_reducible show wpList _ _ _ (⟨some 11, .alloc _, _, _, _, none⟩ :: _) _ _; refine wpList_newB rt_side rfl rfl ?_; intro w3 q hc1 hb1 hx1; have K3 := Lib.hid (And.intro hc1 (And.intro hb1 hx1)); clear hc1 hb1 hx1)
            | (refine wpList_stB rt_side rfl (.tmp 11) (.tmp 39) rfl q 0 rfl _ S1 (by exact HV1.out) ON1.out L1.out (by exact K3.out.1) (by decide) ?_; intro w4 hc1 ho1 hs1; rw [puts_four L1.out] at hc1; have K4 : Hid (Blk 144 w4 q S1 ∧ Below w2.heap.size w2 w4) := Lib.hid ⟨hc1, K3.out.2.1.trans (ho1.below (fun j hj => by rw [List.mem_singleton.1 hj]; exact K3.out.2.2) K3.out.2.1.size)⟩; clear hc1 ho1 hs1)
            | (refine wpList_ldB rt_side rfl (.tmp 11) rfl q 0 rfl _ S1 (by exact K4.out.1) (by rw [List.drop_zero]; exact List.take_of_length_le (by rw [L1.out]; decide)) L1.out ?_))
          have HM := Lib.hid (HK.out.mid O2.out.2 K4.out.2 HIT.out)
          refine (HY1.out _ g _ (by exact HM.out.1) (by exact HM.out.2)).mono ?_
          rintro e w5 ⟨rfl, ho5, hoth5⟩
          have HN := Lib.hid (HK.out.next O2.out.1 O2.out.2 K4.out.2 HIT.out HGB.out (by rw [st_push0]; exact ho5) hoth5 HSN'.out)
          clear ho5 hoth5
          go_wp2_with fail
          go_roundw
          case rel => exact ⟨seen.push 0, HN⟩
          case measure => rw [HN.out.size, HK.out.size, Array.size_push]; have := HSZ.out; omega
        · skip
          have hc' := hc
          obtain ⟨HSN, hsz⟩ := HK.out.hs.push1 hc'
          have HSN' := Lib.hid HSN
          have HSZ : Hid (seen.size < 2) := Lib.hid hsz
          have O2 : Hid (w2.heap[it]? = some (.mapIter (some bm) 2 (seen.push 1) 2) ∧ Oth [it] wr w2) := Lib.hid ⟨hr2, ho2⟩
          have hen2 : (Instr.entry (.pointer (some ⟨it, 0, none⟩))).run Tryz.prog w2 = .ok (.tuple #[.bool false, V2]) w2 := hen
          have hnx2 : ∀ ty, (Instr.next (.pointer (some ⟨it, 0, none⟩)) false ty).run Tryz.prog wr = .ok (.tuple #[.bool true, .bool false, V2]) w2 := hnx
          clear hc hc' HSN hsz hr2 ho2 hs2 hen hnx
          go_wp2_with (first
            | (with_reducible show wpList _ _ _ (⟨some 11, .alloc _, _, _, _, none⟩ :: _) _ _; refine wpList_newB rt_side rfl rfl ?_; intro w3 q hc1 hb1 hx1; have K3 := Lib.hid (And.intro hc1 (And.intro hb1 hx1)); clear hc1 hb1 hx1)
            | (refine wpList_stB rt_side rfl (.tmp 11) (.tmp 39) rfl q 0 rfl _ S2 (by exact HV2.out) ON2.out L2.out (by exact K3.out.1) (by decide) ?_; intro w4 hc1 ho1 hs1; rw [puts_four L2.out] at hc1; have K4 : Hid (Blk 144 w4 q S2 ∧ Below w2.heap.size w2 w4) := Lib.hid ⟨hc1, K3.out.2.1.trans (ho1.below (fun j hj => by rw [List.mem_singleton.1 hj]; exact K3.out.2.2) K3.out.2.1.size)⟩; clear hc1 ho1 hs1)
            | (refine wpList_ldB rt_side rfl (.tmp 11) rfl q 0 rfl _ S2 (by exact K4.out.1) (by rw [List.drop_zero]; exact List.take_of_length_le (by rw [L2.out]; decide)) L2.out ?_))
          have HM := Lib.hid (HK.out.mid O2.out.2 K4.out.2 HIT.out)
          refine (HY2.out _ g _ (by exact HM.out.1) (by exact HM.out.2)).mono ?_
          rintro e w5 ⟨rfl, ho5, hoth5⟩
          have HN := Lib.hid (HK.out.next O2.out.1 O2.out.2 K4.out.2 HIT.out HGB.out (by rw [st_push1]; exact ho5) hoth5 HSN'.out)
          clear ho5 hoth5
          go_wp2_with fail
          go_roundw
          case rel => exact ⟨seen.push 1, HN⟩
          case measure => rw [HN.out.size, HK.out.size, Array.size_push]; have := HSZ.out; omega
  · have HE := Lib.hid (joinR_bad HLR.out.2.2.1 HLR.out.2.2.2 HLR.out.1 HLR.out.2.1 HBAD.out)
    go_wp2_with fail
    go_ret2
    rw [HE.out]
    exact ⟨none, 0, rfl, OwnB.nil_ _ _, K7.out.1⟩
end Go.Proofs.YtfipdaekfdbaeaaGreat
