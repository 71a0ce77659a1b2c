/- Layer 23: what is often shown. It leans on the program's contracts alone (score_any, order_any, first_any, chosen_any). No condition. -/
import Derived.Test.YtocbdgkehgmahaaRkW
import Derived.Test.YtocbdgkehgmahaaRkI
namespace Go.Proofs.Ytocbdgkehgmahaa
open Go.RowKit Go.Maps
set_option linter.unusedVariables false
set_option linter.unusedSimpArgs false
/-- Entries laid out for a variadic call. -/
theorem EL.lit (T : TypeId) (w : World) (es : List (Int × Int)) (cs : Array Value) (n g : Nat) (hc : cs = (es.map ent).flatten.toArray) (hn : es.length = n) (hg : g = w.heap.size) (hi : ∀ p ∈ es, I64e p.1 ∧ I64e p.2) : EL (w.alloc (.cells cs T)) (w.alloc (.cells cs T)).heap.size (some ⟨g, 0, none⟩) n es := by
  subst hc
  subst hg
  refine EL.of_rd ⟨by rw [List.length_map, hn], ents_recs es, fun _ => ⟨w.heap.size, 0, rfl, by simp, fun j u hu => ?_⟩⟩ hi
  rw [Nat.zero_add, cell_of_row _ w.heap.size j _ T (0, 0) (heap_alloc_new w _)]
  simpa using hu
theorem al_first (A Ae : Option Addr) (c ce : Nat) (w : World) (h : RB w w.heap.size A 1 [1]) (he : EL w w.heap.size Ae 3 [(5, 3), (64, 1), (6, 0)]) :
    Calls Try.prog 11 #[.int .u64 7, .slice A 1 c, .slice Ae 3 ce] w fun r w' => r = .returned (.tuple #[.int .i64 5, .bool true]) ∧ Below w.heap.size w w' := by
  have q := first_any 7 A 1 c [1] Ae 3 ce _ w (by decide) h (by decide) he (by decide)
  have e1 : fstA (tabE (scE 7 [1]) [(5, 3), (64, 1), (6, 0)]) = 5 := by unfold fstA; rw [show_first]; rfl
  have e2 : fstB (tabE (scE 7 [1]) [(5, 3), (64, 1), (6, 0)]) = true := by unfold fstB; rw [show_first]; rfl
  rw [e1, e2] at q
  exact q
theorem al_none (w : World) :
    Calls Try.prog 11 #[.int .u64 7, .slice none 0 0, .slice none 0 0] w fun r w' => r = .returned (.tuple #[.int .i64 0, .bool false]) ∧ Below w.heap.size w w' := by
  have q := first_any 7 none 0 0 [] none 0 0 [] w (by decide) RB.nil_ (by decide) EL.nil_ (by decide)
  have e1 : fstA (tabE (scE 7 []) []) = 0 := by unfold fstA; rw [show_none]; rfl
  have e2 : fstB (tabE (scE 7 []) []) = false := by unfold fstB; rw [show_none]; rfl
  rw [e1, e2] at q
  exact q
theorem al_order (A Ae : Option Addr) (c ce : Nat) (w : World) (h : RB w w.heap.size A 1 [1]) (he : EL w w.heap.size Ae 2 [(5, 3), (6, 3)]) :
    ∃ x y : Nat, x + y = 11 ∧ Calls Try.prog 15 #[.int .u64 7, .slice A 1 c, .slice Ae 2 ce] w fun r w' => ∃ (b : Nat) (o co : Nat), r = .returned (.slice (some ⟨b, o, none⟩) 2 co) ∧ w'.cell? ⟨b, o, none⟩ = some (.int .i64 (x : Int)) ∧ w'.cell? ⟨b, o + 1, none⟩ = some (.int .i64 (y : Int)) ∧ Below w.heap.size w w' := by
  obtain ⟨x, y, e, hs⟩ := show_two (scE 7 [1])
  refine ⟨x, y, hs, (order_any 7 A 1 c [1] Ae 2 ce _ w (by decide) h (by decide) he (by decide)).mono ?_⟩
  rw [e]
  rintro r w' ⟨Ao, co, rfl, ho, hb⟩
  obtain ⟨b, o, rfl, _, z0, h0, _, c0⟩ := ho.zl.at_ (k := 0) (by decide : 0 < 2)
  obtain ⟨b', o', e', _, z1, h1, _, c1⟩ := ho.zl.at_ (k := 1) (by decide : 1 < 2)
  injection e' with e'
  injection e' with e1 e2
  subst e1
  subst e2
  injection h0 with h0
  injection h1 with h1
  rw [← h0] at c0
  rw [← h1] at c1
  exact ⟨b, o, co, rfl, c0, c1, hb⟩
theorem al_chosen (A Ae : Option Addr) (c ce : Nat) (w : World) (h : RR w w.heap.size A 2 [[1], [2]]) (he : EL w w.heap.size Ae 1 [(5, 3)]) :
    Calls Try.prog 17 #[.int .u64 7, .slice A 2 c, .slice Ae 1 ce] w fun r w' => ∃ b m : Nat, ∃ C : Nat → Nat, r = .returned (.map (some b)) ∧ CM w' b m C 1 ∧ C 5 = 2 ∧ Below w.heap.size w w' := by
  refine (chosen_any 7 A 2 c _ Ae 1 ce _ w (by decide) h (by decide) (by decide) he (by decide)).mono ?_
  have hc := show_count (fK 7 [(5, 3)]) (show_one _) (show_one _)
  rw [hc.2]
  rintro r w' ⟨b, m, rfl, hm, _, hb⟩
  exact ⟨b, m, _, rfl, hm, hc.1, hb⟩
theorem al_score (w : World) :
    Calls Try.prog 9 #[.int .u64 7, .slice none 0 0, .agg #[.int .i64 1, .int .i64 17]] w fun r w' => r = .returned (.tuple #[.int .u64 0, .bool false]) ∧ Below w.heap.size w w' := by
  have q := score_any 7 none 0 0 [] (1, 17) w (by decide) RB.nil_ (by decide)
  have e1 : okE (1, 17) = false := by decide
  rw [scA_no 7 [] (1, 17) e1, e1] at q
  exact q
attribute [local irreducible] mixF scF scE scA okE tabE bestT ordA ordT leftT fK cK
set_option maxRecDepth 100000 in
set_option maxHeartbeats 4000000 in
theorem alive_any (w : World) : Calls Try.prog 7 #[] w fun e w' => e = .returned (.bool true) ∧ Below w.heap.size w w' := by
  go_enter Try.func7, Try.ntmps7
  go_wp2_with fail
  refine (al_first _ _ _ _ _ (by exact (RB.lit w [1] _ 1 _ rfl rfl rfl).step (below_alloc _ _)) (by exact EL.lit _ _ [(5, 3), (64, 1), (6, 0)] _ 3 _ rfl rfl (by simp) (by unfold I64e; decide))).mono ?_
  rintro r w1 ⟨rfl, hb⟩
  have HB1 := Lib.hid (bel_next (bel_next (below_alloc _ _) (below_alloc _ _)) hb)
  clear hb
  go_wp2_with fail
  refine (al_none _).mono ?_
  rintro r w2 ⟨rfl, hb⟩
  have HB2 := Lib.hid (bel_next HB1.out hb)
  clear hb HB1
  go_wp2_with fail
  obtain ⟨x, y, hxy, hcall⟩ := al_order (some ⟨w2.heap.size, 0, none⟩) (some ⟨w2.heap.size + 1, 0, none⟩) 1 2 ((w2.alloc (.cells #[.int .u8 1] 5)).alloc (.cells #[.int .i64 5, .int .i64 3, .int .i64 6, .int .i64 3] 25)) ((RB.lit w2 [1] _ 1 _ rfl rfl rfl).step (below_alloc _ _)) (EL.lit _ _ [(5, 3), (6, 3)] _ 2 _ rfl rfl (by simp) (by unfold I64e; decide))
  have HXY := Lib.hid hxy
  clear hxy
  refine hcall.mono ?_
  clear hcall
  rintro r w3 ⟨bo, oo, co, rfl, cx, cy, hb⟩
  have CX := Lib.hid (And.intro cx cy)
  have HLO : Hid (bo < w3.heap.size) := Lib.hid (World.block_lt_of_cell? w3 _ cx)
  have HB3 := Lib.hid (bel_next HB2.out (bel_next (bel_next (below_alloc _ _) (below_alloc _ _)) hb))
  clear hb HB2 cx cy
  go_wp2_with fail
  have B1 := below_alloc w3 (.cells #[.int .u8 1] 5)
  have B2 := below_alloc (w3.alloc (.cells #[.int .u8 1] 5)) (.cells #[.int .u8 2] 5)
  have R1 := RB.lit w3 [1] _ 1 w3.heap.size rfl rfl rfl
  have R2 := RB.lit (w3.alloc (.cells #[.int .u8 1] 5)) [2] _ 1 (w3.heap.size + 1) rfl rfl (by simp)
  have RL := RR.lit ((w3.alloc (.cells #[.int .u8 1] 5)).alloc (.cells #[.int .u8 2] 5)) [(some ⟨w3.heap.size, 0, none⟩, 1, [1]), (some ⟨w3.heap.size + 1, 0, none⟩, 1, [2])] _ 32 2 (w3.heap.size + 1 + 1) rfl rfl (by simp) (by
    intro r hr
    simp only [List.mem_cons, List.not_mem_nil, or_false] at hr
    rcases hr with rfl | rfl
    · exact R1.step B2
    · exact R2)
  have RLS := (fun (o : Obj) => (RR.below RL (below_alloc _ o)))
  refine (al_chosen _ _ _ _ _ (by exact RR.more22 (RL.below (below_alloc _ _)) (by simp)) (by exact EL.lit _ _ [(5, 3)] _ 1 _ rfl rfl (by simp) (by unfold I64e; decide))).mono ?_
  rintro r w4 ⟨bm, m, C, rfl, hm, hc5, hb⟩
  have HB4 := Lib.hid (bel_next (bel_next B1 (bel_next B2 (bel_next (below_alloc _ _) (below_alloc _ _)))) hb)
  have HM := Lib.hid hm
  clear hb hm B1 B2 R1 R2 RL RLS
  go_wp2_with fail
  refine (al_score _).mono ?_
  rintro r w5 ⟨rfl, hb⟩
  have HB5 := Lib.hid (bel_next HB4.out hb)
  have HM5 := Lib.hid (HM.out.step hb)
  clear hb
  have hlk : ∀ q, (Instr.lookup 44 (.map (some bm)) (.int .i64 5) false).run Try.prog (w5.drewN q) = .ok (.int .i64 2) (w5.drewN q) := fun q => by
    have := (HM5.out.drewN q).look (i := 5) (by decide) (by omega)
    rw [hc5] at this
    exact this
  have hlen : ∀ q ty, (Builtin.len_ #[44] ty #[.map (some bm)]).run Try.prog (w5.drewN q) = .ok (.int .i64 1) (w5.drewN q) := fun q ty => (HM5.out.drewN q).len ty
  have cx : w5.cell? ⟨bo, oo, none⟩ = some (.int .i64 (x : Int)) := (HB5.out.cell (p := ⟨bo, oo, none⟩) HLO.out).trans CX.out.1
  have cy : w5.cell? ⟨bo, oo + 1, none⟩ = some (.int .i64 (y : Int)) := (HB5.out.cell (p := ⟨bo, oo + 1, none⟩) HLO.out).trans CX.out.2
  have hsum : wrap64 ((x : Int) + (y : Int)) = 11 := by rw [IntWalk.wrap64_in _ (by have := HXY.out; omega)]; have := HXY.out; omega
  have hsum2 : (x : Int) + (y : Int) = 11 := by have := HXY.out; omega
  go_wp2_with fail
  go_quiet (fail)
  go_wp2_with fail
  go_ret
  exact ⟨rfl, below_drewN (bel_next HB3.out HB5.out) _⟩
end Go.Proofs.Ytocbdgkehgmahaa
