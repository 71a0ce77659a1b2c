/- Layer 15: the statements' own first step. No condition. -/
import Derived.Test.YtgmedeldjlmlmaaGreatFsD
import Derived.Test.YtgmedeldjlmlmaaGreatFsNum
namespace Go.Proofs.YtgmedeldjlmlmaaGreat
open Go.RowKit
set_option linter.unusedVariables false
set_option linter.unusedSimpArgs false
def keyZ : List UInt8 := List.replicate 16 0
def encZ : List UInt8 → List UInt8 := encL keyZ tableL
theorem encZ_len : ∀ b : List UInt8, b.length = 16 → (encZ b).length = 16 := fun b hb => encL_len keyZ tableL b (by unfold keyZ; simp) hb
theorem sh_1 : ∃ X, passesR encZ [1, 2, 3, 4, 5] [1, 2, 3, 4] = (X, 0) ∧ passesR encZ X [4, 3, 2, 1] = ([1, 2, 3, 4, 5], 0) ∧ X.length = 5 ∧ (X == [1, 2, 3, 4, 5]) = false := by
  have h := passes_back (E := encZ) encZ_len [1, 2, 3, 4, 5] [1, 2, 3, 4] (by decide) (by decide) (by decide)
  have h1 := passes_ok (E := encZ) (b := [1, 2, 3, 4, 5]) (o := [1, 2, 3, 4]) (by decide) (by decide) (by decide)
  rw [h1] at h
  refine ⟨_, h1, h, mix_len _ _ _, ?_⟩
  rw [beq_eq_false_iff_ne]
  exact fn_mixed
theorem sh_2 : passesR encZ [1] [1, 2, 3, 4] = ([], 11) := passes_no (fun h => absurd h.1 (by decide))
theorem b_left (x : UInt8) : (x &&& 240) % 16 = 0 := hv_byte (p := fun x => (x &&& 240) % 16 = 0) (by decide +kernel) x
theorem trim_edge (l : List UInt8) (n : Nat) (left : Bool) (h : edgeN l.length left < l.length) : gd (trimL l n left) (edgeN l.length left) = gd l (edgeN l.length left) &&& maskB n left := by rw [trim_gd, if_pos ⟨rfl, h⟩]
theorem sh_3 : ∃ a c : UInt8, passR encZ [0, 0] [0, 0] 3 2 = ([a, c], [0, 0], 0) ∧ ((c.toNat : Int)).tmod 16 = 0 := by
  have h := pass_ok encZ [0, 0] [0, 0] 3 2 (by decide) (by decide) (by decide) (by decide) (by decide)
  have hl := add_len (E := encZ) (f := [0, 0]) (t := [0, 0]) (n := 3) (p := 2) (left := true) encZ_len (by decide) (by decide)
  have hx : (xorL [0, 0] (encZ (blockL [0, 0] 3 2))).length = 2 := xor_len2 (by rw [encZ_len _ (block_len _ _ _ (by decide))]; decide)
  have hg := trim_edge (xorL [0, 0] (encZ (blockL [0, 0] 3 2))) 3 true (by rw [hx]; decide)
  rw [hx] at hg
  have hg2 : gd (addL encZ [0, 0] [0, 0] 3 2 true) 1 = gd (xorL [0, 0] (encZ (blockL [0, 0] 3 2))) 1 &&& 240 := hg
  have hp : passP encZ 3 ([0, 0], [0, 0]) 2 = (addL encZ [0, 0] [0, 0] 3 2 true, [0, 0]) := by unfold passP; rw [if_pos (by decide)]
  rw [hp] at h
  obtain ⟨Y, hY⟩ : ∃ Y, addL encZ [0, 0] [0, 0] 3 2 true = Y := ⟨_, rfl⟩
  rw [hY] at h hl hg2
  match Y, hl with
  | [a, c], _ =>
    refine ⟨a, c, h, ?_⟩
    have hc : c = gd (xorL [0, 0] (encZ (blockL [0, 0] 3 2))) 1 &&& 240 := hg2
    rw [by_tmod, hc, b_left]
    rfl
attribute [local irreducible] foursL pairsL cutR trimL joinL blockL joinR trimR blockR maskB edgeN szI szN encL tableL xorL addL passP passesP mixL ontoR passR passesR atP carR cntM cntP okP encZ keyZ
set_option maxRecDepth 100000 in
set_option maxHeartbeats 8000000 in
theorem falive_any (w : World) :
    Calls Tryz.prog 5 #[] w fun e w' => e = .returned (.bool true) ∧ Below w.heap.size w w' := by
  have HKZ : Hid (List.replicate 16 (0 : UInt8) = keyZ) := Lib.hid (by unfold keyZ; rfl)
  have HEZ : Hid (encL keyZ tableL = encZ) := Lib.hid (by unfold encZ; rfl)
  obtain ⟨X, h1, h2, h3, h4⟩ := sh_1
  have H1 := Lib.hid h1
  have H2 := Lib.hid h2
  have H3 := Lib.hid h3
  have H4 := Lib.hid h4
  obtain ⟨a, c, h5, h6⟩ := sh_3
  have H5 := Lib.hid h5
  clear h1 h2 h3 h4 h5
  go_enter Tryz.func5, Tryz.ntmps5
  go_wp2_with (first
    | (at_make; refine wpList_mk rfl _ _ rfl w.heap.size .i64 .i64 _ _ 16 rfl rfl rfl rfl (by omega) (Nat.le_refl _) ?_; intro wz hown hs hb; rw [HKZ.out] at hown; have K0 := Lib.hid ((HW.start w).own hb hown); clear hown hb hs))
  refine (anew_any 16 _ keyZ _ (by exact (K0.out.row _ (.head _)).1) (by decide)).mono ?_
  rintro e w1 ⟨cb, b0, lo, rfl, hb, hcb, _, hob⟩
  have U0 := Lib.hid (And.intro (K0.out.bel.trans (hb.mono K0.out.bel.size)) (Nat.le_trans K0.out.bel.size hcb))
  have K1 := Lib.hid (K0.out.cip hb hcb hob)
  clear K0
  clear hb hcb hob
  go_wp2_with fail
  have K2 := Lib.hid (K1.out.lit [1, 2, 3, 4, 5] _ 5 rfl rfl (by decide))
  clear K1
  refine (fmix_any cb b0 lo 0 5 5 keyZ [1, 2, 3, 4, 5] _ _ (by exact K2.out.ob) (by decide) (by exact (K2.out.row _ (.head _)).1) (by exact (K2.out.row _ (.head _)).2.2) (by decide) (by decide)).mono ?_
  rw [HEZ.out, H1.out]
  dsimp only
  rw [H3.out, cntP_ok]
  rintro e w2 ⟨Ax, cx, rfl, ho, hbu, hob⟩
  have K3 := Lib.hid (K2.out.ret hbu hob ho)
  clear K2
  clear ho hbu hob
  go_wp2_with fail
  refine (funmix_any cb b0 lo (0 + 4) 5 cx keyZ X _ _ (by exact K3.out.ob) (by decide) (by exact (K3.out.row _ (.head _)).1) (by exact (K3.out.row _ (.head _)).2.2) (by decide) (by exact (K3.out.row _ (.head _)).2.1.1)).mono ?_
  rw [HEZ.out, H2.out]
  dsimp only
  rw [cntP_ok]
  rintro e w3 ⟨Ay, cy, rfl, ho, hbu, hob⟩
  have K4 := Lib.hid (K3.out.ret hbu hob ho)
  clear K3
  clear ho hbu hob
  go_wp2_with fail
  have RF := Lib.hid (((K4.out.row _ (.tail _ (.tail _ (.head _))))).1.front (j := 1) (show 1 ≤ 5 by decide))
  refine (fmix_any cb b0 lo (0 + 4 + 4) 1 5 keyZ [1] _ _ (by exact K4.out.ob) (by decide) (by exact RF.out) (fun _ => (K4.out.row _ (.tail _ (.tail _ (.head _)))).2.2 (show 0 < 5 by decide)) (by decide) (by decide)).mono ?_
  rw [HEZ.out, sh_2]
  dsimp only
  rw [cntP_no]
  rintro e w4 ⟨Az, cz, rfl, ho, hbu, hob⟩
  have K5 := Lib.hid (K4.out.ret hbu hob ho)
  clear K4
  clear ho hbu hob
  go_wp2_with fail
  have K6 := Lib.hid (K5.out.lit [0, 0] _ 2 rfl rfl (by decide))
  clear K5
  have K7 := Lib.hid ((by have h := K6.out.lit [0, 0] _ 2 rfl rfl (by decide); rw [show (World.alloc w4 (.cells (bvs [0, 0]).toArray 5)).heap.size = w4.heap.size + 1 from Array.size_push ..] at h; exact h))
  clear K6
  refine (fpass_any cb b0 lo (0 + 4 + 4) 2 2 2 2 keyZ [0, 0] [0, 0] _ _ 3 2 _ (by exact K7.out.ob) (by decide) (by exact (K7.out.row _ (.tail _ (.head _))).1) (by exact (K7.out.row _ (.head _)).1) (by exact (K7.out.row _ (.tail _ (.head _))).2.2) (by exact (K7.out.row _ (.head _)).2.2) (by decide) (by decide) (by decide) (by decide)).mono ?_
  rw [HEZ.out, H5.out]
  dsimp only
  rw [cntM_ok]
  rintro e w5 ⟨Al, nl, cl, Ar, nr, cr, rfl, ho1, ho2, hbu, hob⟩
  obtain rfl : 2 = nl :=  ho1.len
  obtain rfl : 2 = nr :=  ho2.len
  have K8 := Lib.hid (K7.out.ret2 hbu hob ho1 ho2)
  clear K7
  clear ho1 ho2 hbu hob
  obtain ⟨gl, ql, rfl, hgl, x, hx, hcl⟩ := ((K8.out.row _ (.tail _ (.head _)))).1.at_ (show 1 < 2 by decide)
  obtain rfl : c = x := by simpa using hx
  clear hx hcl hgl
  go_wp2_with fail
  refine (al_same _ _ _ _ _ _ [1, 2, 3, 4, 5] [1, 2, 3, 4, 5] _ (by exact (K8.out.row _ (.tail _ (.tail _ (.tail _ (.tail _ (.tail _ (.head _))))))).1) (by exact (K8.out.row _ (.tail _ (.tail _ (.tail _ (.tail _ (.tail _ (.tail _ (.tail _ (.head _))))))))).1) (by exact Nat.le_trans (K8.out.row _ (.tail _ (.tail _ (.tail _ (.tail _ (.tail _ (.head _))))))).2.1.1 (K8.out.row _ (.tail _ (.tail _ (.tail _ (.tail _ (.tail _ (.head _))))))).2.1.2) (by exact Nat.le_trans (K8.out.row _ (.tail _ (.tail _ (.tail _ (.tail _ (.tail _ (.tail _ (.tail _ (.head _))))))))).2.1.1 (K8.out.row _ (.tail _ (.tail _ (.tail _ (.tail _ (.tail _ (.tail _ (.tail _ (.head _))))))))).2.1.2) true (rfl)).mono ?_
  rintro e w6 ⟨rfl, hb⟩
  have K9 := Lib.hid (K8.out.step hb)
  clear K8
  clear hb
  go_wp2_with fail
  refine (al_same _ _ _ _ _ _ X [1, 2, 3, 4, 5] _ (by exact (K9.out.row _ (.tail _ (.tail _ (.tail _ (.tail _ (.tail _ (.tail _ (.head _)))))))).1) (by exact (K9.out.row _ (.tail _ (.tail _ (.tail _ (.tail _ (.tail _ (.tail _ (.tail _ (.head _))))))))).1) (by exact Nat.le_trans (K9.out.row _ (.tail _ (.tail _ (.tail _ (.tail _ (.tail _ (.tail _ (.head _)))))))).2.1.1 (K9.out.row _ (.tail _ (.tail _ (.tail _ (.tail _ (.tail _ (.tail _ (.head _)))))))).2.1.2) (by exact Nat.le_trans (K9.out.row _ (.tail _ (.tail _ (.tail _ (.tail _ (.tail _ (.tail _ (.tail _ (.head _))))))))).2.1.1 (K9.out.row _ (.tail _ (.tail _ (.tail _ (.tail _ (.tail _ (.tail _ (.tail _ (.head _))))))))).2.1.2) false (H4.out)).mono ?_
  rintro e w7 ⟨rfl, hb⟩
  have K10 := Lib.hid (K9.out.step hb)
  clear K9
  clear hb
  go_wp2_with fail
  refine (done_any cb b0 lo (0 + 4 + 4 + 1) keyZ _ (by exact K10.out.ob)).mono ?_
  rintro e w77 ⟨rfl, rfl⟩
  obtain ⟨gl2, ql2, eq2, hgl, x, hx, hcl⟩ := ((K10.out.row _ (.tail _ (.head _)))).1.at_ (show 1 < 2 by decide)
  obtain ⟨rfl, rfl⟩ : gl = gl2 ∧ ql = ql2 := by injection eq2 with e1; injection e1 with e1 e2; exact ⟨e1, e2⟩
  obtain rfl : c = x := by simpa using hx
  clear hx hgl eq2
  go_wp2_with fail
  have K11 := Lib.hid (K10.out.lit [0, 0] _ 2 rfl rfl (by decide))
  clear K10
  refine (al_same _ _ _ _ _ _ [0, 0] [0, 0] _ (by exact (K11.out.row _ (.tail _ (.head _))).1) (by exact (K11.out.row _ (.head _)).1) (by exact Nat.le_trans (K11.out.row _ (.tail _ (.head _))).2.1.1 (K11.out.row _ (.tail _ (.head _))).2.1.2) (by exact Nat.le_trans (K11.out.row _ (.head _)).2.1.1 (K11.out.row _ (.head _)).2.1.2) true (rfl)).mono ?_
  rintro e w8 ⟨rfl, hb⟩
  have K12 := Lib.hid (K11.out.step hb)
  clear K11
  clear hb
  go_wp2_with fail
  go_ret
  exact ⟨rfl, K12.out.bel U0.out.1 U0.out.2⟩
end Go.Proofs.YtgmedeldjlmlmaaGreat
