/- Layer 14: what a walk of a statement carries, and the statements' own first step. No condition. -/
import Derived.Test.YtcobklcokffbdaaHvI
import Derived.Test.YtcobklcokffbdaaUseBytes
namespace Go.Proofs.Ytcobklcokffbdaa
open Go.RowKit
set_option linter.unusedVariables false
set_option linter.unusedSimpArgs false
/-- What a walk over rows of bytes carries. -/
structure HW (v : World) (rows : List (Option Addr × Nat × Nat × List UInt8)) (w : World) : Prop where
  bel : Below v.heap.size v w
  row : ∀ r ∈ rows, RB w w.heap.size r.1 r.2.1 r.2.2.2 ∧ r.2.1 ≤ r.2.2.1 ∧ r.2.2.1 ≤ maxLen
section
variable {v w w' : World} {rows : List (Option Addr × Nat × Nat × List UInt8)} {A A2 : Option Addr} {n c n2 c2 : Nat} {l l2 : List UInt8}
theorem HW.start (w : World) : HW w [] w := ⟨Below.refl _ _, fun r hr => by cases hr⟩
theorem HW.step (k : HW v rows w) (hb : Below w.heap.size w w') : HW v rows w' := ⟨bel_next k.bel hb, fun r hr => ⟨(k.row r hr).1.step hb, (k.row r hr).2⟩⟩
theorem HW.add (k : HW v rows w) (h : RB w w.heap.size A n l) (h1 : n ≤ c) (h2 : c ≤ maxLen) : HW v ((A, n, c, l) :: rows) w := ⟨k.bel, fun r hr => by
  rcases List.mem_cons.1 hr with rfl | hr
  · exact ⟨h, h1, h2⟩
  · exact k.row r hr⟩
theorem HW.own (k : HW v rows w) (hb : Below w.heap.size w w') (ho : OwnB w' w.heap.size A n c l) : HW v ((A, n, c, l) :: rows) w' := (k.step hb).add ho.rb ho.cap.1 ho.cap.2
theorem HW.own2 (k : HW v rows w) (hb : Below w.heap.size w w') (ho : OwnB w' w.heap.size A n c l) (ho2 : OwnB w' w.heap.size A2 n2 c2 l2) : HW v ((A2, n2, c2, l2) :: (A, n, c, l) :: rows) w' := (k.own hb ho).add ho2.rb ho2.cap.1 ho2.cap.2
theorem HW.lit (k : HW v rows w) (ls : List UInt8) (cs : Array Value) (n : Nat) (hc : cs = (bvs ls).toArray) (hn : ls.length = n) (hm : n ≤ maxLen) : HW v ((some ⟨w.heap.size, 0, none⟩, n, n, ls) :: rows) (w.alloc (.cells cs 5)) :=
  (k.step (below_alloc w _)).add (RB.lit w ls cs n w.heap.size hc hn rfl) (Nat.le_refl _) hm
end
theorem hh_1 : cutR [18, 52, 86] = ([18, 48], [4, 86], 0) := by decide +kernel
theorem hh_2 : joinR [18, 48] [4, 86] 3 = ([18, 52, 86], 0) := by decide +kernel
theorem hh_3 : joinR [4, 86] [18, 48] 3 = ([], 10) := by decide +kernel
theorem hh_4 : blockR [18, 48] 3 1 = ([18, 48, 0, 0, 0, 0, 0, 0, 0, 0, 0, 0, 0, 0, 3, 1], 0) := by decide +kernel
theorem hh_5 : trimR [255, 255] 3 false = ([15, 255], 0) := by decide +kernel
theorem hh_6 : cutR [1] = ([], [], 11) := by decide +kernel
theorem hh_7 : szI 5 = 3 := by decide +kernel
attribute [local irreducible] foursL pairsL cutR trimL joinL blockL joinR trimR blockR maskB edgeN layN stL
set_option maxRecDepth 100000 in
set_option maxHeartbeats 4000000 in
theorem halive_any (w : World) :
    Calls Try.prog 7 #[] w fun e w' => e = .returned (.bool true) ∧ Below w.heap.size w w' := by
  have HSZ := Lib.hid (fun v => hsize_any 5 (by decide) v)
  rw [hh_7] at HSZ
  go_enter Try.func7, Try.ntmps7
  go_wp2_with fail
  have K0 := Lib.hid ((HW.start w).lit [18, 52, 86] _ 3 rfl rfl (by decide))
  refine (hcut_any _ 3 3 [18, 52, 86] _ (by exact (K0.out.row _ (.head _)).1) (by decide) (by decide)).mono ?_
  rw [hh_1]
  rintro e w1 ⟨Al, nl, cl, Ar, nr, cr, rfl, ho1, ho2, hb⟩
  obtain rfl : 2 = nl := ho1.len
  obtain rfl : 2 = nr := ho2.len
  have K1 := Lib.hid (K0.out.own2 hb ho1 ho2)
  clear K0
  clear ho1 ho2 hb
  go_wp2_with fail
  refine (hjoin_any Al Ar 2 cl 2 cr [18, 48] [4, 86] 3 _ (by exact (K1.out.row _ (.tail _ (.head _))).1) (by exact (K1.out.row _ (.head _)).1) (by decide) (by decide) (by decide)).mono ?_
  rw [hh_2]
  rintro e w2 ⟨Ac, cc, rfl, ho, hb⟩
  have K2 := Lib.hid (K1.out.own hb ho)
  clear K1
  clear ho hb
  go_wp2_with fail
  refine (hjoin_any Ar Al 2 cr 2 cl [4, 86] [18, 48] 3 _ (by exact (K2.out.row _ (.tail _ (.head _))).1) (by exact (K2.out.row _ (.tail _ (.tail _ (.head _)))).1) (by decide) (by decide) (by decide)).mono ?_
  rw [hh_3]
  rintro e w3 ⟨Az, cz, rfl, ho, hb⟩
  have K3 := Lib.hid (K2.out.own hb ho)
  clear K2
  clear ho hb
  go_wp2_with fail
  refine (hblock_any Al 2 cl [18, 48] 3 1 _ (by exact (K3.out.row _ (.tail _ (.tail _ (.tail _ (.head _))))).1) (by decide) (by decide)).mono ?_
  rw [hh_4]
  rintro e w4 ⟨Ax, cx, rfl, ho, hb⟩
  have K4 := Lib.hid (K3.out.own hb ho)
  clear K3
  clear ho hb
  go_wp2_with fail
  have K5 := Lib.hid (K4.out.lit [255, 255] _ 2 rfl rfl (by decide))
  clear K4
  refine (htrimT_any _ 2 2 [255, 255] 3 false _ (by exact (K5.out.row _ (.head _)).1) (by decide) (by decide)).mono ?_
  rw [hh_5]
  rintro e w5 ⟨At, ct, rfl, ho, hb⟩
  have K6 := Lib.hid (K5.out.own hb ho)
  clear K5
  clear ho hb
  go_wp2_with fail
  have K7 := Lib.hid (K6.out.lit [1] _ 1 rfl rfl (by decide))
  clear K6
  refine (hcut_any _ 1 1 [1] _ (by exact (K7.out.row _ (.head _)).1) (by decide) (by decide)).mono ?_
  rw [hh_6]
  rintro e w6 ⟨Ay, ny, cy, Aq, nq, cq, rfl, ho1, ho2, hb⟩
  obtain rfl : 0 = ny := ho1.len
  obtain rfl : 0 = nq := ho2.len
  have K8 := Lib.hid (K7.out.own2 hb ho1 ho2)
  clear K7
  clear ho1 ho2 hb
  go_wp2_with fail
  have K9 := Lib.hid (K8.out.lit [18, 48] _ 2 rfl rfl (by decide))
  clear K8
  refine (al_same _ _ _ _ _ _ [18, 48] [18, 48] _ (by exact (K9.out.row _ (.tail _ (.tail _ (.tail _ (.tail _ (.tail _ (.tail _ (.tail _ (.tail _ (.tail _ (.tail _ (.head _)))))))))))).1) (by exact (K9.out.row _ (.head _)).1) (by decide) (by decide) true rfl).mono ?_
  rintro e w7 ⟨rfl, hb⟩
  have K10 := Lib.hid (K9.out.step hb)
  clear K9
  clear hb
  go_wp2_with fail
  have K11 := Lib.hid (K10.out.lit [4, 86] _ 2 rfl rfl (by decide))
  clear K10
  refine (al_same _ _ _ _ _ _ [4, 86] [4, 86] _ (by exact (K11.out.row _ (.tail _ (.tail _ (.tail _ (.tail _ (.tail _ (.tail _ (.tail _ (.tail _ (.tail _ (.tail _ (.head _)))))))))))).1) (by exact (K11.out.row _ (.head _)).1) (by decide) (by decide) true rfl).mono ?_
  rintro e w8 ⟨rfl, hb⟩
  have K12 := Lib.hid (K11.out.step hb)
  clear K11
  clear hb
  go_wp2_with fail
  refine (al_same _ _ _ _ _ _ [18, 52, 86] [18, 52, 86] _ (by exact (K12.out.row _ (.tail _ (.tail _ (.tail _ (.tail _ (.tail _ (.tail _ (.tail _ (.tail _ (.tail _ (.head _))))))))))).1) (by exact (K12.out.row _ (.tail _ (.tail _ (.tail _ (.tail _ (.tail _ (.tail _ (.tail _ (.tail _ (.tail _ (.tail _ (.tail _ (.tail _ (.head _)))))))))))))).1) (by decide) (by decide) true rfl).mono ?_
  rintro e w9 ⟨rfl, hb⟩
  have K13 := Lib.hid (K12.out.step hb)
  clear K12
  clear hb
  go_wp2_with fail
  have K14 := Lib.hid (K13.out.lit [18, 48, 0, 0, 0, 0, 0, 0, 0, 0, 0, 0, 0, 0, 3, 1] _ 16 rfl rfl (by decide))
  clear K13
  refine (al_same _ _ _ _ _ _ [18, 48, 0, 0, 0, 0, 0, 0, 0, 0, 0, 0, 0, 0, 3, 1] [18, 48, 0, 0, 0, 0, 0, 0, 0, 0, 0, 0, 0, 0, 3, 1] _ (by exact (K14.out.row _ (.tail _ (.tail _ (.tail _ (.tail _ (.tail _ (.tail _ (.tail _ (.tail _ (.head _)))))))))).1) (by exact (K14.out.row _ (.head _)).1) (by decide) (by decide) true rfl).mono ?_
  rintro e w10 ⟨rfl, hb⟩
  have K15 := Lib.hid (K14.out.step hb)
  clear K14
  clear hb
  go_wp2_with fail
  have K16 := Lib.hid (K15.out.lit [15, 255] _ 2 rfl rfl (by decide))
  clear K15
  refine (al_same _ _ _ _ _ _ [15, 255] [15, 255] _ (by exact (K16.out.row _ (.tail _ (.tail _ (.tail _ (.tail _ (.tail _ (.tail _ (.tail _ (.head _))))))))).1) (by exact (K16.out.row _ (.head _)).1) (by decide) (by decide) true rfl).mono ?_
  rintro e w11 ⟨rfl, hb⟩
  have K17 := Lib.hid (K16.out.step hb)
  clear K16
  clear hb
  go_wp2_with fail
  refine (HSZ.out _).mono ?_
  rintro e w99 ⟨rfl, rfl⟩
  go_wp2_with fail
  go_ret
  exact ⟨rfl, K17.out.bel⟩
end Go.Proofs.Ytcobklcokffbdaa
