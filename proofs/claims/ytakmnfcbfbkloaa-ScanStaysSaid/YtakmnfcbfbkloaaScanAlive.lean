/- Layer 9's statements' own first step: parts that are written, and read. No condition. -/
import Derived.Test.YtakmnfcbfbkloaaScanArg
import Derived.Lib.SlBytesConst
import Derived.Lib.Builder
namespace Go.Proofs.Ytakmnfcbfbkloaa
open Go.RowKit
set_option linter.unusedVariables false
set_option linter.unusedSimpArgs false

/-- What a walk with a writer carries: the writer, and rows of bytes that it does not touch. -/
structure WK (v : World) (x : Nat) (A : Option Addr) (s : Int × List UInt8) (rows : List (Option Addr × Nat × List UInt8)) (w : World) : Prop where
  bel : Below v.heap.size v w
  low : v.heap.size ≤ x
  wr : WrR w x v.heap.size A s
  row : ∀ r ∈ rows, RB w w.heap.size r.1 r.2.1 r.2.2 ∧ (0 < r.2.1 → ∀ g o, r.1 = some ⟨g, o, none⟩ → g ∉ blkO A)
theorem RB.lt {w : World} {B n : Nat} {A : Option Addr} {l : List UInt8} (h : RB w B A n l) (hn : 0 < n) {g o : Nat} (e : A = some ⟨g, o, none⟩) : g < B := by
  obtain ⟨g', o', e', hg, _⟩ := h.2 hn
  rw [e] at e'
  injection e' with e'
  injection e' with e1
  omega
section
variable {v w w' : World} {x : Nat} {A : Option Addr} {s s' : Int × List UInt8} {rows : List (Option Addr × Nat × List UInt8)} {val : Value} {e : Ending} {B : Option Addr} {n c : Nat} {l : List UInt8}
theorem WK.step (h : WK v x A s rows w) (hb : Below w.heap.size w w') : WK v x A s rows w' :=
  ⟨bel_next h.bel hb, h.low, h.wr.step hb, fun r hr => ⟨(h.row r hr).1.step hb, (h.row r hr).2⟩⟩
theorem WK.all (h : WK v x A s rows w) : ∀ k ∈ x :: blkO A, v.heap.size ≤ k := fun k hk => by
  rcases List.mem_cons.1 hk with rfl | hk
  · exact h.low
  · exact (h.wr.own k hk).2.1
theorem WK.ret (h : WK v x A s rows w) (k : RetW WrR x v.heap.size A s' val w e w') : e = .returned val ∧ ∃ A', WK v x A' s' rows w' := by
  obtain ⟨he, A', h1, h2, h3⟩ := k
  refine ⟨he, A', h.bel.trans (h2.below h.all h.bel.size), h.low, h3, fun r hr => ⟨(h.row r hr).1.aft h.wr h2 (h.row r hr).2, fun hn g o e hg => ?_⟩⟩
  rcases h1 g hg with h4 | h4
  · exact (h.row r hr).2 hn g o e h4
  · have := (h.row r hr).1.lt hn e
    omega
theorem WK.own (h : WK v x A s rows w) (hb : Below w.heap.size w w') (ho : OwnB w' w.heap.size B n c l) : WK v x A s ((B, n, l) :: rows) w' := by
  refine ⟨bel_next h.bel hb, h.low, h.wr.step hb, fun r hr => ?_⟩
  rcases List.mem_cons.1 hr with rfl | hr
  · refine ⟨ho.rb, fun hn g o e hg => ?_⟩
    have h1 := (h.wr.own g hg).2.2
    obtain ⟨a, ea, hk⟩ := mem_blkO hg
    have h2 := (ho.spot ⟨g, o, none⟩ e).2.1
    simp only at h2
    omega
  · exact ⟨(h.row r hr).1.step hb, (h.row r hr).2⟩
/-- A literal of bytes is none of the writer's. -/
theorem WK.lit (h : WK v x A s rows w) : ∀ g o, (some ⟨w.heap.size, 0, none⟩ : Option Addr) = some ⟨g, o, none⟩ → g ∉ blkO A := fun g o e hg => by
  have h1 := (h.wr.own g hg).2.2
  injection e with e
  injection e with e1
  omega
end
/-- A literal string's bytes. -/
theorem RB.litM (w : World) (l : List UInt8) (cs : Array Value) (n g : Nat) (fr : Nat × Nat) (hc : cs = (bvs l).toArray) (hn : l.length = n) (hg : g = w.heap.size) : RB (w.alloc (.cells cs 5 fr)) (w.alloc (.cells cs 5 fr)).heap.size (some ⟨g, 0, none⟩) n l := by
  subst hn
  subst hg
  subst hc
  refine ⟨rfl, fun _ => ⟨w.heap.size, 0, rfl, by show w.heap.size < (w.heap.push _).size; rw [Array.size_push]; omega, fun i hi => ?_⟩⟩
  rw [cell_of_row (w.alloc (.cells (bvs l).toArray 5 fr)) w.heap.size (0 + i) _ 5 fr (heap_alloc_new w _)]
  simp [bvs, hi]
/-- What a walk with a reader carries. -/
structure RK (v : World) (x : Nat) (s : Int × List UInt8) (rows : List (Option Addr × Nat × List UInt8)) (w : World) : Prop where
  bel : Below v.heap.size v w
  low : v.heap.size ≤ x
  rd : RdR w x s
  row : ∀ r ∈ rows, RB w w.heap.size r.1 r.2.1 r.2.2
section
variable {v w w' : World} {x : Nat} {s : Int × List UInt8} {rows : List (Option Addr × Nat × List UInt8)} {e : Ending} {B : Option Addr} {n c : Nat} {l : List UInt8}
theorem RK.step (h : RK v x s rows w) (hb : Below w.heap.size w w') : RK v x s rows w' :=
  ⟨bel_next h.bel hb, h.low, h.rd.step hb, fun r hr => (h.row r hr).step hb⟩
theorem RK.oth {s' : Int × List UInt8} (h : RK v x s rows w) (ho : Oth [x] w w') (hr : RdR w' x s') : RK v x s' rows w' :=
  ⟨h.bel.trans (ho.below (fun k hk => by simp only [List.mem_cons, List.not_mem_nil, or_false] at hk; rw [hk]; exact h.low) h.bel.size), h.low, hr, fun r hm => (h.row r hm).oth ho (h.rd.row (h.row r hm))⟩
theorem RK.retN {r : Nat × Int × List UInt8} (h : RK v x s rows w) (k : RdN RdR x r w e w') : e = .returned (.int .u64 (r.1 : Int)) ∧ RK v x r.2 rows w' := ⟨k.1, h.oth k.2.1 k.2.2⟩
theorem RK.retL {r : List UInt8 × Int × List UInt8} (h : RK v x s rows w) (k : RdL RdR x r w e w') : ∃ A n c, e = .returned (.slice A n c) ∧ n = r.1.length ∧ n ≤ c ∧ c ≤ maxLen ∧ RK v x r.2 ((A, n, r.1) :: rows) w' := by
  obtain ⟨A, n, c, he, h1, h2, h3⟩ := k
  have hk := h.oth h2 h3
  refine ⟨A, n, c, he, h1.len.symm, h1.cap.1, h1.cap.2, hk.bel, hk.low, hk.rd, fun q hq => ?_⟩
  rcases List.mem_cons.1 hq with rfl | hq
  · exact h1.rb
  · exact hk.row q hq
end
theorem wr_info : ∃ j, Try.prog.info? 68 = some j := by
  have h : (Try.prog.info? 68).isSome = true := by kernel_rfl
  exact Option.isSome_iff_exists.1 h
/-- A writer is itself. -/
theorem w_neq (a : Addr) (w : World) : (binOp .neq 41 (.pointer (some a)) (.pointer (some a))).run Try.prog w = .ok (.bool false) w := by
  obtain ⟨j, hj⟩ := wr_info
  exact Lib.run_neq_ptr_same w a Try.underlying41 hj
theorem w_eql (a : Addr) (w : World) : (binOp .eql 41 (.pointer (some a)) (.pointer (some a))).run Try.prog w = .ok (.bool true) w := by
  obtain ⟨j, hj⟩ := wr_info
  exact run_eql_ptr_same w a Try.underlying41 hj
theorem wbytes1g (x base : Nat) (A : Option Addr) (B : Option Addr) (m k : Nat) (p : List UInt8) (s : Int × List UInt8) (w : World) (h : WrR w x base A s) (hp : RB w w.heap.size B m p) (hm : m ≤ 1000000) (hb : base ≤ w.heap.size) (hl : s.2.length ≤ 1000000000) (g : Nat) (hg : g = w.heap.size) :
    Calls Try.prog 31 #[.pointer (some ⟨x, 0, none⟩), .slice (some ⟨g, 0, none⟩) 1 1] (w.alloc (.cells #[.slice B m k] 22)) (RetW WrR x base A (putS p 0 s) (.pointer (some ⟨x, 0, none⟩)) w) := by
  subst hg
  exact wbytes1 x base A B m k p s w h hp hm hb hl
theorem ls_1 : putS (putN 1 2).1 (putN 1 2).2 (0, []) = (0, [0, 1]) := by decide +kernel
theorem ls_2 : putS (shortP [97, 98]).1 (shortP [97, 98]).2 (0, [0, 1]) = (0, [0, 1, 2, 97, 98]) := by decide +kernel
theorem ls_3 : putS (rowR [64]) (rowC [64]) (0, [0, 1, 2, 97, 98]) = (0, [0, 1, 2, 97, 98, 64, 64]) := by decide +kernel
theorem ls_4 : putS (longP [99]) 0 (0, [0, 1, 2, 97, 98, 64, 64]) = (0, [0, 1, 2, 97, 98, 64, 64, 1, 99]) := by decide +kernel
theorem ls_5 : putS (putN 256 1).1 (putN 256 1).2 (0, [0, 1, 2, 97, 98, 64, 64, 1, 99]) = (11, [0, 1, 2, 97, 98, 64, 64, 1, 99]) := by decide +kernel
theorem ls_6 : putS [100] 0 (11, [0, 1, 2, 97, 98, 64, 64, 1, 99]) = (11, [0, 1, 2, 97, 98, 64, 64, 1, 99]) := by decide +kernel
theorem ls_d1 : doneS (0, [0, 1, 2, 97, 98, 64, 64]) = ([0, 1, 2, 97, 98, 64, 64], 0) := by decide +kernel
theorem ls_d2 : doneS (11, [0, 1, 2, 97, 98, 64, 64, 1, 99]) = ([], 11) := by decide +kernel
theorem ls_r1 : numS 2 (0, [0, 1, 2, 97, 98, 64, 64]) = (1, 0, [2, 97, 98, 64, 64]) := by decide +kernel
theorem ls_r2 : shortS (0, [2, 97, 98, 64, 64]) = ([97, 98], 0, [64, 64]) := by decide +kernel
theorem ls_r3 : variS (0, [64, 64]) = (64, 0, []) := by decide +kernel
theorem ls_r4 : endS (0, []) = (0, []) := by decide +kernel
theorem ls_r5 : shortS (0, [3, 1]) = ([], 12, [3, 1]) := by decide +kernel
theorem ls_r6 : restS (12, [3, 1]) = ([], 12, [3, 1]) := by decide +kernel
attribute [local irreducible] putS putN shortP longP rowR rowC doneS numS shortS variS endS restS
theorem b64 (s : Int × List UInt8) (n : Nat) (h : s.2.length = n) (hn : n ≤ 1000000) : s.2.length ≤ 1000000 := by omega

set_option maxRecDepth 100000 in
set_option maxHeartbeats 4000000 in
theorem alive_any (w : World) :
    Calls Try.prog 7 #[] w fun e w' => e = .returned (.bool true) ∧ Below w.heap.size w w' := by
  have hne := w_neq
  have kc := fun (w : World) (C : Array Value) (n c : Nat) => Lib.run_convert_bytes_const (P := Try.prog) w 22 5 C n c Try.underlying22 Try.underlying5
  go_enter Try.func7, Try.ntmps7
  go_wp2_with fail
  refine (write_any _ w.heap.size (Nat.le_refl _)).mono ?_
  rintro e w1 ⟨x, rfl, hx, hb, hw⟩
  have K1 : Hid (WK w x none (0, []) [] w1) := Lib.hid ⟨hb, hx, hw, fun r hr => by cases hr⟩
  clear hx hb hw
  go_wp2_with fail
  refine (wnum_any x w.heap.size none 1 2 _ _ K1.out.wr K1.out.bel.size (by simp) (by omega)).mono ?_
  rw [ls_1]
  intro e w2 k
  obtain ⟨rfl, A2, k2⟩ := K1.out.ret k
  have K2 := Lib.hid k2
  clear k k2 K1
  go_wp2_with fail
  refine (wshort_any x w.heap.size A2 _ 2 2 [97, 98] _ _ (K2.out.step (below_alloc _ _)).wr (by exact RB.litM w2 [97, 98] _ 2 _ _ rfl rfl rfl) (fun _ => K2.out.lit) (by omega) (K2.out.step (below_alloc _ _)).bel.size (by simp)).mono ?_
  rw [ls_2]
  intro e w3 k
  obtain ⟨rfl, A3, k3⟩ := (K2.out.step (below_alloc _ _)).ret k
  have K3 := Lib.hid k3
  clear k k3 K2
  go_wp2_with fail
  refine (wvari_any x w.heap.size A3 _ 1 1 [64] _ _ (K3.out.step (below_alloc _ _)).wr (by exact UL.lit w3 [64] _ 1 _ _ rfl rfl rfl (by decide)) (by omega) (K3.out.step (below_alloc _ _)).bel.size (by simp)).mono ?_
  rw [ls_3]
  intro e w4 k
  obtain ⟨rfl, A4, k4⟩ := (K3.out.step (below_alloc _ _)).ret k
  have K4 := Lib.hid k4
  clear k k4 K3
  go_wp2_with fail
  refine (wdone_any x w.heap.size A4 _ _ K4.out.wr (by simp)).mono ?_
  rw [ls_d1]
  rintro e w5 ⟨A5, c5, rfl, ho, hb⟩
  have K5 := Lib.hid (K4.out.own hb ho)
  have C5 := ho.cap
  clear ho hb K4
  go_wp2_with fail
  refine (wlong_any x w.heap.size A4 _ 1 1 [99] _ _ (K5.out.step (below_alloc _ _)).wr (by exact RB.litM w5 [99] _ 1 _ _ rfl rfl rfl) (fun _ => K5.out.lit) (by omega) (K5.out.step (below_alloc _ _)).bel.size (by simp)).mono ?_
  rw [ls_4]
  intro e w6 k
  obtain ⟨rfl, A6, k6⟩ := (K5.out.step (below_alloc _ _)).ret k
  have K6 := Lib.hid k6
  clear k k6 K5
  go_wp2_with fail
  refine (wnum_any x w.heap.size A6 256 1 _ _ K6.out.wr K6.out.bel.size (by simp) (by omega)).mono ?_
  rw [ls_5]
  intro e w7 k
  obtain ⟨rfl, A7, k7⟩ := K6.out.ret k
  have K7 := Lib.hid k7
  clear k k7 K6
  go_wp2_with fail
  have K7' := Lib.hid (K7.out.step (below_alloc _ (.cells #[.int .u8 100] 5 (1, 2))))
  refine (wbytes1g x w.heap.size A7 _ 1 1 [100] _ _ K7'.out.wr (by exact RB.litM w7 [100] _ 1 _ _ rfl rfl rfl) (by omega) K7'.out.bel.size (by simp) _ (by simp)).mono ?_
  rw [ls_6]
  intro e w8 k
  obtain ⟨rfl, A8, k8⟩ := K7'.out.ret k
  have K8 := Lib.hid k8
  clear k k8 K7 K7'
  go_wp2_with fail
  refine (wdone_any x w.heap.size A8 _ _ K8.out.wr (by simp)).mono ?_
  rw [ls_d2]
  rintro e w9 ⟨A9, c9, rfl, ho, hb⟩
  have K9 := Lib.hid (K8.out.step hb)
  clear ho hb K8
  go_wp2_with fail
  refine (read_any A5 7 c5 [0, 1, 2, 97, 98, 64, 64] _ (by exact (K9.out.row _ (List.Mem.head _)).1) (by omega)).mono ?_
  rintro e w10 ⟨y, rfl, hy, hb, hr⟩
  have R10 : Hid (RK w y (0, [0, 1, 2, 97, 98, 64, 64]) [(A5, 7, [0, 1, 2, 97, 98, 64, 64])] w10) := Lib.hid ⟨bel_next K9.out.bel hb, Nat.le_trans K9.out.bel.size hy, hr, fun r hm => by rw [List.mem_singleton.1 hm]; exact ((K9.out.step hb).row _ (List.Mem.head _)).1⟩
  clear hy hb hr K9
  go_wp2_with fail
  refine (rnum_any y 2 _ _ R10.out.rd (by omega)).mono ?_
  rw [ls_r1]
  intro e w11 k
  obtain ⟨rfl, r11⟩ := R10.out.retN k
  have R11 := Lib.hid r11
  clear k r11 R10
  go_wp2_with fail
  refine (rshort_any y _ _ R11.out.rd).mono ?_
  rw [ls_r2]
  intro e w12 k
  obtain ⟨A12, n12, c12, rfl, q1, q2, q3, r12⟩ := R11.out.retL k
  simp only [List.length_cons, List.length_nil, Nat.reduceAdd] at q1
  subst q1
  have R12 := Lib.hid r12
  clear k r12 R11
  go_wp2_with fail
  refine (rvari_any y _ _ R12.out.rd).mono ?_
  rw [ls_r3]
  intro e w13 k
  obtain ⟨rfl, r13⟩ := R12.out.retN k
  have R13 := Lib.hid r13
  clear k r13 R12
  go_wp2_with fail
  refine (end_any y _ _ R13.out.rd).mono ?_
  rw [ls_r4]
  rintro e w14 ⟨rfl, ho, hr⟩
  have R14 := Lib.hid (R13.out.oth ho hr)
  clear ho hr R13
  go_wp2_with fail
  refine (read_any _ 2 2 [3, 1] _ (by exact RB.lit w14 [3, 1] _ 2 _ rfl rfl rfl) (by omega)).mono ?_
  rintro e w15 ⟨z, rfl, hz, hb, hr⟩
  have k15 := (R14.out.step (below_alloc w14 (.cells #[.int .u8 3, .int .u8 1] 5))).step hb
  have R15 : Hid (RK w z (0, [3, 1]) _ w15) := Lib.hid ⟨k15.bel, Nat.le_trans (R14.out.step (below_alloc w14 (.cells #[.int .u8 3, .int .u8 1] 5))).bel.size hz, hr, k15.row⟩
  clear hz hb hr k15 R14
  go_wp2_with fail
  refine (rshort_any z _ _ R15.out.rd).mono ?_
  rw [ls_r5]
  intro e w16 k
  obtain ⟨A16, n16, c16, rfl, p1, p2, p3, r16⟩ := R15.out.retL k
  simp only [List.length_nil] at p1
  subst p1
  have R16 := Lib.hid r16
  clear k r16 R15
  go_wp2_with fail
  refine (al_same _ _ _ _ _ _ [0, 1, 2, 97, 98, 64, 64] [0, 1, 2, 97, 98, 64, 64] _ (by exact (R16.out.step (below_alloc _ _)).row (A5, 7, [0, 1, 2, 97, 98, 64, 64]) (by simp)) (by exact RB.lit _ [0, 1, 2, 97, 98, 64, 64] _ 7 _ rfl rfl rfl) (by decide) (by decide) true rfl).mono ?_
  rintro e w17 ⟨rfl, hb⟩
  have R17 := Lib.hid ((R16.out.step (below_alloc w16 _)).step hb)
  clear hb R16
  go_wp2_with fail
  refine (al_same _ _ _ _ _ _ [97, 98] [97, 98] _ (by exact (R17.out.step (below_alloc _ _)).row (A12, 2, [97, 98]) (by simp)) (by exact RB.litM _ [97, 98] _ 2 _ _ rfl rfl rfl) (by decide) (by decide) true rfl).mono ?_
  rintro e w18 ⟨rfl, hb⟩
  have R18 := Lib.hid ((R17.out.step (below_alloc w17 _)).step hb)
  clear hb R17
  go_wp2_with fail
  refine (err_any z _ _ R18.out.rd).mono ?_
  rintro e w19 ⟨rfl, rfl⟩
  go_wp2_with fail
  refine (left_any z _ _ R18.out.rd).mono ?_
  rintro e w19 ⟨rfl, rfl⟩
  go_wp2_with fail
  refine (rrest_any z _ _ R18.out.rd).mono ?_
  rw [ls_r6]
  intro e w20 k
  obtain ⟨A20, n20, c20, rfl, q1, _, _, r20⟩ := R18.out.retL k
  simp only [List.length_nil] at q1
  subst q1
  have R20 := Lib.hid r20
  clear k r20 R18
  go_wp2_with fail
  go_ret
  exact ⟨rfl, R20.out.bel⟩
end Go.Proofs.Ytakmnfcbfbkloaa
