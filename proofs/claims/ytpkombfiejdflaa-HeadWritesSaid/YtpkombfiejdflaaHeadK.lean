/- Layer 10's statements' own first step: a header that is parsed, and written. No condition. -/
import Derived.Test.YtpkombfiejdflaaHeadOf
namespace Go.Proofs.Ytpkombfiejdflaa
open Go.RowKit
set_option linter.unusedVariables false
set_option linter.unusedSimpArgs false

/-- What a walk over headers carries: rows of bytes, headers, variables that hold one. -/
structure KW (v : World) (rows : List (Option Addr × Nat × Nat × List UInt8)) (hs : List Hd) (bs : List (TypeId × Nat × Hd)) (w : World) : Prop where
  bel : Below v.heap.size v w
  row : ∀ r ∈ rows, RB w w.heap.size r.1 r.2.1 r.2.2.2 ∧ r.2.1 ≤ r.2.2.1 ∧ r.2.2.1 ≤ maxLen
  hd : ∀ h ∈ hs, h.ok w
  box : ∀ b ∈ bs, Hc b.1 w b.2.1 b.2.2
section
variable {v w w' w2 w3 : World} {rows : List (Option Addr × Nat × Nat × List UInt8)} {hs : List Hd} {bs : List (TypeId × Nat × Hd)} {n c base x : Nat} {A : Option Addr} {l : List UInt8} {e : Ending} {T : TypeId} {h : Hd}
theorem KW.step (k : KW v rows hs bs w) (hb : Below w.heap.size w w') : KW v rows hs bs w' :=
  ⟨bel_next k.bel hb, fun r hr => ⟨(k.row r hr).1.step hb, (k.row r hr).2⟩, fun h hh => (k.hd h hh).step hb, fun b hm => (k.box b hm).step hb⟩
theorem KW.add (k : KW v rows hs bs w) (hr : RB w w.heap.size A n l) (h1 : n ≤ c) (h2 : c ≤ maxLen) : KW v ((A, n, c, l) :: rows) hs bs w :=
  ⟨k.bel, fun r hm => by rcases List.mem_cons.1 hm with rfl | hm; exact ⟨hr, h1, h2⟩; exact k.row r hm, k.hd, k.box⟩
theorem KW.own (k : KW v rows hs bs w) (hb : Below w.heap.size w w') (ho : OwnB w' base A n c l) : KW v ((A, n, c, l) :: rows) hs bs w' := (k.step hb).add ho.rb ho.cap.1 ho.cap.2
theorem KW.lit (k : KW v rows hs bs w) (l : List UInt8) (cs : Array Value) (n : Nat) (hc : cs = (bvs l).toArray) (hn : l.length = n) (hm : n ≤ maxLen) : KW v ((some ⟨w.heap.size, 0, none⟩, n, n, l) :: rows) hs bs (w.alloc (.cells cs 5)) :=
  (k.step (below_alloc _ _)).add (RB.lit w l cs n _ hc hn rfl) (Nat.le_refl _) hm
theorem KW.hdr {r : Pl × List UInt8 × Int} (k : KW v rows hs bs w) (q : RetHd r w e w') : ∃ (h : Hd) (A : Option Addr) (n c : Nat), e = .returned (.tuple #[h.val, .slice A n c, .int .i64 r.2.2]) ∧ h.pl = r.1 ∧ r.2.1.length = n ∧ KW v ((A, n, c, r.2.1) :: rows) (h :: hs) bs w' := by
  obtain ⟨h, A, n, c, he, hp, ho, hr, hb⟩ := q
  have k' := k.own hb hr
  exact ⟨h, A, n, c, he, hp, hr.len, k'.bel, k'.row, fun g hm => by rcases List.mem_cons.1 hm with rfl | hm; exact ho.ok; exact k'.hd g hm, k'.box⟩
theorem KW.var (k : KW v rows hs bs w) (hb : Below w.heap.size w w2) (hx : w.heap.size ≤ x) (hc : Hc T w3 x h) (ho : Oth [x] w2 w3) : KW v rows hs ((T, x, h) :: bs) w3 := by
  have hb3 : Below w.heap.size w w3 := hb.trans (ho.below (fun j hj => by rw [List.mem_singleton.1 hj]; exact hx) hb.size)
  have k' := k.step hb3
  exact ⟨k'.bel, k'.row, k'.hd, fun b hm => by rcases List.mem_cons.1 hm with rfl | hm; exact hc; exact k'.box b hm⟩
theorem KW.boxed (k : KW v rows hs bs w) (hc : Hc T w' x h) (hb : Below w.heap.size w w') : KW v rows hs ((T, x, h) :: bs) w' := by
  have k' := k.step hb
  exact ⟨k'.bel, k'.row, k'.hd, fun b hm => by rcases List.mem_cons.1 hm with rfl | hm; exact hc; exact k'.box b hm⟩
theorem KW.addh (k : KW v rows hs bs w) (hh : h.ok w) : KW v rows (h :: hs) bs w :=
  ⟨k.bel, k.row, fun g hm => by rcases List.mem_cons.1 hm with rfl | hm; exact hh; exact k.hd g hm, k.box⟩
theorem KW.start (w : World) : KW w [] [] [] w := ⟨Below.refl _ _, fun r hr => (by cases hr), fun r hr => (by cases hr), fun r hr => (by cases hr)⟩
end
theorem zero_ok (w : World) : zeroH.ok w := (Hd.own.zero w w.heap.size).ok
theorem ph_1 : prs [192, 0, 0, 0, 1, 2, 7, 8, 0, 5] = ((192, 1, [7, 8], []), [5], 0) := by decide +kernel
theorem ph_2 : prs [64] = (zeroP, [], 14) := by decide +kernel
theorem ph_3 : prs [192, 0, 0, 0, 1, 2, 7, 8] = (zeroP, [], 12) := by decide +kernel
theorem ph_4 : byt (192, 1, [7, 8], []) = ([192, 0, 0, 0, 1, 2, 7, 8, 0], 0) := by decide +kernel
theorem ph_5 : idN [1, 2, 3] 2 = ([2, 3], 0) := by decide +kernel
theorem ph_6 : idN [1, 2] 2 = ([], 12) := by decide +kernel
theorem pl_parts {h : Hd} {f : UInt8} {v : Nat} {a b : List UInt8} (e : h.pl = (f, v, a, b)) : h.f = f ∧ h.v = v ∧ h.a = a ∧ h.b = b := by
  unfold Hd.pl at e
  injection e with e1 e
  injection e with e2 e
  injection e with e3 e4
  exact ⟨e1, e2, e3, e4⟩
attribute [local irreducible] prs byt idN
attribute [local go_sem ↓] ex_ldHd ex_stHd

set_option maxRecDepth 100000 in
set_option maxHeartbeats 4000000 in
theorem alive_any (w : World) :
    Calls Try.prog 7 #[] w fun e w' => e = .returned (.bool true) ∧ Below w.heap.size w w' := by
  go_enter Try.func7, Try.ntmps7
  go_wp2_with fail
  have K0 := Lib.hid ((KW.start w).lit [192, 0, 0, 0, 1, 2, 7, 8, 0, 5] _ 10 rfl rfl (by decide))
  refine (parse_any _ 10 10 _ _ (by exact (K0.out.row _ (.head _)).1) (by decide)).mono ?_
  rw [ph_1]
  intro e w1 q1
  obtain ⟨h, A1, n1, c1, rfl, hp, hn, k1⟩ := K0.out.hdr q1
  obtain rfl : 1 = n1 := hn
  have J1 := Lib.hid k1
  have HP := Lib.hid (pl_parts hp)
  have HPL := Lib.hid hp
  clear q1 hp k1 K0
  go_wp2_with (first
    | (with_reducible show wpList _ _ _ (⟨some 2, .alloc _, _, _, _, none⟩ :: _) _ _; refine wpList_allocN ht_head rfl rfl ?_; intro w1a x hc2 hb2 hx2; have H2 := Lib.hid (And.intro hc2 (And.intro hb2 hx2)); clear hc2 hb2 hx2)
    | (refine wpList_stH ht_head rfl (.tmp 2) (.tmp 21) rfl x rfl h zeroH rfl (by exact H2.out.1) ?_; intro w1b hc3 ho3 hs3; have K1 := Lib.hid (J1.out.var H2.out.2.1 H2.out.2.2 hc3 ho3); clear hc3 ho3 hs3 H2 J1))
  have K2 := Lib.hid (K1.out.lit [64] _ 1 rfl rfl (by decide))
  clear K1
  refine (parse_any _ 1 1 [64] _ (by exact (K2.out.row _ (.head _)).1) (by decide)).mono ?_
  rw [ph_2]
  intro e w2 q2
  obtain ⟨h2, A2, n2, c2, rfl, hp2, hn, k2⟩ := K2.out.hdr q2
  obtain rfl : 0 = n2 := hn
  have J2 := Lib.hid k2
  have HP2 := Lib.hid hp2
  clear q2 hp2 k2 K2
  go_wp2_with (first
    | (with_reducible show wpList _ _ _ (⟨some 5, .alloc _, _, _, _, none⟩ :: _) _ _; refine wpList_allocN ht_head rfl rfl ?_; intro w2a x2 hc2 hb2 hx2; have H2 := Lib.hid (And.intro hc2 (And.intro hb2 hx2)); clear hc2 hb2 hx2)
    | (refine wpList_stH ht_head rfl (.tmp 5) (.tmp 27) rfl x2 rfl h2 zeroH rfl (by exact H2.out.1) ?_; intro w2b hc3 ho3 hs3; have K3 := Lib.hid (J2.out.var H2.out.2.1 H2.out.2.2 hc3 ho3); clear hc3 ho3 hs3 H2 J2))
  have K4 := Lib.hid (K3.out)
  clear K3
  refine (parse_any _ 8 10 [192, 0, 0, 0, 1, 2, 7, 8] _ (by exact (K4.out.row _ (.tail _ (.tail _ (.tail _ (.head _))))).1.front (j := 8) (show 8 ≤ 10 by decide)) (by decide)).mono ?_
  rw [ph_3]
  intro e w4 q4
  obtain ⟨h4, A4, n4, c4, rfl, hp4, hn, k4⟩ := K4.out.hdr q4
  obtain rfl : 0 = n4 := hn
  have J4 := Lib.hid k4
  have HP4 := Lib.hid hp4
  clear q4 hp4 k4 K4
  go_wp2_with (first
    | (with_reducible show wpList _ _ _ (⟨some 8, .alloc _, _, _, _, none⟩ :: _) _ _; refine wpList_allocN ht_head rfl rfl ?_; intro w4a x3 hc2 hb2 hx2; have H2 := Lib.hid (And.intro hc2 (And.intro hb2 hx2)); clear hc2 hb2 hx2)
    | (refine wpList_stH ht_head rfl (.tmp 8) (.tmp 34) rfl x3 rfl h4 zeroH rfl (by exact H2.out.1) ?_; intro w4b hc3 ho3 hs3; have K5 := Lib.hid (J4.out.var H2.out.2.1 H2.out.2.2 hc3 ho3); clear hc3 ho3 hs3 H2 J4))
  have ql := ldHd_m ht_head (K5.out.box _ (.tail _ (.tail _ (.head _))))
  go_wp2_with (first
    | (refine wpList_ldH ht_head rfl (.tmp 2) rfl x rfl h (K5.out.box _ (.tail _ (.tail _ (.head _)))) ?_))
  refine (hbytes_any h _ (by exact K5.out.hd _ (.tail _ (.tail _ (.head _)))) (by rw [HP.out.2.2.1]; decide) (by rw [HP.out.2.2.2]; decide)).mono ?_
  rw [HPL.out, ph_4]
  rintro e w6 ⟨A6, c6, rfl, ho, hb⟩
  have K6 := Lib.hid (K5.out.own hb ho)
  clear ho hb K5 ql
  go_wp2_with fail
  have K7 := Lib.hid (K6.out.lit [1, 2, 3] _ 3 rfl rfl (by decide))
  refine (hid_any _ 3 3 _ 2 _ (by exact (K7.out.row _ (.head _)).1) (by decide) (by decide)).mono ?_
  rw [ph_5]
  rintro e w7 ⟨A7, c7, rfl, ho, hb⟩
  have K8 := Lib.hid (K7.out.own hb ho)
  clear ho hb K7 K6
  go_wp2_with fail
  have K9 := Lib.hid (K8.out.lit [1, 2] _ 2 rfl rfl (by decide))
  refine (hid_any _ 2 2 _ 2 _ (by exact (K9.out.row _ (.head _)).1) (by decide) (by decide)).mono ?_
  rw [ph_6]
  rintro e w9 ⟨A9, c9, rfl, ho, hb⟩
  have K10 := Lib.hid (K9.out.own hb ho)
  have ka := (K9.out.own hb ho).hd h (by simp)
  have kr := ka.a
  have kc := ka.ca
  rw [HP.out.2.2.1] at kr kc
  have K11 := Lib.hid (K10.out.add (A := h.A) (n := 2) (c := h.c) (l := [7, 8]) kr kc.1 kc.2)
  have m1 := (K10.out.box (27, x, h) (by simp)).c1
  have m2 := (K10.out.box (27, x, h) (by simp)).c2
  rw [HP.out.2.1] at m1
  rw [HP.out.2.2.1] at m2
  clear ho hb K9 K8 K10 ka kr kc
  go_wp2_with fail
  clear m1 m2
  have K12a := Lib.hid (K11.out.lit [7, 8] _ 2 rfl rfl (by decide))
  refine (al_same _ _ _ _ _ _ [7, 8] [7, 8] _ (by exact (K12a.out.row (h.A, 2, h.c, [7, 8]) (by simp)).1) (by exact (K12a.out.row _ (.head _)).1) (by decide) (by decide) true rfl).mono ?_
  rintro e w12 ⟨rfl, hb⟩
  have K12 := Lib.hid (K12a.out.step hb)
  clear hb K12a K11
  have m3 := (K12.out.box (27, x, h) (by simp)).c3
  rw [HP.out.2.2.2] at m3
  go_wp2_with fail
  clear m3
  have K13a := Lib.hid (K12.out.lit [5] _ 1 rfl rfl (by decide))
  refine (al_same _ _ _ _ _ _ [5] [5] _ (by exact (K13a.out.row (A1, 1, c1, [5]) (by simp)).1) (by exact (K13a.out.row _ (.head _)).1) (by decide) (by decide) true rfl).mono ?_
  rintro e w13 ⟨rfl, hb⟩
  have K13 := Lib.hid (K13a.out.step hb)
  clear hb K13a K12
  go_wp2_with fail
  have K14a := K13
  refine (al_same _ _ _ _ _ _ [192, 0, 0, 0, 1, 2, 7, 8, 0] [192, 0, 0, 0, 1, 2, 7, 8, 0] _ (by exact (K14a.out.row (A6, 9, c6, [192, 0, 0, 0, 1, 2, 7, 8, 0]) (by simp)).1) (by exact ((K14a.out.row (some ⟨w.heap.size, 0, none⟩, 10, 10, [192, 0, 0, 0, 1, 2, 7, 8, 0, 5]) (by simp)).1.front (j := 9) (show 9 ≤ 10 by decide))) (by decide) (by decide) true rfl).mono ?_
  rintro e w14 ⟨rfl, hb⟩
  have K14 := Lib.hid (K14a.out.step hb)
  clear hb K14a K13
  go_wp2_with fail
  have K15a := Lib.hid (K14.out.lit [2, 3] _ 2 rfl rfl (by decide))
  refine (al_same _ _ _ _ _ _ [2, 3] [2, 3] _ (by exact (K15a.out.row (A7, 2, c7, [2, 3]) (by simp)).1) (by exact (K15a.out.row _ (.head _)).1) (by decide) (by decide) true rfl).mono ?_
  rintro e w15 ⟨rfl, hb⟩
  have K15 := Lib.hid (K15a.out.step hb)
  clear hb K15a K14
  go_wp2_with fail
  refine (hlong_any _ 10 10 [192, 0, 0, 0, 1, 2, 7, 8, 0, 5] _ (by exact (K15.out.row (some ⟨w.heap.size, 0, none⟩, 10, 10, [192, 0, 0, 0, 1, 2, 7, 8, 0, 5]) (by simp)).1) true rfl).mono ?_
  rintro e w16 ⟨rfl, rfl⟩
  go_wp2_with fail
  refine (hlong_any none 0 0 [] _ RB.nil_ false rfl).mono ?_
  rintro e w16 ⟨rfl, rfl⟩
  have ql := ldHd_m ht_head (K15.out.box (27, x, h) (by simp))
  go_wp2_with fail
  refine (hsame_any h h _ (by exact K15.out.hd h (by simp)) (by exact K15.out.hd h (by simp)) true (decide_eq_true rfl)).mono ?_
  rintro e w17 ⟨rfl, hb⟩
  have K17 := Lib.hid (K15.out.step hb)
  clear hb K15 ql
  have ql := ldHd_m ht_head (K17.out.box (27, x, h) (by simp))
  go_wp2_with fail
  refine (hsame_any h zeroH _ (by exact K17.out.hd h (by simp)) (zero_ok _) false (by rw [HPL.out]; exact decide_eq_false (by decide))).mono ?_
  rintro e w18 ⟨rfl, hb⟩
  have K18 := Lib.hid (K17.out.step hb)
  clear hb K17 ql
  go_wp2_with fail
  go_ret
  exact ⟨rfl, K18.out.bel⟩
end Go.Proofs.Ytpkombfiejdflaa
