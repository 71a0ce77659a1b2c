/- Layer 13: what a walk of a statement carries, and the statements' own first step. No condition. -/
import Derived.Test.YtppopdjfecabfaaOffB
namespace Go.Proofs.Ytppopdjfecabfaa
open Go.RowKit
set_option linter.unusedVariables false
set_option linter.unusedSimpArgs false

/-- What a walk over offers carries: rows of bytes, headers, variables that hold one, rows of versions. -/
structure VW (v : World) (rows : List (Option Addr × Nat × Nat × List UInt8)) (hs : List Hd) (bs : List (TypeId × Nat × Hd)) (vs : List (Option Addr × Nat × Nat × List Nat)) (w : World) : Prop where
  kw : KW v rows hs bs w
  vl : ∀ r ∈ vs, VL w w.heap.size r.1 r.2.1 r.2.2.2 ∧ r.2.1 ≤ r.2.2.1 ∧ r.2.2.1 ≤ maxLen
section
variable {v w w' w2 w3 : World} {rows : List (Option Addr × Nat × Nat × List UInt8)} {hs : List Hd} {bs : List (TypeId × Nat × Hd)} {vs : List (Option Addr × Nat × Nat × List Nat)} {n c base x : Nat} {A : Option Addr} {l : List UInt8} {ls : List Nat} {e : Ending} {T : TypeId} {h : Hd}
theorem VW.bel (k : VW v rows hs bs vs w) : Below v.heap.size v w := k.kw.bel
theorem VW.step (k : VW v rows hs bs vs w) (hb : Below w.heap.size w w') : VW v rows hs bs vs w' := ⟨k.kw.step hb, fun r hr => ⟨(k.vl r hr).1.step hb, (k.vl r hr).2⟩⟩
theorem VW.add (k : VW v rows hs bs vs w) (hr : RB w w.heap.size A n l) (h1 : n ≤ c) (h2 : c ≤ maxLen) : VW v ((A, n, c, l) :: rows) hs bs vs w := ⟨k.kw.add hr h1 h2, k.vl⟩
theorem VW.addv (k : VW v rows hs bs vs w) (hr : VL w w.heap.size A n ls) (h1 : n ≤ c) (h2 : c ≤ maxLen) : VW v rows hs bs ((A, n, c, ls) :: vs) w := ⟨k.kw, fun r hm => by rcases List.mem_cons.1 hm with rfl | hm; exact ⟨hr, h1, h2⟩; exact k.vl r hm⟩
theorem VW.own (k : VW v rows hs bs vs w) (hb : Below w.heap.size w w') (ho : OwnB w' base A n c l) : VW v ((A, n, c, l) :: rows) hs bs vs w' := (k.step hb).add ho.rb ho.cap.1 ho.cap.2
theorem VW.ownv (k : VW v rows hs bs vs w) (hb : Below w.heap.size w w') (ho : OwnV w' base A n c ls) : VW v rows hs bs ((A, n, c, ls) :: vs) w' := (k.step hb).addv ho.vl ho.cap.1 ho.cap.2
theorem VW.lit (k : VW v rows hs bs vs w) (l : List UInt8) (cs : Array Value) (n : Nat) (hc : cs = (bvs l).toArray) (hn : l.length = n) (hm : n ≤ maxLen) : VW v ((some ⟨w.heap.size, 0, none⟩, n, n, l) :: rows) hs bs vs (w.alloc (.cells cs 5)) :=
  (k.step (below_alloc _ _)).add (RB.lit w l cs n _ hc hn rfl) (Nat.le_refl _) hm
theorem VW.litv (k : VW v rows hs bs vs w) (ls : List Nat) (cs : Array Value) (n : Nat) (hc : cs = (vvs ls).toArray) (hn : ls.length = n) (hm : n ≤ maxLen) (hl : ∀ x ∈ ls, x ≤ 4294967295) : VW v rows hs bs ((some ⟨w.heap.size, 0, none⟩, n, n, ls) :: vs) (w.alloc (.cells cs 34)) :=
  (k.step (below_alloc _ _)).addv (VL.lit w ls cs n _ _ hc hn rfl hl) (Nat.le_refl _) hm
theorem VW.litvg (k : VW v rows hs bs vs w) (ls : List Nat) (cs : Array Value) (n g : Nat) (hg : g = w.heap.size) (hc : cs = (vvs ls).toArray) (hn : ls.length = n) (hm : n ≤ maxLen) (hl : ∀ x ∈ ls, x ≤ 4294967295) : VW v rows hs bs ((some ⟨g, 0, none⟩, n, n, ls) :: vs) (w.alloc (.cells cs 34)) := by
  subst hg
  exact k.litv ls cs n hc hn hm hl
theorem VW.var (k : VW v rows hs bs vs w) (hb : Below w.heap.size w w2) (hx : w.heap.size ≤ x) (hc : Hc T w3 x h) (ho : Oth [x] w2 w3) : VW v rows hs ((T, x, h) :: bs) vs w3 := by
  have hb3 : Below w.heap.size w w3 := hb.trans (ho.below (fun j hj => by rw [List.mem_singleton.1 hj]; exact hx) hb.size)
  exact ⟨k.kw.var hb hx hc ho, (k.step hb3).vl⟩
theorem VW.addh (k : VW v rows hs bs vs w) (hh : h.ok w) : VW v rows (h :: hs) bs vs w := ⟨k.kw.addh hh, k.vl⟩
theorem VW.hdr {r : Pl × List Nat × Int} (k : VW v rows hs bs vs w) (q : RetHV r w e w') : ∃ (h : Hd) (A : Option Addr) (n c : Nat), e = .returned (.tuple #[h.val, .slice A n c, .int .i64 r.2.2]) ∧ h.pl = r.1 ∧ r.2.1.length = n ∧ VW v rows (h :: hs) bs ((A, n, c, r.2.1) :: vs) w' := by
  obtain ⟨h, A, n, c, he, hp, ho, hr, hb⟩ := q
  exact ⟨h, A, n, c, he, hp, hr.len, (k.ownv hb hr).addh ho.ok⟩
theorem VW.start (w : World) : VW w [] [] [] [] w := ⟨KW.start w, fun r hr => (by cases hr)⟩
theorem VW.row (k : VW v rows hs bs vs w) : ∀ r ∈ rows, RB w w.heap.size r.1 r.2.1 r.2.2.2 ∧ r.2.1 ≤ r.2.2.1 ∧ r.2.2.1 ≤ maxLen := k.kw.row
theorem VW.hd (k : VW v rows hs bs vs w) : ∀ h ∈ hs, h.ok w := k.kw.hd
theorem VW.box (k : VW v rows hs bs vs w) : ∀ b ∈ bs, Hc b.1 w b.2.1 b.2.2 := k.kw.box
end
theorem oanswer_lit (A : Option Addr) (n c : Nat) (l : List UInt8) (f : UInt8) (z : Int) (hz : (f.toNat : Int) = z) (Av : Option Addr) (nv cv : Nat) (vs : List Nat) (w : World) (h : RB w w.heap.size A n l) (hc : n ≤ c ∧ c ≤ maxLen) (hn : n ≤ 1000000) (hv : VL w w.heap.size Av nv vs) (hnv : nv ≤ maxLen) :
    Calls Try.prog 10 #[.slice A n c, .int .u8 z, .slice Av nv cv] w (RetBE (answ l f vs).1.length (answ l f vs).1 (answ l f vs).2 w) := by
  subst hz
  exact oanswer_any A n c l f Av nv cv vs w h hc hn hv hnv
theorem omake_lit (f : UInt8) (z : Int) (hz : (f.toNat : Int) = z) (A0 A1 A : Option Addr) (n0 c0 n1 c1 n c : Nat) (a b : List UInt8) (l : List Nat) (w : World) (h0 : RB w w.heap.size A0 n0 a) (m0 : n0 ≤ c0 ∧ c0 ≤ maxLen) (h1 : RB w w.heap.size A1 n1 b) (m1 : n1 ≤ c1 ∧ c1 ≤ maxLen) (ha : n0 ≤ 1000000) (hb : n1 ≤ 1000000) (h : VL w w.heap.size A n l) (hn : n ≤ maxLen) :
    Calls Try.prog 8 #[.int .u8 z, .slice A0 n0 c0, .slice A1 n1 c1, .slice A n c] w (RetBE (mkO f a b l).1.length (mkO f a b l).1 (mkO f a b l).2 w) := by
  subst hz
  have e0 := h0.len
  have e1 := h1.len
  subst e0
  subst e1
  exact omake_any f A0 A1 A c0 c1 n c a b l w h0 m0 h1 m1 ha hb h hn
theorem romake_lit (f : UInt8) (z : Int) (hz : (f.toNat : Int) = z) (A0 A1 A : Option Addr) (n0 c0 n1 c1 n c : Nat) (a b : List UInt8) (l : List Nat) (w : World) (h0 : RB w w.heap.size A0 n0 a) (m0 : n0 ≤ c0 ∧ c0 ≤ maxLen) (h1 : RB w w.heap.size A1 n1 b) (m1 : n1 ≤ c1 ∧ c1 ≤ maxLen) (ha : n0 ≤ 1000000) (hb : n1 ≤ 1000000) (h : VL w w.heap.size A n l) (hn : n ≤ maxLen) :
    Calls Try.prog 9 #[.int .u8 z, .slice A0 n0 c0, .slice A1 n1 c1, .slice A n c] w (RetBE (mkO f a b l).1.length (mkO f a b l).1 (mkO f a b l).2 w) := by
  subst hz
  have e0 := h0.len
  have e1 := h1.len
  subst e0
  subst e1
  exact romake_any f A0 A1 A c0 c1 n c a b l w h0 m0 h1 m1 ha hb h hn
theorem ohas_lit (A : Option Addr) (n c : Nat) (l : List UInt8) (v : Nat) (z : Int) (hz : (v : Int) = z) (w : World) (h : RB w w.heap.size A n l) (hc : n ≤ c ∧ c ≤ maxLen) (hn : n ≤ 1000000) (hv : v ≤ 4294967295) (u : Bool) (hu : hasV l v = u) :
    Calls Try.prog 19 #[.slice A n c, .int .u32 z] w fun e w' => e = .returned (.bool u) ∧ Below w.heap.size w w' := by
  subst hz
  subst hu
  exact ohas_any A n c l v w h hc hn hv
theorem oh_1 : answ [192, 0, 0, 0, 9, 1, 7, 1, 8, 5] 65 [1, 258] = ([193, 0, 0, 0, 0, 1, 8, 1, 7, 0, 0, 0, 1, 0, 0, 1, 2], 0) := by decide +kernel
theorem oh_2 : oprs [193, 0, 0, 0, 0, 1, 8, 1, 7, 0, 0, 0, 1, 0, 0, 1, 2] = ((193, 0, [8], [7]), [1, 258], 0) := by decide +kernel
theorem oh_3 : mkO 0 [] [] [] = ([], 11) := by decide +kernel
theorem oh_4 : oprs [128, 0, 0, 0, 0, 0, 0, 1] = (zeroP, [], 10) := by decide +kernel
theorem oh_5 : oprs [128, 0, 0, 0, 1, 0, 0] = (zeroP, [], 14) := by decide +kernel
theorem oh_6 : hasV [193, 0, 0, 0, 0, 1, 8, 1, 7, 0, 0, 0, 1, 0, 0, 1, 2] 1 = true := by decide +kernel
theorem oh_7 : hasV [193, 0, 0, 0, 0, 1, 8, 1, 7, 0, 0, 0, 1, 0, 0, 1, 2] 2 = false := by decide +kernel
attribute [local irreducible] putL byt mkO offL rawP verL prs splV vnum numL oprs answ hasV
attribute [local go_sem ↓] ex_ldHd ex_stHd

set_option maxRecDepth 100000 in
set_option maxHeartbeats 4000000 in
theorem oalive_any (w : World) :
    Calls Try.prog 7 #[] w fun e w' => e = .returned (.bool true) ∧ Below w.heap.size w w' := by
  go_enter Try.func7, Try.ntmps7
  go_wp2_with fail
  have K0 := Lib.hid (((VW.start w).lit [192, 0, 0, 0, 9, 1, 7, 1, 8, 5] _ 10 rfl rfl (by decide)).litvg [1, 258] _ 2 (w.heap.size + 1) (by simp) rfl rfl (by decide) (by decide))
  refine (oanswer_lit _ 10 10 [192, 0, 0, 0, 9, 1, 7, 1, 8, 5] 65 _ rfl _ 2 2 [1, 258] _ (by exact (K0.out.row _ (.head _)).1) (by decide) (by decide) (by exact (K0.out.vl _ (.head _)).1) (by decide)).mono ?_
  rw [oh_1]
  rintro e w1 ⟨A1, c1, rfl, ho, hb⟩
  have K1 := Lib.hid (K0.out.own hb ho)
  clear ho hb K0
  go_wp2_with fail
  have K2 := Lib.hid (K1.out.lit [193, 0, 0, 0, 0, 1, 8, 1, 7, 0, 0, 0, 1, 0, 0, 1, 2] _ 17 rfl rfl (by decide))
  refine (oparse_any A1 17 c1 [193, 0, 0, 0, 0, 1, 8, 1, 7, 0, 0, 0, 1, 0, 0, 1, 2] _ (by exact (K2.out.row _ (.tail _ (.head _))).1) (by exact (K2.out.row _ (.tail _ (.head _))).2) (by decide)).mono ?_
  rw [oh_2]
  intro e w2 q2
  obtain ⟨h2, A2, n2, c2, rfl, hp2, hn2, k2⟩ := K2.out.hdr q2
  obtain rfl : 2 = n2 := hn2
  have J2 := Lib.hid k2
  have HP2 := Lib.hid (pl_parts hp2)
  clear q2 hp2 k2 K2 K1
  go_wp2_with (first
    | (with_reducible show wpList _ _ _ (⟨some 4, .alloc _, _, _, _, none⟩ :: _) _ _; refine wpList_allocN ht_head rfl rfl ?_; intro w2a x2 hc2 hb2 hx2; have H2 := Lib.hid (And.intro hc2 (And.intro hb2 hx2)); clear hc2 hb2 hx2)
    | (refine wpList_stH ht_head rfl (.tmp 4) (.tmp 25) rfl x2 rfl h2 zeroH rfl (by exact H2.out.1) ?_; intro w3 hc3 ho3 hs3; have K3 := Lib.hid (J2.out.var H2.out.2.1 H2.out.2.2 hc3 ho3); clear hc3 ho3 hs3 H2 J2))
  refine (omake_lit 0 _ rfl none none none 0 0 0 0 0 0 [] [] [] _ RB.nil_ (by decide) RB.nil_ (by decide) (by decide) (by decide) VL.nil_ (by decide)).mono ?_
  rw [oh_3]
  rintro e w4 ⟨A4, c4, rfl, ho, hb⟩
  have K4 := Lib.hid (K3.out.own hb ho)
  clear ho hb K3
  go_wp2_with fail
  have K5 := Lib.hid (K4.out.lit [128, 0, 0, 0, 0, 0, 0, 1] _ 8 rfl rfl (by decide))
  refine (oparse_any _ 8 8 [128, 0, 0, 0, 0, 0, 0, 1] _ (by exact (K5.out.row _ (.head _)).1) (by decide) (by decide)).mono ?_
  rw [oh_4]
  intro e w5 q5
  obtain ⟨h5, A5, n5, c5, rfl, hp5, hn5, k5⟩ := K5.out.hdr q5
  obtain rfl : 0 = n5 := hn5
  have J5 := Lib.hid k5
  clear q5 hp5 k5 K5 K4
  go_wp2_with (first
    | (with_reducible show wpList _ _ _ (⟨some 9, .alloc _, _, _, _, none⟩ :: _) _ _; refine wpList_allocN ht_head rfl rfl ?_; intro w5a x5 hc2 hb2 hx2; have H2 := Lib.hid (And.intro hc2 (And.intro hb2 hx2)); clear hc2 hb2 hx2)
    | (refine wpList_stH ht_head rfl (.tmp 9) (.tmp 35) rfl x5 rfl h5 zeroH rfl (by exact H2.out.1) ?_; intro w6 hc3 ho3 hs3; have K6 := Lib.hid (J5.out.var H2.out.2.1 H2.out.2.2 hc3 ho3); clear hc3 ho3 hs3 H2 J5))
  have K7 := Lib.hid (K6.out.lit [128, 0, 0, 0, 1, 0, 0] _ 7 rfl rfl (by decide))
  refine (oparse_any _ 7 7 [128, 0, 0, 0, 1, 0, 0] _ (by exact (K7.out.row _ (.head _)).1) (by decide) (by decide)).mono ?_
  rw [oh_5]
  intro e w7 q7
  obtain ⟨h7, A7, n7, c7, rfl, hp7, hn7, k7⟩ := K7.out.hdr q7
  obtain rfl : 0 = n7 := hn7
  have J7 := Lib.hid k7
  clear q7 hp7 k7 K7 K6
  go_wp2_with (first
    | (with_reducible show wpList _ _ _ (⟨some 12, .alloc _, _, _, _, none⟩ :: _) _ _; refine wpList_allocN ht_head rfl rfl ?_; intro w7a x7 hc2 hb2 hx2; have H2 := Lib.hid (And.intro hc2 (And.intro hb2 hx2)); clear hc2 hb2 hx2)
    | (refine wpList_stH ht_head rfl (.tmp 12) (.tmp 41) rfl x7 rfl h7 zeroH rfl (by exact H2.out.1) ?_; intro w8 hc3 ho3 hs3; have K8 := Lib.hid (J7.out.var H2.out.2.1 H2.out.2.2 hc3 ho3); clear hc3 ho3 hs3 H2 J7))
  have HR1 : Hid (RB w8 w8.heap.size A1 17 [193, 0, 0, 0, 0, 1, 8, 1, 7, 0, 0, 0, 1, 0, 0, 1, 2] ∧ 17 ≤ c1 ∧ c1 ≤ maxLen) := Lib.hid (K8.out.row _ (.tail _ (.tail _ (.tail _ (.tail _ (.head _))))))
  refine (al_same _ _ _ _ _ _ [193, 0, 0, 0, 0, 1, 8, 1, 7, 0, 0, 0, 1, 0, 0, 1, 2] [193, 0, 0, 0, 0, 1, 8, 1, 7, 0, 0, 0, 1, 0, 0, 1, 2] _ (by exact HR1.out.1) (by exact (K8.out.row _ (.tail _ (.tail _ (.tail _ (.head _))))).1) (by decide) (by decide) true rfl).mono ?_
  rintro e w9 ⟨rfl, hb⟩
  have K9 := Lib.hid (K8.out.step hb)
  have HR2 := Lib.hid (HR1.out.1.step hb)
  have m2 := (K9.out.box (37, x2, h2) (by simp)).c2
  rw [HP2.out.2.2.1] at m2
  clear hb K8
  go_wp2_with fail
  clear m2
  have ka := K9.out.hd h2 (by simp)
  have kr := ka.a
  have kc := ka.ca
  rw [HP2.out.2.2.1] at kr kc
  have K10 := Lib.hid ((K9.out.add (A := h2.A) (n := 1) (c := h2.c) (l := [8]) kr kc.1 kc.2).lit [8] _ 1 rfl rfl (by decide))
  clear ka kr kc K9
  refine (al_same _ _ _ _ _ _ [8] [8] _ (by exact (K10.out.row _ (.tail _ (.head _))).1) (by exact (K10.out.row _ (.head _)).1) (by decide) (by decide) true rfl).mono ?_
  rintro e w11 ⟨rfl, hb⟩
  have K11 := Lib.hid (K10.out.step hb)
  have HR3 : Hid (RB w11 w11.heap.size A1 17 [193, 0, 0, 0, 0, 1, 8, 1, 7, 0, 0, 0, 1, 0, 0, 1, 2]) := Lib.hid ((HR2.out.step (below_alloc _ _)).step hb)
  clear hb K10 HR2
  obtain ⟨b, o, hA2, -, x, hx, -, hcl⟩ := (K11.out.vl (A2, 2, c2, [1, 258]) (by simp)).1.at_ (k := 1) (show (1 : Nat) < 2 by decide)
  obtain rfl : 258 = x := by simpa using hx
  have hA2' : A2 = some ⟨b, o, none⟩ := hA2
  have hcl' : w11.cell? ⟨b, o + 1, none⟩ = some (.int .u32 258) := hcl
  subst hA2'
  clear hA2 hx hcl
  go_wp2_with fail
  refine (ohas_lit A1 17 c1 [193, 0, 0, 0, 0, 1, 8, 1, 7, 0, 0, 0, 1, 0, 0, 1, 2] 1 _ rfl _ (by exact HR3.out) (by exact HR1.out.2) (by decide) (by decide) true oh_6).mono ?_
  rintro e w12 ⟨rfl, hb⟩
  have K12 := Lib.hid (K11.out.step hb)
  have HR4 := Lib.hid (HR3.out.step hb)
  clear hb K11 HR3 hcl'
  go_wp2_with fail
  refine (ohas_lit A1 17 c1 [193, 0, 0, 0, 0, 1, 8, 1, 7, 0, 0, 0, 1, 0, 0, 1, 2] 2 _ rfl _ (by exact HR4.out) (by exact HR1.out.2) (by decide) (by decide) false oh_7).mono ?_
  rintro e w13 ⟨rfl, hb⟩
  have K13 := Lib.hid (K12.out.step hb)
  clear hb K12 HR4
  go_wp2_with fail
  go_ret
  exact ⟨rfl, K13.out.bel⟩
end Go.Proofs.Ytppopdjfecabfaa
