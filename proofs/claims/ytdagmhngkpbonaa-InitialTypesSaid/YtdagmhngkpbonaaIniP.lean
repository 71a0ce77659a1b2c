/- Layer 11's Parse, of any bytes. Condition: at most a million bytes. -/
import Derived.Test.YtdagmhngkpbonaaIniC
namespace Go.Proofs.Ytdagmhngkpbonaa
open Go.RowKit
set_option linter.unusedVariables false
set_option linter.unusedSimpArgs false

/-- A header laid into an Initial. -/
def inOf (h : Hd) : In := ⟨h, none, 0, [], none, 0, []⟩
theorem wpList_bldI1 {w : World} {ops : Array Oper} {rest : List Oper} {o : Oper} {a : Act} {Q : Exit → Act → World → Prop} (hgd : o.guard = none) (x : Operand) (hop : o.op = .build 29 #[(0, x)]) (h : Hd) (hx : a.eval x = h.val)
    (i : In) (hi : i = inOf h) (hk : wpList Try.prog ops Q rest (a.put o.dst i.val) w) : wpList Try.prog ops Q (o :: rest) a w := by
  subst hi
  refine wpList_plain hgd fun K hK => ?_
  have hr := bld_ini1 h w
  unfold Oper.wp execOp
  simp only [hop, List.map_toArray, List.map_cons, List.map_nil, hx, Sem.run_bind, hr, Result.andThen_ok]
  exact hK _ _ hk
/-- What Parse carries: the result's variable q, the header, what is behind it. -/
structure IP (v : World) (q : Nat) (h : Hd) (A : Option Addr) (n c : Nat) (l : List UInt8) (w : World) : Prop where
  bel : Below v.heap.size v w
  lq : v.heap.size ≤ q
  hq : Ic 29 w q zeroI
  own : h.own w v.heap.size
  r : OwnB w v.heap.size A n c l
/-- .. the reader x, the Initial's variable p. -/
structure IK (v : World) (q p x : Nat) (i : In) (s : Int × List UInt8) (w : World) : Prop where
  bel : Below v.heap.size v w
  lq : v.heap.size ≤ q
  lp : v.heap.size ≤ p
  lx : v.heap.size ≤ x
  qp : q ≠ p
  hq : Ic 29 w q zeroI
  hp : Ic 29 w p i
  rd : RdR w x s
  own : i.own w v.heap.size
theorem Blk.ne2 {T T' : TypeId} {w : World} {x y : Nat} {cs : List Value} {a b : Value} (k : Blk T w x cs) (t : Two T' w y a b) (hT : T ≠ T') : x ≠ y := fun e => by
  subst e
  have e := (show w.heap[x]? = _ from k).symm.trans t
  injection e with e
  injection e with _ e
  exact hT e
section
variable {v w w' w2 w3 : World} {q p x n c : Nat} {h : Hd} {i i' : In} {s s' : Int × List UInt8} {A : Option Addr} {l : List UInt8}
theorem IP.step (k : IP v q h A n c l w) (hb : Below w.heap.size w w') : IP v q h A n c l w' := ⟨bel_next k.bel hb, k.lq, k.hq.step hb, k.own.step hb, k.r.below hb⟩
theorem IP.var (k : IP v q h A n c l w) (hb : Below w.heap.size w w2) (hx : w.heap.size ≤ x) (ho : Oth [x] w2 w3) : IP v q h A n c l w3 := k.step (hb.trans (ho.below (fun j hj => by rw [List.mem_singleton.1 hj]; exact hx) hb.size))
theorem IK.qx (k : IK v q p x i s w) : q ≠ x := by obtain ⟨A, n, c, t, _⟩ := k.rd; exact k.hq.blk.ne2 t (by decide)
theorem IK.px (k : IK v q p x i s w) : p ≠ x := by obtain ⟨A, n, c, t, _⟩ := k.rd; exact k.hp.blk.ne2 t (by decide)
theorem IK.call (k : IK v q p x i s w) (ho : Oth [x] w w') (hr : RdR w' x s') : IK v q p x i s' w' :=
  ⟨k.bel.trans (ho.below (fun j hj => by rw [List.mem_singleton.1 hj]; exact k.lx) k.bel.size), k.lq, k.lp, k.lx, k.qp, k.hq.oth ho (by simpa using k.qx), k.hp.oth ho (by simpa using k.px), hr, k.own.off ho k.rd.nob⟩
theorem IK.put (k : IK v q p x i s w) (j : Nat) (u : Value) (hh : Ic 29 (w.setCell ⟨p, j, none⟩ u) p i') (ho : In.own (w.setCell ⟨p, j, none⟩ u) v.heap.size i') : IK v q p x i' s (w.setCell ⟨p, j, none⟩ u) := by
  have hO : Oth [p] w (w.setCell ⟨p, j, none⟩ u) := (Oth.refl [p] w).set (x := p) (by simp) j u
  exact ⟨k.bel.trans (hO.below (fun j hj => by rw [List.mem_singleton.1 hj]; exact k.lp) k.bel.size), k.lq, k.lp, k.lx, k.qp, k.hq.oth hO (by simpa using k.qp), hh, k.rd.off hO (by simpa using k.px.symm) (k.hp.blk.nob (by decide)), ho⟩
theorem IK.offs (k : IK v q p x i s w) (j : Nat) (u : Value) : Oth [p] w (w.setCell ⟨p, j, none⟩ u) ∧ NoB [p] w := ⟨(Oth.refl [p] w).set (x := p) (by simp) j u, k.hp.blk.nob (by decide)⟩
theorem IK.put4 (k : IK v q p x i s w) (r : OwnB w v.heap.size A n c l) : IK v q p x { i with T := A, e := c, t := l } s (w.setCell ⟨p, 4, none⟩ (.slice A n c)) := by
  have hl := r.len
  subst hl
  have ⟨hO, hN⟩ := k.offs 4 (.slice A l.length c)
  exact k.put 4 _ (k.hp.set4 A c l) ⟨k.own.h.off hO hN, r.offS hO hN, k.own.r.offS hO hN⟩
theorem IK.put5 (k : IK v q p x i s w) (r : OwnB w v.heap.size A n c l) : IK v q p x { i with R := A, g := c, r := l } s (w.setCell ⟨p, 5, none⟩ (.slice A n c)) := by
  have hl := r.len
  subst hl
  have ⟨hO, hN⟩ := k.offs 5 (.slice A l.length c)
  exact k.put 5 _ (k.hp.set5 A c l) ⟨k.own.h.off hO hN, k.own.t.offS hO hN, r.offS hO hN⟩
end
/-- As RetIn, and token and rest lie in unlike blocks. -/
def RetInD (r : IPl × Int) (w : World) (e : Ending) (w' : World) : Prop :=
  ∃ i : In, e = .returned (.tuple #[i.val, .int .i64 r.2]) ∧ i.pl = r.1 ∧ i.own w' w.heap.size ∧ Below w.heap.size w w' ∧ ∀ g ∈ blkO i.T, g ∉ blkO i.R
theorem zero_apart : ∀ g ∈ blkO zeroI.T, g ∉ blkO zeroI.R := fun g hg => absurd hg (by show g ∉ ([] : List Nat); simp)
attribute [local irreducible] prs longS restS chk
set_option maxRecDepth 100000 in
set_option maxHeartbeats 2000000 in
theorem iparse_own (A : Option Addr) (n c : Nat) (l : List UInt8) (w : World) (hr0 : RB w w.heap.size A n l) (hn : n ≤ 1000000) :
    Calls Try.prog 8 #[.slice A n c] w (RetInD (iprs l) w) := by
  have H0 := Lib.hid hr0
  clear hr0
  obtain ⟨r, HR⟩ : ∃ r, Hid (r = prs l) := ⟨_, Lib.hid rfl⟩
  obtain ⟨X, HX⟩ : ∃ X, Hid (X = iprs l) := ⟨_, Lib.hid rfl⟩
  rw [← HX.out]
  unfold iprs at HX
  rw [← HR.out] at HX
  go_enter Try.func8, Try.ntmps8
  go_wp2_with (first
    | (with_reducible show wpList _ _ _ (⟨some 2, .alloc _, _, _, _, none⟩ :: _) _ _; refine wpList_newI rt_ini rfl rfl ?_; intro w1 q hc1 hb1 hx1; have H1 := Lib.hid (And.intro hc1 (And.intro hb1 hx1)); clear hc1 hb1 hx1))
  refine (parse_any A n c l _ (by exact H0.out.step H1.out.2.1) hn).mono ?_
  rw [← HR.out]
  rintro e w2 ⟨h, A2, n2, c2, rfl, hp, ho, hr, hb⟩
  have HP := Lib.hid hp
  have K2 : Hid (IP w q h A2 n2 c2 r.2.1 w2) := Lib.hid ⟨bel_next H1.out.2.1 hb, H1.out.2.2, H1.out.1.step hb, ho.base_le H1.out.2.1.size, hr.base_le H1.out.2.1.size⟩
  clear hp ho hr hb H1
  by_cases he : r.2.2 = 0
  rotate_left
  · have hb : (r.2.2 != 0) = true := by simpa using he
    have HE : Hid (X = (zeroIP, r.2.2)) := Lib.hid (by rw [HX.out, if_pos he])
    go_wp2_with (first
      | (with_reducible show wpList _ _ _ (⟨some 4, .alloc _, _, _, _, none⟩ :: _) _ _; refine wpList_allocN ht_head rfl rfl ?_; intro w3 y hc2 hb2 hx2; have H2 := Lib.hid (And.intro hc2 (And.intro hb2 hx2)); clear hc2 hb2 hx2)
      | (refine wpList_stH ht_head rfl (.tmp 4) (.tmp 14) rfl y rfl h zeroH rfl (by exact H2.out.1) ?_; intro w4 hc3 ho3 hs3; have K4 := Lib.hid (K2.out.var H2.out.2.1 H2.out.2.2 ho3); clear hc3 ho3 hs3 H2 K2)
      | (refine wpList_stI rt_ini rfl (.tmp 2) (.tmp 19) rfl q rfl zeroI zeroI rfl (by exact K4.out.hq) ?_; intro w5 hc5 ho5 hs5; have H5 := Lib.hid (And.intro hc5 ho5); clear hc5 ho5 hs5))
    rw [HE.out]
    exact bodyPost_ret (v := .tuple #[zeroI.val, .int .i64 r.2.2]) (res_rec2 rt_ini rfl _ _ q zeroI.cells _ rfl rfl H5.out.1 rfl) rfl ⟨zeroI, rfl, rfl, In.own.zero _ _, K4.out.bel.trans (H5.out.2.below (fun j hj => by rw [List.mem_singleton.1 hj]; exact K4.out.lq) K4.out.bel.size), zero_apart⟩
  have hb : (r.2.2 != 0) = false := by rw [he]; rfl
  obtain ⟨i, HI⟩ : ∃ i, Hid (i = inOf h) := ⟨_, Lib.hid rfl⟩
  go_wp2_with (first
    | (with_reducible show wpList _ _ _ (⟨some 4, .alloc _, _, _, _, none⟩ :: _) _ _; refine wpList_allocN ht_head rfl rfl ?_; intro w3 y hc2 hb2 hx2; have H2 := Lib.hid (And.intro hc2 (And.intro hb2 hx2)); clear hc2 hb2 hx2)
    | (refine wpList_stH ht_head rfl (.tmp 4) (.tmp 14) rfl y rfl h zeroH rfl (by exact H2.out.1) ?_; intro w4 hc3 ho3 hs3; have K4 := Lib.hid (K2.out.var H2.out.2.1 H2.out.2.2 ho3); have H3 := Lib.hid hc3; clear hc3 ho3 hs3 H2 K2)
    | (refine wpList_ldH ht_head rfl (.tmp 4) rfl y rfl h (by exact H3.out) ?_)
    | (refine wpList_bldI1 rfl (.tmp 21) rfl h rfl i HI.out ?_)
    | (with_reducible show wpList _ _ _ (⟨some 7, .alloc _, _, _, _, none⟩ :: _) _ _; refine wpList_newI rt_ini rfl rfl ?_; intro w5 p hc2 hb2 hx2; have H5 := Lib.hid (And.intro hc2 (And.intro hb2 hx2)); clear hc2 hb2 hx2)
    | (refine wpList_stI rt_ini rfl (.tmp 7) (.tmp 22) rfl p rfl i zeroI rfl (by exact H5.out.1) ?_; intro w6 hc3 ho3 hs3; have K6 := Lib.hid (And.intro (K4.out.var H5.out.2.1 H5.out.2.2 ho3) (And.intro hc3 (And.intro (Nat.lt_of_lt_of_le K4.out.hq.blk.lt H5.out.2.2) (Nat.le_trans K4.out.bel.size H5.out.2.2)))); clear hc3 ho3 hs3 H5 K4 H3)
    | (refine wpList_ldI rt_ini rfl (.tmp 7) rfl p rfl i (by exact K6.out.2.1) ?_))
  have hch : chk i.h.pl = chk r.1 := by rw [HI.out]; show chk h.pl = _; rw [HP.out]
  refine (chk_any i _).mono ?_
  rw [hch]
  rintro e w7 ⟨rfl, hb7⟩
  have K7 := Lib.hid (And.intro (K6.out.1.step hb7) (And.intro (K6.out.2.1.step hb7) K6.out.2.2))
  clear hb7 K6 hch
  obtain ⟨k, HK⟩ : ∃ k, Hid (k = chk r.1) := ⟨_, Lib.hid rfl⟩
  rw [← HK.out] at HX ⊢
  by_cases hk : k = 0
  rotate_left
  · have hb2 : (k != 0) = true := by simpa using hk
    have HE : Hid (X = (zeroIP, k)) := Lib.hid (by rw [HX.out, if_neg (fun k => k he), if_pos hk])
    go_wp2_with (first
      | (refine wpList_stI rt_ini rfl (.tmp 2) (.tmp 27) rfl q rfl zeroI zeroI rfl (by exact K7.out.1.hq) ?_; intro w8 hc5 ho5 hs5; have H5 := Lib.hid (And.intro hc5 ho5); clear hc5 ho5 hs5))
    rw [HE.out]
    exact bodyPost_ret (v := .tuple #[zeroI.val, .int .i64 k]) (res_rec2 rt_ini rfl _ _ q zeroI.cells _ rfl rfl H5.out.1 rfl) rfl ⟨zeroI, rfl, rfl, In.own.zero _ _, K7.out.1.bel.trans (H5.out.2.below (fun j hj => by rw [List.mem_singleton.1 hj]; exact K7.out.1.lq) K7.out.1.bel.size), zero_apart⟩
  have hb2 : (k != 0) = false := by rw [hk]; rfl
  have HX2 : Hid (X = itk r.1 r.2.1) := Lib.hid (by rw [HX.out, if_neg (fun k => k he), if_neg (fun k => k hk)])
  have hlen : r.2.1.length ≤ 1000000 := by
    have h1 := (prs_back (l := l) (by rw [← HR.out]; exact he)).2
    rw [← HR.out] at h1
    have h2 := congrArg List.length h1
    rw [List.length_append, H0.out.len] at h2
    omega
  have hn2 : n2 ≤ 1000000 := by rw [← K7.out.1.r.len]; exact hlen
  go_wp2_with fail
  refine (read_any A2 n2 c2 r.2.1 _ (by exact K7.out.1.r.rb) hn2).mono ?_
  rintro e w8 ⟨x, rfl, hx, hb8, hrd⟩
  have K8 : Hid (IK w q p x i (0, r.2.1) w8) := Lib.hid ⟨bel_next K7.out.1.bel hb8, K7.out.1.lq, K7.out.2.2.2, Nat.le_trans K7.out.1.bel.size hx, Nat.ne_of_lt K7.out.2.2.1, K7.out.1.hq.step hb8, K7.out.2.1.step hb8, hrd, by rw [HI.out]; exact ⟨(K7.out.1.step hb8).own, OwnB.nil_ _ _, OwnB.nil_ _ _⟩⟩
  clear hx hb8 hrd K7 hlen hn2
  go_wp2_with fail
  obtain ⟨s, HS⟩ : ∃ s, Hid (s = longS (0, r.2.1)) := ⟨_, Lib.hid rfl⟩
  refine (rlong_any x _ _ K8.out.rd).mono ?_
  rw [← HS.out]
  rintro e w9 ⟨A9, n9, c9, rfl, ho1, ho, hr⟩
  have K9 := Lib.hid (K8.out.call ho hr)
  have O9 := Lib.hid (ho1.base_le K8.out.bel.size)
  have c0 := K9.out.hp.c4
  have f0 := K9.out.hp.blk.free 4
  clear ho hr ho1 K8
  go_wp2_with fail
  have K10 := Lib.hid (K9.out.put4 O9.out)
  clear c0 f0 K9 O9
  obtain ⟨w10, HW10⟩ : ∃ w10, Hid (w9.setCell ⟨p, 4, none⟩ (.slice A9 n9 c9) = w10) := ⟨_, Lib.hid rfl⟩
  rw [HW10.out] at K10 ⊢
  refine (err_any x _ _ K10.out.rd).mono ?_
  rintro e w11 ⟨rfl, rfl⟩
  have HL := Lib.hid (long_tok r.2.1)
  rcases ht : tokL r.2.1 with _ | ⟨t, u⟩
  · have hs : s.2.1 = 12 := by rw [HS.out, HL.out, ht]
    have HE : Hid (X = (zeroIP, 12)) := Lib.hid (by rw [HX2.out]; unfold itk; rw [ht])
    rw [hs]
    go_wp2_with (first
      | (refine wpList_stI rt_ini rfl (.tmp 2) (.tmp 38) rfl q rfl zeroI zeroI rfl (by exact K10.out.hq) ?_; intro w12 hc5 ho5 hs5; have H5 := Lib.hid (And.intro hc5 ho5); clear hc5 ho5 hs5))
    rw [HE.out]
    exact bodyPost_ret (v := .tuple #[zeroI.val, .int .i64 12]) (res_rec2 rt_ini rfl _ _ q zeroI.cells _ rfl rfl H5.out.1 rfl) rfl ⟨zeroI, rfl, rfl, In.own.zero _ _, K10.out.bel.trans (H5.out.2.below (fun j hj => by rw [List.mem_singleton.1 hj]; exact K10.out.lq) K10.out.bel.size), zero_apart⟩
  · have hs0 : s = (t, 0, u) := by rw [HS.out, HL.out, ht]
    have HE : Hid (X = ((r.1, t, u), 0)) := Lib.hid (by rw [HX2.out]; unfold itk; rw [ht])
    clear ht
    subst hs0
    go_wp2_with fail
    refine (rrest_any x _ _ K10.out.rd).mono ?_
    rw [rest_0 u]
    rintro e w12 ⟨A12, n12, c12, rfl, ho1, ho, hr⟩
    have K12 := Lib.hid (K10.out.call ho hr)
    have HD : Hid (∀ g ∈ blkO A9, g ∉ blkO A12) := Lib.hid (fun g h1 h2 => by
      obtain ⟨a, ea, hk1⟩ := mem_blkO h1
      obtain ⟨b, eb, hk2⟩ := mem_blkO h2
      have q1 := (K10.out.own.t.spot a ea).2.2
      have q2 := (ho1.spot b eb).2.1
      omega)
    have O12 := Lib.hid (ho1.base_le K10.out.bel.size)
    have c0 := K12.out.hp.c5
    have f0 := K12.out.hp.blk.free 5
    clear ho hr ho1 K10
    obtain ⟨j, HJ⟩ : ∃ j, Hid (IK w q p x j (0, []) (w12.setCell ⟨p, 5, none⟩ (.slice A12 n12 c12)) ∧ j.pl = (r.1, t, u) ∧ ∀ g ∈ blkO j.T, g ∉ blkO j.R) := ⟨_, Lib.hid ⟨K12.out.put5 O12.out, by rw [HI.out]; show (h.pl, t, u) = _; rw [HP.out], HD.out⟩⟩
    go_wp2_with (first
      | (refine wpList_ldI rt_ini rfl (.tmp 7) rfl p rfl j (by exact HJ.out.1.hp) ?_)
      | (refine wpList_stI rt_ini rfl (.tmp 2) (.tmp 43) rfl q rfl j zeroI rfl (by exact HJ.out.1.hq) ?_; intro w13 hc5 ho5 hs5; have H5 := Lib.hid (And.intro hc5 ho5); clear hc5 ho5 hs5))
    rw [HE.out]
    exact bodyPost_ret (v := .tuple #[j.val, .int .i64 0]) (res_rec2 rt_ini rfl _ _ q j.cells _ rfl rfl H5.out.1 rfl) rfl ⟨j, rfl, HJ.out.2.1, HJ.out.1.own.off H5.out.2 (HJ.out.1.hq.blk.nob (by decide)), HJ.out.1.bel.trans (H5.out.2.below (fun j hj => by rw [List.mem_singleton.1 hj]; exact HJ.out.1.lq) HJ.out.1.bel.size), HJ.out.2.2⟩
theorem iparse_any (A : Option Addr) (n c : Nat) (l : List UInt8) (w : World) (hr0 : RB w w.heap.size A n l) (hn : n ≤ 1000000) :
    Calls Try.prog 8 #[.slice A n c] w (RetIn (iprs l) w) :=
  (iparse_own A n c l w hr0 hn).mono fun e w' ⟨i, h1, h2, h3, h4, _⟩ => ⟨i, h1, h2, h3, h4⟩
end Go.Proofs.Ytdagmhngkpbonaa
