/- Layer 12's Parse. Condition: at most a million bytes. -/
import Derived.Test.YtdkdgcpknephnaaGreatStLa
namespace Go.Proofs.YtdkdgcpknephnaaGreat
open Go.RowKit
set_option linter.unusedVariables false
set_option linter.unusedSimpArgs false
attribute [local go_sem ↓] ex_ldHd ex_stHd ex_ldHr ex_stHr ex_ldS ex_ldSr ex_stS ex_stSr
theorem bld_st1 (h : Hd) (W : World) : (Instr.build 35 #[(0, h.val)]).run Tryz.prog W = .ok (In.val ⟨h, none, 0, [], none, 0, []⟩) W := by
  unfold Hd.val Hd.cells
  go_simp <;> rfl
theorem wpList_bldS1 {w : World} {ops : Array Oper} {rest : List Oper} {o : Oper} {a : Act} {Q : Exit → Act → World → Prop} (hgd : o.guard = none) (x : Operand) (hop : o.op = .build 35 #[(0, x)]) (h : Hd) (hx : a.eval x = h.val)
    (i : In) (hi : i = inOf h) (hk : wpList Tryz.prog ops Q rest (a.put o.dst i.val) w) : wpList Tryz.prog ops Q (o :: rest) a w := by
  subst hi
  refine wpList_plain hgd fun K hK => ?_
  have hr := bld_st1 h w
  unfold Oper.wp execOp
  simp only [hop, List.map_toArray, List.map_cons, List.map_nil, hx, Sem.run_bind, hr, Result.andThen_ok]
  exact hK _ _ hk
/-- What Parse carries: the result's variable q, the header, what is behind it. -/
structure SI (v : World) (q : Nat) (h : Hd) (A : Option Addr) (n c : Nat) (l : List UInt8) (w : World) : Prop where
  bel : Below v.heap.size v w
  lq : v.heap.size ≤ q
  hq : Ic 35 w q zeroI
  own : h.own w v.heap.size
  r : OwnB w v.heap.size A n c l
/-- .. the Retry's variable p. -/
structure SK (v : World) (q p : Nat) (i : In) (A : Option Addr) (n c : Nat) (l : List UInt8) (w : World) : Prop where
  bel : Below v.heap.size v w
  lq : v.heap.size ≤ q
  lp : v.heap.size ≤ p
  qp : q ≠ p
  hq : Ic 35 w q zeroI
  hp : Ic 35 w p i
  own : i.own w v.heap.size
  r : OwnB w v.heap.size A n c l
section
variable {v w w' w2 w3 : World} {q p x n c m d : Nat} {h : Hd} {i i' : In} {A B : Option Addr} {l l' : List UInt8}
theorem SI.step (k : SI v q h A n c l w) (hb : Below w.heap.size w w') : SI v q h A n c l w' := ⟨bel_next k.bel hb, k.lq, k.hq.step hb, k.own.step hb, k.r.below hb⟩
theorem SI.var (k : SI v q h A n c l w) (hb : Below w.heap.size w w2) (hx : w.heap.size ≤ x) (ho : Oth [x] w2 w3) : SI v q h A n c l w3 := k.step (hb.trans (ho.below (fun j hj => by rw [List.mem_singleton.1 hj]; exact hx) hb.size))
theorem SK.step (k : SK v q p i A n c l w) (hb : Below w.heap.size w w') : SK v q p i A n c l w' := ⟨bel_next k.bel hb, k.lq, k.lp, k.qp, k.hq.step hb, k.hp.step hb, k.own.step hb, k.r.below hb⟩
theorem SK.put (k : SK v q p i A n c l w) (j : Nat) (u : Value) (hh : Ic 35 (w.setCell ⟨p, j, none⟩ u) p i') (ho : In.own (w.setCell ⟨p, j, none⟩ u) v.heap.size i') : SK v q p i' A n c l (w.setCell ⟨p, j, none⟩ u) := by
  have hO : Oth [p] w (w.setCell ⟨p, j, none⟩ u) := (Oth.refl [p] w).set (x := p) (by simp) j u
  exact ⟨k.bel.trans (hO.below (fun j hj => by rw [List.mem_singleton.1 hj]; exact k.lp) k.bel.size), k.lq, k.lp, k.qp, k.hq.oth hO (by simpa using k.qp), hh, ho, k.r.offS hO (k.hp.blk.nob (by decide))⟩
theorem SK.offs (k : SK v q p i A n c l w) (j : Nat) (u : Value) : Oth [p] w (w.setCell ⟨p, j, none⟩ u) ∧ NoB [p] w := ⟨(Oth.refl [p] w).set (x := p) (by simp) j u, k.hp.blk.nob (by decide)⟩
theorem SK.put4 (k : SK v q p i A n c l w) (r : OwnB w v.heap.size B m d l') : SK v q p { i with T := B, e := d, t := l' } A n c l (w.setCell ⟨p, 4, none⟩ (.slice B m d)) := by
  have hl := r.len
  subst hl
  have ⟨hO, hN⟩ := k.offs 4 (.slice B l'.length d)
  exact k.put 4 _ (k.hp.set4 B d l') ⟨k.own.h.off hO hN, r.offS hO hN, k.own.r.offS hO hN⟩
theorem SK.put5 (k : SK v q p i A n c l w) (r : OwnB w v.heap.size B m d l') : SK v q p { i with R := B, g := d, r := l' } A n c l (w.setCell ⟨p, 5, none⟩ (.slice B m d)) := by
  have hl := r.len
  subst hl
  have ⟨hO, hN⟩ := k.offs 5 (.slice B l'.length d)
  exact k.put 5 _ (k.hp.set5 B d l') ⟨k.own.h.off hO hN, k.own.t.offS hO hN, r.offS hO hN⟩
end
attribute [local irreducible] prs schk typ
set_option maxRecDepth 100000 in
set_option maxHeartbeats 4000000 in
theorem sparse_any (A : Option Addr) (n c : Nat) (l : List UInt8) (w : World) (hr0 : RB w w.heap.size A n l) (hc0 : n ≤ c ∧ c ≤ maxLen) (hn : n ≤ 1000000) :
    Calls Tryz.prog 14 #[.slice A n c] w (RetIn (sprs l) w) := by
  have H0 := Lib.hid hr0
  have HC0 := Lib.hid hc0
  clear hr0 hc0
  obtain ⟨r, HR⟩ : ∃ r, Hid (r = prs l) := ⟨_, Lib.hid rfl⟩
  obtain ⟨X, HX⟩ : ∃ X, Hid (X = sprs l) := ⟨_, Lib.hid rfl⟩
  rw [← HX.out]
  unfold sprs at HX
  rw [← HR.out] at HX
  have HSC := Lib.hid (schk_cases r.1)
  go_enter Tryz.func14, Tryz.ntmps14
  go_wp2_with (first
    | (with_reducible show wpList _ _ _ (⟨some 2, .alloc _, _, _, _, none⟩ :: _) _ _; refine wpList_newI rt_st rfl rfl ?_; intro w1 q hc1 hb1 hx1; have H1 := Lib.hid (And.intro hc1 (And.intro hb1 hx1)); clear hc1 hb1 hx1))
  refine (parse_any A n c l _ (by exact H0.out.step H1.out.2.1) hn).mono ?_
  rw [← HR.out]
  rintro e w2 ⟨h, A2, n2, c2, rfl, hp, ho, hr, hb⟩
  have HP := Lib.hid hp
  have K2 : Hid (SI w q h A2 n2 c2 r.2.1 w2) := Lib.hid ⟨bel_next H1.out.2.1 hb, H1.out.2.2, H1.out.1.step hb, ho.base_le H1.out.2.1.size, hr.base_le H1.out.2.1.size⟩
  clear hp ho hr hb H1
  by_cases he : r.2.2 = 0
  rotate_left
  · have hb' : (r.2.2 != 0) = true := by simpa using he
    have HE : Hid (X = (zeroIP, r.2.2)) := Lib.hid (by rw [HX.out, if_pos he])
    go_wp2_with (first
      | (with_reducible show wpList _ _ _ (⟨some 4, .alloc _, _, _, _, none⟩ :: _) _ _; refine wpList_allocN ht_head rfl rfl ?_; intro w3 y hc2 hb2 hx2; have H2 := Lib.hid (And.intro hc2 (And.intro hb2 hx2)); clear hc2 hb2 hx2)
      | (refine wpList_stH ht_head rfl (.tmp 4) (.tmp 12) rfl y rfl h zeroH rfl (by exact H2.out.1) ?_; intro w4 hc3 ho3 hs3; have K4 := Lib.hid (K2.out.var H2.out.2.1 H2.out.2.2 ho3); clear hc3 ho3 hs3 H2 K2)
      | (refine wpList_stI rt_st rfl (.tmp 2) (.tmp 17) rfl q rfl zeroI zeroI rfl (by exact K4.out.hq) ?_; intro w5 hc5 ho5 hs5; have H5 := Lib.hid (And.intro hc5 ho5); clear hc5 ho5 hs5))
    rw [HE.out]
    exact bodyPost_ret (v := .tuple #[zeroI.val, .int .i64 r.2.2]) (res_rec2 rt_st rfl _ _ q zeroI.cells _ rfl rfl H5.out.1 rfl) rfl ⟨zeroI, rfl, rfl, In.own.zero _ _, K4.out.bel.trans (H5.out.2.below (fun j hj => by rw [List.mem_singleton.1 hj]; exact K4.out.lq) K4.out.bel.size)⟩
  have hb' : (r.2.2 != 0) = false := by rw [he]; rfl
  have hpp : h.f = r.1.1 ∧ h.v = r.1.2.1 ∧ h.a = r.1.2.2.1 ∧ h.b = r.1.2.2.2 := by rw [← HP.out]; exact ⟨rfl, rfl, rfl, rfl⟩
  have ht4 := typ_lt h.f
  obtain ⟨k, HK⟩ : ∃ k, Hid (k = schk r.1) := ⟨_, Lib.hid rfl⟩
  rw [← HK.out] at HX HSC
  rw [← hpp.1, ← hpp.2.1, ← hpp.2.2.1, ← hpp.2.2.2] at HSC
  clear hpp
  have hlen : r.2.1.length ≤ n := by
    have h1 := (prs_back (l := l) (by rw [← HR.out]; exact he)).2
    rw [← HR.out] at h1
    have h2 := congrArg List.length h1
    rw [List.length_append, H0.out.len] at h2
    omega
  have HLN := Lib.hid hlen
  clear hlen
  obtain ⟨i, HI⟩ : ∃ i, Hid (i = inOf h) := ⟨_, Lib.hid rfl⟩
  by_cases hv : h.v = 1
  rotate_left
  · have u1 : ((h.v : Int) == 1) = false := by rw [beq_eq_false_iff_ne]; omega
    have u1' : ((h.v : Int) != 1) = true := by rw [bne, u1]; rfl
    have hk : k = 14 := by rcases HSC.out with h1 | h1 | h1; exact h1.1; exact absurd h1.2.1 hv; exact absurd h1.2.1 hv
    have HE : Hid (X = (zeroIP, 14)) := Lib.hid (by rw [HX.out, if_neg (fun k => k he), if_pos (by rw [hk]; decide), hk])
    clear hv hk
    go_wp2_with (first
      | (with_reducible show wpList _ _ _ (⟨some 4, .alloc _, _, _, _, none⟩ :: _) _ _; refine wpList_allocN ht_head rfl rfl ?_; intro w3 y hc2 hb2 hx2; have H2 := Lib.hid (And.intro hc2 (And.intro hb2 hx2)); clear hc2 hb2 hx2)
      | (refine wpList_stH ht_head rfl (.tmp 4) (.tmp 12) rfl y rfl h zeroH rfl (by exact H2.out.1) ?_; intro w4 hc3 ho3 hs3; have K4 := Lib.hid (K2.out.var H2.out.2.1 H2.out.2.2 ho3); have H3 := Lib.hid hc3; clear hc3 ho3 hs3 H2 K2)
      | (refine wpList_ldH ht_head rfl (.tmp 4) rfl y rfl h (by exact H3.out) ?_)
      | (refine wpList_bldS1 rfl (.tmp 19) rfl h rfl i HI.out ?_)
      | (with_reducible show wpList _ _ _ (⟨some 7, .alloc _, _, _, _, none⟩ :: _) _ _; refine wpList_newI rt_st rfl rfl ?_; intro w5 p hc2 hb2 hx2; have H5 := Lib.hid (And.intro hc2 (And.intro hb2 hx2)); clear hc2 hb2 hx2)
      | (refine wpList_stI rt_st rfl (.tmp 7) (.tmp 20) rfl p rfl i zeroI rfl (by exact H5.out.1) ?_; intro w6 hc3 ho3 hs3; have KV := K4.out.var H5.out.2.1 H5.out.2.2 ho3; have K6 : Hid (SK w q p i A2 n2 c2 r.2.1 w6) := Lib.hid ⟨KV.bel, KV.lq, Nat.le_trans K4.out.bel.size H5.out.2.2, Nat.ne_of_lt (Nat.lt_of_lt_of_le K4.out.hq.blk.lt H5.out.2.2), KV.hq, hc3, by rw [HI.out]; exact ⟨KV.own, OwnB.nil_ _ _, OwnB.nil_ _ _⟩, KV.r⟩; have a0 : w6.cell? ⟨p, 0, none⟩ = some (.int .u8 (h.f.toNat : Int)) := (by have q := K6.out.hp.c0; rw [HI.out] at q; exact q); have a1 : w6.cell? ⟨p, 1, none⟩ = some (.int .u32 (h.v : Int)) := (by have q := K6.out.hp.c1; rw [HI.out] at q; exact q); have a2 : w6.cell? ⟨p, 2, none⟩ = some (.slice h.A h.a.length h.c) := (by have q := K6.out.hp.c2; rw [HI.out] at q; exact q); have a3 : w6.cell? ⟨p, 3, none⟩ = some (.slice h.B h.b.length h.d) := (by have q := K6.out.hp.c3; rw [HI.out] at q; exact q); clear hc3 ho3 hs3 H5 K4 H3 KV)
      | (refine wpList_stI rt_st rfl (.tmp 2) (.tmp 32) rfl q rfl zeroI zeroI rfl (by exact K6.out.hq) ?_; intro w8 hc5 ho5 hs5; have H5 := Lib.hid (And.intro hc5 ho5); clear hc5 ho5 hs5))
    rw [HE.out]
    exact bodyPost_ret (v := .tuple #[zeroI.val, .int .i64 14]) (res_rec2 rt_st rfl _ _ q zeroI.cells _ rfl rfl H5.out.1 rfl) rfl ⟨zeroI, rfl, rfl, In.own.zero _ _, K6.out.bel.trans (H5.out.2.below (fun j hj => by rw [List.mem_singleton.1 hj]; exact K6.out.lq) K6.out.bel.size)⟩
  have u1 : ((h.v : Int) == 1) = true := by rw [beq_iff_eq]; omega
  have u1' : ((h.v : Int) != 1) = false := by rw [bne, u1]; rfl
  go_wp2_with (first
    | (with_reducible show wpList _ _ _ (⟨some 4, .alloc _, _, _, _, none⟩ :: _) _ _; refine wpList_allocN ht_head rfl rfl ?_; intro w3 y hc2 hb2 hx2; have H2 := Lib.hid (And.intro hc2 (And.intro hb2 hx2)); clear hc2 hb2 hx2)
    | (refine wpList_stH ht_head rfl (.tmp 4) (.tmp 12) rfl y rfl h zeroH rfl (by exact H2.out.1) ?_; intro w4 hc3 ho3 hs3; have K4 := Lib.hid (K2.out.var H2.out.2.1 H2.out.2.2 ho3); have H3 := Lib.hid hc3; clear hc3 ho3 hs3 H2 K2)
    | (refine wpList_ldH ht_head rfl (.tmp 4) rfl y rfl h (by exact H3.out) ?_)
    | (refine wpList_bldS1 rfl (.tmp 19) rfl h rfl i HI.out ?_)
    | (with_reducible show wpList _ _ _ (⟨some 7, .alloc _, _, _, _, none⟩ :: _) _ _; refine wpList_newI rt_st rfl rfl ?_; intro w5 p hc2 hb2 hx2; have H5 := Lib.hid (And.intro hc2 (And.intro hb2 hx2)); clear hc2 hb2 hx2)
    | (refine wpList_stI rt_st rfl (.tmp 7) (.tmp 20) rfl p rfl i zeroI rfl (by exact H5.out.1) ?_; intro w6 hc3 ho3 hs3; have KV := K4.out.var H5.out.2.1 H5.out.2.2 ho3; have K6 : Hid (SK w q p i A2 n2 c2 r.2.1 w6) := Lib.hid ⟨KV.bel, KV.lq, Nat.le_trans K4.out.bel.size H5.out.2.2, Nat.ne_of_lt (Nat.lt_of_lt_of_le K4.out.hq.blk.lt H5.out.2.2), KV.hq, hc3, by rw [HI.out]; exact ⟨KV.own, OwnB.nil_ _ _, OwnB.nil_ _ _⟩, KV.r⟩; have a0 : w6.cell? ⟨p, 0, none⟩ = some (.int .u8 (h.f.toNat : Int)) := (by have q := K6.out.hp.c0; rw [HI.out] at q; exact q); have a1 : w6.cell? ⟨p, 1, none⟩ = some (.int .u32 (h.v : Int)) := (by have q := K6.out.hp.c1; rw [HI.out] at q; exact q); have a2 : w6.cell? ⟨p, 2, none⟩ = some (.slice h.A h.a.length h.c) := (by have q := K6.out.hp.c2; rw [HI.out] at q; exact q); have a3 : w6.cell? ⟨p, 3, none⟩ = some (.slice h.B h.b.length h.d) := (by have q := K6.out.hp.c3; rw [HI.out] at q; exact q); clear hc3 ho3 hs3 H5 K4 H3 KV))
  refine (typ_any h.f _).mono ?_
  rintro e wt ⟨rfl, rfl⟩
  by_cases hty : typ h.f = 3
  rotate_left
  · have u2 : ((typ h.f : Int) == 3) = false := by rw [beq_eq_false_iff_ne]; omega
    have u2' : ((typ h.f : Int) != 3) = true := by rw [bne, u2]; rfl
    have hk : k = 14 := by rcases HSC.out with h1 | h1 | h1; exact h1.1; exact absurd h1.2.2.1 hty; exact absurd h1.2.2.1 hty
    have HE : Hid (X = (zeroIP, 14)) := Lib.hid (by rw [HX.out, if_neg (fun k => k he), if_pos (by rw [hk]; decide), hk])
    clear hv hk hty
    go_wp2_with (first
      | (refine wpList_stI rt_st rfl (.tmp 2) (.tmp 32) rfl q rfl zeroI zeroI rfl (by exact K6.out.hq) ?_; intro w8 hc5 ho5 hs5; have H5 := Lib.hid (And.intro hc5 ho5); clear hc5 ho5 hs5))
    rw [HE.out]
    exact bodyPost_ret (v := .tuple #[zeroI.val, .int .i64 14]) (res_rec2 rt_st rfl _ _ q zeroI.cells _ rfl rfl H5.out.1 rfl) rfl ⟨zeroI, rfl, rfl, In.own.zero _ _, K6.out.bel.trans (H5.out.2.below (fun j hj => by rw [List.mem_singleton.1 hj]; exact K6.out.lq) K6.out.bel.size)⟩
  have u2 : ((typ h.f : Int) == 3) = true := by rw [beq_iff_eq]; omega
  have u2' : ((typ h.f : Int) != 3) = false := by rw [bne, u2]; rfl
  go_wp2_with fail
  obtain ⟨v, HV⟩ : ∃ v, Hid ((decide (20 < h.a.length) || decide (20 < h.b.length)) = v) := ⟨_, Lib.hid rfl⟩
  refine (stl2 _ h.A h.B h.a.length h.b.length h.c h.d h.a h.b (by have q := K6.out.own.h.a.rb; rw [HI.out] at q; exact q) (by have q := K6.out.own.h.b.rb; rw [HI.out] at q; exact q) v HV.out).mono ?_
  rintro e w7 ⟨rfl, hb7⟩
  have K7 := Lib.hid (K6.out.step hb7)
  clear hb7 a0 a1 a2 a3 K6
  by_cases hk : k = 0
  rotate_left
  · obtain ⟨hk15, hids⟩ : k = 15 ∧ (20 < h.a.length ∨ 20 < h.b.length) := by
      rcases HSC.out with h1 | h1 | h1
      · rcases h1.2 with h2 | h2; exact absurd hv h2; exact absurd hty h2
      · exact ⟨h1.1, h1.2.2.2⟩
      · exact absurd h1.1 hk
    have HE : Hid (X = (zeroIP, 15)) := Lib.hid (by rw [HX.out, if_neg (fun k => k he), if_pos hk, hk15])
    have hvt : v = true := by rw [← HV.out]; simpa using hids
    subst hvt
    clear hv hty hk hk15 hids
    go_wp2_with (first
      | (refine wpList_stI rt_st rfl (.tmp 2) (.tmp 41) rfl q rfl zeroI zeroI rfl (by exact K7.out.hq) ?_; intro w8 hc5 ho5 hs5; have H5 := Lib.hid (And.intro hc5 ho5); clear hc5 ho5 hs5))
    rw [HE.out]
    exact bodyPost_ret (v := .tuple #[zeroI.val, .int .i64 15]) (res_rec2 rt_st rfl _ _ q zeroI.cells _ rfl rfl H5.out.1 rfl) rfl ⟨zeroI, rfl, rfl, In.own.zero _ _, K7.out.bel.trans (H5.out.2.below (fun j hj => by rw [List.mem_singleton.1 hj]; exact K7.out.lq) K7.out.bel.size)⟩
  obtain ⟨ha, hb⟩ : h.a.length ≤ 20 ∧ h.b.length ≤ 20 := by
    rcases HSC.out with h1 | h1 | h1
    · exact absurd (hk.symm.trans h1.1) (by decide)
    · exact absurd (hk.symm.trans h1.1) (by decide)
    · exact h1.2.2.2
  have hvf : v = false := by rw [← HV.out, decide_eq_false (by omega), decide_eq_false (by omega)]; rfl
  subst hvf
  have HX2 : Hid (X = if r.2.1.length < 17 then (zeroIP, 12) else ((r.1, r.2.1.take (r.2.1.length - 16), r.2.1.drop (r.2.1.length - 16)), 0)) := Lib.hid (by rw [HX.out, if_neg (fun k => k he), if_neg (fun h => h hk)])
  have HL2 := Lib.hid K7.out.r.len
  rw [HL2.out] at HX2 HLN
  have hcc := K7.out.r.cap
  clear hv hty hk ha hb he
  have hn2 : n2 ≤ 1000000 := by have := HLN.out; omega
  by_cases h17 : n2 < 17
  · have u5 : decide ((n2 : Int) - 16 < 1) = true := decide_eq_true (by omega)
    have HE : Hid (X = (zeroIP, 12)) := Lib.hid (by rw [HX2.out, if_pos h17])
    clear hcc
    go_wp2_with (first
      | (refine wpList_stI rt_st rfl (.tmp 2) (.tmp 47) rfl q rfl zeroI zeroI rfl (by exact K7.out.hq) ?_; intro w8 hc5 ho5 hs5; have H5 := Lib.hid (And.intro hc5 ho5); clear hc5 ho5 hs5))
    rw [HE.out]
    exact bodyPost_ret (v := .tuple #[zeroI.val, .int .i64 12]) (res_rec2 rt_st rfl _ _ q zeroI.cells _ rfl rfl H5.out.1 rfl) rfl ⟨zeroI, rfl, rfl, In.own.zero _ _, K7.out.bel.trans (H5.out.2.below (fun j hj => by rw [List.mem_singleton.1 hj]; exact K7.out.lq) K7.out.bel.size)⟩
  obtain ⟨N, hN⟩ : ∃ N, n2 = N + 16 := ⟨n2 - 16, by omega⟩
  have hsub : (n2 : Int) - 16 = (N : Int) := by omega
  have u5 : decide ((N : Int) < 1) = false := decide_eq_false (by omega)
  have hcut2 := cut_h A2 n2 c2 N (by omega)
  have hcut3 := cut_l A2 n2 c2 N (by omega)
  have HE : Hid (X = ((r.1, r.2.1.take N, r.2.1.drop N), 0)) := Lib.hid (by rw [HX2.out, if_neg h17, hN, Nat.add_sub_cancel])
  have HN := Lib.hid hN
  have hd : n2 - N = 16 := by omega
  rw [hd] at hcut3
  have HCC := Lib.hid hcc
  clear hN h17 hcc hd
  have HB : Hid (∀ W : World, OwnB W w.heap.size A2 n2 c2 r.2.1 → RB W W.heap.size (cutA A2 c2 0) N (r.2.1.take N) ∧ RB W W.heap.size (cutA A2 c2 N) 16 (r.2.1.drop N)) := Lib.hid (fun W hW => by
    have hN := HN.out
    have hcc := HCC.out
    have g2 := hW.rb.part (i := 0) (j := N) (c := c2) (Nat.zero_le _) (by omega) hcc.1
    have g3 := hW.rb.part (i := N) (j := n2) (c := c2) (by omega) (Nat.le_refl _) hcc.1
    rw [List.take_of_length_le (by rw [HL2.out]; omega), show n2 - N = 16 by omega] at g3
    exact ⟨by simpa using g2, g3⟩)
  go_wp2_with fail
  refine (sjoin1 _ (cutA A2 c2 0) N c2 (r.2.1.take N) (by exact (HB.out _ K7.out.r).1) (by have := HN.out; omega)).mono ?_
  rintro e w8 ⟨A8, c8, rfl, ho, hb⟩
  have K8 := Lib.hid (K7.out.step hb)
  have O8 := Lib.hid (ho.base_le K7.out.bel.size)
  have c0 := K8.out.hp.c4
  have f0 := K8.out.hp.blk.free 4
  clear ho hb K7
  go_wp2_with fail
  have K9 := Lib.hid (K8.out.put4 O8.out)
  clear c0 f0 K8 O8
  obtain ⟨w9, HW9⟩ : ∃ w9, Hid (w8.setCell ⟨p, 4, none⟩ (.slice A8 N c8) = w9) := ⟨_, Lib.hid rfl⟩
  have hsz : w9.heap.size = w8.heap.size := by rw [← HW9.out]; simp
  have hj := sjoin1 w9 (cutA A2 c2 N) 16 (c2 - N) (r.2.1.drop N) (by rw [← HW9.out]; exact (HB.out _ K9.out.r).2) (by decide)
  rw [hsz] at hj
  have HJN := Lib.hid hj
  rw [HW9.out] at K9 ⊢
  clear hj hsz
  refine HJN.out.mono ?_
  rintro e w10 ⟨A10, c10, rfl, ho, hb⟩
  have K10 := Lib.hid (K9.out.step hb)
  have O10 := Lib.hid (ho.base_le K9.out.bel.size)
  have c0 := K10.out.hp.c5
  have f0 := K10.out.hp.blk.free 5
  clear ho hb K9
  obtain ⟨j, HJ⟩ : ∃ j, Hid (SK w q p j A2 n2 c2 r.2.1 (w10.setCell ⟨p, 5, none⟩ (.slice A10 16 c10)) ∧ j.pl = (r.1, r.2.1.take N, r.2.1.drop N)) := ⟨_, Lib.hid ⟨K10.out.put5 O10.out, by rw [HI.out]; show (h.pl, _, _) = _; rw [HP.out]⟩⟩
  go_wp2_with (first
    | (refine wpList_ldI rt_st rfl (.tmp 7) rfl p rfl j (by exact HJ.out.1.hp) ?_)
    | (refine wpList_stI rt_st rfl (.tmp 2) (.tmp 60) rfl q rfl j zeroI rfl (by exact HJ.out.1.hq) ?_; intro w13 hc5 ho5 hs5; have H5 := Lib.hid (And.intro hc5 ho5); clear hc5 ho5 hs5))
  rw [HE.out]
  exact bodyPost_ret (v := .tuple #[j.val, .int .i64 0]) (res_rec2 rt_st rfl _ _ q j.cells _ rfl rfl H5.out.1 rfl) rfl ⟨j, rfl, HJ.out.2, HJ.out.1.own.off H5.out.2 (HJ.out.1.hq.blk.nob (by decide)), HJ.out.1.bel.trans (H5.out.2.below (fun j hj => by rw [List.mem_singleton.1 hj]; exact HJ.out.1.lq) HJ.out.1.bel.size)⟩
end Go.Proofs.YtdkdgcpknephnaaGreat
