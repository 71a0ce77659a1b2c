/- GcmBack's walk: what is sealed is opened as it was; with one byte of it changed it isn't. No condition. -/
import Derived.Test.YtmpidjadpcpbfaaGreatGcmAlive
import Derived.Test.YtmpidjadpcpbfaaGreatOpen
namespace Go.Proofs.YtmpidjadpcpbfaaGreat
attribute [local irreducible] wsW keyUpTo keyF lastW turn0 encUp decUp aftL encL tableL blksL blkL strmL putL numL xorL turnAt fstL hkL tagL trnL bB sumG nB sealR openR tagR
open Go.RowKit
set_option linter.unusedVariables false
set_option linter.unusedSimpArgs false

theorem gbig_len {n c : Nat} (h : n ≤ c ∧ c ≤ maxLen) : n ≤ 9223372036854775807 := by unfold maxLen at h; omega
theorem bopen_len (k n s a : List UInt8) (hk : k.length = 16) (ht : s.length ≤ 300) : (openR k n s a).1.length ≤ 1000 := by
  unfold openR
  by_cases hn : n.length = 12
  · rw [if_pos hn]
    by_cases h16 : s.length < 16
    · rw [if_pos h16]
      simp
    · rw [if_neg h16]
      by_cases h : tagL k n (s.take (s.length - 16)) a = s.drop (s.length - 16)
      · rw [if_pos h]
        show (trnL k n (s.take (s.length - 16))).length ≤ 1000
        rw [trnL_len k n _ hk hn, List.length_take]
        omega
      · rw [if_neg h]
        simp
  · rw [if_neg hn]
    simp
theorem bseal_pair (k n t a : List UInt8) (hn : n.length = 12) : sealR k n t a = (trnL k n t ++ tagL k n (trnL k n t) a, 0) := by
  unfold sealR
  rw [if_pos hn]
theorem xor_stays (x y : UInt8) (h : x ^^^ y = x) : y = 0 := by
  have := congrArg (fun z => x ^^^ z) h
  rw [← UInt8.xor_assoc, UInt8.xor_self, UInt8.zero_xor] at this
  exact this
/-- A tag with one byte changed is another one. -/
theorem back_tag (k n a u g : List UInt8) (j : Nat) (x y : UInt8) (hk : k.length = 16) (hn : n.length = 12) (hg : g = tagL k n u a) (hj : u.length ≤ j) (hx : (u ++ g)[j]? = some x) (hy : y ≠ 0) : openR k n ((u ++ g).set j (x ^^^ y)) a = ([], 13) := by
  have hgl : g.length = 16 := by rw [hg]; exact tagL_len k n u a hk hn
  have hs : (u ++ g).set j (x ^^^ y) = u ++ g.set (j - u.length) (x ^^^ y) := by rw [List.set_append, if_neg (by omega)]
  have hl : (u ++ g.set (j - u.length) (x ^^^ y)).length = u.length + 16 := by rw [List.length_append, List.length_set, hgl]
  rw [List.getElem?_append_right hj] at hx
  have hne : g ≠ g.set (j - u.length) (x ^^^ y) := by
    intro h
    have h2 : (g.set (j - u.length) (x ^^^ y))[j - u.length]? = some (x ^^^ y) := by
      have := (List.getElem?_eq_some_iff.1 hx).1
      rw [List.getElem?_set, if_pos rfl, if_pos this]
    rw [← h, hx] at h2
    exact hy (xor_stays x y (Option.some.inj h2).symm)
  rw [hs]
  unfold openR
  rw [if_pos hn, if_neg (by omega), hl, Nat.add_sub_cancel, List.take_left' rfl, List.drop_left' rfl, ← hg, if_neg hne]
theorem KG.poke {v w : World} {p : BP} {n f : Nat} {rows : List (Option Addr × Nat × List UInt8)} (h : KG v p n f rows w) {b : Nat} (h1 : v.heap.size ≤ b) (h2 : p.w0.heap.size ≤ b) (k : Nat) (u : Value) : KG v p n f [] (w.setCell ⟨b, k, none⟩ u) :=
  ⟨h.bel.setCell (p := ⟨b, k, none⟩) h1 u, h.low, h.box.hold ((Below.refl _ _).setCell (p := ⟨b, k, none⟩) h2 u), fun r hr => absurd hr (by simp)⟩
set_option maxRecDepth 100000 in
set_option maxHeartbeats 8000000 in
theorem GcmBack_walk (A0 : Option Addr) (n0 c0 : Nat) (l0 : List UInt8) (A1 : Option Addr) (n1 c1 : Nat) (l1 : List UInt8) (A2 : Option Addr) (n2 c2 : Nat) (l2 : List UInt8) (A3 : Option Addr) (n3 c3 : Nat) (l3 : List UInt8) (x4 : Int) (x5 : Int) (w : World) (h0 : RB w w.heap.size A0 n0 l0) (m0 : n0 ≤ c0 ∧ c0 ≤ maxLen) (h1 : RB w w.heap.size A1 n1 l1) (m1 : n1 ≤ c1 ∧ c1 ≤ maxLen) (h2 : RB w w.heap.size A2 n2 l2) (m2 : n2 ≤ c2 ∧ c2 ≤ maxLen) (h3 : RB w w.heap.size A3 n3 l3) (m3 : n3 ≤ c3 ∧ c3 ≤ maxLen) (h4 : (Lit.int .i64 x4).wf = true) (h5 : (Lit.int .u8 x5).wf = true) :
    Calls Tryz.prog 5 #[.slice A0 n0 c0, .slice A1 n1 c1, .slice A2 n2 c2, .slice A3 n3 c3, .int .i64 x4, .int .u8 x5] w fun e w' => e = .returned (.bool true) ∧ Below w.heap.size w w' := by
  obtain ⟨y, hy⟩ := byte_of h5
  subst hy
  have HX4 : Hid (-9223372036854775808 ≤ x4 ∧ x4 ≤ 9223372036854775807) := Lib.hid (bounds_i64 h4)
  clear h4 h5
  have e0 := h0.len
  have b0 := gbig_len m0
  have H0 := Lib.hid (And.intro h0 m0)
  have e1 := h1.len
  have b1 := gbig_len m1
  have H1 := Lib.hid (And.intro h1 m1)
  have e2 := h2.len
  have b2 := gbig_len m2
  have H2 := Lib.hid (And.intro h2 m2)
  have e3 := h3.len
  have b3 := gbig_len m3
  have H3 := Lib.hid (And.intro h3 m3)
  have HE := Lib.hid (And.intro e0 (And.intro e1 (And.intro e2 e3)))
  have HGR := Lib.hid (great_lit [(A2, c2, l2), (A3, c3, l3)] #[.slice A2 n2 c2, .slice A3 n3 c3] 2)
  clear h0 h1 h2 h3 m0 m1 m2 m3 e0 e1 e2 e3
  go_enter Tryz.func5, Tryz.ntmps5
  go_wp2_with fail
  refine (alive_any _).mono ?_
  rintro e w1 ⟨rfl, hb1⟩
  have HB1 := Lib.hid hb1
  clear hb1
  go_wp2_with fail
  refine (HGR.out w1 (by simp [HE.out.2.2.1, HE.out.2.2.2]) rfl (by omega) (by
    intro r hr
    simp only [List.mem_cons, List.not_mem_nil, or_false] at hr
    rcases hr with rfl | rfl
    · dsimp only; rw [HE.out.2.2.1]; exact H2.out.1.step HB1.out
    · dsimp only; rw [HE.out.2.2.2]; exact H3.out.1.step HB1.out) (by
    intro r hr
    simp only [List.mem_cons, List.not_mem_nil, or_false] at hr
    rcases hr with rfl | rfl
    · dsimp only; rw [HE.out.2.2.1]; exact Nat.le_trans H2.out.2.1 H2.out.2.2
    · dsimp only; rw [HE.out.2.2.2]; exact Nat.le_trans H3.out.2.1 H3.out.2.2)).mono ?_
  rintro e w2 ⟨v, rfl, hb2, hv⟩
  have HB2 := Lib.hid (bel_next HB1.out hb2)
  clear hb2 HB1 HGR
  rcases v with _ | _
  case true =>
    clear hv
    go_wp2_with fail
    go_ret
    exact ⟨rfl, HB2.out⟩
  case false =>
    have hv' := hv rfl
    have s2 : n2 ≤ 200 := by have := hv' (A2, c2, l2) (by simp); dsimp only at this; rw [HE.out.2.2.1] at this; exact this
    have s3 : n3 ≤ 200 := by have := hv' (A3, c3, l3) (by simp); dsimp only at this; rw [HE.out.2.2.2] at this; exact this
    clear hv hv'
    by_cases q0 : n0 = 16
    case neg =>
      have g0 : ((n0 : Int) == 16) = false := by rw [beq_eq_false_iff_ne]; omega
      have g0' : ((n0 : Int) != 16) = true := by simp [bne, g0]
      go_wp2_with fail
      go_ret
      exact ⟨rfl, HB2.out⟩
    by_cases q1 : n1 = 12
    case neg =>
      have g0 : ((n0 : Int) == 16) = true := by rw [beq_iff_eq]; omega
      have g0' : ((n0 : Int) != 16) = false := by simp [bne, g0]
      have g1 : ((n1 : Int) == 12) = false := by rw [beq_eq_false_iff_ne]; omega
      have g1' : ((n1 : Int) != 12) = true := by simp [bne, g1]
      go_wp2_with fail
      go_ret
      exact ⟨rfl, HB2.out⟩
    subst q0
    subst q1
    obtain ⟨u, HU⟩ : ∃ u, Hid (u = trnL l0 l1 l2 ∧ u.length = n2) := ⟨_, Lib.hid ⟨rfl, by rw [trnL_len l0 l1 l2 HE.out.1 HE.out.2.1, HE.out.2.2.1]⟩⟩
    obtain ⟨g, HG⟩ : ∃ g, Hid (g = tagL l0 l1 u l3 ∧ g.length = 16) := ⟨_, Lib.hid ⟨rfl, tagL_len l0 l1 u l3 HE.out.1 HE.out.2.1⟩⟩
    have HOS : Hid (openR l0 l1 (u ++ g) l3 = (l2, 0)) := Lib.hid (by
      have h := open_seal l0 l1 l2 l3 HE.out.1 HE.out.2.1
      rw [bseal_pair l0 l1 l2 l3 HE.out.2.1, ← HU.out.1, ← HG.out.1] at h
      exact h)
    obtain ⟨N, HN⟩ : ∃ N, Hid (N = n2 + 16) := ⟨_, Lib.hid rfl⟩
    have HL : Hid ((u ++ g).length = N) := Lib.hid (by rw [List.length_append, HU.out.2, HG.out.2, HN.out])
    have hN : N ≤ 216 := by have := HN.out; omega
    have r0 : (n2 : Int) + 16 = (N : Int) := by have := HN.out; omega
    go_wp2_with fail
    refine (gnew_any A0 c0 l0 _ (by exact H0.out.1.step HB2.out) H0.out.2.1).mono ?_
    intro e w3 hx
    obtain ⟨p, rfl, hpk, hk3⟩ := KG.start HB2.out hx
    have HPK := Lib.hid hpk
    have HK3 := Lib.hid ((((hk3.arg H0.out.1).arg H1.out.1).arg H2.out.1).arg H3.out.1)
    clear hx hk3 hpk HB2
    go_wp2_with fail
    refine (gseal_any p 1 0 A1 A2 A3 c1 n2 c2 n3 c3 l1 l2 l3 _ (by exact HK3.out.box) (by omega) (by exact (HK3.out.row (A1, 12, l1) (by simp)).1) (by exact (HK3.out.row (A2, n2, l2) (by simp)).1) (by exact (HK3.out.row (A3, n3, l3) (by simp)).1) H3.out.2.1 (by exact (HK3.out.row (A3, n3, l3) (by simp)).2) (by omega) (by omega)).mono ?_
    intro e w4 hr
    obtain ⟨A5, c5, rfl, ho4, hf4, hx4⟩ := hr.to 0 N (u ++ g) 0 rfl (by rw [HPK.out, ← HU.out.1, ← HG.out.1]) HL.out
    have haw := ho4.afar (HK3.out.box.after (Nat.le_refl _))
    obtain ⟨g5, rfl, hg5, hg5'⟩ := OwnB.form ho4 (by have := HN.out; omega)
    have HG5 : Hid (w.heap.size ≤ g5 ∧ p.w0.heap.size ≤ g5) := Lib.hid ⟨Nat.le_trans HK3.out.bel.size hg5, Nat.le_trans HK3.out.box.old hg5⟩
    have HAW := Lib.hid haw
    have HK4 := Lib.hid ((HK3.out.off hf4 hx4).push ho4.rb (fun _ => haw))
    have HO4 := Lib.hid ho4
    have HC5 := Lib.hid ho4.cap.1
    clear hr ho4 hf4 hx4 haw hg5 hg5' HK3
    go_wp2_with fail
    refine (gopen_r p 2 0 A1 (some ⟨g5, 0, none⟩) A3 12 c1 N c5 n3 c3 l1 (u ++ g) l3 _ (by exact HK4.out.box) (by omega) (by omega) (by exact (HK4.out.row (A1, 12, l1) (by simp)).1) (by exact (HK4.out.row (some ⟨g5, 0, none⟩, N, u ++ g) (by simp)).1) (by exact (HK4.out.row (A3, n3, l3) (by simp)).1) HC5.out H3.out.2.1 (by exact (HK4.out.row (A1, 12, l1) (by simp)).2) (by exact (HK4.out.row (some ⟨g5, 0, none⟩, N, u ++ g) (by simp)).2) (by exact (HK4.out.row (A3, n3, l3) (by simp)).2) (by omega) (by omega)).mono ?_
    intro e w5 hr
    obtain ⟨A6, c6, rfl, ho5, hf5, hx5⟩ := hr.to 0 n2 l2 0 (by rw [HPK.out, HOS.out]; rfl) (by rw [HPK.out, HOS.out]) HE.out.2.2.1
    have HK5 := Lib.hid ((HK4.out.off hf5 hx5).push ho5.rb (fun _ => ho5.afar (HK4.out.box.after (Nat.le_refl _))))
    have HO5 := Lib.hid (HO4.out.off hf5 HAW.out)
    clear hr ho5 hf5 hx5 HK4 HO4
    go_wp2_with fail
    refine (al_same A6 A2 n2 c6 n2 c2 l2 l2 _ (by exact (HK5.out.row (A6, n2, l2) (by simp)).1) (by exact (HK5.out.row (A2, n2, l2) (by simp)).1) (by unfold maxLen; omega) (by unfold maxLen; omega) true (by simp)).mono ?_
    rintro e w6 ⟨rfl, hb6⟩
    have HK6 := Lib.hid (HK5.out.step hb6)
    have HO6 := Lib.hid (HO5.out.below hb6)
    clear hb6 HK5 HO5
    by_cases t1 : x4 < 0
    case pos =>
      have d1 : decide (x4 < 0) = true := decide_eq_true t1
      go_wp2_with fail
      go_ret
      exact ⟨rfl, HK6.out.bel⟩
    have d1 : decide (x4 < 0) = false := decide_eq_false t1
    obtain ⟨k, hk⟩ : ∃ k : Nat, x4 = (k : Int) := ⟨x4.toNat, by omega⟩
    subst hk
    clear t1
    by_cases t2 : N ≤ k
    case pos =>
      have d2 : decide ((N : Int) ≤ (k : Int)) = true := decide_eq_true (by omega)
      go_wp2_with fail
      go_ret
      exact ⟨rfl, HK6.out.bel⟩
    have d2 : decide ((N : Int) ≤ (k : Int)) = false := decide_eq_false (by omega)
    have hkN : k < N := by omega
    by_cases t3 : y = 0
    case pos =>
      have d3 : ((y.toNat : Int) == 0) = true := by rw [t3]; rfl
      go_wp2_with fail
      go_ret
      exact ⟨rfl, HK6.out.bel⟩
    have d3 : ((y.toNat : Int) == 0) = false := by
      rw [beq_eq_false_iff_ne]
      intro h
      exact t3 (UInt8.toNat_inj.1 (by show y.toNat = 0; omega))
    obtain ⟨x, hx⟩ : ∃ x, (u ++ g)[k]? = some x := ⟨_, List.getElem?_eq_getElem (by rw [HL.out]; exact hkN)⟩
    obtain ⟨d, HD⟩ : ∃ d : Nat, Hid (d = (x ^^^ y).toNat) := ⟨_, Lib.hid rfl⟩
    have rx : bits .xor .u8 (x.toNat : Int) (y.toNat : Int) = (d : Int) := by rw [HD.out, xor_byte]
    have hc6 := HO6.out.cellAt hx
    have hz6 := HO6.out.freeAt k
    obtain ⟨s, HS⟩ : ∃ s, Hid (s = (u ++ g).set k (x ^^^ y) ∧ s.length = N) := ⟨_, Lib.hid ⟨rfl, by rw [List.length_set]; exact HL.out⟩⟩
    have HK7 := Lib.hid (((((HK6.out.poke HG5.out.1 HG5.out.2 k (.int .u8 (d : Int))).arg H0.out.1).arg H1.out.1).arg H3.out.1).push (HO6.out.stored k (x ^^^ y) (.int .u8 (d : Int)) (by rw [HD.out]; rfl)).rb (fun _ => HAW.out))
    rw [← HS.out.1] at HK7
    clear HK6 HO6
    by_cases t4 : n2 ≤ k
    case pos =>
      have d4 : decide ((n2 : Int) ≤ (k : Int)) = true := decide_eq_true (by omega)
      have HBT : Hid (openR l0 l1 s l3 = ([], 13)) := Lib.hid (by rw [HS.out.1]; exact back_tag l0 l1 l3 u g k x y HE.out.1 HE.out.2.1 HG.out.1 (by rw [HU.out.2]; exact t4) hx t3)
      clear hx t3
      go_wp2_with fail
      refine (gopen_r p 3 0 A1 (some ⟨g5, 0, none⟩) A3 12 c1 N c5 n3 c3 l1 s l3 _ (by exact HK7.out.box) (by omega) (by omega) (by exact (HK7.out.row (A1, 12, l1) (by simp)).1) (by exact (HK7.out.row (some ⟨g5, 0, none⟩, N, s) (by simp)).1) (by exact (HK7.out.row (A3, n3, l3) (by simp)).1) HC5.out H3.out.2.1 (by exact (HK7.out.row (A1, 12, l1) (by simp)).2) (by exact (HK7.out.row (some ⟨g5, 0, none⟩, N, s) (by simp)).2) (by exact (HK7.out.row (A3, n3, l3) (by simp)).2) (by omega) (by omega)).mono ?_
      intro e w8 hr
      obtain ⟨A8, c8, rfl, hk8, ho8⟩ := HK7.out.ret (hr.to 1 0 [] 13 (by rw [HPK.out, HBT.out]; rfl) (by rw [HPK.out, HBT.out]) rfl)
      have HK8 := Lib.hid hk8
      clear hr hk8 ho8 HK7 hc6 hz6
      go_wp2_with fail
      refine (gfailed_any p 4 1 _ (by exact HK8.out.box)).mono ?_
      rintro e w9 ⟨rfl, rfl⟩
      go_wp2_with fail
      go_ret
      exact ⟨rfl, HK8.out.bel⟩
    have d4 : decide ((n2 : Int) ≤ (k : Int)) = false := decide_eq_false (by omega)
    obtain ⟨S, E, HSE⟩ : ∃ S E, Hid (openR l0 l1 s l3 = (S, E) ∧ S.length ≤ 1000) := ⟨_, _, Lib.hid ⟨rfl, bopen_len l0 l1 s l3 HE.out.1 (by rw [HS.out.2]; omega)⟩⟩
    obtain ⟨M, HM⟩ : ∃ M, Hid (S.length = M) := ⟨_, Lib.hid rfl⟩
    clear hx t3
    go_wp2_with fail
    refine (gopen_r p 3 0 A1 (some ⟨g5, 0, none⟩) A3 12 c1 N c5 n3 c3 l1 s l3 _ (by exact HK7.out.box) (by omega) (by omega) (by exact (HK7.out.row (A1, 12, l1) (by simp)).1) (by exact (HK7.out.row (some ⟨g5, 0, none⟩, N, s) (by simp)).1) (by exact (HK7.out.row (A3, n3, l3) (by simp)).1) HC5.out H3.out.2.1 (by exact (HK7.out.row (A1, 12, l1) (by simp)).2) (by exact (HK7.out.row (some ⟨g5, 0, none⟩, N, s) (by simp)).2) (by exact (HK7.out.row (A3, n3, l3) (by simp)).2) (by omega) (by omega)).mono ?_
    intro e w8 hr
    obtain ⟨A8, c8, rfl, hk8, ho8⟩ := HK7.out.ret (hr.to _ M S E rfl (by rw [HPK.out, HSE.out.1]) HM.out)
    have HK8 := Lib.hid hk8
    clear hr hk8 ho8 HK7 hc6 hz6
    go_wp2_with fail
    refine (ropen_r A0 A1 (some ⟨g5, 0, none⟩) A3 c0 12 c1 N c5 n3 c3 l0 l1 s l3 _ (by exact (HK8.out.row (A0, 16, l0) (by simp)).1) H0.out.2.1 (by exact (HK8.out.row (A1, 12, l1) (by simp)).1) (by exact (HK8.out.row (some ⟨g5, 0, none⟩, N, s) (by simp)).1) HC5.out (by exact (HK8.out.row (A3, n3, l3) (by simp)).1) (by omega) (by omega)).mono ?_
    intro e w9 hr
    obtain ⟨A9, c9, rfl, ho9, hb9⟩ := hr.to M S E HSE.out.1 HM.out
    have HK9 := Lib.hid (HK8.out.own hb9 ho9)
    clear hr ho9 hb9 HK8
    go_wp2_with fail
    refine (al_same A8 A9 M c8 M c9 S S _ (by exact (HK9.out.row (A8, M, S) (by simp)).1) (by exact (HK9.out.row (A9, M, S) (by simp)).1) (by have := HSE.out.2; rw [HM.out] at this; unfold maxLen; omega) (by have := HSE.out.2; rw [HM.out] at this; unfold maxLen; omega) true (by simp)).mono ?_
    rintro e w10 ⟨rfl, hb10⟩
    have HB10 := Lib.hid (HK9.out.step hb10).bel
    go_wp2_with fail
    go_ret
    exact ⟨rfl, HB10.out⟩
end Go.Proofs.YtmpidjadpcpbfaaGreat
