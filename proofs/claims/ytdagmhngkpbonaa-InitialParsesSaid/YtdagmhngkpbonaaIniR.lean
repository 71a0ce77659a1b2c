/- Layer 11's reference: Parse and Same; our Same; the statements' Of. Condition: at most a million bytes. -/
import Derived.Test.YtdagmhngkpbonaaIniP
namespace Go.Proofs.Ytdagmhngkpbonaa
open Go.RowKit
set_option linter.unusedVariables false
set_option linter.unusedSimpArgs false
attribute [local go_sem ↓] ex_ldHd ex_stHd ex_ldHr ex_stHr ex_ldI ex_ldIr ex_stI ex_stIr
/-- What the reference's Parse carries. -/
structure IQ (v : World) (q y : Nat) (h : Hd) (A : Option Addr) (n c : Nat) (l : List UInt8) (w : World) : Prop where
  bel : Below v.heap.size v w
  lq : v.heap.size ≤ q
  qy : q ≠ y
  hq : Ic 35 w q zeroI
  hd : Hc 33 w y h
  own : h.own w v.heap.size
  r : OwnB w v.heap.size A n c l
theorem IQ.step {v w w' : World} {q y n c : Nat} {h : Hd} {A : Option Addr} {l : List UInt8} (k : IQ v q y h A n c l w) (hb : Below w.heap.size w w') : IQ v q y h A n c l w' := ⟨bel_next k.bel hb, k.lq, k.qy, k.hq.step hb, k.hd.step hb, k.own.step hb, k.r.below hb⟩
attribute [local irreducible] prs chk tkV tkN tkE
set_option maxRecDepth 100000 in
set_option maxHeartbeats 4000000 in
theorem riparse_any (A : Option Addr) (n c : Nat) (l : List UInt8) (w : World) (hr0 : RB w w.heap.size A n l) (hc0 : n ≤ c ∧ c ≤ maxLen) (hn : n ≤ 1000000) :
    Calls Try.prog 9 #[.slice A n c] w (RetIr (iprs l) w) := by
  have H0 := Lib.hid hr0
  have HC0 := Lib.hid hc0
  clear hr0 hc0
  obtain ⟨r, HR⟩ : ∃ r, Hid (r = prs l) := ⟨_, Lib.hid rfl⟩
  obtain ⟨X, HX⟩ : ∃ X, Hid (X = iprs l) := ⟨_, Lib.hid rfl⟩
  rw [← HX.out]
  unfold iprs at HX
  rw [← HR.out] at HX
  go_enter Try.func9, Try.ntmps9
  go_wp2_with (first
    | (with_reducible show wpList _ _ _ (⟨some 2, .alloc _, _, _, _, none⟩ :: _) _ _; refine wpList_newI rt_inr rfl rfl ?_; intro w1 q hc1 hb1 hx1; have H1 := Lib.hid (And.intro hc1 (And.intro hb1 hx1)); clear hc1 hb1 hx1))
  refine (rparse_any A n c l _ (by exact H0.out.step H1.out.2.1) HC0.out hn).mono ?_
  rw [← HR.out]
  rintro e w2 ⟨h, A2, n2, c2, rfl, hp, ho, hr, hb⟩
  have HP := Lib.hid hp
  have K2 : Hid (Below w.heap.size w w2 ∧ Ic 35 w2 q zeroI ∧ h.own w2 w.heap.size ∧ OwnB w2 w.heap.size A2 n2 c2 r.2.1 ∧ w.heap.size ≤ q) := Lib.hid ⟨bel_next H1.out.2.1 hb, H1.out.1.step hb, ho.base_le H1.out.2.1.size, hr.base_le H1.out.2.1.size, H1.out.2.2⟩
  clear hp ho hr hb H1
  obtain ⟨k, HK⟩ : ∃ k, Hid (k = chk r.1) := ⟨_, Lib.hid rfl⟩
  rw [← HK.out] at HX
  by_cases he : r.2.2 = 0
  rotate_left
  · have hb : (r.2.2 == 0) = false := by rw [beq_eq_false_iff_ne]; exact he
    have hb' : (r.2.2 != 0) = true := by simpa using he
    have HE : Hid (X = (zeroIP, r.2.2)) := Lib.hid (by rw [HX.out, if_pos he])
    go_wp2_with (first
      | (with_reducible show wpList _ _ _ (⟨some 4, .alloc _, _, _, _, none⟩ :: _) _ _; refine wpList_allocN ht_ref rfl rfl ?_; intro w3 y hc2 hb2 hx2; have H2 := Lib.hid (And.intro hc2 (And.intro hb2 hx2)); clear hc2 hb2 hx2)
      | (refine wpList_stH ht_ref rfl (.tmp 4) (.tmp 12) rfl y rfl h zeroH rfl (by exact H2.out.1) ?_; intro w4 hc3 ho3 hs3; have hb4 := H2.out.2.1.trans (ho3.below (fun j hj => by rw [List.mem_singleton.1 hj]; exact H2.out.2.2) H2.out.2.1.size); have K4 : Hid (IQ w q y h A2 n2 c2 r.2.1 w4) := Lib.hid ⟨bel_next K2.out.1 hb4, K2.out.2.2.2.2, Nat.ne_of_lt (Nat.lt_of_lt_of_le K2.out.2.1.blk.lt H2.out.2.2), K2.out.2.1.step hb4, hc3, K2.out.2.2.1.step hb4, K2.out.2.2.2.1.below hb4⟩; clear hc3 ho3 hs3 hb4 H2 K2)
      | (refine wpList_stI rt_inr rfl (.tmp 2) (.tmp 21) rfl q rfl zeroI zeroI rfl (by exact K4.out.hq) ?_; intro w5 hc5 ho5 hs5; have H5 := Lib.hid (And.intro hc5 ho5); clear hc5 ho5 hs5))
    rw [HE.out]
    exact bodyPost_ret (v := .tuple #[zeroI.val, .int .i64 r.2.2]) (res_rec2 rt_inr rfl _ _ q zeroI.cells _ rfl rfl H5.out.1 rfl) rfl ⟨zeroI, rfl, rfl, (In.own.zero _ w.heap.size).ok, K4.out.bel.trans (H5.out.2.below (fun j hj => by rw [List.mem_singleton.1 hj]; exact K4.out.lq) K4.out.bel.size)⟩
  have hb : (r.2.2 == 0) = true := by rw [he]; rfl
  go_wp2_with (first
    | (with_reducible show wpList _ _ _ (⟨some 4, .alloc _, _, _, _, none⟩ :: _) _ _; refine wpList_allocN ht_ref rfl rfl ?_; intro w3 y hc2 hb2 hx2; have H2 := Lib.hid (And.intro hc2 (And.intro hb2 hx2)); clear hc2 hb2 hx2)
    | (refine wpList_stH ht_ref rfl (.tmp 4) (.tmp 12) rfl y rfl h zeroH rfl (by exact H2.out.1) ?_; intro w4 hc3 ho3 hs3; have hb4 := H2.out.2.1.trans (ho3.below (fun j hj => by rw [List.mem_singleton.1 hj]; exact H2.out.2.2) H2.out.2.1.size); have K4 : Hid (IQ w q y h A2 n2 c2 r.2.1 w4) := Lib.hid ⟨bel_next K2.out.1 hb4, K2.out.2.2.2.2, Nat.ne_of_lt (Nat.lt_of_lt_of_le K2.out.2.1.blk.lt H2.out.2.2), K2.out.2.1.step hb4, hc3, K2.out.2.2.1.step hb4, K2.out.2.2.2.1.below hb4⟩; clear hc3 ho3 hs3 hb4 H2 K2)
    | (refine wpList_ldH ht_ref rfl (.tmp 4) rfl y rfl h (by exact K4.out.hd) ?_))
  refine (rwrong_any h _).mono ?_
  rw [HP.out, ← HK.out]
  rintro e w5 ⟨rfl, hb5⟩
  have K5 := Lib.hid (K4.out.step hb5)
  clear hb5 K4 hb
  by_cases hk : k = 0
  rotate_left
  · have hb2 : (k != 0) = true := by simpa using hk
    have HE : Hid (X = (zeroIP, k)) := Lib.hid (by rw [HX.out, if_neg (fun k => k he), if_pos hk])
    go_wp2_with (first
      | (refine wpList_stI rt_inr rfl (.tmp 2) (.tmp 21) rfl q rfl zeroI zeroI rfl (by exact K5.out.hq) ?_; intro w8 hc5 ho5 hs5; have H5 := Lib.hid (And.intro hc5 ho5); clear hc5 ho5 hs5))
    rw [HE.out]
    exact bodyPost_ret (v := .tuple #[zeroI.val, .int .i64 k]) (res_rec2 rt_inr rfl _ _ q zeroI.cells _ rfl rfl H5.out.1 rfl) rfl ⟨zeroI, rfl, rfl, (In.own.zero _ w.heap.size).ok, K5.out.bel.trans (H5.out.2.below (fun j hj => by rw [List.mem_singleton.1 hj]; exact K5.out.lq) K5.out.bel.size)⟩
  have hb2 : (k != 0) = false := by rw [hk]; rfl
  have HX2 : Hid (X = itk r.1 r.2.1) := Lib.hid (by rw [HX.out, if_neg (fun k => k he), if_neg (fun k => k hk)])
  have hlen : r.2.1.length ≤ 1000000 := by
    have h1 := (prs_back (l := l) (by rw [← HR.out]; exact he)).2
    rw [← HR.out] at h1
    have h2 := congrArg List.length h1
    rw [List.length_append, H0.out.len] at h2
    omega
  have hn2 : n2 ≤ 1000000 := by rw [← K5.out.r.len]; exact hlen
  have HL2 := Lib.hid K5.out.r.len
  have hcc := K5.out.r.cap
  have HCC := Lib.hid hcc
  clear hlen
  go_wp2_with fail
  refine (rtake_any A2 n2 c2 r.2.1 _ (by exact K5.out.r.rb) hcc.1 (by omega)).mono ?_
  rintro e w6 ⟨rfl, hb6⟩
  have K6 := Lib.hid (K5.out.step hb6)
  clear hb6 K5 hb2
  have htk := tk_cases r.2.1
  have hv62 := tkV_lt r.2.1
  unfold itk tokL at HX2
  obtain ⟨V, HV⟩ : ∃ V, Hid (V = tkV r.2.1) := ⟨_, Lib.hid rfl⟩
  obtain ⟨N, HN⟩ : ∃ V, Hid (V = tkN r.2.1) := ⟨_, Lib.hid rfl⟩
  obtain ⟨E, HE⟩ : ∃ V, Hid (V = tkE r.2.1) := ⟨_, Lib.hid rfl⟩
  rw [← HV.out, ← HN.out, ← HE.out] at HX2
  rw [← HV.out, ← HN.out, ← HE.out]
  rw [← HV.out, ← HN.out, ← HE.out] at htk
  rw [← HV.out] at hv62
  rw [HL2.out] at htk
  have hlN : (r.2.1.drop N).length = n2 - N := by rw [List.length_drop, HL2.out]
  rw [hlN] at HX2
  by_cases hgood : E = 0 ∧ V ≤ n2 - N
  rotate_left
  · have HE2 : Hid (X = (zeroIP, 12)) := Lib.hid (by rw [HX2.out, if_neg hgood])
    rcases htk with ⟨hE, hN⟩ | ⟨hE, hN, hV⟩
    · have hV : ¬ V ≤ n2 - N := fun k => hgood ⟨hE, k⟩
      have hVd : decide ((n2 : Int) - (N : Int) < (V : Int)) = true := decide_eq_true (by omega)
      have hVd2 : decide (((n2 - N : Nat) : Int) < (V : Int)) = true := decide_eq_true (by omega)
      clear hlN hcc hgood
      subst hE
      go_wp2_with (first
        | (refine wpList_stI rt_inr rfl (.tmp 2) (.tmp 40) rfl q rfl zeroI zeroI rfl (by exact K6.out.hq) ?_; intro w8 hc5 ho5 hs5; have H5 := Lib.hid (And.intro hc5 ho5); clear hc5 ho5 hs5))
      rw [HE2.out]
      exact bodyPost_ret (v := .tuple #[zeroI.val, .int .i64 12]) (res_rec2 rt_inr rfl _ _ q zeroI.cells _ rfl rfl H5.out.1 rfl) rfl ⟨zeroI, rfl, rfl, (In.own.zero _ w.heap.size).ok, K6.out.bel.trans (H5.out.2.below (fun j hj => by rw [List.mem_singleton.1 hj]; exact K6.out.lq) K6.out.bel.size)⟩
    · clear hlN hcc hgood
      subst hE
      go_wp2_with (first
        | (refine wpList_stI rt_inr rfl (.tmp 2) (.tmp 40) rfl q rfl zeroI zeroI rfl (by exact K6.out.hq) ?_; intro w8 hc5 ho5 hs5; have H5 := Lib.hid (And.intro hc5 ho5); clear hc5 ho5 hs5))
      rw [HE2.out]
      exact bodyPost_ret (v := .tuple #[zeroI.val, .int .i64 12]) (res_rec2 rt_inr rfl _ _ q zeroI.cells _ rfl rfl H5.out.1 rfl) rfl ⟨zeroI, rfl, rfl, (In.own.zero _ w.heap.size).ok, K6.out.bel.trans (H5.out.2.below (fun j hj => by rw [List.mem_singleton.1 hj]; exact K6.out.lq) K6.out.bel.size)⟩
  · obtain ⟨hE, hVn⟩ := hgood
    have hN : N ≤ n2 := by rcases htk with ⟨_, h⟩ | ⟨h, _⟩; exact h; rw [hE] at h; exact absurd h (by decide)
    have hVd : decide ((n2 : Int) - (N : Int) < (V : Int)) = false := decide_eq_false (by omega)
    have hVd2 : decide (((n2 - N : Nat) : Int) < (V : Int)) = false := decide_eq_false (by omega)
    have hcut := cut_l A2 n2 c2 N hN
    have hcut2 := cutu_h (cutA A2 c2 N) (n2 - N) (c2 - N) V (by omega)
    have hcut3 := cutu_l (cutA A2 c2 N) (n2 - N) (c2 - N) V hVn
    have HE2 : Hid (X = ((r.1, (r.2.1.drop N).take V, (r.2.1.drop N).drop V), 0)) := Lib.hid (by rw [HX2.out, if_pos ⟨hE, hVn⟩])
    have HVN := Lib.hid (And.intro hN hVn)
    clear hlN htk
    subst hE
    go_wp2_with fail
    have K7 := Lib.hid (K6.out.step (Below.refl _ _).drew)
    have HD7 := K7.out.hd
    refine wp_region_held_drew (S := fun w' => Hc 33 w' y h) (by kernel_rfl) HD7 (fun hHeld => ?_)
    (try dsimp only at hHeld)
    refine wpAnyH_take (i := 0) (v := ?v0_1) rfl (by kernel_rfl) (by kernel_rfl) (by kernel_rfl) (fun _ _ _ h => h) (Or.inl ⟨by rfl, ?hy0_1⟩) hHeld ?_
    case hy0_1 => (intro w hSw; (try dsimp only at hSw); have q0 : ldHd 33 (.pointer (some ⟨y, 0, none⟩)) w = .ok (.value (.agg #[.int .u8 (h.f.toNat : Int), .int .u32 (h.v : Int), .slice h.A h.a.length h.c, .slice h.B h.b.length h.d])) w := ldHd_m ht_ref hSw; (try simp only [List.getElem_toArray, List.getElem_cons_zero, List.getElem_cons_succ]); go_simp <;> with_reducible rfl)
    (try simp only [Act.put, List.getElem_toArray, List.getElem_cons_zero, List.getElem_cons_succ, List.setIfInBounds_toArray, List.set_cons_zero, List.set_cons_succ])
    refine wpAnyH_take (i := 1) (v := ?v1_2) rfl (by kernel_rfl) (by kernel_rfl) (by kernel_rfl) (fun _ _ _ h => h) (Or.inl ⟨by rfl, ?hy1_2⟩) hHeld ?_
    case hy1_2 => (intro w hSw; (try dsimp only at hSw); have q0 : ldHd 33 (.pointer (some ⟨y, 0, none⟩)) w = .ok (.value (.agg #[.int .u8 (h.f.toNat : Int), .int .u32 (h.v : Int), .slice h.A h.a.length h.c, .slice h.B h.b.length h.d])) w := ldHd_m ht_ref hSw; (try simp only [List.getElem_toArray, List.getElem_cons_zero, List.getElem_cons_succ]); go_simp <;> with_reducible rfl)
    (try simp only [Act.put, List.getElem_toArray, List.getElem_cons_zero, List.getElem_cons_succ, List.setIfInBounds_toArray, List.set_cons_zero, List.set_cons_succ])
    refine wpAnyH_take (i := 2) (v := ?v2_3) rfl (by kernel_rfl) (by kernel_rfl) (by kernel_rfl) (fun _ _ _ h => h) (Or.inl ⟨by rfl, ?hy2_3⟩) hHeld ?_
    case hy2_3 => (intro w hSw; (try dsimp only at hSw); have q0 : ldHd 33 (.pointer (some ⟨y, 0, none⟩)) w = .ok (.value (.agg #[.int .u8 (h.f.toNat : Int), .int .u32 (h.v : Int), .slice h.A h.a.length h.c, .slice h.B h.b.length h.d])) w := ldHd_m ht_ref hSw; (try simp only [List.getElem_toArray, List.getElem_cons_zero, List.getElem_cons_succ]); go_simp <;> with_reducible rfl)
    (try simp only [Act.put, List.getElem_toArray, List.getElem_cons_zero, List.getElem_cons_succ, List.setIfInBounds_toArray, List.set_cons_zero, List.set_cons_succ])
    refine wpAnyH_take (i := 3) (v := ?v3_4) rfl (by kernel_rfl) (by kernel_rfl) (by kernel_rfl) (fun _ _ _ h => h) (Or.inl ⟨by rfl, ?hy3_4⟩) hHeld ?_
    case hy3_4 => (intro w hSw; (try dsimp only at hSw); have q0 : ldHd 33 (.pointer (some ⟨y, 0, none⟩)) w = .ok (.value (.agg #[.int .u8 (h.f.toNat : Int), .int .u32 (h.v : Int), .slice h.A h.a.length h.c, .slice h.B h.b.length h.d])) w := ldHd_m ht_ref hSw; (try simp only [List.getElem_toArray, List.getElem_cons_zero, List.getElem_cons_succ]); go_simp <;> with_reducible rfl)
    (try simp only [Act.put, List.getElem_toArray, List.getElem_cons_zero, List.getElem_cons_succ, List.setIfInBounds_toArray, List.set_cons_zero, List.set_cons_succ])
    refine wpAnyH_take (i := 4) (v := ?v4_5) rfl (by kernel_rfl) (by kernel_rfl) (by kernel_rfl) (fun _ _ _ h => h) (Or.inl ⟨by rfl, ?hy4_5⟩) hHeld ?_
    case hy4_5 => (intro w hSw; (try dsimp only at hSw); have q0 : ldHd 33 (.pointer (some ⟨y, 0, none⟩)) w = .ok (.value (.agg #[.int .u8 (h.f.toNat : Int), .int .u32 (h.v : Int), .slice h.A h.a.length h.c, .slice h.B h.b.length h.d])) w := ldHd_m ht_ref hSw; (try simp only [List.getElem_toArray, List.getElem_cons_zero, List.getElem_cons_succ]); go_simp <;> with_reducible rfl)
    (try simp only [Act.put, List.getElem_toArray, List.getElem_cons_zero, List.getElem_cons_succ, List.setIfInBounds_toArray, List.set_cons_zero, List.set_cons_succ])
    refine wpAnyH_take (i := 5) (v := ?v5_6) rfl (by kernel_rfl) (by kernel_rfl) (by kernel_rfl) (fun _ _ _ h => h) (Or.inl ⟨by rfl, ?hy5_6⟩) hHeld ?_
    case hy5_6 => (intro w hSw; (try dsimp only at hSw); have q0 : ldHd 33 (.pointer (some ⟨y, 0, none⟩)) w = .ok (.value (.agg #[.int .u8 (h.f.toNat : Int), .int .u32 (h.v : Int), .slice h.A h.a.length h.c, .slice h.B h.b.length h.d])) w := ldHd_m ht_ref hSw; (try simp only [List.getElem_toArray, List.getElem_cons_zero, List.getElem_cons_succ]); go_simp <;> with_reducible rfl)
    (try simp only [Act.put, List.getElem_toArray, List.getElem_cons_zero, List.getElem_cons_succ, List.setIfInBounds_toArray, List.set_cons_zero, List.set_cons_succ])
    refine wpAnyH_take (i := 6) (v := ?v6_7) rfl (by kernel_rfl) (by kernel_rfl) (by kernel_rfl) (fun _ _ _ h => h) (Or.inl ⟨by rfl, ?hy6_7⟩) hHeld ?_
    case hy6_7 => (intro w hSw; (try dsimp only at hSw); have q0 : ldHd 33 (.pointer (some ⟨y, 0, none⟩)) w = .ok (.value (.agg #[.int .u8 (h.f.toNat : Int), .int .u32 (h.v : Int), .slice h.A h.a.length h.c, .slice h.B h.b.length h.d])) w := ldHd_m ht_ref hSw; (try simp only [List.getElem_toArray, List.getElem_cons_zero, List.getElem_cons_succ]); go_simp <;> with_reducible rfl)
    (try simp only [Act.put, List.getElem_toArray, List.getElem_cons_zero, List.getElem_cons_succ, List.setIfInBounds_toArray, List.set_cons_zero, List.set_cons_succ])
    refine wpAnyH_take (i := 7) (v := ?v7_8) rfl (by kernel_rfl) (by kernel_rfl) (by kernel_rfl) (fun _ _ _ h => h) (Or.inl ⟨by rfl, ?hy7_8⟩) hHeld ?_
    case hy7_8 => (intro w hSw; (try dsimp only at hSw); have q0 : ldHd 33 (.pointer (some ⟨y, 0, none⟩)) w = .ok (.value (.agg #[.int .u8 (h.f.toNat : Int), .int .u32 (h.v : Int), .slice h.A h.a.length h.c, .slice h.B h.b.length h.d])) w := ldHd_m ht_ref hSw; (try simp only [List.getElem_toArray, List.getElem_cons_zero, List.getElem_cons_succ]); go_simp <;> with_reducible rfl)
    (try simp only [Act.put, List.getElem_toArray, List.getElem_cons_zero, List.getElem_cons_succ, List.setIfInBounds_toArray, List.set_cons_zero, List.set_cons_succ])
    obtain ⟨i, HI⟩ : ∃ i : In, Hid (i = ⟨h, cutA (cutA A2 c2 N) (c2 - N) 0, c2 - N, (r.2.1.drop N).take V, cutA (cutA A2 c2 N) (c2 - N) V, c2 - N - V, (r.2.1.drop N).drop V⟩) := ⟨_, Lib.hid rfl⟩
    have hl2 := HL2.out
    have e9 : i.val = .agg #[.int .u8 (h.f.toNat : Int), .int .u32 (h.v : Int), .slice h.A h.a.length h.c, .slice h.B h.b.length h.d, .slice (cutA (cutA A2 c2 N) (c2 - N) 0) V (c2 - N), .slice (cutA (cutA A2 c2 N) (c2 - N) V) (n2 - N - V) (c2 - N - V)] := by
      rw [HI.out]
      have l1 : ((r.2.1.drop N).take V).length = V := by rw [List.length_take, List.length_drop]; omega
      have l2 : ((r.2.1.drop N).drop V).length = n2 - N - V := by rw [List.length_drop, List.length_drop]; omega
      show Value.agg #[.int .u8 (h.f.toNat : Int), .int .u32 (h.v : Int), .slice h.A h.a.length h.c, .slice h.B h.b.length h.d, .slice (cutA (cutA A2 c2 N) (c2 - N) 0) ((r.2.1.drop N).take V).length (c2 - N), .slice (cutA (cutA A2 c2 N) (c2 - N) V) ((r.2.1.drop N).drop V).length (c2 - N - V)] = _
      rw [l1, l2]
    have HOK : Hid ((∀ w', OwnB w' w.heap.size A2 n2 c2 r.2.1 → h.own w' w.heap.size → i.ok w') ∧ i.pl = (r.1, (r.2.1.drop N).take V, (r.2.1.drop N).drop V)) := by
      have l1 : ((r.2.1.drop N).take V).length = V := by rw [List.length_take, List.length_drop]; omega
      have l2 : ((r.2.1.drop N).drop V).length = n2 - N - V := by rw [List.length_drop, List.length_drop]; omega
      refine Lib.hid ⟨?_, ?_⟩
      · intro w' hr' ho'
        have g1 : RB w' w'.heap.size (cutA A2 c2 N) (n2 - N) (r.2.1.drop N) := by
          have := hr'.rb.part (i := N) (j := n2) hN (Nat.le_refl _) hcc.1
          rwa [List.take_of_length_le (by omega)] at this
        have hc2 : n2 - N ≤ c2 - N := by omega
        have g2 := g1.part (i := 0) (j := V) (Nat.zero_le _) hVn hc2
        have g3 := g1.part (i := V) (j := n2 - N) hVn (Nat.le_refl _) hc2
        rw [List.take_of_length_le (by rw [List.length_drop]; omega)] at g3
        rw [HI.out]
        unfold maxLen at hcc
        exact ⟨ho'.ok, by rw [l1]; simpa using g2, by rw [l2]; exact g3, by simp only [l1]; unfold maxLen; omega, by simp only [l2]; unfold maxLen; omega⟩
      · rw [HI.out]; show (h.pl, _, _) = _; rw [HP.out]
    have qs := K7.out.hq.st rt_inr i
    have E9 := Lib.hid e9
    rw [e9] at qs
    clear e9 hl2
    refine wpAnyH_ready (rs := [8]) (by kernel_rfl) (by simp) ?_
    refine AllReadyH.cons rfl (fun K hK => ?_) AllReadyH.nil
    (try simp only [List.getElem_toArray, List.getElem_cons_zero, List.getElem_cons_succ])
    go_simp
    refine hK.out _ _ (K7.out.hd.oth (oth_setCells q _ _ _ _ (Oth.refl _ _)) (by simpa using K7.out.qy.symm)) (fun hHeld => ?_)
    clear hK K
    (try simp only [Act.put, List.getElem_toArray, List.getElem_cons_zero, List.getElem_cons_succ, List.setIfInBounds_toArray, List.set_cons_zero, List.set_cons_succ])
    refine wpAnyH_take (i := 9) (v := ?v9_9) rfl (by kernel_rfl) (by kernel_rfl) (by kernel_rfl) (fun _ _ _ h => h) (Or.inl ⟨by rfl, ?hy9_9⟩) hHeld ?_
    case hy9_9 => (intro w hSw; (try dsimp only at hSw); have q0 : ldHd 33 (.pointer (some ⟨y, 0, none⟩)) w = .ok (.value (.agg #[.int .u8 (h.f.toNat : Int), .int .u32 (h.v : Int), .slice h.A h.a.length h.c, .slice h.B h.b.length h.d])) w := ldHd_m ht_ref hSw; (try simp only [List.getElem_toArray, List.getElem_cons_zero, List.getElem_cons_succ]); go_simp <;> with_reducible rfl)
    (try simp only [Act.put, List.getElem_toArray, List.getElem_cons_zero, List.getElem_cons_succ, List.setIfInBounds_toArray, List.set_cons_zero, List.set_cons_succ])
    refine wpAnyH_done (by kernel_rfl) ?_ _
    go_wp2_with fail
    rw [HE2.out]
    have hX : Oth [q] w6.drew (w6.drew.setCells q 0 i.cells) := oth_setCells q _ _ _ _ (Oth.refl _ _)
    exact bodyPost_ret (v := .tuple #[i.val, .int .i64 0]) (res_rec2 rt_inr rfl _ _ q i.cells _ rfl rfl (K7.out.hq.whole i) rfl) rfl ⟨i, rfl, HOK.out.2, HOK.out.1 _ (K7.out.r.offS hX (K7.out.hq.blk.nob (by decide))) (K7.out.own.off hX (K7.out.hq.blk.nob (by decide))), K7.out.bel.trans (hX.below (fun j hj => by rw [List.mem_singleton.1 hj]; exact K7.out.lq) K7.out.bel.size)⟩
end Go.Proofs.Ytdagmhngkpbonaa
