/- Layer 11's Bytes and Make. Conditions: rows of at most a million bytes. -/
import Derived.Test.YtdagmhngkpbonaaIniP
namespace Go.Proofs.Ytdagmhngkpbonaa
open Go.RowKit
set_option linter.unusedVariables false
set_option linter.unusedSimpArgs false
attribute [local go_sem ↓] ex_ldHd ex_stHd ex_ldHr ex_stHr ex_ldI ex_ldIr ex_stI ex_stIr
/-- A row of one row, out of its block. -/
theorem RR.of_blk {T : TypeId} {w : World} {g m k : Nat} {B : Option Addr} {p : List UInt8} (h : Blk T w g [.slice B m k]) (hp : RB w w.heap.size B m p) : RR w w.heap.size (some ⟨g, 0, none⟩) 1 [p] := by
  refine ⟨rfl, fun _ => ⟨g, 0, rfl, h.lt, fun j p' hj => ?_⟩⟩
  obtain ⟨rfl, rfl⟩ : j = 0 ∧ p = p' := by
    rcases j with _ | j
    · exact ⟨rfl, by simpa using hj⟩
    · simp at hj
  have e := hp.len
  exact ⟨B, k, by rw [h.cell]; simp [e], by rw [e]; exact hp⟩
/-- What Bytes carries: the box q, literal rows; ahead of the writer, with it. -/
structure B0 (v : World) (q : Nat) (i : In) (gs : List (Nat × Value)) (w : World) : Prop where
  bel : Below v.heap.size v w
  hd : Ic 29 w q i
  lits : ∀ g ∈ gs, Blk 22 w g.1 [g.2]
structure BX (v : World) (q x : Nat) (i : In) (A : Option Addr) (s : Int × List UInt8) (gs : List (Nat × Value)) (w : World) : Prop where
  bel : Below v.heap.size v w
  lx : v.heap.size ≤ x
  wr : WrR w x v.heap.size A s
  hd : Ic 29 w q i
  lits : ∀ g ∈ gs, Blk 22 w g.1 [g.2]
section
variable {v w w' : World} {q x n : Nat} {i : In} {A B : Option Addr} {s s' : Int × List UInt8} {gs : List (Nat × Value)} {l : List UInt8} {val : Value} {e : Ending}
theorem B0.lit (k : B0 v q i gs w) (u : Value) : B0 v q i ((w.heap.size, u) :: gs) (w.alloc (.cells #[u] 22)) :=
  ⟨bel_next k.bel (below_alloc _ _), k.hd.step (below_alloc _ _), fun g hg => by
    rcases List.mem_cons.1 hg with rfl | hg
    · exact Blk.new w _ [u] _ rfl
    · exact (k.lits g hg).step (below_alloc _ _)⟩
theorem B0.write (k : B0 v q i gs w) (hx : w.heap.size ≤ x) (hb : Below w.heap.size w w') (hw : WrR w' x v.heap.size none (0, [])) : BX v q x i none (0, []) gs w' :=
  ⟨bel_next k.bel hb, Nat.le_trans k.bel.size hx, hw, k.hd.step hb, fun g hg => (k.lits g hg).step hb⟩
theorem BX.lit (k : BX v q x i A s gs w) (u : Value) : BX v q x i A s ((w.heap.size, u) :: gs) (w.alloc (.cells #[u] 22)) :=
  ⟨bel_next k.bel (below_alloc _ _), k.lx, k.wr.step (below_alloc _ _), k.hd.step (below_alloc _ _), fun g hg => by
    rcases List.mem_cons.1 hg with rfl | hg
    · exact Blk.new w _ [u] _ rfl
    · exact (k.lits g hg).step (below_alloc _ _)⟩
theorem BX.row (k : BX v q x i A s gs w) (r : RB v v.heap.size B n l) : RB w w.heap.size B n l := r.step k.bel
theorem BX.away (k : BX v q x i A s gs w) (r : RB v v.heap.size B n l) : 0 < n → ∀ g o, B = some ⟨g, o, none⟩ → g ∉ blkO A := fun hn g o e hg => by
  have h1 := r.ltB hn e
  have h2 := (k.wr.own g hg).2.1
  omega
/-- A record that is no bytes and no writer is left alone by a writer's call. -/
theorem Blk.wcall {T : TypeId} {y : Nat} {cs : List Value} {base : Nat} (k : Blk T w y cs) (hT : T ≠ 5) (hT2 : T ≠ 89) (hw : WrR w x base A s) (ho : Oth (x :: blkO A) w w') : Blk T w' y cs :=
  k.oth ho (fun hm => by
    rcases List.mem_cons.1 hm with e1 | hm
    · obtain ⟨n, c, t, _⟩ := hw
      exact k.ne2 t hT2 e1
    · obtain ⟨a, ea, hk⟩ := mem_blkO hm
      obtain ⟨n, c, _, t⟩ := hw
      exact (k.nob hT).own t a.block 0 (by rw [ea]; exact congrArg some (t.spot a ea).1) (by simp [hk]))
theorem BX.ret (k : BX v q x i A s gs w) (r : RetW WrR x v.heap.size A s' val w e w') : e = .returned val ∧ ∃ A', BX v q x i A' s' gs w' := by
  obtain ⟨he, A', h1, h2, h3⟩ := r
  refine ⟨he, A', k.bel.trans (h2.below (fun j hj => ?_) k.bel.size), k.lx, h3, k.hd.blk.wcall (by decide) (by decide) k.wr h2, fun g hg => (k.lits g hg).wcall (by decide) (by decide) k.wr h2⟩
  rcases List.mem_cons.1 hj with rfl | hj
  · exact k.lx
  · exact (k.wr.own j hj).2.1
end
theorem longP_len (p : List UInt8) : (longP p).length ≤ 8 + p.length := by
  unfold longP
  rw [List.length_append, leastL_len]
  have := sz_le (clsL p.length)
  omega
attribute [local irreducible] chk byt rawP putS longP doneS
set_option maxRecDepth 100000 in
set_option maxHeartbeats 4000000 in
theorem ibytes_any (i : In) (w : World) (hk : i.ok w) (ht : i.t.length ≤ 800000) (hr : i.r.length ≤ 1000000) (hs : i.t.length + i.r.length ≤ 900000) :
    Calls Try.prog 16 #[i.val] w (RetBE (ibyt i.pl).1.length (ibyt i.pl).1 (ibyt i.pl).2 w) := by
  have HK := Lib.hid hk
  have HCC := Lib.hid (chk_cases i.h.pl)
  have HGG := Lib.hid (chk_good (p := i.h.pl))
  obtain ⟨k, HKK⟩ : ∃ k, Hid (k = chk i.h.pl) := ⟨_, Lib.hid rfl⟩
  have hX : ibyt i.pl = if k ≠ 0 then ([], k) else (irawP i.pl, 0) := by rw [HKK.out]; rfl
  obtain ⟨X, HX⟩ : ∃ X, Hid (X = ibyt i.pl) := ⟨_, Lib.hid rfl⟩
  rw [← HX.out] at hX ⊢
  have HX2 := Lib.hid hX
  clear hk hX
  go_enter Try.func16, Try.ntmps16
  go_wp2_with (first
    | (with_reducible show wpList _ _ _ (⟨_, .box _ (.tmp 0), _, _, _, none⟩ :: _) _ _; refine wpList_boxI rfl _ (.tmp 0) rfl i rfl ?_; intro w1 q hc1 hb1 hx1; have H1 := Lib.hid (And.intro hc1 hb1); clear hc1 hb1 hx1)
    | (refine wpList_ldI rt_ini rfl (.tmp 1) rfl q rfl i (by exact H1.out.1) ?_))
  refine (chk_any i _).mono ?_
  rw [← HKK.out]
  rintro e w2 ⟨rfl, hb2⟩
  have H2 := Lib.hid (And.intro (H1.out.1.step hb2) (bel_next H1.out.2 hb2))
  clear hb2 H1
  by_cases hk0 : k = 0
  rotate_left
  · have hb : (k != 0) = true := by simpa using hk0
    have HE : Hid (X = ([], k)) := Lib.hid (by rw [HX2.out, if_pos hk0])
    go_wp2_with fail
    rw [HE.out]
    go_ret2
    exact ⟨none, 0, rfl, OwnB.nil_ _ _, H2.out.2⟩
  have hb : (k != 0) = false := by rw [hk0]; rfl
  have HE : Hid (X = (irawP i.pl, 0)) := Lib.hid (by rw [HX2.out, if_neg (fun h => h hk0)])
  have hg := HGG.out (by rw [← HKK.out]; exact hk0)
  have hbt := byt_good hg.1
  have hlen : (rawP i.h.pl).length ≤ 1000 := by rw [raw_len]; have := hg.1.a; have := hg.1.b; omega
  have HG := Lib.hid hg
  obtain ⟨L, HL⟩ : ∃ L, Hid (L = rawP i.h.pl) := ⟨_, Lib.hid rfl⟩
  rw [← HL.out] at hbt hlen
  have HB := Lib.hid hbt
  obtain ⟨m, hm⟩ : ∃ m, L.length = m := ⟨_, rfl⟩
  rw [hm] at hlen
  have HM := Lib.hid hm
  clear hg hbt hm
  go_wp2_with (first
    | (refine wpList_ldIh ht_head rfl (.tmp 13) rfl q rfl i (by exact H2.out.1) ?_))
  refine (hbytes_any i.h _ (by exact HK.out.h.step H2.out.2) (by have : i.h.a.length ≤ 20 := HG.out.2.2.2.1; omega) (by have : i.h.b.length ≤ 20 := HG.out.2.2.2.2; omega)).mono ?_
  rw [HB.out]
  rintro e w3 ⟨A3, c3, rfl, ho3, hb3⟩
  rw [HM.out] at ho3 ⊢
  have H3 := Lib.hid (And.intro (H2.out.1.step hb3) (And.intro (bel_next H2.out.2 hb3) (ho3.base_le H2.out.2.size)))
  clear hb3 ho3 H2
  go_wp2_with fail
  have R3 := Lib.hid H3.out.2.2.rb
  have RT3 := Lib.hid (HK.out.t.step H3.out.2.1)
  have RR3 := Lib.hid (HK.out.r.step H3.out.2.1)
  have S1 : Hid (putS L 0 (0, []) = (0, L)) := Lib.hid (by rw [putS_0]; simp)
  have S2 : Hid (putS (longP i.t) 0 (0, L) = (0, L ++ longP i.t)) := Lib.hid (putS_0 _ _)
  obtain ⟨M, HMM⟩ : ∃ M, Hid (M = L ++ longP i.t) := ⟨_, Lib.hid rfl⟩
  have HLP : Hid (M.length ≤ m + 8 + i.t.length) := Lib.hid (by rw [HMM.out, List.length_append, HM.out]; have := longP_len i.t; omega)
  rw [← HMM.out] at S2
  have S3 : Hid (putS i.r 0 (0, M) = (0, M ++ i.r)) := Lib.hid (putS_0 _ _)
  obtain ⟨F, HF⟩ : ∃ F, Hid (F = M ++ i.r) := ⟨_, Lib.hid rfl⟩
  rw [← HF.out] at S3
  have HRW : Hid (irawP i.pl = F) := Lib.hid (by rw [HF.out, HMM.out, HL.out]; rfl)
  have K0 : Hid (B0 w3 q i [] w3.drew) := Lib.hid ⟨(Below.refl _ _).drew, H3.out.1, fun g hg => (by cases hg)⟩
  have HD := K0.out.hd
  refine wp_region_held_drew (S := fun w' => Ic 29 w' q i) (by kernel_rfl) HD (fun hHeld => ?_)
  (try dsimp only at hHeld)
  refine wpAnyH_take (i := 1) (v := ?v1_1) rfl (by kernel_rfl) (by kernel_rfl) (by kernel_rfl) (fun _ _ _ h => h) (Or.inl ⟨by rfl, ?hy1_1⟩) hHeld ?_
  case hy1_1 => (intro w hSw; (try dsimp only at hSw); have q0 := hSw.c4; have q1 := hSw.c5; (try simp only [List.getElem_toArray, List.getElem_cons_zero, List.getElem_cons_succ]); go_simp <;> with_reducible rfl)
  (try simp only [Act.put, List.getElem_toArray, List.getElem_cons_zero, List.getElem_cons_succ, List.setIfInBounds_toArray, List.set_cons_zero, List.set_cons_succ])
  refine wpAnyH_take (i := 4) (v := ?v4_2) rfl (by kernel_rfl) (by kernel_rfl) (by kernel_rfl) (fun _ _ _ h => h) (Or.inl ⟨by rfl, ?hy4_2⟩) hHeld ?_
  case hy4_2 => (intro w hSw; (try dsimp only at hSw); have q0 := hSw.c4; have q1 := hSw.c5; (try simp only [List.getElem_toArray, List.getElem_cons_zero, List.getElem_cons_succ]); go_simp <;> with_reducible rfl)
  (try simp only [Act.put, List.getElem_toArray, List.getElem_cons_zero, List.getElem_cons_succ, List.setIfInBounds_toArray, List.set_cons_zero, List.set_cons_succ])
  refine wpAnyH_take (i := 5) (v := ?v5_3) rfl (by kernel_rfl) (by kernel_rfl) (by kernel_rfl) (fun _ _ _ h => h) (Or.inl ⟨by rfl, ?hy5_3⟩) hHeld ?_
  case hy5_3 => (intro w hSw; (try dsimp only at hSw); have q0 := hSw.c4; have q1 := hSw.c5; (try simp only [List.getElem_toArray, List.getElem_cons_zero, List.getElem_cons_succ]); go_simp <;> with_reducible rfl)
  (try simp only [Act.put, List.getElem_toArray, List.getElem_cons_zero, List.getElem_cons_succ, List.setIfInBounds_toArray, List.set_cons_zero, List.set_cons_succ])
  refine wpAnyH_take (i := 7) (v := ?v7_4) rfl (by kernel_rfl) (by kernel_rfl) (by kernel_rfl) (fun _ _ _ h => h) (Or.inl ⟨by rfl, ?hy7_4⟩) hHeld ?_
  case hy7_4 => (intro w hSw; (try dsimp only at hSw); have q0 := hSw.c4; have q1 := hSw.c5; (try simp only [List.getElem_toArray, List.getElem_cons_zero, List.getElem_cons_succ]); go_simp <;> with_reducible rfl)
  (try simp only [Act.put, List.getElem_toArray, List.getElem_cons_zero, List.getElem_cons_succ, List.setIfInBounds_toArray, List.set_cons_zero, List.set_cons_succ])
  refine wpAnyH_take (i := 8) (v := ?v8_5) rfl (by kernel_rfl) (by kernel_rfl) (by kernel_rfl) (fun _ _ _ h => h) (Or.inl ⟨by rfl, ?hy8_5⟩) hHeld ?_
  case hy8_5 => (intro w hSw; (try dsimp only at hSw); have q0 := hSw.c4; have q1 := hSw.c5; (try simp only [List.getElem_toArray, List.getElem_cons_zero, List.getElem_cons_succ]); go_simp <;> with_reducible rfl)
  (try simp only [Act.put, List.getElem_toArray, List.getElem_cons_zero, List.getElem_cons_succ, List.setIfInBounds_toArray, List.set_cons_zero, List.set_cons_succ])
  refine wpAnyH_ready (rs := [0, 2, 9]) (by kernel_rfl) (by simp) ?_
  refine AllReadyH.cons rfl (fun K hK => ?r1_0) (AllReadyH.cons rfl (fun K hK => ?r1_2) (AllReadyH.cons rfl (fun K hK => ?r1_9) AllReadyH.nil))
  case r1_0 =>
    (try simp only [List.getElem_toArray, List.getElem_cons_zero, List.getElem_cons_succ])
    go_simp
    refine (write_any _ w3.heap.size (by exact K0.out.bel.size)).mono ?_
    rintro e u2 ⟨x, rfl, hx, hb, hw⟩
    have B2 := Lib.hid (K0.out.write hx hb hw)
    clear hx hb hw
    (try go_wp2_with fail)
    refine hK.out _ _ B2.out.hd (fun hHeld => ?_)
    clear hK K
    (try simp only [Act.put, List.getElem_toArray, List.getElem_cons_zero, List.getElem_cons_succ, List.setIfInBounds_toArray, List.set_cons_zero, List.set_cons_succ])
    refine wpAnyH_ready (rs := [2, 9]) (by kernel_rfl) (by simp) ?_
    refine AllReadyH.cons rfl (fun K hK => ?r3_2) (AllReadyH.cons rfl (fun K hK => ?r3_9) AllReadyH.nil)
    case r3_2 =>
      (try simp only [List.getElem_toArray, List.getElem_cons_zero, List.getElem_cons_succ])
      go_simp
      have B4 := Lib.hid (B2.out.lit (.slice A3 m c3))
      refine hK.out _ _ B4.out.hd (fun hHeld => ?_)
      clear hK K
      (try simp only [Act.put, List.getElem_toArray, List.getElem_cons_zero, List.getElem_cons_succ, List.setIfInBounds_toArray, List.set_cons_zero, List.set_cons_succ])
      refine wpAnyH_ready (rs := [3, 9]) (by kernel_rfl) (by simp) ?_
      refine AllReadyH.cons rfl (fun K hK => ?r5_3) (AllReadyH.cons rfl (fun K hK => ?r5_9) AllReadyH.nil)
      case r5_3 =>
        (try simp only [List.getElem_toArray, List.getElem_cons_zero, List.getElem_cons_succ])
        go_simp
        refine (wbytes_any x w3.heap.size none _ 1 1 [L] L _ _ B4.out.wr (by exact (RR.of_blk (T := 22) (k := c3) (by simpa using (B4.out.lits _ (.head _))) (B4.out.row R3.out))) (by simp) (by omega) (by rw [HM.out]; omega) B4.out.bel.size (by simp)).mono ?_
        rw [S1.out]
        intro e u6 k
        obtain ⟨rfl, A6, k'⟩ := B4.out.ret k
        have B6 := Lib.hid k'
        clear k k'
        (try go_wp2_with fail)
        refine hK.out _ _ B6.out.hd (fun hHeld => ?_)
        clear hK K
        (try simp only [Act.put, List.getElem_toArray, List.getElem_cons_zero, List.getElem_cons_succ, List.setIfInBounds_toArray, List.set_cons_zero, List.set_cons_succ])
        refine wpAnyH_ready (rs := [6, 9]) (by kernel_rfl) (by simp) ?_
        refine AllReadyH.cons rfl (fun K hK => ?r7_6) (AllReadyH.cons rfl (fun K hK => ?r7_9) AllReadyH.nil)
        case r7_6 =>
          (try simp only [List.getElem_toArray, List.getElem_cons_zero, List.getElem_cons_succ])
          go_simp
          refine (wlong_any x w3.heap.size A6 i.T i.t.length i.e i.t _ _ B6.out.wr (by exact B6.out.row RT3.out) (B6.out.away RT3.out) (by omega) B6.out.bel.size (by simp only; rw [HM.out]; omega)).mono ?_
          rw [S2.out]
          intro e u8 k
          obtain ⟨rfl, A8, k'⟩ := B6.out.ret k
          have B8 := Lib.hid k'
          clear k k'
          (try go_wp2_with fail)
          refine hK.out _ _ B8.out.hd (fun hHeld => ?_)
          clear hK K
          (try simp only [Act.put, List.getElem_toArray, List.getElem_cons_zero, List.getElem_cons_succ, List.setIfInBounds_toArray, List.set_cons_zero, List.set_cons_succ])
          refine wpAnyH_ready (rs := [9]) (by kernel_rfl) (by simp) ?_
          refine AllReadyH.cons rfl (fun K hK => ?r9_9) AllReadyH.nil
          case r9_9 =>
            (try simp only [List.getElem_toArray, List.getElem_cons_zero, List.getElem_cons_succ])
            go_simp
            have B10 := Lib.hid (B8.out.lit (.slice i.R i.r.length i.g))
            refine hK.out _ _ B10.out.hd (fun hHeld => ?_)
            clear hK K
            (try simp only [Act.put, List.getElem_toArray, List.getElem_cons_zero, List.getElem_cons_succ, List.setIfInBounds_toArray, List.set_cons_zero, List.set_cons_succ])
            refine wpAnyH_ready (rs := [10]) (by kernel_rfl) (by simp) ?_
            refine AllReadyH.cons rfl (fun K hK => ?r11_10) AllReadyH.nil
            case r11_10 =>
              (try simp only [List.getElem_toArray, List.getElem_cons_zero, List.getElem_cons_succ])
              go_simp
              refine (wbytes_any x w3.heap.size A8 _ 1 1 [i.r] i.r _ _ B10.out.wr (by exact (RR.of_blk (T := 22) (k := i.g) (by simpa using (B10.out.lits _ (.head _))) (B10.out.row RR3.out))) (by simp) (by omega) (by omega) B10.out.bel.size (by simp only; have := HLP.out; omega)).mono ?_
              rw [S3.out]
              intro e u12 k
              obtain ⟨rfl, A12, k'⟩ := B10.out.ret k
              have B12 := Lib.hid k'
              clear k k'
              (try go_wp2_with fail)
              refine hK.out _ _ B12.out.hd (fun hHeld => ?_)
              clear hK K
              (try simp only [Act.put, List.getElem_toArray, List.getElem_cons_zero, List.getElem_cons_succ, List.setIfInBounds_toArray, List.set_cons_zero, List.set_cons_succ])
              refine wpAnyH_ready (rs := [11]) (by kernel_rfl) (by simp) ?_
              refine AllReadyH.cons rfl (fun K hK => ?_) AllReadyH.nil
              (try simp only [List.getElem_toArray, List.getElem_cons_zero, List.getElem_cons_succ])
              go_simp
              refine (wdone_any x w3.heap.size A12 _ _ B12.out.wr (by simp only; have := HLP.out; rw [HF.out, List.length_append]; omega)).mono ?_
              rw [doneS_0]
              rintro e u13 ⟨A13, c13, rfl, ho, hb⟩
              have O13 := Lib.hid (And.intro (ho.base_le B12.out.bel.size) (bel_next B12.out.bel hb))
              have I13 := Lib.hid (B12.out.hd.step hb)
              clear ho hb
              (try go_wp2_with fail)
              refine hK.out _ _ I13.out (fun hHeld => ?_)
              clear hK K
              (try simp only [Act.put, List.getElem_toArray, List.getElem_cons_zero, List.getElem_cons_succ, List.setIfInBounds_toArray, List.set_cons_zero, List.set_cons_succ])
              refine wpAnyH_take (i := 12) (v := ?v12_6) rfl (by kernel_rfl) (by kernel_rfl) (by kernel_rfl) (fun _ _ _ h => h) (Or.inl ⟨by rfl, ?hy12_6⟩) hHeld ?_
              case hy12_6 => (intro w hSw; (try dsimp only at hSw); have q0 := hSw.c4; have q1 := hSw.c5; (try simp only [List.getElem_toArray, List.getElem_cons_zero, List.getElem_cons_succ]); go_simp <;> with_reducible rfl)
              (try simp only [Act.put, List.getElem_toArray, List.getElem_cons_zero, List.getElem_cons_succ, List.setIfInBounds_toArray, List.set_cons_zero, List.set_cons_succ])
              refine wpAnyH_take (i := 13) (v := ?v13_7) rfl (by kernel_rfl) (by kernel_rfl) (by kernel_rfl) (fun _ _ _ h => h) (Or.inl ⟨by rfl, ?hy13_7⟩) hHeld ?_
              case hy13_7 => (intro w hSw; (try dsimp only at hSw); have q0 := hSw.c4; have q1 := hSw.c5; (try simp only [List.getElem_toArray, List.getElem_cons_zero, List.getElem_cons_succ]); go_simp <;> with_reducible rfl)
              (try simp only [Act.put, List.getElem_toArray, List.getElem_cons_zero, List.getElem_cons_succ, List.setIfInBounds_toArray, List.set_cons_zero, List.set_cons_succ])
              refine wpAnyH_take (i := 14) (v := ?v14_8) rfl (by kernel_rfl) (by kernel_rfl) (by kernel_rfl) (fun _ _ _ h => h) (Or.inl ⟨by rfl, ?hy14_8⟩) hHeld ?_
              case hy14_8 => (intro w hSw; (try dsimp only at hSw); have q0 := hSw.c4; have q1 := hSw.c5; (try simp only [List.getElem_toArray, List.getElem_cons_zero, List.getElem_cons_succ]); go_simp <;> with_reducible rfl)
              (try simp only [Act.put, List.getElem_toArray, List.getElem_cons_zero, List.getElem_cons_succ, List.setIfInBounds_toArray, List.set_cons_zero, List.set_cons_succ])
              refine wpAnyH_take (i := 15) (v := ?v15_9) rfl (by kernel_rfl) (by kernel_rfl) (by kernel_rfl) (fun _ _ _ h => h) (Or.inl ⟨by rfl, ?hy15_9⟩) hHeld ?_
              case hy15_9 => (intro w hSw; (try dsimp only at hSw); have q0 := hSw.c4; have q1 := hSw.c5; (try simp only [List.getElem_toArray, List.getElem_cons_zero, List.getElem_cons_succ]); go_simp <;> with_reducible rfl)
              (try simp only [Act.put, List.getElem_toArray, List.getElem_cons_zero, List.getElem_cons_succ, List.setIfInBounds_toArray, List.set_cons_zero, List.set_cons_succ])
              refine wpAnyH_done (by kernel_rfl) ?_ _
              go_wp2_with fail
              rw [HE.out]
              go_ret2
              exact ⟨A13, c13, by rw [HRW.out]; rfl, by rw [HRW.out]; exact O13.out.1.base_le H3.out.2.1.size, bel_next H3.out.2.1 O13.out.2⟩
        case r7_9 =>
          (try simp only [List.getElem_toArray, List.getElem_cons_zero, List.getElem_cons_succ])
          go_simp
          have B14 := Lib.hid (B6.out.lit (.slice i.R i.r.length i.g))
          refine hK.out _ _ B14.out.hd (fun hHeld => ?_)
          clear hK K
          (try simp only [Act.put, List.getElem_toArray, List.getElem_cons_zero, List.getElem_cons_succ, List.setIfInBounds_toArray, List.set_cons_zero, List.set_cons_succ])
          refine wpAnyH_ready (rs := [6]) (by kernel_rfl) (by simp) ?_
          refine AllReadyH.cons rfl (fun K hK => ?r15_6) AllReadyH.nil
          case r15_6 =>
            (try simp only [List.getElem_toArray, List.getElem_cons_zero, List.getElem_cons_succ])
            go_simp
            refine (wlong_any x w3.heap.size A6 i.T i.t.length i.e i.t _ _ B14.out.wr (by exact B14.out.row RT3.out) (B14.out.away RT3.out) (by omega) B14.out.bel.size (by simp only; rw [HM.out]; omega)).mono ?_
            rw [S2.out]
            intro e u16 k
            obtain ⟨rfl, A16, k'⟩ := B14.out.ret k
            have B16 := Lib.hid k'
            clear k k'
            (try go_wp2_with fail)
            refine hK.out _ _ B16.out.hd (fun hHeld => ?_)
            clear hK K
            (try simp only [Act.put, List.getElem_toArray, List.getElem_cons_zero, List.getElem_cons_succ, List.setIfInBounds_toArray, List.set_cons_zero, List.set_cons_succ])
            refine wpAnyH_ready (rs := [10]) (by kernel_rfl) (by simp) ?_
            refine AllReadyH.cons rfl (fun K hK => ?r17_10) AllReadyH.nil
            case r17_10 =>
              (try simp only [List.getElem_toArray, List.getElem_cons_zero, List.getElem_cons_succ])
              go_simp
              refine (wbytes_any x w3.heap.size A16 _ 1 1 [i.r] i.r _ _ B16.out.wr (by exact (RR.of_blk (T := 22) (k := i.g) (by simpa using (B16.out.lits _ (.head _))) (B16.out.row RR3.out))) (by simp) (by omega) (by omega) B16.out.bel.size (by simp only; have := HLP.out; omega)).mono ?_
              rw [S3.out]
              intro e u18 k
              obtain ⟨rfl, A18, k'⟩ := B16.out.ret k
              have B18 := Lib.hid k'
              clear k k'
              (try go_wp2_with fail)
              refine hK.out _ _ B18.out.hd (fun hHeld => ?_)
              clear hK K
              (try simp only [Act.put, List.getElem_toArray, List.getElem_cons_zero, List.getElem_cons_succ, List.setIfInBounds_toArray, List.set_cons_zero, List.set_cons_succ])
              refine wpAnyH_ready (rs := [11]) (by kernel_rfl) (by simp) ?_
              refine AllReadyH.cons rfl (fun K hK => ?_) AllReadyH.nil
              (try simp only [List.getElem_toArray, List.getElem_cons_zero, List.getElem_cons_succ])
              go_simp
              refine (wdone_any x w3.heap.size A18 _ _ B18.out.wr (by simp only; have := HLP.out; rw [HF.out, List.length_append]; omega)).mono ?_
              rw [doneS_0]
              rintro e u19 ⟨A19, c19, rfl, ho, hb⟩
              have O19 := Lib.hid (And.intro (ho.base_le B18.out.bel.size) (bel_next B18.out.bel hb))
              have I19 := Lib.hid (B18.out.hd.step hb)
              clear ho hb
              (try go_wp2_with fail)
              refine hK.out _ _ I19.out (fun hHeld => ?_)
              clear hK K
              (try simp only [Act.put, List.getElem_toArray, List.getElem_cons_zero, List.getElem_cons_succ, List.setIfInBounds_toArray, List.set_cons_zero, List.set_cons_succ])
              refine wpAnyH_take (i := 12) (v := ?v12_10) rfl (by kernel_rfl) (by kernel_rfl) (by kernel_rfl) (fun _ _ _ h => h) (Or.inl ⟨by rfl, ?hy12_10⟩) hHeld ?_
              case hy12_10 => (intro w hSw; (try dsimp only at hSw); have q0 := hSw.c4; have q1 := hSw.c5; (try simp only [List.getElem_toArray, List.getElem_cons_zero, List.getElem_cons_succ]); go_simp <;> with_reducible rfl)
              (try simp only [Act.put, List.getElem_toArray, List.getElem_cons_zero, List.getElem_cons_succ, List.setIfInBounds_toArray, List.set_cons_zero, List.set_cons_succ])
              refine wpAnyH_take (i := 13) (v := ?v13_11) rfl (by kernel_rfl) (by kernel_rfl) (by kernel_rfl) (fun _ _ _ h => h) (Or.inl ⟨by rfl, ?hy13_11⟩) hHeld ?_
              case hy13_11 => (intro w hSw; (try dsimp only at hSw); have q0 := hSw.c4; have q1 := hSw.c5; (try simp only [List.getElem_toArray, List.getElem_cons_zero, List.getElem_cons_succ]); go_simp <;> with_reducible rfl)
              (try simp only [Act.put, List.getElem_toArray, List.getElem_cons_zero, List.getElem_cons_succ, List.setIfInBounds_toArray, List.set_cons_zero, List.set_cons_succ])
              refine wpAnyH_take (i := 14) (v := ?v14_12) rfl (by kernel_rfl) (by kernel_rfl) (by kernel_rfl) (fun _ _ _ h => h) (Or.inl ⟨by rfl, ?hy14_12⟩) hHeld ?_
              case hy14_12 => (intro w hSw; (try dsimp only at hSw); have q0 := hSw.c4; have q1 := hSw.c5; (try simp only [List.getElem_toArray, List.getElem_cons_zero, List.getElem_cons_succ]); go_simp <;> with_reducible rfl)
              (try simp only [Act.put, List.getElem_toArray, List.getElem_cons_zero, List.getElem_cons_succ, List.setIfInBounds_toArray, List.set_cons_zero, List.set_cons_succ])
              refine wpAnyH_take (i := 15) (v := ?v15_13) rfl (by kernel_rfl) (by kernel_rfl) (by kernel_rfl) (fun _ _ _ h => h) (Or.inl ⟨by rfl, ?hy15_13⟩) hHeld ?_
              case hy15_13 => (intro w hSw; (try dsimp only at hSw); have q0 := hSw.c4; have q1 := hSw.c5; (try simp only [List.getElem_toArray, List.getElem_cons_zero, List.getElem_cons_succ]); go_simp <;> with_reducible rfl)
              (try simp only [Act.put, List.getElem_toArray, List.getElem_cons_zero, List.getElem_cons_succ, List.setIfInBounds_toArray, List.set_cons_zero, List.set_cons_succ])
              refine wpAnyH_done (by kernel_rfl) ?_ _
              go_wp2_with fail
              rw [HE.out]
              go_ret2
              exact ⟨A19, c19, by rw [HRW.out]; rfl, by rw [HRW.out]; exact O19.out.1.base_le H3.out.2.1.size, bel_next H3.out.2.1 O19.out.2⟩
      case r5_9 =>
        (try simp only [List.getElem_toArray, List.getElem_cons_zero, List.getElem_cons_succ])
        go_simp
        have B20 := Lib.hid (B4.out.lit (.slice i.R i.r.length i.g))
        refine hK.out _ _ B20.out.hd (fun hHeld => ?_)
        clear hK K
        (try simp only [Act.put, List.getElem_toArray, List.getElem_cons_zero, List.getElem_cons_succ, List.setIfInBounds_toArray, List.set_cons_zero, List.set_cons_succ])
        refine wpAnyH_ready (rs := [3]) (by kernel_rfl) (by simp) ?_
        refine AllReadyH.cons rfl (fun K hK => ?r21_3) AllReadyH.nil
        case r21_3 =>
          (try simp only [List.getElem_toArray, List.getElem_cons_zero, List.getElem_cons_succ])
          go_simp
          refine (wbytes_any x w3.heap.size none _ 1 1 [L] L _ _ B20.out.wr (by exact (RR.of_blk (T := 22) (k := c3) (by simpa using (B20.out.lits _ (.tail _ (.head _)))) (B20.out.row R3.out))) (by simp) (by omega) (by rw [HM.out]; omega) B20.out.bel.size (by simp)).mono ?_
          rw [S1.out]
          intro e u22 k
          obtain ⟨rfl, A22, k'⟩ := B20.out.ret k
          have B22 := Lib.hid k'
          clear k k'
          (try go_wp2_with fail)
          refine hK.out _ _ B22.out.hd (fun hHeld => ?_)
          clear hK K
          (try simp only [Act.put, List.getElem_toArray, List.getElem_cons_zero, List.getElem_cons_succ, List.setIfInBounds_toArray, List.set_cons_zero, List.set_cons_succ])
          refine wpAnyH_ready (rs := [6]) (by kernel_rfl) (by simp) ?_
          refine AllReadyH.cons rfl (fun K hK => ?r23_6) AllReadyH.nil
          case r23_6 =>
            (try simp only [List.getElem_toArray, List.getElem_cons_zero, List.getElem_cons_succ])
            go_simp
            refine (wlong_any x w3.heap.size A22 i.T i.t.length i.e i.t _ _ B22.out.wr (by exact B22.out.row RT3.out) (B22.out.away RT3.out) (by omega) B22.out.bel.size (by simp only; rw [HM.out]; omega)).mono ?_
            rw [S2.out]
            intro e u24 k
            obtain ⟨rfl, A24, k'⟩ := B22.out.ret k
            have B24 := Lib.hid k'
            clear k k'
            (try go_wp2_with fail)
            refine hK.out _ _ B24.out.hd (fun hHeld => ?_)
            clear hK K
            (try simp only [Act.put, List.getElem_toArray, List.getElem_cons_zero, List.getElem_cons_succ, List.setIfInBounds_toArray, List.set_cons_zero, List.set_cons_succ])
            refine wpAnyH_ready (rs := [10]) (by kernel_rfl) (by simp) ?_
            refine AllReadyH.cons rfl (fun K hK => ?r25_10) AllReadyH.nil
            case r25_10 =>
              (try simp only [List.getElem_toArray, List.getElem_cons_zero, List.getElem_cons_succ])
              go_simp
              refine (wbytes_any x w3.heap.size A24 _ 1 1 [i.r] i.r _ _ B24.out.wr (by exact (RR.of_blk (T := 22) (k := i.g) (by simpa using (B24.out.lits _ (.head _))) (B24.out.row RR3.out))) (by simp) (by omega) (by omega) B24.out.bel.size (by simp only; have := HLP.out; omega)).mono ?_
              rw [S3.out]
              intro e u26 k
              obtain ⟨rfl, A26, k'⟩ := B24.out.ret k
              have B26 := Lib.hid k'
              clear k k'
              (try go_wp2_with fail)
              refine hK.out _ _ B26.out.hd (fun hHeld => ?_)
              clear hK K
              (try simp only [Act.put, List.getElem_toArray, List.getElem_cons_zero, List.getElem_cons_succ, List.setIfInBounds_toArray, List.set_cons_zero, List.set_cons_succ])
              refine wpAnyH_ready (rs := [11]) (by kernel_rfl) (by simp) ?_
              refine AllReadyH.cons rfl (fun K hK => ?_) AllReadyH.nil
              (try simp only [List.getElem_toArray, List.getElem_cons_zero, List.getElem_cons_succ])
              go_simp
              refine (wdone_any x w3.heap.size A26 _ _ B26.out.wr (by simp only; have := HLP.out; rw [HF.out, List.length_append]; omega)).mono ?_
              rw [doneS_0]
              rintro e u27 ⟨A27, c27, rfl, ho, hb⟩
              have O27 := Lib.hid (And.intro (ho.base_le B26.out.bel.size) (bel_next B26.out.bel hb))
              have I27 := Lib.hid (B26.out.hd.step hb)
              clear ho hb
              (try go_wp2_with fail)
              refine hK.out _ _ I27.out (fun hHeld => ?_)
              clear hK K
              (try simp only [Act.put, List.getElem_toArray, List.getElem_cons_zero, List.getElem_cons_succ, List.setIfInBounds_toArray, List.set_cons_zero, List.set_cons_succ])
              refine wpAnyH_take (i := 12) (v := ?v12_14) rfl (by kernel_rfl) (by kernel_rfl) (by kernel_rfl) (fun _ _ _ h => h) (Or.inl ⟨by rfl, ?hy12_14⟩) hHeld ?_
              case hy12_14 => (intro w hSw; (try dsimp only at hSw); have q0 := hSw.c4; have q1 := hSw.c5; (try simp only [List.getElem_toArray, List.getElem_cons_zero, List.getElem_cons_succ]); go_simp <;> with_reducible rfl)
              (try simp only [Act.put, List.getElem_toArray, List.getElem_cons_zero, List.getElem_cons_succ, List.setIfInBounds_toArray, List.set_cons_zero, List.set_cons_succ])
              refine wpAnyH_take (i := 13) (v := ?v13_15) rfl (by kernel_rfl) (by kernel_rfl) (by kernel_rfl) (fun _ _ _ h => h) (Or.inl ⟨by rfl, ?hy13_15⟩) hHeld ?_
              case hy13_15 => (intro w hSw; (try dsimp only at hSw); have q0 := hSw.c4; have q1 := hSw.c5; (try simp only [List.getElem_toArray, List.getElem_cons_zero, List.getElem_cons_succ]); go_simp <;> with_reducible rfl)
              (try simp only [Act.put, List.getElem_toArray, List.getElem_cons_zero, List.getElem_cons_succ, List.setIfInBounds_toArray, List.set_cons_zero, List.set_cons_succ])
              refine wpAnyH_take (i := 14) (v := ?v14_16) rfl (by kernel_rfl) (by kernel_rfl) (by kernel_rfl) (fun _ _ _ h => h) (Or.inl ⟨by rfl, ?hy14_16⟩) hHeld ?_
              case hy14_16 => (intro w hSw; (try dsimp only at hSw); have q0 := hSw.c4; have q1 := hSw.c5; (try simp only [List.getElem_toArray, List.getElem_cons_zero, List.getElem_cons_succ]); go_simp <;> with_reducible rfl)
              (try simp only [Act.put, List.getElem_toArray, List.getElem_cons_zero, List.getElem_cons_succ, List.setIfInBounds_toArray, List.set_cons_zero, List.set_cons_succ])
              refine wpAnyH_take (i := 15) (v := ?v15_17) rfl (by kernel_rfl) (by kernel_rfl) (by kernel_rfl) (fun _ _ _ h => h) (Or.inl ⟨by rfl, ?hy15_17⟩) hHeld ?_
              case hy15_17 => (intro w hSw; (try dsimp only at hSw); have q0 := hSw.c4; have q1 := hSw.c5; (try simp only [List.getElem_toArray, List.getElem_cons_zero, List.getElem_cons_succ]); go_simp <;> with_reducible rfl)
              (try simp only [Act.put, List.getElem_toArray, List.getElem_cons_zero, List.getElem_cons_succ, List.setIfInBounds_toArray, List.set_cons_zero, List.set_cons_succ])
              refine wpAnyH_done (by kernel_rfl) ?_ _
              go_wp2_with fail
              rw [HE.out]
              go_ret2
              exact ⟨A27, c27, by rw [HRW.out]; rfl, by rw [HRW.out]; exact O27.out.1.base_le H3.out.2.1.size, bel_next H3.out.2.1 O27.out.2⟩
    case r3_9 =>
      (try simp only [List.getElem_toArray, List.getElem_cons_zero, List.getElem_cons_succ])
      go_simp
      have B28 := Lib.hid (B2.out.lit (.slice i.R i.r.length i.g))
      refine hK.out _ _ B28.out.hd (fun hHeld => ?_)
      clear hK K
      (try simp only [Act.put, List.getElem_toArray, List.getElem_cons_zero, List.getElem_cons_succ, List.setIfInBounds_toArray, List.set_cons_zero, List.set_cons_succ])
      refine wpAnyH_ready (rs := [2]) (by kernel_rfl) (by simp) ?_
      refine AllReadyH.cons rfl (fun K hK => ?r29_2) AllReadyH.nil
      case r29_2 =>
        (try simp only [List.getElem_toArray, List.getElem_cons_zero, List.getElem_cons_succ])
        go_simp
        have B30 := Lib.hid (B28.out.lit (.slice A3 m c3))
        refine hK.out _ _ B30.out.hd (fun hHeld => ?_)
        clear hK K
        (try simp only [Act.put, List.getElem_toArray, List.getElem_cons_zero, List.getElem_cons_succ, List.setIfInBounds_toArray, List.set_cons_zero, List.set_cons_succ])
        refine wpAnyH_ready (rs := [3]) (by kernel_rfl) (by simp) ?_
        refine AllReadyH.cons rfl (fun K hK => ?r31_3) AllReadyH.nil
        case r31_3 =>
          (try simp only [List.getElem_toArray, List.getElem_cons_zero, List.getElem_cons_succ])
          go_simp
          refine (wbytes_any x w3.heap.size none _ 1 1 [L] L _ _ B30.out.wr (by exact (RR.of_blk (T := 22) (k := c3) (by simpa using (B30.out.lits _ (.head _))) (B30.out.row R3.out))) (by simp) (by omega) (by rw [HM.out]; omega) B30.out.bel.size (by simp)).mono ?_
          rw [S1.out]
          intro e u32 k
          obtain ⟨rfl, A32, k'⟩ := B30.out.ret k
          have B32 := Lib.hid k'
          clear k k'
          (try go_wp2_with fail)
          refine hK.out _ _ B32.out.hd (fun hHeld => ?_)
          clear hK K
          (try simp only [Act.put, List.getElem_toArray, List.getElem_cons_zero, List.getElem_cons_succ, List.setIfInBounds_toArray, List.set_cons_zero, List.set_cons_succ])
          refine wpAnyH_ready (rs := [6]) (by kernel_rfl) (by simp) ?_
          refine AllReadyH.cons rfl (fun K hK => ?r33_6) AllReadyH.nil
          case r33_6 =>
            (try simp only [List.getElem_toArray, List.getElem_cons_zero, List.getElem_cons_succ])
            go_simp
            refine (wlong_any x w3.heap.size A32 i.T i.t.length i.e i.t _ _ B32.out.wr (by exact B32.out.row RT3.out) (B32.out.away RT3.out) (by omega) B32.out.bel.size (by simp only; rw [HM.out]; omega)).mono ?_
            rw [S2.out]
            intro e u34 k
            obtain ⟨rfl, A34, k'⟩ := B32.out.ret k
            have B34 := Lib.hid k'
            clear k k'
            (try go_wp2_with fail)
            refine hK.out _ _ B34.out.hd (fun hHeld => ?_)
            clear hK K
            (try simp only [Act.put, List.getElem_toArray, List.getElem_cons_zero, List.getElem_cons_succ, List.setIfInBounds_toArray, List.set_cons_zero, List.set_cons_succ])
            refine wpAnyH_ready (rs := [10]) (by kernel_rfl) (by simp) ?_
            refine AllReadyH.cons rfl (fun K hK => ?r35_10) AllReadyH.nil
            case r35_10 =>
              (try simp only [List.getElem_toArray, List.getElem_cons_zero, List.getElem_cons_succ])
              go_simp
              refine (wbytes_any x w3.heap.size A34 _ 1 1 [i.r] i.r _ _ B34.out.wr (by exact (RR.of_blk (T := 22) (k := i.g) (by simpa using (B34.out.lits _ (.tail _ (.head _)))) (B34.out.row RR3.out))) (by simp) (by omega) (by omega) B34.out.bel.size (by simp only; have := HLP.out; omega)).mono ?_
              rw [S3.out]
              intro e u36 k
              obtain ⟨rfl, A36, k'⟩ := B34.out.ret k
              have B36 := Lib.hid k'
              clear k k'
              (try go_wp2_with fail)
              refine hK.out _ _ B36.out.hd (fun hHeld => ?_)
              clear hK K
              (try simp only [Act.put, List.getElem_toArray, List.getElem_cons_zero, List.getElem_cons_succ, List.setIfInBounds_toArray, List.set_cons_zero, List.set_cons_succ])
              refine wpAnyH_ready (rs := [11]) (by kernel_rfl) (by simp) ?_
              refine AllReadyH.cons rfl (fun K hK => ?_) AllReadyH.nil
              (try simp only [List.getElem_toArray, List.getElem_cons_zero, List.getElem_cons_succ])
              go_simp
              refine (wdone_any x w3.heap.size A36 _ _ B36.out.wr (by simp only; have := HLP.out; rw [HF.out, List.length_append]; omega)).mono ?_
              rw [doneS_0]
              rintro e u37 ⟨A37, c37, rfl, ho, hb⟩
              have O37 := Lib.hid (And.intro (ho.base_le B36.out.bel.size) (bel_next B36.out.bel hb))
              have I37 := Lib.hid (B36.out.hd.step hb)
              clear ho hb
              (try go_wp2_with fail)
              refine hK.out _ _ I37.out (fun hHeld => ?_)
              clear hK K
              (try simp only [Act.put, List.getElem_toArray, List.getElem_cons_zero, List.getElem_cons_succ, List.setIfInBounds_toArray, List.set_cons_zero, List.set_cons_succ])
              refine wpAnyH_take (i := 12) (v := ?v12_18) rfl (by kernel_rfl) (by kernel_rfl) (by kernel_rfl) (fun _ _ _ h => h) (Or.inl ⟨by rfl, ?hy12_18⟩) hHeld ?_
              case hy12_18 => (intro w hSw; (try dsimp only at hSw); have q0 := hSw.c4; have q1 := hSw.c5; (try simp only [List.getElem_toArray, List.getElem_cons_zero, List.getElem_cons_succ]); go_simp <;> with_reducible rfl)
              (try simp only [Act.put, List.getElem_toArray, List.getElem_cons_zero, List.getElem_cons_succ, List.setIfInBounds_toArray, List.set_cons_zero, List.set_cons_succ])
              refine wpAnyH_take (i := 13) (v := ?v13_19) rfl (by kernel_rfl) (by kernel_rfl) (by kernel_rfl) (fun _ _ _ h => h) (Or.inl ⟨by rfl, ?hy13_19⟩) hHeld ?_
              case hy13_19 => (intro w hSw; (try dsimp only at hSw); have q0 := hSw.c4; have q1 := hSw.c5; (try simp only [List.getElem_toArray, List.getElem_cons_zero, List.getElem_cons_succ]); go_simp <;> with_reducible rfl)
              (try simp only [Act.put, List.getElem_toArray, List.getElem_cons_zero, List.getElem_cons_succ, List.setIfInBounds_toArray, List.set_cons_zero, List.set_cons_succ])
              refine wpAnyH_take (i := 14) (v := ?v14_20) rfl (by kernel_rfl) (by kernel_rfl) (by kernel_rfl) (fun _ _ _ h => h) (Or.inl ⟨by rfl, ?hy14_20⟩) hHeld ?_
              case hy14_20 => (intro w hSw; (try dsimp only at hSw); have q0 := hSw.c4; have q1 := hSw.c5; (try simp only [List.getElem_toArray, List.getElem_cons_zero, List.getElem_cons_succ]); go_simp <;> with_reducible rfl)
              (try simp only [Act.put, List.getElem_toArray, List.getElem_cons_zero, List.getElem_cons_succ, List.setIfInBounds_toArray, List.set_cons_zero, List.set_cons_succ])
              refine wpAnyH_take (i := 15) (v := ?v15_21) rfl (by kernel_rfl) (by kernel_rfl) (by kernel_rfl) (fun _ _ _ h => h) (Or.inl ⟨by rfl, ?hy15_21⟩) hHeld ?_
              case hy15_21 => (intro w hSw; (try dsimp only at hSw); have q0 := hSw.c4; have q1 := hSw.c5; (try simp only [List.getElem_toArray, List.getElem_cons_zero, List.getElem_cons_succ]); go_simp <;> with_reducible rfl)
              (try simp only [Act.put, List.getElem_toArray, List.getElem_cons_zero, List.getElem_cons_succ, List.setIfInBounds_toArray, List.set_cons_zero, List.set_cons_succ])
              refine wpAnyH_done (by kernel_rfl) ?_ _
              go_wp2_with fail
              rw [HE.out]
              go_ret2
              exact ⟨A37, c37, by rw [HRW.out]; rfl, by rw [HRW.out]; exact O37.out.1.base_le H3.out.2.1.size, bel_next H3.out.2.1 O37.out.2⟩
  case r1_2 =>
    (try simp only [List.getElem_toArray, List.getElem_cons_zero, List.getElem_cons_succ])
    go_simp
    have B38 := Lib.hid (K0.out.lit (.slice A3 m c3))
    refine hK.out _ _ B38.out.hd (fun hHeld => ?_)
    clear hK K
    (try simp only [Act.put, List.getElem_toArray, List.getElem_cons_zero, List.getElem_cons_succ, List.setIfInBounds_toArray, List.set_cons_zero, List.set_cons_succ])
    refine wpAnyH_ready (rs := [0, 9]) (by kernel_rfl) (by simp) ?_
    refine AllReadyH.cons rfl (fun K hK => ?r39_0) (AllReadyH.cons rfl (fun K hK => ?r39_9) AllReadyH.nil)
    case r39_0 =>
      (try simp only [List.getElem_toArray, List.getElem_cons_zero, List.getElem_cons_succ])
      go_simp
      refine (write_any _ w3.heap.size (by exact B38.out.bel.size)).mono ?_
      rintro e u40 ⟨x, rfl, hx, hb, hw⟩
      have B40 := Lib.hid (B38.out.write hx hb hw)
      clear hx hb hw
      (try go_wp2_with fail)
      refine hK.out _ _ B40.out.hd (fun hHeld => ?_)
      clear hK K
      (try simp only [Act.put, List.getElem_toArray, List.getElem_cons_zero, List.getElem_cons_succ, List.setIfInBounds_toArray, List.set_cons_zero, List.set_cons_succ])
      refine wpAnyH_ready (rs := [3, 9]) (by kernel_rfl) (by simp) ?_
      refine AllReadyH.cons rfl (fun K hK => ?r41_3) (AllReadyH.cons rfl (fun K hK => ?r41_9) AllReadyH.nil)
      case r41_3 =>
        (try simp only [List.getElem_toArray, List.getElem_cons_zero, List.getElem_cons_succ])
        go_simp
        refine (wbytes_any x w3.heap.size none _ 1 1 [L] L _ _ B40.out.wr (by exact (RR.of_blk (T := 22) (k := c3) (by simpa using (B40.out.lits _ (.head _))) (B40.out.row R3.out))) (by simp) (by omega) (by rw [HM.out]; omega) B40.out.bel.size (by simp)).mono ?_
        rw [S1.out]
        intro e u42 k
        obtain ⟨rfl, A42, k'⟩ := B40.out.ret k
        have B42 := Lib.hid k'
        clear k k'
        (try go_wp2_with fail)
        refine hK.out _ _ B42.out.hd (fun hHeld => ?_)
        clear hK K
        (try simp only [Act.put, List.getElem_toArray, List.getElem_cons_zero, List.getElem_cons_succ, List.setIfInBounds_toArray, List.set_cons_zero, List.set_cons_succ])
        refine wpAnyH_ready (rs := [6, 9]) (by kernel_rfl) (by simp) ?_
        refine AllReadyH.cons rfl (fun K hK => ?r43_6) (AllReadyH.cons rfl (fun K hK => ?r43_9) AllReadyH.nil)
        case r43_6 =>
          (try simp only [List.getElem_toArray, List.getElem_cons_zero, List.getElem_cons_succ])
          go_simp
          refine (wlong_any x w3.heap.size A42 i.T i.t.length i.e i.t _ _ B42.out.wr (by exact B42.out.row RT3.out) (B42.out.away RT3.out) (by omega) B42.out.bel.size (by simp only; rw [HM.out]; omega)).mono ?_
          rw [S2.out]
          intro e u44 k
          obtain ⟨rfl, A44, k'⟩ := B42.out.ret k
          have B44 := Lib.hid k'
          clear k k'
          (try go_wp2_with fail)
          refine hK.out _ _ B44.out.hd (fun hHeld => ?_)
          clear hK K
          (try simp only [Act.put, List.getElem_toArray, List.getElem_cons_zero, List.getElem_cons_succ, List.setIfInBounds_toArray, List.set_cons_zero, List.set_cons_succ])
          refine wpAnyH_ready (rs := [9]) (by kernel_rfl) (by simp) ?_
          refine AllReadyH.cons rfl (fun K hK => ?r45_9) AllReadyH.nil
          case r45_9 =>
            (try simp only [List.getElem_toArray, List.getElem_cons_zero, List.getElem_cons_succ])
            go_simp
            have B46 := Lib.hid (B44.out.lit (.slice i.R i.r.length i.g))
            refine hK.out _ _ B46.out.hd (fun hHeld => ?_)
            clear hK K
            (try simp only [Act.put, List.getElem_toArray, List.getElem_cons_zero, List.getElem_cons_succ, List.setIfInBounds_toArray, List.set_cons_zero, List.set_cons_succ])
            refine wpAnyH_ready (rs := [10]) (by kernel_rfl) (by simp) ?_
            refine AllReadyH.cons rfl (fun K hK => ?r47_10) AllReadyH.nil
            case r47_10 =>
              (try simp only [List.getElem_toArray, List.getElem_cons_zero, List.getElem_cons_succ])
              go_simp
              refine (wbytes_any x w3.heap.size A44 _ 1 1 [i.r] i.r _ _ B46.out.wr (by exact (RR.of_blk (T := 22) (k := i.g) (by simpa using (B46.out.lits _ (.head _))) (B46.out.row RR3.out))) (by simp) (by omega) (by omega) B46.out.bel.size (by simp only; have := HLP.out; omega)).mono ?_
              rw [S3.out]
              intro e u48 k
              obtain ⟨rfl, A48, k'⟩ := B46.out.ret k
              have B48 := Lib.hid k'
              clear k k'
              (try go_wp2_with fail)
              refine hK.out _ _ B48.out.hd (fun hHeld => ?_)
              clear hK K
              (try simp only [Act.put, List.getElem_toArray, List.getElem_cons_zero, List.getElem_cons_succ, List.setIfInBounds_toArray, List.set_cons_zero, List.set_cons_succ])
              refine wpAnyH_ready (rs := [11]) (by kernel_rfl) (by simp) ?_
              refine AllReadyH.cons rfl (fun K hK => ?_) AllReadyH.nil
              (try simp only [List.getElem_toArray, List.getElem_cons_zero, List.getElem_cons_succ])
              go_simp
              refine (wdone_any x w3.heap.size A48 _ _ B48.out.wr (by simp only; have := HLP.out; rw [HF.out, List.length_append]; omega)).mono ?_
              rw [doneS_0]
              rintro e u49 ⟨A49, c49, rfl, ho, hb⟩
              have O49 := Lib.hid (And.intro (ho.base_le B48.out.bel.size) (bel_next B48.out.bel hb))
              have I49 := Lib.hid (B48.out.hd.step hb)
              clear ho hb
              (try go_wp2_with fail)
              refine hK.out _ _ I49.out (fun hHeld => ?_)
              clear hK K
              (try simp only [Act.put, List.getElem_toArray, List.getElem_cons_zero, List.getElem_cons_succ, List.setIfInBounds_toArray, List.set_cons_zero, List.set_cons_succ])
              refine wpAnyH_take (i := 12) (v := ?v12_22) rfl (by kernel_rfl) (by kernel_rfl) (by kernel_rfl) (fun _ _ _ h => h) (Or.inl ⟨by rfl, ?hy12_22⟩) hHeld ?_
              case hy12_22 => (intro w hSw; (try dsimp only at hSw); have q0 := hSw.c4; have q1 := hSw.c5; (try simp only [List.getElem_toArray, List.getElem_cons_zero, List.getElem_cons_succ]); go_simp <;> with_reducible rfl)
              (try simp only [Act.put, List.getElem_toArray, List.getElem_cons_zero, List.getElem_cons_succ, List.setIfInBounds_toArray, List.set_cons_zero, List.set_cons_succ])
              refine wpAnyH_take (i := 13) (v := ?v13_23) rfl (by kernel_rfl) (by kernel_rfl) (by kernel_rfl) (fun _ _ _ h => h) (Or.inl ⟨by rfl, ?hy13_23⟩) hHeld ?_
              case hy13_23 => (intro w hSw; (try dsimp only at hSw); have q0 := hSw.c4; have q1 := hSw.c5; (try simp only [List.getElem_toArray, List.getElem_cons_zero, List.getElem_cons_succ]); go_simp <;> with_reducible rfl)
              (try simp only [Act.put, List.getElem_toArray, List.getElem_cons_zero, List.getElem_cons_succ, List.setIfInBounds_toArray, List.set_cons_zero, List.set_cons_succ])
              refine wpAnyH_take (i := 14) (v := ?v14_24) rfl (by kernel_rfl) (by kernel_rfl) (by kernel_rfl) (fun _ _ _ h => h) (Or.inl ⟨by rfl, ?hy14_24⟩) hHeld ?_
              case hy14_24 => (intro w hSw; (try dsimp only at hSw); have q0 := hSw.c4; have q1 := hSw.c5; (try simp only [List.getElem_toArray, List.getElem_cons_zero, List.getElem_cons_succ]); go_simp <;> with_reducible rfl)
              (try simp only [Act.put, List.getElem_toArray, List.getElem_cons_zero, List.getElem_cons_succ, List.setIfInBounds_toArray, List.set_cons_zero, List.set_cons_succ])
              refine wpAnyH_take (i := 15) (v := ?v15_25) rfl (by kernel_rfl) (by kernel_rfl) (by kernel_rfl) (fun _ _ _ h => h) (Or.inl ⟨by rfl, ?hy15_25⟩) hHeld ?_
              case hy15_25 => (intro w hSw; (try dsimp only at hSw); have q0 := hSw.c4; have q1 := hSw.c5; (try simp only [List.getElem_toArray, List.getElem_cons_zero, List.getElem_cons_succ]); go_simp <;> with_reducible rfl)
              (try simp only [Act.put, List.getElem_toArray, List.getElem_cons_zero, List.getElem_cons_succ, List.setIfInBounds_toArray, List.set_cons_zero, List.set_cons_succ])
              refine wpAnyH_done (by kernel_rfl) ?_ _
              go_wp2_with fail
              rw [HE.out]
              go_ret2
              exact ⟨A49, c49, by rw [HRW.out]; rfl, by rw [HRW.out]; exact O49.out.1.base_le H3.out.2.1.size, bel_next H3.out.2.1 O49.out.2⟩
        case r43_9 =>
          (try simp only [List.getElem_toArray, List.getElem_cons_zero, List.getElem_cons_succ])
          go_simp
          have B50 := Lib.hid (B42.out.lit (.slice i.R i.r.length i.g))
          refine hK.out _ _ B50.out.hd (fun hHeld => ?_)
          clear hK K
          (try simp only [Act.put, List.getElem_toArray, List.getElem_cons_zero, List.getElem_cons_succ, List.setIfInBounds_toArray, List.set_cons_zero, List.set_cons_succ])
          refine wpAnyH_ready (rs := [6]) (by kernel_rfl) (by simp) ?_
          refine AllReadyH.cons rfl (fun K hK => ?r51_6) AllReadyH.nil
          case r51_6 =>
            (try simp only [List.getElem_toArray, List.getElem_cons_zero, List.getElem_cons_succ])
            go_simp
            refine (wlong_any x w3.heap.size A42 i.T i.t.length i.e i.t _ _ B50.out.wr (by exact B50.out.row RT3.out) (B50.out.away RT3.out) (by omega) B50.out.bel.size (by simp only; rw [HM.out]; omega)).mono ?_
            rw [S2.out]
            intro e u52 k
            obtain ⟨rfl, A52, k'⟩ := B50.out.ret k
            have B52 := Lib.hid k'
            clear k k'
            (try go_wp2_with fail)
            refine hK.out _ _ B52.out.hd (fun hHeld => ?_)
            clear hK K
            (try simp only [Act.put, List.getElem_toArray, List.getElem_cons_zero, List.getElem_cons_succ, List.setIfInBounds_toArray, List.set_cons_zero, List.set_cons_succ])
            refine wpAnyH_ready (rs := [10]) (by kernel_rfl) (by simp) ?_
            refine AllReadyH.cons rfl (fun K hK => ?r53_10) AllReadyH.nil
            case r53_10 =>
              (try simp only [List.getElem_toArray, List.getElem_cons_zero, List.getElem_cons_succ])
              go_simp
              refine (wbytes_any x w3.heap.size A52 _ 1 1 [i.r] i.r _ _ B52.out.wr (by exact (RR.of_blk (T := 22) (k := i.g) (by simpa using (B52.out.lits _ (.head _))) (B52.out.row RR3.out))) (by simp) (by omega) (by omega) B52.out.bel.size (by simp only; have := HLP.out; omega)).mono ?_
              rw [S3.out]
              intro e u54 k
              obtain ⟨rfl, A54, k'⟩ := B52.out.ret k
              have B54 := Lib.hid k'
              clear k k'
              (try go_wp2_with fail)
              refine hK.out _ _ B54.out.hd (fun hHeld => ?_)
              clear hK K
              (try simp only [Act.put, List.getElem_toArray, List.getElem_cons_zero, List.getElem_cons_succ, List.setIfInBounds_toArray, List.set_cons_zero, List.set_cons_succ])
              refine wpAnyH_ready (rs := [11]) (by kernel_rfl) (by simp) ?_
              refine AllReadyH.cons rfl (fun K hK => ?_) AllReadyH.nil
              (try simp only [List.getElem_toArray, List.getElem_cons_zero, List.getElem_cons_succ])
              go_simp
              refine (wdone_any x w3.heap.size A54 _ _ B54.out.wr (by simp only; have := HLP.out; rw [HF.out, List.length_append]; omega)).mono ?_
              rw [doneS_0]
              rintro e u55 ⟨A55, c55, rfl, ho, hb⟩
              have O55 := Lib.hid (And.intro (ho.base_le B54.out.bel.size) (bel_next B54.out.bel hb))
              have I55 := Lib.hid (B54.out.hd.step hb)
              clear ho hb
              (try go_wp2_with fail)
              refine hK.out _ _ I55.out (fun hHeld => ?_)
              clear hK K
              (try simp only [Act.put, List.getElem_toArray, List.getElem_cons_zero, List.getElem_cons_succ, List.setIfInBounds_toArray, List.set_cons_zero, List.set_cons_succ])
              refine wpAnyH_take (i := 12) (v := ?v12_26) rfl (by kernel_rfl) (by kernel_rfl) (by kernel_rfl) (fun _ _ _ h => h) (Or.inl ⟨by rfl, ?hy12_26⟩) hHeld ?_
              case hy12_26 => (intro w hSw; (try dsimp only at hSw); have q0 := hSw.c4; have q1 := hSw.c5; (try simp only [List.getElem_toArray, List.getElem_cons_zero, List.getElem_cons_succ]); go_simp <;> with_reducible rfl)
              (try simp only [Act.put, List.getElem_toArray, List.getElem_cons_zero, List.getElem_cons_succ, List.setIfInBounds_toArray, List.set_cons_zero, List.set_cons_succ])
              refine wpAnyH_take (i := 13) (v := ?v13_27) rfl (by kernel_rfl) (by kernel_rfl) (by kernel_rfl) (fun _ _ _ h => h) (Or.inl ⟨by rfl, ?hy13_27⟩) hHeld ?_
              case hy13_27 => (intro w hSw; (try dsimp only at hSw); have q0 := hSw.c4; have q1 := hSw.c5; (try simp only [List.getElem_toArray, List.getElem_cons_zero, List.getElem_cons_succ]); go_simp <;> with_reducible rfl)
              (try simp only [Act.put, List.getElem_toArray, List.getElem_cons_zero, List.getElem_cons_succ, List.setIfInBounds_toArray, List.set_cons_zero, List.set_cons_succ])
              refine wpAnyH_take (i := 14) (v := ?v14_28) rfl (by kernel_rfl) (by kernel_rfl) (by kernel_rfl) (fun _ _ _ h => h) (Or.inl ⟨by rfl, ?hy14_28⟩) hHeld ?_
              case hy14_28 => (intro w hSw; (try dsimp only at hSw); have q0 := hSw.c4; have q1 := hSw.c5; (try simp only [List.getElem_toArray, List.getElem_cons_zero, List.getElem_cons_succ]); go_simp <;> with_reducible rfl)
              (try simp only [Act.put, List.getElem_toArray, List.getElem_cons_zero, List.getElem_cons_succ, List.setIfInBounds_toArray, List.set_cons_zero, List.set_cons_succ])
              refine wpAnyH_take (i := 15) (v := ?v15_29) rfl (by kernel_rfl) (by kernel_rfl) (by kernel_rfl) (fun _ _ _ h => h) (Or.inl ⟨by rfl, ?hy15_29⟩) hHeld ?_
              case hy15_29 => (intro w hSw; (try dsimp only at hSw); have q0 := hSw.c4; have q1 := hSw.c5; (try simp only [List.getElem_toArray, List.getElem_cons_zero, List.getElem_cons_succ]); go_simp <;> with_reducible rfl)
              (try simp only [Act.put, List.getElem_toArray, List.getElem_cons_zero, List.getElem_cons_succ, List.setIfInBounds_toArray, List.set_cons_zero, List.set_cons_succ])
              refine wpAnyH_done (by kernel_rfl) ?_ _
              go_wp2_with fail
              rw [HE.out]
              go_ret2
              exact ⟨A55, c55, by rw [HRW.out]; rfl, by rw [HRW.out]; exact O55.out.1.base_le H3.out.2.1.size, bel_next H3.out.2.1 O55.out.2⟩
      case r41_9 =>
        (try simp only [List.getElem_toArray, List.getElem_cons_zero, List.getElem_cons_succ])
        go_simp
        have B56 := Lib.hid (B40.out.lit (.slice i.R i.r.length i.g))
        refine hK.out _ _ B56.out.hd (fun hHeld => ?_)
        clear hK K
        (try simp only [Act.put, List.getElem_toArray, List.getElem_cons_zero, List.getElem_cons_succ, List.setIfInBounds_toArray, List.set_cons_zero, List.set_cons_succ])
        refine wpAnyH_ready (rs := [3]) (by kernel_rfl) (by simp) ?_
        refine AllReadyH.cons rfl (fun K hK => ?r57_3) AllReadyH.nil
        case r57_3 =>
          (try simp only [List.getElem_toArray, List.getElem_cons_zero, List.getElem_cons_succ])
          go_simp
          refine (wbytes_any x w3.heap.size none _ 1 1 [L] L _ _ B56.out.wr (by exact (RR.of_blk (T := 22) (k := c3) (by simpa using (B56.out.lits _ (.tail _ (.head _)))) (B56.out.row R3.out))) (by simp) (by omega) (by rw [HM.out]; omega) B56.out.bel.size (by simp)).mono ?_
          rw [S1.out]
          intro e u58 k
          obtain ⟨rfl, A58, k'⟩ := B56.out.ret k
          have B58 := Lib.hid k'
          clear k k'
          (try go_wp2_with fail)
          refine hK.out _ _ B58.out.hd (fun hHeld => ?_)
          clear hK K
          (try simp only [Act.put, List.getElem_toArray, List.getElem_cons_zero, List.getElem_cons_succ, List.setIfInBounds_toArray, List.set_cons_zero, List.set_cons_succ])
          refine wpAnyH_ready (rs := [6]) (by kernel_rfl) (by simp) ?_
          refine AllReadyH.cons rfl (fun K hK => ?r59_6) AllReadyH.nil
          case r59_6 =>
            (try simp only [List.getElem_toArray, List.getElem_cons_zero, List.getElem_cons_succ])
            go_simp
            refine (wlong_any x w3.heap.size A58 i.T i.t.length i.e i.t _ _ B58.out.wr (by exact B58.out.row RT3.out) (B58.out.away RT3.out) (by omega) B58.out.bel.size (by simp only; rw [HM.out]; omega)).mono ?_
            rw [S2.out]
            intro e u60 k
            obtain ⟨rfl, A60, k'⟩ := B58.out.ret k
            have B60 := Lib.hid k'
            clear k k'
            (try go_wp2_with fail)
            refine hK.out _ _ B60.out.hd (fun hHeld => ?_)
            clear hK K
            (try simp only [Act.put, List.getElem_toArray, List.getElem_cons_zero, List.getElem_cons_succ, List.setIfInBounds_toArray, List.set_cons_zero, List.set_cons_succ])
            refine wpAnyH_ready (rs := [10]) (by kernel_rfl) (by simp) ?_
            refine AllReadyH.cons rfl (fun K hK => ?r61_10) AllReadyH.nil
            case r61_10 =>
              (try simp only [List.getElem_toArray, List.getElem_cons_zero, List.getElem_cons_succ])
              go_simp
              refine (wbytes_any x w3.heap.size A60 _ 1 1 [i.r] i.r _ _ B60.out.wr (by exact (RR.of_blk (T := 22) (k := i.g) (by simpa using (B60.out.lits _ (.head _))) (B60.out.row RR3.out))) (by simp) (by omega) (by omega) B60.out.bel.size (by simp only; have := HLP.out; omega)).mono ?_
              rw [S3.out]
              intro e u62 k
              obtain ⟨rfl, A62, k'⟩ := B60.out.ret k
              have B62 := Lib.hid k'
              clear k k'
              (try go_wp2_with fail)
              refine hK.out _ _ B62.out.hd (fun hHeld => ?_)
              clear hK K
              (try simp only [Act.put, List.getElem_toArray, List.getElem_cons_zero, List.getElem_cons_succ, List.setIfInBounds_toArray, List.set_cons_zero, List.set_cons_succ])
              refine wpAnyH_ready (rs := [11]) (by kernel_rfl) (by simp) ?_
              refine AllReadyH.cons rfl (fun K hK => ?_) AllReadyH.nil
              (try simp only [List.getElem_toArray, List.getElem_cons_zero, List.getElem_cons_succ])
              go_simp
              refine (wdone_any x w3.heap.size A62 _ _ B62.out.wr (by simp only; have := HLP.out; rw [HF.out, List.length_append]; omega)).mono ?_
              rw [doneS_0]
              rintro e u63 ⟨A63, c63, rfl, ho, hb⟩
              have O63 := Lib.hid (And.intro (ho.base_le B62.out.bel.size) (bel_next B62.out.bel hb))
              have I63 := Lib.hid (B62.out.hd.step hb)
              clear ho hb
              (try go_wp2_with fail)
              refine hK.out _ _ I63.out (fun hHeld => ?_)
              clear hK K
              (try simp only [Act.put, List.getElem_toArray, List.getElem_cons_zero, List.getElem_cons_succ, List.setIfInBounds_toArray, List.set_cons_zero, List.set_cons_succ])
              refine wpAnyH_take (i := 12) (v := ?v12_30) rfl (by kernel_rfl) (by kernel_rfl) (by kernel_rfl) (fun _ _ _ h => h) (Or.inl ⟨by rfl, ?hy12_30⟩) hHeld ?_
              case hy12_30 => (intro w hSw; (try dsimp only at hSw); have q0 := hSw.c4; have q1 := hSw.c5; (try simp only [List.getElem_toArray, List.getElem_cons_zero, List.getElem_cons_succ]); go_simp <;> with_reducible rfl)
              (try simp only [Act.put, List.getElem_toArray, List.getElem_cons_zero, List.getElem_cons_succ, List.setIfInBounds_toArray, List.set_cons_zero, List.set_cons_succ])
              refine wpAnyH_take (i := 13) (v := ?v13_31) rfl (by kernel_rfl) (by kernel_rfl) (by kernel_rfl) (fun _ _ _ h => h) (Or.inl ⟨by rfl, ?hy13_31⟩) hHeld ?_
              case hy13_31 => (intro w hSw; (try dsimp only at hSw); have q0 := hSw.c4; have q1 := hSw.c5; (try simp only [List.getElem_toArray, List.getElem_cons_zero, List.getElem_cons_succ]); go_simp <;> with_reducible rfl)
              (try simp only [Act.put, List.getElem_toArray, List.getElem_cons_zero, List.getElem_cons_succ, List.setIfInBounds_toArray, List.set_cons_zero, List.set_cons_succ])
              refine wpAnyH_take (i := 14) (v := ?v14_32) rfl (by kernel_rfl) (by kernel_rfl) (by kernel_rfl) (fun _ _ _ h => h) (Or.inl ⟨by rfl, ?hy14_32⟩) hHeld ?_
              case hy14_32 => (intro w hSw; (try dsimp only at hSw); have q0 := hSw.c4; have q1 := hSw.c5; (try simp only [List.getElem_toArray, List.getElem_cons_zero, List.getElem_cons_succ]); go_simp <;> with_reducible rfl)
              (try simp only [Act.put, List.getElem_toArray, List.getElem_cons_zero, List.getElem_cons_succ, List.setIfInBounds_toArray, List.set_cons_zero, List.set_cons_succ])
              refine wpAnyH_take (i := 15) (v := ?v15_33) rfl (by kernel_rfl) (by kernel_rfl) (by kernel_rfl) (fun _ _ _ h => h) (Or.inl ⟨by rfl, ?hy15_33⟩) hHeld ?_
              case hy15_33 => (intro w hSw; (try dsimp only at hSw); have q0 := hSw.c4; have q1 := hSw.c5; (try simp only [List.getElem_toArray, List.getElem_cons_zero, List.getElem_cons_succ]); go_simp <;> with_reducible rfl)
              (try simp only [Act.put, List.getElem_toArray, List.getElem_cons_zero, List.getElem_cons_succ, List.setIfInBounds_toArray, List.set_cons_zero, List.set_cons_succ])
              refine wpAnyH_done (by kernel_rfl) ?_ _
              go_wp2_with fail
              rw [HE.out]
              go_ret2
              exact ⟨A63, c63, by rw [HRW.out]; rfl, by rw [HRW.out]; exact O63.out.1.base_le H3.out.2.1.size, bel_next H3.out.2.1 O63.out.2⟩
    case r39_9 =>
      (try simp only [List.getElem_toArray, List.getElem_cons_zero, List.getElem_cons_succ])
      go_simp
      have B64 := Lib.hid (B38.out.lit (.slice i.R i.r.length i.g))
      refine hK.out _ _ B64.out.hd (fun hHeld => ?_)
      clear hK K
      (try simp only [Act.put, List.getElem_toArray, List.getElem_cons_zero, List.getElem_cons_succ, List.setIfInBounds_toArray, List.set_cons_zero, List.set_cons_succ])
      refine wpAnyH_ready (rs := [0]) (by kernel_rfl) (by simp) ?_
      refine AllReadyH.cons rfl (fun K hK => ?r65_0) AllReadyH.nil
      case r65_0 =>
        (try simp only [List.getElem_toArray, List.getElem_cons_zero, List.getElem_cons_succ])
        go_simp
        refine (write_any _ w3.heap.size (by exact B64.out.bel.size)).mono ?_
        rintro e u66 ⟨x, rfl, hx, hb, hw⟩
        have B66 := Lib.hid (B64.out.write hx hb hw)
        clear hx hb hw
        (try go_wp2_with fail)
        refine hK.out _ _ B66.out.hd (fun hHeld => ?_)
        clear hK K
        (try simp only [Act.put, List.getElem_toArray, List.getElem_cons_zero, List.getElem_cons_succ, List.setIfInBounds_toArray, List.set_cons_zero, List.set_cons_succ])
        refine wpAnyH_ready (rs := [3]) (by kernel_rfl) (by simp) ?_
        refine AllReadyH.cons rfl (fun K hK => ?r67_3) AllReadyH.nil
        case r67_3 =>
          (try simp only [List.getElem_toArray, List.getElem_cons_zero, List.getElem_cons_succ])
          go_simp
          refine (wbytes_any x w3.heap.size none _ 1 1 [L] L _ _ B66.out.wr (by exact (RR.of_blk (T := 22) (k := c3) (by simpa using (B66.out.lits _ (.tail _ (.head _)))) (B66.out.row R3.out))) (by simp) (by omega) (by rw [HM.out]; omega) B66.out.bel.size (by simp)).mono ?_
          rw [S1.out]
          intro e u68 k
          obtain ⟨rfl, A68, k'⟩ := B66.out.ret k
          have B68 := Lib.hid k'
          clear k k'
          (try go_wp2_with fail)
          refine hK.out _ _ B68.out.hd (fun hHeld => ?_)
          clear hK K
          (try simp only [Act.put, List.getElem_toArray, List.getElem_cons_zero, List.getElem_cons_succ, List.setIfInBounds_toArray, List.set_cons_zero, List.set_cons_succ])
          refine wpAnyH_ready (rs := [6]) (by kernel_rfl) (by simp) ?_
          refine AllReadyH.cons rfl (fun K hK => ?r69_6) AllReadyH.nil
          case r69_6 =>
            (try simp only [List.getElem_toArray, List.getElem_cons_zero, List.getElem_cons_succ])
            go_simp
            refine (wlong_any x w3.heap.size A68 i.T i.t.length i.e i.t _ _ B68.out.wr (by exact B68.out.row RT3.out) (B68.out.away RT3.out) (by omega) B68.out.bel.size (by simp only; rw [HM.out]; omega)).mono ?_
            rw [S2.out]
            intro e u70 k
            obtain ⟨rfl, A70, k'⟩ := B68.out.ret k
            have B70 := Lib.hid k'
            clear k k'
            (try go_wp2_with fail)
            refine hK.out _ _ B70.out.hd (fun hHeld => ?_)
            clear hK K
            (try simp only [Act.put, List.getElem_toArray, List.getElem_cons_zero, List.getElem_cons_succ, List.setIfInBounds_toArray, List.set_cons_zero, List.set_cons_succ])
            refine wpAnyH_ready (rs := [10]) (by kernel_rfl) (by simp) ?_
            refine AllReadyH.cons rfl (fun K hK => ?r71_10) AllReadyH.nil
            case r71_10 =>
              (try simp only [List.getElem_toArray, List.getElem_cons_zero, List.getElem_cons_succ])
              go_simp
              refine (wbytes_any x w3.heap.size A70 _ 1 1 [i.r] i.r _ _ B70.out.wr (by exact (RR.of_blk (T := 22) (k := i.g) (by simpa using (B70.out.lits _ (.head _))) (B70.out.row RR3.out))) (by simp) (by omega) (by omega) B70.out.bel.size (by simp only; have := HLP.out; omega)).mono ?_
              rw [S3.out]
              intro e u72 k
              obtain ⟨rfl, A72, k'⟩ := B70.out.ret k
              have B72 := Lib.hid k'
              clear k k'
              (try go_wp2_with fail)
              refine hK.out _ _ B72.out.hd (fun hHeld => ?_)
              clear hK K
              (try simp only [Act.put, List.getElem_toArray, List.getElem_cons_zero, List.getElem_cons_succ, List.setIfInBounds_toArray, List.set_cons_zero, List.set_cons_succ])
              refine wpAnyH_ready (rs := [11]) (by kernel_rfl) (by simp) ?_
              refine AllReadyH.cons rfl (fun K hK => ?_) AllReadyH.nil
              (try simp only [List.getElem_toArray, List.getElem_cons_zero, List.getElem_cons_succ])
              go_simp
              refine (wdone_any x w3.heap.size A72 _ _ B72.out.wr (by simp only; have := HLP.out; rw [HF.out, List.length_append]; omega)).mono ?_
              rw [doneS_0]
              rintro e u73 ⟨A73, c73, rfl, ho, hb⟩
              have O73 := Lib.hid (And.intro (ho.base_le B72.out.bel.size) (bel_next B72.out.bel hb))
              have I73 := Lib.hid (B72.out.hd.step hb)
              clear ho hb
              (try go_wp2_with fail)
              refine hK.out _ _ I73.out (fun hHeld => ?_)
              clear hK K
              (try simp only [Act.put, List.getElem_toArray, List.getElem_cons_zero, List.getElem_cons_succ, List.setIfInBounds_toArray, List.set_cons_zero, List.set_cons_succ])
              refine wpAnyH_take (i := 12) (v := ?v12_34) rfl (by kernel_rfl) (by kernel_rfl) (by kernel_rfl) (fun _ _ _ h => h) (Or.inl ⟨by rfl, ?hy12_34⟩) hHeld ?_
              case hy12_34 => (intro w hSw; (try dsimp only at hSw); have q0 := hSw.c4; have q1 := hSw.c5; (try simp only [List.getElem_toArray, List.getElem_cons_zero, List.getElem_cons_succ]); go_simp <;> with_reducible rfl)
              (try simp only [Act.put, List.getElem_toArray, List.getElem_cons_zero, List.getElem_cons_succ, List.setIfInBounds_toArray, List.set_cons_zero, List.set_cons_succ])
              refine wpAnyH_take (i := 13) (v := ?v13_35) rfl (by kernel_rfl) (by kernel_rfl) (by kernel_rfl) (fun _ _ _ h => h) (Or.inl ⟨by rfl, ?hy13_35⟩) hHeld ?_
              case hy13_35 => (intro w hSw; (try dsimp only at hSw); have q0 := hSw.c4; have q1 := hSw.c5; (try simp only [List.getElem_toArray, List.getElem_cons_zero, List.getElem_cons_succ]); go_simp <;> with_reducible rfl)
              (try simp only [Act.put, List.getElem_toArray, List.getElem_cons_zero, List.getElem_cons_succ, List.setIfInBounds_toArray, List.set_cons_zero, List.set_cons_succ])
              refine wpAnyH_take (i := 14) (v := ?v14_36) rfl (by kernel_rfl) (by kernel_rfl) (by kernel_rfl) (fun _ _ _ h => h) (Or.inl ⟨by rfl, ?hy14_36⟩) hHeld ?_
              case hy14_36 => (intro w hSw; (try dsimp only at hSw); have q0 := hSw.c4; have q1 := hSw.c5; (try simp only [List.getElem_toArray, List.getElem_cons_zero, List.getElem_cons_succ]); go_simp <;> with_reducible rfl)
              (try simp only [Act.put, List.getElem_toArray, List.getElem_cons_zero, List.getElem_cons_succ, List.setIfInBounds_toArray, List.set_cons_zero, List.set_cons_succ])
              refine wpAnyH_take (i := 15) (v := ?v15_37) rfl (by kernel_rfl) (by kernel_rfl) (by kernel_rfl) (fun _ _ _ h => h) (Or.inl ⟨by rfl, ?hy15_37⟩) hHeld ?_
              case hy15_37 => (intro w hSw; (try dsimp only at hSw); have q0 := hSw.c4; have q1 := hSw.c5; (try simp only [List.getElem_toArray, List.getElem_cons_zero, List.getElem_cons_succ]); go_simp <;> with_reducible rfl)
              (try simp only [Act.put, List.getElem_toArray, List.getElem_cons_zero, List.getElem_cons_succ, List.setIfInBounds_toArray, List.set_cons_zero, List.set_cons_succ])
              refine wpAnyH_done (by kernel_rfl) ?_ _
              go_wp2_with fail
              rw [HE.out]
              go_ret2
              exact ⟨A73, c73, by rw [HRW.out]; rfl, by rw [HRW.out]; exact O73.out.1.base_le H3.out.2.1.size, bel_next H3.out.2.1 O73.out.2⟩
  case r1_9 =>
    (try simp only [List.getElem_toArray, List.getElem_cons_zero, List.getElem_cons_succ])
    go_simp
    have B74 := Lib.hid (K0.out.lit (.slice i.R i.r.length i.g))
    refine hK.out _ _ B74.out.hd (fun hHeld => ?_)
    clear hK K
    (try simp only [Act.put, List.getElem_toArray, List.getElem_cons_zero, List.getElem_cons_succ, List.setIfInBounds_toArray, List.set_cons_zero, List.set_cons_succ])
    refine wpAnyH_ready (rs := [0, 2]) (by kernel_rfl) (by simp) ?_
    refine AllReadyH.cons rfl (fun K hK => ?r75_0) (AllReadyH.cons rfl (fun K hK => ?r75_2) AllReadyH.nil)
    case r75_0 =>
      (try simp only [List.getElem_toArray, List.getElem_cons_zero, List.getElem_cons_succ])
      go_simp
      refine (write_any _ w3.heap.size (by exact B74.out.bel.size)).mono ?_
      rintro e u76 ⟨x, rfl, hx, hb, hw⟩
      have B76 := Lib.hid (B74.out.write hx hb hw)
      clear hx hb hw
      (try go_wp2_with fail)
      refine hK.out _ _ B76.out.hd (fun hHeld => ?_)
      clear hK K
      (try simp only [Act.put, List.getElem_toArray, List.getElem_cons_zero, List.getElem_cons_succ, List.setIfInBounds_toArray, List.set_cons_zero, List.set_cons_succ])
      refine wpAnyH_ready (rs := [2]) (by kernel_rfl) (by simp) ?_
      refine AllReadyH.cons rfl (fun K hK => ?r77_2) AllReadyH.nil
      case r77_2 =>
        (try simp only [List.getElem_toArray, List.getElem_cons_zero, List.getElem_cons_succ])
        go_simp
        have B78 := Lib.hid (B76.out.lit (.slice A3 m c3))
        refine hK.out _ _ B78.out.hd (fun hHeld => ?_)
        clear hK K
        (try simp only [Act.put, List.getElem_toArray, List.getElem_cons_zero, List.getElem_cons_succ, List.setIfInBounds_toArray, List.set_cons_zero, List.set_cons_succ])
        refine wpAnyH_ready (rs := [3]) (by kernel_rfl) (by simp) ?_
        refine AllReadyH.cons rfl (fun K hK => ?r79_3) AllReadyH.nil
        case r79_3 =>
          (try simp only [List.getElem_toArray, List.getElem_cons_zero, List.getElem_cons_succ])
          go_simp
          refine (wbytes_any x w3.heap.size none _ 1 1 [L] L _ _ B78.out.wr (by exact (RR.of_blk (T := 22) (k := c3) (by simpa using (B78.out.lits _ (.head _))) (B78.out.row R3.out))) (by simp) (by omega) (by rw [HM.out]; omega) B78.out.bel.size (by simp)).mono ?_
          rw [S1.out]
          intro e u80 k
          obtain ⟨rfl, A80, k'⟩ := B78.out.ret k
          have B80 := Lib.hid k'
          clear k k'
          (try go_wp2_with fail)
          refine hK.out _ _ B80.out.hd (fun hHeld => ?_)
          clear hK K
          (try simp only [Act.put, List.getElem_toArray, List.getElem_cons_zero, List.getElem_cons_succ, List.setIfInBounds_toArray, List.set_cons_zero, List.set_cons_succ])
          refine wpAnyH_ready (rs := [6]) (by kernel_rfl) (by simp) ?_
          refine AllReadyH.cons rfl (fun K hK => ?r81_6) AllReadyH.nil
          case r81_6 =>
            (try simp only [List.getElem_toArray, List.getElem_cons_zero, List.getElem_cons_succ])
            go_simp
            refine (wlong_any x w3.heap.size A80 i.T i.t.length i.e i.t _ _ B80.out.wr (by exact B80.out.row RT3.out) (B80.out.away RT3.out) (by omega) B80.out.bel.size (by simp only; rw [HM.out]; omega)).mono ?_
            rw [S2.out]
            intro e u82 k
            obtain ⟨rfl, A82, k'⟩ := B80.out.ret k
            have B82 := Lib.hid k'
            clear k k'
            (try go_wp2_with fail)
            refine hK.out _ _ B82.out.hd (fun hHeld => ?_)
            clear hK K
            (try simp only [Act.put, List.getElem_toArray, List.getElem_cons_zero, List.getElem_cons_succ, List.setIfInBounds_toArray, List.set_cons_zero, List.set_cons_succ])
            refine wpAnyH_ready (rs := [10]) (by kernel_rfl) (by simp) ?_
            refine AllReadyH.cons rfl (fun K hK => ?r83_10) AllReadyH.nil
            case r83_10 =>
              (try simp only [List.getElem_toArray, List.getElem_cons_zero, List.getElem_cons_succ])
              go_simp
              refine (wbytes_any x w3.heap.size A82 _ 1 1 [i.r] i.r _ _ B82.out.wr (by exact (RR.of_blk (T := 22) (k := i.g) (by simpa using (B82.out.lits _ (.tail _ (.head _)))) (B82.out.row RR3.out))) (by simp) (by omega) (by omega) B82.out.bel.size (by simp only; have := HLP.out; omega)).mono ?_
              rw [S3.out]
              intro e u84 k
              obtain ⟨rfl, A84, k'⟩ := B82.out.ret k
              have B84 := Lib.hid k'
              clear k k'
              (try go_wp2_with fail)
              refine hK.out _ _ B84.out.hd (fun hHeld => ?_)
              clear hK K
              (try simp only [Act.put, List.getElem_toArray, List.getElem_cons_zero, List.getElem_cons_succ, List.setIfInBounds_toArray, List.set_cons_zero, List.set_cons_succ])
              refine wpAnyH_ready (rs := [11]) (by kernel_rfl) (by simp) ?_
              refine AllReadyH.cons rfl (fun K hK => ?_) AllReadyH.nil
              (try simp only [List.getElem_toArray, List.getElem_cons_zero, List.getElem_cons_succ])
              go_simp
              refine (wdone_any x w3.heap.size A84 _ _ B84.out.wr (by simp only; have := HLP.out; rw [HF.out, List.length_append]; omega)).mono ?_
              rw [doneS_0]
              rintro e u85 ⟨A85, c85, rfl, ho, hb⟩
              have O85 := Lib.hid (And.intro (ho.base_le B84.out.bel.size) (bel_next B84.out.bel hb))
              have I85 := Lib.hid (B84.out.hd.step hb)
              clear ho hb
              (try go_wp2_with fail)
              refine hK.out _ _ I85.out (fun hHeld => ?_)
              clear hK K
              (try simp only [Act.put, List.getElem_toArray, List.getElem_cons_zero, List.getElem_cons_succ, List.setIfInBounds_toArray, List.set_cons_zero, List.set_cons_succ])
              refine wpAnyH_take (i := 12) (v := ?v12_38) rfl (by kernel_rfl) (by kernel_rfl) (by kernel_rfl) (fun _ _ _ h => h) (Or.inl ⟨by rfl, ?hy12_38⟩) hHeld ?_
              case hy12_38 => (intro w hSw; (try dsimp only at hSw); have q0 := hSw.c4; have q1 := hSw.c5; (try simp only [List.getElem_toArray, List.getElem_cons_zero, List.getElem_cons_succ]); go_simp <;> with_reducible rfl)
              (try simp only [Act.put, List.getElem_toArray, List.getElem_cons_zero, List.getElem_cons_succ, List.setIfInBounds_toArray, List.set_cons_zero, List.set_cons_succ])
              refine wpAnyH_take (i := 13) (v := ?v13_39) rfl (by kernel_rfl) (by kernel_rfl) (by kernel_rfl) (fun _ _ _ h => h) (Or.inl ⟨by rfl, ?hy13_39⟩) hHeld ?_
              case hy13_39 => (intro w hSw; (try dsimp only at hSw); have q0 := hSw.c4; have q1 := hSw.c5; (try simp only [List.getElem_toArray, List.getElem_cons_zero, List.getElem_cons_succ]); go_simp <;> with_reducible rfl)
              (try simp only [Act.put, List.getElem_toArray, List.getElem_cons_zero, List.getElem_cons_succ, List.setIfInBounds_toArray, List.set_cons_zero, List.set_cons_succ])
              refine wpAnyH_take (i := 14) (v := ?v14_40) rfl (by kernel_rfl) (by kernel_rfl) (by kernel_rfl) (fun _ _ _ h => h) (Or.inl ⟨by rfl, ?hy14_40⟩) hHeld ?_
              case hy14_40 => (intro w hSw; (try dsimp only at hSw); have q0 := hSw.c4; have q1 := hSw.c5; (try simp only [List.getElem_toArray, List.getElem_cons_zero, List.getElem_cons_succ]); go_simp <;> with_reducible rfl)
              (try simp only [Act.put, List.getElem_toArray, List.getElem_cons_zero, List.getElem_cons_succ, List.setIfInBounds_toArray, List.set_cons_zero, List.set_cons_succ])
              refine wpAnyH_take (i := 15) (v := ?v15_41) rfl (by kernel_rfl) (by kernel_rfl) (by kernel_rfl) (fun _ _ _ h => h) (Or.inl ⟨by rfl, ?hy15_41⟩) hHeld ?_
              case hy15_41 => (intro w hSw; (try dsimp only at hSw); have q0 := hSw.c4; have q1 := hSw.c5; (try simp only [List.getElem_toArray, List.getElem_cons_zero, List.getElem_cons_succ]); go_simp <;> with_reducible rfl)
              (try simp only [Act.put, List.getElem_toArray, List.getElem_cons_zero, List.getElem_cons_succ, List.setIfInBounds_toArray, List.set_cons_zero, List.set_cons_succ])
              refine wpAnyH_done (by kernel_rfl) ?_ _
              go_wp2_with fail
              rw [HE.out]
              go_ret2
              exact ⟨A85, c85, by rw [HRW.out]; rfl, by rw [HRW.out]; exact O85.out.1.base_le H3.out.2.1.size, bel_next H3.out.2.1 O85.out.2⟩
    case r75_2 =>
      (try simp only [List.getElem_toArray, List.getElem_cons_zero, List.getElem_cons_succ])
      go_simp
      have B86 := Lib.hid (B74.out.lit (.slice A3 m c3))
      refine hK.out _ _ B86.out.hd (fun hHeld => ?_)
      clear hK K
      (try simp only [Act.put, List.getElem_toArray, List.getElem_cons_zero, List.getElem_cons_succ, List.setIfInBounds_toArray, List.set_cons_zero, List.set_cons_succ])
      refine wpAnyH_ready (rs := [0]) (by kernel_rfl) (by simp) ?_
      refine AllReadyH.cons rfl (fun K hK => ?r87_0) AllReadyH.nil
      case r87_0 =>
        (try simp only [List.getElem_toArray, List.getElem_cons_zero, List.getElem_cons_succ])
        go_simp
        refine (write_any _ w3.heap.size (by exact B86.out.bel.size)).mono ?_
        rintro e u88 ⟨x, rfl, hx, hb, hw⟩
        have B88 := Lib.hid (B86.out.write hx hb hw)
        clear hx hb hw
        (try go_wp2_with fail)
        refine hK.out _ _ B88.out.hd (fun hHeld => ?_)
        clear hK K
        (try simp only [Act.put, List.getElem_toArray, List.getElem_cons_zero, List.getElem_cons_succ, List.setIfInBounds_toArray, List.set_cons_zero, List.set_cons_succ])
        refine wpAnyH_ready (rs := [3]) (by kernel_rfl) (by simp) ?_
        refine AllReadyH.cons rfl (fun K hK => ?r89_3) AllReadyH.nil
        case r89_3 =>
          (try simp only [List.getElem_toArray, List.getElem_cons_zero, List.getElem_cons_succ])
          go_simp
          refine (wbytes_any x w3.heap.size none _ 1 1 [L] L _ _ B88.out.wr (by exact (RR.of_blk (T := 22) (k := c3) (by simpa using (B88.out.lits _ (.head _))) (B88.out.row R3.out))) (by simp) (by omega) (by rw [HM.out]; omega) B88.out.bel.size (by simp)).mono ?_
          rw [S1.out]
          intro e u90 k
          obtain ⟨rfl, A90, k'⟩ := B88.out.ret k
          have B90 := Lib.hid k'
          clear k k'
          (try go_wp2_with fail)
          refine hK.out _ _ B90.out.hd (fun hHeld => ?_)
          clear hK K
          (try simp only [Act.put, List.getElem_toArray, List.getElem_cons_zero, List.getElem_cons_succ, List.setIfInBounds_toArray, List.set_cons_zero, List.set_cons_succ])
          refine wpAnyH_ready (rs := [6]) (by kernel_rfl) (by simp) ?_
          refine AllReadyH.cons rfl (fun K hK => ?r91_6) AllReadyH.nil
          case r91_6 =>
            (try simp only [List.getElem_toArray, List.getElem_cons_zero, List.getElem_cons_succ])
            go_simp
            refine (wlong_any x w3.heap.size A90 i.T i.t.length i.e i.t _ _ B90.out.wr (by exact B90.out.row RT3.out) (B90.out.away RT3.out) (by omega) B90.out.bel.size (by simp only; rw [HM.out]; omega)).mono ?_
            rw [S2.out]
            intro e u92 k
            obtain ⟨rfl, A92, k'⟩ := B90.out.ret k
            have B92 := Lib.hid k'
            clear k k'
            (try go_wp2_with fail)
            refine hK.out _ _ B92.out.hd (fun hHeld => ?_)
            clear hK K
            (try simp only [Act.put, List.getElem_toArray, List.getElem_cons_zero, List.getElem_cons_succ, List.setIfInBounds_toArray, List.set_cons_zero, List.set_cons_succ])
            refine wpAnyH_ready (rs := [10]) (by kernel_rfl) (by simp) ?_
            refine AllReadyH.cons rfl (fun K hK => ?r93_10) AllReadyH.nil
            case r93_10 =>
              (try simp only [List.getElem_toArray, List.getElem_cons_zero, List.getElem_cons_succ])
              go_simp
              refine (wbytes_any x w3.heap.size A92 _ 1 1 [i.r] i.r _ _ B92.out.wr (by exact (RR.of_blk (T := 22) (k := i.g) (by simpa using (B92.out.lits _ (.tail _ (.head _)))) (B92.out.row RR3.out))) (by simp) (by omega) (by omega) B92.out.bel.size (by simp only; have := HLP.out; omega)).mono ?_
              rw [S3.out]
              intro e u94 k
              obtain ⟨rfl, A94, k'⟩ := B92.out.ret k
              have B94 := Lib.hid k'
              clear k k'
              (try go_wp2_with fail)
              refine hK.out _ _ B94.out.hd (fun hHeld => ?_)
              clear hK K
              (try simp only [Act.put, List.getElem_toArray, List.getElem_cons_zero, List.getElem_cons_succ, List.setIfInBounds_toArray, List.set_cons_zero, List.set_cons_succ])
              refine wpAnyH_ready (rs := [11]) (by kernel_rfl) (by simp) ?_
              refine AllReadyH.cons rfl (fun K hK => ?_) AllReadyH.nil
              (try simp only [List.getElem_toArray, List.getElem_cons_zero, List.getElem_cons_succ])
              go_simp
              refine (wdone_any x w3.heap.size A94 _ _ B94.out.wr (by simp only; have := HLP.out; rw [HF.out, List.length_append]; omega)).mono ?_
              rw [doneS_0]
              rintro e u95 ⟨A95, c95, rfl, ho, hb⟩
              have O95 := Lib.hid (And.intro (ho.base_le B94.out.bel.size) (bel_next B94.out.bel hb))
              have I95 := Lib.hid (B94.out.hd.step hb)
              clear ho hb
              (try go_wp2_with fail)
              refine hK.out _ _ I95.out (fun hHeld => ?_)
              clear hK K
              (try simp only [Act.put, List.getElem_toArray, List.getElem_cons_zero, List.getElem_cons_succ, List.setIfInBounds_toArray, List.set_cons_zero, List.set_cons_succ])
              refine wpAnyH_take (i := 12) (v := ?v12_42) rfl (by kernel_rfl) (by kernel_rfl) (by kernel_rfl) (fun _ _ _ h => h) (Or.inl ⟨by rfl, ?hy12_42⟩) hHeld ?_
              case hy12_42 => (intro w hSw; (try dsimp only at hSw); have q0 := hSw.c4; have q1 := hSw.c5; (try simp only [List.getElem_toArray, List.getElem_cons_zero, List.getElem_cons_succ]); go_simp <;> with_reducible rfl)
              (try simp only [Act.put, List.getElem_toArray, List.getElem_cons_zero, List.getElem_cons_succ, List.setIfInBounds_toArray, List.set_cons_zero, List.set_cons_succ])
              refine wpAnyH_take (i := 13) (v := ?v13_43) rfl (by kernel_rfl) (by kernel_rfl) (by kernel_rfl) (fun _ _ _ h => h) (Or.inl ⟨by rfl, ?hy13_43⟩) hHeld ?_
              case hy13_43 => (intro w hSw; (try dsimp only at hSw); have q0 := hSw.c4; have q1 := hSw.c5; (try simp only [List.getElem_toArray, List.getElem_cons_zero, List.getElem_cons_succ]); go_simp <;> with_reducible rfl)
              (try simp only [Act.put, List.getElem_toArray, List.getElem_cons_zero, List.getElem_cons_succ, List.setIfInBounds_toArray, List.set_cons_zero, List.set_cons_succ])
              refine wpAnyH_take (i := 14) (v := ?v14_44) rfl (by kernel_rfl) (by kernel_rfl) (by kernel_rfl) (fun _ _ _ h => h) (Or.inl ⟨by rfl, ?hy14_44⟩) hHeld ?_
              case hy14_44 => (intro w hSw; (try dsimp only at hSw); have q0 := hSw.c4; have q1 := hSw.c5; (try simp only [List.getElem_toArray, List.getElem_cons_zero, List.getElem_cons_succ]); go_simp <;> with_reducible rfl)
              (try simp only [Act.put, List.getElem_toArray, List.getElem_cons_zero, List.getElem_cons_succ, List.setIfInBounds_toArray, List.set_cons_zero, List.set_cons_succ])
              refine wpAnyH_take (i := 15) (v := ?v15_45) rfl (by kernel_rfl) (by kernel_rfl) (by kernel_rfl) (fun _ _ _ h => h) (Or.inl ⟨by rfl, ?hy15_45⟩) hHeld ?_
              case hy15_45 => (intro w hSw; (try dsimp only at hSw); have q0 := hSw.c4; have q1 := hSw.c5; (try simp only [List.getElem_toArray, List.getElem_cons_zero, List.getElem_cons_succ]); go_simp <;> with_reducible rfl)
              (try simp only [Act.put, List.getElem_toArray, List.getElem_cons_zero, List.getElem_cons_succ, List.setIfInBounds_toArray, List.set_cons_zero, List.set_cons_succ])
              refine wpAnyH_done (by kernel_rfl) ?_ _
              go_wp2_with fail
              rw [HE.out]
              go_ret2
              exact ⟨A95, c95, by rw [HRW.out]; rfl, by rw [HRW.out]; exact O95.out.1.base_le H3.out.2.1.size, bel_next H3.out.2.1 O95.out.2⟩
end Go.Proofs.Ytdagmhngkpbonaa
