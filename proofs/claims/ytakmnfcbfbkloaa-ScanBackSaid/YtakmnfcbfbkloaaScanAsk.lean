/- Layer 9's statements ask both readers the same question: their states go on as the document says, and alike readers answer alike. Conditions: as in Scan. -/
import Derived.Test.YtakmnfcbfbkloaaScanArg
import Derived.Deep.RegionHeld3
namespace Go.Proofs.Ytakmnfcbfbkloaa
open Go.RowKit
set_option linter.unusedVariables false
set_option linter.unusedSimpArgs false

/-- A reader's state behind a question. -/
def askS (what N : Int) (s : Int × List UInt8) : Int × List UInt8 :=
  if what = 0 then (numS N s).2 else if what = 1 then (bytesS N s).2 else if what = 2 then (variS s).2 else if what = 3 then (shortS s).2 else if what = 4 then (longS s).2 else if what = 5 then (restS s).2 else if what = 6 then endS s else s
/-- What ask answers and leaves. -/
def RetA (x y : Nat) (what N : Int) (s t : Int × List UInt8) (w : World) (e : Ending) (w' : World) : Prop :=
  ∃ v, e = .returned (.bool v) ∧ (s = t → v = true) ∧ Oth [x, y] w w' ∧ RdR w' x (askS what N s) ∧ RdQ w' y (askS what N t)
theorem oth_l {x y : Nat} {w w' : World} (h : Oth [x] w w') : Oth [x, y] w w' := h.more (fun k hk => by simp only [List.mem_cons, List.not_mem_nil, or_false] at hk ⊢; exact .inl hk)
theorem oth_r {x y : Nat} {w w' : World} (h : Oth [y] w w') : Oth [x, y] w w' := h.more (fun k hk => by simp only [List.mem_cons, List.not_mem_nil, or_false] at hk ⊢; exact .inr hk)
/-- What a walk of ask carries: the box of the question, both readers. -/
structure AK (w0 : World) (g x y : Nat) (what N : Int) (s t : Int × List UInt8) (w : World) : Prop where
  ho : Oth [x, y] w0 w
  box : Two 34 w g (.int .i64 what) (.int .i64 N)
  r : RdR w x s
  q : RdQ w y t
  ne : g ≠ x ∧ g ≠ y
section
variable {w0 w w' : World} {g x y : Nat} {what N : Int} {s t s' t' : Int × List UInt8}
theorem AK.real (h : AK w0 g x y what N s t w) (ho : Oth [x] w w') (hr : RdR w' x s') : AK w0 g x y what N s' t w' :=
  ⟨h.ho.trans (oth_l ho), h.box.oth ho (by simpa using h.ne.1), hr, h.q.oth h.r ho, h.ne⟩
theorem AK.ref (h : AK w0 g x y what N s t w) (ho : Oth [y] w w') (hr : RdQ w' y t') : AK w0 g x y what N s t' w' :=
  ⟨h.ho.trans (oth_r ho), h.box.oth ho (by simpa using h.ne.2), h.r.oth h.q ho, hr, h.ne⟩
theorem AK.step (h : AK w0 g x y what N s t w) (hb : Below w.heap.size w w') : AK w0 g x y what N s t w' :=
  ⟨h.ho.trans (Oth.of_below hb), h.box.step hb, h.r.step hb, h.q.step hb, h.ne⟩
end
theorem AK.new {w : World} {x y : Nat} {what N : Int} {s t : Int × List UInt8} (h1 : RdR w x s) (h2 : RdQ w y t) : AK w w.heap.size x y what N s t (w.alloc (.cells #[.int .i64 what, .int .i64 N] 34)) :=
  ⟨Oth.of_below (below_alloc _ _), Two.new _ _ _ _, h1.step (below_alloc _ _), h2.step (below_alloc _ _), Nat.ne_of_gt h1.lt, Nat.ne_of_gt h2.lt⟩
set_option maxRecDepth 100000 in
set_option maxHeartbeats 1000000 in
theorem ask_0 (x y : Nat) (N : Int) (hN : I64 N) (s t : Int × List UInt8) (w : World) (h1 : RdR w x s) (h2 : RdQ w y t) :
    Calls Try.prog 10 #[.pointer (some ⟨x, 0, none⟩), .pointer (some ⟨y, 0, none⟩), .agg #[.int .i64 0, .int .i64 N]] w (RetA x y 0 N s t w) := by
  have K1 := Lib.hid (AK.new (what := 0) (N := N) h1 h2)
  unfold I64 at hN
  clear h1 h2
  obtain ⟨a, HA⟩ : ∃ a, Hid (a = numS N s) := ⟨_, Lib.hid rfl⟩
  obtain ⟨b, HB⟩ : ∃ b, Hid (b = numS N t) := ⟨_, Lib.hid rfl⟩
  obtain ⟨v, hv⟩ : ∃ v, ((a.1 : Int) == (b.1 : Int)) = v := ⟨_, rfl⟩
  have hv2 : decide (a.1 = b.1) = v := by rw [← hv]; rw [Bool.eq_iff_iff]; simp; omega
  go_enter Try.func10, Try.ntmps10
  go_wp2_with fail
  refine wp_region_held_drew (S := fun w' => w'.cell? ⟨w.heap.size, 1, none⟩ = some (.int .i64 N)) (by kernel_rfl) K1.out.box.c1 (fun hHeld => ?_)
  (try dsimp only at hHeld)
  have K1 := Lib.hid (K1.out.step (Below.refl _ _).drew)
  refine wpAnyH_take (i := 0) (v := ?v0_1) rfl (by kernel_rfl) (by kernel_rfl) (by kernel_rfl) (fun _ _ _ h => h) (Or.inl ⟨by rfl, ?hy0_1⟩) hHeld ?_
  case hy0_1 => (intro w hSw; (try dsimp only at hSw); (try simp only [List.getElem_toArray, List.getElem_cons_zero, List.getElem_cons_succ]); go_simp <;> with_reducible rfl)
  (try simp only [Act.put, List.getElem_toArray, List.getElem_cons_zero, List.getElem_cons_succ, List.setIfInBounds_toArray, List.set_cons_zero, List.set_cons_succ])
  refine wpAnyH_take (i := 1) (v := ?v1_2) rfl (by kernel_rfl) (by kernel_rfl) (by kernel_rfl) (fun _ _ _ h => h) (Or.inl ⟨by rfl, ?hy1_2⟩) hHeld ?_
  case hy1_2 => (intro w hSw; (try dsimp only at hSw); (try simp only [List.getElem_toArray, List.getElem_cons_zero, List.getElem_cons_succ]); go_simp <;> with_reducible rfl)
  (try simp only [Act.put, List.getElem_toArray, List.getElem_cons_zero, List.getElem_cons_succ, List.setIfInBounds_toArray, List.set_cons_zero, List.set_cons_succ])
  refine wpAnyH_take (i := 2) (v := ?v2_3) rfl (by kernel_rfl) (by kernel_rfl) (by kernel_rfl) (fun _ _ _ h => h) (Or.inl ⟨by rfl, ?hy2_3⟩) hHeld ?_
  case hy2_3 => (intro w hSw; (try dsimp only at hSw); (try simp only [List.getElem_toArray, List.getElem_cons_zero, List.getElem_cons_succ]); go_simp <;> with_reducible rfl)
  (try simp only [Act.put, List.getElem_toArray, List.getElem_cons_zero, List.getElem_cons_succ, List.setIfInBounds_toArray, List.set_cons_zero, List.set_cons_succ])
  refine wpAnyH_take (i := 4) (v := ?v4_4) rfl (by kernel_rfl) (by kernel_rfl) (by kernel_rfl) (fun _ _ _ h => h) (Or.inl ⟨by rfl, ?hy4_4⟩) hHeld ?_
  case hy4_4 => (intro w hSw; (try dsimp only at hSw); (try simp only [List.getElem_toArray, List.getElem_cons_zero, List.getElem_cons_succ]); go_simp <;> with_reducible rfl)
  (try simp only [Act.put, List.getElem_toArray, List.getElem_cons_zero, List.getElem_cons_succ, List.setIfInBounds_toArray, List.set_cons_zero, List.set_cons_succ])
  refine wpAnyH_take (i := 5) (v := ?v5_5) rfl (by kernel_rfl) (by kernel_rfl) (by kernel_rfl) (fun _ _ _ h => h) (Or.inl ⟨by rfl, ?hy5_5⟩) hHeld ?_
  case hy5_5 => (intro w hSw; (try dsimp only at hSw); (try simp only [List.getElem_toArray, List.getElem_cons_zero, List.getElem_cons_succ]); go_simp <;> with_reducible rfl)
  (try simp only [Act.put, List.getElem_toArray, List.getElem_cons_zero, List.getElem_cons_succ, List.setIfInBounds_toArray, List.set_cons_zero, List.set_cons_succ])
  refine wpAnyH_take (i := 6) (v := ?v6_6) rfl (by kernel_rfl) (by kernel_rfl) (by kernel_rfl) (fun _ _ _ h => h) (Or.inl ⟨by rfl, ?hy6_6⟩) hHeld ?_
  case hy6_6 => (intro w hSw; (try dsimp only at hSw); (try simp only [List.getElem_toArray, List.getElem_cons_zero, List.getElem_cons_succ]); go_simp <;> with_reducible rfl)
  (try simp only [Act.put, List.getElem_toArray, List.getElem_cons_zero, List.getElem_cons_succ, List.setIfInBounds_toArray, List.set_cons_zero, List.set_cons_succ])
  refine wpAnyH_ready (rs := [3]) (by kernel_rfl) (by simp) ?_
  refine AllReadyH.cons rfl (fun K hK => ?_) AllReadyH.nil
  (try simp only [List.getElem_toArray, List.getElem_cons_zero, List.getElem_cons_succ])
  go_simp
  refine (rnum_any x N s _ K1.out.r hN.2).mono ?_
  rw [← HA.out]
  rintro e w1 ⟨rfl, ho, hr⟩
  have K2 := Lib.hid (K1.out.real ho hr)
  clear ho hr
  (try go_wp2_with fail)
  refine hK.out _ _ K2.out.box.c1 (fun hHeld => ?_)
  clear hK K
  (try simp only [Act.put, List.getElem_toArray, List.getElem_cons_zero, List.getElem_cons_succ, List.setIfInBounds_toArray, List.set_cons_zero, List.set_cons_succ])
  refine wpAnyH_ready (rs := [7]) (by kernel_rfl) (by simp) ?_
  refine AllReadyH.cons rfl (fun K hK => ?_) AllReadyH.nil
  (try simp only [List.getElem_toArray, List.getElem_cons_zero, List.getElem_cons_succ])
  go_simp
  refine (qnum_any y N t _ K2.out.q hN.2).mono ?_
  rw [← HB.out]
  rintro e w2 ⟨rfl, ho, hr⟩
  have K3 := Lib.hid (K2.out.ref ho hr)
  clear ho hr
  (try go_wp2_with fail)
  refine hK.out _ _ K3.out.box.c1 (fun hHeld => ?_)
  clear hK K
  (try simp only [Act.put, List.getElem_toArray, List.getElem_cons_zero, List.getElem_cons_succ, List.setIfInBounds_toArray, List.set_cons_zero, List.set_cons_succ])
  refine wpAnyH_take (i := 8) (v := ?v8_7) rfl (by kernel_rfl) (by kernel_rfl) (by kernel_rfl) (fun _ _ _ h => h) (Or.inl ⟨by rfl, ?hy8_7⟩) hHeld ?_
  case hy8_7 => (intro w hSw; (try dsimp only at hSw); (try simp only [List.getElem_toArray, List.getElem_cons_zero, List.getElem_cons_succ]); go_simp <;> with_reducible rfl)
  (try simp only [Act.put, List.getElem_toArray, List.getElem_cons_zero, List.getElem_cons_succ, List.setIfInBounds_toArray, List.set_cons_zero, List.set_cons_succ])
  refine wpAnyH_take (i := 9) (v := ?v9_8) rfl (by kernel_rfl) (by kernel_rfl) (by kernel_rfl) (fun _ _ _ h => h) (Or.inl ⟨by rfl, ?hy9_8⟩) hHeld ?_
  case hy9_8 => (intro w hSw; (try dsimp only at hSw); (try simp only [List.getElem_toArray, List.getElem_cons_zero, List.getElem_cons_succ]); go_simp <;> with_reducible rfl)
  (try simp only [Act.put, List.getElem_toArray, List.getElem_cons_zero, List.getElem_cons_succ, List.setIfInBounds_toArray, List.set_cons_zero, List.set_cons_succ])
  refine wpAnyH_done (by kernel_rfl) ?_ _
  go_wp2_with fail
  go_ret
  refine ⟨v, rfl, fun e => ?_, K3.out.ho, ?_, ?_⟩
  · subst e
    rw [← hv, HA.out, HB.out]
    simp
  · have := K3.out.r
    rw [HA.out] at this
    exact this
  · have := K3.out.q
    rw [HB.out] at this
    exact this
set_option maxRecDepth 100000 in
set_option maxHeartbeats 1000000 in
theorem ask_2 (x y : Nat) (N : Int) (hN : I64 N) (s t : Int × List UInt8) (w : World) (h1 : RdR w x s) (h2 : RdQ w y t) :
    Calls Try.prog 10 #[.pointer (some ⟨x, 0, none⟩), .pointer (some ⟨y, 0, none⟩), .agg #[.int .i64 2, .int .i64 N]] w (RetA x y 2 N s t w) := by
  have K1 := Lib.hid (AK.new (what := 2) (N := N) h1 h2)
  unfold I64 at hN
  clear h1 h2
  obtain ⟨a, HA⟩ : ∃ a, Hid (a = variS s) := ⟨_, Lib.hid rfl⟩
  obtain ⟨b, HB⟩ : ∃ b, Hid (b = variS t) := ⟨_, Lib.hid rfl⟩
  obtain ⟨v, hv⟩ : ∃ v, ((a.1 : Int) == (b.1 : Int)) = v := ⟨_, rfl⟩
  have hv2 : decide (a.1 = b.1) = v := by rw [← hv]; rw [Bool.eq_iff_iff]; simp; omega
  go_enter Try.func10, Try.ntmps10
  go_wp2_with fail
  refine (rvari_any x s _ K1.out.r).mono ?_
  rw [← HA.out]
  rintro e w1 ⟨rfl, ho, hr⟩
  have K2 := Lib.hid (K1.out.real ho hr)
  clear ho hr
  go_wp2_with fail
  refine (qvari_any y t _ K2.out.q).mono ?_
  rw [← HB.out]
  rintro e w2 ⟨rfl, ho, hr⟩
  have K3 := Lib.hid (K2.out.ref ho hr)
  clear ho hr
  go_wp2_with fail
  go_ret
  refine ⟨v, rfl, fun e => ?_, K3.out.ho, ?_, ?_⟩
  · subst e
    rw [← hv, HA.out, HB.out]
    simp
  · have := K3.out.r
    rw [HA.out] at this
    exact this
  · have := K3.out.q
    rw [HB.out] at this
    exact this
set_option maxRecDepth 100000 in
set_option maxHeartbeats 1000000 in
theorem ask_1 (x y : Nat) (N : Int) (hN : I64 N) (s t : Int × List UInt8) (w : World) (h1 : RdR w x s) (h2 : RdQ w y t) :
    Calls Try.prog 10 #[.pointer (some ⟨x, 0, none⟩), .pointer (some ⟨y, 0, none⟩), .agg #[.int .i64 1, .int .i64 N]] w (RetA x y 1 N s t w) := by
  have K1 := Lib.hid (AK.new (what := 1) (N := N) h1 h2)
  unfold I64 at hN
  clear h1 h2
  obtain ⟨a, HA⟩ : ∃ a, Hid (a = bytesS N s) := ⟨_, Lib.hid rfl⟩
  obtain ⟨b, HB⟩ : ∃ b, Hid (b = bytesS N t) := ⟨_, Lib.hid rfl⟩
  go_enter Try.func10, Try.ntmps10
  go_wp2_with fail
  refine wp_region_held_drew (S := fun w' => w'.cell? ⟨w.heap.size, 1, none⟩ = some (.int .i64 N)) (by kernel_rfl) K1.out.box.c1 (fun hHeld => ?_)
  (try dsimp only at hHeld)
  have K1 := Lib.hid (K1.out.step (Below.refl _ _).drew)
  refine wpAnyH_take (i := 0) (v := ?v0_9) rfl (by kernel_rfl) (by kernel_rfl) (by kernel_rfl) (fun _ _ _ h => h) (Or.inl ⟨by rfl, ?hy0_9⟩) hHeld ?_
  case hy0_9 => (intro w hSw; (try dsimp only at hSw); (try simp only [List.getElem_toArray, List.getElem_cons_zero, List.getElem_cons_succ]); go_simp <;> with_reducible rfl)
  (try simp only [Act.put, List.getElem_toArray, List.getElem_cons_zero, List.getElem_cons_succ, List.setIfInBounds_toArray, List.set_cons_zero, List.set_cons_succ])
  refine wpAnyH_take (i := 1) (v := ?v1_10) rfl (by kernel_rfl) (by kernel_rfl) (by kernel_rfl) (fun _ _ _ h => h) (Or.inl ⟨by rfl, ?hy1_10⟩) hHeld ?_
  case hy1_10 => (intro w hSw; (try dsimp only at hSw); (try simp only [List.getElem_toArray, List.getElem_cons_zero, List.getElem_cons_succ]); go_simp <;> with_reducible rfl)
  (try simp only [Act.put, List.getElem_toArray, List.getElem_cons_zero, List.getElem_cons_succ, List.setIfInBounds_toArray, List.set_cons_zero, List.set_cons_succ])
  refine wpAnyH_take (i := 2) (v := ?v2_11) rfl (by kernel_rfl) (by kernel_rfl) (by kernel_rfl) (fun _ _ _ h => h) (Or.inl ⟨by rfl, ?hy2_11⟩) hHeld ?_
  case hy2_11 => (intro w hSw; (try dsimp only at hSw); (try simp only [List.getElem_toArray, List.getElem_cons_zero, List.getElem_cons_succ]); go_simp <;> with_reducible rfl)
  (try simp only [Act.put, List.getElem_toArray, List.getElem_cons_zero, List.getElem_cons_succ, List.setIfInBounds_toArray, List.set_cons_zero, List.set_cons_succ])
  refine wpAnyH_take (i := 4) (v := ?v4_12) rfl (by kernel_rfl) (by kernel_rfl) (by kernel_rfl) (fun _ _ _ h => h) (Or.inl ⟨by rfl, ?hy4_12⟩) hHeld ?_
  case hy4_12 => (intro w hSw; (try dsimp only at hSw); (try simp only [List.getElem_toArray, List.getElem_cons_zero, List.getElem_cons_succ]); go_simp <;> with_reducible rfl)
  (try simp only [Act.put, List.getElem_toArray, List.getElem_cons_zero, List.getElem_cons_succ, List.setIfInBounds_toArray, List.set_cons_zero, List.set_cons_succ])
  refine wpAnyH_take (i := 5) (v := ?v5_13) rfl (by kernel_rfl) (by kernel_rfl) (by kernel_rfl) (fun _ _ _ h => h) (Or.inl ⟨by rfl, ?hy5_13⟩) hHeld ?_
  case hy5_13 => (intro w hSw; (try dsimp only at hSw); (try simp only [List.getElem_toArray, List.getElem_cons_zero, List.getElem_cons_succ]); go_simp <;> with_reducible rfl)
  (try simp only [Act.put, List.getElem_toArray, List.getElem_cons_zero, List.getElem_cons_succ, List.setIfInBounds_toArray, List.set_cons_zero, List.set_cons_succ])
  refine wpAnyH_take (i := 6) (v := ?v6_14) rfl (by kernel_rfl) (by kernel_rfl) (by kernel_rfl) (fun _ _ _ h => h) (Or.inl ⟨by rfl, ?hy6_14⟩) hHeld ?_
  case hy6_14 => (intro w hSw; (try dsimp only at hSw); (try simp only [List.getElem_toArray, List.getElem_cons_zero, List.getElem_cons_succ]); go_simp <;> with_reducible rfl)
  (try simp only [Act.put, List.getElem_toArray, List.getElem_cons_zero, List.getElem_cons_succ, List.setIfInBounds_toArray, List.set_cons_zero, List.set_cons_succ])
  refine wpAnyH_ready (rs := [3]) (by kernel_rfl) (by simp) ?_
  refine AllReadyH.cons rfl (fun K hK => ?_) AllReadyH.nil
  (try simp only [List.getElem_toArray, List.getElem_cons_zero, List.getElem_cons_succ])
  go_simp
  refine (rbytes_any x N s _ K1.out.r hN.2).mono ?_
  rw [← HA.out]
  rintro e w1 ⟨A1, n1, c1, rfl, hw, ho, hr⟩
  have K2 := Lib.hid (K1.out.real ho hr)
  have R1 := Lib.hid hw.rb
  have C1 := hw.cap
  clear ho hr hw
  (try go_wp2_with fail)
  refine hK.out _ _ K2.out.box.c1 (fun hHeld => ?_)
  clear hK K
  (try simp only [Act.put, List.getElem_toArray, List.getElem_cons_zero, List.getElem_cons_succ, List.setIfInBounds_toArray, List.set_cons_zero, List.set_cons_succ])
  refine wpAnyH_ready (rs := [7]) (by kernel_rfl) (by simp) ?_
  refine AllReadyH.cons rfl (fun K hK => ?_) AllReadyH.nil
  (try simp only [List.getElem_toArray, List.getElem_cons_zero, List.getElem_cons_succ])
  go_simp
  refine (qbytes_any y N t _ K2.out.q hN.2).mono ?_
  rw [← HB.out]
  rintro e w2 ⟨A2, n2, c2, rfl, hw, ho, hr⟩
  have K3 := Lib.hid (K2.out.ref ho hr)
  have R2 := Lib.hid (And.intro (R1.out.oth ho (K2.out.q.row R1.out)) hw.rb)
  have C2 := hw.cap
  clear ho hr hw
  (try go_wp2_with fail)
  refine hK.out _ _ K3.out.box.c1 (fun hHeld => ?_)
  clear hK K
  (try simp only [Act.put, List.getElem_toArray, List.getElem_cons_zero, List.getElem_cons_succ, List.setIfInBounds_toArray, List.set_cons_zero, List.set_cons_succ])
  refine wpAnyH_ready (rs := [8]) (by kernel_rfl) (by simp) ?_
  refine AllReadyH.cons rfl (fun K hK => ?_) AllReadyH.nil
  (try simp only [List.getElem_toArray, List.getElem_cons_zero, List.getElem_cons_succ])
  go_simp
  refine (same_any A1 A2 n1 c1 n2 c2 _ _ a.1 b.1 _ R2.out.1 R2.out.2 (Nat.le_trans C1.1 C1.2) (Nat.le_trans C2.1 C2.2)).mono ?_
  rintro e w3 ⟨rfl, d, rfl⟩
  have K4 := Lib.hid (K3.out.step (below_drewN (Below.refl _ _) d))
  (try go_wp2_with fail)
  refine hK.out _ _ K4.out.box.c1 (fun hHeld => ?_)
  clear hK K
  (try simp only [Act.put, List.getElem_toArray, List.getElem_cons_zero, List.getElem_cons_succ, List.setIfInBounds_toArray, List.set_cons_zero, List.set_cons_succ])
  refine wpAnyH_take (i := 9) (v := ?v9_15) rfl (by kernel_rfl) (by kernel_rfl) (by kernel_rfl) (fun _ _ _ h => h) (Or.inl ⟨by rfl, ?hy9_15⟩) hHeld ?_
  case hy9_15 => (intro w hSw; (try dsimp only at hSw); (try simp only [List.getElem_toArray, List.getElem_cons_zero, List.getElem_cons_succ]); go_simp <;> with_reducible rfl)
  (try simp only [Act.put, List.getElem_toArray, List.getElem_cons_zero, List.getElem_cons_succ, List.setIfInBounds_toArray, List.set_cons_zero, List.set_cons_succ])
  refine wpAnyH_done (by kernel_rfl) ?_ _
  go_wp2_with fail
  go_ret
  refine ⟨(a.1 == b.1), rfl, fun e => ?_, K4.out.ho, ?_, ?_⟩
  · subst e
    rw [HA.out, HB.out]
    simp
  · have := K4.out.r
    rw [HA.out] at this
    exact this
  · have := K4.out.q
    rw [HB.out] at this
    exact this
set_option maxRecDepth 100000 in
set_option maxHeartbeats 1000000 in
theorem ask_3 (x y : Nat) (N : Int) (hN : I64 N) (s t : Int × List UInt8) (w : World) (h1 : RdR w x s) (h2 : RdQ w y t) :
    Calls Try.prog 10 #[.pointer (some ⟨x, 0, none⟩), .pointer (some ⟨y, 0, none⟩), .agg #[.int .i64 3, .int .i64 N]] w (RetA x y 3 N s t w) := by
  have K1 := Lib.hid (AK.new (what := 3) (N := N) h1 h2)
  unfold I64 at hN
  clear h1 h2
  obtain ⟨a, HA⟩ : ∃ a, Hid (a = shortS s) := ⟨_, Lib.hid rfl⟩
  obtain ⟨b, HB⟩ : ∃ b, Hid (b = shortS t) := ⟨_, Lib.hid rfl⟩
  go_enter Try.func10, Try.ntmps10
  go_wp2_with fail
  refine (rshort_any x s _ K1.out.r).mono ?_
  rw [← HA.out]
  rintro e w1 ⟨A1, n1, c1, rfl, hw, ho, hr⟩
  have K2 := Lib.hid (K1.out.real ho hr)
  have R1 := Lib.hid hw.rb
  have C1 := hw.cap
  clear ho hr hw
  go_wp2_with fail
  refine (qshort_any y t _ K2.out.q).mono ?_
  rw [← HB.out]
  rintro e w2 ⟨A2, n2, c2, rfl, hw, ho, hr⟩
  have K3 := Lib.hid (K2.out.ref ho hr)
  have R2 := Lib.hid (And.intro (R1.out.oth ho (K2.out.q.row R1.out)) hw.rb)
  have C2 := hw.cap
  clear ho hr hw
  go_wp2_with fail
  refine (same_any A1 A2 n1 c1 n2 c2 _ _ a.1 b.1 _ R2.out.1 R2.out.2 (Nat.le_trans C1.1 C1.2) (Nat.le_trans C2.1 C2.2)).mono ?_
  rintro e w3 ⟨rfl, d, rfl⟩
  have K4 := Lib.hid (K3.out.step (below_drewN (Below.refl _ _) d))
  go_wp2_with fail
  go_ret
  refine ⟨(a.1 == b.1), rfl, fun e => ?_, K4.out.ho, ?_, ?_⟩
  · subst e
    rw [HA.out, HB.out]
    simp
  · have := K4.out.r
    rw [HA.out] at this
    exact this
  · have := K4.out.q
    rw [HB.out] at this
    exact this
set_option maxRecDepth 100000 in
set_option maxHeartbeats 1000000 in
theorem ask_4 (x y : Nat) (N : Int) (hN : I64 N) (s t : Int × List UInt8) (w : World) (h1 : RdR w x s) (h2 : RdQ w y t) :
    Calls Try.prog 10 #[.pointer (some ⟨x, 0, none⟩), .pointer (some ⟨y, 0, none⟩), .agg #[.int .i64 4, .int .i64 N]] w (RetA x y 4 N s t w) := by
  have K1 := Lib.hid (AK.new (what := 4) (N := N) h1 h2)
  unfold I64 at hN
  clear h1 h2
  obtain ⟨a, HA⟩ : ∃ a, Hid (a = longS s) := ⟨_, Lib.hid rfl⟩
  obtain ⟨b, HB⟩ : ∃ b, Hid (b = longS t) := ⟨_, Lib.hid rfl⟩
  go_enter Try.func10, Try.ntmps10
  go_wp2_with fail
  refine (rlong_any x s _ K1.out.r).mono ?_
  rw [← HA.out]
  rintro e w1 ⟨A1, n1, c1, rfl, hw, ho, hr⟩
  have K2 := Lib.hid (K1.out.real ho hr)
  have R1 := Lib.hid hw.rb
  have C1 := hw.cap
  clear ho hr hw
  go_wp2_with fail
  refine (qlong_any y t _ K2.out.q).mono ?_
  rw [← HB.out]
  rintro e w2 ⟨A2, n2, c2, rfl, hw, ho, hr⟩
  have K3 := Lib.hid (K2.out.ref ho hr)
  have R2 := Lib.hid (And.intro (R1.out.oth ho (K2.out.q.row R1.out)) hw.rb)
  have C2 := hw.cap
  clear ho hr hw
  go_wp2_with fail
  refine (same_any A1 A2 n1 c1 n2 c2 _ _ a.1 b.1 _ R2.out.1 R2.out.2 (Nat.le_trans C1.1 C1.2) (Nat.le_trans C2.1 C2.2)).mono ?_
  rintro e w3 ⟨rfl, d, rfl⟩
  have K4 := Lib.hid (K3.out.step (below_drewN (Below.refl _ _) d))
  go_wp2_with fail
  go_ret
  refine ⟨(a.1 == b.1), rfl, fun e => ?_, K4.out.ho, ?_, ?_⟩
  · subst e
    rw [HA.out, HB.out]
    simp
  · have := K4.out.r
    rw [HA.out] at this
    exact this
  · have := K4.out.q
    rw [HB.out] at this
    exact this
set_option maxRecDepth 100000 in
set_option maxHeartbeats 1000000 in
theorem ask_5 (x y : Nat) (N : Int) (hN : I64 N) (s t : Int × List UInt8) (w : World) (h1 : RdR w x s) (h2 : RdQ w y t) :
    Calls Try.prog 10 #[.pointer (some ⟨x, 0, none⟩), .pointer (some ⟨y, 0, none⟩), .agg #[.int .i64 5, .int .i64 N]] w (RetA x y 5 N s t w) := by
  have K1 := Lib.hid (AK.new (what := 5) (N := N) h1 h2)
  unfold I64 at hN
  clear h1 h2
  obtain ⟨a, HA⟩ : ∃ a, Hid (a = restS s) := ⟨_, Lib.hid rfl⟩
  obtain ⟨b, HB⟩ : ∃ b, Hid (b = restS t) := ⟨_, Lib.hid rfl⟩
  go_enter Try.func10, Try.ntmps10
  go_wp2_with fail
  refine (rrest_any x s _ K1.out.r).mono ?_
  rw [← HA.out]
  rintro e w1 ⟨A1, n1, c1, rfl, hw, ho, hr⟩
  have K2 := Lib.hid (K1.out.real ho hr)
  have R1 := Lib.hid hw.rb
  have C1 := hw.cap
  clear ho hr hw
  go_wp2_with fail
  refine (qrest_any y t _ K2.out.q).mono ?_
  rw [← HB.out]
  rintro e w2 ⟨A2, n2, c2, rfl, hw, ho, hr⟩
  have K3 := Lib.hid (K2.out.ref ho hr)
  have R2 := Lib.hid (And.intro (R1.out.oth ho (K2.out.q.row R1.out)) hw.rb)
  have C2 := hw.cap
  clear ho hr hw
  go_wp2_with fail
  refine (same_any A1 A2 n1 c1 n2 c2 _ _ a.1 b.1 _ R2.out.1 R2.out.2 (Nat.le_trans C1.1 C1.2) (Nat.le_trans C2.1 C2.2)).mono ?_
  rintro e w3 ⟨rfl, d, rfl⟩
  have K4 := Lib.hid (K3.out.step (below_drewN (Below.refl _ _) d))
  go_wp2_with fail
  go_ret
  refine ⟨(a.1 == b.1), rfl, fun e => ?_, K4.out.ho, ?_, ?_⟩
  · subst e
    rw [HA.out, HB.out]
    simp
  · have := K4.out.r
    rw [HA.out] at this
    exact this
  · have := K4.out.q
    rw [HB.out] at this
    exact this
set_option maxRecDepth 100000 in
set_option maxHeartbeats 1000000 in
theorem ask_6 (x y : Nat) (N : Int) (hN : I64 N) (s t : Int × List UInt8) (w : World) (h1 : RdR w x s) (h2 : RdQ w y t) :
    Calls Try.prog 10 #[.pointer (some ⟨x, 0, none⟩), .pointer (some ⟨y, 0, none⟩), .agg #[.int .i64 6, .int .i64 N]] w (RetA x y 6 N s t w) := by
  have K1 := Lib.hid (AK.new (what := 6) (N := N) h1 h2)
  unfold I64 at hN
  clear h1 h2
  obtain ⟨a, HA⟩ : ∃ a, Hid (a = endS s) := ⟨_, Lib.hid rfl⟩
  obtain ⟨b, HB⟩ : ∃ b, Hid (b = endS t) := ⟨_, Lib.hid rfl⟩
  obtain ⟨v, hv⟩ : ∃ v, (a.1 == b.1) = v := ⟨_, rfl⟩
  have hv2 : decide (a.1 = b.1) = v := by rw [← hv]; rw [Bool.eq_iff_iff]; simp
  go_enter Try.func10, Try.ntmps10
  go_wp2_with fail
  refine (end_any x s _ K1.out.r).mono ?_
  rw [← HA.out]
  rintro e w1 ⟨rfl, ho, hr⟩
  have K2 := Lib.hid (K1.out.real ho hr)
  clear ho hr
  go_wp2_with fail
  refine (qend_any y t _ K2.out.q).mono ?_
  rw [← HB.out]
  rintro e w2 ⟨rfl, ho, hr⟩
  have K3 := Lib.hid (K2.out.ref ho hr)
  clear ho hr
  go_wp2_with fail
  go_ret
  refine ⟨v, rfl, fun e => ?_, K3.out.ho, ?_, ?_⟩
  · subst e
    rw [← hv, HA.out, HB.out]
    simp
  · have := K3.out.r
    rw [HA.out] at this
    exact this
  · have := K3.out.q
    rw [HB.out] at this
    exact this
set_option maxRecDepth 100000 in
theorem ask_no (x y : Nat) (k N : Int) (hk : k ≠ 0 ∧ k ≠ 1 ∧ k ≠ 2 ∧ k ≠ 3 ∧ k ≠ 4 ∧ k ≠ 5 ∧ k ≠ 6) (s t : Int × List UInt8) (w : World) (h1 : RdR w x s) (h2 : RdQ w y t) :
    Calls Try.prog 10 #[.pointer (some ⟨x, 0, none⟩), .pointer (some ⟨y, 0, none⟩), .agg #[.int .i64 k, .int .i64 N]] w (RetA x y k N s t w) := by
  have K1 := Lib.hid (AK.new (what := k) (N := N) h1 h2)
  have e0 : (k == 0) = false := by rw [beq_eq_false_iff_ne]; exact hk.1
  have e1 : (k == 1) = false := by rw [beq_eq_false_iff_ne]; exact hk.2.1
  have e2 : (k == 2) = false := by rw [beq_eq_false_iff_ne]; exact hk.2.2.1
  have e3 : (k == 3) = false := by rw [beq_eq_false_iff_ne]; exact hk.2.2.2.1
  have e4 : (k == 4) = false := by rw [beq_eq_false_iff_ne]; exact hk.2.2.2.2.1
  have e5 : (k == 5) = false := by rw [beq_eq_false_iff_ne]; exact hk.2.2.2.2.2.1
  have e6 : (k == 6) = false := by rw [beq_eq_false_iff_ne]; exact hk.2.2.2.2.2.2
  have HE : Hid (∀ u, askS k N u = u) := Lib.hid (fun u => by
    unfold askS
    rw [if_neg hk.1, if_neg hk.2.1, if_neg hk.2.2.1, if_neg hk.2.2.2.1, if_neg hk.2.2.2.2.1, if_neg hk.2.2.2.2.2.1, if_neg hk.2.2.2.2.2.2])
  clear h1 h2 hk
  go_enter Try.func10, Try.ntmps10
  go_wp2_with fail
  go_ret
  exact ⟨true, rfl, fun _ => rfl, K1.out.ho, by rw [HE.out]; exact K1.out.r, by rw [HE.out]; exact K1.out.q⟩
theorem ask_any (x y : Nat) (k N : Int) (hN : I64 N) (s t : Int × List UInt8) (w : World) (h1 : RdR w x s) (h2 : RdQ w y t) :
    Calls Try.prog 10 #[.pointer (some ⟨x, 0, none⟩), .pointer (some ⟨y, 0, none⟩), .agg #[.int .i64 k, .int .i64 N]] w (RetA x y k N s t w) := by
  by_cases k0 : k = 0
  · subst k0; exact ask_0 x y N hN s t w h1 h2
  by_cases k1 : k = 1
  · subst k1; exact ask_1 x y N hN s t w h1 h2
  by_cases k2 : k = 2
  · subst k2; exact ask_2 x y N hN s t w h1 h2
  by_cases k3 : k = 3
  · subst k3; exact ask_3 x y N hN s t w h1 h2
  by_cases k4 : k = 4
  · subst k4; exact ask_4 x y N hN s t w h1 h2
  by_cases k5 : k = 5
  · subst k5; exact ask_5 x y N hN s t w h1 h2
  by_cases k6 : k = 6
  · subst k6; exact ask_6 x y N hN s t w h1 h2
  exact ask_no x y k N ⟨k0, k1, k2, k3, k4, k5, k6⟩ s t w h1 h2
end Go.Proofs.Ytakmnfcbfbkloaa
