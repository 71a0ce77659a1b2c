/- layer 4: Times. Conditions: numbers of 128 bits. -/
import Derived.Test.YtdhgofolcggleaaPolyCo
import Derived.Test.YtdhgofolcggleaaPolyNx
import Derived.Test.YtdhgofolcggleaaPolySum
namespace Go.Proofs.Ytdhgofolcggleaa
open Go.RowKit Go.Shelf
set_option linter.unusedVariables false

theorem coefs_stops (F : Fence) (n : Nat) (hF : F.fn 28) (hro : F.round = none) (hn : 1 ≤ n) (B n₀ h l : Nat) (hh : h < 2 ^ 64) (hl' : l < 2 ^ 64) (w : World) (hB : B < w.heap.size) (hE : Ew w B h l) :
    SeqStopsK F n Try.prog 28 #[.pointer (some ⟨B, 0, none⟩)] (fun x : Bool => #[Value.int .u64 (bI x)]) (Below n₀) (fun ys => ys = co (hl h l)) (fun pre => pre <+: co (hl h l)) 128 w := fun l1 J Jx W hW _ _ hY h0 =>
  coef1_in F n hF hro hn l1 B h l n₀ hh hl' J Jx hY W (hE.below hW hB) h0
theorem hl_up (p q : Nat) (hq : q < 2 ^ 64) : hl p q / 2 ^ 64 = p ∧ hl p q % 2 ^ 64 = q := by unfold hl; omega
theorem gSum_nil (s : Nat) : gSum [] s = s := rfl
attribute [local irreducible] hl gSum
/-- Two elements that a call lays side by side. -/
theorem two_xe (ph pl eh el : Nat) (h1 : ph < 2 ^ 64) (h2 : pl < 2 ^ 64) (h3 : eh < 2 ^ 64) (h4 : el < 2 ^ 64) (w : World) :
    XE (w.alloc (.cells (es ph pl ++ es eh el).toArray 24)) (w.heap.size + 1) (some ⟨w.heap.size, 0, none⟩) 2 [hl ph pl, hl eh el] := by
  have up := hl_up ph pl h2
  have ue := hl_up eh el h4
  refine ⟨rfl, ?_, fun _ => ⟨w.heap.size, 0, rfl, Nat.lt_succ_self _, ?_⟩⟩
  · intro i x hx
    match i, hx with
    | 0, hx => injection hx with hx; rw [← hx]; exact hl_lt _ _ h1 h2
    | 1, hx => injection hx with hx; rw [← hx]; exact hl_lt _ _ h3 h4
  · intro i x hx j v hv
    rw [cell_of_row (w.alloc (.cells (es ph pl ++ es eh el).toArray 24)) w.heap.size _ _ 24 (0, 0) (heap_alloc_new w _)]
    match i, hx with
    | 0, hx =>
      injection hx with hx
      rw [← hx, up.1, up.2] at hv
      match j, hv with
      | 0, hv => exact hv
      | 1, hv => exact hv
    | 1, hx =>
      injection hx with hx
      rw [← hx, ue.1, ue.2] at hv
      match j, hv with
      | 0, hv => exact hv
      | 1, hv => exact hv
theorem gSum_two (ph pl eh el : Nat) (h2 : pl < 2 ^ 64) (h4 : el < 2 ^ 64) : gSum [hl ph pl, hl eh el] 0 = hl (ph ^^^ eh) (pl ^^^ el) := by
  have e1 : gSum [hl ph pl] 0 = gSum [] 0 ^^^ hl ph pl := gSum_snoc [] (hl ph pl) 0
  have e2 : gSum [hl ph pl, hl eh el] 0 = gSum [hl ph pl] 0 ^^^ hl eh el := gSum_snoc [hl ph pl] (hl eh el) 0
  rw [e2, e1, gSum_nil, Nat.zero_xor, hl_xor _ _ _ _ h2 h4]
theorem sum_two (ph pl eh el : Nat) (h1 : ph < 2 ^ 64) (h2 : pl < 2 ^ 64) (h3 : eh < 2 ^ 64) (h4 : el < 2 ^ 64) (w : World) :
    Calls Try.prog 14 #[.slice (some ⟨w.heap.size, 0, none⟩) 2 2] (w.alloc (.cells (es ph pl ++ es eh el).toArray 24)) fun e w' => e = .returned (EV (ph ^^^ eh) (pl ^^^ el)) ∧ Below w.heap.size w w' := by
  refine (sum_any (some ⟨w.heap.size, 0, none⟩) 2 2 [hl ph pl, hl eh el] _ (by unfold maxLen; omega) (by rw [World.size_alloc]; exact two_xe ph pl eh el h1 h2 h3 h4 w)).mono ?_
  rintro e w' ⟨rfl, hb⟩
  refine ⟨?_, (below_alloc w _).trans (hb.mono (by simp))⟩
  rw [gSum_two _ _ _ _ h2 h4, pe_hl _ _ (Nat.xor_lt_two_pow h2 h4)]
theorem own_ew (G h l : Nat) : Own (fun (_ : List Bool) W => Ew W G h l) := fun s A B row hs hg hr =>
  Ew.mk (cell_kept hs.at0 hg hr) (cell_kept hs.at1 hg hr) ((frozen_kept hs.at0 hg hr).trans hs.free0) ((frozen_kept hs.at1 hg hr).trans hs.free1)
/-- What Times holds between two rounds. -/
def TmI (w : World) (G a b : Nat) (pre : List Bool) (W : World) : Prop :=
  ∃ eh el ph pl, (hl eh el = gIter a pre.length ∧ eh < 2 ^ 64 ∧ el < 2 ^ 64 ∧ ph < 2 ^ 64 ∧ pl < 2 ^ 64 ∧ (pre = (co b).take pre.length → hl ph pl = gUp a b pre.length)) ∧ Ew W G eh el ∧ Ew W (G + 1 + 1) 0 0 ∧ Ew W (G + 1 + 1 + 1) ph pl ∧ Below w.heap.size w W
theorem tm_own (w : World) (G a b B : Nat) (hB : w.heap.size ≤ B) : OwnFrom B (TmI w G a b) := by
  intro s A C row hs hg hr
  obtain ⟨eh, el, ph, pl, hv, h1, h2, h3, h4⟩ := hs
  have hr' : ∀ r, row = some r → ∃ o : Obj, A.heap[r]? = some o ∧ o.isCells = false := fun r e => (hr r e).2
  exact ⟨eh, el, ph, pl, hv, own_ew _ _ _ s A C row h1 hg hr', own_ew _ _ _ s A C row h2 hg hr', own_ew _ _ _ s A C row h3 hg hr', ownFrom_below (Nat.le_refl _) hB s A C row h4 hg hr⟩
theorem keeps_of_below {W W' : World} (hb : Below W.heap.size W W') : KeepsOthers W W' := ⟨hb.size, fun k o hk _ => (hb.block k (Array.getElem?_eq_some_iff.1 hk).1).trans hk⟩
theorem keeps_es (W : World) (g h l : Nat) : KeepsOthers W (W.setCells g 0 (es h l)) := (KeepsOthers.setCell _ _ _).trans (KeepsOthers.setCell _ _ _)
theorem tm_done (a b p : Nat) (h : co b = (co b).take (co b).length → p = gUp a b (co b).length) : p = gMul a b := by
  rw [co_len] at h
  exact h (by rw [List.take_of_length_le (by rw [co_len]; omega)])
theorem tm_snoc (a b p p' : Nat) (pre : List Bool) (x : Bool) (hlen : pre.length < 128) (h : pre = (co b).take pre.length → p = gUp a b pre.length) (hp : p' = p ^^^ (bif x then gIter a pre.length else 0)) :
    pre ++ [x] = (co b).take (pre ++ [x]).length → p' = gUp a b (pre ++ [x]).length := by
  intro e
  rw [List.length_append, List.length_singleton] at e ⊢
  rw [co_take b _ hlen] at e
  obtain ⟨e1, e2⟩ := List.append_inj' e rfl
  have e3 : x = coF b pre.length := by injection e2
  rw [hp, h e1, gUp, e3]
  unfold coF
  rcases gBit01 b pre.length with k | k <;> rw [k] <;> simp
theorem gIter_succ (a k : Nat) : gIter a (k + 1) = gNext (gIter a k) := rfl
attribute [local irreducible] PE gMul gUp gIter gNext co coF
attribute [local go_sem] Oper.semAt_some

set_option maxRecDepth 100000 in
set_option maxHeartbeats 4000000 in
theorem times_any (h l h' l' : Nat) (w : World) (hh : h < 2 ^ 64) (hl0 : l < 2 ^ 64) (hh' : h' < 2 ^ 64) (hl1 : l' < 2 ^ 64) :
    Calls Try.prog 11 #[EV h l, EV h' l'] w (RetP (gMul (hl h l) (hl h' l')) w) := by
  have HI := Lib.hid (⟨hh, hl0, hh', hl1⟩ : h < 2 ^ 64 ∧ l < 2 ^ 64 ∧ h' < 2 ^ 64 ∧ l' < 2 ^ 64)
  obtain ⟨a, HA⟩ : ∃ a, Hid (a = hl h l) := ⟨_, Lib.hid rfl⟩
  obtain ⟨b, HB⟩ : ∃ b, Hid (b = hl h' l') := ⟨_, Lib.hid rfl⟩
  rw [← HA.out, ← HB.out]
  have HA2 : Hid (a < 2 ^ 128) := Lib.hid (by rw [HA.out]; exact hl_lt h l hh hl0)
  clear hh hl0 hh' hl1
  obtain ⟨G, HG⟩ : ∃ G, Hid (G = w.heap.size) := ⟨_, Lib.hid rfl⟩
  refine (callsIn_wide (n := 3)).1 ?_
  refine callsIn_of_wp_marks Try.func11 rfl trivial ?_ rfl
  simp only [Try.ntmps11, List.size_toArray, List.length_cons, List.length_nil, Nat.reduceAdd, Nat.reduceSub, Array.replicate_succ, Array.replicate_zero, List.push_toArray, List.append_toArray, List.nil_append, List.cons_append]
  gi_wp2_with (first | (refine wpListIn_boxE rfl _ (.tmp 0) rfl h l rfl ?_) | (refine wpListIn_boxE rfl _ (.tmp 1) rfl h' l' rfl ?_) | (refine wpListIn_ldE rfl (.tmp 3) rfl (w.heap.size + 1) rfl h' l' (by exact ((Ew.new _ _ _ _ (by simp)).alloc _).alloc _) ?_) | (refine ⟨trivial, ?_⟩; gi_at_call 24; refine (callsIn_wide.2 (coefs_any _ _ _)).mono ?_; rintro e w1 ⟨rfl, rfl⟩))
  obtain ⟨W0, HW0⟩ : ∃ W0, Hid (W0 = ((((w.alloc (.cells (es h l).toArray 24)).alloc (.cells (es h' l').toArray 24)).alloc (.cells (es 0 0).toArray 24)).alloc (.cells (es 0 0).toArray 24)).alloc (.cells (es h' l').toArray 24)) := ⟨_, Lib.hid rfl⟩
  show Code.wpIn _ _ _ _ _ _ (((((w.alloc (.cells (es h l).toArray 24)).alloc (.cells (es h' l').toArray 24)).alloc (.cells (es 0 0).toArray 24)).alloc (.cells (es 0 0).toArray 24)).alloc (.cells (es h' l').toArray 24))
  have HS0 : W0.heap.size = G + 5 := by rw [HW0.out, HG.out]; simp
  have HE0 : Ew W0 G h l := by rw [HW0.out, HG.out]; exact ((((Ew.new w _ _ _ rfl).alloc _).alloc _).alloc _).alloc _
  have HR0 : Ew W0 (G + 1 + 1) 0 0 := by rw [HW0.out, HG.out]; exact ((Ew.new _ 0 0 _ (by simp)).alloc _).alloc _
  have HP0 : Ew W0 (G + 1 + 1 + 1) 0 0 := by rw [HW0.out, HG.out]; exact (Ew.new _ 0 0 _ (by simp)).alloc _
  have HO0 : Ew W0 (G + 1 + 1 + 1 + 1) h' l' := by rw [HW0.out, HG.out]; exact Ew.new _ _ _ _ (by simp)
  have HB0 : Below w.heap.size w W0 := by rw [HW0.out]; exact ((((below_alloc w _).alloc (by simp) _).alloc (by simp; omega) _).alloc (by simp; omega) _).alloc (by simp; omega) _
  rw [← HW0.out, ← HG.out]
  clear HW0
  refine wpIn_rangeFunc_ownF rfl (by omega) (gf := 28) (lb := #[.pointer (some ⟨G + 1 + 1 + 1 + 1, 0, none⟩)]) rfl trivial (enters_of Try.func28 (by kernel_rfl) rfl)
    (coefs_stops Fence.wide _ trivial rfl (by omega) (G + 1 + 1 + 1 + 1) w.heap.size h' l' HI.out.2.2.1 HI.out.2.2.2 W0 (by rw [HS0]; omega) HO0) belowK_t (belowK_b (by rw [HS0, ← HG.out]; omega)) (Below.refl _ _) (fun _ => rfl)
    (TmI w G a b) (fun _ _ _ => False) (tm_own w G a b _ (by rw [HS0, ← HG.out]; omega)) (fun _ _ _ _ _ hs _ _ => hs)
    ⟨h, l, 0, 0, ⟨by rw [← HA.out]; unfold gIter; rfl, HI.out.1, HI.out.2.1, by omega, by omega, fun _ => by unfold gUp hl; rfl⟩, HE0, HR0, HP0, HB0⟩
    (fun x => { tmps := #[EV h l, EV h' l', .pointer (some ⟨G, 0, none⟩), .pointer (some ⟨G + 1, 0, none⟩), .pointer (some ⟨G + 1 + 1, 0, none⟩), .pointer (some ⟨G + 1 + 1 + 1, 0, none⟩), .int .u64 (bI x), EV h' l', .func (.func 28) #[] #[.pointer (some ⟨G + 1 + 1 + 1 + 1, 0, none⟩)], .int .u64 (bI x), undef, undef, undef, undef, undef, undef, undef, undef, undef], defers := [] }) ?assign ?body ?done ?stop
  case assign =>
    intro l x W K hK
    gi_wp2
    exact hK
  case body =>
    rintro l pre x W ⟨eh, el, ph, pl, hv, he, hr, hp, hB⟩ hlen
    obtain ⟨k, HK⟩ : ∃ k, Hid (k = pre.length) := ⟨_, Lib.hid rfl⟩
    have HV := Lib.hid hv
    have HLE := Lib.hid hlen
    have HE := Lib.hid he
    have HR := Lib.hid hr
    have HP := Lib.hid hp
    have HBB := Lib.hid hB
    have hsG : G + 1 + 1 + 1 < W.heap.size := hp.lt
    have hwG : w.heap.size ≤ G := by rw [← HG.out]; exact Nat.le_refl _
    clear hv hlen he hr hp hB HE0 HR0 HP0 HO0 HB0
    obtain ⟨N0, HN0⟩ : ∃ N0, Hid (N0 = eh / 2 ^^^ (el % 2 * 16212958658533785600) ∧ N0 < 2 ^ 64 ∧ True) := ⟨_, Lib.hid ⟨rfl, Nat.xor_lt_two_pow (by have := HV.out; omega) (by omega), trivial⟩⟩
    obtain ⟨N1, HN1⟩ : ∃ N1, Hid (N1 = eh % 2 * 2 ^ 63 + el / 2 ∧ N1 < 2 ^ 64) := ⟨_, Lib.hid ⟨rfl, by have := HV.out; omega⟩⟩
    have HNV : Hid (hl N0 N1 = gIter a (pre ++ [x]).length) := Lib.hid (by rw [HN0.out.1, HN1.out.1, ← hl_next eh el HV.out.2.2.1, HV.out.1, List.length_append, List.length_singleton, gIter_succ])
    have HNX : Hid (∀ v, Calls Try.prog 13 #[EV eh el] v (RetE N0 N1 v)) := Lib.hid (fun v => by rw [HN0.out.1, HN1.out.1]; exact next_any eh el v HV.out.2.1 HV.out.2.2.1)
    cases x
    · dsimp only [bI]
      gi_wp2_with (first | (refine wpListIn_ldE rfl (.tmp 2) rfl G rfl eh el (by exact HE.out) ?_) | (refine ⟨trivial, ?_⟩; gi_at_call 13; refine (CallsIn.inRound l (callsIn_wide.2 (HNX.out _))).mono ?_; rintro e w4 ⟨rfl, hb4⟩; have he4 := Lib.hid (HE.out.below hb4 (by omega)); have hr4 := Lib.hid (HR.out.below hb4 (by omega)); have hp4 := Lib.hid (HP.out.below hb4 (by omega)); have hbb4 := Lib.hid (HBB.out.trans (hb4.mono (by omega))); have hk4 := Lib.hid hb4; clear hb4) | (refine wpListIn_stE rfl (.tmp 2) (.tmp 17) rfl G rfl N0 N1 eh el rfl (by exact he4.out) ?_))
      exact ⟨(keeps_of_below hk4.out).trans (keeps_es _ _ _ _), below_setCells (hk4.out.mono (by omega)) hwG _ _, ⟨N0, N1, ph, pl, ⟨HNV.out, HN0.out.2.1, HN1.out.2, HV.out.2.2.2.1, HV.out.2.2.2.2.1, tm_snoc a b _ _ pre false HLE.out HV.out.2.2.2.2.2 (by simp)⟩, he4.out.whole _ _, hr4.out.setCells (by omega) _ _, hp4.out.setCells (by omega) _ _, below_setCells hbb4.out hwG _ _⟩⟩
    · dsimp only [bI]
      obtain ⟨X0, HX0⟩ : ∃ X0, Hid (X0 = ph ^^^ eh ∧ X0 < 2 ^ 64) := ⟨_, Lib.hid ⟨rfl, Nat.xor_lt_two_pow HV.out.2.2.2.1 HV.out.2.1⟩⟩
      obtain ⟨X1, HX1⟩ : ∃ X1, Hid (X1 = pl ^^^ el ∧ X1 < 2 ^ 64) := ⟨_, Lib.hid ⟨rfl, Nat.xor_lt_two_pow HV.out.2.2.2.2.1 HV.out.2.2.1⟩⟩
      have HSM : Hid (∀ v : World, Calls Try.prog 14 #[.slice (some ⟨v.heap.size, 0, none⟩) 2 2] (v.alloc (.cells (es ph pl ++ es eh el).toArray 24)) fun e w' => e = .returned (EV X0 X1) ∧ Below v.heap.size v w') := Lib.hid (fun v => by rw [HX0.out.1, HX1.out.1]; exact sum_two ph pl eh el HV.out.2.2.2.1 HV.out.2.2.2.2.1 HV.out.2.1 HV.out.2.2.1 v)
      have HXV : Hid (hl X0 X1 = hl ph pl ^^^ (bif true then gIter a pre.length else 0)) := Lib.hid (by rw [HX0.out.1, HX1.out.1, ← hl_xor ph pl eh el HV.out.2.2.2.2.1 HV.out.2.2.1, HV.out.1]; rfl)
      gi_wp2_with (first | (refine wpListIn_ldE rfl (.tmp 2) rfl G rfl eh el (by exact HE.out) ?_) | (refine wpListIn_ldE rfl (.tmp 5) rfl (G + 1 + 1 + 1) rfl ph pl (by exact HP.out) ?_) | (refine wpListIn_twoE rfl (.tmp 12) (.tmp 13) rfl ph pl eh el rfl rfl ?_) | (refine ⟨trivial, ?_⟩; gi_at_call 14; refine (CallsIn.inRound l (callsIn_wide.2 (HSM.out _))).mono ?_; rintro e w2 ⟨rfl, hb2⟩; have he2 := Lib.hid (HE.out.below hb2 (by omega)); have hr2 := Lib.hid (HR.out.below hb2 (by omega)); have hp2 := Lib.hid (HP.out.below hb2 (by omega)); have hbb2 := Lib.hid (HBB.out.trans (hb2.mono (by omega))); have hk2 := Lib.hid hb2; clear hb2 HSM HE HR HP) | (refine wpListIn_stE rfl (.tmp 5) (.tmp 15) rfl (G + 1 + 1 + 1) rfl X0 X1 ph pl rfl (by exact hp2.out) ?_; obtain ⟨w3, HW3⟩ : ∃ w3, Hid (w3 = w2.setCells (G + 1 + 1 + 1) 0 (es X0 X1)) := ⟨_, Lib.hid rfl⟩; have he3 : Hid (Ew w3 G eh el) := Lib.hid (by rw [HW3.out]; exact he2.out.setCells (by omega) _ _); have hr3 : Hid (Ew w3 (G + 1 + 1) 0 0) := Lib.hid (by rw [HW3.out]; exact hr2.out.setCells (by omega) _ _); have hp3 : Hid (Ew w3 (G + 1 + 1 + 1) X0 X1) := Lib.hid (by rw [HW3.out]; exact hp2.out.whole X0 X1); have hk3 : Hid (KeepsOthers W w3 ∧ Below w.heap.size W w3 ∧ G + 1 + 1 + 1 < w3.heap.size) := Lib.hid ⟨by rw [HW3.out]; exact (keeps_of_below hk2.out).trans (keeps_es _ _ _ _), by rw [HW3.out]; exact below_setCells (hk2.out.mono (by omega)) (by omega) _ _, hp3.out.lt⟩; have hbb3 : Hid (Below w.heap.size w w3) := Lib.hid (by rw [HW3.out]; exact below_setCells hbb2.out (by omega) _ _); rw [← HW3.out]; clear HW3 he2 hr2 hp2 hk2 hbb2) | (refine wpListIn_ldE rfl (.tmp 2) rfl G rfl eh el (by exact he3.out) ?_) | (refine ⟨trivial, ?_⟩; gi_at_call 13; refine (CallsIn.inRound l (callsIn_wide.2 (HNX.out _))).mono ?_; rintro e w4 ⟨rfl, hb4⟩; have he4 := Lib.hid (he3.out.below hb4 (by have := hk3.out.2.2; omega)); have hr4 := Lib.hid (hr3.out.below hb4 (by have := hk3.out.2.2; omega)); have hp4 := Lib.hid (hp3.out.below hb4 (by have := hk3.out.2.2; omega)); have hbb4 := Lib.hid (hbb3.out.trans (hb4.mono (by have := hk3.out.2.2; omega))); have hk4 := Lib.hid hb4; clear hb4) | (refine wpListIn_stE rfl (.tmp 2) (.tmp 17) rfl G rfl N0 N1 eh el rfl (by exact he4.out) ?_))
      exact ⟨hk3.out.1.trans ((keeps_of_below hk4.out).trans (keeps_es _ _ _ _)), hk3.out.2.1.trans (below_setCells (hk4.out.mono (by have := hk3.out.2.2; omega)) hwG _ _), ⟨N0, N1, X0, X1, ⟨HNV.out, HN0.out.2.1, HN1.out.2, HX0.out.2, HX1.out.2, tm_snoc a b _ _ pre true HLE.out HV.out.2.2.2.2.2 HXV.out⟩, he4.out.whole _ _, hr4.out.setCells (by omega) _ _, hp4.out.setCells (by omega) _ _, below_setCells hbb4.out hwG _ _⟩⟩
  case done =>
    rintro D ys W hD rfl ⟨eh, el, ph, pl, hv, he, hr, hp, hB⟩ hK
    have hwG : w.heap.size ≤ G := by rw [← HG.out]; exact Nat.le_refl _
    rw [← HB.out] at hv
    have hval : hl ph pl = gMul a b := tm_done a b _ hv.2.2.2.2.2
    have HV := Lib.hid hv
    have HK' := Lib.hid ((keeps_es W (G + 1 + 1) ph pl).same D _ hK rfl)
    have HP := Lib.hid hp
    have HR := Lib.hid hr
    have HBB := Lib.hid hB
    have HPV := Lib.hid (pe_hl ph pl hv.2.2.2.2.1)
    rw [hval] at HPV
    clear hv hval hK he hr hp hB HE0 HR0 HP0 HO0 HB0
    gi_wp2_with (first | (refine wpListIn_ldE rfl (.tmp 5) rfl (G + 1 + 1 + 1) rfl ph pl (by exact HP.out) ?_) | (refine wpListIn_stE rfl (.tmp 4) (.tmp 18) rfl (G + 1 + 1) rfl ph pl 0 0 rfl (by exact HR.out) ?_))
    refine ⟨by simp, .inl ⟨_, _, rfl, run_takeDeferred HK'.out, ?_⟩⟩
    have hE := own_ew (G + 1 + 1) ph pl [] _ _ _ (HR.out.whole ph pl) (grownBy_putObj' _ D (.deferred none)) (fun r e => by cases e; exact ⟨_, HK'.out, rfl⟩)
    refine ⟨EV ph pl, res_ew rfl _ _ (G + 1 + 1) ph pl rfl hE, by rw [HPV.out], ?_⟩
    exact (below_setCells HBB.out (by omega) _ _).trans (belowK_b (w := w) (Nat.le_refl _) _ D _ _ (by omega) HK'.out rfl rfl)
  case stop =>
    rintro D c pre W _ _ h _
    exact h.elim
theorem times_pe (a b : Nat) (w : World) (ha : a < 2 ^ 128) (hb : b < 2 ^ 128) : Calls Try.prog 11 #[PE a, PE b] w (RetP (gMul a b) w) := by
  have h := times_any (a / 2 ^ 64) (a % 2 ^ 64) (b / 2 ^ 64) (b % 2 ^ 64) w (by omega) (by omega) (by omega) (by omega)
  rw [hl_parts, hl_parts] at h
  unfold PE
  exact h
end Go.Proofs.Ytdhgofolcggleaa
