/- PolyLaws walk. Conditions: the elements are elements; the numbers are of 32 bits. -/
import Derived.Test.YtdhgofolcggleaaPolyRun
import Derived.Test.YtdhgofolcggleaaOpen
namespace Go.Proofs.Ytdhgofolcggleaa
open Go.RowKit
set_option linter.unusedVariables false

/-- Which product, power and sum a call gives. -/
structure TmF (u v : Value) (z : Nat) : Prop where out : ∃ x y, u = PE x ∧ v = PE y ∧ x < 2 ^ 128 ∧ y < 2 ^ 128 ∧ z = gMul x y
structure PwF (u : Value) (n : Int) (z : Nat) : Prop where out : ∃ (x k : Nat), u = PE x ∧ n = (k : Int) ∧ x < 2 ^ 128 ∧ k ≤ 18446744073709551615 ∧ z = gPow x k
structure SmF (x y z : Nat) : Prop where out : x < 2 ^ 128 ∧ y < 2 ^ 128 ∧ z = x ^^^ y
structure NxF (u : Value) (z : Nat) : Prop where out : ∃ x, u = PE x ∧ x < 2 ^ 128 ∧ z = gNext x
theorem next_t (u : Value) (z : Nat) (w : World) (h : NxF u z) : Calls Try.prog 13 #[u] w (RetP z w) := by
  obtain ⟨x, rfl, hx, rfl⟩ := h.out
  exact next_pe x w hx
theorem times_t (u v : Value) (z : Nat) (w : World) (h : TmF u v z) : Calls Try.prog 11 #[u, v] w (RetP z w) := by
  obtain ⟨x, y, rfl, rfl, hx, hy, rfl⟩ := h.out
  exact times_pe x y w hx hy
theorem pow_t (u : Value) (n : Int) (z : Nat) (w : World) (h : PwF u n z) : Calls Try.prog 20 #[u, .int .u64 n] w (RetP z w) := by
  obtain ⟨x, k, rfl, rfl, hx, hk, rfl⟩ := h.out
  exact pow_any x k w hx hk
theorem sum_t (x y z : Nat) (w : World) (h : SmF x y z) :
    Calls Try.prog 14 #[.slice (some ⟨w.heap.size, 0, none⟩) 2 2] (w.alloc (.cells (es (x / 2 ^ 64) (x % 2 ^ 64) ++ es (y / 2 ^ 64) (y % 2 ^ 64)).toArray 24)) fun e w' => e = .returned (PE z) ∧ Below w.heap.size w w' := by
  obtain ⟨hx, hy, rfl⟩ := h.out
  exact sum2_pe x y w hx hy
/-- The same where the order has been drawn in between. -/
theorem sum_td (x y z : Nat) (w : World) (h : SmF x y z) :
    Calls Try.prog 14 #[.slice (some ⟨w.heap.size, 0, none⟩) 2 2] (w.alloc (.cells (es (x / 2 ^ 64) (x % 2 ^ 64) ++ es (y / 2 ^ 64) (y % 2 ^ 64)).toArray 24)).drew fun e w' => e = .returned (PE z) ∧ Below w.heap.size w w' := by
  obtain ⟨hx, hy, rfl⟩ := h.out
  have h1 := pe_lt x hx
  have h2 := pe_lt y hy
  have hX : XE (w.alloc (.cells (es (x / 2 ^ 64) (x % 2 ^ 64) ++ es (y / 2 ^ 64) (y % 2 ^ 64)).toArray 24)).drew (w.heap.size + 1) (some ⟨w.heap.size, 0, none⟩) 2 [hl (x / 2 ^ 64) (x % 2 ^ 64), hl (y / 2 ^ 64) (y % 2 ^ 64)] := two_xe _ _ _ _ h1.1 h1.2 h2.1 h2.2 w
  refine (sum_any (some ⟨w.heap.size, 0, none⟩) 2 2 _ _ (by unfold maxLen; omega) (hX.lt (by show w.heap.size + 1 ≤ (w.alloc _).heap.size; rw [World.size_alloc]; exact Nat.le_refl _))).mono ?_
  rintro e w' ⟨rfl, hb⟩
  refine ⟨?_, ((below_alloc w _).drew).trans (hb.mono (by show w.heap.size ≤ (w.alloc _).heap.size; simp))⟩
  rw [gSum_two _ _ _ _ h1.2 h2.2, ← hl_xor _ _ _ _ h1.2 h2.2, hl_parts, hl_parts]
theorem tmf (x y z : Nat) (hx : x < 2 ^ 128) (hy : y < 2 ^ 128) (hz : z = gMul x y) : TmF (PE x) (PE y) z := ⟨x, y, rfl, rfl, hx, hy, hz⟩
theorem pwf (x k z : Nat) (hx : x < 2 ^ 128) (hk : k ≤ 18446744073709551615) (hz : z = gPow x k) : PwF (PE x) (k : Int) z := ⟨x, k, rfl, rfl, hx, hk, hz⟩
theorem xor_lt128 (x y : Nat) (hx : x < 2 ^ 128) (hy : y < 2 ^ 128) : x ^^^ y < 2 ^ 128 := Nat.xor_lt_two_pow hx hy
attribute [local irreducible] gMul gPow PE gSqs gIter gNext es

set_option maxRecDepth 100000 in
set_option maxHeartbeats 8000000 in
theorem PolyLaws_walk (x0 : Nat) (x1 : Nat) (x2 : Nat) (x3 : Int) (x4 : Int) (w : World) (h0 : x0 < 2 ^ 128) (h1 : x1 < 2 ^ 128) (h2 : x2 < 2 ^ 128) (h3 : (Lit.int .u32 x3).wf = true) (h4 : (Lit.int .u32 x4).wf = true) :
    Calls Try.prog 5 #[PE x0, PE x1, PE x2, .int .u32 x3, .int .u32 x4] w fun e w' => e = .returned (.bool true) ∧ Below w.heap.size w w' := by
  have r3 : 0 ≤ x3 ∧ x3 ≤ 4294967295 := bounds_u32 h3
  have r4 : 0 ≤ x4 ∧ x4 ≤ 4294967295 := bounds_u32 h4
  obtain ⟨n, rfl⟩ : ∃ n : Nat, x3 = (n : Int) := ⟨x3.toNat, by omega⟩
  obtain ⟨m, rfl⟩ : ∃ m : Nat, x4 = (m : Int) := ⟨x4.toNat, by omega⟩
  clear h3 h4
  have wn : IntKind.u64.wrap (n : Int) = (n : Int) := by rw [IntKind.wrap_u64]; omega
  have wm : IntKind.u64.wrap (m : Int) = (m : Int) := by rw [IntKind.wrap_u64]; omega
  obtain ⟨nm, HNM⟩ : ∃ nm, Hid (nm = n + m) := ⟨_, Lib.hid rfl⟩
  have wnm : IntKind.u64.wrap ((n : Int) + (m : Int)) = (nm : Int) := by rw [HNM.out, IntKind.wrap_u64]; omega
  have HNB : Hid (n ≤ 4294967295 ∧ m ≤ 4294967295 ∧ nm ≤ 8589934590) := Lib.hid (by rw [HNM.out]; omega)
  have L0 := Lib.hid h0
  have L1 := Lib.hid h1
  have L2 := Lib.hid h2
  obtain ⟨ab, HAB⟩ : ∃ ab, Hid (ab = gMul x0 x1 ∧ ab < 2 ^ 128) := ⟨_, Lib.hid ⟨rfl, gMul_lt _ _ h0⟩⟩
  obtain ⟨bc, HBC⟩ : ∃ bc, Hid (bc = gMul x1 x2 ∧ bc < 2 ^ 128) := ⟨_, Lib.hid ⟨rfl, gMul_lt _ _ h1⟩⟩
  obtain ⟨ac, HAC⟩ : ∃ ac, Hid (ac = gMul x0 x2 ∧ ac < 2 ^ 128) := ⟨_, Lib.hid ⟨rfl, gMul_lt _ _ h0⟩⟩
  obtain ⟨abc, HABC⟩ : ∃ abc, Hid (abc = gMul ab x2 ∧ abc < 2 ^ 128) := ⟨_, Lib.hid ⟨rfl, gMul_lt _ _ HAB.out.2⟩⟩
  obtain ⟨s, HS⟩ : ∃ s, Hid (s = x1 ^^^ x2 ∧ s < 2 ^ 128) := ⟨_, Lib.hid ⟨rfl, xor_lt128 _ _ h1 h2⟩⟩
  obtain ⟨za, HAS⟩ : ∃ za, Hid (za = gMul x0 s ∧ za < 2 ^ 128) := ⟨_, Lib.hid ⟨rfl, gMul_lt _ _ h0⟩⟩
  have T1 : TmF (PE x0) (PE x1) ab := tmf _ _ _ h0 h1 HAB.out.1
  have T2 : TmF (PE x1) (PE x0) ab := tmf _ _ _ h1 h0 (by rw [HAB.out.1, gMul_comm x0 x1 h0 h1])
  have T3 : TmF (PE ab) (PE x2) abc := tmf _ _ _ HAB.out.2 h2 HABC.out.1
  have T4 : TmF (PE x1) (PE x2) bc := tmf _ _ _ h1 h2 HBC.out.1
  have T5 : TmF (PE x0) (PE bc) abc := tmf _ _ _ h0 HBC.out.2 (by rw [HABC.out.1, HAB.out.1, HBC.out.1, gMul_assoc x0 x1 x2 h0 h1])
  have S1 : SmF x1 x2 s := ⟨h1, h2, HS.out.1⟩
  have T6 : TmF (PE x0) (PE s) za := tmf _ _ _ h0 HS.out.2 HAS.out.1
  have T7 : TmF (PE x0) (PE x2) ac := tmf _ _ _ h0 h2 HAC.out.1
  have S2 : SmF ab ac za := ⟨HAB.out.2, HAC.out.2, by rw [HAS.out.1, HS.out.1, gMul_right, HAB.out.1, HAC.out.1]⟩
  have T8 : TmF (PE x0) (PE gOne) x0 := tmf _ _ _ h0 gOne_lt (gMul_one x0 h0).symm
  obtain ⟨t, HT⟩ : ∃ t, Hid (t = x0 ^^^ x1 ∧ t < 2 ^ 128) := ⟨_, Lib.hid ⟨rfl, xor_lt128 _ _ h0 h1⟩⟩
  obtain ⟨t2, HT2⟩ : ∃ t2, Hid (t2 = gPow t 2 ∧ t2 < 2 ^ 128) := ⟨_, Lib.hid ⟨rfl, gPow_lt _ HT.out.2 2⟩⟩
  obtain ⟨a2, HA2⟩ : ∃ a2, Hid (a2 = gPow x0 2 ∧ a2 < 2 ^ 128) := ⟨_, Lib.hid ⟨rfl, gPow_lt _ h0 2⟩⟩
  obtain ⟨b2, HB2⟩ : ∃ b2, Hid (b2 = gPow x1 2 ∧ b2 < 2 ^ 128) := ⟨_, Lib.hid ⟨rfl, gPow_lt _ h1 2⟩⟩
  obtain ⟨an, HAN⟩ : ∃ an, Hid (an = gPow x0 n ∧ an < 2 ^ 128) := ⟨_, Lib.hid ⟨rfl, gPow_lt _ h0 n⟩⟩
  obtain ⟨am, HAM⟩ : ∃ am, Hid (am = gPow x0 m ∧ am < 2 ^ 128) := ⟨_, Lib.hid ⟨rfl, gPow_lt _ h0 m⟩⟩
  obtain ⟨anm, HANM⟩ : ∃ anm, Hid (anm = gPow x0 nm ∧ anm < 2 ^ 128) := ⟨_, Lib.hid ⟨rfl, gPow_lt _ h0 nm⟩⟩
  obtain ⟨na, HNA⟩ : ∃ na, Hid (na = gNext x0 ∧ na < 2 ^ 128) := ⟨_, Lib.hid ⟨rfl, gNext_lt _ h0⟩⟩
  obtain ⟨xx, HXX⟩ : ∃ xx, Hid (xx = gE 1) := ⟨_, Lib.hid rfl⟩
  have S3 : SmF x0 x1 t := ⟨h0, h1, HT.out.1⟩
  have P1 : PwF (PE t) 2 t2 := pwf t 2 _ HT.out.2 (by omega) HT2.out.1
  have P2 : PwF (PE x0) 2 a2 := pwf x0 2 _ h0 (by omega) HA2.out.1
  have P3 : PwF (PE x1) 2 b2 := pwf x1 2 _ h1 (by omega) HB2.out.1
  have S4 : SmF a2 b2 t2 := ⟨HA2.out.2, HB2.out.2, by rw [HT2.out.1, HA2.out.1, HB2.out.1, gPow_two t HT.out.2, gPow_two x0 h0, gPow_two x1 h1, HT.out.1, gSq_xor x0 x1 h0 h1]⟩
  have P4 : PwF (PE x0) (n : Int) an := pwf x0 n _ h0 (by have := HNB.out; omega) HAN.out.1
  have P5 : PwF (PE x0) (m : Int) am := pwf x0 m _ h0 (by have := HNB.out; omega) HAM.out.1
  have P6 : PwF (PE x0) (nm : Int) anm := pwf x0 nm _ h0 (by have := HNB.out; omega) HANM.out.1
  have T9 : TmF (PE an) (PE am) anm := tmf _ _ _ HAN.out.2 HAM.out.2 (by rw [HANM.out.1, HNM.out, gPow_add x0 n h0 m, HAN.out.1, HAM.out.1])
  have N1 : NxF (PE x0) na := ⟨x0, rfl, h0, HNA.out.1⟩
  have N2 : NxF (PE gOne) xx := ⟨gOne, rfl, gOne_lt, by rw [HXX.out, next_one]⟩
  have T10 : TmF (PE x0) (PE xx) na := tmf _ _ _ h0 (by rw [HXX.out]; exact gE_lt 1) (by rw [HNA.out.1, HXX.out, gMul_x x0 h0])
  have P7 : PwF (PE x0) 0 gOne := pwf x0 0 _ h0 (by omega) (by unfold gPow; rfl)
  have HZ : Hid ((ab = 0) = (x0 = 0 ∨ x1 = 0)) := Lib.hid (propext ⟨fun h => gMul_cancel x0 x1 h0 h1 (by rw [← HAB.out.1]; exact h), fun h => by
    rw [HAB.out.1]
    rcases h with h | h
    · rw [h]; exact gMul_zero' _
    · rw [h]; exact gMul_zero _ h0⟩)
  clear h0 h1 h2 r3 r4
  obtain ⟨G, HG⟩ : ∃ G, Hid (G = w.heap.size) := ⟨_, Lib.hid rfl⟩
  go_enter Try.func5, Try.ntmps5
  go_wp2_with (first | (refine wpList_boxX rfl _ (.tmp 0) rfl x0 rfl ?_) | (refine wpList_boxX rfl _ (.tmp 1) rfl x1 rfl ?_) | (refine wpList_boxX rfl _ (.tmp 2) rfl x2 rfl ?_))
  refine (alive_any _).mono ?_
  rintro e w1 ⟨rfl, hb1⟩
  have HC : Hid (C3 w G (G + 1) (G + 1 + 1) x0 x1 x2 w1) := Lib.hid (by
    rw [HG.out]
    refine C3.keep ⟨?_, ?_, ?_, ?_⟩ hb1
    · exact Ew.alloc (Ew.alloc (Ew.new w _ _ _ rfl) _) _
    · exact Ew.alloc (Ew.new _ _ _ _ (by simp)) _
    · exact Ew.new _ _ _ _ (by simp)
    · exact ((below_alloc w _).alloc (by simp) _).alloc (by simp; omega) _)
  clear hb1
  rw [← HG.out]
  go_wp2_with fail
  go_region_held3 (fun w' => ldP (.pointer (some ⟨G, 0, none⟩)) w' = .ok (.value (PE x0)) w' ∧ ldP (.pointer (some ⟨G + 1, 0, none⟩)) w' = .ok (.value (PE x1)) w' ∧ ldP (.pointer (some ⟨G + 1 + 1, 0, none⟩)) w' = .ok (.value (PE x2)) w') (first | assumption | (exact HC.out.drew.s) | (exact C3.s (by assumption)) | (exact C3.s (C3.alloc (by assumption) _)))
    (first
    | (go_at_call 11; refine (times_t _ _ _ _ (by first | exact T1 | exact T2 | exact T3 | exact T4 | exact T5 | exact T6 | exact T7 | exact T8)).mono ?_; rintro e w5 ⟨rfl, hb5⟩; have hk5 := C3.keep (by first | assumption | exact HC.out.drew) hb5; clear hb5)
    | (go_at_call 14; refine (sum_t _ _ _ _ (by first | exact S1 | exact S2)).mono ?_; rintro e w5 ⟨rfl, hb5⟩; have hk5 := C3.keep (by assumption) hb5; clear hb5)
    | (go_at_call 22; refine (one_any _).mono ?_; rintro e w5 ⟨rfl, hb5⟩; have hk5 := C3.keep (by assumption) hb5; clear hb5))
  have HC5 := Lib.hid hk5
  clear hk5 T2 T3 T4 T5 S1 T6 T7 S2 T8 HBC HAC HABC HS HAS HC
  obtain ⟨v5, ev5⟩ : ∃ v : World, v = w5 := ⟨_, rfl⟩
  subst ev5
  go_wp2_with fail
  go_region_held3 (fun w' => ldP (.pointer (some ⟨G, 0, none⟩)) w' = .ok (.value (PE x0)) w' ∧ ldP (.pointer (some ⟨G + 1, 0, none⟩)) w' = .ok (.value (PE x1)) w' ∧ ldP (.pointer (some ⟨G + 1 + 1, 0, none⟩)) w' = .ok (.value (PE x2)) w') (first | assumption | (exact HC5.out.drew.s) | (exact (HC5.out.alloc _).drew.s) | (exact C3.s (by assumption)) | (exact C3.s (C3.alloc (by assumption) _)))
    (first
    | (go_at_call 11; refine (times_t _ _ _ _ (by first | exact T9 | exact T10)).mono ?_; rintro e w5 ⟨rfl, hb5⟩; have hk5 := C3.keep (by assumption) hb5; clear hb5)
    | (go_at_call 20; refine (pow_t _ _ _ _ (by first | exact P1 | exact P2 | exact P3 | exact P4 | exact P5 | exact P6)).mono ?_; rintro e w5 ⟨rfl, hb5⟩; have hk5 := C3.keep (by assumption) hb5; clear hb5)
    | (go_at_call 14; refine (sum_td _ _ _ _ S3).mono ?_; rintro e w5 ⟨rfl, hb5⟩; have hk5 := C3.keep HC5.out hb5; clear hb5)
    | (go_at_call 14; refine (sum_t _ _ _ _ S4).mono ?_; rintro e w5 ⟨rfl, hb5⟩; have hk5 := C3.keep (by assumption) hb5; clear hb5)
    | (go_at_call 13; refine (next_t _ _ _ (by first | exact N1 | exact N2)).mono ?_; rintro e w5 ⟨rfl, hb5⟩; have hk5 := C3.keep (by assumption) hb5; clear hb5)
    | (go_at_call 22; refine (one_any _).mono ?_; rintro e w5 ⟨rfl, hb5⟩; have hk5 := C3.keep (by assumption) hb5; clear hb5))
  have HC7 := Lib.hid hk5
  clear hk5 T9 T10 P1 P2 P3 P4 P5 P6 S3 S4 N1 N2 HC5 HT HT2 HA2 HB2 HAN HAM HANM HNA HXX wn wm wnm HNM HNB
  obtain ⟨v7, ev7⟩ : ∃ v : World, v = w5 := ⟨_, rfl⟩
  subst ev7
  obtain ⟨q2, e2⟩ : ∃ q : Bool, decide (x0 = 0) = q := ⟨_, rfl⟩
  obtain ⟨q3, e3⟩ : ∃ q : Bool, decide (x1 = 0) = q := ⟨_, rfl⟩
  have e1 : decide (ab = 0) = (q2 || q3) := by rw [← e2, ← e3, ← Bool.decide_or]; simp only [HZ.out]
  go_wp2_with fail
  cases q2
  · cases q3
    · have e1' : decide (ab = 0) = false := e1
      clear e1
      go_region_held3 (fun w' => ldP (.pointer (some ⟨G, 0, none⟩)) w' = .ok (.value (PE x0)) w' ∧ ldP (.pointer (some ⟨G + 1, 0, none⟩)) w' = .ok (.value (PE x1)) w') (first | assumption | (exact ⟨HC7.out.drew.s.1, HC7.out.drew.s.2.1⟩) | (exact ⟨(C3.s (by assumption)).1, (C3.s (by assumption)).2.1⟩))
        (first
        | (go_at_call 11; refine (times_t _ _ _ _ T1).mono ?_; rintro e w5 ⟨rfl, hb5⟩; have hk5 := C3.keep HC7.out.drew hb5; clear hb5)
        | (go_at_call 20; refine (pow_t _ _ _ _ P7).mono ?_; rintro e w5 ⟨rfl, hb5⟩; have hk5 := C3.keep (by assumption) hb5; clear hb5)
        | (go_at_call 22; refine (one_any _).mono ?_; rintro e w5 ⟨rfl, hb5⟩; have hk5 := C3.keep (by assumption) hb5; have hz5 := hk5.2.2.2; clear hb5))
      all_goals (go_wp2_with fail; go_ret; exact ⟨by simp, by assumption⟩)
    · have e1' : decide (ab = 0) = true := e1
      clear e1
      go_region_held3 (fun w' => ldP (.pointer (some ⟨G, 0, none⟩)) w' = .ok (.value (PE x0)) w' ∧ ldP (.pointer (some ⟨G + 1, 0, none⟩)) w' = .ok (.value (PE x1)) w') (first | assumption | (exact ⟨HC7.out.drew.s.1, HC7.out.drew.s.2.1⟩) | (exact ⟨(C3.s (by assumption)).1, (C3.s (by assumption)).2.1⟩))
        (first
        | (go_at_call 11; refine (times_t _ _ _ _ T1).mono ?_; rintro e w5 ⟨rfl, hb5⟩; have hk5 := C3.keep HC7.out.drew hb5; clear hb5)
        | (go_at_call 20; refine (pow_t _ _ _ _ P7).mono ?_; rintro e w5 ⟨rfl, hb5⟩; have hk5 := C3.keep (by assumption) hb5; clear hb5)
        | (go_at_call 22; refine (one_any _).mono ?_; rintro e w5 ⟨rfl, hb5⟩; have hk5 := C3.keep (by assumption) hb5; have hz5 := hk5.2.2.2; clear hb5))
      all_goals (go_wp2_with fail; go_ret; exact ⟨by simp, by assumption⟩)
  · have e1' : decide (ab = 0) = true := by rw [e1]; rfl
    clear e1
    have ld0 : ∀ (d : Nat) (os : Array Obj), ldP (.pointer (some ⟨G, 0, none⟩)) (Sort.grow (redrawn v7 d) os) = .ok (.value (PE x0)) (Sort.grow (redrawn v7 d) os) := fun d os => (C3.s (HC7.out.keep (below_regrown v7 d os))).1
    have ld1 : ∀ (d : Nat) (os : Array Obj), ldP (.pointer (some ⟨G + 1, 0, none⟩)) (Sort.grow (redrawn v7 d) os) = .ok (.value (PE x1)) (Sort.grow (redrawn v7 d) os) := fun d os => (C3.s (HC7.out.keep (below_regrown v7 d os))).2.1
    refine wp_region_quiet_below (by kernel_rfl) (by kernel_rfl) ?_
    repeat (go_big_quiet_step ((first
      | (go_at_call 11; exact Calls.regrown_of (times_t _ _ _ _ T1))
      | (go_at_call 20; exact Calls.regrown_of (pow_t _ _ _ _ P7))
      | (go_at_call 22; exact Calls.regrown_of (one_any _)))))
    refine wpQuiet_nil ?_
    intro _ hw'
    obtain ⟨⟨dq, osq⟩, hw''⟩ := hw'
    subst hw''
    have hb3 := HC7.out.2.2.2.trans ((below_regrown v7 dq osq).mono HC7.out.2.2.2.size)
    generalize Sort.grow (redrawn v7 dq) osq = w9 at hb3 ⊢
    go_wp2_with fail
    go_ret
    exact ⟨by simp, hb3⟩
end Go.Proofs.Ytdhgofolcggleaa
