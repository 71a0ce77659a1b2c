/- The check that stands at the head of each of layer 4's statements answers true. No condition. -/
import Derived.Test.YtdhgofolcggleaaPolyPw
import Derived.Test.YtdhgofolcggleaaPolyOb
import Derived.Deep.RegionHeld3
import Derived.Test.YtdhgofolcggleaaUseBytes
namespace Go.Proofs.Ytdhgofolcggleaa
open Go.RowKit
set_option linter.unusedVariables false

/-- Small numbers written out. -/
def LV (h l : Int) : Value := .agg #[.int .u64 h, .int .u64 l]
theorem pe_lv (x : Nat) (h l : Int) (hh : ((x / 2 ^ 64 : Nat) : Int) = h) (hl' : ((x % 2 ^ 64 : Nat) : Int) = l) : PE x = LV h l := by subst hh; subst hl'; rfl
def gR : Nat := 299076299051606071403356588563077529600
theorem lv_one : PE gOne = LV 9223372036854775808 0 := pe_lv _ _ _ rfl rfl
theorem lv_R : PE gR = LV 16212958658533785600 0 := pe_lv _ _ _ rfl rfl
theorem lv_1 : PE 1 = LV 0 1 := pe_lv _ _ _ rfl rfl
theorem lv_x : PE (gE 1) = LV 4611686018427387904 0 := pe_lv _ _ _ rfl rfl
theorem gR_lt : gR < 2 ^ 128 := by unfold gR; omega
theorem next1 : gNext 1 = gR := by decide +kernel
theorem next_one : gNext gOne = gE 1 := gE_next 0 (by omega)
theorem x128 : gPow (gE 1) 128 = gR := by
  have h1 : gE 1 < 2 ^ 128 := gE_lt 1
  rw [show (128 : Nat) = 127 + 1 from rfl, gPow_succ, ← gE_pow 127 (by omega), gMul_x _ (gE_lt 127), show gE 127 = 1 from rfl, next1]
def aliveB : List UInt8 := [225, 0, 0, 0, 0, 0, 0, 0, 0, 0, 0, 0, 0, 0, 0, 0]
theorem alive_o : oH aliveB = 16212958658533785600 ∧ oL aliveB = 0 := by decide +kernel
theorem alive_e : eB 16212958658533785600 0 = aliveB := by
  have h := eB_o aliveB rfl
  rw [alive_o.1, alive_o.2] at h
  exact h
/-- A call that gives an element written out. -/
def RetL (h l : Int) (w : World) (e : Ending) (w' : World) : Prop := e = .returned (LV h l) ∧ Below w.heap.size w w'
theorem one_l (w : World) : Calls Try.prog 22 #[] w (RetL 9223372036854775808 0 w) := by unfold RetL; rw [← lv_one]; exact one_any w
theorem next_l (w : World) : Calls Try.prog 13 #[LV 0 1] w (RetL 16212958658533785600 0 w) := by
  unfold RetL; rw [← lv_1, ← lv_R, ← next1]; exact next_pe 1 w (by omega)
theorem next_one_l (w : World) : Calls Try.prog 13 #[LV 9223372036854775808 0] w (RetL 4611686018427387904 0 w) := by
  unfold RetL; rw [← lv_one, ← lv_x, ← next_one]; exact next_pe _ w gOne_lt
theorem times_l (w : World) : Calls Try.prog 11 #[LV 9223372036854775808 0, LV 16212958658533785600 0] w (RetL 16212958658533785600 0 w) := by
  have h := times_pe gOne gR w gOne_lt gR_lt
  rw [gMul_one' gR gR_lt, lv_one, lv_R] at h
  unfold RetP at h; unfold RetL; rw [lv_R] at h; exact h
theorem pow_l (w : World) : Calls Try.prog 20 #[LV 4611686018427387904 0, .int .u64 128] w (RetL 16212958658533785600 0 w) := by
  have h := pow_any (gE 1) 128 w (gE_lt 1) (by omega)
  unfold RetP at h; unfold RetL; rw [x128, lv_x, lv_R] at h; exact h
theorem bytes_l (w : World) : Calls Try.prog 15 #[LV 16212958658533785600 0] w (RetB 16 aliveB w) := by
  have h := bytes_any 16212958658533785600 0 w (by omega) (by omega)
  rw [alive_e] at h; exact h
theorem of_l (w : World) : Calls Try.prog 16 #[.slice (some ⟨w.heap.size, 0, none⟩) 16 16] (w.alloc (.cells (bvs aliveB).toArray 5)) fun e w' => e = .returned (.tuple #[LV 16212958658533785600 0, .int .i64 0]) ∧ Below w.heap.size w w' := by
  have h := of_ok (some ⟨w.heap.size, 0, none⟩) 16 aliveB (w.alloc (.cells (bvs aliveB).toArray 5)) (by omega) rfl (by rw [World.size_alloc]; exact RB.new w aliveB _ _ rfl)
  rw [alive_o.1, alive_o.2] at h
  exact h.mono fun e w' ⟨he, hb⟩ => ⟨he, (below_alloc w _).trans (hb.mono (by simp))⟩
theorem of_nil (w : World) : Calls Try.prog 16 #[.slice none 0 0] w fun e w' => e = .returned (.tuple #[LV 0 0, .int .i64 11]) ∧ Below w.heap.size w w' := of_bad none 0 0 w (by unfold maxLen; omega) (by omega)
/-- What alive's last region reads, and what it keeps. -/
theorem keep5 {w W W1 : World} {g k : Nat} {a b c d : Value} (hb : Below W.heap.size W W1)
    (h : W.cell? ⟨g, 0, none⟩ = some a ∧ W.cell? ⟨g, 1, none⟩ = some b ∧ W.cell? ⟨k, 0, none⟩ = some c ∧ W.cell? ⟨k, 1, none⟩ = some d ∧ Below w.heap.size w W) :
    W1.cell? ⟨g, 0, none⟩ = some a ∧ W1.cell? ⟨g, 1, none⟩ = some b ∧ W1.cell? ⟨k, 0, none⟩ = some c ∧ W1.cell? ⟨k, 1, none⟩ = some d ∧ Below w.heap.size w W1 := by
  obtain ⟨h0, h1, h2, h3, h4⟩ := h
  have lt : ∀ {p : Addr} {v : Value}, W.cell? p = some v → p.block < W.heap.size := fun h => block_lt_of_cell h
  exact ⟨(hb.cell (lt h0)).trans h0, (hb.cell (lt h1)).trans h1, (hb.cell (lt h2)).trans h2, (hb.cell (lt h3)).trans h3, h4.trans (hb.mono h4.size)⟩
theorem rb_new16 (w : World) : RB (w.alloc (.cells #[.int .u8 225, .int .u8 0, .int .u8 0, .int .u8 0, .int .u8 0, .int .u8 0, .int .u8 0, .int .u8 0, .int .u8 0, .int .u8 0, .int .u8 0, .int .u8 0, .int .u8 0, .int .u8 0, .int .u8 0, .int .u8 0] 5)) (w.alloc (.cells #[.int .u8 225, .int .u8 0, .int .u8 0, .int .u8 0, .int .u8 0, .int .u8 0, .int .u8 0, .int .u8 0, .int .u8 0, .int .u8 0, .int .u8 0, .int .u8 0, .int .u8 0, .int .u8 0, .int .u8 0, .int .u8 0] 5)).heap.size (some ⟨w.heap.size, 0, none⟩) 16 aliveB := by
  rw [World.size_alloc]
  exact RB.new w aliveB _ _ rfl
theorem three_xe (w : World) : XE (w.alloc (.cells #[.int .u64 16212958658533785600, .int .u64 0, .int .u64 9223372036854775808, .int .u64 0, .int .u64 16212958658533785600, .int .u64 0] 24)) (w.heap.size + 1) (some ⟨w.heap.size, 0, none⟩) 3 [gR, gOne, gR] := by
  refine ⟨rfl, ?_, fun _ => ⟨w.heap.size, 0, rfl, Nat.lt_succ_self _, ?_⟩⟩
  · intro i x hx
    have hm := List.mem_of_getElem? hx
    simp only [List.mem_cons, List.not_mem_nil, or_false] at hm
    rcases hm with rfl | rfl | rfl
    · exact gR_lt
    · exact gOne_lt
    · exact gR_lt
  · intro i x hx j v hv
    rw [World.cell?_alloc_at _ _ _ _ rfl]
    match i, hx, j, hv with
    | 0, hx, 0, hv => injection hx with hx; subst hx; exact hv
    | 0, hx, 1, hv => injection hx with hx; subst hx; exact hv
    | 1, hx, 0, hv => injection hx with hx; subst hx; exact hv
    | 1, hx, 1, hv => injection hx with hx; subst hx; exact hv
    | 2, hx, 0, hv => injection hx with hx; subst hx; exact hv
    | 2, hx, 1, hv => injection hx with hx; subst hx; exact hv
theorem sum_l (w : World) : Calls Try.prog 14 #[.slice (some ⟨w.heap.size, 0, none⟩) 3 3] (w.alloc (.cells #[.int .u64 16212958658533785600, .int .u64 0, .int .u64 9223372036854775808, .int .u64 0, .int .u64 16212958658533785600, .int .u64 0] 24)) fun e w' => e = .returned (LV 9223372036854775808 0) ∧ Below w.heap.size w w' := by
  have h := sum_any (some ⟨w.heap.size, 0, none⟩) 3 3 [gR, gOne, gR] _ (by unfold maxLen; omega) (by rw [World.size_alloc]; exact three_xe w)
  have e : gSum [gR, gOne, gR] 0 = gOne := by decide +kernel
  rw [e] at h
  refine h.mono fun e w' ⟨he, hb⟩ => ⟨he.trans (by rw [lv_one]), (below_alloc w _).trans (hb.mono (by simp))⟩
set_option maxRecDepth 100000 in
set_option maxHeartbeats 4000000 in
theorem alive_any (w : World) :
    Calls Try.prog 8 #[] w fun e w' => e = .returned (.bool true) ∧ Below w.heap.size w w' := by
  go_enter Try.func8, Try.ntmps8
  go_wp2_with fail
  refine (of_l w).mono ?_
  rintro e w1 ⟨rfl, hb1⟩
  have HB1 := Lib.hid hb1
  clear hb1
  unfold LV
  go_wp2_with fail
  refine (of_nil _).mono ?_
  rintro e w2 ⟨rfl, hb2⟩
  have HB2 := Lib.hid hb2
  clear hb2
  unfold LV
  go_wp2_with fail
  refine (next_l _).mono ?_
  rintro e w3 ⟨rfl, hb3⟩
  have HB3 := Lib.hid hb3
  clear hb3
  unfold LV
  go_wp2_with fail
  obtain ⟨g, HG⟩ : ∃ g, Hid (g = w1.heap.size) := ⟨_, Lib.hid rfl⟩
  obtain ⟨k, HK⟩ : ∃ k, Hid (k = w3.heap.size) := ⟨_, Lib.hid rfl⟩
  obtain ⟨W0, HW0⟩ : ∃ W0, Hid (W0 = w3.alloc (.cells #[.int .u64 16212958658533785600, .int .u64 0] 24)) := ⟨_, Lib.hid rfl⟩
  have hW : (W0.cell? ⟨g, 0, none⟩ = some (.int .u64 16212958658533785600) ∧ W0.cell? ⟨g, 1, none⟩ = some (.int .u64 0) ∧ W0.cell? ⟨k, 0, none⟩ = some (.int .u64 16212958658533785600) ∧ W0.cell? ⟨k, 1, none⟩ = some (.int .u64 0)) ∧ Below w.heap.size w W0 := by
    have h1 := Ew.new w1 16212958658533785600 0 _ rfl
    have h2 := h1.below HB2.out (by simp)
    have h3 := (h2.alloc (.cells #[.int .u64 0, .int .u64 0] 24)).below HB3.out (by have := h2.lt; rw [World.size_alloc]; omega)
    have h4 := h3.alloc (.cells #[.int .u64 16212958658533785600, .int .u64 0] 24)
    have k4 := Ew.new w3 16212958658533785600 0 _ rfl
    rw [HW0.out, HG.out, HK.out]
    have b1 := HB1.out
    have b2 := b1.trans ((((below_alloc w1 _).trans (HB2.out.mono (by simp)))).mono b1.size)
    have b3 := b2.trans ((((below_alloc w2 _).trans (HB3.out.mono (by simp)))).mono b2.size)
    exact ⟨⟨h4.at0, h4.at1, k4.at0, k4.at1⟩, b3.alloc b3.size _⟩
  rw [← HW0.out, ← HG.out, ← HK.out]
  clear HB1 HB2 HB3 HW0 HG HK
  obtain ⟨⟨z0, z1, z2, z3⟩, z4⟩ := hW
  go_region_held3 (fun w' => w'.cell? ⟨g, 0, none⟩ = some (.int .u64 16212958658533785600) ∧ w'.cell? ⟨g, 1, none⟩ = some (.int .u64 0) ∧ w'.cell? ⟨k, 0, none⟩ = some (.int .u64 16212958658533785600) ∧ w'.cell? ⟨k, 1, none⟩ = some (.int .u64 0) ∧ Below w.heap.size w w') (first | assumption | (exact keep5 (below_alloc _ _) (by assumption)) | (exact ⟨z0, z1, z2, z3, z4.drew⟩))
    (first
    | (go_at_call 22; refine (one_l _).mono ?_; rintro e w5 ⟨rfl, hb5⟩; have hk5 := keep5 hb5 (by assumption); clear hb5; unfold LV)
    | (go_at_call 11; refine (times_l _).mono ?_; rintro e w5 ⟨rfl, hb5⟩; have hk5 := keep5 hb5 (by assumption); clear hb5; unfold LV)
    | (go_at_call 14; refine (sum_l _).mono ?_; rintro e w5 ⟨rfl, hb5⟩; have hk5 := keep5 hb5 (by assumption); clear hb5; unfold LV)
    | (go_at_call 13; refine (next_one_l _).mono ?_; rintro e w5 ⟨rfl, hb5⟩; have hk5 := keep5 hb5 (by assumption); clear hb5; unfold LV)
    | (go_at_call 20; refine (pow_l _).mono ?_; rintro e w5 ⟨rfl, hb5⟩; have hk5 := keep5 hb5 (by assumption); clear hb5; unfold LV)
    | (go_at_call 15; refine (bytes_l _).mono ?_; rintro e w5 ⟨A6, c6, rfl, ho6, hb5⟩; have hk5 := keep5 hb5 (by assumption); have HO6 := Lib.hid ho6; have HB6 := Lib.hid hb5; clear hb5 ho6)
    | (go_at_call 18; refine (al_same A6 _ 16 c6 16 16 aliveB aliveB _ (by first | exact HO6.out.rb | exact HO6.out.rb.step (below_alloc _ _)) (by first | exact rb_new16 _ | exact (rb_new16 _).step (by exact HB6.out)) (by unfold maxLen; omega) (by unfold maxLen; omega) true (by simp)).mono ?_; rintro e w5 ⟨rfl, hb5⟩; have hk5 := keep5 hb5 (by assumption); have hz5 := hk5.2.2.2.2; clear hb5))
  all_goals (go_wp2_with fail; go_ret; exact ⟨rfl, by assumption⟩)
end Go.Proofs.Ytdhgofolcggleaa
