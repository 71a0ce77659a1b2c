/- layer 4: Next. Condition: the number has 128 bits. -/
import Derived.Test.YtilpdojliaiokaaPolyPe
namespace Go.Proofs.Ytilpdojliaiokaa
open Go.RowKit
set_option linter.unusedVariables false

set_option maxRecDepth 100000 in
set_option maxHeartbeats 2000000 in
theorem next_any (h l : Nat) (w : World) (hh : h < 2 ^ 64) (hl' : l < 2 ^ 64) :
    Calls Try.prog 24 #[EV h l] w (RetE (h / 2 ^^^ (l % 2 * 16212958658533785600)) (h % 2 * 2 ^ 63 + l / 2) w) := by
  have hj : bits .or .u64 ((l : Int) / 2) (IntKind.u64.wrap ((h : Int) * 9223372036854775808)) = ((h % 2 * 2 ^ 63 + l / 2 : Nat) : Int) := by
    rw [shl63, show ((l : Int) / 2) = ((l / 2 : Nat) : Int) by omega, u64_or_nat _ _ (by omega) (by omega), Nat.or_comm, nat_join 63 _ _ (by omega) (by omega)]
  obtain ⟨L, HL⟩ : ∃ L, Hid (L = h % 2 * 2 ^ 63 + l / 2) := ⟨_, Lib.hid rfl⟩
  rw [← HL.out] at hj ⊢
  have h2 : (h : Int) / 2 = ((h / 2 : Nat) : Int) := by omega
  have h3 : h / 2 < 2 ^ 64 := by omega
  have ha := and1 l hl'
  have hx := u64_xor_nat (h / 2) 16212958658533785600 h3 (by omega)
  obtain ⟨H2, HH2⟩ : ∃ H2, Hid (H2 = h / 2) := ⟨_, Lib.hid rfl⟩
  rw [← HH2.out] at h2 hx ⊢
  obtain ⟨X, HX⟩ : ∃ X, Hid (X = H2 ^^^ 16212958658533785600) := ⟨_, Lib.hid rfl⟩
  rw [← HX.out] at hx
  have hx' : bits .xor .u64 (H2 : Int) 16212958658533785600 = (X : Int) := hx
  clear hx h3 hh hl'
  obtain ⟨G, HG⟩ : ∃ G, Hid (G = w.heap.size) := ⟨_, Lib.hid rfl⟩
  obtain ⟨W0, HW0⟩ : ∃ W0, Hid (W0 = (((w.alloc (.cells (es h l).toArray 36)).alloc (.cells (es 0 0).toArray 36)).alloc (.cells (es 0 0).toArray 36)).setCells (w.heap.size + 1 + 1) 0 (es H2 L)) := ⟨_, Lib.hid rfl⟩
  have HN0 : Ew (((w.alloc (.cells (es h l).toArray 36)).alloc (.cells (es 0 0).toArray 36)).alloc (.cells (es 0 0).toArray 36)) (w.heap.size + 1 + 1) 0 0 := Ew.new _ 0 0 _ (by simp)
  have HE0 : Hid (Ew W0 G h l) := Lib.hid (by rw [HW0.out, HG.out]; exact (((Ew.new w h l _ rfl).alloc _).alloc _).setCells (by omega) _ _)
  have HR0 : Hid (Ew W0 (G + 1) 0 0) := Lib.hid (by rw [HW0.out, HG.out]; exact ((Ew.new _ 0 0 _ (by simp)).alloc _).setCells (by omega) _ _)
  have HP0 : Hid (Ew W0 (G + 1 + 1) H2 L) := Lib.hid (by rw [HW0.out, HG.out]; exact HN0.whole _ _)
  have HB0 : Hid (Below w.heap.size w W0) := Lib.hid (by rw [HW0.out]; exact below_setCells (((below_alloc w _).alloc (by simp) _).alloc (by simp; omega) _) (by omega) _ _)
  have HN1 := Lib.hid HN0
  clear HN0
  have ce0 := HE0.out.at0
  have ce1 := HE0.out.at1
  have cp0 := HP0.out.at0
  have cf0 := HP0.out.free0
  rw [HG.out] at ce0 ce1 cp0 cf0
  rcases Nat.mod_two_eq_zero_or_one l with hm | hm
  · rw [hm] at ha ⊢
    have ha' : bits .and .u64 (l : Int) 1 = 0 := ha
    rw [Nat.zero_mul, Nat.xor_zero]
    clear ha
    unfold EV RetE EV
    go_enter Try.func24, Try.ntmps24
    go_wp2_with (first | (refine wpList_stE rfl (.tmp 3) (.tmp 14) rfl (w.heap.size + 1 + 1) rfl H2 L 0 0 rfl (by exact HN1.out) ?_; show wpList _ _ _ _ _ ((((w.alloc (.cells (es h l).toArray 36)).alloc (.cells (es 0 0).toArray 36)).alloc (.cells (es 0 0).toArray 36)).setCells (w.heap.size + 1 + 1) 0 (es H2 L)); rw [← HW0.out]) | (refine wpList_ldE rfl (.tmp 3) rfl (w.heap.size + 1 + 1) rfl H2 L (by rw [← HG.out]; exact HP0.out) ?_) | (refine wpList_stE rfl (.tmp 2) (.tmp 23) rfl (w.heap.size + 1) rfl H2 L 0 0 rfl (by rw [← HG.out]; exact HR0.out) ?_))
    refine bodyPost_ret (v := EV H2 L) (res_ew rfl _ _ (w.heap.size + 1) H2 L rfl ?_) rfl ⟨rfl, ?_⟩
    · rw [← HG.out]; exact HR0.out.whole _ _
    · exact below_setCells HB0.out (by omega) _ _
  · rw [hm] at ha ⊢
    have ha' : bits .and .u64 (l : Int) 1 = 1 := ha
    rw [Nat.one_mul, ← HX.out]
    clear ha
    unfold EV RetE EV
    go_enter Try.func24, Try.ntmps24
    go_wp2_with (first | (refine wpList_stE rfl (.tmp 3) (.tmp 14) rfl (w.heap.size + 1 + 1) rfl H2 L 0 0 rfl (by exact HN1.out) ?_; show wpList _ _ _ _ _ ((((w.alloc (.cells (es h l).toArray 36)).alloc (.cells (es 0 0).toArray 36)).alloc (.cells (es 0 0).toArray 36)).setCells (w.heap.size + 1 + 1) 0 (es H2 L)); rw [← HW0.out]) | (refine wpList_ldE rfl (.tmp 3) rfl (w.heap.size + 1 + 1) rfl X L (by rw [← HG.out]; exact HP0.out.set0 X) ?_) | (refine wpList_stE rfl (.tmp 2) (.tmp 23) rfl (w.heap.size + 1) rfl X L 0 0 rfl (by rw [← HG.out]; exact HR0.out.setCell (by simp) _) ?_))
    refine bodyPost_ret (v := EV X L) (res_ew rfl _ _ (w.heap.size + 1) X L rfl ?_) rfl ⟨rfl, ?_⟩
    · rw [← HG.out]; exact (HR0.out.setCell (by simp) _).whole _ _
    · exact below_setCells (HB0.out.setCell (p := ⟨w.heap.size + 1 + 1, 0, none⟩) (by simp; omega) _) (by omega) _ _
/-- The product with x, of a number. -/
theorem next_pe (a : Nat) (w : World) (ha : a < 2 ^ 128) : Calls Try.prog 24 #[PE a] w (RetP (gNext a) w) := by
  have h1 := pe_lt a ha
  refine (next_any _ _ w h1.1 h1.2).mono ?_
  rintro e w' ⟨rfl, hb⟩
  refine ⟨?_, hb⟩
  have h2 := hl_next (a / 2 ^ 64) (a % 2 ^ 64) h1.2
  rw [hl_parts] at h2
  rw [h2, pe_hl _ _ (by omega)]
end Go.Proofs.Ytilpdojliaiokaa
