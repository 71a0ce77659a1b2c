/- layer 4: Sum of elements that lie in a slice. Condition: numbers of 128 bits. -/
import Derived.Test.YtilpdojliaiokaaPolyPe
namespace Go.Proofs.Ytilpdojliaiokaa
open Go.RowKit
set_option linter.unusedVariables false

/-- The slice (A, n, _) reads as the elements xs, below block B. -/
def XE (w : World) (B : Nat) (A : Option Addr) (n : Nat) (xs : List Nat) : Prop :=
  xs.length = n ∧ (∀ (i x : Nat), xs[i]? = some x → x < 2 ^ 128) ∧ (0 < n → ∃ g o, A = some ⟨g, o, none⟩ ∧ g < B ∧ ∀ (i x : Nat), xs[i]? = some x → w.rangeAt g (o + i * 2) (es (x / 2 ^ 64) (x % 2 ^ 64)))
theorem XE.step {w w' : World} {B : Nat} {A : Option Addr} {n : Nat} {xs : List Nat} (h : XE w B A n xs) (hb : Below B w w') : XE w' B A n xs := by
  refine ⟨h.1, h.2.1, fun hn => ?_⟩
  obtain ⟨g, o, hA, hg, hc⟩ := h.2.2 hn
  exact ⟨g, o, hA, hg, fun i x hx j v hv => (hb.cell (p := ⟨g, o + i * 2 + j, none⟩) hg).trans (hc i x hx j v hv)⟩
theorem XE.lt {w : World} {B B' : Nat} {A : Option Addr} {n : Nat} {xs : List Nat} (h : XE w B A n xs) (hB : B ≤ B') : XE w B' A n xs := by
  refine ⟨h.1, h.2.1, fun hn => ?_⟩
  obtain ⟨g, o, hA, hg, hc⟩ := h.2.2 hn
  exact ⟨g, o, hA, by omega, hc⟩
theorem gSum_lt (xs : List Nat) : ∀ s, s < 2 ^ 128 → (∀ (i x : Nat), xs[i]? = some x → x < 2 ^ 128) → gSum xs s < 2 ^ 128 := by
  induction xs with
  | nil => intro s hs _; exact hs
  | cons y l ih => intro s hs h; exact ih _ (Nat.xor_lt_two_pow hs (h 0 y rfl)) (fun i x hx => h (i + 1) x hx)
attribute [local irreducible] gSum hl

set_option maxRecDepth 100000 in
set_option maxHeartbeats 4000000 in
theorem sum_any (A : Option Addr) (n c : Nat) (xs : List Nat) (w : World) (hn : n ≤ maxLen) (hX : XE w w.heap.size A n xs) :
    Calls Try.prog 23 #[.slice A n c] w (RetP (gSum xs 0) w) := by
  have HX := Lib.hid hX
  clear hX
  have hl2 := HX.out.1
  unfold maxLen at hn
  obtain ⟨G, HG⟩ : ∃ G, Hid (G = w.heap.size) := ⟨_, Lib.hid rfl⟩
  go_enter Try.func23, Try.ntmps23
  go_wp2_with fail
  obtain ⟨W0, HW0⟩ : ∃ W0, Hid (W0 = ((w.alloc (.cells (es 0 0).toArray 36)).alloc (.cells (es 0 0).toArray 36))) := ⟨_, Lib.hid rfl⟩
  show Code.wp _ _ _ _ ((w.alloc (.cells (es 0 0).toArray 36)).alloc (.cells (es 0 0).toArray 36))
  have HR0 : Hid (Ew W0 G 0 0) := Lib.hid (by rw [HW0.out, HG.out]; exact (Ew.new _ 0 0 _ rfl).alloc _)
  have HP0 : Hid (Ew W0 (G + 1) 0 0) := Lib.hid (by rw [HW0.out, HG.out]; exact Ew.new _ 0 0 _ (by simp))
  have HB0 : Hid (Below w.heap.size w W0) := Lib.hid (by rw [HW0.out]; exact (below_alloc w _).alloc (by simp) _)
  rw [← HW0.out, ← HG.out]
  clear HW0
  go_loopw [8] (fun t wr => ∃ i ph pl : Nat, i ≤ n ∧ t = .int .i64 i ∧ Hid (ph < 2 ^ 64 ∧ pl < 2 ^ 64 ∧ hl ph pl = gSum (xs.take i) 0) ∧ Hid (Ew wr G 0 0) ∧ Hid (Ew wr (G + 1) ph pl) ∧ Hid (Below w.heap.size w wr)) (fun t _ => n - (intOf t).toNat)
  case atStart => exact ⟨0, 0, 0, by omega, rfl, Lib.hid ⟨by omega, by omega, by unfold gSum hl; rfl⟩, HR0, HP0, HB0⟩
  case round =>
    obtain ⟨i, ph, pl, hi, rfl, hv, hr, hp, hb⟩ := hrel
    clear HR0 HP0 HB0
    by_cases hlt : i < n
    · obtain ⟨g, o, rfl, hg, hc⟩ := HX.out.2.2 (by omega)
      obtain ⟨x, hx⟩ : ∃ x, xs[i]? = some x := ⟨_, List.getElem?_eq_getElem (by omega)⟩
      have HC := Lib.hid (hc i x hx)
      have HXL := Lib.hid (HX.out.2.1 i x hx)
      have HXI := Lib.hid hx
      clear hc hx
      obtain ⟨xh, HXH⟩ : ∃ xh, Hid (xh = x / 2 ^ 64 ∧ xh < 2 ^ 64) := ⟨_, Lib.hid ⟨rfl, (pe_lt x HXL.out).1⟩⟩
      obtain ⟨xl, HXl⟩ : ∃ xl, Hid (xl = x % 2 ^ 64 ∧ xl < 2 ^ 64) := ⟨_, Lib.hid ⟨rfl, (pe_lt x HXL.out).2⟩⟩
      have HC2 : Hid (wr.rangeAt g (o + i * 2) (es xh xl)) := Lib.hid (by rw [HXH.out.1, HXl.out.1]; exact fun j v hv => (hb.out.cell (p := ⟨g, o + i * 2 + j, none⟩) hg).trans (HC.out j v hv))
      obtain ⟨X0, HX0⟩ : ∃ X0, Hid (X0 = ph ^^^ xh ∧ X0 < 2 ^ 64) := ⟨_, Lib.hid ⟨rfl, Nat.xor_lt_two_pow hv.out.1 HXH.out.2⟩⟩
      obtain ⟨X1, HX1⟩ : ∃ X1, Hid (X1 = pl ^^^ xl ∧ X1 < 2 ^ 64) := ⟨_, Lib.hid ⟨rfl, Nat.xor_lt_two_pow hv.out.2.1 HXl.out.2⟩⟩
      have x0 : bits .xor .u64 (ph : Int) (xh : Int) = (X0 : Int) := by rw [HX0.out.1]; exact u64_xor_nat ph xh hv.out.1 HXH.out.2
      have x1 : bits .xor .u64 (pl : Int) (xl : Int) = (X1 : Int) := by rw [HX1.out.1]; exact u64_xor_nat pl xl hv.out.2.1 HXl.out.2
      have HV : Hid (hl X0 X1 = gSum (xs.take (i + 1)) 0) := Lib.hid (by rw [HX0.out.1, HX1.out.1, ← hl_xor ph pl xh xl hv.out.2.1 HXl.out.2, hv.out.2.2, HXH.out.1, HXl.out.1, hl_parts, List.take_add_one, HXI.out]; exact (gSum_snoc _ x 0).symm)
      obtain ⟨d, hu, hd⟩ := row_elem
      have HU := Lib.hid hu
      have HD := Lib.hid hd
      clear hu hd
      have hSG : G + 1 < wr.heap.size := hp.out.lt
      obtain ⟨W1, HW1⟩ : ∃ W1, Hid (W1 = (wr.alloc (.cells (es 0 0).toArray 36)).setCells wr.heap.size 0 (es xh xl)) := ⟨_, Lib.hid rfl⟩
      have HR1 : Hid (Ew W1 G 0 0) := Lib.hid (by rw [HW1.out]; exact (hr.out.alloc _).setCells (by omega) _ _)
      have HP1 : Hid (Ew W1 (G + 1) ph pl) := Lib.hid (by rw [HW1.out]; exact (hp.out.alloc _).setCells (by omega) _ _)
      have HN1 : Hid (Ew W1 wr.heap.size xh xl) := Lib.hid (by rw [HW1.out]; exact (Ew.new _ 0 0 _ rfl).whole _ _)
      have HB1 : Hid (Below w.heap.size w W1) := Lib.hid (by rw [HW1.out]; exact below_setCells (hb.out.alloc (by rw [← HG.out]; omega) _) (by rw [← HG.out]; omega) _ _)
      have c0 := HP1.out.at0
      have c1 := HP1.out.at1
      have f0 := HP1.out.free0
      have f1 := HP1.out.free1
      have n0 := HN1.out.at0
      have n1 := HN1.out.at1
      go_wp2_with (first | (refine wpList_load_mid rfl _ (.tmp 10) rfl g (o + i * 2) rfl (es xh xl) d (by exact HC2.out) HU.out HD.out sz_elem ?_) | (refine wpList_stE rfl (.tmp 5) (.tmp 11) rfl wr.heap.size rfl xh xl 0 0 rfl (by exact Ew.new _ 0 0 _ rfl) ?_; show wpList _ _ _ _ _ ((wr.alloc (.cells (es 0 0).toArray 36)).setCells wr.heap.size 0 (es xh xl)); rw [← HW1.out]))
      go_roundw
      case rel => exact ⟨i + 1, X0, X1, by omega, by go_num, Lib.hid ⟨HX0.out.2, HX1.out.2, HV.out⟩, Lib.hid ((HR1.out.setCell (by simp) _).setCell (by simp) _), Lib.hid ((HP1.out.set0 _).set1 _), Lib.hid ((HB1.out.setCell (p := ⟨G + 1, 0, none⟩) (by rw [HG.out]; simp) _).setCell (p := ⟨G + 1, 1, none⟩) (by rw [HG.out]; simp) _)⟩
      case measure => simp [intOf]; omega
    · obtain rfl : i = n := by omega
      go_wp2_with (first | (refine wpList_ldE rfl (.tmp 3) rfl (G + 1) rfl ph pl (by exact hp.out) ?_) | (refine wpList_stE rfl (.tmp 2) (.tmp 25) rfl G rfl ph pl 0 0 rfl (by exact hr.out) ?_))
      have e : PE (gSum xs 0) = EV ph pl := by
        have h := hv.out.2.2
        rw [← hl2, List.take_length] at h
        rw [← h, pe_hl _ _ hv.out.2.1]
      refine bodyPost_ret (v := EV ph pl) (res_ew rfl _ _ G ph pl rfl (hr.out.whole ph pl)) rfl ⟨by rw [e], ?_⟩
      exact below_setCells hb.out (by rw [HG.out]; omega) 0 _
end Go.Proofs.Ytilpdojliaiokaa
