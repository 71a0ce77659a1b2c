/- Layer 5's statements: rows of coefficients as the program has them. Condition: the slice's cells are readable, and not too many. -/
import Derived.Test.YtilpdojliaiokaaRefGhSum
import Derived.Test.YtilpdojliaiokaaElemsX
namespace Go.Proofs.Ytilpdojliaiokaa
open Go.RowKit
set_option linter.unusedVariables false

theorem Xw.kept {W W1 : World} {g x : Nat} (h : Xw W g x) (hb : Below W.heap.size W W1) : Xw W1 g x := Ew.below h hb (Ew.lt h)
theorem of_bB (x : Nat) (hx : x < 2 ^ 128) (A : Option Addr) (c : Nat) (w : World) (hc : 16 ≤ c) (hr : RB w w.heap.size A 16 (bB x)) :
    Calls Try.prog 26 #[.slice A 16 c] w fun e w' => e = .returned (.tuple #[PE x, .int .i64 0]) ∧ Below w.heap.size w w' := by
  have h := of_ok A c (bB x) w hc hr.len hr
  have e : EV (oH (bB x)) (oL (bB x)) = PE x := by
    have h1 := pe_lt x hx
    unfold bB PE
    rw [(o_eB _ _ h1.1 h1.2).1, (o_eB _ _ h1.1 h1.2).2]
  rw [e] at h
  exact h
theorem rbytes_co (x : Nat) (w : World) (hx : x < 2 ^ 128) : Calls Try.prog 28 #[BV (co x)] w (RetB 16 (bB x) w) := by
  have h := pbytes_any (bB x) w (bB_len x)
  rw [bB_bits x hx] at h
  exact h
attribute [local irreducible] co tvs bB PE bitsOf

set_option maxRecDepth 100000 in
set_option maxHeartbeats 4000000 in
theorem elems_any (A : Option Addr) (n c : Nat) (xs : List Nat) (w : World) (hn : n ≤ 100000) (hX : XP w w.heap.size A n xs) :
    Calls Try.prog 10 #[.slice A n c] w fun e w' => ∃ g1 c1, e = .returned (.slice (some ⟨g1, 0, none⟩) n c1) ∧ OwnE w' w.heap.size (some ⟨g1, 0, none⟩) n c1 xs ∧ Below w.heap.size w w' := by
  have HX := Lib.hid hX
  have hlen := hX.1
  clear hX
  go_enter Try.func10, Try.ntmps10
  go_wp2_with fail
  have HO0 : Hid (OwnE (w.alloc (.cells #[] 36)) w.heap.size (some ⟨w.heap.size, 0, none⟩) 0 0 (xs.take 0)) := Lib.hid (by rw [List.take_zero]; exact OwnX.lit0 _ _ _ w _ (Nat.le_refl _))
  go_loopw [3, 4] (fun v i wr => ∃ k c1 g1 : Nat, k ≤ n ∧ i = .int .i64 k ∧ v = .slice (some ⟨g1, 0, none⟩) k c1 ∧ Hid (OwnE wr w.heap.size (some ⟨g1, 0, none⟩) k c1 (xs.take k)) ∧ Hid (Below w.heap.size w wr)) (fun _ i _ => n - (intOf i).toNat)
  case atStart => exact ⟨0, 0, w.heap.size, by omega, rfl, rfl, HO0, Lib.hid (below_alloc _ _)⟩
  case round =>
    obtain ⟨k, c1, g1, hk, rfl, rfl, ho, hb⟩ := hrel
    clear HO0
    by_cases hlt : k < n
    · obtain ⟨g, o, rfl, hg, hcx⟩ := HX.out.2.2 (by omega)
      obtain ⟨x, hx2⟩ : ∃ x, xs[k]? = some x := ⟨_, List.getElem?_eq_getElem (by omega)⟩
      have HLX := Lib.hid (HX.out.2.1 k x hx2)
      have HT : Hid (xs.take (k + 1) = xs.take k ++ [x]) := Lib.hid (by rw [List.take_add_one, hx2]; rfl)
      have q1 : gldB (.pointer (some ⟨g, o + k * 128, none⟩)) wr = .ok (.value (BV (co x))) wr := gldB_r (fun j v hv => (hb.out.cell (p := ⟨g, o + k * 128 + j, none⟩) hg).trans (hcx k x hx2 j v hv))
      clear hx2 hcx
      go_wp2_with (first | (go_at_call 28; refine (rbytes_co x _ HLX.out).mono ?_; rintro e w1 ⟨A1, d1, rfl, ho1, hb1⟩; have HO1 := Lib.hid ho1; have HB1 := Lib.hid hb1; clear ho1 hb1) | (go_at_call 26; refine (of_bB x HLX.out A1 d1 _ HO1.out.cap.1 HO1.out.rb).mono ?_; rintro e w2 ⟨rfl, hb2⟩; have HB2 := Lib.hid hb2; clear hb2) | (refine wpList_stX rfl (.tmp 5) (.tmp 21) rfl w2.heap.size rfl x 0 rfl (by exact Ew.new w2 0 0 _ rfl) ?_; obtain ⟨w3, HW3⟩ : ∃ w3, Hid (w3 = (w2.alloc (.cells #[.int .u64 0, .int .u64 0] 36)).setCells w2.heap.size 0 (es (x / 2 ^ 64) (x % 2 ^ 64))) := ⟨_, Lib.hid rfl⟩; have HX3 : Hid (Xw w3 w2.heap.size x) := Lib.hid (by rw [HW3.out]; exact Ew.whole (Ew.new w2 0 0 _ rfl) _ _); have HB3 : Hid (Below w2.heap.size w2 w3) := Lib.hid (by rw [HW3.out]; exact below_setCells (below_alloc _ _) (Nat.le_refl _) _ _); have HBB : Hid (Below wr.heap.size wr w3) := Lib.hid (HB1.out.trans ((HB2.out.trans (HB3.out.mono HB2.out.size)).mono HB1.out.size)); rw [← HW3.out]) | (refine wpList_ldX rfl (.tmp 5) rfl w2.heap.size rfl x (by exact HX3.out) ?_) | (refine wpList_oneE rfl (.tmp 24) rfl x rfl ?_) | (at_builtin; refine wpList_appE rfl (.tmp 23) (.tmp 25) rfl w.heap.size (some ⟨g1, 0, none⟩) k c1 (xs.take k) rfl (by exact OwnX.below (OwnX.below ho.out HBB.out) (below_alloc _ _)) w3.heap.size 1 1 [x] rfl rfl (by exact oneE_cells w3 x) (by omega) (by have h1 := hb.out.size; have h2 := HBB.out.size; rw [World.size_alloc]; omega) ?_; intro A7 c7 w7 ho7 hb7; obtain ⟨g7, rfl⟩ := OwnX.form2 ho7 (by omega); have HO7 := Lib.hid ho7; have HB7 := Lib.hid hb7; clear ho7 hb7))
      go_roundw
      case rel => exact ⟨k + 1, c7, g7, by omega, by go_num, rfl, Lib.hid (by rw [HT.out]; exact HO7.out), Lib.hid ((hb.out.trans ((HBB.out.trans ((below_alloc w3 _).mono HBB.out.size)).mono hb.out.size)).trans HB7.out)⟩
      case measure => simp [intOf]; omega
    · obtain rfl : k = n := by omega
      go_wp2_with fail
      go_ret
      exact ⟨g1, c1, rfl, by have := ho.out; rw [List.take_of_length_le (by omega)] at this; exact this, hb.out⟩
end Go.Proofs.Ytilpdojliaiokaa
