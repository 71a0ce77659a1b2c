/- crosswaylaw02's alive answers true. No conditions. -/
import Derived.Test.YtkbbbmblimlofaaFieldUse
namespace Go.Proofs.Ytkbbbmblimlofaa
open Go.RowKit
set_option linter.unusedVariables false

theorem Tab.keep {w w' : World} {lo b : Nat} {l : List UInt8} {d : Bool} (h : Tab w lo b l d) (hk : ∀ g n f, lo ≤ g → 0 < n → Cells w g n f → Cells w' g n f) : Tab w' lo b l d := by
  obtain ⟨f, hlo, hc, hr, h1, h2, h4, hd⟩ := h
  exact ⟨f, hlo, hk b 773 f hlo (by omega) hc, hr.keep (fun g n f hg _ hn hc => hk g n f hg hn hc) rfl (fun _ _ => rfl), h1, h2, h4, hd⟩
theorem Tab.below {w w' : World} {lo b : Nat} {l : List UInt8} {d : Bool} (h : Tab w lo b l d) (hb : Below w.heap.size w w') : Tab w' lo b l d :=
  h.keep fun g n f _ hn hc => hc.below hb (hc.lt hn)
/-- A pure call whose answer is known as a number. -/
def RetI (k : IntKind) (z : Int) (w : World) (e : Ending) (w' : World) : Prop := e = .returned (.int k z) ∧ w = w'
theorem mul_lit (X Y Z : Int) (x y : UInt8) (hx : (x.toNat : Int) = X) (hy : (y.toNat : Int) = Y) (hz : ((mulB x y).toNat : Int) = Z) (w : World) :
    Calls Try.prog 9 #[.int .u8 X, .int .u8 Y] w (RetI .u8 Z w) := by subst hx; subst hy; subst hz; exact mul_any x y w
theorem inv_lit (X Z : Int) (x : UInt8) (hx : (x.toNat : Int) = X) (hz : ((invB x).toNat : Int) = Z) (w : World) :
    Calls Try.prog 11 #[.int .u8 X] w (RetI .u8 Z w) := by subst hx; subst hz; exact inv_any x w
theorem pow_lit (X N Z : Int) (x : UInt8) (n : Nat) (hx : (x.toNat : Int) = X) (hn : (n : Int) = N) (hm : n ≤ 18446744073709551615) (hz : ((powN x n).toNat : Int) = Z) (w : World) :
    Calls Try.prog 13 #[.int .u8 X, .int .u64 N] w (RetI .u8 Z w) := by subst hx; subst hn; subst hz; exact pow_any x n w hm
theorem sum_lit (Z : Int) (A : Option Addr) (n c B : Nat) (l : List UInt8) (w : World) (h : RB w B A n l) (hn : n ≤ 140737488355328) (hz : ((sumL l).toNat : Int) = Z) :
    Calls Try.prog 22 #[.slice A n c] w (RetI .u8 Z w) := by subst hz; exact sum_any A n c B l w h (by unfold maxLen; omega)
theorem sub_lit (X Z : Int) (lo b : Nat) (l : List UInt8) (d : Bool) (x : UInt8) (hx : (x.toNat : Int) = X) (hz : ((subB x).toNat : Int) = Z) (w : World) (h : Tab w lo b l d) :
    Calls Try.prog 17 #[.pointer (some ⟨b, 0, none⟩), .int .u8 X] w (UseTab (.int .u8 Z) lo b l w) := by subst hx; subst hz; exact tab_sub lo b l d x w h
theorem unsub_lit (X Z : Int) (lo b : Nat) (l : List UInt8) (d : Bool) (x : UInt8) (hx : (x.toNat : Int) = X) (hz : ((unsubB x).toNat : Int) = Z) (w : World) (h : Tab w lo b l d) :
    Calls Try.prog 19 #[.pointer (some ⟨b, 0, none⟩), .int .u8 X] w (UseTab (.int .u8 Z) lo b l w) := by subst hx; subst hz; exact tab_unsub lo b l d x w h
theorem times_lit (K X Z : Int) (lo b : Nat) (l : List UInt8) (d : Bool) (k : Nat) (y x : UInt8) (hk : (k : Int) = K) (hx : (x.toNat : Int) = X) (hz : ((mulB y x).toNat : Int) = Z) (w : World) (h : Tab w lo b l d) (hl : l[k]? = some y) :
    Calls Try.prog 21 #[.pointer (some ⟨b, 0, none⟩), .int .i64 K, .int .u8 X] w (UseTab (.tuple #[.int .u8 Z, .int .i64 0]) lo b l w) := by subst hk; subst hx; subst hz; exact tab_times lo b l d k y x w h hl
theorem times_high_lit (X : Int) (lo b : Nat) (l : List UInt8) (d : Bool) (k : Int) (x : UInt8) (hx : (x.toNat : Int) = X) (w : World) (h : Tab w lo b l d) (hk : (l.length : Int) ≤ k) (hk2 : k ≤ 9223372036854775807) :
    Calls Try.prog 21 #[.pointer (some ⟨b, 0, none⟩), .int .i64 k, .int .u8 X] w (UseTab (.tuple #[.int .u8 0, .int .i64 11]) lo b l w) := by subst hx; exact tab_times_high lo b l d k x w h hk hk2
theorem made_lit (Z : Int) (lo b : Nat) (l : List UInt8) (d : Bool) (hz : madeN d = Z) (w : World) (h : Tab w lo b l d) :
    Calls Try.prog 16 #[.pointer (some ⟨b, 0, none⟩)] w (RetI .i64 Z w) := by subst hz; exact tab_made lo b l d w h

set_option maxRecDepth 100000 in
set_option maxHeartbeats 4000000 in
theorem alive_any (w : World) :
    Calls Try.prog 8 #[] w fun e w' => e = .returned (.bool true) ∧ Below w.heap.size w w' := by
  obtain ⟨v, HV⟩ : ∃ v, Hid (v = invB 83) := ⟨_, Lib.hid rfl⟩
  go_enter Try.func8, Try.ntmps8
  go_wp2_with fail
  refine (new_any _ 2 2 _ [2, 3] _ (by exact RB.lit w [2, 3] _ 2 _ rfl rfl rfl) (Nat.le_refl _) (by omega)).mono ?_
  rintro e w1 ⟨b, rfl, hb1, ht1⟩
  have HB1 : Hid (Below w.heap.size w w1) := Lib.hid (bel_next (below_alloc w _) hb1)
  obtain ⟨lo, HLO⟩ : ∃ lo, Hid (lo = (w.alloc (.cells #[.int .u8 2, .int .u8 3] 5)).heap.size) := ⟨_, Lib.hid rfl⟩
  have ht : Tab w1 lo b [2, 3] false := by rw [HLO.out]; exact ht1
  have hlo : w.heap.size ≤ lo := by rw [HLO.out]; simp
  have HT1 := Lib.hid ht
  clear ht1 hb1 ht
  go_wp2_with fail
  refine (made_lit 0 lo b [2, 3] false rfl _ (by exact HT1.out)).mono ?_
  rintro e w2 ⟨rfl, rfl⟩
  go_wp2_with fail
  refine (sub_lit 83 237 lo b [2, 3] false 83 rfl (by rw [subB_53]; rfl) _ (by exact HT1.out)).mono ?_
  rintro e w2 ⟨rfl, hb2, ht2⟩
  have HB2 := Lib.hid (HB1.out.trans (hb2.mono hlo))
  have HT2 := Lib.hid ht2
  clear ht2 hb2 HT1 HB1
  go_wp2_with fail
  refine (unsub_lit 237 83 lo b [2, 3] true 237 rfl (by rw [unsubB_ed]; rfl) _ (by exact HT2.out)).mono ?_
  rintro e w3 ⟨rfl, hb3, ht3⟩
  have HB3 := Lib.hid (HB2.out.trans (hb3.mono hlo))
  have HT3 := Lib.hid ht3
  clear ht3 hb3 HT2 HB2
  go_wp2_with fail
  refine (times_lit 1 128 155 lo b [2, 3] true 1 3 128 rfl rfl (by decide +kernel) _ (by exact HT3.out) rfl).mono ?_
  rintro e w4 ⟨rfl, hb4, ht4⟩
  have HB4 := Lib.hid (HB3.out.trans (hb4.mono hlo))
  have HT4 := Lib.hid ht4
  clear ht4 hb4 HT3 HB3
  go_wp2_with fail
  refine (times_high_lit 1 lo b [2, 3] true 2 1 rfl _ (by exact HT4.out) (by decide) (by decide)).mono ?_
  rintro e w5 ⟨rfl, hb5, ht5⟩
  have HB5 := Lib.hid (HB4.out.trans (hb5.mono hlo))
  have HT5 := Lib.hid ht5
  clear ht5 hb5 HT4 HB4
  go_wp2_with fail
  refine (mul_lit 87 131 193 87 131 rfl rfl (by decide +kernel) _).mono ?_
  rintro e w6 ⟨rfl, rfl⟩
  go_wp2_with fail
  refine (inv_lit 0 0 0 rfl (by rw [invB_zero]; rfl) _).mono ?_
  rintro e w6 ⟨rfl, rfl⟩
  go_wp2_with fail
  refine (inv_lit 83 (v.toNat : Int) 83 rfl (by rw [HV.out]) _).mono ?_
  rintro e w6 ⟨rfl, rfl⟩
  go_wp2_with fail
  refine (mul_lit (v.toNat : Int) 83 1 v 83 rfl rfl (by rw [HV.out, mulB_comm, mulB_inv 83 (by decide)]; rfl) _).mono ?_
  rintro e w6 ⟨rfl, rfl⟩
  go_wp2_with fail
  refine (pow_lit 2 8 27 2 8 rfl rfl (by omega) (by decide +kernel) _).mono ?_
  rintro e w6 ⟨rfl, rfl⟩
  go_wp2_with fail
  refine (sum_lit 6 _ 4 4 _ [1, 2, 4, 1] _ (by exact RB.lit _ [1, 2, 4, 1] _ 4 _ rfl rfl rfl) (by omega) (by decide +kernel)).mono ?_
  rintro e w6 ⟨rfl, rfl⟩
  go_wp2_with fail
  refine (made_lit 1 lo b [2, 3] true rfl _ (by exact HT5.out.below (below_alloc _ _))).mono ?_
  rintro e w6 ⟨rfl, rfl⟩
  go_wp2_with fail
  go_ret
  exact ⟨rfl, bel_next HB5.out (below_alloc _ _)⟩
end Go.Proofs.Ytkbbbmblimlofaa
