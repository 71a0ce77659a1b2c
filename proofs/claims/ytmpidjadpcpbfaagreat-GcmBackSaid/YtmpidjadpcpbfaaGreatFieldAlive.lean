/- crosswaylaw02's alive answers true. No conditions. -/
import Derived.Test.YtmpidjadpcpbfaaGreatFieldObj
namespace Go.Proofs.YtmpidjadpcpbfaaGreat
open Go.RowKit
set_option linter.unusedVariables false

theorem Tab.keep {w w' : World} {lo b : Nat} {l : List UInt8} {d : Bool} (h : Tab w lo b l d) (hk : ∀ g n f, lo ≤ g → 0 < n → Cells w g n f → Cells w' g n f) : Tab w' lo b l d := by
  obtain ⟨f, hlo, hc, hr, h1, h2, h4, hd⟩ := h
  exact ⟨f, hlo, hk b 773 f hlo (by omega) hc, hr.keep (fun g n f hg _ hn hc => hk g n f hg hn hc) rfl (fun _ _ => rfl), h1, h2, h4, hd⟩
theorem Tab.below {w w' : World} {lo b : Nat} {l : List UInt8} {d : Bool} (h : Tab w lo b l d) (hb : Below w.heap.size w w') : Tab w' lo b l d :=
  h.keep fun g n f _ hn hc => hc.below hb (hc.lt hn)
/-- A pure call whose answer is known as a number. -/
def RetI (k : IntKind) (z : Int) (w : World) (e : Ending) (w' : World) : Prop := e = .returned (.int k z) ∧ w = w'
theorem mul_lit (X Y Z : Int) (x y : UInt8) (hx : (x.toNat : Int) = X) (hy : (y.toNat : Int) = Y) (hz : ((mulB x y).toNat : Int) = Z) (w : World) :
    Calls Tryz.prog 97 #[.int .u8 X, .int .u8 Y] w (RetI .u8 Z w) := by subst hx; subst hy; subst hz; exact mul_any x y w
theorem inv_lit (X Z : Int) (x : UInt8) (hx : (x.toNat : Int) = X) (hz : ((invB x).toNat : Int) = Z) (w : World) :
    Calls Tryz.prog 110 #[.int .u8 X] w (RetI .u8 Z w) := by subst hx; subst hz; exact inv_any x w
theorem pow_lit (X N Z : Int) (x : UInt8) (n : Nat) (hx : (x.toNat : Int) = X) (hn : (n : Int) = N) (hm : n ≤ 18446744073709551615) (hz : ((powN x n).toNat : Int) = Z) (w : World) :
    Calls Tryz.prog 88 #[.int .u8 X, .int .u64 N] w (RetI .u8 Z w) := by subst hx; subst hn; subst hz; exact pow_any x n w hm
theorem sum_lit (Z : Int) (A : Option Addr) (n c B : Nat) (l : List UInt8) (w : World) (h : RB w B A n l) (hn : n ≤ 140737488355328) (hz : ((sumL l).toNat : Int) = Z) :
    Calls Tryz.prog 87 #[.slice A n c] w (RetI .u8 Z w) := by subst hz; exact sum_any A n c B l w h (by unfold maxLen; omega)
theorem sub_lit (X Z : Int) (lo b : Nat) (l : List UInt8) (d : Bool) (x : UInt8) (hx : (x.toNat : Int) = X) (hz : ((subB x).toNat : Int) = Z) (w : World) (h : Tab w lo b l d) :
    Calls Tryz.prog 64 #[.pointer (some ⟨b, 0, none⟩), .int .u8 X] w (UseTab (.int .u8 Z) lo b l w) := by subst hx; subst hz; exact tab_sub lo b l d x w h
theorem times_lit (K X Z : Int) (lo b : Nat) (l : List UInt8) (d : Bool) (k : Nat) (y x : UInt8) (hk : (k : Int) = K) (hx : (x.toNat : Int) = X) (hz : ((mulB y x).toNat : Int) = Z) (w : World) (h : Tab w lo b l d) (hl : l[k]? = some y) :
    Calls Tryz.prog 102 #[.pointer (some ⟨b, 0, none⟩), .int .i64 K, .int .u8 X] w (UseTab (.tuple #[.int .u8 Z, .int .i64 0]) lo b l w) := by subst hk; subst hx; subst hz; exact tab_times lo b l d k y x w h hl
theorem times_high_lit (X : Int) (lo b : Nat) (l : List UInt8) (d : Bool) (k : Int) (x : UInt8) (hx : (x.toNat : Int) = X) (w : World) (h : Tab w lo b l d) (hk : (l.length : Int) ≤ k) (hk2 : k ≤ 9223372036854775807) :
    Calls Tryz.prog 102 #[.pointer (some ⟨b, 0, none⟩), .int .i64 k, .int .u8 X] w (UseTab (.tuple #[.int .u8 0, .int .i64 11]) lo b l w) := by subst hx; exact tab_times_high lo b l d k x w h hk hk2
end Go.Proofs.YtmpidjadpcpbfaaGreat
