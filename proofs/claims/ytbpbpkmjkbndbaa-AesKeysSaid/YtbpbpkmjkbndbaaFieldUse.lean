/- field's Made, Sub, Unsub and Times at an object of tables. Condition: the object is as New, or an earlier call, left it. -/
import Derived.Test.YtbpbpkmjkbndbaaFieldNew
namespace Go.Proofs.Ytbpbpkmjkbndbaa
open Go.RowKit
set_option linter.unusedVariables false

def madeN (d : Bool) : Int := if d then 1 else 0
set_option maxRecDepth 100000 in
set_option maxHeartbeats 1000000 in
theorem tab_sub (lo b : Nat) (l : List UInt8) (d : Bool) (x : UInt8) (w : World) (h : Tab w lo b l d) :
    Calls Try.prog 44 #[.pointer (some ⟨b, 0, none⟩), .int .u8 (x.toNat : Int)] w (UseTab (.int .u8 ((subB x).toNat : Int)) lo b l w) := by
  have HO := Lib.hid (once_tab lo b l d w h)
  have hmf : ∀ (fn : Fn) (first cap : Array Value) (w : World), (Instr.makeFunc fn first cap).run Try.prog w = .ok (.func fn first cap) w := fun _ _ _ _ => rfl
  have hx := byte_lt x
  have hxl := x.toNat_lt
  clear h
  go_enter Try.func44, Try.ntmps44
  go_wp2_with fail
  refine HO.out.mono ?_
  rintro e w1 ⟨rfl, hb, ht⟩
  have HT := Lib.hid ht
  obtain ⟨f, hlo, hc, hr, h1, h2, h4, hd⟩ := ht
  have hcx := hc.cell (show 5 + x.toNat < 773 by omega)
  rw [(hd rfl).1 x] at hcx
  unfold bv at hcx
  clear hc hd hr h1 h2 h4
  go_wp2_with fail
  go_ret
  exact ⟨rfl, hb, HT.out⟩

set_option maxRecDepth 100000 in
set_option maxHeartbeats 1000000 in
theorem tab_unsub (lo b : Nat) (l : List UInt8) (d : Bool) (x : UInt8) (w : World) (h : Tab w lo b l d) :
    Calls Try.prog 51 #[.pointer (some ⟨b, 0, none⟩), .int .u8 (x.toNat : Int)] w (UseTab (.int .u8 ((unsubB x).toNat : Int)) lo b l w) := by
  have HO := Lib.hid (once_tab lo b l d w h)
  have hmf : ∀ (fn : Fn) (first cap : Array Value) (w : World), (Instr.makeFunc fn first cap).run Try.prog w = .ok (.func fn first cap) w := fun _ _ _ _ => rfl
  have hx := byte_lt x
  have hxl := x.toNat_lt
  clear h
  go_enter Try.func51, Try.ntmps51
  go_wp2_with fail
  refine HO.out.mono ?_
  rintro e w1 ⟨rfl, hb, ht⟩
  have HT := Lib.hid ht
  obtain ⟨f, hlo, hc, hr, h1, h2, h4, hd⟩ := ht
  have hcx := hc.cell (show 261 + x.toNat < 773 by omega)
  rw [(hd rfl).2.1 x] at hcx
  unfold bv at hcx
  clear hc hd hr h1 h2 h4
  go_wp2_with fail
  go_ret
  exact ⟨rfl, hb, HT.out⟩

set_option maxRecDepth 100000 in
set_option maxHeartbeats 1000000 in
theorem tab_times_low (lo b : Nat) (l : List UInt8) (d : Bool) (k : Int) (x : UInt8) (w : World) (h : Tab w lo b l d) (hk : k < 0) (hk2 : -9223372036854775808 ≤ k) :
    Calls Try.prog 65 #[.pointer (some ⟨b, 0, none⟩), .int .i64 k, .int .u8 (x.toNat : Int)] w (UseTab (.tuple #[.int .u8 0, .int .i64 11]) lo b l w) := by
  have HO := Lib.hid (once_tab lo b l d w h)
  have hmf : ∀ (fn : Fn) (first cap : Array Value) (w : World), (Instr.makeFunc fn first cap).run Try.prog w = .ok (.func fn first cap) w := fun _ _ _ _ => rfl
  have hx := byte_lt x
  have hkd : decide (k < 0) = true := decide_eq_true hk
  clear h
  go_enter Try.func65, Try.ntmps65
  go_wp2_with fail
  refine HO.out.mono ?_
  rintro e w1 ⟨rfl, hb, ht⟩
  have HT := Lib.hid ht
  clear ht
  go_wp2_with fail
  go_ret2
  exact ⟨rfl, hb, HT.out⟩

set_option maxRecDepth 100000 in
set_option maxHeartbeats 1000000 in
theorem tab_times_high (lo b : Nat) (l : List UInt8) (d : Bool) (k : Int) (x : UInt8) (w : World) (h : Tab w lo b l d) (hk : (l.length : Int) ≤ k) (hk2 : k ≤ 9223372036854775807) :
    Calls Try.prog 65 #[.pointer (some ⟨b, 0, none⟩), .int .i64 k, .int .u8 (x.toNat : Int)] w (UseTab (.tuple #[.int .u8 0, .int .i64 11]) lo b l w) := by
  have HO := Lib.hid (once_tab lo b l d w h)
  have hmf : ∀ (fn : Fn) (first cap : Array Value) (w : World), (Instr.makeFunc fn first cap).run Try.prog w = .ok (.func fn first cap) w := fun _ _ _ _ => rfl
  have hx := byte_lt x
  have hk0 : decide (k < 0) = false := decide_eq_false (by omega)
  clear h
  go_enter Try.func65, Try.ntmps65
  go_wp2_with fail
  refine HO.out.mono ?_
  rintro e w1 ⟨rfl, hb, ht⟩
  obtain ⟨f, hlo, hc, hr, h1, h2, h4, hd⟩ := ht
  obtain ⟨A, n, c, e0, hn, hby, htm⟩ := hr
  have c0 := hc.cell (show 0 < 773 by omega)
  rw [e0] at c0
  have hkn : decide ((n : Int) ≤ k) = true := decide_eq_true (by have := hby.1; omega)
  have hkn' : (n : Int) ≤ k := by have := hby.1; omega
  have HT : Hid (Tab w1 lo b l true) := Lib.hid ⟨f, hlo, hc, ⟨A, n, c, e0, hn, hby, htm⟩, h1, h2, h4, hd⟩
  clear hc hby htm h1 h2 h4 hd e0 hk
  go_wp2_with fail
  go_ret2
  exact ⟨rfl, hb, HT.out⟩

set_option maxRecDepth 100000 in
set_option maxHeartbeats 2000000 in
theorem tab_times (lo b : Nat) (l : List UInt8) (d : Bool) (k : Nat) (y x : UInt8) (w : World) (h : Tab w lo b l d) (hk : l[k]? = some y) :
    Calls Try.prog 65 #[.pointer (some ⟨b, 0, none⟩), .int .i64 (k : Int), .int .u8 (x.toNat : Int)] w (UseTab (.tuple #[.int .u8 ((mulB y x).toNat : Int), .int .i64 0]) lo b l w) := by
  have HO := Lib.hid (once_tab lo b l d w h)
  have hmf : ∀ (fn : Fn) (first cap : Array Value) (w : World), (Instr.makeFunc fn first cap).run Try.prog w = .ok (.func fn first cap) w := fun _ _ _ _ => rfl
  have hx := byte_lt x
  have hxl := x.toNat_lt
  have hy := byte_lt y
  have hyl := y.toNat_lt
  have hkl := (List.getElem?_eq_some_iff.1 hk).1
  have HK := Lib.hid hk
  have hk47 : k < 140737488355328 := by
    obtain ⟨f, _, _, ⟨A0, n0, c0, _, hn0, hby0, _⟩, _⟩ := h
    have := hby0.1
    omega
  have hk0 : decide ((k : Int) < 0) = false := decide_eq_false (by omega)
  clear h hk
  go_enter Try.func65, Try.ntmps65
  go_wp2_with fail
  refine HO.out.mono ?_
  rintro e w1 ⟨rfl, hb, ht⟩
  obtain ⟨f, hlo, hc, hr, h1, h2, h4, hd⟩ := ht
  obtain ⟨A, n, c, e0, hn, hby, htm⟩ := hr
  have c0 := hc.cell (show 0 < 773 by omega)
  rw [e0] at c0
  have hkn : k < n := by have := hby.1; omega
  obtain ⟨g, rfl, hg1, hg2, hcl⟩ := hby.2 (by omega)
  have hck := hcl.cell hkn
  rw [show l.getD k 0 = y by simp [List.getD, HK.out]] at hck
  have hrow := htm y.toNat hyl
  rw [show UInt8.ofNat y.toNat = y by simp] at hrow
  have hcy := hc.cell (show 517 + y.toNat < 773 by omega)
  rcases hrow with hrow | ⟨p, hrow, hp1, hp2, hp3⟩
  · exact absurd hrow ((hd rfl).2.2 y (List.mem_of_getElem? HK.out))
  rw [hrow] at hcy
  have hpx := hp3.cell (show x.toNat < 256 by omega)
  unfold prodAt at hpx
  rw [if_pos (by omega), show UInt8.ofNat x.toNat = x by simp] at hpx
  unfold bv at hck hpx
  have HT : Hid (Tab w1 lo b l true) := Lib.hid ⟨f, hlo, hc, ⟨_, n, c, e0, hn, hby, htm⟩, h1, h2, h4, hd⟩
  have hkd : decide ((n : Int) ≤ (k : Int)) = false := decide_eq_false (by omega)
  have hkd2 : decide (n ≤ k) = false := decide_eq_false (by omega)
  clear hc hby htm h1 h2 h4 hd e0 hcl hp3 hrow hkl
  go_wp2_with fail
  go_quiet (fail)
  go_wp2_with fail
  go_ret2
  exact ⟨rfl, below_drewN hb _, HT.out⟩
end Go.Proofs.Ytbpbpkmjkbndbaa
