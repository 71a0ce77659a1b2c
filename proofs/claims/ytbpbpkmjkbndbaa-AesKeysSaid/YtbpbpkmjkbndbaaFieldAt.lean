/- field's Sub, Unsub and Times at an object of tables, more closely: every other block is as it was, and where the tables were filled nothing is written. Condition: the object is as New, or an earlier call, left it. -/
import Derived.Test.YtbpbpkmjkbndbaaFieldUse
import Derived.Test.YtbpbpkmjkbndbaaArr
namespace Go.Proofs.Ytbpbpkmjkbndbaa
open Go.RowKit
set_option linter.unusedVariables false

/-- A block without a fifth cell is none of those that an object of five bytes' tables, or more, leads to. -/
theorem Tab.apart {w w' : World} {lo b : Nat} {l : List UInt8} {d : Bool} (h : Tab w lo b l d) (hl : 5 ≤ l.length) {g : Nat} (hg : ¬ ∃ x : UInt8, w.cell? ⟨g, 4, none⟩ = some (bv x)) (hb : g ≠ b) (ho : ∀ k, k ≠ g → w'.heap[k]? = w.heap[k]?) : Tab w' lo b l d := by
  obtain ⟨f, hlo, hc, ⟨A, n, c, e0, hn, ⟨hll, hby⟩, htm⟩, h1, h2, h4, hd⟩ := h
  have keep : ∀ q m F, q ≠ g → Cells w q m F → Cells w' q m F := fun q m F hq hcl j hj => ⟨(World.cell?_of_block (ho q hq)).trans (hcl j hj).1, (World.frozen?_of_block (ho q hq)).trans (hcl j hj).2⟩
  refine ⟨f, hlo, keep b 773 f (fun e => hb e.symm) hc, ⟨A, n, c, e0, hn, ⟨hll, fun hn0 => ?_⟩, fun y hy => ?_⟩, h1, h2, h4, hd⟩
  · obtain ⟨q, q1, q2, q3, q4⟩ := hby hn0
    refine ⟨q, q1, q2, q3, keep q n _ (fun e => hg ⟨l.getD 4 0, ?_⟩) q4⟩
    have := q4.cell (show 4 < n by omega)
    rw [e] at this
    exact this
  · rcases htm y hy with h | ⟨p, p1, p2, p3, p4⟩
    · exact .inl h
    · refine .inr ⟨p, p1, p2, p3, keep p 256 _ (fun e => hg ⟨mulB (UInt8.ofNat y) (UInt8.ofNat 4), ?_⟩) p4⟩
      have := p4.cell (show 4 < 256 by omega)
      rw [e] at this
      rw [this]
      unfold prodAt
      rw [if_pos (by omega)]
theorem Tab.lt {w : World} {lo b : Nat} {l : List UInt8} {d : Bool} (h : Tab w lo b l d) : b < w.heap.size := by
  obtain ⟨f, hlo, hc, _⟩ := h
  exact hc.lt (by omega)
theorem UseAt.val {v v' : Value} {lo b : Nat} {l : List UInt8} {d : Bool} {w w' : World} {e : Ending} (h : UseAt v lo b l d w e w') : e = .returned v := h.1

set_option maxRecDepth 100000 in
set_option maxHeartbeats 1000000 in
theorem at_sub (lo b : Nat) (l : List UInt8) (d : Bool) (x : UInt8) (w : World) (h : Tab w lo b l d) :
    Calls Try.prog 44 #[.pointer (some ⟨b, 0, none⟩), .int .u8 (x.toNat : Int)] w (UseAt (.int .u8 ((subB x).toNat : Int)) lo b l d w) := by
  have HO := Lib.hid (once_at lo b l d w h)
  have hmf : ∀ (fn : Fn) (first cap : Array Value) (w : World), (Instr.makeFunc fn first cap).run Try.prog w = .ok (.func fn first cap) w := fun _ _ _ _ => rfl
  have hx := byte_lt x
  have hxl := x.toNat_lt
  clear h
  go_enter Try.func44, Try.ntmps44
  go_wp2_with fail
  refine HO.out.mono ?_
  rintro e w1 ⟨rfl, hb, ht, hp⟩
  have HP := Lib.hid hp
  clear hp
  have HT := Lib.hid ht
  obtain ⟨f, hlo, hc, hr, h1, h2, h4, hd⟩ := ht
  have hcx := hc.cell (show 5 + x.toNat < 773 by omega)
  rw [(hd rfl).1 x] at hcx
  unfold bv at hcx
  clear hc hd hr h1 h2 h4
  go_wp2_with fail
  go_ret
  exact ⟨rfl, hb, HT.out, HP.out⟩
set_option maxRecDepth 100000 in
set_option maxHeartbeats 1000000 in
theorem at_unsub (lo b : Nat) (l : List UInt8) (d : Bool) (x : UInt8) (w : World) (h : Tab w lo b l d) :
    Calls Try.prog 51 #[.pointer (some ⟨b, 0, none⟩), .int .u8 (x.toNat : Int)] w (UseAt (.int .u8 ((unsubB x).toNat : Int)) lo b l d w) := by
  have HO := Lib.hid (once_at lo b l d w h)
  have hmf : ∀ (fn : Fn) (first cap : Array Value) (w : World), (Instr.makeFunc fn first cap).run Try.prog w = .ok (.func fn first cap) w := fun _ _ _ _ => rfl
  have hx := byte_lt x
  have hxl := x.toNat_lt
  clear h
  go_enter Try.func51, Try.ntmps51
  go_wp2_with fail
  refine HO.out.mono ?_
  rintro e w1 ⟨rfl, hb, ht, hp⟩
  have HP := Lib.hid hp
  clear hp
  have HT := Lib.hid ht
  obtain ⟨f, hlo, hc, hr, h1, h2, h4, hd⟩ := ht
  have hcx := hc.cell (show 261 + x.toNat < 773 by omega)
  rw [(hd rfl).2.1 x] at hcx
  unfold bv at hcx
  clear hc hd hr h1 h2 h4
  go_wp2_with fail
  go_ret
  exact ⟨rfl, hb, HT.out, HP.out⟩
set_option maxRecDepth 100000 in
set_option maxHeartbeats 2000000 in
theorem at_times (lo b : Nat) (l : List UInt8) (d : Bool) (k : Nat) (y x : UInt8) (w : World) (h : Tab w lo b l d) (hk : l[k]? = some y) :
    Calls Try.prog 65 #[.pointer (some ⟨b, 0, none⟩), .int .i64 (k : Int), .int .u8 (x.toNat : Int)] w (UseAt (.tuple #[.int .u8 ((mulB y x).toNat : Int), .int .i64 0]) lo b l d w) := by
  have HO := Lib.hid (once_at lo b l d w h)
  have hmf : ∀ (fn : Fn) (first cap : Array Value) (w : World), (Instr.makeFunc fn first cap).run Try.prog w = .ok (.func fn first cap) w := fun _ _ _ _ => rfl
  have hx := byte_lt x
  have hxl := x.toNat_lt
  have hy := byte_lt y
  have hyl := y.toNat_lt
  have hkl := (List.getElem?_eq_some_iff.1 hk).1
  have HK := Lib.hid hk
  have hk47 : k < 140737488355328 := by
    obtain ⟨f, _, _, ⟨A0, n0, c0, _, hn0, hby0, _⟩, _⟩ := h
    have := hby0.1
    omega
  have hk0 : decide ((k : Int) < 0) = false := decide_eq_false (by omega)
  clear h hk
  go_enter Try.func65, Try.ntmps65
  go_wp2_with fail
  refine HO.out.mono ?_
  rintro e w1 ⟨rfl, hb, ht, hp⟩
  have HP := Lib.hid hp
  clear hp
  obtain ⟨f, hlo, hc, hr, h1, h2, h4, hd⟩ := ht
  obtain ⟨A, n, c, e0, hn, hby, htm⟩ := hr
  have c0 := hc.cell (show 0 < 773 by omega)
  rw [e0] at c0
  have hkn : k < n := by have := hby.1; omega
  obtain ⟨g, rfl, hg1, hg2, hcl⟩ := hby.2 (by omega)
  have hck := hcl.cell hkn
  rw [show l.getD k 0 = y by simp [List.getD, HK.out]] at hck
  have hrow := htm y.toNat hyl
  rw [show UInt8.ofNat y.toNat = y by simp] at hrow
  have hcy := hc.cell (show 517 + y.toNat < 773 by omega)
  rcases hrow with hrow | ⟨p, hrow, hp1, hp2, hp3⟩
  · exact absurd hrow ((hd rfl).2.2 y (List.mem_of_getElem? HK.out))
  rw [hrow] at hcy
  have hpx := hp3.cell (show x.toNat < 256 by omega)
  unfold prodAt at hpx
  rw [if_pos (by omega), show UInt8.ofNat x.toNat = x by simp] at hpx
  unfold bv at hck hpx
  have HT : Hid (Tab w1 lo b l true) := Lib.hid ⟨f, hlo, hc, ⟨_, n, c, e0, hn, hby, htm⟩, h1, h2, h4, hd⟩
  have hkd : decide ((n : Int) ≤ (k : Int)) = false := decide_eq_false (by omega)
  have hkd2 : decide (n ≤ k) = false := decide_eq_false (by omega)
  clear hc hby htm h1 h2 h4 hd e0 hcl hp3 hrow hkl
  go_wp2_with fail
  go_quiet (fail)
  go_wp2_with fail
  go_ret2
  exact ⟨rfl, hb.drewN _, HT.out, fun hd => below_drewN (HP.out hd) _⟩
end Go.Proofs.Ytbpbpkmjkbndbaa
