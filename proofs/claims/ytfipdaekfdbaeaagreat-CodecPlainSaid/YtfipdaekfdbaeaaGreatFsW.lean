/- What a walk with a cipher and rows of bytes carries. No conditions; nothing is claimed of the program here. -/
import Derived.Test.YtfipdaekfdbaeaaGreatObK
import Derived.Test.YtfipdaekfdbaeaaGreatHvV
import Derived.Test.YtfipdaekfdbaeaaGreatIntM
namespace Go.Proofs.YtfipdaekfdbaeaaGreat
open Go.RowKit
set_option linter.unusedVariables false
set_option linter.unusedSimpArgs false
/-- A cipher that was there in v already, or from v on; only its own calls have changed what was there in v; rows of bytes that lie elsewhere. -/
structure CW (v : World) (cb b lo : Nat) (key : List UInt8) (m : Nat) (rows : List (Option Addr × Nat × Nat × List UInt8)) (w : World) : Prop where
  but : But cb v w
  lt : cb < v.heap.size
  ob : Ob cb b lo key m w
  row : ∀ r ∈ rows, RB w w.heap.size r.1 r.2.1 r.2.2.2 ∧ (r.2.1 ≤ r.2.2.1 ∧ r.2.2.1 ≤ maxLen) ∧ (0 < r.2.1 → Away r.1 cb)
/-- What calls with a cipher give: bytes, an error's number, the cipher. -/
def RetM (n : Nat) (a : List UInt8) (code : Int) (key : List UInt8) (cb b0 lo m : Nat) (w : World) (e : Ending) (w' : World) : Prop :=
  ∃ A c, e = .returned (.tuple #[.slice A n c, .int .i64 code]) ∧ OwnB w' w.heap.size A n c a ∧ But cb w w' ∧ Ob cb b0 lo key m w'
def RetP (a b : List UInt8) (code : Int) (key : List UInt8) (cb b0 lo m : Nat) (w : World) (e : Ending) (w' : World) : Prop :=
  ∃ A n c A' n' c', e = .returned (.tuple #[.slice A n c, .slice A' n' c', .int .i64 code]) ∧ OwnB w' w.heap.size A n c a ∧ OwnB w' w.heap.size A' n' c' b ∧ But cb w w' ∧ Ob cb b0 lo key m w'
section
variable {v w w' : World} {cb b lo m m' : Nat} {key : List UInt8} {rows : List (Option Addr × Nat × Nat × List UInt8)} {A A2 : Option Addr} {n c n2 c2 B : Nat} {l l2 : List UInt8} {o : List Int}
theorem CW.here (k : CW v cb b lo key m rows w) : cb < w.heap.size := Nat.lt_of_lt_of_le k.lt k.but.size
theorem CW.start (h : Ob cb b lo key m w) : CW w cb b lo key m [] w := ⟨But.refl _ _, h.lt, h, fun r hr => by cases hr⟩
theorem CW.step (k : CW v cb b lo key m rows w) (hb : Below w.heap.size w w') : CW v cb b lo key m rows w' :=
  ⟨k.but.trans (But.of_below hb), k.lt, k.ob.below hb, fun r hr => ⟨(k.row r hr).1.step hb, (k.row r hr).2⟩⟩
theorem CW.call (k : CW v cb b lo key m rows w) (hb : But cb w w') (ho : Ob cb b lo key m' w') : CW v cb b lo key m' rows w' :=
  ⟨k.but.trans hb, k.lt, ho, fun r hr => ⟨(k.row r hr).1.asd hb (k.row r hr).2.2, (k.row r hr).2⟩⟩
theorem CW.add (k : CW v cb b lo key m rows w) (h : RB w w.heap.size A n l) (h1 : n ≤ c ∧ c ≤ maxLen) (h2 : 0 < n → Away A cb) : CW v cb b lo key m ((A, n, c, l) :: rows) w := ⟨k.but, k.lt, k.ob, fun r hr => by
  rcases List.mem_cons.1 hr with rfl | hr
  · exact ⟨h, h1, h2⟩
  · exact k.row r hr⟩
theorem CW.put (k : CW v cb b lo key m rows w) (ho : OwnB w B A n c l) (hB : cb < B) : CW v cb b lo key m ((A, n, c, l) :: rows) w := k.add ho.rb ho.cap (fun _ => ho.far hB)
theorem CW.own (k : CW v cb b lo key m rows w) (hb : Below w.heap.size w w') (ho : OwnB w' w.heap.size A n c l) : CW v cb b lo key m ((A, n, c, l) :: rows) w' := (k.step hb).put ho k.here
theorem CW.own2 (k : CW v cb b lo key m rows w) (hb : Below w.heap.size w w') (ho : OwnB w' w.heap.size A n c l) (ho2 : OwnB w' w.heap.size A2 n2 c2 l2) : CW v cb b lo key m ((A2, n2, c2, l2) :: (A, n, c, l) :: rows) w' := (k.own hb ho).put ho2 k.here
theorem CW.ret (k : CW v cb b lo key m rows w) (hb : But cb w w') (hob : Ob cb b lo key m' w') (ho : OwnB w' w.heap.size A n c l) : CW v cb b lo key m' ((A, n, c, l) :: rows) w' := (k.call hb hob).put ho k.here
theorem CW.ret2 (k : CW v cb b lo key m rows w) (hb : But cb w w') (hob : Ob cb b lo key m' w') (ho : OwnB w' w.heap.size A n c l) (ho2 : OwnB w' w.heap.size A2 n2 c2 l2) : CW v cb b lo key m' ((A2, n2, c2, l2) :: (A, n, c, l) :: rows) w' := (k.ret hb hob ho).put ho2 k.here
theorem CW.lit (k : CW v cb b lo key m rows w) (ls : List UInt8) (cs : Array Value) (n : Nat) (hc : cs = (bvs ls).toArray) (hn : ls.length = n) (hm : n ≤ maxLen) : CW v cb b lo key m ((some ⟨w.heap.size, 0, none⟩, n, n, ls) :: rows) (w.alloc (.cells cs 5)) :=
  (k.step (below_alloc w _)).add (RB.lit w ls cs n w.heap.size hc hn rfl) ⟨Nat.le_refl _, hm⟩ (fun _ g o e => by have := k.here; injection e with e; injection e with e; omega)
/-- Fewer rows. -/
theorem CW.few {rows2 : List (Option Addr × Nat × Nat × List UInt8)} (k : CW v cb b lo key m rows w) (h : ∀ r ∈ rows2, r ∈ rows) : CW v cb b lo key m rows2 w := ⟨k.but, k.lt, k.ob, fun r hr => k.row r (h r hr)⟩
/-- At the end: only what the walk made itself has changed. -/
theorem CW.bel {u : World} (k : CW v cb b lo key m rows w) (h : Below u.heap.size u v) (hc : u.heap.size ≤ cb) : Below u.heap.size u w := h.trans (k.but.below hc k.lt)
/-- A cipher that a walk over rows makes. -/
theorem HW.cip {u : World} (k : HW u rows v) (hb : Below v.heap.size v w) (hc : v.heap.size ≤ cb) (ho : Ob cb b lo key 0 w) : CW w cb b lo key 0 rows w :=
  ⟨But.refl _ _, ho.lt, ho, fun r hr => ⟨(k.row r hr).1.step hb, (k.row r hr).2, fun hn => (k.row r hr).1.far hn hc⟩⟩
theorem ZL.asd (h : ZL w w.heap.size A n o) (hb : But cb w w') (ha : 0 < n → Away A cb) : ZL w' w'.heap.size A n o :=
  ⟨h.1, fun hn => by
    obtain ⟨g, q, e, hg, hc⟩ := h.2.1 hn
    exact ⟨g, q, e, Nat.lt_of_lt_of_le hg hb.size, fun i hi => (hb.cell (p := ⟨g, q + i, none⟩) hg (ha hn g q e)).trans (hc i hi)⟩, h.2.2⟩
theorem ZL.far (h : ZL w B A n o) (hn : 0 < n) (hb : B ≤ cb) : Away A cb := fun g q e => by
  obtain ⟨g2, o2, e2, hg, _⟩ := h.2.1 hn
  rw [e] at e2
  injection e2 with e2
  injection e2 with e2
  omega
theorem OwnZ.but (h : OwnZ w B A n c o) (hb : But cb w w') (hc : cb < B) : OwnZ w' B A n c o := by
  refine ⟨⟨h.1.1, ?_⟩, h.2⟩
  rcases h.1.2 with h0 | ⟨g, cap, cur, hv, hbg, hh, r⟩
  · exact .inl h0
  · exact .inr ⟨g, cap, cur, hv, hbg, (hb.block g (Array.getElem?_eq_some_iff.1 hh).1 (by omega)).trans hh, r⟩
theorem OwnZ.far (h : OwnZ w B A n c o) (hb : cb < B) : Away A cb := fun g q e => by
  subst e
  have := (World.ownsRow.lt h.1 g rfl).1
  omega
/-- What an append to a row of the walk's own leaves. -/
theorem CW.grow {row : Option Nat} {m0 : Nat} (k : CW v cb b lo key m rows w) (hv : Ob cb b lo key m0 v) (hb : Below v.heap.size w w') (hg : w.grownBy w' row) (ha : ∀ r ∈ rows, ∀ g, row = some g → Away r.1 g) : CW v cb b lo key m rows w' :=
  ⟨k.but.behind hb, k.lt, hv.hold2 k.but k.ob hb, fun r hr => ⟨(k.row r hr).1.grew hg (ha r hr), (k.row r hr).2⟩⟩
/-- The same cipher and rows from a later world on. -/
theorem CW.now (k : CW v cb b lo key m rows w) : CW w cb b lo key m rows w := ⟨But.refl _ _, k.here, k.ob, k.row⟩
/-- What an earlier walk carried, at the end of a later one. -/
theorem CW.over {rows2 : List (Option Addr × Nat × Nat × List UInt8)} {u : World} {m2 : Nat} (k : CW v cb b lo key m rows u) (k2 : CW u cb b lo key m2 rows2 w) : CW v cb b lo key m2 (rows2 ++ rows) w :=
  ⟨k.but.trans k2.but, k.lt, k2.ob, fun r hr => (List.mem_append.1 hr).elim (fun h => k2.row r h) (fun h => ⟨(k.row r h).1.asd k2.but (k.row r h).2.2, (k.row r h).2⟩)⟩
end
end Go.Proofs.YtfipdaekfdbaeaaGreat
