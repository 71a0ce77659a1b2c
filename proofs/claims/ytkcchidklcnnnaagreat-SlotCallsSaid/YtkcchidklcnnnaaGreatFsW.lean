/- Ints in memory: rows that come in, rows that a call makes. Nothing is claimed of the program here. -/
import Derived.Test.YtkcchidklcnnnaaGreatBytes
import Derived.Test.YtkcchidklcnnnaaGreatAesAll
import Derived.Test.YtkcchidklcnnnaaGreatHvV
namespace Go.Proofs.YtkcchidklcnnnaaGreat
open Go.RowKit
set_option linter.unusedVariables false
set_option linter.unusedSimpArgs false

/-- An int as a cell. -/
def zv (x : Int) : Value := .int .i64 x
def zvs (l : List Int) : List Value := l.map zv
/-- The slice value with address A and length n reads as the ints l in the world w; its cells lie below block B. -/
def ZL (w : World) (B : Nat) (A : Option Addr) (n : Nat) (l : List Int) : Prop :=
  l.length = n ∧ (0 < n → ∃ b o, A = some ⟨b, o, none⟩ ∧ b < B ∧ ∀ i (h : i < l.length), w.cell? ⟨b, o + i, none⟩ = some (.int .i64 l[i])) ∧ ∀ x ∈ l, -9223372036854775808 ≤ x ∧ x ≤ 9223372036854775807
section
variable {w w' : World} {B B' n : Nat} {A : Option Addr} {l : List Int}
theorem ZL.len (h : ZL w B A n l) : l.length = n := h.1
theorem ZL.nil_ : ZL w B A 0 [] := ⟨rfl, fun h => absurd h (by omega), by simp⟩
theorem ZL.at_ {k : Nat} (h : ZL w B A n l) (hk : k < n) : ∃ b o, A = some ⟨b, o, none⟩ ∧ b < B ∧ ∃ x : Int, l[k]? = some x ∧ (-9223372036854775808 ≤ x ∧ x ≤ 9223372036854775807) ∧ w.cell? ⟨b, o + k, none⟩ = some (.int .i64 x) := by
  obtain ⟨b, o, e, hb, hc⟩ := h.2.1 (by omega)
  have hl : k < l.length := by rw [h.1]; exact hk
  exact ⟨b, o, e, hb, l[k], List.getElem?_eq_getElem hl, h.2.2 _ (List.getElem_mem _), hc k hl⟩
theorem ZL.below (h : ZL w B A n l) (hb : Below B w w') : ZL w' B A n l :=
  ⟨h.1, fun hn => by
    obtain ⟨b, o, e, hbb, hc⟩ := h.2.1 hn
    exact ⟨b, o, e, hbb, fun i hi => (hb.cell hbb).trans (hc i hi)⟩, h.2.2⟩
theorem ZL.more (h : ZL w B A n l) (hB : B ≤ B') : ZL w B' A n l :=
  ⟨h.1, fun hn => by
    obtain ⟨b, o, e, hb, hc⟩ := h.2.1 hn
    exact ⟨b, o, e, by omega, hc⟩, h.2.2⟩
theorem ZL.step (h : ZL w w.heap.size A n l) (hb : Below w.heap.size w w') : ZL w' w'.heap.size A n l := (h.below hb).more hb.size
end
theorem ZL.lit (w : World) (l : List Int) (cs : Array Value) (n g : Nat) (e : TypeId) (hc : cs = (zvs l).toArray) (hn : l.length = n) (hg : g = w.heap.size) (hl : ∀ x ∈ l, -9223372036854775808 ≤ x ∧ x ≤ 9223372036854775807) : ZL (w.alloc (.cells cs e)) (w.alloc (.cells cs e)).heap.size (some ⟨g, 0, none⟩) n l := by
  subst hc
  subst hg
  refine ⟨hn, fun h0 => ⟨_, 0, rfl, by show w.heap.size < (w.heap.push _).size; rw [Array.size_push]; omega, fun i hi => ?_⟩, hl⟩
  rw [cell_of_row (w.alloc (.cells (zvs l).toArray e)) w.heap.size (0 + i) _ e (0, 0) (heap_alloc_new w _)]
  simp [zvs, zv, hi]
/-- The slice value (A, n, c) owns the ints l: it is nil and empty, or begins a row that the call made (block base or later). -/
def OwnZ (w : World) (base : Nat) (A : Option Addr) (n c : Nat) (l : List Int) : Prop := w.ownsRow base 3 1 (.slice A n c) n (zvs l) ∧ ∀ x ∈ l, -9223372036854775808 ≤ x ∧ x ≤ 9223372036854775807
section
variable {w w' : World} {base n c : Nat} {A : Option Addr} {l : List Int}
theorem OwnZ.zl (h : OwnZ w base A n c l) : ZL w w.heap.size A n l := by
  have h1 := h.1
  have hl : l.length = n := by have := h1.1; simpa [zvs] using this
  refine ⟨hl, fun hn => ?_, h.2⟩
  rcases h1.2 with ⟨_, h0⟩ | ⟨g, cap, cur, hv, hbg, hh, _⟩
  · omega
  · have hA : A = some ⟨g, 0, none⟩ := by injection hv
    subst hA
    refine ⟨g, 0, rfl, (Array.getElem?_eq_some_iff.1 hh).1, fun i hi => ?_⟩
    have := h1.cells (g := g) rfl i (zv l[i]) (by simp [zvs, List.getElem?_eq_getElem hi])
    have hadd : (⟨g, 0, none⟩ : Addr).add i = ⟨g, 0 + i, none⟩ := by unfold Addr.add; split <;> simp_all
    rw [hadd] at this
    exact this
theorem OwnZ.len (h : OwnZ w base A n c l) : l.length = n := h.zl.len
theorem OwnZ.cap (h : OwnZ w base A n c l) : n ≤ c ∧ c ≤ maxLen := by
  rcases h.1.2 with ⟨hv, h0⟩ | ⟨g, cap, cur, hv, _, _, hnc, hcm, _⟩
  · injection hv with _ _ hc; subst hc; subst h0; exact ⟨Nat.le_refl _, Nat.zero_le _⟩
  · injection hv with _ _ hc; subst hc; exact ⟨hnc, hcm⟩
theorem OwnZ.nil_ (w : World) (base : Nat) : OwnZ w base none 0 0 [] := ⟨World.ownsRow_nil w base _ 1, by simp⟩
theorem OwnZ.base_le {base' : Nat} (h : OwnZ w base A n c l) (hb : base' ≤ base) : OwnZ w base' A n c l := by
  refine ⟨⟨h.1.1, ?_⟩, h.2⟩
  rcases h.1.2 with h0 | ⟨g, cap, cur, hv, hbg, r⟩
  · exact .inl h0
  · exact .inr ⟨g, cap, cur, hv, by omega, r⟩
theorem OwnZ.below (h : OwnZ w base A n c l) (hb : Below w.heap.size w w') : OwnZ w' base A n c l := by
  refine ⟨⟨h.1.1, ?_⟩, h.2⟩
  rcases h.1.2 with h0 | ⟨g, cap, cur, hv, hbg, hh, r⟩
  · exact .inl h0
  · exact .inr ⟨g, cap, cur, hv, hbg, (hb.block g (Array.getElem?_eq_some_iff.1 hh).1).trans hh, r⟩
theorem OwnZ.lit (w : World) (base : Nat) (l : List Int) (cs : Array Value) (n : Nat) (hc : cs = (zvs l).toArray) (hn : l.length = n) (hm : n ≤ maxLen) (hb : base ≤ w.heap.size) (hl : ∀ x ∈ l, -9223372036854775808 ≤ x ∧ x ≤ 9223372036854775807) :
    OwnZ (w.alloc (.cells cs 3)) base (some ⟨w.heap.size, 0, none⟩) n n l := by
  subst hc
  have := World.ownsRow_lit (size := 1) (base := base) (e := 3) w (zvs l).toArray n hb hm (by simp [zvs, hn])
  exact ⟨by simpa using this, hl⟩
end
theorem OwnZ.drew {w : World} {base n c : Nat} {A : Option Addr} {l : List Int} (h : OwnZ w base A n c l) : OwnZ w.drew base A n c l := h
theorem ZL.drew {w : World} {B n : Nat} {A : Option Addr} {l : List Int} (h : ZL w B A n l) : ZL w.drew B A n l := h
theorem OwnZ.alloc {w : World} {base n c : Nat} {A : Option Addr} {l : List Int} (h : OwnZ w base A n c l) (o : Obj) : OwnZ (w.alloc o) base A n c l := ⟨World.ownsRow.alloc h.1 o, h.2⟩
end Go.Proofs.YtkcchidklcnnnaaGreat

/- A cipher whose calls count, and rows of bytes beside it: what each leaves of the other. No conditions; nothing is claimed of the program here. -/
namespace Go.Proofs.YtkcchidklcnnnaaGreat
open Go.RowKit
set_option linter.unusedVariables false
set_option linter.unusedSimpArgs false
section
variable {w w1 w3 w4 w' : World} {base n c cb b lo : Nat} {A : Option Addr} {l key : List UInt8}
theorem But.behind (h : But b w w1) (k : Below w.heap.size w1 w') : But b w w' := ⟨k.os.trans h.os, k.tape.trans h.tape, k.output.trans h.output, Nat.le_trans h.size k.size, fun i hi hb => (k.block i hi).trans (h.block i hi hb)⟩
theorem OwnB.but (h : OwnB w base A n c l) (hb : But cb w w') (hc : cb < base) : OwnB w' base A n c l := by
  refine ⟨h.1, ?_⟩
  rcases h.2 with h0 | ⟨g, cap, cur, hv, hbg, hh, r⟩
  · exact .inl h0
  · exact .inr ⟨g, cap, cur, hv, hbg, (hb.block g (Array.getElem?_eq_some_iff.1 hh).1 (by omega)).trans hh, r⟩
theorem OwnB.far (h : OwnB w base A n c l) (hb : cb < base) : Away A cb := fun g o e => by
  subst e
  have := (World.ownsRow.lt h g rfl).1
  omega
theorem RB.far (h : RB w base A n l) (hn : 0 < n) (hb : base ≤ cb) : Away A cb := fun g o e => by
  obtain ⟨g2, o2, e2, hg, _⟩ := h.2 hn
  rw [e] at e2
  injection e2 with e2
  injection e2 with e2
  omega
theorem RB.grew {row : Option Nat} (h : RB w w.heap.size A n l) (hg : w.grownBy w' row) (ha : ∀ g, row = some g → Away A g) : RB w' w'.heap.size A n l := by
  refine ⟨h.1, fun hn => ?_⟩
  obtain ⟨g, o, e, hlt, hc⟩ := h.2 hn
  refine ⟨g, o, e, Nat.lt_of_lt_of_le hlt hg.size, fun i hi => ?_⟩
  rw [← hc i hi]
  exact World.cell?_of_block (w := w) (hg.block g hlt (fun er => ha g er.symm g o e rfl))
/-- A cipher that only its own calls have changed since it was made. -/
theorem Ob.hold (h0 : Ob cb b lo key 0 w) (hb : But cb w w3) (h3 : Ob cb b lo key n w3) (h4 : Below w.heap.size w3 w4) : Ob cb b lo key n w4 :=
  ⟨h3.cf.block (h4.block cb h0.lt), h0.tab.apartJ (by decide) 0 (by omega) h0.cf.nob h0.cf.ne (fun q hl hq => (hb.behind h4).block q hl hq), h3.len, h3.few⟩
/-- The same for whatever count the cipher had when it was first seen. -/
theorem Ob.hold2 {m : Nat} (h0 : Ob cb b lo key m w) (hb : But cb w w3) (h3 : Ob cb b lo key n w3) (h4 : Below w.heap.size w3 w4) : Ob cb b lo key n w4 :=
  ⟨h3.cf.block (h4.block cb h0.lt), h0.tab.apartJ (by decide) 0 (by omega) h0.cf.nob h0.cf.ne (fun q hl hq => (hb.behind h4).block q hl hq), h3.len, h3.few⟩
theorem RB.asd (h : RB w w.heap.size A n l) (hb : But cb w w') (ha : 0 < n → Away A cb) : RB w' w'.heap.size A n l := (h.but hb (Nat.le_refl _) (fun g o hn e => ha hn g o e)).more hb.size
end
end Go.Proofs.YtkcchidklcnnnaaGreat

/- What a walk with a cipher and rows of bytes carries. No conditions; nothing is claimed of the program here. -/
namespace Go.Proofs.YtkcchidklcnnnaaGreat
open Go.RowKit
set_option linter.unusedVariables false
set_option linter.unusedSimpArgs false
/-- A cipher that was there in v already, or from v on; only its own calls have changed what was there in v; rows of bytes that lie elsewhere. -/
structure CW (v : World) (cb b lo : Nat) (key : List UInt8) (m : Nat) (rows : List (Option Addr × Nat × Nat × List UInt8)) (w : World) : Prop where
  but : But cb v w
  lt : cb < v.heap.size
  ob : Ob cb b lo key m w
  row : ∀ r ∈ rows, RB w w.heap.size r.1 r.2.1 r.2.2.2 ∧ (r.2.1 ≤ r.2.2.1 ∧ r.2.2.1 ≤ maxLen) ∧ (0 < r.2.1 → Away r.1 cb)
/-- What calls with a cipher give: bytes, an error's number, the cipher. -/
def RetM (n : Nat) (a : List UInt8) (code : Int) (key : List UInt8) (cb b0 lo m : Nat) (w : World) (e : Ending) (w' : World) : Prop :=
  ∃ A c, e = .returned (.tuple #[.slice A n c, .int .i64 code]) ∧ OwnB w' w.heap.size A n c a ∧ But cb w w' ∧ Ob cb b0 lo key m w'
def RetP (a b : List UInt8) (code : Int) (key : List UInt8) (cb b0 lo m : Nat) (w : World) (e : Ending) (w' : World) : Prop :=
  ∃ A n c A' n' c', e = .returned (.tuple #[.slice A n c, .slice A' n' c', .int .i64 code]) ∧ OwnB w' w.heap.size A n c a ∧ OwnB w' w.heap.size A' n' c' b ∧ But cb w w' ∧ Ob cb b0 lo key m w'
section
variable {v w w' : World} {cb b lo m m' : Nat} {key : List UInt8} {rows : List (Option Addr × Nat × Nat × List UInt8)} {A A2 : Option Addr} {n c n2 c2 B : Nat} {l l2 : List UInt8} {o : List Int}
theorem CW.here (k : CW v cb b lo key m rows w) : cb < w.heap.size := Nat.lt_of_lt_of_le k.lt k.but.size
theorem CW.start (h : Ob cb b lo key m w) : CW w cb b lo key m [] w := ⟨But.refl _ _, h.lt, h, fun r hr => by cases hr⟩
theorem CW.step (k : CW v cb b lo key m rows w) (hb : Below w.heap.size w w') : CW v cb b lo key m rows w' :=
  ⟨k.but.trans (But.of_below hb), k.lt, k.ob.below hb, fun r hr => ⟨(k.row r hr).1.step hb, (k.row r hr).2⟩⟩
theorem CW.call (k : CW v cb b lo key m rows w) (hb : But cb w w') (ho : Ob cb b lo key m' w') : CW v cb b lo key m' rows w' :=
  ⟨k.but.trans hb, k.lt, ho, fun r hr => ⟨(k.row r hr).1.asd hb (k.row r hr).2.2, (k.row r hr).2⟩⟩
theorem CW.add (k : CW v cb b lo key m rows w) (h : RB w w.heap.size A n l) (h1 : n ≤ c ∧ c ≤ maxLen) (h2 : 0 < n → Away A cb) : CW v cb b lo key m ((A, n, c, l) :: rows) w := ⟨k.but, k.lt, k.ob, fun r hr => by
  rcases List.mem_cons.1 hr with rfl | hr
  · exact ⟨h, h1, h2⟩
  · exact k.row r hr⟩
theorem CW.put (k : CW v cb b lo key m rows w) (ho : OwnB w B A n c l) (hB : cb < B) : CW v cb b lo key m ((A, n, c, l) :: rows) w := k.add ho.rb ho.cap (fun _ => ho.far hB)
theorem CW.own (k : CW v cb b lo key m rows w) (hb : Below w.heap.size w w') (ho : OwnB w' w.heap.size A n c l) : CW v cb b lo key m ((A, n, c, l) :: rows) w' := (k.step hb).put ho k.here
theorem CW.own2 (k : CW v cb b lo key m rows w) (hb : Below w.heap.size w w') (ho : OwnB w' w.heap.size A n c l) (ho2 : OwnB w' w.heap.size A2 n2 c2 l2) : CW v cb b lo key m ((A2, n2, c2, l2) :: (A, n, c, l) :: rows) w' := (k.own hb ho).put ho2 k.here
theorem CW.ret (k : CW v cb b lo key m rows w) (hb : But cb w w') (hob : Ob cb b lo key m' w') (ho : OwnB w' w.heap.size A n c l) : CW v cb b lo key m' ((A, n, c, l) :: rows) w' := (k.call hb hob).put ho k.here
theorem CW.ret2 (k : CW v cb b lo key m rows w) (hb : But cb w w') (hob : Ob cb b lo key m' w') (ho : OwnB w' w.heap.size A n c l) (ho2 : OwnB w' w.heap.size A2 n2 c2 l2) : CW v cb b lo key m' ((A2, n2, c2, l2) :: (A, n, c, l) :: rows) w' := (k.ret hb hob ho).put ho2 k.here
theorem CW.lit (k : CW v cb b lo key m rows w) (ls : List UInt8) (cs : Array Value) (n : Nat) (hc : cs = (bvs ls).toArray) (hn : ls.length = n) (hm : n ≤ maxLen) : CW v cb b lo key m ((some ⟨w.heap.size, 0, none⟩, n, n, ls) :: rows) (w.alloc (.cells cs 5)) :=
  (k.step (below_alloc w _)).add (RB.lit w ls cs n w.heap.size hc hn rfl) ⟨Nat.le_refl _, hm⟩ (fun _ g o e => by have := k.here; injection e with e; injection e with e; omega)
/-- Fewer rows. -/
theorem CW.few {rows2 : List (Option Addr × Nat × Nat × List UInt8)} (k : CW v cb b lo key m rows w) (h : ∀ r ∈ rows2, r ∈ rows) : CW v cb b lo key m rows2 w := ⟨k.but, k.lt, k.ob, fun r hr => k.row r (h r hr)⟩
/-- At the end: only what the walk made itself has changed. -/
theorem CW.bel {u : World} (k : CW v cb b lo key m rows w) (h : Below u.heap.size u v) (hc : u.heap.size ≤ cb) : Below u.heap.size u w := h.trans (k.but.below hc k.lt)
theorem ZL.asd (h : ZL w w.heap.size A n o) (hb : But cb w w') (ha : 0 < n → Away A cb) : ZL w' w'.heap.size A n o :=
  ⟨h.1, fun hn => by
    obtain ⟨g, q, e, hg, hc⟩ := h.2.1 hn
    exact ⟨g, q, e, Nat.lt_of_lt_of_le hg hb.size, fun i hi => (hb.cell (p := ⟨g, q + i, none⟩) hg (ha hn g q e)).trans (hc i hi)⟩, h.2.2⟩
theorem ZL.far (h : ZL w B A n o) (hn : 0 < n) (hb : B ≤ cb) : Away A cb := fun g q e => by
  obtain ⟨g2, o2, e2, hg, _⟩ := h.2.1 hn
  rw [e] at e2
  injection e2 with e2
  injection e2 with e2
  omega
theorem OwnZ.but (h : OwnZ w B A n c o) (hb : But cb w w') (hc : cb < B) : OwnZ w' B A n c o := by
  refine ⟨⟨h.1.1, ?_⟩, h.2⟩
  rcases h.1.2 with h0 | ⟨g, cap, cur, hv, hbg, hh, r⟩
  · exact .inl h0
  · exact .inr ⟨g, cap, cur, hv, hbg, (hb.block g (Array.getElem?_eq_some_iff.1 hh).1 (by omega)).trans hh, r⟩
theorem OwnZ.far (h : OwnZ w B A n c o) (hb : cb < B) : Away A cb := fun g q e => by
  subst e
  have := (World.ownsRow.lt h.1 g rfl).1
  omega
/-- What an append to a row of the walk's own leaves. -/
theorem CW.grow {row : Option Nat} {m0 : Nat} (k : CW v cb b lo key m rows w) (hv : Ob cb b lo key m0 v) (hb : Below v.heap.size w w') (hg : w.grownBy w' row) (ha : ∀ r ∈ rows, ∀ g, row = some g → Away r.1 g) : CW v cb b lo key m rows w' :=
  ⟨k.but.behind hb, k.lt, hv.hold2 k.but k.ob hb, fun r hr => ⟨(k.row r hr).1.grew hg (ha r hr), (k.row r hr).2⟩⟩
/-- What an earlier walk carried, at the end of a later one. -/
theorem CW.over {rows2 : List (Option Addr × Nat × Nat × List UInt8)} {u : World} {m2 : Nat} (k : CW v cb b lo key m rows u) (k2 : CW u cb b lo key m2 rows2 w) : CW v cb b lo key m2 (rows2 ++ rows) w :=
  ⟨k.but.trans k2.but, k.lt, k2.ob, fun r hr => (List.mem_append.1 hr).elim (fun h => k2.row r h) (fun h => ⟨(k.row r h).1.asd k2.but (k.row r h).2.2, (k.row r h).2⟩)⟩
end
end Go.Proofs.YtkcchidklcnnnaaGreat

