/- A box of layer 7 in memory: its key, its cipher, its hash, how many of its tags were wrong. No conditions; nothing is claimed of the program here. -/
import Derived.Test.YtmpidjadpcpbfaaGreatOff
import Derived.Test.YtmpidjadpcpbfaaGreatRefGcm
import Derived.Test.YtmpidjadpcpbfaaGreatGhTexts
import Derived.Test.YtmpidjadpcpbfaaGreatEql
namespace Go.Proofs.YtmpidjadpcpbfaaGreat
open Go.RowKit
set_option linter.unusedVariables false

/-- Where a box lies: the worlds in which it and its cipher were made; its block, its cipher's, its hash's, the tables'; its key. -/
structure BP where
  w0 : World
  wc : World
  x : Nat
  cb : Nat
  hb : Nat
  b : Nat
  lo : Nat
  c0 : Nat
  A0 : Option Addr
  key : List UInt8
/-- The blocks that its calls change. -/
def BP.S (p : BP) : List Nat := [p.x, p.cb, p.hb]
/-- The box is in w as New, or an older call, left it: at most n blocks encrypted, f tags wrong. -/
structure Bz (p : BP) (n f : Nat) (w : World) : Prop where
  old : p.w0.heap.size ≤ w.heap.size
  c0 : w.cell? ⟨p.x, 0, none⟩ = some (.slice p.A0 16 p.c0)
  c1 : w.cell? ⟨p.x, 1, none⟩ = some (.pointer (some ⟨p.cb, 0, none⟩))
  c2 : w.cell? ⟨p.x, 2, none⟩ = some (.pointer (some ⟨p.hb, 0, none⟩))
  c3 : w.cell? ⟨p.x, 3, none⟩ = some (.int .i64 (f : Int))
  free : w.frozen? ⟨p.x, 3, none⟩ = false
  cap : 16 ≤ p.c0
  key : RB w p.w0.heap.size p.A0 16 p.key
  away : AwayS p.A0 p.S
  ob0 : Ob p.cb p.b p.lo p.key 0 p.wc
  but : But p.cb p.wc w
  ob : ∃ m, m ≤ n ∧ Ob p.cb p.b p.lo p.key m w
  ho : ∃ d, Ho w p.hb (nB (hkL p.key)) d
  ord : p.wc.heap.size ≤ p.x ∧ p.wc.heap.size ≤ p.hb ∧ p.x < p.w0.heap.size ∧ p.hb < p.w0.heap.size ∧ p.x ≠ p.hb ∧ p.wc.heap.size ≤ p.w0.heap.size
theorem Ho.same {w w' : World} {b h : Nat} {d : Bool} (o : Ho w b h d) (e : w'.heap[b]? = w.heap[b]?) : Ho w' b h d := by
  obtain ⟨h0, f, hc, hr⟩ := o
  exact ⟨h0, f, fun j hj => ⟨(World.cell?_of_block (w := w) (a := ⟨b, j, none⟩) e).trans (hc j hj).1, (World.frozen?_of_block (w := w) (a := ⟨b, j, none⟩) e).trans (hc j hj).2⟩, hr⟩
section
variable {p : BP} {n f : Nat} {w w' : World}
theorem Bz.lt (h : Bz p n f w) : ∀ y ∈ p.S, y < p.w0.heap.size := by
  intro y hy
  have h0 := h.ord
  have h1 := h.ob0.lt
  simp only [BP.S, List.mem_cons, List.not_mem_nil, or_false] at hy
  rcases hy with rfl | rfl | rfl <;> omega
theorem Bz.hold (h : Bz p n f w) (hb : Below p.w0.heap.size w w') : Bz p n f w' where
  old := Nat.le_trans h.old hb.size
  c0 := (hb.cell (p := ⟨p.x, 0, none⟩) h.ord.2.2.1).trans h.c0
  c1 := (hb.cell (p := ⟨p.x, 1, none⟩) h.ord.2.2.1).trans h.c1
  c2 := (hb.cell (p := ⟨p.x, 2, none⟩) h.ord.2.2.1).trans h.c2
  c3 := (hb.cell (p := ⟨p.x, 3, none⟩) h.ord.2.2.1).trans h.c3
  free := (hb.frozen (p := ⟨p.x, 3, none⟩) h.ord.2.2.1).trans h.free
  cap := h.cap
  key := h.key.below hb
  away := h.away
  ob0 := h.ob0
  but := h.but.behind (hb.mono h.ord.2.2.2.2.2)
  ob := by
    obtain ⟨m, hm, ho⟩ := h.ob
    exact ⟨m, hm, h.ob0.hold h.but ho (hb.mono h.ord.2.2.2.2.2)⟩
  ho := by
    obtain ⟨d, ho⟩ := h.ho
    exact ⟨d, ho.below hb h.ord.2.2.2.1⟩
  ord := h.ord
theorem Bz.keep (h : Bz p n f w) (hb : Below w.heap.size w w') : Bz p n f w' := h.hold (hb.mono h.old)
theorem Bz.drew (h : Bz p n f w) : Bz p n f w.drew := h.keep (Below.refl _ _).drew
theorem Bz.up {n' : Nat} (h : Bz p n f w) (hn : n ≤ n') : Bz p n' f w := { h with ob := h.ob.elim fun m k => ⟨m, Nat.le_trans k.1 hn, k.2⟩ }
/-- The key's slice, as it may be read now. -/
theorem Bz.kr (h : Bz p n f w) : RB w w.heap.size p.A0 16 p.key := h.key.more h.old
/-- Its cipher has encrypted a block. -/
theorem Bz.enc (h : Bz p n f w) (hb : But p.cb w w') (ho : ∃ m, m ≤ n + 1 ∧ Ob p.cb p.b p.lo p.key m w') : Bz p (n + 1) f w' :=
  have h0 := h.ord
  have h1 := h.ob0.lt
  have hx : p.x < w.heap.size := Nat.lt_of_lt_of_le h0.2.2.1 h.old
  have hc : p.x ≠ p.cb := by omega
  { old := Nat.le_trans h.old hb.size
    c0 := (hb.cell (p := ⟨p.x, 0, none⟩) hx hc).trans h.c0
    c1 := (hb.cell (p := ⟨p.x, 1, none⟩) hx hc).trans h.c1
    c2 := (hb.cell (p := ⟨p.x, 2, none⟩) hx hc).trans h.c2
    c3 := (hb.cell (p := ⟨p.x, 3, none⟩) hx hc).trans h.c3
    free := (hb.frozen (p := ⟨p.x, 3, none⟩) hx hc).trans h.free
    cap := h.cap
    key := h.key.but hb h.old (fun g o _ e => h.away p.cb (by simp [BP.S]) g o e)
    away := h.away
    ob0 := h.ob0
    but := h.but.trans hb
    ob := ho
    ho := by
      obtain ⟨d, ho⟩ := h.ho
      exact ⟨d, ho.same (hb.block p.hb (Nat.lt_of_lt_of_le h0.2.2.2.1 h.old) (by omega))⟩
    ord := h0 }
/-- Its hash has made a sum. -/
theorem Bz.sum (h : Bz p n f w) (hb : But p.hb w w') (ho : ∃ d, Ho w' p.hb (nB (hkL p.key)) d) : Bz p n f w' :=
  have h0 := h.ord
  have hx : p.x < w.heap.size := Nat.lt_of_lt_of_le h0.2.2.1 h.old
  have hl : Below p.wc.heap.size w w' := hb.below h0.2.1 (Nat.lt_of_lt_of_le h0.2.2.2.1 h.old)
  { old := Nat.le_trans h.old hb.size
    c0 := (hb.cell (p := ⟨p.x, 0, none⟩) hx h0.2.2.2.2.1).trans h.c0
    c1 := (hb.cell (p := ⟨p.x, 1, none⟩) hx h0.2.2.2.2.1).trans h.c1
    c2 := (hb.cell (p := ⟨p.x, 2, none⟩) hx h0.2.2.2.2.1).trans h.c2
    c3 := (hb.cell (p := ⟨p.x, 3, none⟩) hx h0.2.2.2.2.1).trans h.c3
    free := (hb.frozen (p := ⟨p.x, 3, none⟩) hx h0.2.2.2.2.1).trans h.free
    cap := h.cap
    key := h.key.but hb h.old (fun g o _ e => h.away p.hb (by simp [BP.S]) g o e)
    away := h.away
    ob0 := h.ob0
    but := h.but.behind hl
    ob := by
      obtain ⟨m, hm, ho⟩ := h.ob
      exact ⟨m, hm, h.ob0.hold h.but ho hl⟩
    ho := ho
    ord := h0 }
/-- One tag more was wrong. -/
theorem Bz.add (h : Bz p n f w) : Bz p n (f + 1) (w.setCell ⟨p.x, 3, none⟩ (.int .i64 ((f : Int) + 1))) :=
  have h0 := h.ord
  have hx : p.x < w.heap.size := Nat.lt_of_lt_of_le h0.2.2.1 h.old
  have hb : But p.x w (w.setCell ⟨p.x, 3, none⟩ (.int .i64 ((f : Int) + 1))) := (But.refl p.x w).self 3 _
  have hl : Below p.wc.heap.size w (w.setCell ⟨p.x, 3, none⟩ (.int .i64 ((f : Int) + 1))) := hb.below h0.1 hx
  { old := Nat.le_trans h.old hb.size
    c0 := (World.cell?_setCell_other _ _ _ _ (by intro e; injection e with _ e; omega)).trans h.c0
    c1 := (World.cell?_setCell_other _ _ _ _ (by intro e; injection e with _ e; omega)).trans h.c1
    c2 := (World.cell?_setCell_other _ _ _ _ (by intro e; injection e with _ e; omega)).trans h.c2
    c3 := by
      rw [Int.natCast_add]
      exact World.cell?_setCell_same w _ _ h.c3
    free := by simp [h.free]
    cap := h.cap
    key := h.key.but hb h.old (fun g o _ e => h.away p.x (by simp [BP.S]) g o e)
    away := h.away
    ob0 := h.ob0
    but := h.but.behind hl
    ob := by
      obtain ⟨m, hm, ho⟩ := h.ob
      exact ⟨m, hm, h.ob0.hold h.but ho hl⟩
    ho := by
      obtain ⟨d, ho⟩ := h.ho
      exact ⟨d, ho.same (hb.block p.hb (Nat.lt_of_lt_of_le h0.2.2.2.1 h.old) (by omega))⟩
    ord := h0 }
/-- A slice of what was there before the box is none of its blocks. -/
theorem Bz.after (h : Bz p n f w) {base : Nat} (hb : w.heap.size ≤ base) : ∀ y ∈ p.S, y < base := fun y hy => Nat.lt_of_lt_of_le (h.lt y hy) (Nat.le_trans h.old hb)
end
theorem put_1 (w : World) : Calls Tryz.prog 71 #[.int .u64 1, .int .i64 4] w (RetBE 4 [0, 0, 0, 1] 0 w) :=
  (put_ok 1 4 w (by omega) (by omega)).mono fun e w' h => by
    rcases h with ⟨_, h⟩ | ⟨h, _⟩
    · rw [show putL 1 4 = [0, 0, 0, 1] by decide] at h
      exact h
    · exact absurd (by decide) h
/-- A call of a box that answers bytes and an error's number. -/
def RetO (p : BP) (n f : Nat) (r : List UInt8 × Int) (w : World) (e : Ending) (w' : World) : Prop :=
  ∃ A c, e = .returned (.tuple #[.slice A r.1.length c, .int .i64 r.2]) ∧ OwnB w' w.heap.size A r.1.length c r.1 ∧ Off p.S w w' ∧ Bz p n f w'
/-- New's answer. -/
def RetX (key : List UInt8) (w : World) (e : Ending) (w' : World) : Prop :=
  ∃ p : BP, e = .returned (.tuple #[.pointer (some ⟨p.x, 0, none⟩), .int .i64 0]) ∧ p.key = key ∧ Below w.heap.size w w' ∧ (∀ y ∈ p.S, w.heap.size ≤ y) ∧ Bz p 1 0 w'
end Go.Proofs.YtmpidjadpcpbfaaGreat
