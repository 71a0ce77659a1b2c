/- Arguments of layer 9's statements that come in as data: rows of questions, rows of parts. Nothing is claimed of the program here. -/
import Derived.Test.YtakmnfcbfbkloaaOpenRows
import Derived.Test.YtakmnfcbfbkloaaScanY
import Derived.Test.YtakmnfcbfbkloaaScanQ
import Derived.Deep.SlicePairs
import Derived.Deep.MidRow
namespace Go.Proofs.Ytakmnfcbfbkloaa
open Go.ChangeShapes Go.WideShapes Go.ChangeAt Go.RowKit Go.Deep
set_option linter.unusedVariables false

/-- A number that an int holds. -/
def I64 (z : Int) : Prop := -9223372036854775808 ≤ z ∧ z ≤ 9223372036854775807
/-- Questions in memory. -/
def AL (w : World) (B : Nat) (A : Option Addr) (n : Nat) (l : List (Int × Int)) : Prop :=
  l.length = n ∧ (∀ p ∈ l, I64 p.1 ∧ I64 p.2) ∧ (0 < n → ∃ b o, A = some ⟨b, o, none⟩ ∧ b < B ∧ ∀ (i : Nat) p, l[i]? = some p → w.rangeAt b (o + i * 2) [.int .i64 p.1, .int .i64 p.2])
/-- A part: what, its size, its number, its bytes and where they lie. -/
structure Pt where
  what : Int
  size : Int
  v : Nat
  A : Option Addr
  c : Nat
  b : List UInt8
instance : Inhabited Pt := ⟨⟨0, 0, 0, none, 0, []⟩⟩
def Pt.cells (p : Pt) : List Value := [.int .i64 p.what, .int .i64 p.size, .int .u64 (p.v : Int), .slice p.A p.b.length p.c]
def Pt.val (p : Pt) : Value := .agg #[.int .i64 p.what, .int .i64 p.size, .int .u64 (p.v : Int), .slice p.A p.b.length p.c]
structure Pt.ok (w : World) (B : Nat) (p : Pt) : Prop where
  rb : RB w B p.A p.b.length p.b
  cap : p.b.length ≤ p.c
  few : p.b.length ≤ maxLen
  v64 : p.v ≤ 18446744073709551615
  what : I64 p.what
  size : I64 p.size
/-- Parts in memory. -/
def PL (w : World) (B : Nat) (A : Option Addr) (n : Nat) (ps : List Pt) : Prop :=
  ps.length = n ∧ (∀ p ∈ ps, p.ok w B) ∧ (0 < n → ∃ b o, A = some ⟨b, o, none⟩ ∧ b < B ∧ ∀ (i : Nat) p, ps[i]? = some p → w.rangeAt b (o + i * 4) p.cells)
section
variable {w w' : World} {B B' n : Nat} {A : Option Addr} {l : List (Int × Int)} {ps : List Pt}
theorem AL.len (h : AL w B A n l) : l.length = n := h.1
theorem AL.below (h : AL w B A n l) (hb : Below B w w') : AL w' B A n l :=
  ⟨h.1, h.2.1, fun hn => by
    obtain ⟨b, o, e, hbb, hc⟩ := h.2.2 hn
    exact ⟨b, o, e, hbb, fun i p hp j v hv => (hb.cell (p := ⟨b, o + i * 2 + j, none⟩) hbb).trans (hc i p hp j v hv)⟩⟩
theorem AL.at_ {k : Nat} (h : AL w B A n l) (hk : k < n) : ∃ b o p, A = some ⟨b, o, none⟩ ∧ b < B ∧ l[k]? = some p ∧ I64 p.1 ∧ I64 p.2 ∧ w.rangeAt b (o + k * 2) [.int .i64 p.1, .int .i64 p.2] := by
  obtain ⟨b, o, e, hb, hc⟩ := h.2.2 (by omega)
  have hl : k < l.length := by rw [h.1]; exact hk
  have hi := h.2.1 _ (List.getElem_mem hl)
  exact ⟨b, o, l[k], e, hb, List.getElem?_eq_getElem hl, hi.1, hi.2, hc k _ (List.getElem?_eq_getElem hl)⟩
theorem PL.len (h : PL w B A n ps) : ps.length = n := h.1
theorem Pt.ok.below {p : Pt} (h : p.ok w B) (hb : Below B w w') : p.ok w' B := ⟨h.rb.below hb, h.cap, h.few, h.v64, h.what, h.size⟩
theorem Pt.ok.more {p : Pt} (h : p.ok w B) (hb : B ≤ B') : p.ok w B' := ⟨h.rb.more hb, h.cap, h.few, h.v64, h.what, h.size⟩
theorem PL.below (h : PL w B A n ps) (hb : Below B w w') : PL w' B A n ps :=
  ⟨h.1, fun p hp => (h.2.1 p hp).below hb, fun hn => by
    obtain ⟨b, o, e, hbb, hc⟩ := h.2.2 hn
    exact ⟨b, o, e, hbb, fun i p hp j v hv => (hb.cell (p := ⟨b, o + i * 4 + j, none⟩) hbb).trans (hc i p hp j v hv)⟩⟩
theorem PL.more (h : PL w B A n ps) (hB : B ≤ B') : PL w B' A n ps :=
  ⟨h.1, fun p hp => (h.2.1 p hp).more hB, fun hn => by
    obtain ⟨b, o, e, hbb, hc⟩ := h.2.2 hn
    exact ⟨b, o, e, by omega, hc⟩⟩
theorem PL.at_ {k : Nat} (h : PL w B A n ps) (hk : k < n) : ∃ b o p, A = some ⟨b, o, none⟩ ∧ b < B ∧ ps[k]? = some p ∧ p.ok w B ∧ w.rangeAt b (o + k * 4) p.cells := by
  obtain ⟨b, o, e, hb, hc⟩ := h.2.2 (by omega)
  have hl : k < ps.length := by rw [h.1]; exact hk
  exact ⟨b, o, ps[k], e, hb, List.getElem?_eq_getElem hl, h.2.1 _ (List.getElem_mem hl), hc k _ (List.getElem?_eq_getElem hl)⟩
end
theorem i64_of {z : Int} (h : (Lit.int .i64 z).wf = true) : I64 z := bounds_i64 h
theorem map_range_at {α : Type} {len : Nat} {g : Nat → α} {i : Nat} {y : α} (h : ((List.range len).map g)[i]? = some y) : i < len ∧ y = g i := by
  rw [List.getElem?_map, Option.map_eq_some_iff] at h
  obtain ⟨j, hj, rfl⟩ := h
  have hjl := (List.getElem?_eq_some_iff.1 hj).1
  rw [List.length_range] at hjl
  rw [List.getElem?_range hjl] at hj
  injection hj with hj
  exact ⟨hjl, by rw [hj]⟩
set_option maxRecDepth 100000 in
/-- A slice of questions that came in. -/
theorem open_asks {H : Type} {enc : TypeId × Value → H} {w : World} {f : Nat} {a : Option Addr} {len cap : Nat} {d : DataW H} {p : List MemPlace}
    (hf : DataW.trod enc Try.prog w 0 (fun _ => true) true f 23 (Value.slice a len cap).cells.toList = some (d, p)) : (∃ xs, AL w w.heap.size a len xs) ∧ len ≤ cap ∧ cap ≤ maxLen := by
  rcases open_slice_pairs Try.underlying23 Try.underlying34 (by kernel_rfl) rfl rfl (by kernel_rfl) (by kernel_rfl) hf with ⟨hcs, _⟩ | ⟨x, l, c, m, n, V0, V1, D0, D1, P0, P1, hcs, _, hl, hm, hmm, _, hx⟩
  · simp [Value.cells] at hcs
    obtain ⟨rfl, rfl, rfl⟩ := hcs
    exact ⟨⟨[], rfl, fun p h => by simp at h, fun h => absurd h (by omega)⟩, Nat.le_refl _, Nat.zero_le _⟩
  · simp [Value.cells] at hcs
    obtain ⟨rfl, rfl, rfl⟩ := hcs
    refine ⟨?_, hl, hm⟩
    simp only [if_true] at hmm
    subst hmm
    obtain ⟨g, hg⟩ := Deep.choose_lt (n := len) (p := fun i (r : Int × Int) => I64 r.1 ∧ I64 r.2 ∧ w.cell? (x.add (i * 2)) = some (.int .i64 r.1) ∧ w.cell? (x.add (i * 2 + 1)) = some (.int .i64 r.2)) (fun i hi => by
      obtain ⟨h1, h2, h3, h4⟩ := hx i (by omega)
      obtain ⟨a, ha, _, wa⟩ := DataW.trod_int Try.underlying3 h3
      obtain ⟨b, hb, _, wb⟩ := DataW.trod_int Try.underlying3 h4
      injection ha with ha _
      injection hb with hb _
      rw [ha] at h1
      rw [hb] at h2
      exact ⟨(a, b), i64_of wa, i64_of wb, h1, h2⟩)
    rcases Nat.eq_zero_or_pos len with h0 | h0
    · subst h0; exact ⟨[], rfl, fun p h => by simp at h, fun h => absurd h (by omega)⟩
    · obtain ⟨b, off, spot⟩ := x
      have hc := (hg 0 h0).2.2.1
      have hspot : spot = none := by simpa [Addr.add] using World.cell?_spot hc
      subst hspot
      have hb : b < w.heap.size := World.block_lt_of_cell? w _ hc
      have hadd : ∀ i, (⟨b, off, none⟩ : Addr).add i = ⟨b, off + i, none⟩ := fun i => by unfold Addr.add; split <;> simp_all
      refine ⟨(List.range len).map g, by simp, fun p hp => ?_, fun _ => ⟨b, off, rfl, hb, fun i y h => ?_⟩⟩
      · obtain ⟨i, hi, rfl⟩ := List.mem_map.1 hp
        have := hg i (by simpa using hi)
        exact ⟨this.1, this.2.1⟩
      · obtain ⟨hi, rfl⟩ := map_range_at h
        obtain ⟨_, _, k1, k2⟩ := hg i hi
        rw [hadd] at k1 k2
        intro j v hv
        match j, hv with
        | 0, hv => injection hv with hv; rw [← hv]; exact k1
        | 1, hv => injection hv with hv; rw [← hv, Nat.add_assoc]; exact k2
        | j + 2, hv => simp at hv
set_option maxRecDepth 100000 in
/-- A slice of parts that came in. -/
theorem open_pts {H : Type} {enc : TypeId × Value → H} {w : World} {f : Nat} {a : Option Addr} {len cap : Nat} {d : DataW H} {p : List MemPlace}
    (hf : DataW.trod enc Try.prog w 0 (fun _ => true) true f 39 (Value.slice a len cap).cells.toList = some (d, p)) : (∃ xs, PL w w.heap.size a len xs) ∧ len ≤ cap ∧ cap ≤ maxLen := by
  have ce : Try.prog.cellsOf 48 = 4 := by kernel_rfl
  have c0 : Try.prog.cellsOf 3 = 1 := by kernel_rfl
  have c2 : Try.prog.cellsOf 46 = 1 := by kernel_rfl
  have c3 : Try.prog.cellsOf 22 = 1 := by kernel_rfl
  rcases open_slice Try.underlying39 hf with ⟨hcs, _⟩ | ⟨x, l, c, m, n, D, Pl, hcs, _, hl, hm, hmm, _, hx⟩
  · simp [Value.cells] at hcs
    obtain ⟨rfl, rfl, rfl⟩ := hcs
    exact ⟨⟨[], rfl, fun p h => by simp at h, fun h => absurd h (by omega)⟩, Nat.le_refl _, Nat.zero_le _⟩
  · simp [Value.cells] at hcs
    obtain ⟨rfl, rfl, rfl⟩ := hcs
    refine ⟨?_, hl, hm⟩
    simp only [if_true] at hmm
    subst hmm
    obtain ⟨g, hg⟩ := Deep.choose_lt (n := len) (p := fun i (r : Pt) => r.ok w w.heap.size ∧ w.cell? (x.add (i * 4)) = some (.int .i64 r.what) ∧ w.cell? (x.add (i * 4 + 1)) = some (.int .i64 r.size) ∧ w.cell? (x.add (i * 4 + 2)) = some (.int .u64 (r.v : Int)) ∧ w.cell? (x.add (i * 4 + 3)) = some (.slice r.A r.b.length r.c)) (fun i hi => by
      obtain ⟨cs', h1, h2⟩ := hx i (by omega)
      rw [ce] at h1
      obtain ⟨_, hlen, hcell⟩ := World.cells?_some h1
      obtain ⟨xs, k, hk, hxy, _, hxl, hff⟩ := DataW.trod_struct Try.underlying48 h2
      match xs, hxl, cs', hlen with
      | [y0, y1, y2, y3], _, [v0, v1, v2, v3], _ =>
        have g0 := hff 0 _ rfl
        have g1 := hff 1 _ rfl
        have g2 := hff 2 _ rfl
        have g3 := hff 3 _ rfl
        simp [c0, c2, c3] at g0 g1 g2 g3
        have e0 := hcell 0 (by omega)
        have e1 := hcell 1 (by omega)
        have e2 := hcell 2 (by omega)
        have e3 := hcell 3 (by omega)
        rw [add_add] at e0 e1 e2 e3
        obtain ⟨a0, q0, _, w0⟩ := DataW.trod_int Try.underlying3 g0
        obtain ⟨a1, q1, _, w1⟩ := DataW.trod_int Try.underlying3 g1
        obtain ⟨a2, q2, _, w2⟩ := DataW.trod_int Try.underlying46 g2
        obtain ⟨r, q3, r1, r2, r3⟩ := open_part g3
        injection q0 with q0 _
        injection q1 with q1 _
        injection q2 with q2 _
        subst q0 q1 q2 q3
        have hb2 : 0 ≤ a2 ∧ a2 ≤ 18446744073709551615 := bounds_u64 w2
        have hn : ((a2.toNat : Nat) : Int) = a2 := Int.toNat_of_nonneg hb2.1
        exact ⟨⟨a0, a1, a2.toNat, r.1, r.2.2, r.2.1⟩, ⟨r1, r3, r2, by simp only; omega, i64_of w0, i64_of w1⟩, by simpa using e0, by simpa using e1, by simp only [hn]; simpa using e2, by simpa using e3⟩)
    rcases Nat.eq_zero_or_pos len with h0 | h0
    · subst h0; exact ⟨[], rfl, fun p h => by simp at h, fun h => absurd h (by omega)⟩
    · obtain ⟨b, off, spot⟩ := x
      have hc := (hg 0 h0).2.1
      have hspot : spot = none := by simpa [Addr.add] using World.cell?_spot hc
      subst hspot
      have hb : b < w.heap.size := World.block_lt_of_cell? w _ hc
      have hadd : ∀ i, (⟨b, off, none⟩ : Addr).add i = ⟨b, off + i, none⟩ := fun i => by unfold Addr.add; split <;> simp_all
      refine ⟨(List.range len).map g, by simp, fun p hp => ?_, fun _ => ⟨b, off, rfl, hb, fun i y h => ?_⟩⟩
      · obtain ⟨i, hi, rfl⟩ := List.mem_map.1 hp
        exact (hg i (by simpa using hi)).1
      · obtain ⟨hi, rfl⟩ := map_range_at h
        obtain ⟨_, k0, k1, k2, k3⟩ := hg i hi
        rw [hadd] at k0 k1 k2 k3
        intro j v hv
        match j, hv with
        | 0, hv => injection hv with hv; rw [← hv]; exact k0
        | 1, hv => injection hv with hv; rw [← hv, Nat.add_assoc]; exact k1
        | 2, hv => injection hv with hv; rw [← hv, Nat.add_assoc]; exact k2
        | 3, hv => injection hv with hv; rw [← hv, Nat.add_assoc]; exact k3
        | j + 4, hv => simp [Pt.cells] at hv
end Go.Proofs.Ytakmnfcbfbkloaa
