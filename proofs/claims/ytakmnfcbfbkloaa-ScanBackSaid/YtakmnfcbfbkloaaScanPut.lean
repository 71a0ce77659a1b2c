/- Layer 9's statements put the same part with both writers: both go on as the document says, and the part's copy may change behind. Conditions: as in ScanW; at most 300 bytes a part. -/
import Derived.Test.YtakmnfcbfbkloaaScanAlive
import Derived.Test.YtakmnfcbfbkloaaScanLd
namespace Go.Proofs.Ytakmnfcbfbkloaa
open Go.RowKit
set_option linter.unusedVariables false
set_option linter.unusedSimpArgs false

set_option maxRecDepth 100000 in
set_option maxHeartbeats 1000000 in
theorem great_any (A : Option Addr) (n c : Nat) (ps : List Pt) (w : World) (h : PL w w.heap.size A n ps) (hn : n ≤ maxLen) :
    Calls Try.prog 14 #[.slice A n c] w fun e w' => ∃ v, e = .returned (.bool v) ∧ w = w' ∧ (v = false → n ≤ 60 ∧ ∀ p ∈ ps, p.b.length ≤ 300) := by
  unfold maxLen at hn
  have H := Lib.hid h
  clear h
  by_cases g0 : 60 < n
  · have d0 : decide (60 < (n : Int)) = true := decide_eq_true (by omega)
    go_enter Try.func14, Try.ntmps14
    go_wp2_with fail
    go_ret
    exact ⟨true, rfl, rfl, fun h => by cases h⟩
  have d0 : decide (60 < (n : Int)) = false := decide_eq_false (by omega)
  go_enter Try.func14, Try.ntmps14
  go_wp2_with fail
  go_loopw [3] (fun i wr => ∃ k : Nat, k ≤ n ∧ i = .int .i64 k ∧ w = wr ∧ Hid (∀ p ∈ ps.take k, p.b.length ≤ 300)) (fun i _ => n - (intOf i).toNat)
  case atStart => exact ⟨0, by omega, rfl, rfl, Lib.hid (by simp)⟩
  case round =>
    obtain ⟨k, hk, rfl, rfl, hle⟩ := hrel
    by_cases hlt : k < n
    · obtain ⟨b, o, p, rfl, hb, hp, hok, hc⟩ := H.out.at_ hlt
      have hc3 := hc 3 (.slice p.A p.b.length p.c) rfl
      have hfew := hok.few
      unfold maxLen at hfew
      have HT := Lib.hid (show ps.take (k + 1) = ps.take k ++ [p] by rw [List.take_add_one, hp]; rfl)
      clear hb hp hok hc
      by_cases h1 : 300 < p.b.length
      · have d1 : decide (300 < (p.b.length : Int)) = true := decide_eq_true (by omega)
        go_wp2_with fail
        go_ret
        exact ⟨true, rfl, rfl, fun h => by cases h⟩
      · have d1 : decide (300 < (p.b.length : Int)) = false := decide_eq_false (by omega)
        go_wp2_with fail
        go_roundw
        case rel =>
          refine ⟨k + 1, by omega, by go_num, trivial, Lib.hid ?_⟩
          rw [HT.out]
          intro q hq
          rcases List.mem_append.1 hq with hq | hq
          · exact hle.out q hq
          · rw [List.mem_singleton.1 hq]; omega
        case measure => simp [intOf]; omega
    · have hkn : k = n := by omega
      subst hkn
      have hfin : ∀ p ∈ ps, p.b.length ≤ 300 := by
        have := hle.out
        rwa [List.take_of_length_le (by have := H.out.len; omega)] at this
      have HF := Lib.hid hfin
      clear hfin
      go_wp2_with fail
      go_ret
      exact ⟨false, rfl, rfl, fun _ => ⟨by omega, HF.out⟩⟩

/-- A part's bytes, or its error. -/
def encP (p : Pt) : List UInt8 × Int :=
  if p.what = 0 then putN p.v p.size else if p.what = 1 then (p.b, 0) else if p.what = 2 then (rowR [p.v, 7], rowC [p.v, 7]) else if p.what = 3 then shortP p.b else if p.what = 4 then (longP p.b, 0) else ([], 0)
def putP (p : Pt) (s : Int × List UInt8) : Int × List UInt8 := putS (encP p).1 (encP p).2 s
theorem putS_nil (s : Int × List UInt8) : putS [] 0 s = s := by
  obtain ⟨z, l⟩ := s
  by_cases h : z = 0
  · subst h; rw [putS_0, List.append_nil]
  · exact putS_1 (s := (z, l)) h [] 0
theorem encP_len (p : Pt) (h : p.b.length ≤ 300) : (encP p).1.length ≤ 400 := by
  unfold encP
  have h1 := putN_len p.v p.size
  have h2 := rowR_len [p.v, 7]
  have h3 : (leastL p.b.length).length ≤ 8 := by rw [leastL_len]; exact sz_le _
  repeat' split
  · omega
  · simp only; omega
  · simp only [List.length_cons, List.length_nil] at h2 ⊢; omega
  · unfold shortP
    split
    · simp
    · simp only [List.length_cons]; omega
  · unfold longP
    simp only [List.length_append]; omega
  · simp
theorem putP_len (p : Pt) (h : p.b.length ≤ 300) (s : Int × List UInt8) : (putP p s).2.length ≤ s.2.length + 400 := by
  have h1 := putS_len (encP p).1 (encP p).2 s
  have h2 := encP_len p h
  unfold putP
  omega
theorem OwnB.typ {w : World} {base n c : Nat} {A : Option Addr} {l : List UInt8} (h : OwnB w base A n c l) : ∀ g ∈ blkO A, ∃ cs, w.heap[g]? = some (.cells cs 5 (0, 0)) := by
  intro g hg
  obtain ⟨a, e, rfl⟩ := mem_blkO hg
  rcases h.2 with ⟨hv, _⟩ | ⟨g', cap, cur, hv, _, hh, _⟩
  · rw [e] at hv; cases hv
  · rw [e] at hv
    injection hv with hv
    injection hv with hv
    subst hv
    exact ⟨_, hh⟩
theorem WrR.typ {w : World} {x base : Nat} {A : Option Addr} {s : Int × List UInt8} (h : WrR w x base A s) : ∀ g ∈ blkO A, ∃ cs, w.heap[g]? = some (.cells cs 5 (0, 0)) := by
  obtain ⟨n, c, _, h2⟩ := h
  exact h2.typ
theorem WrQ.typ {w : World} {x base : Nat} {A : Option Addr} {s : Int × List UInt8} (h : WrQ w x base A s) : ∀ g ∈ blkO A, ∃ cs, w.heap[g]? = some (.cells cs 5 (0, 0)) := by
  obtain ⟨n, c, _, h2⟩ := h
  exact h2.typ
theorem WrR.self {w : World} {x base : Nat} {A : Option Addr} {s : Int × List UInt8} (h : WrR w x base A s) : ∃ cs, w.heap[x]? = some (.cells cs 68 (0, 0)) := by
  obtain ⟨n, c, h1, _⟩ := h
  exact ⟨_, h1⟩
theorem WrQ.self {w : World} {x base : Nat} {A : Option Addr} {s : Int × List UInt8} (h : WrQ w x base A s) : ∃ cs, w.heap[x]? = some (.cells cs 44 (0, 0)) := by
  obtain ⟨n, c, h1, _⟩ := h
  exact ⟨_, h1⟩
/-- Blocks of unlike types are unlike. -/
theorem typ_ne {w : World} {g k : Nat} {T U : TypeId} (h : ∃ cs, w.heap[g]? = some (.cells cs T (0, 0))) (h' : ∃ cs, w.heap[k]? = some (.cells cs U (0, 0))) (hT : T ≠ U) : g ≠ k := by
  intro e
  subst e
  obtain ⟨a, ha⟩ := h
  obtain ⟨b, hb⟩ := h'
  rw [ha] at hb
  injection hb with hb
  injection hb with _ hb
  exact hT hb
/-- What a walk of put carries. -/
structure PK (w0 : World) (x y base base' : Nat) (A0 D0 : Option Addr) (q : Nat) (p : Pt) (O : Option Addr) (n c : Nat) (lo : List UInt8) (A D : Option Addr) (s t : Int × List UInt8) (w : World) : Prop where
  oth : Oth (x :: y :: (blkO A0 ++ blkO D0)) w0 w
  nA : ∀ g ∈ blkO A, g ∈ blkO A0 ∨ w0.heap.size ≤ g
  nD : ∀ g ∈ blkO D, g ∈ blkO D0 ∨ w0.heap.size ≤ g
  box : w.heap[q]? = some (.cells p.cells.toArray 48 (0, 0))
  wr : WrR w x base A s
  wq : WrQ w y base' D t
  own : OwnB w w0.heap.size O n c lo
  dis : ∀ g ∈ blkO A, g ∉ blkO D ∧ g ∉ blkO O
  dis' : ∀ g ∈ blkO D, g ∉ blkO O
  pb : RB w w.heap.size p.A p.b.length p.b
  pa : 0 < p.b.length → ∀ g o, p.A = some ⟨g, o, none⟩ → g ∉ blkO A
  pd : 0 < p.b.length → ∀ g o, p.A = some ⟨g, o, none⟩ → g ∉ blkO D
  po : 0 < p.b.length → ∀ g o, p.A = some ⟨g, o, none⟩ → g ∉ blkO O
section
variable {w0 w w' : World} {x y base base' q n c : Nat} {A0 D0 O A D A' : Option Addr} {p : Pt} {lo : List UInt8} {s t s' : Int × List UInt8} {val : Value} {e : Ending}
theorem PK.step (h : PK w0 x y base base' A0 D0 q p O n c lo A D s t w) (hb : Below w.heap.size w w') : PK w0 x y base base' A0 D0 q p O n c lo A D s t w' :=
  ⟨h.oth.trans (Oth.of_below hb), h.nA, h.nD, (hb.block q (Array.getElem?_eq_some_iff.1 h.box).1).trans h.box, h.wr.step hb, h.wq.step hb, h.own.below hb, h.dis, h.dis', h.pb.step hb, h.pa, h.pd, h.po⟩
theorem own_lt (h : OwnB w base O n c lo) : ∀ g ∈ blkO O, g < w.heap.size := fun g hg => by
  obtain ⟨a, e, rfl⟩ := mem_blkO hg
  exact (h.spot a e).2.2
theorem PK.real (h : PK w0 x y base base' A0 D0 q p O n c lo A D s t w) (k : RetW WrR x base A s' val w e w') : e = .returned val ∧ ∃ A', PK w0 x y base base' A0 D0 q p O n c lo A' D s' t w' := by
  obtain ⟨he, A', h1, h2, h3⟩ := k
  have hs : w0.heap.size ≤ w.heap.size := h.oth.size
  refine ⟨he, A', ⟨?_, ?_, h.nD, ?_, h3, ?_, ?_, ?_, h.dis', ?_, ?_, h.pd, h.po⟩⟩
  · exact ⟨h2.os.trans h.oth.os, h2.tape.trans h.oth.tape, h2.output.trans h.oth.output, Nat.le_trans h.oth.size h2.size, fun i hi hn => (h2.block i (Nat.lt_of_lt_of_le hi h.oth.size) (fun hm => hn (by
      rcases List.mem_cons.1 hm with rfl | hm
      · simp
      · rcases h.nA i hm with h4 | h4
        · simp [h4]
        · omega))).trans (h.oth.block i hi hn)⟩
  · intro g hg
    rcases h1 g hg with h4 | h4
    · exact h.nA g h4
    · exact .inr (Nat.le_trans hs h4)
  · refine (h2.block q (Array.getElem?_eq_some_iff.1 h.box).1 (fun hm => ?_)).trans h.box
    rcases List.mem_cons.1 hm with hm | hm
    · exact typ_ne ⟨_, h.box⟩ h.wr.self (by decide) hm
    · exact typ_ne ⟨_, h.box⟩ (h.wr.typ q hm) (by decide) rfl
  · refine h.wq.oth h2 (fun hm => ?_) (fun g hg hm => ?_)
    · rcases List.mem_cons.1 hm with hm | hm
      · exact h.wr.ne h.wq hm.symm
      · exact h.wr.ne' h.wq y hm rfl
    · rcases List.mem_cons.1 hm with hm | hm
      · exact h.wq.ne' h.wr g hg hm
      · exact (h.dis g hm).1 hg
  · refine h.own.oth h2 (fun g o eo hm => ?_)
    have hg : g ∈ blkO O := by rw [eo]; simp [blkO]
    rcases List.mem_cons.1 hm with hm | hm
    · exact typ_ne (h.own.typ g hg) h.wr.self (by decide) hm
    · exact (h.dis g hm).2 hg
  · intro g hg
    rcases h1 g hg with h4 | h4
    · exact h.dis g h4
    · exact ⟨fun hm => by have := (h.wq.own g hm).2.2; omega, fun hm => by have := own_lt h.own g hm; omega⟩
  · exact h.pb.aft h.wr h2 h.pa
  · intro hn g o eo hm
    rcases h1 g hm with h4 | h4
    · exact h.pa hn g o eo h4
    · have := h.pb.lt hn eo
      omega
theorem PK.ref (h : PK w0 x y base base' A0 D0 q p O n c lo A D s t w) (k : RetW WrQ y base' D s' val w e w') : e = .returned val ∧ ∃ D', PK w0 x y base base' A0 D0 q p O n c lo A D' s s' w' := by
  obtain ⟨he, D', h1, h2, h3⟩ := k
  have hs : w0.heap.size ≤ w.heap.size := h.oth.size
  refine ⟨he, D', ⟨?_, h.nA, ?_, ?_, ?_, h3, ?_, ?_, ?_, ?_, h.pa, ?_, h.po⟩⟩
  · exact ⟨h2.os.trans h.oth.os, h2.tape.trans h.oth.tape, h2.output.trans h.oth.output, Nat.le_trans h.oth.size h2.size, fun i hi hn => (h2.block i (Nat.lt_of_lt_of_le hi h.oth.size) (fun hm => hn (by
      rcases List.mem_cons.1 hm with rfl | hm
      · simp
      · rcases h.nD i hm with h4 | h4
        · simp [h4]
        · omega))).trans (h.oth.block i hi hn)⟩
  · intro g hg
    rcases h1 g hg with h4 | h4
    · exact h.nD g h4
    · exact .inr (Nat.le_trans hs h4)
  · refine (h2.block q (Array.getElem?_eq_some_iff.1 h.box).1 (fun hm => ?_)).trans h.box
    rcases List.mem_cons.1 hm with hm | hm
    · exact typ_ne ⟨_, h.box⟩ h.wq.self (by decide) hm
    · exact typ_ne ⟨_, h.box⟩ (h.wq.typ q hm) (by decide) rfl
  · refine h.wr.oth h2 (fun hm => ?_) (fun g hg hm => ?_)
    · rcases List.mem_cons.1 hm with hm | hm
      · exact h.wr.ne h.wq hm
      · exact h.wq.ne' h.wr x hm rfl
    · rcases List.mem_cons.1 hm with hm | hm
      · exact h.wr.ne' h.wq g hg hm
      · exact (h.dis g hg).1 hm
  · refine h.own.oth h2 (fun g o eo hm => ?_)
    have hg : g ∈ blkO O := by rw [eo]; simp [blkO]
    rcases List.mem_cons.1 hm with hm | hm
    · exact typ_ne (h.own.typ g hg) h.wq.self (by decide) hm
    · exact h.dis' g hm hg
  · intro g hg
    refine ⟨fun hm => ?_, (h.dis g hg).2⟩
    rcases h1 g hm with h4 | h4
    · exact (h.dis g hg).1 h4
    · have := (h.wr.own g hg).2.2; omega
  · intro g hg hm
    rcases h1 g hg with h4 | h4
    · exact h.dis' g h4 hm
    · have := own_lt h.own g hm; omega
  · refine h.pb.oth h2 (fun hn g o eo hm => ?_)
    rcases List.mem_cons.1 hm with hm | hm
    · exact h.wq.row h.pb hn g o eo hm
    · exact h.pd hn g o eo hm
  · intro hn g o eo hm
    rcases h1 g hm with h4 | h4
    · exact h.pd hn g o eo h4
    · have := h.pb.lt hn eo
      omega
theorem PK.poke (h : PK w0 x y base base' A0 D0 q p O n c lo A D s t w) {g : Nat} (hO : O = some ⟨g, 0, none⟩) (j : Nat) (z : UInt8) (u : Value) (hu : u = bv z) : PK w0 x y base base' A0 D0 q p O n c (lo.set j z) A D s t (w.setCell ⟨g, j, none⟩ u) := by
  subst hO
  have hg : g ∈ blkO (some ⟨g, 0, none⟩ : Option Addr) := by simp [blkO]
  have ho : Oth [g] w (w.setCell ⟨g, j, none⟩ u) := (Oth.refl [g] w).set (x := g) (by simp) j u
  have h0 : w0.heap.size ≤ g := (h.own.spot _ rfl).2.1
  refine ⟨?_, h.nA, h.nD, ?_, ?_, ?_, h.own.stored j z u hu, h.dis, h.dis', ?_, h.pa, h.pd, h.po⟩
  · exact ⟨ho.os.trans h.oth.os, ho.tape.trans h.oth.tape, ho.output.trans h.oth.output, Nat.le_trans h.oth.size ho.size, fun i hi hn => (ho.block i (Nat.lt_of_lt_of_le hi h.oth.size) (fun hm => by
      have := List.mem_singleton.1 hm
      omega)).trans (h.oth.block i hi hn)⟩
  · refine (ho.block q (Array.getElem?_eq_some_iff.1 h.box).1 (fun hm => ?_)).trans h.box
    exact typ_ne ⟨_, h.box⟩ (h.own.typ g hg) (by decide) (List.mem_singleton.1 hm)
  · refine h.wr.oth ho (fun hm => ?_) (fun k hk hm => ?_)
    · exact typ_ne h.wr.self (h.own.typ g hg) (by decide) (List.mem_singleton.1 hm)
    · rw [List.mem_singleton.1 hm] at hk
      exact (h.dis g hk).2 hg
  · refine h.wq.oth ho (fun hm => ?_) (fun k hk hm => ?_)
    · exact typ_ne h.wq.self (h.own.typ g hg) (by decide) (List.mem_singleton.1 hm)
    · rw [List.mem_singleton.1 hm] at hk
      exact h.dis' g hk hg
  · refine h.pb.oth ho (fun hn k o eo hm => ?_)
    rw [List.mem_singleton.1 hm] at eo
    exact h.po hn g o eo hg
end
/-- What put leaves. -/
def RetPut (x y base base' : Nat) (A D : Option Addr) (s' t' : Int × List UInt8) (w : World) (e : Ending) (w' : World) : Prop :=
  e = .returned (.bool true) ∧ ∃ A' D', Oth (x :: y :: (blkO A ++ blkO D)) w w' ∧ (∀ g ∈ blkO A', g ∈ blkO A ∨ w.heap.size ≤ g) ∧ (∀ g ∈ blkO D', g ∈ blkO D ∨ w.heap.size ≤ g) ∧ (∀ g ∈ blkO A', g ∉ blkO D') ∧ WrR w' x base A' s' ∧ WrQ w' y base' D' t'
theorem PK.done {w0 w : World} {x y base base' q n c : Nat} {A0 D0 O A D : Option Addr} {p : Pt} {lo : List UInt8} {s t : Int × List UInt8} (h : PK w0 x y base base' A0 D0 q p O n c lo A D s t w) : RetPut x y base base' A0 D0 s t w0 (.returned (.bool true)) w :=
  ⟨rfl, A, D, h.oth, h.nA, h.nD, fun g hg => (h.dis g hg).1, h.wr, h.wq⟩
/-- The start: the part's box, its copy. -/
theorem PK.start {w w1 : World} {x y base base' : Nat} {A D : Option Addr} {p : Pt} {s t : Int × List UInt8} {O : Option Addr} {n c : Nat} {lo : List UInt8} (h1 : WrR w x base A s) (h2 : WrQ w y base' D t) (hd : ∀ g ∈ blkO A, g ∉ blkO D) (hp : RB w w.heap.size p.A p.b.length p.b) (hA : 0 < p.b.length → ∀ g o, p.A = some ⟨g, o, none⟩ → g ∉ blkO A) (hD : 0 < p.b.length → ∀ g o, p.A = some ⟨g, o, none⟩ → g ∉ blkO D)
    (hb : Below (w.alloc (.cells p.cells.toArray 48)).heap.size (w.alloc (.cells p.cells.toArray 48)) w1) (ho : OwnB w1 (w.alloc (.cells p.cells.toArray 48)).heap.size O n c lo) :
    PK w x y base base' A D w.heap.size p O n c lo A D s t w1 := by
  have hal := below_alloc w (.cells p.cells.toArray 48)
  have hnew : ∀ g ∈ blkO O, w.heap.size < g := fun g hg => by
    obtain ⟨a, e, rfl⟩ := mem_blkO hg
    have := (ho.spot a e).2.1
    simp at this
    omega
  refine ⟨(Oth.of_below hal).trans (Oth.of_below hb), fun g hg => .inl hg, fun g hg => .inl hg, (hb.block w.heap.size (by simp)).trans (heap_alloc_new w _), (h1.step hal).step hb, (h2.step hal).step hb, ho.base_le (by simp), fun g hg => ⟨hd g hg, fun hm => ?_⟩, fun g hg hm => ?_, (hp.step hal).step hb, hA, hD, fun hn g o e hm => ?_⟩
  · have := hnew g hm; have := (h1.own g hg).2.2; omega
  · have := hnew g hm; have := (h2.own g hg).2.2; omega
  · have := hnew g hm; have := hp.lt hn e; omega
theorem add_u8 (z : UInt8) : ((z + 1).toNat : Int) = ((z.toNat : Int) + 1) % 256 := by
  rw [UInt8.toNat_add]
  have := z.toNat_lt
  show (((z.toNat + 1) % 256 : Nat) : Int) = _
  omega
attribute [local irreducible] putS putN shortP longP rowR rowC


end Go.Proofs.Ytakmnfcbfbkloaa
