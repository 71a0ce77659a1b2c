/- Layer 9's writers in memory, and what they put: the code's. Conditions: a writer is as Write, or an older call, left it; lengths as each law says. -/
import Derived.Test.YtpkombfiejdflaaScan
import Derived.Test.YtpkombfiejdflaaAppAt
namespace Go.Proofs.Ytpkombfiejdflaa
open Go.RowKit
set_option linter.unusedVariables false
set_option linter.unusedSimpArgs false

/-- What a writer holds behind a part p, or an error e. -/
def putS (p : List UInt8) (e : Int) (s : Int × List UInt8) : Int × List UInt8 := if s.1 = 0 then (if e = 0 then (0, s.2 ++ p) else (e, s.2)) else s
theorem putS_1 {s : Int × List UInt8} (h : s.1 ≠ 0) (p : List UInt8) (e : Int) : putS p e s = s := if_neg h
theorem putS_0 (p l : List UInt8) : putS p 0 (0, l) = (0, l ++ p) := by unfold putS; rw [if_pos rfl, if_pos rfl]
theorem putS_e (p l : List UInt8) {e : Int} (he : e ≠ 0) : putS p e (0, l) = (e, l) := by unfold putS; rw [if_pos rfl, if_neg he]
theorem putS_two (p q : List UInt8) (s : Int × List UInt8) : putS q 0 (putS p 0 s) = putS (p ++ q) 0 s := by
  obtain ⟨z, l⟩ := s
  by_cases h : z = 0
  · subst h; rw [putS_0, putS_0, putS_0, List.append_assoc]
  · rw [putS_1 (s := (z, l)) h, putS_1 (s := (z, l)) h, putS_1 (s := (z, l)) h]
theorem putS_fail (p : List UInt8) (e z : Int) (hz : z ≠ 0) (s : Int × List UInt8) : putS p e (failS s z) = putS [] z s := by
  obtain ⟨y, l⟩ := s
  by_cases h : y = 0
  · subst h; rw [failS_0, putS_1 (s := (z, l)) hz, putS_e _ _ hz]
  · rw [failS_1 (s := (y, l)) h, putS_1 (s := (y, l)) h, putS_1 (s := (y, l)) h]
theorem putS_len (p : List UInt8) (e : Int) (s : Int × List UInt8) : (putS p e s).2.length ≤ s.2.length + p.length := by
  unfold putS
  split
  · split
    · simp only [List.length_append]; omega
    · simp only; omega
  · omega
/-- The block of an address. -/
def blkO (A : Option Addr) : List Nat := match A with | some a => [a.block] | none => []
theorem mem_blkO {A : Option Addr} {g : Nat} (h : g ∈ blkO A) : ∃ a, A = some a ∧ a.block = g := by
  cases A with
  | none => simp [blkO] at h
  | some a => exact ⟨a, rfl, by simpa [blkO, eq_comm] using h⟩
theorem Oth.of_grown {w w' : World} {A : Option Addr} {n c : Nat} (h : w.grownBy w' (Value.ownBlock (.slice A n c))) : Oth (blkO A) w w' :=
  ⟨h.os, h.tape, h.output, h.size, fun k hk hn => h.block k hk (fun e => hn (by
    cases A with
    | none => simp [Value.ownBlock] at e
    | some a => simp [Value.ownBlock] at e; simp [blkO, e]))⟩
/-- The code's writer: block x, its bytes at A, its state s. -/
def WrR (w : World) (x base : Nat) (A : Option Addr) (s : Int × List UInt8) : Prop := ∃ n c, Two 74 w x (.int .i64 s.1) (.slice A n c) ∧ OwnB w base A n c s.2
theorem OwnB.spot {w : World} {base n c : Nat} {A : Option Addr} {l : List UInt8} (h : OwnB w base A n c l) : ∀ a, A = some a → a = ⟨a.block, 0, none⟩ ∧ base ≤ a.block ∧ a.block < w.heap.size := by
  intro a e
  rcases h.2 with ⟨hv, _⟩ | ⟨g, cap, cur, hv, hb, hh, _⟩
  · rw [e] at hv; cases hv
  · rw [e] at hv
    injection hv with hv
    injection hv with hv
    subst hv
    exact ⟨rfl, hb, (Array.getElem?_eq_some_iff.1 hh).1⟩
section
variable {w w1 w' : World} {x y base base' : Nat} {A A' : Option Addr} {s t : Int × List UInt8} {S : List Nat}
theorem WrR.lt (h : WrR w x base A s) : x < w.heap.size := by obtain ⟨n, c, h, _⟩ := h; exact h.lt
theorem WrR.oth (h : WrR w x base A s) (ho : Oth S w w') (hx : x ∉ S) (hA : ∀ g ∈ blkO A, g ∉ S) : WrR w' x base A s := by
  obtain ⟨n, c, h1, h2⟩ := h
  exact ⟨n, c, h1.oth ho hx, h2.oth ho (fun g o e => hA g (by rw [e]; simp [blkO]))⟩
theorem WrR.own (h : WrR w x base A s) : ∀ g ∈ blkO A, g ≠ x ∧ base ≤ g ∧ g < w.heap.size := by
  obtain ⟨n, c, h1, h2⟩ := h
  intro g hg
  obtain ⟨a, e, rfl⟩ := mem_blkO hg
  have hs := h2.spot a e
  exact ⟨h1.own (by decide) h2 _ _ (by rw [e, hs.1]), hs.2⟩
theorem WrR.step (h : WrR w x base A s) (hb : Below w.heap.size w w') : WrR w' x base A s := by
  obtain ⟨n, c, h1, h2⟩ := h
  exact ⟨n, c, h1.step hb, h2.below hb⟩
theorem WrR.row (h : WrR w x base A s) {B n : Nat} {D : Option Addr} {l : List UInt8} (r : RB w B D n l) : 0 < n → ∀ g o, D = some ⟨g, o, none⟩ → g ≠ x := by
  obtain ⟨n', c', h1, _⟩ := h
  exact fun hn g o e => h1.far (int_ne_bv _) (slice_ne_bv _ _ _) r hn g o e
end
/-- A call of a writer: its bytes lie where they lay, or in a new block. -/
def RetW (R : World → Nat → Nat → Option Addr → Int × List UInt8 → Prop) (x base : Nat) (A : Option Addr) (s' : Int × List UInt8) (v : Value) (w : World) (e : Ending) (w' : World) : Prop :=
  e = .returned v ∧ ∃ A', (∀ g ∈ blkO A', g ∈ blkO A ∨ w.heap.size ≤ g) ∧ Oth (x :: blkO A) w w' ∧ R w' x base A' s'
/-- Two steps of a writer. -/
theorem Oth.chain {w w1 w' : World} {x : Nat} {A A1 : Option Addr} (h : Oth (x :: blkO A) w w1) (hA : ∀ g ∈ blkO A1, g ∈ blkO A ∨ w.heap.size ≤ g) (k : Oth (x :: blkO A1) w1 w') : Oth (x :: blkO A) w w' :=
  ⟨k.os.trans h.os, k.tape.trans h.tape, k.output.trans h.output, Nat.le_trans h.size k.size, fun i hi hn => (k.block i (Nat.lt_of_lt_of_le hi h.size) (fun hm => by
    rcases List.mem_cons.1 hm with rfl | hm
    · exact hn (by simp)
    · rcases hA i hm with h1 | h1
      · exact hn (List.mem_cons_of_mem _ h1)
      · omega)).trans (h.block i hi hn)⟩
theorem chainA {w w1 : World} {A A1 A2 : Option Addr} (hs : w.heap.size ≤ w1.heap.size) (hA : ∀ g ∈ blkO A1, g ∈ blkO A ∨ w.heap.size ≤ g) (k : ∀ g ∈ blkO A2, g ∈ blkO A1 ∨ w1.heap.size ≤ g) : ∀ g ∈ blkO A2, g ∈ blkO A ∨ w.heap.size ≤ g := fun g hg => by
  rcases k g hg with h | h
  · exact hA g h
  · exact .inr (by omega)
theorem RetW.after {R : World → Nat → Nat → Option Addr → Int × List UInt8 → Prop} {x base : Nat} {A A1 : Option Addr} {s' : Int × List UInt8} {v : Value} {w w1 w' : World} {e : Ending} (k : RetW R x base A1 s' v w1 e w') (h : Oth (x :: blkO A) w w1) (hA : ∀ g ∈ blkO A1, g ∈ blkO A ∨ w.heap.size ≤ g) : RetW R x base A s' v w e w' := by
  obtain ⟨he, A2, h1, h2, h3⟩ := k
  exact ⟨he, A2, chainA h.size hA h1, h.chain hA h2, h3⟩
/-- fail at a writer. -/
theorem fail_wr (x base : Nat) (A : Option Addr) (z : Int) (s : Int × List UInt8) (w : World) (h : WrR w x base A s) :
    Calls Try.prog 32 #[.pointer (some ⟨x, 0, none⟩), .int .i64 z] w fun e w' => e = .returned (.tuple #[]) ∧ Oth [x] w w' ∧ WrR w' x base A (failS s z) := by
  have hown := h.own
  by_cases he : s.1 = 0
  · obtain ⟨s1, l⟩ := s
    simp only at he
    subst he
    obtain ⟨m, c, h1, h2⟩ := h
    refine (fail_0 x z w h1.c0 (h1.free 0)).mono ?_
    rintro e w' ⟨rfl, rfl⟩
    have ho := (Oth.refl [x] w).set (x := x) (by simp) 0 (.int .i64 z)
    rw [failS_0]
    exact ⟨rfl, ho, m, c, h1.set0 _, h2.oth ho (fun g o e => by simpa using (hown g (by rw [e]; simp [blkO])).1)⟩
  · rw [failS_1 he]
    have hR := h
    obtain ⟨m, c, h1, h2⟩ := h
    refine (fail_1 x z _ he w h1.c0).mono ?_
    rintro e w' ⟨rfl, rfl⟩
    exact ⟨rfl, Oth.refl _ _, hR⟩

/-! put. -/
set_option maxRecDepth 100000 in
theorem wput_err (x base : Nat) (A : Option Addr) (z : Int) (B : Option Addr) (m k : Nat) (s : Int × List UInt8) (w : World) (h : WrR w x base A s) (he : (failS s z).1 ≠ 0) :
    Calls Try.prog 38 #[.pointer (some ⟨x, 0, none⟩), .slice B m k, .int .i64 z] w (RetW WrR x base A (failS s z) (.pointer (some ⟨x, 0, none⟩)) w) := by
  have HF := Lib.hid (fail_wr x base A z s w h)
  have hb : ((failS s z).1 != 0) = true := by simpa using he
  clear h
  go_enter Try.func38, Try.ntmps38
  go_wp2_with fail
  refine HF.out.mono ?_
  rintro e w1 ⟨rfl, ho, hr⟩
  have HR := Lib.hid (And.intro ho hr)
  obtain ⟨n, c, t1, t2⟩ := hr
  have h0 := t1.c0
  clear ho t1 t2
  go_wp2_with fail
  refine (failed_any _ _ true hb _ h0).mono ?_
  rintro e w2 ⟨rfl, rfl⟩
  go_wp2_with fail
  go_ret
  exact ⟨rfl, A, fun g hg => .inl hg, HR.out.1.more (fun k hk => by simp only [List.mem_cons, List.not_mem_nil, or_false] at hk; simp [hk]), HR.out.2⟩
set_option maxRecDepth 100000 in
theorem wput_ok (x base : Nat) (A : Option Addr) (B : Option Addr) (m k : Nat) (p l : List UInt8) (w : World) (h : WrR w x base A (0, l)) (hp : RB w w.heap.size B m p) (hb : base ≤ w.heap.size) (hl : l.length ≤ 1000000000) (hm : m ≤ 1000000000) :
    Calls Try.prog 38 #[.pointer (some ⟨x, 0, none⟩), .slice B m k, .int .i64 0] w (RetW WrR x base A (0, l ++ p) (.pointer (some ⟨x, 0, none⟩)) w) := by
  have HF := Lib.hid (fail_wr x base A 0 _ w h)
  rw [failS_0] at HF
  have HP := Lib.hid (And.intro hp (h.row hp))
  clear h hp
  go_enter Try.func38, Try.ntmps38
  go_wp2_with fail
  refine HF.out.mono ?_
  rintro e w1 ⟨rfl, ho, hr⟩
  have HO := Lib.hid ho
  have HW := Lib.hid hr
  obtain ⟨n, c, t1, t2⟩ := hr
  have h0 := t1.c0
  have h1 := t1.c1
  have hn := t2.len
  simp only at t2 hn
  have HT := Lib.hid t1
  have HOW := Lib.hid t2
  have HB := Lib.hid (HP.out.1.oth HO.out (fun hn g o e => by simpa using HP.out.2 hn g o e))
  have hsz : base ≤ w1.heap.size := Nat.le_trans hb HO.out.size
  clear ho t1 t2
  go_wp2_with fail
  refine (failed_any _ 0 false rfl _ h0).mono ?_
  rintro e w2 ⟨rfl, rfl⟩
  go_wp2_with (first
    | (at_builtin; refine wpList_appS rfl (.tmp 21) (.tmp 22) rfl base A n c l rfl HOW.out w1.heap.size B m k p rfl HB.out (by omega) hsz ?_; intro A2 c2 w2 ho2 hg2 hA2; have HO2 := Lib.hid ho2; have HG2 := Lib.hid (Oth.of_grown hg2); have HA2 := Lib.hid hA2; have HX := Lib.hid (HT.out.oth HG2.out (fun hm => (HW.out.own x hm).1 rfl)); have hd1 := HX.out.c1; have hd2 := HX.out.free 1; clear ho2 hg2 hA2))
  go_ret
  have hX : Oth [x] w2 (w2.setCell ⟨x, 1, none⟩ (.slice A2 (n + m) c2)) := (Oth.refl [x] w2).set (x := x) (by simp) 1 _
  have hsub : ∀ k ∈ [x], k ∈ x :: blkO A := fun k hk => by simp only [List.mem_cons, List.not_mem_nil, or_false] at hk; simp [hk]
  refine ⟨rfl, A2, ?_, ((HO.out.more hsub).trans (HG2.out.more (fun k hk => List.mem_cons_of_mem _ hk))).trans (hX.more hsub), n + m, c2, HX.out.set1 _, HO2.out.oth hX (fun g o e => by simpa using HX.out.own (by decide) HO2.out g o e)⟩
  intro g hg
  rcases HA2.out with rfl | e
  · exact .inl hg
  · rw [e] at hg
    simp only [blkO, List.mem_cons, List.not_mem_nil, or_false] at hg
    exact .inr (by rw [hg]; exact HO.out.size)
theorem wput_any (x base : Nat) (A : Option Addr) (z : Int) (B : Option Addr) (m k : Nat) (p : List UInt8) (s : Int × List UInt8) (w : World) (h : WrR w x base A s) (hp : RB w w.heap.size B m p) (hb : base ≤ w.heap.size) (hl : s.2.length ≤ 1000000000) (hm : m ≤ 1000000000) :
    Calls Try.prog 38 #[.pointer (some ⟨x, 0, none⟩), .slice B m k, .int .i64 z] w (RetW WrR x base A (putS p z s) (.pointer (some ⟨x, 0, none⟩)) w) := by
  obtain ⟨y, l⟩ := s
  by_cases hy : y = 0
  · subst hy
    by_cases hz : z = 0
    · subst hz
      rw [putS_0]
      exact wput_ok x base A B m k p l w h hp hb hl hm
    · have := wput_err x base A z B m k (0, l) w h (by rw [failS_0]; exact hz)
      rw [failS_0] at this
      rw [putS_e _ _ hz]
      exact this
  · have := wput_err x base A z B m k (y, l) w h (by rw [failS_1 (s := (y, l)) hy]; exact hy)
    rw [failS_1 (s := (y, l)) hy] at this
    rw [putS_1 (s := (y, l)) hy]
    exact this
end Go.Proofs.Ytpkombfiejdflaa
