/- Rows of bytes that come in as data, opened into what the walks ask. Nothing is claimed of the program here. -/
import Derived.Test.YtocbdgkehgmahaaOpen
import Derived.Test.YtocbdgkehgmahaaRowsIn
import Derived.Deep.Slices
namespace Go.Proofs.Ytocbdgkehgmahaa
open Go.ChangeShapes Go.WideShapes Go.ChangeAt Go.RowKit
open Go.ChangeMaps (open_string shut_string)
set_option linter.unusedVariables false

/-- One part among rows. -/
theorem open_part {H : Type} {enc : TypeId × Value → H} {w : World} {f : Nat} {v : Value} {x : DataW H × List MemPlace}
    (hf : DataW.trod enc Try.prog w 0 (fun _ => true) true f 32 [v] = some x) : ∃ r : Option Addr × List UInt8 × Nat, v = .slice r.1 r.2.1.length r.2.2 ∧ RB w w.heap.size r.1 r.2.1.length r.2.1 ∧ r.2.1.length ≤ maxLen ∧ r.2.1.length ≤ r.2.2 := by
  rcases open_ints Try.underlying32 Try.underlying5 (by kernel_rfl) hf with ⟨hcs, _⟩ | ⟨a, l, c, zs, hcs, _, hl, hm, hz, _, hcell, hwz⟩
  · simp at hcs
    subst hcs
    exact ⟨(none, [], 0), rfl, RB.nil_, Nat.zero_le _, Nat.le_refl _⟩
  · simp at hcs
    subst hcs
    obtain ⟨ls, hr⟩ := rb_of_cells hl (by simpa using hz) hcell hwz
    have e := hr.len
    subst e
    exact ⟨(some a, ls, c), rfl, hr, by unfold maxLen at hm ⊢; simp only; omega, hl⟩
/-- Rows that came in, each of a length that an int holds. -/
def RP (w : World) (B : Nat) (A : Option Addr) (n : Nat) (ps : List (List UInt8)) : Prop := RR w B A n ps ∧ ∀ p ∈ ps, p.length ≤ maxLen
/-- Each row has room for its bytes. -/
def Caps (w : World) (A : Option Addr) (n : Nat) : Prop := ∀ b o i Ai ni ci, A = some ⟨b, o, none⟩ → i < n → w.cell? ⟨b, o + i, none⟩ = some (.slice Ai ni ci) → ni ≤ ci
def RPC (w : World) (B : Nat) (A : Option Addr) (n : Nat) (ps : List (List UInt8)) : Prop := RP w B A n ps ∧ Caps w A n
theorem open_rowsC {H : Type} {enc : TypeId × Value → H} {w : World} {f : Nat} {a : Option Addr} {len cap : Nat} {d : DataW H} {p : List MemPlace}
    (hf : DataW.trod enc Try.prog w 0 (fun _ => true) true f 23 (Value.slice a len cap).cells.toList = some (d, p)) : (∃ ps, RPC w w.heap.size a len ps) ∧ len ≤ cap ∧ cap ≤ maxLen := by
  rcases Deep.open_slice1 Try.underlying23 (by kernel_rfl) hf with ⟨hcs, _⟩ | ⟨x, l, c, m, n, V, D, Pl, hcs, _, hl, hm, hmm, _, hx⟩
  · simp [Value.cells] at hcs
    obtain ⟨rfl, rfl, rfl⟩ := hcs
    exact ⟨⟨[], ⟨⟨rfl, fun h => absurd h (by omega)⟩, by simp⟩, fun b o i Ai ni ci _ h => absurd h (by omega)⟩, Nat.le_refl _, Nat.zero_le _⟩
  · simp [Value.cells] at hcs
    obtain ⟨rfl, rfl, rfl⟩ := hcs
    refine ⟨?_, hl, hm⟩
    simp only [if_true] at hmm
    subst hmm
    obtain ⟨g, hg⟩ := Deep.choose_lt (n := len) (p := fun i (r : Option Addr × List UInt8 × Nat) => w.cell? (x.add i) = some (.slice r.1 r.2.1.length r.2.2) ∧ RB w w.heap.size r.1 r.2.1.length r.2.1 ∧ r.2.1.length ≤ maxLen ∧ r.2.1.length ≤ r.2.2) (fun i hi => by
      obtain ⟨h1, h2⟩ := hx i (by omega)
      obtain ⟨r, hv, hr, hle⟩ := open_part h2
      exact ⟨r, by rw [h1, hv], hr, hle⟩)
    refine ⟨(List.range len).map fun i => (g i).2.1, ⟨⟨by simp, fun hn => ?_⟩, fun p hp => ?_⟩, fun b o i Ai ni ci hA hi hc => ?_⟩
    · obtain ⟨b, off, spot⟩ := x
      have hc := (hg 0 hn).1
      have hspot : spot = none := by simpa [Addr.add] using World.cell?_spot hc
      subst hspot
      have hb : b < w.heap.size := World.block_lt_of_cell? w _ hc
      refine ⟨b, off, rfl, hb, fun i p hp => ?_⟩
      rw [List.getElem?_map] at hp
      obtain ⟨j, hj, rfl⟩ := Option.map_eq_some_iff.1 hp
      have hij : j = i ∧ i < len := by
        have := List.getElem?_eq_some_iff.1 hj
        obtain ⟨h1, h2⟩ := this
        simp at h1 h2
        omega
      obtain ⟨rfl, hi⟩ := hij
      have hadd : (⟨b, off, none⟩ : Addr).add j = ⟨b, off + j, none⟩ := by unfold Addr.add; split <;> simp_all
      obtain ⟨h1, h2, _⟩ := hg j hi
      rw [hadd] at h1
      exact ⟨_, _, h1, h2⟩
    · obtain ⟨i, hi, rfl⟩ := List.mem_map.1 hp
      exact (hg i (by simpa using hi)).2.2.1
    · injection hA with hA
      subst hA
      obtain ⟨h1, _, _, h4⟩ := hg i hi
      rw [show (⟨b, o, none⟩ : Addr).add i = ⟨b, o + i, none⟩ by unfold Addr.add; split <;> simp_all, hc] at h1
      injection h1 with h1
      injection h1 with _ h5 h6
      rw [h5, h6]; exact h4
theorem open_rows {H : Type} {enc : TypeId × Value → H} {w : World} {f : Nat} {a : Option Addr} {len cap : Nat} {d : DataW H} {p : List MemPlace}
    (hf : DataW.trod enc Try.prog w 0 (fun _ => true) true f 23 (Value.slice a len cap).cells.toList = some (d, p)) : (∃ ps, RP w w.heap.size a len ps) ∧ len ≤ cap ∧ cap ≤ maxLen := by
  obtain ⟨⟨ps, h, _⟩, h2⟩ := open_rowsC hf
  exact ⟨⟨ps, h⟩, h2⟩
end Go.Proofs.Ytocbdgkehgmahaa
