/- Arguments that come in as data, opened into what the walks ask: bytes, rows of bytes. Nothing is claimed of the program here. -/
import Derived.Test.YtjapnjohplbipaaJoin
import Derived.Test.YtjapnjohplbipaaRows
import Derived.ProofKit
import Derived.OpenShut
import Derived.Deep.Slices
import Derived.ShutString
import Derived.ChangeOld
import Derived.Below
namespace Go.Proofs.Ytjapnjohplbipaa
open Go.ChangeShapes Go.WideShapes Go.ChangeAt Go.RowKit
open Go.ChangeMaps (open_string shut_string)
set_option linter.unusedVariables false

theorem own_knob : ownKnob Try.prog.godebug = none := by kernel_rfl
theorem laid_out : laidOutB Try.prog = true := by kernel_rfl

theorem rb_of_cells {w : World} {x : Addr} {len cap : Nat} {zs : List Int} (hl : len ≤ cap) (hz : zs.length = cap) (hcell : ∀ i, i < zs.length → w.cell? (x.add i) = some (.int .u8 (zs.getD i 0))) (hwz : ∀ n ∈ zs, (Lit.int .u8 n).wf = true) :
    ∃ l, RB w w.heap.size (some x) len l := by
  rcases Nat.eq_zero_or_pos len with h0 | h0
  · subst h0; exact ⟨[], RB.nil_⟩
  · obtain ⟨b, off, spot⟩ := x
    have hc := hcell 0 (by omega)
    have hspot : spot = none := by simpa [Addr.add] using World.cell?_spot hc
    subst hspot
    have hb : b < w.heap.size := World.block_lt_of_cell? w _ hc
    refine ⟨(zs.take len).map fun n => UInt8.ofNat n.toNat, by simp; omega, fun _ => ⟨b, off, rfl, hb, fun i hi => ?_⟩⟩
    have hi' : i < len := by simp at hi; omega
    have hc := hcell i (by omega)
    have hw := hwz (zs.getD i 0) (by rw [List.getD_eq_getElem?_getD, List.getElem?_eq_getElem (by omega)]; exact List.getElem_mem _)
    have hadd : (⟨b, off, none⟩ : Addr).add i = ⟨b, off + i, none⟩ := by unfold Addr.add; split <;> simp_all
    rw [hadd] at hc
    rw [hc]
    have hr : 0 ≤ zs.getD i 0 ∧ zs.getD i 0 ≤ 255 := bounds_u8 hw
    have e : (zs.getD i 0) = zs[i] := by rw [List.getD_eq_getElem?_getD, List.getElem?_eq_getElem (by omega)]; rfl
    rw [e] at hr ⊢
    simp only [bv, List.getElem_map, List.getElem_take, Option.some.injEq, Value.int.injEq, true_and]
    simp
    omega

/-- A slice of bytes that came in. -/
theorem open_bytes {H : Type} {enc : TypeId × Value → H} {w : World} {f : Nat} {a : Option Addr} {len cap : Nat} {d : DataW H} {p : List MemPlace}
    (hf : DataW.trod enc Try.prog w 0 (fun _ => true) true f 22 (Value.slice a len cap).cells.toList = some (d, p)) : (∃ l, RB w w.heap.size a len l) ∧ len ≤ cap ∧ cap ≤ maxLen := by
  rcases open_ints Try.underlying22 Try.underlying5 (by kernel_rfl) hf with ⟨hcs, _⟩ | ⟨x, l, c, zs, hcs, _, hl, hm, hz, _, hcell, hwz⟩
  · simp [Value.cells] at hcs
    obtain ⟨rfl, rfl, rfl⟩ := hcs
    exact ⟨⟨[], RB.nil_⟩, Nat.le_refl _, Nat.zero_le _⟩
  · simp [Value.cells] at hcs
    obtain ⟨rfl, rfl, rfl⟩ := hcs
    exact ⟨rb_of_cells hl (by simpa using hz) hcell hwz, hl, hm⟩
/-- One part among rows. -/
theorem open_part {H : Type} {enc : TypeId × Value → H} {w : World} {f : Nat} {v : Value} {x : DataW H × List MemPlace}
    (hf : DataW.trod enc Try.prog w 0 (fun _ => true) true f 22 [v] = some x) : ∃ r : Option Addr × List UInt8 × Nat, v = .slice r.1 r.2.1.length r.2.2 ∧ RB w w.heap.size r.1 r.2.1.length r.2.1 ∧ r.2.1.length ≤ maxLen := by
  rcases open_ints Try.underlying22 Try.underlying5 (by kernel_rfl) hf with ⟨hcs, _⟩ | ⟨a, l, c, zs, hcs, _, hl, hm, hz, _, hcell, hwz⟩
  · simp at hcs
    subst hcs
    exact ⟨(none, [], 0), rfl, RB.nil_, Nat.zero_le _⟩
  · simp at hcs
    subst hcs
    obtain ⟨ls, hr⟩ := rb_of_cells hl (by simpa using hz) hcell hwz
    have e := hr.len
    subst e
    exact ⟨(some a, ls, c), rfl, hr, by unfold maxLen at hm ⊢; simp only; omega⟩
/-- Rows that came in, each of a length that an int holds. -/
def RP (w : World) (B : Nat) (A : Option Addr) (n : Nat) (ps : List (List UInt8)) : Prop := RR w B A n ps ∧ ∀ p ∈ ps, p.length ≤ maxLen
theorem open_rows {H : Type} {enc : TypeId × Value → H} {w : World} {f : Nat} {a : Option Addr} {len cap : Nat} {d : DataW H} {p : List MemPlace}
    (hf : DataW.trod enc Try.prog w 0 (fun _ => true) true f 33 (Value.slice a len cap).cells.toList = some (d, p)) : (∃ ps, RP w w.heap.size a len ps) ∧ len ≤ cap ∧ cap ≤ maxLen := by
  rcases Deep.open_slice1 Try.underlying33 (by kernel_rfl) hf with ⟨hcs, _⟩ | ⟨x, l, c, m, n, V, D, Pl, hcs, _, hl, hm, hmm, _, hx⟩
  · simp [Value.cells] at hcs
    obtain ⟨rfl, rfl, rfl⟩ := hcs
    exact ⟨⟨[], ⟨rfl, fun h => absurd h (by omega)⟩, by simp⟩, Nat.le_refl _, Nat.zero_le _⟩
  · simp [Value.cells] at hcs
    obtain ⟨rfl, rfl, rfl⟩ := hcs
    refine ⟨?_, hl, hm⟩
    simp only [if_true] at hmm
    subst hmm
    obtain ⟨g, hg⟩ := Deep.choose_lt (n := len) (p := fun i (r : Option Addr × List UInt8 × Nat) => w.cell? (x.add i) = some (.slice r.1 r.2.1.length r.2.2) ∧ RB w w.heap.size r.1 r.2.1.length r.2.1 ∧ r.2.1.length ≤ maxLen) (fun i hi => by
      obtain ⟨h1, h2⟩ := hx i (by omega)
      obtain ⟨r, hv, hr, hle⟩ := open_part h2
      exact ⟨r, by rw [h1, hv], hr, hle⟩)
    refine ⟨(List.range len).map fun i => (g i).2.1, ⟨by simp, fun hn => ?_⟩, fun p hp => ?_⟩
    · obtain ⟨b, off, spot⟩ := x
      have hc := (hg 0 hn).1
      have hspot : spot = none := by simpa [Addr.add] using World.cell?_spot hc
      subst hspot
      have hb : b < w.heap.size := World.block_lt_of_cell? w _ hc
      refine ⟨b, off, rfl, hb, fun i p hp => ?_⟩
      rw [List.getElem?_map] at hp
      obtain ⟨j, hj, rfl⟩ := Option.map_eq_some_iff.1 hp
      have hij : j = i ∧ i < len := by
        have := List.getElem?_eq_some_iff.1 hj
        obtain ⟨h1, h2⟩ := this
        simp at h1 h2
        omega
      obtain ⟨rfl, hi⟩ := hij
      have hadd : (⟨b, off, none⟩ : Addr).add j = ⟨b, off + j, none⟩ := by unfold Addr.add; split <;> simp_all
      obtain ⟨h1, h2, _⟩ := hg j hi
      rw [hadd] at h1
      exact ⟨_, _, h1, h2⟩
    · obtain ⟨i, hi, rfl⟩ := List.mem_map.1 hp
      exact (hg i (by simpa using hi)).2.2
end Go.Proofs.Ytjapnjohplbipaa
