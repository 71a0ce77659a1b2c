/- Arguments that come in as data, opened into what the walks ask: bytes. Nothing is claimed of the program here. -/
import Derived.Test.YtocbdgkehgmahaaBytes
import Derived.Test.YtocbdgkehgmahaaRows
import Derived.ProofKit
import Derived.OpenShut
import Derived.ShutString
import Derived.ChangeOld
import Derived.Below
namespace Go.Proofs.Ytocbdgkehgmahaa
open Go.ChangeShapes Go.WideShapes Go.ChangeAt Go.RowKit
open Go.ChangeMaps (open_string shut_string)
set_option linter.unusedVariables false

theorem own_knob : ownKnob Try.prog.godebug = none := by kernel_rfl
theorem laid_out : laidOutB Try.prog = true := by kernel_rfl

/-- A byte that came in. -/
theorem byte_of {x : Int} (h : (Lit.int .u8 x).wf = true) : ∃ b : UInt8, x = (b.toNat : Int) := by
  have hr : 0 ≤ x ∧ x ≤ 255 := bounds_u8 h
  exact ⟨UInt8.ofNat x.toNat, by simp; omega⟩
theorem rb_of_cells {w : World} {x : Addr} {len cap : Nat} {zs : List Int} (hl : len ≤ cap) (hz : zs.length = cap) (hcell : ∀ i, i < zs.length → w.cell? (x.add i) = some (.int .u8 (zs.getD i 0))) (hwz : ∀ n ∈ zs, (Lit.int .u8 n).wf = true) :
    ∃ l, RB w w.heap.size (some x) len l := by
  rcases Nat.eq_zero_or_pos len with h0 | h0
  · subst h0; exact ⟨[], RB.nil_⟩
  · obtain ⟨b, off, spot⟩ := x
    have hc := hcell 0 (by omega)
    have hspot : spot = none := by simpa [Addr.add] using World.cell?_spot hc
    subst hspot
    have hb : b < w.heap.size := World.block_lt_of_cell? w _ hc
    refine ⟨(zs.take len).map fun n => UInt8.ofNat n.toNat, by simp; omega, fun _ => ⟨b, off, rfl, hb, fun i hi => ?_⟩⟩
    have hi' : i < len := by simp at hi; omega
    have hc := hcell i (by omega)
    have hw := hwz (zs.getD i 0) (by rw [List.getD_eq_getElem?_getD, List.getElem?_eq_getElem (by omega)]; exact List.getElem_mem _)
    have hadd : (⟨b, off, none⟩ : Addr).add i = ⟨b, off + i, none⟩ := by unfold Addr.add; split <;> simp_all
    rw [hadd] at hc
    rw [hc]
    have hr : 0 ≤ zs.getD i 0 ∧ zs.getD i 0 ≤ 255 := bounds_u8 hw
    have e : (zs.getD i 0) = zs[i] := by rw [List.getD_eq_getElem?_getD, List.getElem?_eq_getElem (by omega)]; rfl
    rw [e] at hr ⊢
    simp only [bv, List.getElem_map, List.getElem_take, Option.some.injEq, Value.int.injEq, true_and]
    simp
    omega

/-- A slice of bytes that came in. -/
theorem open_bytes {H : Type} {enc : TypeId × Value → H} {w : World} {f : Nat} {a : Option Addr} {len cap : Nat} {d : DataW H} {p : List MemPlace}
    (hf : DataW.trod enc Try.prog w 0 (fun _ => true) true f 32 (Value.slice a len cap).cells.toList = some (d, p)) : (∃ l, RB w w.heap.size a len l) ∧ len ≤ cap ∧ cap ≤ maxLen := by
  rcases open_ints Try.underlying32 Try.underlying5 (by kernel_rfl) hf with ⟨hcs, _⟩ | ⟨x, l, c, zs, hcs, _, hl, hm, hz, _, hcell, hwz⟩
  · simp [Value.cells] at hcs
    obtain ⟨rfl, rfl, rfl⟩ := hcs
    exact ⟨⟨[], RB.nil_⟩, Nat.le_refl _, Nat.zero_le _⟩
  · simp [Value.cells] at hcs
    obtain ⟨rfl, rfl, rfl⟩ := hcs
    exact ⟨rb_of_cells hl (by simpa using hz) hcell hwz, hl, hm⟩
end Go.Proofs.Ytocbdgkehgmahaa
