/- Layer 13: what a walk over an offer's header, its rest and its versions carries. Nothing is claimed of the program here. -/
import Derived.Test.YtppopdjfecabfaaOffP
import Derived.Test.YtppopdjfecabfaaOffM
namespace Go.Proofs.Ytppopdjfecabfaa
open Go.RowKit
set_option linter.unusedVariables false
set_option linter.unusedSimpArgs false

section
variable {T : TypeId} {v w w1 w2 w3 w4 w' : World} {x g q base base' n n1 c c1 : Nat} {h : Hd} {A A1 : Option Addr} {ls : List Nat} {r : List UInt8} {S : List Nat}
theorem OwnV.oth (k : OwnV w base A n c ls) (ho : Oth S w w') (ha : ∀ g o, A = some ⟨g, o, none⟩ → g ∉ S) : OwnV w' base A n c ls := by
  refine ⟨⟨k.1.1, ?_⟩, k.2⟩
  rcases k.1.2 with h0 | ⟨g, cap, cur, hv, hbg, hh, r⟩
  · exact .inl h0
  · have hA : A = some ⟨g, 0, none⟩ := by injection hv
    exact .inr ⟨g, cap, cur, hv, hbg, (ho.block g (Array.getElem?_eq_some_iff.1 hh).1 (ha g 0 hA)).trans hh, r⟩
/-- Versions of a call's own lie in no header. -/
theorem Hc.nov (k : Hc T w x h) (hT : T ≠ 34) (r : OwnV w base A n c ls) : ∀ g o, A = some ⟨g, o, none⟩ → g ≠ x := by
  intro g o e hg
  subst hg
  rcases r.1.2 with ⟨h0, _⟩ | ⟨g', cap, cur, hv, _, hh, _⟩
  · rw [e] at h0; cases h0
  · rw [e] at hv
    injection hv with hv
    injection hv with hv
    injection hv with e1
    subst e1
    rw [show w.heap[g]? = _ from k] at hh
    injection hh with hh
    injection hh with _ e2
    exact hT e2
/-- Nor do bytes lie among versions. -/
theorem OwnV.nob (k : OwnV w base A n c ls) : NoB (blkO A) w := by
  intro j hj cs fr e
  obtain ⟨a, ha, hb⟩ := mem_blkO hj
  rcases k.1.2 with ⟨h0, _⟩ | ⟨g', cap, cur, hv, _, hh, _⟩
  · rw [ha] at h0; cases h0
  · rw [ha] at hv
    injection hv with hv
    injection hv with hv
    rw [hv] at hb
    have hb' : g' = j := hb
    subst hb'
    rw [hh] at e
    injection e with e
    injection e with _ e2
    exact absurd e2 (by decide)
theorem OwnV.spot (k : OwnV w base A n c ls) : ∀ g ∈ blkO A, A = some ⟨g, 0, none⟩ ∧ base ≤ g := by
  intro j hj
  obtain ⟨a, ha, hb⟩ := mem_blkO hj
  rcases k.1.2 with ⟨h0, _⟩ | ⟨g', cap, cur, hv, hbg, hh, _⟩
  · rw [ha] at h0; cases h0
  · rw [ha] at hv
    injection hv with hv
    injection hv with hv
    rw [hv] at hb
    have hb' : g' = j := hb
    subst hb'
    exact ⟨by rw [ha, hv], hbg⟩
/-- A call that gives a header, versions, and an error's number: all new. -/
def RetHV (r : Pl × List Nat × Int) (w : World) (e : Ending) (w' : World) : Prop :=
  ∃ (h : Hd) (A : Option Addr) (n c : Nat), e = .returned (.tuple #[h.val, .slice A n c, .int .i64 r.2.2]) ∧ h.pl = r.1 ∧ h.own w' w.heap.size ∧ OwnV w' w.heap.size A n c r.2.1 ∧ Below w.heap.size w w'
/-- A header in its variable g, the result's variable q, the bytes behind the header. -/
structure VK (v : World) (T : TypeId) (g q : Nat) (h : Hd) (A : Option Addr) (n c : Nat) (r : List UInt8) (w : World) : Prop where
  bel : Below v.heap.size v w
  lg : v.heap.size ≤ g
  lq : v.heap.size ≤ q
  gq : g ≠ q
  hd : Hc T w g h
  hq : Hc T w q zeroH
  own : h.own w v.heap.size
  row : OwnB w v.heap.size A n c r
theorem VK.step (k : VK v T g q h A n c r w) (hb : Below w.heap.size w w') : VK v T g q h A n c r w' :=
  ⟨bel_next k.bel hb, k.lg, k.lq, k.gq, k.hd.step hb, k.hq.step hb, k.own.step hb, k.row.below hb⟩
theorem VK.start (b1 : Below v.heap.size v w1) (lq : v.heap.size ≤ q) (hq : Hc T w1 q zeroH) (b2 : Below w1.heap.size w1 w2) (own : h.own w2 w1.heap.size) (row : OwnB w2 w1.heap.size A n c r) (b3 : Below w2.heap.size w2 w3) (lg : w2.heap.size ≤ g) (hd : Hc T w4 g h) (ho : Oth [g] w3 w4) : VK v T g q h A n c r w4 := by
  have b4 : Below w2.heap.size w2 w4 := b3.trans (ho.below (fun j hj => by rw [List.mem_singleton.1 hj]; exact lg) b3.size)
  have lt := hq.lt
  have s2 := b2.size
  have s1 := b1.size
  exact ⟨bel_next (bel_next b1 b2) b4, by omega, lq, by omega, hd, (hq.step b2).step b4, (own.step b4).base_le s1, (row.below b4).base_le s1⟩
theorem VK.bel' (k : VK v T g q h A n c r w) (ho : Oth [q] w w') : Below v.heap.size v w' :=
  k.bel.trans (ho.below (fun j hj => by rw [List.mem_singleton.1 hj]; exact k.lq) k.bel.size)
theorem VK.done (k : VK v T g q h A n c r w) (hT : T ≠ 5) (hT' : T ≠ 34) (hv : OwnV w v.heap.size A1 n1 c1 ls) (ho : Oth [q] w w') : h.own w' v.heap.size ∧ OwnV w' v.heap.size A1 n1 c1 ls ∧ Below v.heap.size v w' :=
  ⟨k.own.off ho (k.hq.nob hT), hv.oth ho (fun g o e => by simpa using k.hq.nov hT' hv g o e), k.bel' ho⟩
/-- Versions that grow beside it. -/
theorem VK.app (k : VK v T g q h A n c r w) (hT' : T ≠ 34) (hv : OwnV w v.heap.size A1 n1 c1 ls) (hg : w.grownBy w' (Value.ownBlock (.slice A1 n1 c1))) : VK v T g q h A n c r w' := by
  have ho := Oth.of_grown hg
  have hs := hv.spot
  have hn := hv.nob
  exact ⟨k.bel.trans (ho.below (fun j hj => (hs j hj).2) k.bel.size), k.lg, k.lq, k.gq, k.hd.oth ho (fun hm => k.hd.nov hT' hv _ _ (hs _ hm).1 rfl), k.hq.oth ho (fun hm => k.hq.nov hT' hv _ _ (hs _ hm).1 rfl), k.own.off ho hn, k.row.offS ho hn⟩
end
theorem vtk_snoc {l : List Nat} {k x : Nat} (h : l[k]? = some x) : l.take (k + 1) = l.take k ++ [x] := by rw [List.take_add_one, h]; rfl
end Go.Proofs.Ytppopdjfecabfaa
