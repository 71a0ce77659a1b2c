/- Layer 16: a walk's rows and configurations behind a store into bytes of its own. No condition; nothing is claimed of the program here. -/
import Derived.Test.YtdhnknkochbekaaGreatMdC
namespace Go.Proofs.YtdhnknkochbekaaGreat
open Go.RowKit
set_option linter.unusedVariables false
set_option linter.unusedSimpArgs false
section
variable {v w w1 w' : World} {rows : List (Option Addr × Nat × Nat × List UInt8)} {cs : List (TypeId × Nat × Cfg)} {A : Option Addr} {n c q : Nat} {l : List UInt8} {T : TypeId} {g : Cfg}
theorem MK.addc (k : MK v rows cs w) (hc : Blk T w q g.cells) (h : g.ok) : MK v rows ((T, q, g) :: cs) w := ⟨k.hw, fun r hr => by
  rcases List.mem_cons.1 hr with rfl | hr
  · exact ⟨hc, h⟩
  · exact k.cf r hr⟩
/-- The same from this world on. -/
theorem MK.rebase (k : MK v rows cs w) : MK w rows cs w := ⟨⟨Below.refl _ _, k.hw.row⟩, k.cf⟩
/-- What a later walk carried, seen from an earlier world; fewer rows, fewer variables. -/
theorem MK.over {u : World} {rows2 : List (Option Addr × Nat × Nat × List UInt8)} {cs2 : List (TypeId × Nat × Cfg)} (k : MK v rows cs w) (hb : Below u.heap.size u v) (h1 : ∀ r ∈ rows2, r ∈ rows) (h2 : ∀ r ∈ cs2, r ∈ cs) : MK u rows2 cs2 w :=
  ⟨⟨hb.trans (k.hw.bel.mono hb.size), fun r hr => k.hw.row r (h1 r hr)⟩, fun r hr => k.cf r (h2 r hr)⟩
/-- A variable stays where a byte of the call's own is stored. -/
theorem Blk.poke {base n c j : Nat} {ls : List UInt8} {cs : List Value} {gb : Nat} (k : Blk T w q cs) (hT : T ≠ 5) (ho : OwnB w base (some ⟨gb, 0, none⟩) n c ls) (u : Value) : Blk T (w.setCell ⟨gb, j, none⟩ u) q cs :=
  k.oth ((Oth.refl [gb] w).set (x := gb) (by simp) j u) (fun hm => by
    have h := (k.nob hT).own ho gb 0 rfl
    simp at hm
    exact h (by simp [hm]))
end
end Go.Proofs.YtdhnknkochbekaaGreat
