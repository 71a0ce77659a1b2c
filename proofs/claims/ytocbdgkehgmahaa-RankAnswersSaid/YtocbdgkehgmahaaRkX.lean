/- Layer 23: cuts of entries; a store of one weight. Nothing is claimed of the program here. -/
import Derived.Test.YtocbdgkehgmahaaRkF
namespace Go.Proofs.Ytocbdgkehgmahaa
open Go.RowKit
set_option linter.unusedVariables false
set_option linter.unusedSimpArgs false
/-- The address of entries cut from i on. -/
def cutE (A : Option Addr) (c i : Nat) : Option Addr := if c = i then A else A.map (·.add (i * 2))
theorem cutE_h (A : Option Addr) (n c i : Nat) (h : i ≤ c) : ∀ W : World, (Instr.slice 26 (.slice A n c) none (some (.int .i64 (i : Int))) none).run Try.prog W = .ok (.slice A i c) W := cutG_h gt_rk h
theorem cutE_l (A : Option Addr) (n c i : Nat) (h : i ≤ n) : ∀ W : World, (Instr.slice 26 (.slice A n c) (some (.int .i64 (i : Int))) none none).run Try.prog W = .ok (.slice (cutE A c i) (n - i) (c - i)) W := cutG_l gt_rk h
section
variable {w : World} {B n c i : Nat} {A : Option Addr} {l : List (Int × Int)}
theorem EL.front (h : EL w B A n l) (hi : i ≤ n) : EL w B A i (l.take i) := by
  refine ⟨by rw [List.length_take, h.1]; omega, fun p hp => h.2.1 p (List.mem_of_mem_take hp), fun h0 => ?_⟩
  obtain ⟨b, o, e, hb, hc⟩ := h.2.2 (by omega)
  refine ⟨b, o, e, hb, fun j p hp => hc j p ?_⟩
  rw [List.getElem?_take] at hp
  split at hp
  · exact hp
  · cases hp
theorem EL.back (h : EL w B A n l) (hi : i ≤ n) (hc : n ≤ c) : EL w B (cutE A c i) (n - i) (l.drop i) := by
  refine ⟨by rw [List.length_drop, h.1], fun p hp => h.2.1 p (List.mem_of_mem_drop hp), fun h0 => ?_⟩
  obtain ⟨b, o, rfl, hb, hcell⟩ := h.2.2 (by omega)
  unfold cutE
  rw [if_neg (by omega)]
  refine ⟨b, o + i * 2, by simp [Addr.add], hb, fun j p hp => ?_⟩
  rw [List.getElem?_drop] at hp
  have := hcell (i + j) p hp
  rw [Nat.add_assoc, ← Nat.add_mul]
  exact this
end
theorem flat_setW {x y z : Int} : ∀ {l : List (Int × Int)} {k : Nat}, l[k]? = some (x, y) → ((l.map ent).flatten).set (k * 2 + 1) (.int .i64 z) = ((l.set k (x, z)).map ent).flatten
  | [], k, h => by simp at h
  | e :: l, 0, h => by
    injection h with h
    subst h
    rfl
  | e :: l, k + 1, h => by
    have ih := flat_setW (z := z) (l := l) (k := k) h
    rw [List.set_cons_succ, List.map_cons, List.map_cons, List.flatten_cons, List.flatten_cons, ← ih]
    rw [List.set_append_right _ _ (by rw [ent_len]; omega), ent_len, show (k + 1) * 2 + 1 - 2 = k * 2 + 1 by omega]
section
variable {T : TypeId} {w : World} {base n c g k : Nat} {l : List (Int × Int)} {x y z : Int}
theorem OwnE.form {A : Option Addr} (h : OwnE T w base A n c l) (hn : 0 < n) : ∃ g, A = some ⟨g, 0, none⟩ ∧ base ≤ g ∧ g < w.heap.size := by
  obtain ⟨g, eA, hg⟩ := h.1.spot hn
  exact ⟨g, eA, (h.1.lt g hg).1, (h.1.lt g hg).2⟩
theorem OwnE.setW (h : OwnE T w base (some ⟨g, 0, none⟩) n c l) (he : l[k]? = some (x, y)) (hz : I64e z) : OwnE T (w.setCell ⟨g, k * 2 + 1, none⟩ (.int .i64 z)) base (some ⟨g, 0, none⟩) n c (l.set k (x, z)) := by
  have hs := (World.ownsRow.stored h.1.1 (k * 2 + 1) (.int .i64 z)).1
  rw [flat_setW he] at hs
  refine ⟨⟨hs, by rw [List.length_map, List.length_set]; exact h.len, ents_recs _⟩, fun p hp => ?_⟩
  rcases List.mem_or_eq_of_mem_set hp with h1 | h1
  · exact h.2 p h1
  · rw [h1]
    exact ⟨(h.2 _ (List.mem_of_getElem? he)).1, hz⟩
theorem OwnE.cell1 (h : OwnE T w base (some ⟨g, 0, none⟩) n c l) (he : l[k]? = some (x, y)) : w.cell? ⟨g, k * 2 + 1, none⟩ = some (.int .i64 y) ∧ w.frozen? ⟨g, k * 2 + 1, none⟩ = false := by
  have hk : k < n := by have := (List.getElem?_eq_some_iff.1 he).1; have := h.len; omega
  obtain ⟨b, o, p, e, _, hp, _, _, _, _, c1⟩ := h.el.at_ hk
  injection e with e
  injection e with e1 e2
  subst e1
  subst e2
  rw [he] at hp
  injection hp with hp
  subst hp
  rw [Nat.zero_add] at c1
  exact ⟨c1, World.ownsRow.frozenAt h.1.1 _⟩
end
end Go.Proofs.Ytocbdgkehgmahaa
