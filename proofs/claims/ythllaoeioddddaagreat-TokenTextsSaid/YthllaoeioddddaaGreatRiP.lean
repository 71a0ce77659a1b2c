/- Layer 19, plain: numbered keys in the order in which they were installed. Nothing is claimed of the program here. -/
import Derived.Test.YthllaoeioddddaaGreatBase
namespace Go.Proofs.YthllaoeioddddaaGreat
set_option linter.unusedVariables false
/-- Numbered keys, the newest last. -/
abbrev Rg := List (Int × List UInt8)
def seqsR (s : Rg) : List Int := s.map (·.1)
def findR (s : Rg) (q : Int) : Option Nat := s.findIdx? (fun r => r.1 == q)
def hasR (s : Rg) (q : Int) : Bool := (findR s q).isSome
def keyR (s : Rg) (q : Int) : List UInt8 := ((s.find? (fun r => r.1 == q)).map (·.2)).getD []
/-- Install's, Retire's and Newest's answers. -/
def instR (s : Rg) (q : Int) (k : List UInt8) : Rg × Int :=
  if ¬ (0 ≤ q ∧ q ≤ 127 ∧ k.length = 16) then (s, 11) else if hasR s q then (s, 16) else if s.length = 16 then (s, 18) else (s ++ [(q, k)], 0)
def retR (s : Rg) (q : Int) : Rg × Int :=
  if ¬ (0 ≤ q ∧ q ≤ 127) then (s, 11) else if hasR s q then (s.eraseIdx ((findR s q).getD 0), 0) else (s, 17)
def newR (s : Rg) : Int × Bool := match s.getLast? with | some r => (r.1, true) | none => (0, false)
structure okR (s : Rg) : Prop where
  n : s.length ≤ 16
  u : (seqsR s).Nodup
  g : ∀ r ∈ s, (0 ≤ r.1 ∧ r.1 ≤ 127) ∧ r.2.length = 16

section
variable {s t : Rg} {q p : Int} {k : List UInt8} {i : Nat}
theorem nil_okR : okR [] := ⟨by decide, List.nodup_nil, fun r h => by cases h⟩
theorem has_iffR : hasR s q = true ↔ q ∈ seqsR s := by
  unfold hasR findR seqsR
  rw [List.findIdx?_isSome, List.any_eq_true, List.mem_map]
  exact ⟨fun ⟨r, h, e⟩ => ⟨r, h, by simpa using e⟩, fun ⟨r, h, e⟩ => ⟨r, h, by simpa using e⟩⟩
theorem has_noR : hasR s q = false ↔ q ∉ seqsR s := by
  rw [← has_iffR]; cases hasR s q <;> simp
theorem find_atR (h : findR s q = some i) : ∃ r, s[i]? = some r ∧ r.1 = q := by
  unfold findR at h
  obtain ⟨hi, e, _⟩ := List.findIdx?_eq_some_iff_getElem.1 h
  exact ⟨s[i], List.getElem?_eq_getElem hi, by simpa using e⟩
theorem has_someR (h : hasR s q = true) : ∃ i r, findR s q = some i ∧ s[i]? = some r ∧ r.1 = q ∧ i < s.length := by
  unfold hasR at h
  obtain ⟨i, hi⟩ := Option.isSome_iff_exists.1 h
  obtain ⟨r, e, g⟩ := find_atR hi
  exact ⟨i, r, hi, e, g, (List.getElem?_eq_some_iff.1 e).1⟩
theorem find_oneR (u : (seqsR s).Nodup) (hi : i < s.length) (e : (s[i]).1 = q) : findR s q = some i := by
  unfold findR
  rw [List.findIdx?_eq_some_iff_getElem]
  refine ⟨hi, by simpa using e, fun j hj => ?_⟩
  intro g
  have g' : (s[j]'(by omega)).1 = q := by simpa using g
  have h1 : j < (s.map (·.1)).length := by rw [List.length_map]; omega
  have h2 : i < (s.map (·.1)).length := by rw [List.length_map]; omega
  have := List.pairwise_iff_getElem.1 u j i h1 h2 hj
  exact this (((List.getElem_map (l := s) (fun r : Int × List UInt8 => r.1) (h := h1)).trans (g'.trans e.symm)).trans (List.getElem_map (l := s) (fun r : Int × List UInt8 => r.1) (h := h2)).symm)
theorem key_atR (h : findR s q = some i) (e : s[i]? = some (p, k)) : keyR s q = k := by
  unfold keyR
  unfold findR at h
  have : s.find? (fun r => r.1 == q) = some (p, k) := by
    rw [List.find?_eq_some_iff_getElem]
    obtain ⟨hi, a, b⟩ := List.findIdx?_eq_some_iff_getElem.1 h
    obtain ⟨hi', e'⟩ := List.getElem?_eq_some_iff.1 e
    refine ⟨by rw [e'] at a; exact a, i, hi, e', fun j hj => ?_⟩
    have := b j hj
    simpa using this
  rw [this]; rfl
theorem key_oneR (u : (seqsR s).Nodup) (hi : i < s.length) : keyR s (s[i]).1 = (s[i]).2 :=
  key_atR (find_oneR u hi rfl) (by rw [List.getElem?_eq_getElem hi])
theorem key_lenR (h : okR s) (e : hasR s q = true) : (keyR s q).length = 16 := by
  obtain ⟨i, r, hf, hr, hq, hi⟩ := has_someR e
  rw [key_atR (p := r.1) (k := r.2) hf hr]
  exact (h.g r (List.mem_of_getElem? hr)).2
theorem key_noneR (h : hasR s q = false) : keyR s q = [] := by
  unfold keyR
  have : s.find? (fun r => r.1 == q) = none := by
    rw [List.find?_eq_none]
    intro r hr g
    exact has_noR.1 h (List.mem_map.2 ⟨r, hr, by simpa using g⟩)
  rw [this]; rfl
theorem seqs_app : seqsR (s ++ t) = seqsR s ++ seqsR t := List.map_append
theorem inst_okR (h : okR s) : okR (instR s q k).1 := by
  unfold instR
  split
  · exact h
  · split
    · exact h
    · split
      · exact h
      · rename_i a b c
        have a := Decidable.of_not_not a
        have b : hasR s q = false := by simpa using b
        refine ⟨?_, ?_, fun r hr => ?_⟩
        · have := h.n; simp only [List.length_append, List.length_cons, List.length_nil]; omega
        · rw [seqs_app, List.nodup_append]
          refine ⟨h.u, by simp [seqsR], fun x hx y hy e => ?_⟩
          subst e
          have : x = q := by simpa [seqsR] using hy
          subst this; exact has_noR.1 b hx
        · rcases List.mem_append.1 hr with hr | hr
          · exact h.g r hr
          · rw [List.mem_singleton] at hr; subst hr; exact ⟨⟨a.1, a.2.1⟩, a.2.2⟩
theorem ret_okR (h : okR s) : okR (retR s q).1 := by
  unfold retR
  split
  · exact h
  · split
    · refine ⟨Nat.le_trans (List.length_eraseIdx_le ..) h.n, ?_, fun r hr => h.g r (List.mem_of_mem_eraseIdx hr)⟩
      refine List.Sublist.nodup ?_ h.u
      exact (List.eraseIdx_sublist _ _).map _
    · exact h
end
end Go.Proofs.YthllaoeioddddaaGreat
