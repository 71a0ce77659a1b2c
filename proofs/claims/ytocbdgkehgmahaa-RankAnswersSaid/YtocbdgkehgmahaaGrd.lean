/- Layer 19, plain: numbered keys in the order in which they were installed. Nothing is claimed of the program here. -/
import Derived.Test.YtocbdgkehgmahaaBase
import Derived.Test.YtocbdgkehgmahaaBytes
import Derived.Test.YtocbdgkehgmahaaRec
import Derived.Deep.AppendLies
import Derived.ArgAppend
namespace Go.Proofs.Ytocbdgkehgmahaa
set_option linter.unusedVariables false
/-- Numbered keys, the newest last. -/
abbrev Rg := List (Int × List UInt8)
def seqsR (s : Rg) : List Int := s.map (·.1)
def findR (s : Rg) (q : Int) : Option Nat := s.findIdx? (fun r => r.1 == q)
def hasR (s : Rg) (q : Int) : Bool := (findR s q).isSome
def keyR (s : Rg) (q : Int) : List UInt8 := ((s.find? (fun r => r.1 == q)).map (·.2)).getD []
/-- Install's, Retire's and Newest's answers. -/
def instR (s : Rg) (q : Int) (k : List UInt8) : Rg × Int :=
  if ¬ (0 ≤ q ∧ q ≤ 127 ∧ k.length = 16) then (s, 11) else if hasR s q then (s, 16) else if s.length = 16 then (s, 18) else (s ++ [(q, k)], 0)
def retR (s : Rg) (q : Int) : Rg × Int :=
  if ¬ (0 ≤ q ∧ q ≤ 127) then (s, 11) else if hasR s q then (s.eraseIdx ((findR s q).getD 0), 0) else (s, 17)
def newR (s : Rg) : Int × Bool := match s.getLast? with | some r => (r.1, true) | none => (0, false)
structure okR (s : Rg) : Prop where
  n : s.length ≤ 16
  u : (seqsR s).Nodup
  g : ∀ r ∈ s, (0 ≤ r.1 ∧ r.1 ≤ 127) ∧ r.2.length = 16

section
variable {s t : Rg} {q p : Int} {k : List UInt8} {i : Nat}
theorem nil_okR : okR [] := ⟨by decide, List.nodup_nil, fun r h => by cases h⟩
theorem has_iffR : hasR s q = true ↔ q ∈ seqsR s := by
  unfold hasR findR seqsR
  rw [List.findIdx?_isSome, List.any_eq_true, List.mem_map]
  exact ⟨fun ⟨r, h, e⟩ => ⟨r, h, by simpa using e⟩, fun ⟨r, h, e⟩ => ⟨r, h, by simpa using e⟩⟩
theorem has_noR : hasR s q = false ↔ q ∉ seqsR s := by
  rw [← has_iffR]; cases hasR s q <;> simp
theorem find_atR (h : findR s q = some i) : ∃ r, s[i]? = some r ∧ r.1 = q := by
  unfold findR at h
  obtain ⟨hi, e, _⟩ := List.findIdx?_eq_some_iff_getElem.1 h
  exact ⟨s[i], List.getElem?_eq_getElem hi, by simpa using e⟩
theorem has_someR (h : hasR s q = true) : ∃ i r, findR s q = some i ∧ s[i]? = some r ∧ r.1 = q ∧ i < s.length := by
  unfold hasR at h
  obtain ⟨i, hi⟩ := Option.isSome_iff_exists.1 h
  obtain ⟨r, e, g⟩ := find_atR hi
  exact ⟨i, r, hi, e, g, (List.getElem?_eq_some_iff.1 e).1⟩
theorem find_oneR (u : (seqsR s).Nodup) (hi : i < s.length) (e : (s[i]).1 = q) : findR s q = some i := by
  unfold findR
  rw [List.findIdx?_eq_some_iff_getElem]
  refine ⟨hi, by simpa using e, fun j hj => ?_⟩
  intro g
  have g' : (s[j]'(by omega)).1 = q := by simpa using g
  have h1 : j < (s.map (·.1)).length := by rw [List.length_map]; omega
  have h2 : i < (s.map (·.1)).length := by rw [List.length_map]; omega
  have := List.pairwise_iff_getElem.1 u j i h1 h2 hj
  exact this (((List.getElem_map (l := s) (fun r : Int × List UInt8 => r.1) (h := h1)).trans (g'.trans e.symm)).trans (List.getElem_map (l := s) (fun r : Int × List UInt8 => r.1) (h := h2)).symm)
theorem key_atR (h : findR s q = some i) (e : s[i]? = some (p, k)) : keyR s q = k := by
  unfold keyR
  unfold findR at h
  have : s.find? (fun r => r.1 == q) = some (p, k) := by
    rw [List.find?_eq_some_iff_getElem]
    obtain ⟨hi, a, b⟩ := List.findIdx?_eq_some_iff_getElem.1 h
    obtain ⟨hi', e'⟩ := List.getElem?_eq_some_iff.1 e
    refine ⟨by rw [e'] at a; exact a, i, hi, e', fun j hj => ?_⟩
    have := b j hj
    simpa using this
  rw [this]; rfl
theorem key_oneR (u : (seqsR s).Nodup) (hi : i < s.length) : keyR s (s[i]).1 = (s[i]).2 :=
  key_atR (find_oneR u hi rfl) (by rw [List.getElem?_eq_getElem hi])
theorem key_lenR (h : okR s) (e : hasR s q = true) : (keyR s q).length = 16 := by
  obtain ⟨i, r, hf, hr, hq, hi⟩ := has_someR e
  rw [key_atR (p := r.1) (k := r.2) hf hr]
  exact (h.g r (List.mem_of_getElem? hr)).2
theorem key_noneR (h : hasR s q = false) : keyR s q = [] := by
  unfold keyR
  have : s.find? (fun r => r.1 == q) = none := by
    rw [List.find?_eq_none]
    intro r hr g
    exact has_noR.1 h (List.mem_map.2 ⟨r, hr, by simpa using g⟩)
  rw [this]; rfl
theorem seqs_app : seqsR (s ++ t) = seqsR s ++ seqsR t := List.map_append
theorem seqs_len : (seqsR s).length = s.length := List.length_map _
theorem inst_okR (h : okR s) : okR (instR s q k).1 := by
  unfold instR
  split
  · exact h
  · split
    · exact h
    · split
      · exact h
      · rename_i a b c
        have a := Decidable.of_not_not a
        have b : hasR s q = false := by simpa using b
        refine ⟨?_, ?_, fun r hr => ?_⟩
        · have := h.n; simp only [List.length_append, List.length_cons, List.length_nil]; omega
        · rw [seqs_app, List.nodup_append]
          refine ⟨h.u, by simp [seqsR], fun x hx y hy e => ?_⟩
          subst e
          have : x = q := by simpa [seqsR] using hy
          subst this; exact has_noR.1 b hx
        · rcases List.mem_append.1 hr with hr | hr
          · exact h.g r hr
          · rw [List.mem_singleton] at hr; subst hr; exact ⟨⟨a.1, a.2.1⟩, a.2.2⟩
theorem ret_okR (h : okR s) : okR (retR s q).1 := by
  unfold retR
  split
  · exact h
  · split
    · refine ⟨Nat.le_trans (List.length_eraseIdx_le ..) h.n, ?_, fun r hr => h.g r (List.mem_of_mem_eraseIdx hr)⟩
      refine List.Sublist.nodup ?_ h.u
      exact (List.eraseIdx_sublist _ _).map _
    · exact h
/-- What is installed is the newest, one more, and its going leaves what was. -/
theorem inst_zero (e : (instR s q k).2 = 0) : (instR s q k).1 = s ++ [(q, k)] ∧ hasR s q = false ∧ (0 ≤ q ∧ q ≤ 127) ∧ k.length = 16 := by
  unfold instR at e ⊢
  by_cases a : 0 ≤ q ∧ q ≤ 127 ∧ k.length = 16
  · rw [if_neg (fun g => g a)] at e ⊢
    cases b : hasR s q
    · rw [b] at e
      rw [if_neg (by simp)] at e ⊢
      by_cases c : s.length = 16
      · rw [if_pos c] at e; exact absurd (show (18 : Int) = 0 from e) (by decide)
      · rw [if_neg c]; exact ⟨rfl, rfl, ⟨a.1, a.2.1⟩, a.2.2⟩
    · rw [b, if_pos rfl] at e; exact absurd (show (16 : Int) = 0 from e) (by decide)
  · rw [if_pos a] at e; exact absurd (show (11 : Int) = 0 from e) (by decide)
theorem inst_else (e : (instR s q k).2 ≠ 0) : (instR s q k).1 = s := by
  unfold instR at e ⊢
  split
  · rfl
  · split
    · rfl
    · split
      · rfl
      · rename_i a b c; rw [if_neg a, if_neg b, if_neg c] at e; exact absurd rfl e
theorem find_appR (b : hasR s q = false) : findR (s ++ [(q, k)]) q = some s.length := by
  unfold findR
  have : s.findIdx? (fun r => r.1 == q) = none := by
    unfold hasR findR at b
    cases g : s.findIdx? (fun r => r.1 == q) with
    | none => rfl
    | some _ => rw [g] at b; cases b
  rw [List.findIdx?_append, this]
  simp [List.findIdx?_cons]
theorem inst_ret (e : (instR s q k).2 = 0) : retR (instR s q k).1 q = (s, 0) := by
  obtain ⟨g, b, hq, _⟩ := inst_zero e
  rw [g]; unfold retR
  rw [if_neg (fun g => g hq), if_pos (by unfold hasR; rw [find_appR b]; rfl), find_appR b]
  have : (s ++ [(q, k)]).eraseIdx s.length = s := by
    rw [List.eraseIdx_append_of_length_le (Nat.le_refl _)]; simp
  show ((s ++ [(q, k)]).eraseIdx s.length, (0 : Int)) = (s, 0)
  rw [this]
theorem new_appR : newR (s ++ [(q, k)]) = (q, true) := by
  unfold newR; rw [List.getLast?_append]; rfl
theorem new_nilR : newR [] = (0, false) := rfl
theorem new_lastR (h : s ≠ []) : newR s = ((s.getLast h).1, true) := by
  unfold newR; rw [List.getLast?_eq_some_getLast h]
theorem new_seqs (hi : 0 < s.length) : newR s = ((seqsR s)[s.length - 1]'(by rw [seqs_len]; omega), true) := by
  have h : s ≠ [] := by intro e; subst e; exact absurd hi (by decide)
  rw [new_lastR h, List.getLast_eq_getElem]
  unfold seqsR; rw [List.getElem_map]
end
end Go.Proofs.Ytocbdgkehgmahaa

/- Ints in memory: rows that come in, rows that a call makes. Nothing is claimed of the program here. -/
namespace Go.Proofs.Ytocbdgkehgmahaa
open Go.RowKit
set_option linter.unusedVariables false
set_option linter.unusedSimpArgs false

/-- An int as a cell. -/
def zv (x : Int) : Value := .int .i64 x
def zvs (l : List Int) : List Value := l.map zv
theorem zvs_length (l : List Int) : (zvs l).length = l.length := by simp [zvs]
theorem zvs_append (a b : List Int) : zvs (a ++ b) = zvs a ++ zvs b := by simp [zvs]
theorem zvs_one (l : List Int) : ∀ u ∈ zvs l, u.oneCell' = true := by
  intro u hu
  obtain ⟨x, _, rfl⟩ := List.mem_map.1 hu
  rfl
/-- The slice value with address A and length n reads as the ints l in the world w; its cells lie below block B. -/
def ZL (w : World) (B : Nat) (A : Option Addr) (n : Nat) (l : List Int) : Prop :=
  l.length = n ∧ (0 < n → ∃ b o, A = some ⟨b, o, none⟩ ∧ b < B ∧ ∀ i (h : i < l.length), w.cell? ⟨b, o + i, none⟩ = some (.int .i64 l[i])) ∧ ∀ x ∈ l, -9223372036854775808 ≤ x ∧ x ≤ 9223372036854775807
section
variable {w w' : World} {B B' n : Nat} {A : Option Addr} {l : List Int}
theorem ZL.len (h : ZL w B A n l) : l.length = n := h.1
theorem ZL.nil_ : ZL w B A 0 [] := ⟨rfl, fun h => absurd h (by omega), by simp⟩
theorem ZL.at_ {k : Nat} (h : ZL w B A n l) (hk : k < n) : ∃ b o, A = some ⟨b, o, none⟩ ∧ b < B ∧ ∃ x : Int, l[k]? = some x ∧ (-9223372036854775808 ≤ x ∧ x ≤ 9223372036854775807) ∧ w.cell? ⟨b, o + k, none⟩ = some (.int .i64 x) := by
  obtain ⟨b, o, e, hb, hc⟩ := h.2.1 (by omega)
  have hl : k < l.length := by rw [h.1]; exact hk
  exact ⟨b, o, e, hb, l[k], List.getElem?_eq_getElem hl, h.2.2 _ (List.getElem_mem _), hc k hl⟩
theorem ZL.below (h : ZL w B A n l) (hb : Below B w w') : ZL w' B A n l :=
  ⟨h.1, fun hn => by
    obtain ⟨b, o, e, hbb, hc⟩ := h.2.1 hn
    exact ⟨b, o, e, hbb, fun i hi => (hb.cell hbb).trans (hc i hi)⟩, h.2.2⟩
theorem ZL.more (h : ZL w B A n l) (hB : B ≤ B') : ZL w B' A n l :=
  ⟨h.1, fun hn => by
    obtain ⟨b, o, e, hb, hc⟩ := h.2.1 hn
    exact ⟨b, o, e, by omega, hc⟩, h.2.2⟩
theorem ZL.step (h : ZL w w.heap.size A n l) (hb : Below w.heap.size w w') : ZL w' w'.heap.size A n l := (h.below hb).more hb.size
end
theorem ZL.lit (w : World) (l : List Int) (cs : Array Value) (n g : Nat) (e : TypeId) (hc : cs = (zvs l).toArray) (hn : l.length = n) (hg : g = w.heap.size) (hl : ∀ x ∈ l, -9223372036854775808 ≤ x ∧ x ≤ 9223372036854775807) : ZL (w.alloc (.cells cs e)) (w.alloc (.cells cs e)).heap.size (some ⟨g, 0, none⟩) n l := by
  subst hc
  subst hg
  refine ⟨hn, fun h0 => ⟨_, 0, rfl, by show w.heap.size < (w.heap.push _).size; rw [Array.size_push]; omega, fun i hi => ?_⟩, hl⟩
  rw [cell_of_row (w.alloc (.cells (zvs l).toArray e)) w.heap.size (0 + i) _ e (0, 0) (heap_alloc_new w _)]
  simp [zvs, zv, hi]
theorem i64_info : (Try.prog.info? 3).map (fun i => (i.zero, i.size, i.bytes)) = some (some (.int .i64 0), 1, 8) := by kernel_rfl
/-- The slice value (A, n, c) owns the ints l: it is nil and empty, or begins a row that the call made (block base or later). -/
def OwnZ (w : World) (base : Nat) (A : Option Addr) (n c : Nat) (l : List Int) : Prop := w.ownsRow base 3 1 (.slice A n c) n (zvs l) ∧ ∀ x ∈ l, -9223372036854775808 ≤ x ∧ x ≤ 9223372036854775807
section
variable {w w' : World} {base n c : Nat} {A : Option Addr} {l : List Int}
theorem OwnZ.zl (h : OwnZ w base A n c l) : ZL w w.heap.size A n l := by
  have h1 := h.1
  have hl : l.length = n := by have := h1.1; simpa [zvs] using this
  refine ⟨hl, fun hn => ?_, h.2⟩
  rcases h1.2 with ⟨_, h0⟩ | ⟨g, cap, cur, hv, hbg, hh, _⟩
  · omega
  · have hA : A = some ⟨g, 0, none⟩ := by injection hv
    subst hA
    refine ⟨g, 0, rfl, (Array.getElem?_eq_some_iff.1 hh).1, fun i hi => ?_⟩
    have := h1.cells (g := g) rfl i (zv l[i]) (by simp [zvs, List.getElem?_eq_getElem hi])
    have hadd : (⟨g, 0, none⟩ : Addr).add i = ⟨g, 0 + i, none⟩ := by unfold Addr.add; split <;> simp_all
    rw [hadd] at this
    exact this
theorem OwnZ.len (h : OwnZ w base A n c l) : l.length = n := h.zl.len
theorem OwnZ.cap (h : OwnZ w base A n c l) : n ≤ c ∧ c ≤ maxLen := by
  rcases h.1.2 with ⟨hv, h0⟩ | ⟨g, cap, cur, hv, _, _, hnc, hcm, _⟩
  · injection hv with _ _ hc; subst hc; subst h0; exact ⟨Nat.le_refl _, Nat.zero_le _⟩
  · injection hv with _ _ hc; subst hc; exact ⟨hnc, hcm⟩
theorem OwnZ.nil_ (w : World) (base : Nat) : OwnZ w base none 0 0 [] := ⟨World.ownsRow_nil w base _ 1, by simp⟩
theorem OwnZ.base_le {base' : Nat} (h : OwnZ w base A n c l) (hb : base' ≤ base) : OwnZ w base' A n c l := by
  refine ⟨⟨h.1.1, ?_⟩, h.2⟩
  rcases h.1.2 with h0 | ⟨g, cap, cur, hv, hbg, r⟩
  · exact .inl h0
  · exact .inr ⟨g, cap, cur, hv, by omega, r⟩
theorem OwnZ.below (h : OwnZ w base A n c l) (hb : Below w.heap.size w w') : OwnZ w' base A n c l := by
  refine ⟨⟨h.1.1, ?_⟩, h.2⟩
  rcases h.1.2 with h0 | ⟨g, cap, cur, hv, hbg, hh, r⟩
  · exact .inl h0
  · exact .inr ⟨g, cap, cur, hv, hbg, (hb.block g (Array.getElem?_eq_some_iff.1 hh).1).trans hh, r⟩
theorem OwnZ.lit (w : World) (base : Nat) (l : List Int) (cs : Array Value) (n : Nat) (hc : cs = (zvs l).toArray) (hn : l.length = n) (hm : n ≤ maxLen) (hb : base ≤ w.heap.size) (hl : ∀ x ∈ l, -9223372036854775808 ≤ x ∧ x ≤ 9223372036854775807) :
    OwnZ (w.alloc (.cells cs 3)) base (some ⟨w.heap.size, 0, none⟩) n n l := by
  subst hc
  have := World.ownsRow_lit (size := 1) (base := base) (e := 3) w (zvs l).toArray n hb hm (by simp [zvs, hn])
  exact ⟨by simpa using this, hl⟩
end
set_option maxRecDepth 100000 in
/-- append of ints to ints of the call's own, from whatever source. -/
theorem run_appZ {w : World} (T : TypeId) (base : Nat) (A : Option Addr) (n c : Nat) (l : List Int) (hown : OwnZ w base A n c l)
    (B : Nat) (A' : Option Addr) (m c' : Nat) (l' : List Int) (hr : ZL w B A' m l') (hsum : n + m ≤ 10000000000000) (hbase : base ≤ w.heap.size) :
    ∃ A'' c'' w', (Builtin.append_ #[41, 41] T #[.slice A n c, .slice A' m c']).run Try.prog w = .ok (.slice A'' (n + m) c'') w' ∧ OwnZ w' base A'' (n + m) c'' (l ++ l') ∧ w.grownBy w' (Value.ownBlock (.slice A n c)) ∧ Below base w w' := by
  obtain ⟨i0, hi0, hz0, hz1, hz2⟩ := info_parts i64_info
  have key : ∃ v' w', (Builtin.append_ #[41, 41] T #[.slice A n c, .slice A' m c']).run Try.prog w = .ok v' w' ∧ w'.ownsRow base 3 1 v' (n + m) (zvs l ++ zvs l') ∧ w.grownBy w' (Value.ownBlock (.slice A n c)) := by
    rcases Nat.eq_zero_or_pos m with hm | hm
    · subst hm
      have hl' : l' = [] := List.eq_nil_of_length_eq_zero hr.len
      subst hl'
      refine ⟨.slice A n c, w, ?_, by have h0 := hown.1; simpa [zvs] using h0, World.grownBy.refl w _⟩
      rcases A' with _ | ad
      · rcases hown.1.2 with ⟨hv, h0⟩ | ⟨g, cap, cur, hv, _, _, hnc, _⟩
        · injection hv with e1 e2 e3
          subst e1; subst e2; subst e3
          simp [Builtin.append_, run_underlying Try.underlying41, sizeOf, typeInfo, hi0, Builtin.lenOf, Builtin.firstCells]
        · injection hv with e1 e2 e3
          subst e1; subst e3
          simp [Builtin.append_, run_underlying Try.underlying41, sizeOf, typeInfo, hi0, Builtin.lenOf, Builtin.firstCells, hnc, storeCells]
      · rcases hown.1.2 with ⟨hv, h0⟩ | ⟨g, cap, cur, hv, _, _, hnc, _⟩
        · injection hv with e1 e2 e3
          subst e1; subst e2; subst e3
          simp [Builtin.append_, run_underlying Try.underlying41, sizeOf, typeInfo, hi0, Builtin.lenOf, Builtin.firstCells, loadCells, loadCellsFrom]
        · injection hv with e1 e2 e3
          subst e1; subst e3
          simp [Builtin.append_, run_underlying Try.underlying41, sizeOf, typeInfo, hi0, Builtin.lenOf, Builtin.firstCells, hnc, storeCells, loadCells, loadCellsFrom]
    · obtain ⟨b, off, rfl, hb, hcell⟩ := hr.2.1 hm
      obtain ⟨v', w', hrun, h2, h3, _⟩ := run_append_own (P := Try.prog) w base 41 T 3 i0 (.int .i64 0) 1 8 Try.underlying41 hi0 hz0 hz1 hz2 rfl (by omega) (.slice A n c) n (zvs l) hown.1
        ⟨b, off, none⟩ m c' (zvs l') (by rw [zvs_length, hr.len]; omega) (fun j u hu => by
          have hj : j < l'.length := by
            have := (List.getElem?_eq_some_iff.1 hu).1
            simpa [zvs] using this
          have hadd : (⟨b, off, none⟩ : Addr).add j = ⟨b, off + j, none⟩ := by unfold Addr.add; split <;> simp_all
          rw [hadd, hcell j hj, ← hu]
          simp [zvs, zv, hj]) (zvs_one l') (by unfold maxLen; omega) (by omega) hbase
      exact ⟨v', w', hrun, h2, h3⟩
  obtain ⟨v', w', hrun, h2, h3⟩ := key
  obtain ⟨A'', c'', rfl⟩ : ∃ A'' c'', v' = .slice A'' (n + m) c'' := by
    rcases h2.2 with ⟨rfl, h0⟩ | ⟨g, cap, cur, rfl, _⟩
    · exact ⟨none, 0, by rw [h0]⟩
    · exact ⟨_, _, rfl⟩
  exact ⟨A'', c'', w', hrun, ⟨by rw [zvs_append]; exact h2, fun x hx => (List.mem_append.1 hx).elim (hown.2 x) (hr.2.2 x)⟩, h3,
    (Below.refl _ _).grown h3 hbase (fun k hk => (World.ownsRow.lt hown.1 k hk).1)⟩
theorem wpList_appZ {w : World} {ops : Array Oper} {rest : List Oper} {o : Oper} {a : Act} {Q : Exit → Act → World → Prop} (hgd : o.guard = none) (s x : Operand)
    (ho : o.op = .call { callee := .builtin .append, args := #[s, x], argTypes := #[41, 41] })
    (base : Nat) (A : Option Addr) (n c : Nat) (l : List Int) (hs : a.eval s = .slice A n c) (hown : OwnZ w base A n c l)
    (B : Nat) (A' : Option Addr) (m c' : Nat) (l' : List Int) (hx : a.eval x = .slice A' m c') (hr : ZL w B A' m l')
    (hsum : n + m ≤ 10000000000000) (hbase : base ≤ w.heap.size)
    (h : ∀ A'' c'' w', OwnZ w' base A'' (n + m) c'' (l ++ l') → w.grownBy w' (Value.ownBlock (.slice A n c)) → Below base w w' → wpList Try.prog ops Q rest (a.put o.dst (.slice A'' (n + m) c'')) w') : wpList Try.prog ops Q (o :: rest) a w := by
  refine wpList_plain hgd fun K hK => ?_
  obtain ⟨A'', c'', w', hrun, h2, h3, h4⟩ := run_appZ (w := w) o.type base A n c l hown B A' m c' l' hr hsum hbase
  unfold Oper.wp execOp
  simp only [ho, resolve, invoke, builtin, Sem.run_bind, Sem.run_pure, Result.andThen_ok, List.map_toArray, List.map_cons, List.map_nil, hs, hx, hrun]
  exact hK _ _ (h A'' c'' w' h2 h3 h4)
theorem step_appZ {w : World} {ops : Array Oper} {o : Oper} {a : Act} {K : Act → World → Prop} {Q : Exit → Act → World → Prop} {E : Prop} (hgd : o.guard = none) (s x : Operand)
    (ho : o.op = .call { callee := .builtin .append, args := #[s, x], argTypes := #[41, 41] })
    (base : Nat) (A : Option Addr) (n c : Nat) (l : List Int) (hs : a.eval s = .slice A n c) (hown : OwnZ w base A n c l)
    (B : Nat) (A' : Option Addr) (m c' : Nat) (l' : List Int) (hx : a.eval x = .slice A' m c') (hr : ZL w B A' m l')
    (hsum : n + m ≤ 10000000000000) (hbase : base ≤ w.heap.size)
    (h : ∀ A'' c'' w', OwnZ w' base A'' (n + m) c'' (l ++ l') → w.grownBy w' (Value.ownBlock (.slice A n c)) → Below base w w' → K (a.put o.dst (.slice A'' (n + m) c'')) w') :
    if Region.wanted o (yielded ops a.tmps) = true then Oper.wp Try.prog o a w K Q else E := by
  have hw : Region.wanted o (yielded ops a.tmps) = true := by simp [Region.wanted, hgd]
  rw [if_pos hw]
  obtain ⟨A'', c'', w', hrun, h2, h3, h4⟩ := run_appZ (w := w) o.type base A n c l hown B A' m c' l' hr hsum hbase
  unfold Oper.wp execOp
  simp only [ho, resolve, invoke, builtin, Sem.run_bind, Sem.run_pure, Result.andThen_ok, List.map_toArray, List.map_cons, List.map_nil, hs, hx, hrun]
  exact h A'' c'' w' h2 h3 h4
theorem OwnZ.notin {w : World} {base n c : Nat} {A : Option Addr} {l : List Int} (h : OwnZ w base A n c l) : ∀ g, Value.ownBlock (.slice A n c) = some g → base ≤ g ∧ g < w.heap.size := fun g hg => World.ownsRow.lt h.1 g hg
theorem OwnZ.drew {w : World} {base n c : Nat} {A : Option Addr} {l : List Int} (h : OwnZ w base A n c l) : OwnZ w.drew base A n c l := h
theorem ZL.drew {w : World} {B n : Nat} {A : Option Addr} {l : List Int} (h : ZL w B A n l) : ZL w.drew B A n l := h
theorem OwnZ.alloc {w : World} {base n c : Nat} {A : Option Addr} {l : List Int} (h : OwnZ w base A n c l) (o : Obj) : OwnZ (w.alloc o) base A n c l := ⟨World.ownsRow.alloc h.1 o, h.2⟩
end Go.Proofs.Ytocbdgkehgmahaa

/- Rows of records in memory: slices of a call's own whose elements are k cells each, whatever they are. No condition; nothing is claimed of the program here. -/
namespace Go.Proofs.Ytocbdgkehgmahaa
open Go.RowKit
set_option linter.unusedVariables false
set_option linter.unusedSimpArgs false

/-- An element's type, its slice's, its zero's cells, its bytes. -/
structure GT (T S : TypeId) (z : List Value) (bytes : Nat) : Prop where
  und : Try.prog.underlying S = some (.slice T)
  row : ∃ d, Try.prog.underlying T = some d ∧ d.isRow = true
  info : (Try.prog.info? T).map (fun i => (i.zero, i.size, i.bytes)) = some (some (.agg z.toArray), z.length, bytes)
  pos : 0 < z.length
  one : ones z
/-- Each record has k cells. -/
def recs (k : Nat) (rs : List (List Value)) : Prop := ∀ r ∈ rs, r.length = k ∧ ones r
/-- The slice value (A, n, c) begins a row, from block base on, that holds the records rs. -/
def Grd (T : TypeId) (k : Nat) (w : World) (base : Nat) (A : Option Addr) (n c : Nat) (rs : List (List Value)) : Prop :=
  w.ownsRow base T k (.slice A n c) n rs.flatten ∧ rs.length = n ∧ recs k rs
/-- The records that a slice value reads. -/
def RdG (k : Nat) (w : World) (A : Option Addr) (m : Nat) (rs : List (List Value)) : Prop :=
  rs.length = m ∧ recs k rs ∧ (0 < m → ∃ b o, A = some ⟨b, o, none⟩ ∧ b < w.heap.size ∧ ∀ j u, rs.flatten[j]? = some u → w.cell? ⟨b, o + j, none⟩ = some u)
section
variable {k : Nat} {rs ts : List (List Value)}
theorem recs.app (h : recs k rs) (g : recs k ts) : recs k (rs ++ ts) := fun r hr => (List.mem_append.1 hr).elim (h r) (g r)
theorem recs.sub {ts : List (List Value)} (h : recs k rs) (hs : ∀ r ∈ ts, r ∈ rs) : recs k ts := fun r hr => h r (hs r hr)
theorem recs.len (h : recs k rs) : rs.flatten.length = rs.length * k := by
  induction rs with
  | nil => simp
  | cons r rs ih => rw [List.flatten_cons, List.length_append, (h r (.head _)).1, ih (fun q hq => h q (.tail _ hq)), List.length_cons, Nat.succ_mul, Nat.add_comm]
theorem recs.one (h : recs k rs) : ∀ u ∈ rs.flatten, u.oneCell' = true := fun u hu => by
  obtain ⟨r, hr, hm⟩ := List.mem_flatten.1 hu
  exact (h r hr).2 u hm
theorem flat_row : ∀ {rs : List (List Value)} (h : recs k rs) {i : Nat} {r : List Value} {j : Nat}, rs[i]? = some r → j < k → rs.flatten[i * k + j]? = r[j]?
  | [], _, i, r, j, hx, _ => by simp at hx
  | q :: rs, h, 0, r, j, hx, hj => by
    injection hx with hx
    subst hx
    rw [List.flatten_cons, List.getElem?_append_left (by rw [(h q (.head _)).1]; omega), Nat.zero_mul, Nat.zero_add]
  | q :: rs, h, i + 1, r, j, hx, hj => by
    have e : (i + 1) * k + j = k + (i * k + j) := by rw [Nat.succ_mul]; omega
    rw [List.flatten_cons, e, List.getElem?_append_right (by rw [(h q (.head _)).1]; omega), (h q (.head _)).1, Nat.add_sub_cancel_left]
    exact flat_row (fun p hp => h p (.tail _ hp)) hx hj
theorem flat_take (h : recs k rs) (i : Nat) : (rs.take i).flatten = rs.flatten.take (i * k) := by
  induction rs generalizing i with
  | nil => simp
  | cons r rs ih =>
    cases i with
    | zero => simp
    | succ i =>
      have hr := (h r (.head _)).1
      rw [List.take_succ_cons, List.flatten_cons, List.flatten_cons, ih (fun q hq => h q (.tail _ hq)), Nat.succ_mul, Nat.add_comm, ← hr, List.take_length_add_append]
theorem flat_drop (h : recs k rs) (i : Nat) : (rs.drop i).flatten = rs.flatten.drop (i * k) := by
  induction rs generalizing i with
  | nil => simp
  | cons r rs ih =>
    cases i with
    | zero => simp
    | succ i =>
      have hr := (h r (.head _)).1
      rw [List.drop_succ_cons, List.flatten_cons, ih (fun q hq => h q (.tail _ hq)), Nat.succ_mul, Nat.add_comm, ← hr, List.drop_length_add_append]
end
section
variable {T S T' : TypeId} {k bytes : Nat} {z : List Value} {w w1 w' : World} {base base' n c m d g i : Nat} {A B : Option Addr} {rs ts : List (List Value)}
theorem Grd.len (h : Grd T k w base A n c rs) : rs.length = n := h.2.1
theorem Grd.cap (h : Grd T k w base A n c rs) : n ≤ c ∧ c ≤ maxLen := by
  rcases h.1.2 with ⟨hv, h0⟩ | ⟨g, cap, cur, hv, _, _, hnc, hcm, _⟩
  · injection hv with _ _ hc; subst hc; subst h0; exact ⟨Nat.le_refl _, Nat.zero_le _⟩
  · injection hv with _ _ hc; subst hc; exact ⟨hnc, hcm⟩
theorem Grd.blk (h : Grd T k w base A n c rs) (hg : g ∈ blkO A) : A = some ⟨g, 0, none⟩ ∧ base ≤ g ∧ g < w.heap.size ∧ ∃ cur, w.heap[g]? = some (.cells cur T (0, 0)) ∧ cur.size = c * k ∧ cur.toList.take (n * k) = rs.flatten := by
  rcases h.1.2 with ⟨hv, h0⟩ | ⟨g', cap, cur, hv, hb, hh, _, _, hs, ht⟩
  · injection hv with hv; subst hv; cases hg
  · injection hv with e1 e2 e3
    subst e1; subst e3
    obtain rfl : g = g' := by simpa [blkO] using hg
    exact ⟨rfl, hb, (Array.getElem?_eq_some_iff.1 hh).1, cur, hh, hs, ht⟩
theorem Grd.spot (h : Grd T k w base A n c rs) (hn : 0 < n) : ∃ g, A = some ⟨g, 0, none⟩ ∧ g ∈ blkO A := by
  rcases h.1.2 with ⟨hv, h0⟩ | ⟨g', cap, cur, hv, _⟩
  · omega
  · injection hv with e1
    subst e1
    exact ⟨g', rfl, by simp [blkO]⟩
theorem Grd.oth (h : Grd T k w base A n c rs) {S : List Nat} (ho : Oth S w w') (hS : ∀ g ∈ blkO A, g ∉ S) : Grd T k w' base A n c rs := by
  refine ⟨⟨h.1.1, ?_⟩, h.2⟩
  rcases h.1.2 with h0 | ⟨g, cap, cur, hv, hb, hh, r⟩
  · exact .inl h0
  · refine .inr ⟨g, cap, cur, hv, hb, ?_, r⟩
    have hA : A = some ⟨g, 0, none⟩ := by injection hv
    exact (ho.block g (Array.getElem?_eq_some_iff.1 hh).1 (hS g (by rw [hA]; simp [blkO]))).trans hh
theorem Grd.step (h : Grd T k w base A n c rs) (hb : Below w.heap.size w w') : Grd T k w' base A n c rs := h.oth (Oth.of_below (S := []) hb) (fun g hg => by simp)
theorem Grd.base_le (h : Grd T k w base A n c rs) (hb : base' ≤ base) : Grd T k w base' A n c rs := by
  refine ⟨⟨h.1.1, ?_⟩, h.2⟩
  rcases h.1.2 with h0 | ⟨g, cap, cur, hv, hbg, r⟩
  · exact .inl h0
  · exact .inr ⟨g, cap, cur, hv, by omega, r⟩
/-- A record that is known lies elsewhere; so do bytes. -/
theorem Grd.away (h : Grd T k w base A n c rs) {x : Nat} {cs : List Value} (hx : Blk T' w x cs) (hT : T ≠ T') : x ∉ blkO A := fun hm => by
  obtain ⟨_, _, _, cur, hh, _⟩ := h.blk hm
  have e := hh.symm.trans hx
  injection e with e
  injection e with _ e
  exact hT e
theorem Grd.nob (h : Grd T k w base A n c rs) (hT : T ≠ 5) : NoB (blkO A) w := fun g hg ds fr e => by
  obtain ⟨_, _, _, cur, hh, _⟩ := h.blk hg
  have e := hh.symm.trans e
  injection e with e
  injection e with _ e
  exact hT e
theorem Grd.apart (h : Grd T k w base A n c rs) {k' base' n' c' : Nat} {ts : List (List Value)} (q : Grd T' k' w base' B n' c' ts) (hT : T ≠ T') : ∀ g ∈ blkO A, g ∉ blkO B := fun g hg hm => by
  obtain ⟨_, _, _, cur, hh, _⟩ := h.blk hg
  obtain ⟨_, _, _, cur', hh', _⟩ := q.blk hm
  have e := hh.symm.trans hh'
  injection e with e
  injection e with _ e
  exact hT e
theorem Grd.lt (h : Grd T k w base A n c rs) : ∀ g ∈ blkO A, base ≤ g ∧ g < w.heap.size := fun g hg => ⟨(h.blk hg).2.1, (h.blk hg).2.2.1⟩
/-- Element i. -/
theorem Grd.at_ (h : Grd T k w base A n c rs) (hi : i < n) : ∃ g r, A = some ⟨g, 0, none⟩ ∧ g < w.heap.size ∧ rs[i]? = some r ∧ r.length = k ∧ w.rangeAt g (i * k) r ∧ g ∈ blkO A := by
  obtain ⟨g, eA, hg⟩ := h.spot (Nat.lt_of_le_of_lt (Nat.zero_le _) hi)
  subst eA
  have hl : i < rs.length := by rw [h.2.1]; exact hi
  have hr := h.2.2 rs[i] (List.getElem_mem hl)
  refine ⟨g, rs[i], rfl, (h.lt g hg).2, List.getElem?_eq_getElem hl, hr.1, fun j v hv => ?_, hg⟩
  have hj : j < k := by have := (List.getElem?_eq_some_iff.1 hv).1; omega
  have hlt : i * k + j < n * k := by
    have : (i + 1) * k ≤ n * k := Nat.mul_le_mul_right k hi
    rw [Nat.succ_mul] at this
    omega
  rw [World.ownsRow.cellAt h.1 (i * k + j) hlt, flat_row h.2.2 (List.getElem?_eq_getElem hl) hj]
  exact hv
theorem Grd.rd (h : Grd T k w base A n c rs) : RdG k w A n rs := ⟨h.2.1, h.2.2, fun hn => by
  obtain ⟨g, eA, hg⟩ := h.spot hn
  subst eA
  refine ⟨g, 0, rfl, (h.lt g hg).2, fun j u hu => ?_⟩
  have hj := (List.getElem?_eq_some_iff.1 hu).1
  rw [Nat.zero_add, World.ownsRow.cellAt h.1 j (by have := h.1.1; omega)]
  exact hu⟩
theorem Grd.nil_ (T : TypeId) (k : Nat) (w : World) (base : Nat) : Grd T k w base none 0 0 [] := ⟨World.ownsRow_nil w base _ k, rfl, fun r hr => by cases hr⟩
/-- No records yet, in a block of its own; a literal of one. -/
theorem Grd.lit0 (T : TypeId) (k : Nat) (w : World) (base : Nat) (hb : base ≤ w.heap.size) : Grd T k (w.alloc (.cells #[] T)) base (some ⟨w.heap.size, 0, none⟩) 0 0 [] :=
  ⟨World.ownsRow_lit (size := k) (base := base) (e := T) w #[] 0 hb (by unfold maxLen; omega) (by simp), rfl, fun r hr => by cases hr⟩
theorem RdG.lit1 (T : TypeId) (w : World) (r : List Value) (h1 : ones r) : RdG r.length (w.alloc (.cells r.toArray T)) (some ⟨w.heap.size, 0, none⟩) 1 [r] := by
  refine ⟨rfl, fun q hq => by rw [List.mem_singleton.1 hq]; exact ⟨rfl, h1⟩, fun _ => ⟨w.heap.size, 0, rfl, by simp, fun j u hu => ?_⟩⟩
  rw [Nat.zero_add, cell_of_row _ w.heap.size j _ T (0, 0) (heap_alloc_new w _)]
  simpa using hu
theorem RdG.step (h : RdG k w A m rs) (hb : Below w.heap.size w w') : RdG k w' A m rs := ⟨h.1, h.2.1, fun hm => by
  obtain ⟨b, o, e, hlt, hc⟩ := h.2.2 hm
  exact ⟨b, o, e, Nat.lt_of_lt_of_le hlt hb.size, fun j u hu => (hb.cell (p := ⟨b, o + j, none⟩) hlt).trans (hc j u hu)⟩⟩
/-- Cuts. -/
theorem RdG.front (h : RdG k w A m rs) (hi : i ≤ m) : RdG k w A i (rs.take i) := by
  refine ⟨by rw [List.length_take, h.1]; omega, h.2.1.sub (fun r hr => List.mem_of_mem_take hr), fun h0 => ?_⟩
  obtain ⟨b, o, e, hlt, hc⟩ := h.2.2 (by omega)
  refine ⟨b, o, e, hlt, fun j u hu => hc j u ?_⟩
  rw [flat_take h.2.1, List.getElem?_take] at hu
  split at hu
  · exact hu
  · cases hu
theorem RdG.back (h : RdG k w A m rs) (hi : i ≤ m) (hc : m ≤ c) : RdG k w (if c = i then A else A.map (·.add (i * k))) (m - i) (rs.drop i) := by
  refine ⟨by rw [List.length_drop, h.1], h.2.1.sub (fun r hr => List.mem_of_mem_drop hr), fun h0 => ?_⟩
  obtain ⟨b, o, e, hlt, hcl⟩ := h.2.2 (by omega)
  subst e
  rw [if_neg (by omega)]
  have hadd : (⟨b, o, none⟩ : Addr).add (i * k) = ⟨b, o + i * k, none⟩ := by unfold Addr.add; split <;> simp_all
  refine ⟨b, o + i * k, by rw [Option.map_some, hadd], hlt, fun j u hu => ?_⟩
  rw [flat_drop h.2.1, List.getElem?_drop] at hu
  rw [Nat.add_assoc]
  exact hcl _ u hu
theorem Grd.front (h : Grd T k w base A n c rs) (hi : i ≤ n) : Grd T k w base A i c (rs.take i) := by
  refine ⟨⟨?_, ?_⟩, by rw [List.length_take, h.2.1]; omega, h.2.2.sub (fun r hr => List.mem_of_mem_take hr)⟩
  · rw [flat_take h.2.2, List.length_take, h.1.1]
    exact Nat.min_eq_left (Nat.mul_le_mul_right k hi)
  · rcases h.1.2 with ⟨hv, h0⟩ | ⟨g, cap, cur, hv, hb, hh, hnc, hcm, hs, ht⟩
    · left
      injection hv with e1 e2 e3
      subst e1; subst e3
      exact ⟨by rw [show i = 0 by omega], by omega⟩
    · right
      injection hv with e1 e2 e3
      subst e1; subst e3
      refine ⟨g, c, cur, rfl, hb, hh, by omega, hcm, hs, ?_⟩
      rw [flat_take h.2.2, ← ht, List.take_take, Nat.min_eq_left (Nat.mul_le_mul_right k hi)]
end
theorem GT.parts {T S : TypeId} {z : List Value} {bytes : Nat} (gt : GT T S z bytes) : ∃ i : TypeInfo, Try.prog.info? T = some i ∧ i.zero = some (.agg z.toArray) ∧ i.size = z.length ∧ i.bytes = bytes := by
  have h := gt.info
  rcases hi : Try.prog.info? T with _ | i
  · rw [hi] at h; cases h
  · rw [hi] at h
    simp only [Option.map_some, Option.some.injEq, Prod.mk.injEq] at h
    exact ⟨i, rfl, h.1, h.2.1, h.2.2⟩
theorem GT.rt {T S : TypeId} {z : List Value} {bytes : Nat} (gt : GT T S z bytes) : RT T z := ⟨gt.row, by
  obtain ⟨i, h1, h2, h3, _⟩ := gt.parts
  rw [h1]
  simp only [Option.map_some, h2, h3]⟩
section
variable {T S : TypeId} {bytes : Nat} {z : List Value} {w w' : World} {base n c m d g i : Nat} {A B : Option Addr} {rs ts : List (List Value)}
/-- Cut at the front, at the back, in the middle. -/
theorem cutG_h (gt : GT T S z bytes) (h : i ≤ c) : ∀ W : World, (Instr.slice S (.slice A n c) none (some (.int .i64 (i : Int))) none).run Try.prog W = .ok (.slice A i c) W := by
  intro W
  obtain ⟨j, h1, _, _, _⟩ := gt.parts
  simp [Instr.slice, Instr.sliceBounds, Instr.sliceBound, asIntOf, go_sem, run_underlying gt.und, h, sizeOf, typeInfo, h1]
theorem cutG_l (gt : GT T S z bytes) (h : i ≤ n) : ∀ W : World, (Instr.slice S (.slice A n c) (some (.int .i64 (i : Int))) none none).run Try.prog W = .ok (.slice (if c = i then A else A.map (·.add (i * z.length))) (n - i) (c - i)) W := by
  intro W
  obtain ⟨j, h1, _, h3, _⟩ := gt.parts
  simp [Instr.slice, Instr.sliceBounds, Instr.sliceBound, asIntOf, go_sem, run_underlying gt.und, h, sizeOf, typeInfo, h1, h3]
theorem cutG_lh (gt : GT T S z bytes) (h : i ≤ m) (h2 : m ≤ c) : ∀ W : World, (Instr.slice S (.slice A n c) (some (.int .i64 (i : Int))) (some (.int .i64 (m : Int))) none).run Try.prog W = .ok (.slice (if c = i then A else A.map (·.add (i * z.length))) (m - i) (c - i)) W := by
  intro W
  obtain ⟨j, h1, _, h3, _⟩ := gt.parts
  simp [Instr.slice, Instr.sliceBounds, Instr.sliceBound, asIntOf, go_sem, run_underlying gt.und, h, h2, sizeOf, typeInfo, h1, h3]
theorem cutG_lhm (gt : GT T S z bytes) {q : Nat} (h : i ≤ m) (h2 : m ≤ q) (h3 : q ≤ c) : ∀ W : World, (Instr.slice S (.slice A n c) (some (.int .i64 (i : Int))) (some (.int .i64 (m : Int))) (some (.int .i64 (q : Int)))).run Try.prog W = .ok (.slice (if q = i then A else A.map (·.add (i * z.length))) (m - i) (q - i)) W := by
  intro W
  obtain ⟨j, h1, _, h4, _⟩ := gt.parts
  simp [Instr.slice, Instr.sliceBounds, Instr.sliceBound, asIntOf, go_sem, run_underlying gt.und, h, h2, h3, sizeOf, typeInfo, h1, h4]
set_option maxRecDepth 100000 in
/-- append of records to records of the call's own. -/
theorem run_appG (gt : GT T S z bytes) (ty : TypeId) (hown : Grd T z.length w base A n c rs) (hr : RdG z.length w B m ts) (hsum : n + m ≤ 1000000) (hby : bytes ≤ 10000) (hbase : base ≤ w.heap.size) :
    ∃ A'' c'' w', (Builtin.append_ #[S, S] ty #[.slice A n c, .slice B m d]).run Try.prog w = .ok (.slice A'' (n + m) c'') w' ∧ Grd T z.length w' base A'' (n + m) c'' (rs ++ ts) ∧ Oth (blkO A) w w' ∧ (∀ g ∈ blkO A'', g ∈ blkO A ∨ w.heap.size ≤ g) := by
  obtain ⟨i0, hi0, hz0, hz1, hz2⟩ := gt.parts
  rcases Nat.eq_zero_or_pos m with hm | hm
  · subst hm
    have hl' : ts = [] := List.eq_nil_of_length_eq_zero hr.1
    subst hl'
    refine ⟨A, c, w, ?_, by simpa using hown, Oth.refl _ _, fun g hg => .inl hg⟩
    rcases B with _ | ad
    · rcases hown.1.2 with ⟨hv, h0⟩ | ⟨g, cap, cur, hv, _, _, hnc, _⟩
      · injection hv with e1 e2 e3
        subst e1; subst e2; subst e3
        simp [Builtin.append_, run_underlying gt.und, sizeOf, typeInfo, hi0, Builtin.lenOf, Builtin.firstCells]
      · injection hv with e1 e2 e3
        subst e1; subst e3
        simp [Builtin.append_, run_underlying gt.und, sizeOf, typeInfo, hi0, Builtin.lenOf, Builtin.firstCells, hnc, storeCells]
    · rcases hown.1.2 with ⟨hv, h0⟩ | ⟨g, cap, cur, hv, _, _, hnc, _⟩
      · injection hv with e1 e2 e3
        subst e1; subst e2; subst e3
        simp [Builtin.append_, run_underlying gt.und, sizeOf, typeInfo, hi0, Builtin.lenOf, Builtin.firstCells, loadCells, loadCellsFrom]
      · injection hv with e1 e2 e3
        subst e1; subst e3
        simp [Builtin.append_, run_underlying gt.und, sizeOf, typeInfo, hi0, Builtin.lenOf, Builtin.firstCells, hnc, storeCells, loadCells, loadCellsFrom]
  · obtain ⟨b, off, rfl, hb, hcell⟩ := hr.2.2 hm
    obtain ⟨v', w', hrun, h2, h3, _, h5⟩ := run_append_own_at (P := Try.prog) w base S ty T i0 (.agg z.toArray) z.length bytes gt.und hi0 hz0 hz1 hz2 (by simp [Value.cells]) gt.pos (.slice A n c) n rs.flatten hown.1
      ⟨b, off, none⟩ m d ts.flatten (by rw [hr.2.1.len, hr.1]) (fun j u hu => by
        have hadd : (⟨b, off, none⟩ : Addr).add j = ⟨b, off + j, none⟩ := by unfold Addr.add; split <;> simp_all
        rw [hadd]; exact hcell j u hu) hr.2.1.one (by unfold maxLen; omega) (by
        have : (n + m) * bytes ≤ 1000000 * 10000 := Nat.mul_le_mul hsum hby
        omega) hbase
    obtain ⟨A'', c'', rfl⟩ : ∃ A'' c'', v' = .slice A'' (n + m) c'' := by
      rcases h2.2 with ⟨rfl, h0⟩ | ⟨g, cap, cur, rfl, _⟩
      · exact ⟨none, 0, by rw [h0]⟩
      · exact ⟨_, _, rfl⟩
    have hG : Grd T z.length w' base A'' (n + m) c'' (rs ++ ts) := ⟨by rw [List.flatten_append]; exact h2, by rw [List.length_append, hown.2.1, hr.1], hown.2.2.app hr.2.1⟩
    refine ⟨A'', c'', w', hrun, hG, ⟨h3.os, h3.tape, h3.output, h3.size, fun q hq hn => h3.block q hq (fun e => hn ?_)⟩, fun g hg => ?_⟩
    · rcases A with _ | a
      · cases e
      · simp only [Value.ownBlock, Option.some.injEq] at e
        simp [blkO, e]
    · obtain ⟨e, _⟩ := hG.blk hg
      subst e
      rcases h5 with h5 | h5
      · left
        rcases A with _ | a
        · cases h5
        · simp only [Value.ownBlock, Option.some.injEq] at h5
          simp [blkO, h5]
      · right
        simp only [Value.ownBlock, Option.some.injEq] at h5
        omega
end
end Go.Proofs.Ytocbdgkehgmahaa

