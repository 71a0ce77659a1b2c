/- append of rows of bytes, whoever's they are, to rows that a call makes itself. Conditions: lengths within the model's bounds. -/
import Derived.Test.YtocbdgkehgmahaaRowsNew
namespace Go.Proofs.Ytocbdgkehgmahaa
open Go.RowKit
set_option linter.unusedVariables false
set_option linter.unusedSimpArgs false

/-- The slice value (A, n, c) is of the call's own and holds rows ps, whose bytes lie below block base. -/
def OwnV (w : World) (base : Nat) (A : Option Addr) (n c : Nat) (ps : List (List UInt8)) : Prop :=
  ∃ vs : List Value, w.ownsRow base 32 1 (.slice A n c) n vs ∧ vs.length = ps.length ∧ ∀ (i : Nat) (p : List UInt8), ps[i]? = some p → ∃ Ai ci, vs[i]? = some (.slice Ai p.length ci) ∧ RB w base Ai p.length p
/-- The slice value (A, n, _) reads as rows ps, whose bytes lie below block base. -/
def RX (w : World) (base : Nat) (A : Option Addr) (n : Nat) (ps : List (List UInt8)) : Prop :=
  ps.length = n ∧ (0 < n → ∃ b o, A = some ⟨b, o, none⟩ ∧ ∀ (i : Nat) (p : List UInt8), ps[i]? = some p → ∃ Ai ci, w.cell? ⟨b, o + i, none⟩ = some (.slice Ai p.length ci) ∧ RB w base Ai p.length p)
section
variable {w w' : World} {base n c : Nat} {A : Option Addr} {ps : List (List UInt8)}
/-- No rows yet, in a block of its own. -/
theorem OwnV.lit0 (w : World) (base : Nat) (hb : base ≤ w.heap.size) : OwnV (w.alloc (.cells #[] 32)) base (some ⟨w.heap.size, 0, none⟩) 0 0 [] := by
  have := World.ownsRow_lit (size := 1) (base := base) (e := 32) w #[] 0 hb (by unfold maxLen; omega) rfl
  exact ⟨[], this, rfl, fun i p hp => by simp at hp⟩
theorem OwnV.len (h : OwnV w base A n c ps) : ps.length = n := by
  obtain ⟨vs, h1, h2, _⟩ := h
  have := h1.1
  omega
theorem OwnV.cap (h : OwnV w base A n c ps) : n ≤ c ∧ c ≤ maxLen := by
  obtain ⟨vs, h1, _⟩ := h
  rcases h1.2 with ⟨hv, h0⟩ | ⟨g, cap, cur, hv, _, _, hnc, hcm, _⟩
  · injection hv with _ _ hc; subst hc; subst h0; exact ⟨Nat.le_refl _, Nat.zero_le _⟩
  · injection hv with _ _ hc; subst hc; exact ⟨hnc, hcm⟩
theorem OwnV.alloc (h : OwnV w base A n c ps) (hb : base ≤ w.heap.size) (o : Obj) : OwnV (w.alloc o) base A n c ps := by
  obtain ⟨vs, h1, h2, h3⟩ := h
  refine ⟨vs, World.ownsRow.alloc h1 o, h2, fun i p hp => ?_⟩
  obtain ⟨Ai, ci, k1, k2⟩ := h3 i p hp
  exact ⟨Ai, ci, k1, k2.alloc hb o⟩
theorem OwnV.rr (h : OwnV w base A n c ps) (hb : base ≤ w.heap.size) : RR w w.heap.size A n ps := by
  have hl := h.len
  obtain ⟨vs, h1, h2, h3⟩ := h
  refine ⟨hl, fun hn => ?_⟩
  rcases h1.2 with ⟨_, h0⟩ | ⟨g, cap, cur, hv, hbg, hh, r⟩
  · omega
  · injection hv with hA _ _
    subst hA
    refine ⟨g, 0, rfl, (Array.getElem?_eq_some_iff.1 hh).1, fun i p hp => ?_⟩
    obtain ⟨Ai, ci, k1, k2⟩ := h3 i p hp
    have hi : i < n := by rw [← hl]; exact (List.getElem?_eq_some_iff.1 hp).1
    refine ⟨Ai, ci, ?_, k2.more hb⟩
    rw [Nat.zero_add, World.ownsRow.cellAt h1 i (by omega)]
    exact k1
theorem RX.of_rr {B : Nat} (h : RR w B A n ps) (hb : B ≤ base) : RX w base A n ps :=
  ⟨h.1, fun hn => by
    obtain ⟨b, o, e, _, hc⟩ := h.2 hn
    refine ⟨b, o, e, fun i p hp => ?_⟩
    obtain ⟨Ai, ci, k1, k2⟩ := hc i p hp
    exact ⟨Ai, ci, k1, k2.more hb⟩⟩
end

set_option maxRecDepth 100000 in
theorem wp_appV {w : World} {o : Oper} {a : Act} {K : Act → World → Prop} {Q : Exit → Act → World → Prop} (s x : Operand)
    (ho : o.op = .call { callee := .builtin .append, args := #[s, x], argTypes := #[23, 23] })
    (base : Nat) (A : Option Addr) (n c : Nat) (ps : List (List UInt8)) (hs : a.eval s = .slice A n c) (hown : OwnV w base A n c ps)
    (A' : Option Addr) (m c' : Nat) (qs : List (List UInt8)) (hx : a.eval x = .slice A' m c') (hr : RX w base A' m qs)
    (hsum : n + m ≤ 4000000000000) (hbase : base ≤ w.heap.size)
    (h : ∀ A'' c'' w', OwnV w' base A'' (n + m) c'' (ps ++ qs) → Below base w w' → K (a.put o.dst (.slice A'' (n + m) c'')) w') : o.wp Try.prog a w K Q := by
  obtain ⟨i0, hi0, hz0, hz1, hz2⟩ := info_parts row_info
  obtain ⟨vs, h1, h2, h3⟩ := hown
  have key : ∃ v' w' vs', (Builtin.append_ #[23, 23] o.type #[.slice A n c, .slice A' m c']).run Try.prog w = .ok v' w' ∧ w'.ownsRow base 32 1 v' (n + m) (vs ++ vs') ∧ w.grownBy w' (Value.ownBlock (.slice A n c)) ∧ vs'.length = qs.length ∧ ∀ (i : Nat) (p : List UInt8), qs[i]? = some p → ∃ Ai ci, vs'[i]? = some (.slice Ai p.length ci) ∧ RB w base Ai p.length p := by
    rcases Nat.eq_zero_or_pos m with hm | hm
    · subst hm
      have hq : qs = [] := List.eq_nil_of_length_eq_zero hr.1
      subst hq
      refine ⟨.slice A n c, w, [], ?_, by simpa using h1, World.grownBy.refl w _, rfl, fun i p hp => by simp at hp⟩
      rcases A' with _ | ad
      · rcases h1.2 with ⟨hv, h0⟩ | ⟨g, cap, cur, hv, _, _, hnc, _⟩
        · injection hv with e1 e2 e3
          subst e1; subst e2; subst e3
          simp [Builtin.append_, run_underlying Try.underlying23, sizeOf, typeInfo, hi0, Builtin.lenOf, Builtin.firstCells]
        · injection hv with e1 e2 e3
          subst e1; subst e3
          simp [Builtin.append_, run_underlying Try.underlying23, sizeOf, typeInfo, hi0, Builtin.lenOf, Builtin.firstCells, hnc, storeCells]
      · rcases h1.2 with ⟨hv, h0⟩ | ⟨g, cap, cur, hv, _, _, hnc, _⟩
        · injection hv with e1 e2 e3
          subst e1; subst e2; subst e3
          simp [Builtin.append_, run_underlying Try.underlying23, sizeOf, typeInfo, hi0, Builtin.lenOf, Builtin.firstCells, loadCells, loadCellsFrom]
        · injection hv with e1 e2 e3
          subst e1; subst e3
          simp [Builtin.append_, run_underlying Try.underlying23, sizeOf, typeInfo, hi0, Builtin.lenOf, Builtin.firstCells, hnc, storeCells, loadCells, loadCellsFrom]
    · obtain ⟨b, off, rfl, hc⟩ := hr.2 hm
      have hq := hr.1
      have hat : ∀ j, j < m → ∃ p Ai ci, qs[j]? = some p ∧ w.cell? ⟨b, off + j, none⟩ = some (.slice Ai p.length ci) ∧ RB w base Ai p.length p := fun j hj => by
        have e : qs[j]? = some (qs[j]'(by omega)) := List.getElem?_eq_getElem (by omega)
        obtain ⟨Ai, ci, k1, k2⟩ := hc j _ e
        exact ⟨_, Ai, ci, e, k1, k2⟩
      obtain ⟨vs', hvs⟩ : ∃ vs' : List Value, vs' = (List.range m).map fun j => (w.cell? ⟨b, off + j, none⟩).getD undef := ⟨_, rfl⟩
      have hl' : vs'.length = m := by rw [hvs]; simp
      have hat' : ∀ j, j < m → vs'[j]? = w.cell? ⟨b, off + j, none⟩ := fun j hj => by
        obtain ⟨p, Ai, ci, _, k1, _⟩ := hat j hj
        rw [hvs, List.getElem?_map, List.getElem?_range hj, Option.map_some, k1]
        rfl
      obtain ⟨v', w', hrun, k1, k2, _⟩ := run_append_own (P := Try.prog) w base 23 o.type 32 i0 (.slice none 0 0) 1 24 Try.underlying23 hi0 hz0 hz1 hz2 rfl (by omega) (.slice A n c) n vs h1
        ⟨b, off, none⟩ m c' vs' (by rw [hl']; omega) (fun j u hu => by
          have hj : j < m := by
            have := (List.getElem?_eq_some_iff.1 hu).1
            omega
          rw [hat' j hj] at hu
          have hadd : (⟨b, off, none⟩ : Addr).add j = ⟨b, off + j, none⟩ := by unfold Addr.add; split <;> simp_all
          rw [hadd]
          exact hu) (by
          intro u hu
          obtain ⟨j, hj⟩ := List.getElem?_of_mem hu
          have hjm : j < m := by
            have := (List.getElem?_eq_some_iff.1 hj).1
            omega
          obtain ⟨p, Ai, ci, _, q1, _⟩ := hat j hjm
          rw [hat' j hjm, q1] at hj
          injection hj with hj
          subst hj
          rfl) (by unfold maxLen; omega) (by omega) hbase
      refine ⟨v', w', vs', hrun, k1, k2, by rw [hl', hq], fun i p hp => ?_⟩
      have hi : i < m := by
        have := (List.getElem?_eq_some_iff.1 hp).1
        omega
      obtain ⟨p2, Ai, ci, q0, q1, q2⟩ := hat i hi
      rw [q0] at hp
      injection hp with hp
      subst hp
      exact ⟨Ai, ci, by rw [hat' i hi]; exact q1, q2⟩
  obtain ⟨v', w', vs', hrun, k1, k2, k3, k4⟩ := key
  have hbel : Below base w w' := (Below.refl _ _).grown k2 hbase (fun k hk => (World.ownsRow.lt h1 k hk).1)
  obtain ⟨A'', c'', rfl⟩ : ∃ A'' c'', v' = .slice A'' (n + m) c'' := by
    rcases k1.2 with ⟨rfl, h0⟩ | ⟨g, cap, cur, rfl, _⟩
    · exact ⟨none, 0, by rw [h0]⟩
    · exact ⟨_, _, rfl⟩
  unfold Oper.wp execOp
  simp only [ho, resolve, invoke, builtin, Sem.run_bind, Sem.run_pure, Result.andThen_ok, List.map_toArray, List.map_cons, List.map_nil, hs, hx, hrun]
  refine h A'' c'' w' ⟨vs ++ vs', k1, by rw [List.length_append, List.length_append, h2, k3], fun i q hq => ?_⟩ hbel
  rcases Nat.lt_or_ge i ps.length with hi | hi
  · rw [List.getElem?_append_left hi] at hq
    obtain ⟨Ai, ci, q1, q2⟩ := h3 i q hq
    exact ⟨Ai, ci, by rw [List.getElem?_append_left (by omega)]; exact q1, q2.below hbel⟩
  · rw [List.getElem?_append_right hi] at hq
    obtain ⟨Ai, ci, q1, q2⟩ := k4 _ q hq
    exact ⟨Ai, ci, by rw [List.getElem?_append_right (by omega), h2]; exact q1, q2.below hbel⟩
theorem wpList_appV22 {w : World} {ops : Array Oper} {rest : List Oper} {o : Oper} {a : Act} {Q : Exit → Act → World → Prop} (hgd : o.guard = none) (s x : Operand)
    (ho : o.op = .call { callee := .builtin .append, args := #[s, x], argTypes := #[23, 23] })
    (base : Nat) (A : Option Addr) (n c : Nat) (ps : List (List UInt8)) (hs : a.eval s = .slice A n c) (hown : OwnV w base A n c ps)
    (A' : Option Addr) (m c' : Nat) (qs : List (List UInt8)) (hx : a.eval x = .slice A' m c') (hr : RX w base A' m qs)
    (hsum : n + m ≤ 4000000000000) (hbase : base ≤ w.heap.size)
    (h : ∀ A'' c'' w', OwnV w' base A'' (n + m) c'' (ps ++ qs) → Below base w w' → wpList Try.prog ops Q rest (a.put o.dst (.slice A'' (n + m) c'')) w') : wpList Try.prog ops Q (o :: rest) a w :=
  wpList_plain hgd fun _ hK => wp_appV s x ho base A n c ps hs hown A' m c' qs hx hr hsum hbase fun A'' c'' w' h2 h3 => hK _ _ (h A'' c'' w' h2 h3)
end Go.Proofs.Ytocbdgkehgmahaa
