/- append of bytes to bytes of the call's own, and where the result lies: where it lay, or in a new block. No condition beside the model's bounds; nothing is claimed of the program here. -/
import Derived.Test.YtpkombfiejdflaaBytes
namespace Go.Proofs.Ytpkombfiejdflaa
open Go.RowKit
set_option linter.unusedVariables false

set_option maxRecDepth 100000 in
theorem app_at (w : World) (ty : TypeId) (base : Nat) (A : Option Addr) (n c : Nat) (l : List UInt8) (hown : OwnB w base A n c l)
    (B : Nat) (A' : Option Addr) (m c' : Nat) (l' : List UInt8) (hr : RB w B A' m l') (hsum : n + m ≤ 140737488355328) (hbase : base ≤ w.heap.size) :
    ∃ A'' c'' w', (Builtin.append_ #[22, 22] ty #[.slice A n c, .slice A' m c']).run Try.prog w = .ok (.slice A'' (n + m) c'') w' ∧ OwnB w' base A'' (n + m) c'' (l ++ l') ∧ w.grownBy w' (Value.ownBlock (.slice A n c)) ∧ (A'' = A ∨ A'' = some ⟨w.heap.size, 0, none⟩) := by
  obtain ⟨i0, hi0, hz0, hz1, hz2⟩ := info_parts u8_info
  rcases Nat.eq_zero_or_pos m with hm | hm
  · subst hm
    have hl' : l' = [] := List.eq_nil_of_length_eq_zero hr.len
    subst hl'
    refine ⟨A, c, w, ?_, by rw [List.append_nil, Nat.add_zero]; exact hown, World.grownBy.refl w _, .inl rfl⟩
    rcases A' with _ | ad
    · rcases hown.2 with ⟨hv, h0⟩ | ⟨g, cap, cur, hv, _, _, hnc, _⟩
      · injection hv with e1 e2 e3
        subst e1; subst e2; subst e3
        simp [Builtin.append_, run_underlying Try.underlying22, sizeOf, typeInfo, hi0, Builtin.lenOf, Builtin.firstCells]
      · injection hv with e1 e2 e3
        subst e1; subst e3
        simp [Builtin.append_, run_underlying Try.underlying22, sizeOf, typeInfo, hi0, Builtin.lenOf, Builtin.firstCells, hnc, storeCells]
    · rcases hown.2 with ⟨hv, h0⟩ | ⟨g, cap, cur, hv, _, _, hnc, _⟩
      · injection hv with e1 e2 e3
        subst e1; subst e2; subst e3
        simp [Builtin.append_, run_underlying Try.underlying22, sizeOf, typeInfo, hi0, Builtin.lenOf, Builtin.firstCells, loadCells, loadCellsFrom]
      · injection hv with e1 e2 e3
        subst e1; subst e3
        simp [Builtin.append_, run_underlying Try.underlying22, sizeOf, typeInfo, hi0, Builtin.lenOf, Builtin.firstCells, hnc, storeCells, loadCells, loadCellsFrom]
  · obtain ⟨b, off, rfl, hb, hcell⟩ := hr.2 hm
    have hlen : (bvs l').length = m * i0.size := by rw [bvs_length, hr.len, hz1, Nat.mul_one]
    have hnews : ∀ (j : Nat) (u : Value), (bvs l')[j]? = some u → w.cell? ((⟨b, off, none⟩ : Addr).add j) = some u := fun j u hu => by
      have hj : j < l'.length := by
        have := (List.getElem?_eq_some_iff.1 hu).1
        simpa [bvs] using this
      have hadd : (⟨b, off, none⟩ : Addr).add j = ⟨b, off + j, none⟩ := by unfold Addr.add; split <;> simp_all
      rw [hadd, hcell j hj, ← hu]
      simp [bvs, hj]
    obtain ⟨v', w', hrun, h2, h3, _⟩ := run_append_own (P := Try.prog) w base 22 ty 5 i0 (.int .u8 0) 1 1 Try.underlying22 hi0 hz0 hz1 hz2 rfl (by omega) (.slice A n c) n (bvs l) hown
      ⟨b, off, none⟩ m c' (bvs l') (by rw [bvs_length, hr.len]; omega) hnews (bvs_one l') (by unfold maxLen; omega) (by omega) hbase
    have hat : ∃ A'' c'', v' = .slice A'' (n + m) c'' ∧ (A'' = A ∨ A'' = some ⟨w.heap.size, 0, none⟩) := by
      rcases hown.2 with ⟨hv, h0⟩ | ⟨g, cap, cur, hv, hbg, hg, hnc, hcm, hcs, _⟩
      · injection hv with e1 e2 e3
        subst e1; subst e2; subst e3
        have hk := run_append_nil (P := Try.prog) w 22 ty 5 i0 (.int .u8 0) Try.underlying22 hi0 hz0 ⟨b, off, none⟩ m c' (bvs l') hlen hnews hm (by omega) (by rw [hz2]; omega)
        have he := hrun.symm.trans hk
        injection he with he _
        exact ⟨_, _, by rw [he, Nat.zero_add], .inr rfl⟩
      · injection hv with e1 e2 e3
        subst e1; subst e3
        by_cases hroom : n + m ≤ c
        · have hk := run_append_room (P := Try.prog) w 22 ty 5 i0 Try.underlying22 hi0 g n c cur hg ⟨b, off, none⟩ m c' (bvs l') hlen hnews (bvs_one l') hroom (by rw [hlen, hcs, hz1]; omega)
          have he := hrun.symm.trans hk
          injection he with he _
          exact ⟨_, _, he, .inl rfl⟩
        · have hk := run_append_grow (P := Try.prog) w 22 ty 5 i0 (.int .u8 0) Try.underlying22 hi0 hz0 ⟨g, 0, none⟩ n c (bvs l) (by rw [bvs_length, hown.len, hz1, Nat.mul_one]) (World.ownsRow.cells hown (g := g) rfl) ⟨b, off, none⟩ m c' (bvs l') hlen hnews (by omega) (by omega) (growslice_fits (by omega) (by rw [hz2]; omega))
          have he := hrun.symm.trans hk
          injection he with he _
          exact ⟨_, _, he, .inr rfl⟩
    obtain ⟨A'', c'', rfl, hA⟩ := hat
    exact ⟨A'', c'', w', hrun, by unfold OwnB; rw [bvs_append]; exact h2, h3, hA⟩

theorem wpList_appS {w : World} {ops : Array Oper} {rest : List Oper} {o : Oper} {a : Act} {Q : Exit → Act → World → Prop} (hgd : o.guard = none) (s x : Operand)
    (ho : o.op = .call { callee := .builtin .append, args := #[s, x], argTypes := #[22, 22] })
    (base : Nat) (A : Option Addr) (n c : Nat) (l : List UInt8) (hs : a.eval s = .slice A n c) (hown : OwnB w base A n c l)
    (B : Nat) (A' : Option Addr) (m c' : Nat) (l' : List UInt8) (hx : a.eval x = .slice A' m c') (hr : RB w B A' m l')
    (hsum : n + m ≤ 140737488355328) (hbase : base ≤ w.heap.size)
    (h : ∀ A'' c'' w', OwnB w' base A'' (n + m) c'' (l ++ l') → w.grownBy w' (Value.ownBlock (.slice A n c)) → (A'' = A ∨ A'' = some ⟨w.heap.size, 0, none⟩) → wpList Try.prog ops Q rest (a.put o.dst (.slice A'' (n + m) c'')) w') : wpList Try.prog ops Q (o :: rest) a w :=
  wpList_plain hgd fun K hK => by
    obtain ⟨A'', c'', w', hrun, h2, h3, h4⟩ := app_at w o.type base A n c l hown B A' m c' l' hr hsum hbase
    unfold Oper.wp execOp
    simp only [ho, resolve, invoke, builtin, Sem.run_bind, Sem.run_pure, Result.andThen_ok, List.map_toArray, List.map_cons, List.map_nil, hs, hx, hrun]
    exact hK _ _ (h A'' c'' w' h2 h3 h4)
end Go.Proofs.Ytpkombfiejdflaa
