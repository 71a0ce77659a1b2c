/- Versions (numbers of 32 bits) in memory: rows that come in, rows that a call makes. Nothing is claimed of the program here. -/
import Derived.Test.YtppopdjfecabfaaBytes
import Derived.OwnWalkIn
namespace Go.Proofs.Ytppopdjfecabfaa
open Go.RowKit
set_option linter.unusedVariables false
set_option linter.unusedSimpArgs false

/-- A version as a cell. -/
def vv (x : Nat) : Value := .int .u32 (x : Int)
def vvs (l : List Nat) : List Value := l.map vv
theorem vvs_length (l : List Nat) : (vvs l).length = l.length := by simp [vvs]
theorem vvs_append (a b : List Nat) : vvs (a ++ b) = vvs a ++ vvs b := by simp [vvs]
theorem vvs_one (l : List Nat) : ∀ u ∈ vvs l, u.oneCell' = true := by
  intro u hu
  obtain ⟨x, _, rfl⟩ := List.mem_map.1 hu
  rfl
/-- The slice value with address A and length n reads as the versions l in the world w; its cells lie below block B. -/
def VL (w : World) (B : Nat) (A : Option Addr) (n : Nat) (l : List Nat) : Prop :=
  l.length = n ∧ (0 < n → ∃ b o, A = some ⟨b, o, none⟩ ∧ b < B ∧ ∀ i (h : i < l.length), w.cell? ⟨b, o + i, none⟩ = some (.int .u32 ((l[i] : Nat) : Int))) ∧ ∀ x ∈ l, x ≤ 4294967295
section
variable {w w' : World} {B B' n : Nat} {A : Option Addr} {l : List Nat}
theorem VL.len (h : VL w B A n l) : l.length = n := h.1
theorem VL.nil_ : VL w B A 0 [] := ⟨rfl, fun h => absurd h (by omega), by simp⟩
theorem VL.at_ {k : Nat} (h : VL w B A n l) (hk : k < n) : ∃ b o, A = some ⟨b, o, none⟩ ∧ b < B ∧ ∃ x : Nat, l[k]? = some x ∧ x ≤ 4294967295 ∧ w.cell? ⟨b, o + k, none⟩ = some (.int .u32 (x : Int)) := by
  obtain ⟨b, o, e, hb, hc⟩ := h.2.1 (by omega)
  have hl : k < l.length := by rw [h.1]; exact hk
  exact ⟨b, o, e, hb, l[k], List.getElem?_eq_getElem hl, h.2.2 _ (List.getElem_mem _), hc k hl⟩
theorem VL.below (h : VL w B A n l) (hb : Below B w w') : VL w' B A n l :=
  ⟨h.1, fun hn => by
    obtain ⟨b, o, e, hbb, hc⟩ := h.2.1 hn
    exact ⟨b, o, e, hbb, fun i hi => (hb.cell hbb).trans (hc i hi)⟩, h.2.2⟩
theorem VL.more (h : VL w B A n l) (hB : B ≤ B') : VL w B' A n l :=
  ⟨h.1, fun hn => by
    obtain ⟨b, o, e, hb, hc⟩ := h.2.1 hn
    exact ⟨b, o, e, by omega, hc⟩, h.2.2⟩
theorem VL.step (h : VL w w.heap.size A n l) (hb : Below w.heap.size w w') : VL w' w'.heap.size A n l := (h.below hb).more hb.size
end
theorem VL.lit (w : World) (l : List Nat) (cs : Array Value) (n g : Nat) (e : TypeId) (hc : cs = (vvs l).toArray) (hn : l.length = n) (hg : g = w.heap.size) (hl : ∀ x ∈ l, x ≤ 4294967295) : VL (w.alloc (.cells cs e)) (w.alloc (.cells cs e)).heap.size (some ⟨g, 0, none⟩) n l := by
  subst hc
  subst hg
  refine ⟨hn, fun h0 => ⟨_, 0, rfl, by show w.heap.size < (w.heap.push _).size; rw [Array.size_push]; omega, fun i hi => ?_⟩, hl⟩
  rw [cell_of_row (w.alloc (.cells (vvs l).toArray e)) w.heap.size (0 + i) _ e (0, 0) (heap_alloc_new w _)]
  simp [vvs, vv, hi]
theorem u32_info : (Try.prog.info? 34).map (fun i => (i.zero, i.size, i.bytes)) = some (some (.int .u32 0), 1, 4) := by kernel_rfl
/-- The slice value (A, n, c) owns the versions l: it is nil and empty, or begins a row that the call made (block base or later). -/
def OwnV (w : World) (base : Nat) (A : Option Addr) (n c : Nat) (l : List Nat) : Prop := w.ownsRow base 34 1 (.slice A n c) n (vvs l) ∧ ∀ x ∈ l, x ≤ 4294967295
section
variable {w w' : World} {base n c : Nat} {A : Option Addr} {l : List Nat}
theorem OwnV.vl (h : OwnV w base A n c l) : VL w w.heap.size A n l := by
  have h1 := h.1
  have hl : l.length = n := by have := h1.1; simpa [vvs] using this
  refine ⟨hl, fun hn => ?_, h.2⟩
  rcases h1.2 with ⟨_, h0⟩ | ⟨g, cap, cur, hv, hbg, hh, _⟩
  · omega
  · have hA : A = some ⟨g, 0, none⟩ := by injection hv
    subst hA
    refine ⟨g, 0, rfl, (Array.getElem?_eq_some_iff.1 hh).1, fun i hi => ?_⟩
    have := h1.cells (g := g) rfl i (vv l[i]) (by simp [vvs, List.getElem?_eq_getElem hi])
    have hadd : (⟨g, 0, none⟩ : Addr).add i = ⟨g, 0 + i, none⟩ := by unfold Addr.add; split <;> simp_all
    rw [hadd] at this
    exact this
theorem OwnV.len (h : OwnV w base A n c l) : l.length = n := h.vl.len
theorem OwnV.cap (h : OwnV w base A n c l) : n ≤ c ∧ c ≤ maxLen := by
  rcases h.1.2 with ⟨hv, h0⟩ | ⟨g, cap, cur, hv, _, _, hnc, hcm, _⟩
  · injection hv with _ _ hc; subst hc; subst h0; exact ⟨Nat.le_refl _, Nat.zero_le _⟩
  · injection hv with _ _ hc; subst hc; exact ⟨hnc, hcm⟩
theorem OwnV.nil_ (w : World) (base : Nat) : OwnV w base none 0 0 [] := ⟨World.ownsRow_nil w base _ 1, by simp⟩
theorem OwnV.base_le {base' : Nat} (h : OwnV w base A n c l) (hb : base' ≤ base) : OwnV w base' A n c l := by
  refine ⟨⟨h.1.1, ?_⟩, h.2⟩
  rcases h.1.2 with h0 | ⟨g, cap, cur, hv, hbg, r⟩
  · exact .inl h0
  · exact .inr ⟨g, cap, cur, hv, by omega, r⟩
theorem OwnV.below (h : OwnV w base A n c l) (hb : Below w.heap.size w w') : OwnV w' base A n c l := by
  refine ⟨⟨h.1.1, ?_⟩, h.2⟩
  rcases h.1.2 with h0 | ⟨g, cap, cur, hv, hbg, hh, r⟩
  · exact .inl h0
  · exact .inr ⟨g, cap, cur, hv, hbg, (hb.block g (Array.getElem?_eq_some_iff.1 hh).1).trans hh, r⟩
theorem OwnV.lit (w : World) (base : Nat) (l : List Nat) (cs : Array Value) (n : Nat) (hc : cs = (vvs l).toArray) (hn : l.length = n) (hm : n ≤ maxLen) (hb : base ≤ w.heap.size) (hl : ∀ x ∈ l, x ≤ 4294967295) :
    OwnV (w.alloc (.cells cs 34)) base (some ⟨w.heap.size, 0, none⟩) n n l := by
  subst hc
  have := World.ownsRow_lit (size := 1) (base := base) (e := 34) w (vvs l).toArray n hb hm (by simp [vvs, hn])
  exact ⟨by simpa using this, hl⟩
end
set_option maxRecDepth 100000 in
/-- append of versions to versions of the call's own, from whatever source. -/
theorem run_appV {w : World} (T : TypeId) (base : Nat) (A : Option Addr) (n c : Nat) (l : List Nat) (hown : OwnV w base A n c l)
    (B : Nat) (A' : Option Addr) (m c' : Nat) (l' : List Nat) (hr : VL w B A' m l') (hsum : n + m ≤ 30000000000000) (hbase : base ≤ w.heap.size) :
    ∃ A'' c'' w', (Builtin.append_ #[23, 23] T #[.slice A n c, .slice A' m c']).run Try.prog w = .ok (.slice A'' (n + m) c'') w' ∧ OwnV w' base A'' (n + m) c'' (l ++ l') ∧ w.grownBy w' (Value.ownBlock (.slice A n c)) ∧ Below base w w' := by
  obtain ⟨i0, hi0, hz0, hz1, hz2⟩ := info_parts u32_info
  have key : ∃ v' w', (Builtin.append_ #[23, 23] T #[.slice A n c, .slice A' m c']).run Try.prog w = .ok v' w' ∧ w'.ownsRow base 34 1 v' (n + m) (vvs l ++ vvs l') ∧ w.grownBy w' (Value.ownBlock (.slice A n c)) := by
    rcases Nat.eq_zero_or_pos m with hm | hm
    · subst hm
      have hl' : l' = [] := List.eq_nil_of_length_eq_zero hr.len
      subst hl'
      refine ⟨.slice A n c, w, ?_, by have h0 := hown.1; simpa [vvs] using h0, World.grownBy.refl w _⟩
      rcases A' with _ | ad
      · rcases hown.1.2 with ⟨hv, h0⟩ | ⟨g, cap, cur, hv, _, _, hnc, _⟩
        · injection hv with e1 e2 e3
          subst e1; subst e2; subst e3
          simp [Builtin.append_, run_underlying Try.underlying23, sizeOf, typeInfo, hi0, Builtin.lenOf, Builtin.firstCells]
        · injection hv with e1 e2 e3
          subst e1; subst e3
          simp [Builtin.append_, run_underlying Try.underlying23, sizeOf, typeInfo, hi0, Builtin.lenOf, Builtin.firstCells, hnc, storeCells]
      · rcases hown.1.2 with ⟨hv, h0⟩ | ⟨g, cap, cur, hv, _, _, hnc, _⟩
        · injection hv with e1 e2 e3
          subst e1; subst e2; subst e3
          simp [Builtin.append_, run_underlying Try.underlying23, sizeOf, typeInfo, hi0, Builtin.lenOf, Builtin.firstCells, loadCells, loadCellsFrom]
        · injection hv with e1 e2 e3
          subst e1; subst e3
          simp [Builtin.append_, run_underlying Try.underlying23, sizeOf, typeInfo, hi0, Builtin.lenOf, Builtin.firstCells, hnc, storeCells, loadCells, loadCellsFrom]
    · obtain ⟨b, off, rfl, hb, hcell⟩ := hr.2.1 hm
      obtain ⟨v', w', hrun, h2, h3, _⟩ := run_append_own (P := Try.prog) w base 23 T 34 i0 (.int .u32 0) 1 4 Try.underlying23 hi0 hz0 hz1 hz2 rfl (by omega) (.slice A n c) n (vvs l) hown.1
        ⟨b, off, none⟩ m c' (vvs l') (by rw [vvs_length, hr.len]; omega) (fun j u hu => by
          have hj : j < l'.length := by
            have := (List.getElem?_eq_some_iff.1 hu).1
            simpa [vvs] using this
          have hadd : (⟨b, off, none⟩ : Addr).add j = ⟨b, off + j, none⟩ := by unfold Addr.add; split <;> simp_all
          rw [hadd, hcell j hj, ← hu]
          simp [vvs, vv, hj]) (vvs_one l') (by unfold maxLen; omega) (by omega) hbase
      exact ⟨v', w', hrun, h2, h3⟩
  obtain ⟨v', w', hrun, h2, h3⟩ := key
  obtain ⟨A'', c'', rfl⟩ : ∃ A'' c'', v' = .slice A'' (n + m) c'' := by
    rcases h2.2 with ⟨rfl, h0⟩ | ⟨g, cap, cur, rfl, _⟩
    · exact ⟨none, 0, by rw [h0]⟩
    · exact ⟨_, _, rfl⟩
  exact ⟨A'', c'', w', hrun, ⟨by rw [vvs_append]; exact h2, fun x hx => (List.mem_append.1 hx).elim (hown.2 x) (hr.2.2 x)⟩, h3,
    (Below.refl _ _).grown h3 hbase (fun k hk => (World.ownsRow.lt hown.1 k hk).1)⟩
theorem wpList_appV {w : World} {ops : Array Oper} {rest : List Oper} {o : Oper} {a : Act} {Q : Exit → Act → World → Prop} (hgd : o.guard = none) (s x : Operand)
    (ho : o.op = .call { callee := .builtin .append, args := #[s, x], argTypes := #[23, 23] })
    (base : Nat) (A : Option Addr) (n c : Nat) (l : List Nat) (hs : a.eval s = .slice A n c) (hown : OwnV w base A n c l)
    (B : Nat) (A' : Option Addr) (m c' : Nat) (l' : List Nat) (hx : a.eval x = .slice A' m c') (hr : VL w B A' m l')
    (hsum : n + m ≤ 30000000000000) (hbase : base ≤ w.heap.size)
    (h : ∀ A'' c'' w', OwnV w' base A'' (n + m) c'' (l ++ l') → w.grownBy w' (Value.ownBlock (.slice A n c)) → Below base w w' → wpList Try.prog ops Q rest (a.put o.dst (.slice A'' (n + m) c'')) w') : wpList Try.prog ops Q (o :: rest) a w := by
  refine wpList_plain hgd fun K hK => ?_
  obtain ⟨A'', c'', w', hrun, h2, h3, h4⟩ := run_appV (w := w) o.type base A n c l hown B A' m c' l' hr hsum hbase
  unfold Oper.wp execOp
  simp only [ho, resolve, invoke, builtin, Sem.run_bind, Sem.run_pure, Result.andThen_ok, List.map_toArray, List.map_cons, List.map_nil, hs, hx, hrun]
  exact hK _ _ (h A'' c'' w' h2 h3 h4)
theorem wpListIn_appV {F : Fence} {nf : Nat} {w : World} {ops : Array Oper} {rest : List Oper} {o : Oper} {a : Act} {Q : Exit → Act → World → Prop} (hgd : o.guard = none) (s x : Operand)
    (ho : o.op = .call { callee := .builtin .append, args := #[s, x], argTypes := #[23, 23] })
    (base : Nat) (A : Option Addr) (n c : Nat) (l : List Nat) (hs : a.eval s = .slice A n c) (hown : OwnV w base A n c l)
    (B : Nat) (A' : Option Addr) (m c' : Nat) (l' : List Nat) (hx : a.eval x = .slice A' m c') (hr : VL w B A' m l')
    (hsum : n + m ≤ 30000000000000) (hbase : base ≤ w.heap.size)
    (h : ∀ A'' c'' w', OwnV w' base A'' (n + m) c'' (l ++ l') → w.grownBy w' (Value.ownBlock (.slice A n c)) → Below base w w' → wpListIn F nf Try.prog ops Q rest (a.put o.dst (.slice A'' (n + m) c'')) w') : wpListIn F nf Try.prog ops Q (o :: rest) a w := by
  refine wpListIn_plain hgd fun K hK => ?_
  obtain ⟨A'', c'', w', hrun, h2, h3, h4⟩ := run_appV (w := w) o.type base A n c l hown B A' m c' l' hr hsum hbase
  unfold Oper.wpIn
  refine ⟨?_, ?_⟩
  · simp [Oper.about, ho, resolve, Target.leads, Sem.run_pure]
  · rw [Oper.semAt_plain F _ _ (by rw [ho]; intro c hc'; cases hc')]
    simp [execOp, ho, resolve, invoke, builtin, hs, hx, hrun, Result.andThen]
    exact hK _ _ (h A'' c'' w' h2 h3 h4)
/-- make of no versions with room for n. -/
theorem wpListIn_mkV0 {F : Fence} {nf : Nat} {w : World} {ops : Array Oper} {rest : List Oper} {o : Oper} {a : Act} {Q : Exit → Act → World → Prop} (hgd : o.guard = none) (lo co : Operand) (hop : o.op = Op.makeSlice 23 lo co)
    (base : Nat) (kl kc : IntKind) (C : Int) (n : Nat) (hl : a.eval lo = .int kl 0) (hc : a.eval co = .int kc C) (hC : C = (n : Int)) (hn : n ≤ 1000000000) (hbase : base ≤ w.heap.size)
    (hK : ∀ w', OwnV w' base (some ⟨w.heap.size, 0, none⟩) 0 n [] → Below w.heap.size w w' → wpListIn F nf Try.prog ops Q rest (a.put o.dst (.slice (some ⟨w.heap.size, 0, none⟩) 0 n)) w') :
    wpListIn F nf Try.prog ops Q (o :: rest) a w := by
  obtain ⟨i0, hi0, hz0, hz1, hz2⟩ := info_parts u32_info
  exact wpListIn_make_own w hgd lo co 23 hop base 34 i0 _ 1 Try.underlying23 hi0 hz0 hz1 kl kc C n hl hc hC (by rw [hz2]; omega) (by unfold maxLen; omega) hbase
    fun w' h1 h2 => hK w' ⟨h1, by simp⟩ ((Below.refl _ _).grown h2 (Nat.le_refl _) (by simp))
end Go.Proofs.Ytppopdjfecabfaa
