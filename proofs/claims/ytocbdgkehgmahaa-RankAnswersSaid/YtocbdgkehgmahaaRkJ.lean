/- Layer 23: Ids with scores in memory; a set of Ids as a map. Nothing is claimed of the program here. -/
import Derived.Test.YtocbdgkehgmahaaRkC
import Derived.Test.YtocbdgkehgmahaaRkK
import Derived.Test.YtocbdgkehgmahaaRkF
namespace Go.Proofs.Ytocbdgkehgmahaa
open Go.RowKit Go.Maps
set_option linter.unusedVariables false
set_option linter.unusedSimpArgs false
/-- An Id with its score as cells, as a value. -/
def sco (e : Int × Int) : List Value := [.int .i64 e.1, .int .u64 e.2]
def scoV (e : Int × Int) : Value := .agg #[.int .i64 e.1, .int .u64 e.2]
theorem sco_len (e : Int × Int) : (sco e).length = 2 := rfl
theorem sco_one (e : Int × Int) : ones (sco e) := by
  intro v hv
  simp only [sco, List.mem_cons, List.not_mem_nil, or_false] at hv
  rcases hv with rfl | rfl <;> rfl
theorem sco_agg (e : Int × Int) : scoV e = .agg (sco e).toArray := rfl
theorem scos_recs (l : List (Int × Int)) : recs 2 (l.map sco) := fun r hr => by
  obtain ⟨e, _, rfl⟩ := List.mem_map.1 hr
  exact ⟨rfl, sco_one e⟩
theorem gt_sc : GT 61 57 [.int .i64 0, .int .u64 0] 16 := ⟨Try.underlying57, row_of (by kernel_rfl), by kernel_rfl, by decide, by
  intro v hv
  simp only [List.mem_cons, List.not_mem_nil, or_false] at hv
  rcases hv with rfl | rfl <;> rfl⟩
theorem rt_sc : RT 61 [.int .i64 0, .int .u64 0] := gt_sc.rt
/-- Ids with scores, of the call's own. -/
def OwnS (w : World) (base : Nat) (A : Option Addr) (n c : Nat) (l : List (Int × Int)) : Prop := Grd 61 2 w base A n c (l.map sco)
section
variable {w w' : World} {base n c : Nat} {A : Option Addr} {l : List (Int × Int)}
theorem OwnS.len (h : OwnS w base A n c l) : l.length = n := by
  have := Grd.len h
  rw [List.length_map] at this
  exact this
theorem OwnS.step (h : OwnS w base A n c l) (hb : Below w.heap.size w w') : OwnS w' base A n c l := Grd.step h hb
theorem OwnS.base_le {base' : Nat} (h : OwnS w base A n c l) (hb : base' ≤ base) : OwnS w base' A n c l := Grd.base_le h hb
theorem OwnS.at_ {k : Nat} (h : OwnS w base A n c l) (hk : k < n) : ∃ g e, A = some ⟨g, 0, none⟩ ∧ g < w.heap.size ∧ l[k]? = some e ∧ w.rangeAt g (k * 2) (sco e) := by
  obtain ⟨g, r, rfl, hg, hr, _, hrg, _⟩ := Grd.at_ h hk
  rw [List.getElem?_map] at hr
  obtain ⟨e, he, rfl⟩ := Option.map_eq_some_iff.1 hr
  exact ⟨g, e, rfl, hg, he, hrg⟩
end
theorem RdG.sc1 (w : World) (e : Int × Int) (cs : Array Value) (g : Nat) (hc : cs = (sco e).toArray) (hg : g = w.heap.size) : RdG 2 (w.alloc (.cells cs 61)) (some ⟨g, 0, none⟩) 1 ([e].map sco) := by
  subst hc
  subst hg
  exact RdG.lit1 61 w (sco e) (sco_one e)
section
variable {T S : TypeId} {bytes : Nat} {z : List Value} {w : World} {ops : Array Oper} {rest : List Oper} {o : Oper} {a : Act} {Q : Exit → Act → World → Prop}
/-- append of records to records of the call's own. -/
theorem wpList_app23 (gt : GT T S z bytes) (hgd : o.guard = none) (s x : Operand)
    (ho : o.op = .call { callee := .builtin .append, args := #[s, x], argTypes := #[S, S] })
    (base : Nat) (A : Option Addr) (n c : Nat) (rs : List (List Value)) (hs : a.eval s = .slice A n c) (hown : Grd T z.length w base A n c rs)
    (A' : Option Addr) (m c' : Nat) (ts : List (List Value)) (hx : a.eval x = .slice A' m c') (hr : RdG z.length w A' m ts)
    (hsum : n + m ≤ 1000000) (hby : bytes ≤ 10000) (hbase : base ≤ w.heap.size)
    (h : ∀ A'' c'' w', Grd T z.length w' base A'' (n + m) c'' (rs ++ ts) → Oth (blkO A) w w' → Below base w w' → wpList Try.prog ops Q rest (a.put o.dst (.slice A'' (n + m) c'')) w') : wpList Try.prog ops Q (o :: rest) a w := by
  obtain ⟨A'', c'', w', hrun, hG, hO, hsp⟩ := run_appG (d := c') gt o.type hown hr hsum hby hbase
  refine wpList_plain hgd fun K hK => ?_
  unfold Oper.wp execOp
  simp only [ho, resolve, invoke, builtin, Sem.run_bind, Sem.run_pure, Result.andThen_ok, List.map_toArray, List.map_cons, List.map_nil, hs, hx, hrun]
  exact hK _ _ (h A'' c'' w' hG hO (hO.below (fun k hk => (hown.lt k hk).1) hbase))
/-- make of no records with room for n. -/
theorem wpList_mk23 (gt : GT T S z bytes) (hgd : o.guard = none) (lo co : Operand) (hop : o.op = Op.makeSlice S lo co)
    (base : Nat) (kl kc : IntKind) (C : Int) (n : Nat) (hl : a.eval lo = .int kl 0) (hc : a.eval co = .int kc C) (hC : C = (n : Int)) (hn : n ≤ 1000000) (hby : bytes ≤ 10000) (hbase : base ≤ w.heap.size)
    (hK : ∀ w', Grd T z.length w' base (some ⟨w.heap.size, 0, none⟩) 0 n [] → Below w.heap.size w w' → wpList Try.prog ops Q rest (a.put o.dst (.slice (some ⟨w.heap.size, 0, none⟩) 0 n)) w') :
    wpList Try.prog ops Q (o :: rest) a w := by
  obtain ⟨i0, hi0, hz0, hz1, hz2⟩ := gt.parts
  have h1 : n * i0.bytes ≤ 1000000 * 10000 := Nat.mul_le_mul hn (by rw [hz2]; exact hby)
  exact wpList_make_own w hgd lo co S hop base T i0 _ z.length gt.und hi0 hz0 hz1 kl kc C n hl hc hC (by rw [Nat.mul_comm]; omega) (by unfold maxLen; omega) hbase
    fun w' h1 h2 => hK w' ⟨h1, rfl, fun r hr => by cases hr⟩ ((Below.refl _ _).grown h2 (Nat.le_refl _) (by simp))
end
theorem uzero (w : World) : (zeroValue 72).run Try.prog w = .ok (.agg #[]) w := by kernel_rfl
/-- Block b is a map of at most n entries, its keys the Ids of l. -/
def MS (w : World) (b n : Nat) (l : List (Int × Int)) : Prop :=
  ∃ D : DataW Unit, w.ownsMap Try.prog 3 (unitElem (H := Unit)) b n D ∧ ∀ z : Int, I64e z → Maps.has D (.int .i64 z) = l.any fun x => x.1 == z
section
variable {w w' : World} {b n : Nat} {l : List (Int × Int)} {z : Int}
theorem MS.made (w : World) : MS (w.alloc (.map #[] 0)) w.heap.size 0 [] := ⟨.map [], World.ownsMap_made w _ _ _, fun z _ => rfl⟩
theorem MS.more {n' : Nat} (h : MS w b n l) (hn : n ≤ n') : MS w b n' l := by
  obtain ⟨D, h1, h2⟩ := h
  exact ⟨D, h1.mono hn, h2⟩
theorem MS.lt (h : MS w b n l) : b < w.heap.size := by obtain ⟨D, h1, _⟩ := h; exact h1.lt
theorem MS.step (h : MS w b n l) (hb : Below w.heap.size w w') : MS w' b n l := by
  obtain ⟨D, h1, h2⟩ := h
  exact ⟨D, h1.kept (row := none) ⟨hb.os, hb.tape, hb.output, hb.size, fun i hi _ => hb.block i hi⟩ (by simp), h2⟩
theorem MS.oth {S : List Nat} (h : MS w b n l) (ho : Oth S w w') (hb : b ∉ S) : MS w' b n l := by
  obtain ⟨D, ⟨es, clock, h0, h1, h2, h3⟩, h4⟩ := h
  exact ⟨D, ⟨es, clock, (ho.block b (Array.getElem?_eq_some_iff.1 h0).1 hb).trans h0, h1, h2, h3⟩, h4⟩
theorem MS.away {T : TypeId} {k base m c : Nat} {A : Option Addr} {rs : List (List Value)} (h : MS w b n l) (r : Grd T k w base A m c rs) : b ∉ blkO A := fun hm => by
  obtain ⟨D, ⟨es, clock, h0, _⟩, _⟩ := h
  obtain ⟨_, _, _, cur, h1, _⟩ := r.blk hm
  rw [h0] at h1
  cases h1
theorem MS.lookOk (h : MS w b n l) (hz : I64e z) : (Instr.lookup 71 (.map (some b)) (.int .i64 z) true).run Try.prog w = .ok (.tuple #[.agg #[], .bool (l.any fun x => x.1 == z)]) w := by
  obtain ⟨D, h1, h2⟩ := h
  obtain ⟨v, ps, hrun, hv⟩ := h1.look_ok mlaw Try.underlying71 (uzero w) unitElem_mk (key := .int .i64 z) (kl := .int .i64 z) (keyOf_int_mk Try.underlying3 (i64_wf hz))
  obtain ⟨rfl, _⟩ := unitElem_inv hv
  rw [hrun, h2 z hz]
end
/-- 'm[k] = struct{}{}' at the operation. -/
theorem wpList_putM {w : World} {ops : Array Oper} {rest : List Oper} {o : Oper} {a : Act} {Q : Exit → Act → World → Prop} (hgd : o.guard = none) (m x v : Operand) (hop : o.op = Op.mapUpdate 71 m x v)
    (b n : Nat) (l : List (Int × Int)) (hm : a.eval m = .map (some b)) (h : MS w b n l) (hn : n < 10000000) (e : Int × Int) (hz : I64e e.1) (hx : a.eval x = .int .i64 e.1) (hv : a.eval v = .agg #[])
    (hK : ∀ w', MS w' b (n + 1) (l ++ [e]) → w.grownBy w' (some b) → wpList Try.prog ops Q rest (a.put o.dst undef) w') : wpList Try.prog ops Q (o :: rest) a w := by
  obtain ⟨D, h1, h2⟩ := h
  have hkey : keyOf Try.prog 3 (.int .i64 e.1) = some (.int .i64 e.1) := keyOf_int_mk Try.underlying3 (i64_wf hz)
  have hkl : WideAt.IsKeyLit (.int .i64 e.1) := trivial
  refine wpList_mapUpdate_own w hgd m x v _ hop _ _ mlaw Try.underlying71 _ b n D hm h1 (by unfold maxLen; omega) (.int .i64 e.1) (.agg #[]) _ hx hv hkey (.agg []) [] unitElem_mk fun w' k1 k2 => hK w' ⟨D.put (.int .i64 e.1) (.agg []), k1, fun z hz2 => ?_⟩ k2
  rw [List.any_append]
  by_cases hji : z = e.1
  · subst hji
    rw [has_put_same h1.isMap hkl]
    simp
  · have hne : (Lit.int .i64 z) ≠ .int .i64 e.1 := fun q => by
      injection q with _ q
      exact hji q
    rw [has_put_other hne, h2 z hz2]
    have : (e.1 == z) = false := by rw [beq_eq_false_iff_ne]; exact fun q => hji q.symm
    simp [this]
end Go.Proofs.Ytocbdgkehgmahaa
