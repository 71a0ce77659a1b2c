/- Layer 23: entries in memory, the program's and the reference's. Nothing is claimed of the program here. -/
import Derived.Test.YtocbdgkehgmahaaGrd
import Derived.Test.YtocbdgkehgmahaaRkP
import Derived.Deep.MidRow
namespace Go.Proofs.Ytocbdgkehgmahaa
open Go.RowKit
set_option linter.unusedVariables false
set_option linter.unusedSimpArgs false

/-- A number that an int holds. -/
def I64e (z : Int) : Prop := -9223372036854775808 ≤ z ∧ z ≤ 9223372036854775807
/-- An entry as cells, as a value. -/
def ent (e : Int × Int) : List Value := [.int .i64 e.1, .int .i64 e.2]
def entV (e : Int × Int) : Value := .agg #[.int .i64 e.1, .int .i64 e.2]
theorem ent_len (e : Int × Int) : (ent e).length = 2 := rfl
theorem ent_one (e : Int × Int) : ones (ent e) := by
  intro v hv
  simp only [ent, List.mem_cons, List.not_mem_nil, or_false] at hv
  rcases hv with rfl | rfl <;> rfl
theorem ents_recs (l : List (Int × Int)) : recs 2 (l.map ent) := fun r hr => by
  obtain ⟨e, _, rfl⟩ := List.mem_map.1 hr
  exact ⟨rfl, ent_one e⟩
/-- Entries that a slice value reads. -/
def EL (w : World) (B : Nat) (A : Option Addr) (n : Nat) (l : List (Int × Int)) : Prop :=
  l.length = n ∧ (∀ p ∈ l, I64e p.1 ∧ I64e p.2) ∧ (0 < n → ∃ b o, A = some ⟨b, o, none⟩ ∧ b < B ∧ ∀ (i : Nat) p, l[i]? = some p → w.rangeAt b (o + i * 2) (ent p))
section
variable {w w' : World} {B B' n : Nat} {A : Option Addr} {l : List (Int × Int)}
theorem EL.len (h : EL w B A n l) : l.length = n := h.1
theorem EL.nil_ : EL w B A 0 [] := ⟨rfl, fun p h => (by cases h), fun h => absurd h (by omega)⟩
theorem EL.below (h : EL w B A n l) (hb : Below B w w') : EL w' B A n l :=
  ⟨h.1, h.2.1, fun hn => by
    obtain ⟨b, o, e, hbb, hc⟩ := h.2.2 hn
    exact ⟨b, o, e, hbb, fun i p hp j v hv => (hb.cell (p := ⟨b, o + i * 2 + j, none⟩) hbb).trans (hc i p hp j v hv)⟩⟩
theorem EL.more (h : EL w B A n l) (hB : B ≤ B') : EL w B' A n l :=
  ⟨h.1, h.2.1, fun hn => by
    obtain ⟨b, o, e, hbb, hc⟩ := h.2.2 hn
    exact ⟨b, o, e, by omega, hc⟩⟩
theorem EL.step (h : EL w w.heap.size A n l) (hb : Below w.heap.size w w') : EL w' w'.heap.size A n l := (h.below hb).more hb.size
theorem EL.drew (h : EL w B A n l) : EL w.drew B A n l := h
theorem EL.drewN (h : EL w B A n l) (q : Nat) : EL (w.drewN q) B A n l := h
theorem EL.at_ {k : Nat} (h : EL w B A n l) (hk : k < n) : ∃ b o p, A = some ⟨b, o, none⟩ ∧ b < B ∧ l[k]? = some p ∧ I64e p.1 ∧ I64e p.2 ∧ w.rangeAt b (o + k * 2) (ent p) ∧ w.cell? ⟨b, o + k * 2, none⟩ = some (.int .i64 p.1) ∧ w.cell? ⟨b, o + k * 2 + 1, none⟩ = some (.int .i64 p.2) := by
  obtain ⟨b, o, e, hb, hc⟩ := h.2.2 (by omega)
  have hl : k < l.length := by rw [h.1]; exact hk
  have hi := h.2.1 _ (List.getElem_mem hl)
  have hr := hc k _ (List.getElem?_eq_getElem hl)
  exact ⟨b, o, l[k], e, hb, List.getElem?_eq_getElem hl, hi.1, hi.2, hr, hr 0 _ rfl, hr 1 _ rfl⟩
/-- As records. -/
theorem EL.rd (h : EL w B A n l) (hB : B ≤ w.heap.size) : RdG 2 w A n (l.map ent) := by
  refine ⟨by rw [List.length_map]; exact h.1, ents_recs l, fun hn => ?_⟩
  obtain ⟨b, o, rfl, hb, hc⟩ := h.2.2 hn
  refine ⟨b, o, rfl, by omega, fun j u hu => ?_⟩
  have hj := (List.getElem?_eq_some_iff.1 hu).1
  rw [(ents_recs l).len, List.length_map] at hj
  obtain ⟨p, hp⟩ : ∃ p, l[j / 2]? = some p := ⟨l[j / 2]'(by omega), List.getElem?_eq_getElem (by omega)⟩
  have hf := flat_row (ents_recs l) (i := j / 2) (r := ent p) (j := j % 2) (by rw [List.getElem?_map, hp]; rfl) (by omega)
  have ej : j / 2 * 2 + j % 2 = j := by omega
  rw [ej, hu] at hf
  have := hc (j / 2) p hp (j % 2) u hf.symm
  rw [show o + j = o + j / 2 * 2 + j % 2 by omega]
  exact this
theorem EL.of_rd (h : RdG 2 w A n (l.map ent)) (hl : ∀ p ∈ l, I64e p.1 ∧ I64e p.2) : EL w w.heap.size A n l := by
  have h1 : l.length = n := by have := h.1; rw [List.length_map] at this; exact this
  refine ⟨h1, hl, fun hn => ?_⟩
  obtain ⟨b, o, rfl, hb, hc⟩ := h.2.2 hn
  refine ⟨b, o, rfl, hb, fun i p hp j v hv => ?_⟩
  have hj : j < 2 := by have := (List.getElem?_eq_some_iff.1 hv).1; rw [ent_len] at this; exact this
  have hf := flat_row (ents_recs l) (i := i) (r := ent p) (j := j) (by rw [List.getElem?_map, hp]; rfl) hj
  rw [Nat.add_assoc]
  exact hc _ v (by rw [hf]; exact hv)
end
/-- Entries of the call's own. -/
def OwnE (T : TypeId) (w : World) (base : Nat) (A : Option Addr) (n c : Nat) (l : List (Int × Int)) : Prop := Grd T 2 w base A n c (l.map ent) ∧ ∀ p ∈ l, I64e p.1 ∧ I64e p.2
section
variable {T S : TypeId} {w w' : World} {base n c : Nat} {A : Option Addr} {l : List (Int × Int)}
theorem OwnE.el (h : OwnE T w base A n c l) : EL w w.heap.size A n l := EL.of_rd h.1.rd h.2
theorem OwnE.len (h : OwnE T w base A n c l) : l.length = n := h.el.len
theorem OwnE.cap (h : OwnE T w base A n c l) : n ≤ c ∧ c ≤ maxLen := h.1.cap
theorem OwnE.step (h : OwnE T w base A n c l) (hb : Below w.heap.size w w') : OwnE T w' base A n c l := ⟨h.1.step hb, h.2⟩
theorem OwnE.base_le {base' : Nat} (h : OwnE T w base A n c l) (hb : base' ≤ base) : OwnE T w base' A n c l := ⟨h.1.base_le hb, h.2⟩
theorem OwnE.lit0 (T : TypeId) (w : World) (base g : Nat) (hg : g = w.heap.size) (hb : base ≤ w.heap.size) : OwnE T (w.alloc (.cells #[] T)) base (some ⟨g, 0, none⟩) 0 0 [] := by
  subst hg
  exact ⟨Grd.lit0 T 2 w base hb, fun p h => (by cases h)⟩
theorem OwnE.drew (h : OwnE T w base A n c l) : OwnE T w.drew base A n c l := h
end
theorem gt_rk : GT 25 26 [.int .i64 0, .int .i64 0] 16 := ⟨Try.underlying26, row_of (by kernel_rfl), by kernel_rfl, by decide, by
  intro v hv
  simp only [List.mem_cons, List.not_mem_nil, or_false] at hv
  rcases hv with rfl | rfl <;> rfl⟩
theorem gt_rf : GT 34 38 [.int .i64 0, .int .i64 0] 16 := ⟨Try.underlying38, row_of (by kernel_rfl), by kernel_rfl, by decide, by
  intro v hv
  simp only [List.mem_cons, List.not_mem_nil, or_false] at hv
  rcases hv with rfl | rfl <;> rfl⟩
section
variable {T S : TypeId} {bytes : Nat} {w : World} {ops : Array Oper} {rest : List Oper} {o : Oper} {a : Act} {K : Act → World → Prop} {Q : Exit → Act → World → Prop}
/-- append of entries, whoever's they are, to entries of the call's own. -/
theorem wp_appE (gt : GT T S [.int .i64 0, .int .i64 0] bytes) (s x : Operand)
    (ho : o.op = .call { callee := .builtin .append, args := #[s, x], argTypes := #[S, S] })
    (base : Nat) (A : Option Addr) (n c : Nat) (l : List (Int × Int)) (hs : a.eval s = .slice A n c) (hown : OwnE T w base A n c l)
    (B : Nat) (A' : Option Addr) (m c' : Nat) (l' : List (Int × Int)) (hx : a.eval x = .slice A' m c') (hr : EL w B A' m l') (hB : B ≤ w.heap.size)
    (hsum : n + m ≤ 1000000) (hby : bytes ≤ 10000) (hbase : base ≤ w.heap.size)
    (h : ∀ A'' c'' w', OwnE T w' base A'' (n + m) c'' (l ++ l') → Below base w w' → K (a.put o.dst (.slice A'' (n + m) c'')) w') : o.wp Try.prog a w K Q := by
  obtain ⟨A'', c'', w', hrun, hG, hO, hsp⟩ := run_appG (d := c') gt o.type hown.1 (hr.rd hB) hsum hby hbase
  unfold Oper.wp execOp
  simp only [ho, resolve, invoke, builtin, Sem.run_bind, Sem.run_pure, Result.andThen_ok, List.map_toArray, List.map_cons, List.map_nil, hs, hx, hrun]
  refine h A'' c'' w' ⟨by rw [List.map_append]; exact hG, fun p hp => ?_⟩ (hO.below (fun k hk => (hown.1.lt k hk).1) hbase)
  rcases List.mem_append.1 hp with h1 | h1
  · exact hown.2 p h1
  · exact hr.2.1 p h1
theorem wpList_appE (gt : GT T S [.int .i64 0, .int .i64 0] bytes) (hgd : o.guard = none) (s x : Operand)
    (ho : o.op = .call { callee := .builtin .append, args := #[s, x], argTypes := #[S, S] })
    (base : Nat) (A : Option Addr) (n c : Nat) (l : List (Int × Int)) (hs : a.eval s = .slice A n c) (hown : OwnE T w base A n c l)
    (B : Nat) (A' : Option Addr) (m c' : Nat) (l' : List (Int × Int)) (hx : a.eval x = .slice A' m c') (hr : EL w B A' m l') (hB : B ≤ w.heap.size)
    (hsum : n + m ≤ 1000000) (hby : bytes ≤ 10000) (hbase : base ≤ w.heap.size)
    (h : ∀ A'' c'' w', OwnE T w' base A'' (n + m) c'' (l ++ l') → Below base w w' → wpList Try.prog ops Q rest (a.put o.dst (.slice A'' (n + m) c'')) w') : wpList Try.prog ops Q (o :: rest) a w :=
  wpList_plain hgd fun _ hK => wp_appE gt s x ho base A n c l hs hown B A' m c' l' hx hr hB hsum hby hbase fun A'' c'' w' h2 h3 => hK _ _ (h A'' c'' w' h2 h3)
theorem step_appE {E : Prop} (gt : GT T S [.int .i64 0, .int .i64 0] bytes) (hgd : o.guard = none) (s x : Operand)
    (ho : o.op = .call { callee := .builtin .append, args := #[s, x], argTypes := #[S, S] })
    (base : Nat) (A : Option Addr) (n c : Nat) (l : List (Int × Int)) (hs : a.eval s = .slice A n c) (hown : OwnE T w base A n c l)
    (B : Nat) (A' : Option Addr) (m c' : Nat) (l' : List (Int × Int)) (hx : a.eval x = .slice A' m c') (hr : EL w B A' m l') (hB : B ≤ w.heap.size)
    (hsum : n + m ≤ 1000000) (hby : bytes ≤ 10000) (hbase : base ≤ w.heap.size)
    (h : ∀ A'' c'' w', OwnE T w' base A'' (n + m) c'' (l ++ l') → Below base w w' → K (a.put o.dst (.slice A'' (n + m) c'')) w') :
    if Region.wanted o (yielded ops a.tmps) = true then Oper.wp Try.prog o a w K Q else E := by
  have hw : Region.wanted o (yielded ops a.tmps) = true := by simp [Region.wanted, hgd]
  rw [if_pos hw]
  exact wp_appE gt s x ho base A n c l hs hown B A' m c' l' hx hr hB hsum hby hbase h
end
end Go.Proofs.Ytocbdgkehgmahaa
