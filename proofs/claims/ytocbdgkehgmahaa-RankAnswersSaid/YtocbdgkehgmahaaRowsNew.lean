/- Slices of byte slices that a call makes itself: append of one row, reading a row. Conditions: lengths within the model's bounds, as each law says. -/
import Derived.Test.YtocbdgkehgmahaaRowsIn
import Derived.Deep.MidRow
namespace Go.Proofs.Ytocbdgkehgmahaa
open Go.RowKit
set_option linter.unusedVariables false

theorem row_info : (Try.prog.info? 32).map (fun i => (i.zero, i.size, i.bytes)) = some (some (.slice none 0 0), 1, 24) := by kernel_rfl

/-- The slice value (A, n, c) is of the call's own and holds rows ps, each of the call's own too. -/
def OwnR (w : World) (base : Nat) (A : Option Addr) (n c : Nat) (ps : List (List UInt8)) : Prop :=
  ∃ vs : List Value, w.ownsRow base 32 1 (.slice A n c) n vs ∧ vs.length = ps.length ∧ ∀ (i : Nat) (p : List UInt8), ps[i]? = some p → ∃ Ai ci, vs[i]? = some (.slice Ai p.length ci) ∧ OwnB w base Ai p.length ci p
/-- All bytes that a call owns are kept. -/
def KeepsB (w w' : World) : Prop := ∀ base A n c l, OwnB w base A n c l → OwnB w' base A n c l
section
variable {w w' : World} {base n c : Nat} {A : Option Addr} {ps : List (List UInt8)}
theorem KeepsB.trans {w1 : World} (h : KeepsB w w1) (h' : KeepsB w1 w') : KeepsB w w' := fun b A n c l ho => h' b A n c l (h b A n c l ho)
theorem keepsB_below (h : Below w.heap.size w w') : KeepsB w w' := fun b A n c l ho => ho.below h
theorem keepsB_drew (w : World) : KeepsB w w.drew := fun b A n c l ho => ho.drew
/-- What grows a row of rows keeps bytes: the blocks are of other types. -/
theorem keepsB_grown {v : Value} {m : Nat} {vs : List Value} (ho : w.ownsRow base 32 1 v m vs) (hg : w.grownBy w' v.ownBlock) : KeepsB w w' := by
  intro b A' n' c' l hb
  refine ⟨hb.1, ?_⟩
  rcases hb.2 with h0 | ⟨g, cap, cur, hv, hbg, hh, r⟩
  · exact .inl h0
  · refine .inr ⟨g, cap, cur, hv, hbg, (hg.block g (Array.getElem?_eq_some_iff.1 hh).1 (fun e => ?_)).trans hh, r⟩
    rcases ho.2 with ⟨hv0, _⟩ | ⟨g2, cap2, cur2, hv2, _, hh2, _⟩
    · rw [hv0] at e; simp [Value.ownBlock] at e
    · rw [hv2] at e
      simp only [Value.ownBlock, Option.some.injEq] at e
      subst e
      rw [hh] at hh2
      simp at hh2
theorem OwnR.len (h : OwnR w base A n c ps) : ps.length = n := by
  obtain ⟨vs, h1, h2, _⟩ := h
  have := h1.1
  omega
theorem OwnR.keep (h : OwnR w base A n c ps) (hk : KeepsB w w') (hb : ∀ vs, w.ownsRow base 32 1 (.slice A n c) n vs → w'.ownsRow base 32 1 (.slice A n c) n vs) : OwnR w' base A n c ps := by
  obtain ⟨vs, h1, h2, h3⟩ := h
  refine ⟨vs, hb vs h1, h2, fun i p hp => ?_⟩
  obtain ⟨Ai, ci, k1, k2⟩ := h3 i p hp
  exact ⟨Ai, ci, k1, hk _ _ _ _ _ k2⟩
theorem ownsRow_below {e : TypeId} {v : Value} {m : Nat} {vs : List Value} (h : w.ownsRow base e 1 v m vs) (hb : Below w.heap.size w w') : w'.ownsRow base e 1 v m vs := by
  refine ⟨h.1, ?_⟩
  rcases h.2 with h0 | ⟨g, cap, cur, hv, hbg, hh, r⟩
  · exact .inl h0
  · exact .inr ⟨g, cap, cur, hv, hbg, (hb.block g (Array.getElem?_eq_some_iff.1 hh).1).trans hh, r⟩
theorem OwnR.below (h : OwnR w base A n c ps) (hb : Below w.heap.size w w') : OwnR w' base A n c ps := h.keep (keepsB_below hb) fun _ ho => ownsRow_below ho hb
theorem OwnB.step {base' : Nat} {l : List UInt8} {A' : Option Addr} {n' c' : Nat} (h : OwnB w w.heap.size A' n' c' l) (hb : base' ≤ w.heap.size) : OwnB w base' A' n' c' l := h.base_le hb
/-- A block that holds one row's slice. -/
theorem cell_one (w : World) (v : Value) (e : TypeId) : (w.alloc (.cells #[v] e)).cell? ⟨w.heap.size, 0, none⟩ = some v := by
  have h := cell_of_row (w.alloc (.cells #[v] e)) w.heap.size 0 _ e (0, 0) (heap_alloc_new w _)
  rw [h]
  rfl
theorem OwnR.base_le {base' : Nat} (h : OwnR w base A n c ps) (hb : base' ≤ base) : OwnR w base' A n c ps := by
  obtain ⟨vs, h1, h2, h3⟩ := h
  refine ⟨vs, ⟨h1.1, ?_⟩, h2, fun i p hp => ?_⟩
  · rcases h1.2 with h0 | ⟨g, cap, cur, hv, hbg, r⟩
    · exact .inl h0
    · exact .inr ⟨g, cap, cur, hv, by omega, r⟩
  · obtain ⟨Ai, ci, k1, k2⟩ := h3 i p hp
    exact ⟨Ai, ci, k1, k2.base_le hb⟩
theorem OwnR.drew (h : OwnR w base A n c ps) : OwnR w.drew base A n c ps := h
theorem OwnR.nil_ (w : World) (base : Nat) : OwnR w base none 0 0 [] := ⟨[], World.ownsRow_nil w base _ 1, rfl, fun i p hp => by simp at hp⟩
/-- No rows yet, in a block of its own. -/
theorem OwnR.lit0 (w : World) (base : Nat) (hb : base ≤ w.heap.size) : OwnR (w.alloc (.cells #[] 32)) base (some ⟨w.heap.size, 0, none⟩) 0 0 [] := by
  have := World.ownsRow_lit (size := 1) (base := base) (e := 32) w #[] 0 hb (by unfold maxLen; omega) rfl
  exact ⟨[], this, rfl, fun i p hp => by simp at hp⟩
theorem OwnR.at_ {k : Nat} (h : OwnR w base A n c ps) (hk : k < n) : ∃ g p Ai ci, A = some ⟨g, 0, none⟩ ∧ base ≤ g ∧ ps[k]? = some p ∧ w.cell? ⟨g, k, none⟩ = some (.slice Ai p.length ci) ∧ OwnB w base Ai p.length ci p := by
  have hl := h.len
  obtain ⟨vs, h1, h2, h3⟩ := h
  obtain ⟨p, hp⟩ : ∃ p, ps[k]? = some p := ⟨ps[k]'(by omega), List.getElem?_eq_getElem (by omega)⟩
  obtain ⟨Ai, ci, k1, k2⟩ := h3 k p hp
  rcases h1.2 with ⟨_, h0⟩ | ⟨g, cap, cur, hv, hbg, hh, r⟩
  · omega
  · injection hv with hA hn hc
    subst hA
    exact ⟨g, p, Ai, ci, rfl, hbg, hp, by rw [World.ownsRow.cellAt h1 k (by omega)]; exact k1, k2⟩
theorem OwnR.rr (h : OwnR w base A n c ps) : RR w w.heap.size A n ps := by
  have hl := h.len
  refine ⟨hl, fun hn => ?_⟩
  obtain ⟨g, p, Ai, ci, rfl, hbg, hp, hc, ho⟩ := h.at_ hn
  have hg : g < w.heap.size := World.block_lt_of_cell? w _ hc
  refine ⟨g, 0, rfl, hg, fun i q hq => ?_⟩
  have hi : i < n := by rw [← hl]; exact (List.getElem?_eq_some_iff.1 hq).1
  obtain ⟨g2, p2, A2, c2, e2, _, hp2, hc2, ho2⟩ := h.at_ hi
  injection e2 with e2
  injection e2 with e3
  subst e3
  rw [hq] at hp2
  injection hp2 with e4
  subst e4
  exact ⟨A2, c2, by rw [Nat.zero_add]; exact hc2, ho2.rb⟩
end

set_option maxRecDepth 100000 in
/-- append of one row to rows of the call's own. -/
theorem wp_appR {w : World} {o : Oper} {a : Act} {K : Act → World → Prop} {Q : Exit → Act → World → Prop} (s x : Operand)
    (ho : o.op = .call { callee := .builtin .append, args := #[s, x], argTypes := #[23, 23] })
    (base : Nat) (A : Option Addr) (n c : Nat) (ps : List (List UInt8)) (hs : a.eval s = .slice A n c) (hown : OwnR w base A n c ps)
    (g c' : Nat) (Ax : Option Addr) (m cx : Nat) (p : List UInt8) (hx : a.eval x = .slice (some ⟨g, 0, none⟩) 1 c') (hcell : w.cell? ⟨g, 0, none⟩ = some (.slice Ax m cx)) (hp : OwnB w base Ax m cx p)
    (hsum : n + 1 ≤ 4000000000000) (hbase : base ≤ w.heap.size)
    (h : ∀ A'' c'' w', OwnR w' base A'' (n + 1) c'' (ps ++ [p]) → KeepsB w w' → Below base w w' → K (a.put o.dst (.slice A'' (n + 1) c'')) w') : o.wp Try.prog a w K Q := by
  obtain rfl : p.length = m := hp.len
  obtain ⟨i0, hi0, hz0, hz1, hz2⟩ := info_parts row_info
  obtain ⟨vs, h1, h2, h3⟩ := hown
  obtain ⟨v', w', hrun, k1, k2, _⟩ := run_append_own (P := Try.prog) w base 23 o.type 32 i0 (.slice none 0 0) 1 24 Try.underlying23 hi0 hz0 hz1 hz2 rfl (by omega) (.slice A n c) n vs h1
    ⟨g, 0, none⟩ 1 c' [.slice Ax p.length cx] rfl (fun j u hu => by
      have hj : j = 0 := by
        have := (List.getElem?_eq_some_iff.1 hu).1
        simp at this
        exact this
      subst hj
      simp at hu
      subst hu
      exact hcell) (by intro u hu; simp at hu; subst hu; rfl) (by unfold maxLen; omega) (by omega) hbase
  have hkb := keepsB_grown h1 k2
  obtain ⟨A'', c'', rfl⟩ : ∃ A'' c'', v' = .slice A'' (n + 1) c'' := by
    rcases k1.2 with ⟨rfl, h0⟩ | ⟨g, cap, cur, rfl, _⟩
    · omega
    · exact ⟨_, _, rfl⟩
  unfold Oper.wp execOp
  simp only [ho, resolve, invoke, builtin, Sem.run_bind, Sem.run_pure, Result.andThen_ok, List.map_toArray, List.map_cons, List.map_nil, hs, hx, hrun]
  refine h A'' c'' w' ⟨vs ++ [.slice Ax p.length cx], k1, by simp [h2], fun i q hq => ?_⟩ hkb ((Below.refl _ _).grown k2 hbase (fun k hk => (World.ownsRow.lt h1 k hk).1))
  rcases Nat.lt_or_ge i ps.length with hi | hi
  · rw [List.getElem?_append_left hi] at hq
    obtain ⟨Ai, ci, q1, q2⟩ := h3 i q hq
    exact ⟨Ai, ci, by rw [List.getElem?_append_left (by omega)]; exact q1, hkb _ _ _ _ _ q2⟩
  · rw [List.getElem?_append_right hi] at hq
    have hi0 : i - ps.length = 0 := by
      have := (List.getElem?_eq_some_iff.1 hq).1
      simp at this
      omega
    rw [hi0] at hq
    simp at hq
    subst hq
    exact ⟨Ax, cx, by rw [List.getElem?_append_right (by omega), show i - vs.length = 0 by omega]; rfl, hkb _ _ _ _ _ hp⟩
theorem wpList_appR {w : World} {ops : Array Oper} {rest : List Oper} {o : Oper} {a : Act} {Q : Exit → Act → World → Prop} (hgd : o.guard = none) (s x : Operand)
    (ho : o.op = .call { callee := .builtin .append, args := #[s, x], argTypes := #[23, 23] })
    (base : Nat) (A : Option Addr) (n c : Nat) (ps : List (List UInt8)) (hs : a.eval s = .slice A n c) (hown : OwnR w base A n c ps)
    (g c' : Nat) (Ax : Option Addr) (m cx : Nat) (p : List UInt8) (hx : a.eval x = .slice (some ⟨g, 0, none⟩) 1 c') (hcell : w.cell? ⟨g, 0, none⟩ = some (.slice Ax m cx)) (hp : OwnB w base Ax m cx p)
    (hsum : n + 1 ≤ 4000000000000) (hbase : base ≤ w.heap.size)
    (h : ∀ A'' c'' w', OwnR w' base A'' (n + 1) c'' (ps ++ [p]) → KeepsB w w' → Below base w w' → wpList Try.prog ops Q rest (a.put o.dst (.slice A'' (n + 1) c'')) w') : wpList Try.prog ops Q (o :: rest) a w :=
  wpList_plain hgd fun _ hK => wp_appR s x ho base A n c ps hs hown g c' Ax m cx p hx hcell hp hsum hbase fun A'' c'' w' h2 h3 h4 => hK _ _ (h A'' c'' w' h2 h3 h4)
end Go.Proofs.Ytocbdgkehgmahaa

/- Slices that a call makes itself, whose elements have several cells (elements of the field, rows of coefficients): append, reading one. Conditions: lengths within the model's bounds, as each law says. -/
namespace Go.Proofs.Ytocbdgkehgmahaa
open Go.RowKit
set_option linter.unusedVariables false

/-- Elements as cells: k cells each. -/
structure CellsOf (T S : TypeId) (k bytes : Nat) (z : Value) (f : Nat → List Value) : Prop where
  und : Try.prog.underlying S = some (.slice T)
  info : (Try.prog.info? T).map (fun i => (i.zero, i.size, i.bytes)) = some (some z, k, bytes)
  zk : z.cells.size = k
  pos : 0 < k
  len : ∀ x, (f x).length = k
  one : ∀ x, ∀ u ∈ f x, u.oneCell' = true
theorem flat_len {k : Nat} {f : Nat → List Value} (h : ∀ x, (f x).length = k) : ∀ xs : List Nat, (xs.flatMap f).length = xs.length * k
  | [] => by simp
  | x :: xs => by rw [List.flatMap_cons, List.length_append, h x, flat_len h xs, List.length_cons, Nat.succ_mul, Nat.add_comm]
theorem flat_at {k : Nat} {f : Nat → List Value} (h : ∀ x, (f x).length = k) : ∀ (xs : List Nat) (i x j : Nat), xs[i]? = some x → j < k → (xs.flatMap f)[i * k + j]? = (f x)[j]?
  | [], i, x, j, hx, _ => by simp at hx
  | y :: xs, 0, x, j, hx, hj => by
    injection hx with hx
    subst hx
    rw [List.flatMap_cons, List.getElem?_append_left (by rw [h]; omega), Nat.zero_mul, Nat.zero_add]
  | y :: xs, i + 1, x, j, hx, hj => by
    have e : (i + 1) * k + j = k + (i * k + j) := by rw [Nat.succ_mul]; omega
    rw [List.flatMap_cons, e, List.getElem?_append_right (by rw [h]; omega), h, Nat.add_sub_cancel_left]
    exact flat_at h xs i x j hx hj
/-- The slice value (A, n, c) is of the call's own and holds the elements xs. -/
def OwnX (T : TypeId) (k : Nat) (f : Nat → List Value) (w : World) (base : Nat) (A : Option Addr) (n c : Nat) (xs : List Nat) : Prop :=
  w.ownsRow base T k (.slice A n c) n (xs.flatMap f) ∧ xs.length = n
section
variable {T S : TypeId} {k bytes : Nat} {z : Value} {f : Nat → List Value} {w w' : World} {base n c g : Nat} {A : Option Addr} {xs : List Nat}
theorem OwnX.below (h : OwnX T k f w base A n c xs) (hb : Below w.heap.size w w') : OwnX T k f w' base A n c xs := by
  refine ⟨⟨h.1.1, ?_⟩, h.2⟩
  rcases h.1.2 with h0 | ⟨g, cap, cur, hv, hbg, hh, r⟩
  · exact .inl h0
  · exact .inr ⟨g, cap, cur, hv, hbg, (hb.block g (Array.getElem?_eq_some_iff.1 hh).1).trans hh, r⟩
theorem OwnX.base_le {base' : Nat} (h : OwnX T k f w base A n c xs) (hb : base' ≤ base) : OwnX T k f w base' A n c xs := by
  refine ⟨⟨h.1.1, ?_⟩, h.2⟩
  rcases h.1.2 with h0 | ⟨g, cap, cur, hv, hbg, r⟩
  · exact .inl h0
  · exact .inr ⟨g, cap, cur, hv, by omega, r⟩
theorem OwnX.drew (h : OwnX T k f w base A n c xs) : OwnX T k f w.drew base A n c xs := h
theorem OwnX.nil_ (T : TypeId) (k : Nat) (f : Nat → List Value) (w : World) (base : Nat) : OwnX T k f w base none 0 0 [] := ⟨World.ownsRow_nil w base _ k, rfl⟩
/-- No elements yet, in a block of its own. -/
theorem OwnX.lit0 (T : TypeId) (k : Nat) (f : Nat → List Value) (w : World) (base : Nat) (hb : base ≤ w.heap.size) : OwnX T k f (w.alloc (.cells #[] T)) base (some ⟨w.heap.size, 0, none⟩) 0 0 [] :=
  ⟨World.ownsRow_lit (size := k) (base := base) (e := T) w #[] 0 hb (by unfold maxLen; omega) (by simp), rfl⟩
theorem OwnX.at_ (h : OwnX T k f w base A n c xs) (hf : ∀ x, (f x).length = k) {i x : Nat} (hx : xs[i]? = some x) : ∃ g, A = some ⟨g, 0, none⟩ ∧ base ≤ g ∧ g < w.heap.size ∧ w.rangeAt g (i * k) (f x) := by
  have hi : i < n := by have := (List.getElem?_eq_some_iff.1 hx).1; have := h.2; omega
  have hA : ∃ g, A = some ⟨g, 0, none⟩ ∧ base ≤ g ∧ g < w.heap.size := by
    rcases h.1.2 with ⟨_, h0⟩ | ⟨g, cap, cur, hv, hbg, hh, r⟩
    · omega
    · injection hv with hA
      exact ⟨g, hA, hbg, (Array.getElem?_eq_some_iff.1 hh).1⟩
  obtain ⟨g, rfl, hbg, hg⟩ := hA
  refine ⟨g, rfl, hbg, hg, fun j v hv => ?_⟩
  have hj : j < k := by have := (List.getElem?_eq_some_iff.1 hv).1; rw [hf] at this; exact this
  have hlt : i * k + j < n * k := by
    have : (i + 1) * k ≤ n * k := Nat.mul_le_mul_right k hi
    rw [Nat.succ_mul] at this
    omega
  rw [World.ownsRow.cellAt h.1 (i * k + j) hlt, flat_at hf xs i x j hx hj]
  exact hv
theorem OwnX.cells_ (h : OwnX T k f w base (some ⟨g, 0, none⟩) n c xs) : ∀ j u, (xs.flatMap f)[j]? = some u → w.cell? ⟨g, j, none⟩ = some u := fun j u hu => by
  have hj := (List.getElem?_eq_some_iff.1 hu).1
  rw [World.ownsRow.cellAt h.1 j (by have := h.1.1; omega)]
  exact hu
end

set_option maxRecDepth 100000 in
/-- append of elements to elements of the call's own. -/
theorem wp_appX {T S : TypeId} {k bytes : Nat} {z : Value} {f : Nat → List Value} (hX : CellsOf T S k bytes z f) {w : World} {o : Oper} {a : Act} {K : Act → World → Prop} {Q : Exit → Act → World → Prop} (s x : Operand)
    (ho : o.op = .call { callee := .builtin .append, args := #[s, x], argTypes := #[S, S] })
    (base : Nat) (A : Option Addr) (n c : Nat) (xs : List Nat) (hs : a.eval s = .slice A n c) (hown : OwnX T k f w base A n c xs)
    (g m c' : Nat) (ys : List Nat) (hx : a.eval x = .slice (some ⟨g, 0, none⟩) m c') (hm : ys.length = m) (hcell : ∀ j u, (ys.flatMap f)[j]? = some u → w.cell? ⟨g, j, none⟩ = some u)
    (hmax : n + m ≤ maxLen) (hsum : (n + m) * bytes ≤ 140737488355328) (hbase : base ≤ w.heap.size)
    (h : ∀ A'' c'' w', OwnX T k f w' base A'' (n + m) c'' (xs ++ ys) → Below base w w' → K (a.put o.dst (.slice A'' (n + m) c'')) w') : o.wp Try.prog a w K Q := by
  obtain ⟨i0, hi0, hz0, hz1, hz2⟩ := info_parts hX.info
  obtain ⟨v', w', hrun, k1, k2, _⟩ := run_append_own (P := Try.prog) w base S o.type T i0 z k bytes hX.und hi0 hz0 hz1 hz2 hX.zk hX.pos (.slice A n c) n _ hown.1
    ⟨g, 0, none⟩ m c' (ys.flatMap f) (by rw [flat_len hX.len, hm]) (fun j u hu => by
      rw [Addr.add_mid, Nat.zero_add]; exact hcell j u hu) (fun u hu => by
      obtain ⟨y, _, hy⟩ := List.mem_flatMap.1 hu
      exact hX.one y u hy) hmax hsum hbase
  obtain ⟨A'', c'', rfl⟩ : ∃ A'' c'', v' = .slice A'' (n + m) c'' := by
    rcases k1.2 with ⟨rfl, h0⟩ | ⟨g, cap, cur, rfl, _⟩
    · exact ⟨none, 0, by rw [h0]⟩
    · exact ⟨_, _, rfl⟩
  unfold Oper.wp execOp
  simp only [ho, resolve, invoke, builtin, Sem.run_bind, Sem.run_pure, Result.andThen_ok, List.map_toArray, List.map_cons, List.map_nil, hs, hx, hrun]
  exact h A'' c'' w' ⟨by rw [List.flatMap_append]; exact k1, by rw [List.length_append, hown.2, hm]⟩ ((Below.refl _ _).grown k2 hbase (fun k hk => (World.ownsRow.lt hown.1 k hk).1))
theorem wpList_appX {T S : TypeId} {k bytes : Nat} {z : Value} {f : Nat → List Value} (hX : CellsOf T S k bytes z f) {w : World} {ops : Array Oper} {rest : List Oper} {o : Oper} {a : Act} {Q : Exit → Act → World → Prop} (hgd : o.guard = none) (s x : Operand)
    (ho : o.op = .call { callee := .builtin .append, args := #[s, x], argTypes := #[S, S] })
    (base : Nat) (A : Option Addr) (n c : Nat) (xs : List Nat) (hs : a.eval s = .slice A n c) (hown : OwnX T k f w base A n c xs)
    (g m c' : Nat) (ys : List Nat) (hx : a.eval x = .slice (some ⟨g, 0, none⟩) m c') (hm : ys.length = m) (hcell : ∀ j u, (ys.flatMap f)[j]? = some u → w.cell? ⟨g, j, none⟩ = some u)
    (hmax : n + m ≤ maxLen) (hsum : (n + m) * bytes ≤ 140737488355328) (hbase : base ≤ w.heap.size)
    (h : ∀ A'' c'' w', OwnX T k f w' base A'' (n + m) c'' (xs ++ ys) → Below base w w' → wpList Try.prog ops Q rest (a.put o.dst (.slice A'' (n + m) c'')) w') : wpList Try.prog ops Q (o :: rest) a w :=
  wpList_plain hgd fun _ hK => wp_appX hX s x ho base A n c xs hs hown g m c' ys hx hm hcell hmax hsum hbase fun A'' c'' w' h2 h3 => hK _ _ (h A'' c'' w' h2 h3)
end Go.Proofs.Ytocbdgkehgmahaa

