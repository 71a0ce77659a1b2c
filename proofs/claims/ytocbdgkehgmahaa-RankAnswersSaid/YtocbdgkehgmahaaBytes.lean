/- The laws of this seat's walks for slices of bytes that a call makes itself: append, make, store; strings out of bytes. Conditions: lengths within the model's bounds, as each law says. -/
import Derived.Test.YtocbdgkehgmahaaBase
import Derived.Test.YtocbdgkehgmahaaChecked
import Derived.RegionTactic
import Derived.Deep.RegionLaw
import Derived.Laws.AppendOwnNone
import Derived.Laws.BytesArg
namespace Go.Proofs.Ytocbdgkehgmahaa
open Go.RowKit

theorem u8_info : (Try.prog.info? 5).map (fun i => (i.zero, i.size, i.bytes)) = some (some (.int .u8 0), 1, 1) := by kernel_rfl

/-- The slice value (A, n, c) owns the bytes l: it is nil and empty, or begins a row that the call made (block base or later). -/
def OwnB (w : World) (base : Nat) (A : Option Addr) (n c : Nat) (l : List UInt8) : Prop := w.ownsRow base 5 1 (.slice A n c) n (bvs l)

section
variable {w w' : World} {base n c : Nat} {A : Option Addr} {l : List UInt8}
theorem OwnB.rb (h : OwnB w base A n c l) : RB w w.heap.size A n l := RB.of_own h
theorem OwnB.len (h : OwnB w base A n c l) : l.length = n := h.rb.len
theorem OwnB.cap (h : OwnB w base A n c l) : n ≤ c ∧ c ≤ maxLen := by
  rcases h.2 with ⟨hv, h0⟩ | ⟨g, cap, cur, hv, _, _, hnc, hcm, _⟩
  · injection hv with _ _ hc; subst hc; subst h0; exact ⟨Nat.le_refl _, Nat.zero_le _⟩
  · injection hv with _ _ hc; subst hc; exact ⟨hnc, hcm⟩
theorem OwnB.nil_ (w : World) (base : Nat) : OwnB w base none 0 0 [] := World.ownsRow_nil w base _ 1
theorem OwnB.base_le {base' : Nat} (h : OwnB w base A n c l) (hb : base' ≤ base) : OwnB w base' A n c l := by
  refine ⟨h.1, ?_⟩
  rcases h.2 with h0 | ⟨g, cap, cur, hv, hbg, r⟩
  · exact .inl h0
  · exact .inr ⟨g, cap, cur, hv, by omega, r⟩
theorem OwnB.below (h : OwnB w base A n c l) (hb : Below w.heap.size w w') : OwnB w' base A n c l := by
  refine ⟨h.1, ?_⟩
  rcases h.2 with h0 | ⟨g, cap, cur, hv, hbg, hh, r⟩
  · exact .inl h0
  · exact .inr ⟨g, cap, cur, hv, hbg, (hb.block g (Array.getElem?_eq_some_iff.1 hh).1).trans hh, r⟩
theorem OwnB.alloc (h : OwnB w base A n c l) (o : Obj) : OwnB (w.alloc o) base A n c l := World.ownsRow.alloc h o
theorem OwnB.drew (h : OwnB w base A n c l) : OwnB w.drew base A n c l := h
theorem OwnB.drewN (h : OwnB w base A n c l) (k : Nat) : OwnB (w.drewN k) base A n c l := h
/-- The block that it begins, where it holds a byte. -/
theorem OwnB.form (h : OwnB w base A n c l) (hn : 0 < n) : ∃ g, A = some ⟨g, 0, none⟩ ∧ base ≤ g ∧ g < w.heap.size := by
  rcases h.2 with ⟨_, h0⟩ | ⟨g, cap, cur, hv, hbg, hh, _⟩
  · omega
  · injection hv with hA
    exact ⟨g, hA, hbg, (Array.getElem?_eq_some_iff.1 hh).1⟩
theorem own_block_ge {B : Nat} (h : OwnB w base A n c l) (hB : B ≤ base) : ∀ k, Value.ownBlock (.slice A n c) = some k → B ≤ k := fun k hk => Nat.le_trans hB (World.ownsRow.lt h k hk).1
end

/-- A new row of the bytes l. -/
theorem RB.new (w : World) (l : List UInt8) (cs : Array Value) (e : TypeId) (hc : cs = (bvs l).toArray) : RB (w.alloc (.cells cs e)) (w.heap.size + 1) (some ⟨w.heap.size, 0, none⟩) l.length l := by
  subst hc
  refine ⟨rfl, fun _ => ⟨w.heap.size, 0, rfl, Nat.lt_succ_self _, fun i hi => ?_⟩⟩
  rw [cell_of_row (w.alloc (.cells (bvs l).toArray e)) w.heap.size (0 + i) _ e (0, 0) (heap_alloc_new w _)]
  simp [bvs, hi]

/-- A new row of the bytes l is the call's own. -/
theorem OwnB.lit (w : World) (base : Nat) (l : List UInt8) (cs : Array Value) (n : Nat) (hc : cs = (bvs l).toArray) (hn : l.length = n) (hm : n ≤ maxLen) (hb : base ≤ w.heap.size) :
    OwnB (w.alloc (.cells cs 5)) base (some ⟨w.heap.size, 0, none⟩) n n l := by
  subst hc
  have := World.ownsRow_lit (size := 1) (base := base) (e := 5) w (bvs l).toArray n hb hm (by simp [bvs, hn])
  simpa [OwnB] using this

theorem RB.step {w w' : World} {n : Nat} {A : Option Addr} {l : List UInt8} (h : RB w w.heap.size A n l) (hb : Below w.heap.size w w') : RB w' w'.heap.size A n l := (h.below hb).more hb.size
theorem RB.lit (w : World) (l : List UInt8) (cs : Array Value) (n g : Nat) (hc : cs = (bvs l).toArray) (hn : l.length = n) (hg : g = w.heap.size) : RB (w.alloc (.cells cs 5)) (w.alloc (.cells cs 5)).heap.size (some ⟨g, 0, none⟩) n l := by
  subst hn
  subst hg
  exact (RB.new w l cs _ hc).more (by simp)
theorem below_alloc (w : World) (o : Obj) : Below w.heap.size w (w.alloc o) := (Below.refl _ _).alloc (Nat.le_refl _) _
theorem bel_next {w w1 w2 : World} (h : Below w.heap.size w w1) (h2 : Below w1.heap.size w1 w2) : Below w.heap.size w w2 := h.trans (h2.mono h.size)
/-- The string of bytes. -/
def strL (l : List UInt8) : ByteArray := ⟨l.toArray⟩
theorem strOfNums_bytes (l : List UInt8) : strOfNums (l.map fun b => (b.toNat : Int)) = strL l := by
  simp [strOfNums, strL, Function.comp_def]
theorem run_str {w : World} {B n : Nat} {A : Option Addr} {l : List UInt8} (h : RB w B A n l) (c : Nat) : (convert 32 9 (.slice A n c)).run Try.prog w = .ok (.string (strL l)) w := by
  rcases Nat.eq_zero_or_pos n with hn | hn
  · subst hn
    have hl : l = [] := List.eq_nil_of_length_eq_zero h.len
    subst hl
    rcases A with _ | ad
    · exact run_convert_bytes_nil (P := Try.prog) w 32 5 Try.underlying32 Try.underlying5 0 c 9 Try.underlying9
    · rw [run_convert_bytes_string (P := Try.prog) w 32 9 5 _ 0 c Try.underlying32 Try.underlying5 Try.underlying9, run_bytesToString w _ 0 c [] (by simp [loadCells, loadCellsFrom])]
      rfl
  · obtain ⟨b, off, rfl, _, hcell⟩ := h.2 hn
    rw [run_convert_bytes_arg (P := Try.prog) w 32 5 Try.underlying32 Try.underlying5 b off n c (l.map fun b => (b.toNat : Int)) (by simp [h.len]) (fun i hi => by
      have hl : i < l.length := by rw [h.len]; exact hi
      rw [hcell i hl]
      simp [bv, List.getD, hl]) 9 Try.underlying9, strOfNums_bytes]

/-- The address of a slice's part that begins at l. -/
def cutA (A : Option Addr) (c l : Nat) : Option Addr := if c = l then A else A.map (·.add l)
theorem cut_lh (A : Option Addr) (n c l h : Nat) (h1 : l ≤ h) (h2 : h ≤ c) : ∀ W : World, (Instr.slice 32 (.slice A n c) (some (.int .i64 (l : Int))) (some (.int .i64 (h : Int))) none).run Try.prog W = .ok (.slice (cutA A c l) (h - l) (c - l)) W := by
  intro W
  simp [Instr.slice, Instr.sliceBounds, Instr.sliceBound, asIntOf, go_sem, run_underlying Try.underlying32, h1, h2, cutA]
theorem cut_h (A : Option Addr) (n c h : Nat) (h2 : h ≤ c) : ∀ W : World, (Instr.slice 32 (.slice A n c) none (some (.int .i64 (h : Int))) none).run Try.prog W = .ok (.slice (cutA A c 0) h c) W := by
  intro W
  simp [Instr.slice, Instr.sliceBounds, Instr.sliceBound, asIntOf, go_sem, run_underlying Try.underlying32, h2, cutA]
theorem cut_l (A : Option Addr) (n c l : Nat) (h1 : l ≤ n) : ∀ W : World, (Instr.slice 32 (.slice A n c) (some (.int .i64 (l : Int))) none none).run Try.prog W = .ok (.slice (cutA A c l) (n - l) (c - l)) W := by
  intro W
  simp [Instr.slice, Instr.sliceBounds, Instr.sliceBound, asIntOf, go_sem, run_underlying Try.underlying32, h1, cutA]
theorem RB.part {w : World} {B n : Nat} {A : Option Addr} {l : List UInt8} (h : RB w B A n l) {i j c : Nat} (hij : i ≤ j) (hj : j ≤ n) (hc : n ≤ c) : RB w B (cutA A c i) (j - i) ((l.take j).drop i) := h.cut hij hj hc

set_option maxRecDepth 100000 in
/-- append of bytes to bytes of the call's own, from whatever source. -/
theorem wp_app {w : World} {o : Oper} {a : Act} {K : Act → World → Prop} {Q : Exit → Act → World → Prop} (s x : Operand)
    (ho : o.op = .call { callee := .builtin .append, args := #[s, x], argTypes := #[32, 32] })
    (base : Nat) (A : Option Addr) (n c : Nat) (l : List UInt8) (hs : a.eval s = .slice A n c) (hown : OwnB w base A n c l)
    (B : Nat) (A' : Option Addr) (m c' : Nat) (l' : List UInt8) (hx : a.eval x = .slice A' m c') (hr : RB w B A' m l')
    (hsum : n + m ≤ 140737488355328) (hbase : base ≤ w.heap.size)
    (h : ∀ A'' c'' w', OwnB w' base A'' (n + m) c'' (l ++ l') → w.grownBy w' (Value.ownBlock (.slice A n c)) → Below base w w' → K (a.put o.dst (.slice A'' (n + m) c'')) w') : o.wp Try.prog a w K Q := by
  obtain ⟨i0, hi0, hz0, hz1, hz2⟩ := info_parts u8_info
  have key : ∃ v' w', (Builtin.append_ #[32, 32] o.type #[.slice A n c, .slice A' m c']).run Try.prog w = .ok v' w' ∧ w'.ownsRow base 5 1 v' (n + m) (bvs l ++ bvs l') ∧ w.grownBy w' (Value.ownBlock (.slice A n c)) := by
    rcases Nat.eq_zero_or_pos m with hm | hm
    · subst hm
      have hl' : l' = [] := List.eq_nil_of_length_eq_zero hr.len
      subst hl'
      refine ⟨.slice A n c, w, ?_, by have h0 := hown; unfold OwnB at h0; simpa [bvs] using h0, World.grownBy.refl w _⟩
      rcases A' with _ | ad
      · rcases hown.2 with ⟨hv, h0⟩ | ⟨g, cap, cur, hv, _, _, hnc, _⟩
        · injection hv with e1 e2 e3
          subst e1; subst e2; subst e3
          simp [Builtin.append_, run_underlying Try.underlying32, sizeOf, typeInfo, hi0, Builtin.lenOf, Builtin.firstCells]
        · injection hv with e1 e2 e3
          subst e1; subst e3
          simp [Builtin.append_, run_underlying Try.underlying32, sizeOf, typeInfo, hi0, Builtin.lenOf, Builtin.firstCells, hnc, storeCells]
      · rcases hown.2 with ⟨hv, h0⟩ | ⟨g, cap, cur, hv, _, _, hnc, _⟩
        · injection hv with e1 e2 e3
          subst e1; subst e2; subst e3
          simp [Builtin.append_, run_underlying Try.underlying32, sizeOf, typeInfo, hi0, Builtin.lenOf, Builtin.firstCells, loadCells, loadCellsFrom]
        · injection hv with e1 e2 e3
          subst e1; subst e3
          simp [Builtin.append_, run_underlying Try.underlying32, sizeOf, typeInfo, hi0, Builtin.lenOf, Builtin.firstCells, hnc, storeCells, loadCells, loadCellsFrom]
    · obtain ⟨b, off, rfl, hb, hcell⟩ := hr.2 hm
      obtain ⟨v', w', hrun, h2, h3, _⟩ := run_append_own (P := Try.prog) w base 32 o.type 5 i0 (.int .u8 0) 1 1 Try.underlying32 hi0 hz0 hz1 hz2 rfl (by omega) (.slice A n c) n (bvs l) hown
        ⟨b, off, none⟩ m c' (bvs l') (by rw [bvs_length, hr.len]; omega) (fun j u hu => by
          have hj : j < l'.length := by
            have := (List.getElem?_eq_some_iff.1 hu).1
            simpa [bvs] using this
          have hadd : (⟨b, off, none⟩ : Addr).add j = ⟨b, off + j, none⟩ := by unfold Addr.add; split <;> simp_all
          rw [hadd, hcell j hj, ← hu]
          simp [bvs, hj]) (bvs_one l') (by unfold maxLen; omega) (by omega) hbase
      exact ⟨v', w', hrun, h2, h3⟩
  obtain ⟨v', w', hrun, h2, h3⟩ := key
  obtain ⟨A'', c'', rfl⟩ : ∃ A'' c'', v' = .slice A'' (n + m) c'' := by
    rcases h2.2 with ⟨rfl, h0⟩ | ⟨g, cap, cur, rfl, _⟩
    · exact ⟨none, 0, by rw [h0]⟩
    · exact ⟨_, _, rfl⟩
  unfold Oper.wp execOp
  simp only [ho, resolve, invoke, builtin, Sem.run_bind, Sem.run_pure, Result.andThen_ok, List.map_toArray, List.map_cons, List.map_nil, hs, hx, hrun]
  exact h A'' c'' w' (by unfold OwnB; rw [bvs_append]; exact h2) h3 ((Below.refl _ _).grown h3 hbase (own_block_ge hown (Nat.le_refl _)))

theorem wpList_app {w : World} {ops : Array Oper} {rest : List Oper} {o : Oper} {a : Act} {Q : Exit → Act → World → Prop} (hgd : o.guard = none) (s x : Operand)
    (ho : o.op = .call { callee := .builtin .append, args := #[s, x], argTypes := #[32, 32] })
    (base : Nat) (A : Option Addr) (n c : Nat) (l : List UInt8) (hs : a.eval s = .slice A n c) (hown : OwnB w base A n c l)
    (B : Nat) (A' : Option Addr) (m c' : Nat) (l' : List UInt8) (hx : a.eval x = .slice A' m c') (hr : RB w B A' m l')
    (hsum : n + m ≤ 140737488355328) (hbase : base ≤ w.heap.size)
    (h : ∀ A'' c'' w', OwnB w' base A'' (n + m) c'' (l ++ l') → w.grownBy w' (Value.ownBlock (.slice A n c)) → Below base w w' → wpList Try.prog ops Q rest (a.put o.dst (.slice A'' (n + m) c'')) w') : wpList Try.prog ops Q (o :: rest) a w :=
  wpList_plain hgd fun _ hK => wp_app s x ho base A n c l hs hown B A' m c' l' hx hr hsum hbase fun A'' c'' w' h2 h3 h4 => hK _ _ (h A'' c'' w' h2 h3 h4)

theorem step_app {w : World} {ops : Array Oper} {o : Oper} {a : Act} {K : Act → World → Prop} {Q : Exit → Act → World → Prop} {E : Prop} (hgd : o.guard = none) (s x : Operand)
    (ho : o.op = .call { callee := .builtin .append, args := #[s, x], argTypes := #[32, 32] })
    (base : Nat) (A : Option Addr) (n c : Nat) (l : List UInt8) (hs : a.eval s = .slice A n c) (hown : OwnB w base A n c l)
    (B : Nat) (A' : Option Addr) (m c' : Nat) (l' : List UInt8) (hx : a.eval x = .slice A' m c') (hr : RB w B A' m l')
    (hsum : n + m ≤ 140737488355328) (hbase : base ≤ w.heap.size)
    (h : ∀ A'' c'' w', OwnB w' base A'' (n + m) c'' (l ++ l') → w.grownBy w' (Value.ownBlock (.slice A n c)) → Below base w w' → K (a.put o.dst (.slice A'' (n + m) c'')) w') :
    if Region.wanted o (yielded ops a.tmps) = true then Oper.wp Try.prog o a w K Q else E := by
  have hw : Region.wanted o (yielded ops a.tmps) = true := by simp [Region.wanted, hgd]
  rw [if_pos hw]
  exact wp_app s x ho base A n c l hs hown B A' m c' l' hx hr hsum hbase h

/-- make of n bytes, n a variable. -/
theorem wpList_mk {w : World} {ops : Array Oper} {rest : List Oper} {o : Oper} {a : Act} {Q : Exit → Act → World → Prop} (hgd : o.guard = none) (lo co : Operand) (hop : o.op = Op.makeSlice 32 lo co)
    (base : Nat) (kl kc : IntKind) (L C : Int) (n : Nat) (hl : a.eval lo = .int kl L) (hc : a.eval co = .int kc C) (hL : L = (n : Int)) (hC : C = (n : Int)) (hn : n ≤ 140737488355328) (hbase : base ≤ w.heap.size)
    (hK : ∀ w', OwnB w' base (some ⟨w.heap.size, 0, none⟩) n n (List.replicate n 0) → w'.heap.size = w.heap.size + 1 → Below w.heap.size w w' → wpList Try.prog ops Q rest (a.put o.dst (.slice (some ⟨w.heap.size, 0, none⟩) n n)) w') :
    wpList Try.prog ops Q (o :: rest) a w := by
  obtain ⟨i0, hi0, hz0, hz1, hz2⟩ := info_parts u8_info
  refine wpList_plain hgd fun K hK' => ?_
  have hrun := run_make (P := Try.prog) w 32 5 i0 (.int .u8 0) Try.underlying32 hi0 hz0 kl kc (n : Int) (n : Int) (by omega) (by omega) (by rw [hz2]; omega) (by omega)
  subst hL
  subst hC
  unfold Oper.wp
  simp only [Int.toNat_natCast, hz1, Nat.mul_one] at hrun
  simp [execOp, hop, hl, hc, hrun, Result.andThen]
  refine hK' _ _ (hK _ ?_ ?_ ((Below.refl _ _).alloc (Nat.le_refl _) _))
  · have h := World.ownsRow_lit (size := 1) (base := base) (e := 5) w (madeCells (Value.int .u8 0).cells n) n hbase (by unfold maxLen; omega) (by simp [size_madeCells])
    have e : (madeCells (Value.int .u8 0).cells n).toList = bvs (List.replicate n 0) := by
      apply List.ext_getElem
      · simp [bvs, size_madeCells]
      · intro i h1 h2
        simp [madeCells, bvs, bv, Value.cells, Nat.mod_one]
    rw [e] at h
    exact h
  · simp

/-- make of no bytes with room for n. -/
theorem wpList_mk0 {w : World} {ops : Array Oper} {rest : List Oper} {o : Oper} {a : Act} {Q : Exit → Act → World → Prop} (hgd : o.guard = none) (lo co : Operand) (hop : o.op = Op.makeSlice 32 lo co)
    (base : Nat) (kl kc : IntKind) (C : Int) (n : Nat) (hl : a.eval lo = .int kl 0) (hc : a.eval co = .int kc C) (hC : C = (n : Int)) (hn : n ≤ 140737488355328) (hbase : base ≤ w.heap.size)
    (hK : ∀ w', OwnB w' base (some ⟨w.heap.size, 0, none⟩) 0 n [] → Below w.heap.size w w' → wpList Try.prog ops Q rest (a.put o.dst (.slice (some ⟨w.heap.size, 0, none⟩) 0 n)) w') :
    wpList Try.prog ops Q (o :: rest) a w := by
  obtain ⟨i0, hi0, hz0, hz1, hz2⟩ := info_parts u8_info
  exact wpList_make_own w hgd lo co 32 hop base 5 i0 _ 1 Try.underlying32 hi0 hz0 hz1 kl kc C n hl hc hC (by rw [hz2]; omega) (by unfold maxLen; omega) hbase
    fun w' h1 h2 => hK w' h1 ((Below.refl _ _).grown h2 (Nat.le_refl _) (by simp))

/-- A store of a byte into bytes of the call's own. -/
theorem OwnB.stored {w : World} {base n c g : Nat} {l : List UInt8} (h : OwnB w base (some ⟨g, 0, none⟩) n c l) (j : Nat) (x : UInt8) (u : Value) (hu : u = bv x) :
    OwnB (w.setCell ⟨g, j, none⟩ u) base (some ⟨g, 0, none⟩) n c (l.set j x) := by
  subst hu
  have := (World.ownsRow.stored h j (bv x)).1
  unfold OwnB
  have e : bvs (l.set j x) = (bvs l).set j (bv x) := by simp [bvs, List.map_set]
  rw [e]
  exact this
theorem OwnB.cellAt {w : World} {base n c g : Nat} {l : List UInt8} (h : OwnB w base (some ⟨g, 0, none⟩) n c l) {j : Nat} {x : UInt8} (hx : l[j]? = some x) : w.cell? ⟨g, j, none⟩ = some (.int .u8 (x.toNat : Int)) := by
  have hj : j < n := by
    have := (List.getElem?_eq_some_iff.1 hx).1
    rw [h.len] at this; exact this
  rw [World.ownsRow.cellAt h j (by omega)]
  simp [bvs, hx, bv]
theorem OwnB.freeAt {w : World} {base n c g : Nat} {l : List UInt8} (h : OwnB w base (some ⟨g, 0, none⟩) n c l) (j : Nat) : w.frozen? ⟨g, j, none⟩ = false := World.ownsRow.frozenAt h j
/-- A call that gives new bytes l (n of them). -/
def RetB (n : Nat) (l : List UInt8) (w : World) (e : Ending) (w' : World) : Prop :=
  ∃ A c, e = .returned (.slice A n c) ∧ OwnB w' w.heap.size A n c l ∧ Below w.heap.size w w'
/-- The same beside an error's number. -/
def RetBE (n : Nat) (l : List UInt8) (code : Int) (w : World) (e : Ending) (w' : World) : Prop :=
  ∃ A c, e = .returned (.tuple #[.slice A n c, .int .i64 code]) ∧ OwnB w' w.heap.size A n c l ∧ Below w.heap.size w w'

theorem xor_byte (x y : UInt8) : bits .xor .u8 (x.toNat : Int) (y.toNat : Int) = ((x ^^^ y).toNat : Int) := by
  rw [u8_xor_nat _ _ x.toNat_lt y.toNat_lt, UInt8.toNat_xor]
/-- The bytes' exclusive or, one by one. -/
def xorL (a b : List UInt8) : List UInt8 := List.zipWith (· ^^^ ·) a b
theorem xorL_len (a b : List UInt8) (h : b.length = a.length) : (xorL a b).length = a.length := by simp [xorL, h]
theorem xorL_snoc (a b : List UInt8) (x y : UInt8) (h : a.length = b.length) : xorL (a ++ [x]) (b ++ [y]) = xorL a b ++ [x ^^^ y] := by
  simp [xorL, List.zipWith_append h]
end Go.Proofs.Ytocbdgkehgmahaa
