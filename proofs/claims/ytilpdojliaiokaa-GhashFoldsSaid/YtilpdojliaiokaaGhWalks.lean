/- Folds are linear, and go on where a part ends (layer 5). No conditions; nothing is claimed of the program here. -/
import Derived.Test.YtilpdojliaiokaaRefGhFold
import Derived.Test.YtilpdojliaiokaaElemsX
import Derived.Test.YtilpdojliaiokaaGhTexts
namespace Go.Proofs.Ytilpdojliaiokaa
set_option linter.unusedVariables false

/-- Sums, one by one. -/
def xorZ (l m : List Nat) : List Nat := List.zipWith (· ^^^ ·) l m
theorem xorZ_len (l m : List Nat) (h : l.length = m.length) : (xorZ l m).length = l.length := by simp [xorZ, h]
theorem xorZ_at (l m : List Nat) (i a b : Nat) (ha : l[i]? = some a) (hb : m[i]? = some b) : (xorZ l m)[i]? = some (a ^^^ b) := by
  unfold xorZ
  rw [List.getElem?_zipWith, ha, hb]
theorem xorZ_snoc (l m : List Nat) (a b : Nat) (h : l.length = m.length) : xorZ (l ++ [a]) (m ++ [b]) = xorZ l m ++ [a ^^^ b] := by
  simp [xorZ, List.zipWith_append h]
theorem gFold_xor (h : Nat) : ∀ (l m : List Nat) (f g : Nat), l.length = m.length → gFold h (f ^^^ g) (xorZ l m) = gFold h f l ^^^ gFold h g m
  | [], [], f, g, _ => rfl
  | a :: l, b :: m, f, g, e => by
    have ih := gFold_xor h l m (gMul (f ^^^ a) h) (gMul (g ^^^ b) h) (by simpa using e)
    have e2 : gFold h (f ^^^ g) (xorZ (a :: l) (b :: m)) = gFold h (gMul ((f ^^^ g) ^^^ (a ^^^ b)) h) (xorZ l m) := rfl
    rw [e2, xor4, gMul_left, ih]
    rfl
/-- Folded from nought, sums of blocks are sums of folds. -/
theorem gFold_sums (h : Nat) (l m : List Nat) (e : l.length = m.length) : gFold h 0 (xorZ l m) = gFold h 0 l ^^^ gFold h 0 m := by
  have := gFold_xor h l m 0 0 e
  rwa [Nat.xor_self] at this
/-- By parts. -/
theorem gFold_cut (h f : Nat) (l : List Nat) (k : Nat) : gFold h f l = gFold h (gFold h f (l.take k)) (l.drop k) := by
  rw [← gFold_app, List.take_append_drop]
end Go.Proofs.Ytilpdojliaiokaa

/- append of elements of one's own, from elements of one's own, none or some. Conditions: lengths within bounds. -/
namespace Go.Proofs.Ytilpdojliaiokaa
open Go.RowKit
set_option linter.unusedVariables false
set_option linter.unusedSimpArgs false

set_option maxRecDepth 100000 in
theorem wp_appEE {w : World} {o : Oper} {a : Act} {K : Act → World → Prop} {Q : Exit → Act → World → Prop} (s x : Operand)
    (ho : o.op = .call { callee := .builtin .append, args := #[s, x], argTypes := #[29, 29] })
    (base : Nat) (A : Option Addr) (n c : Nat) (xs : List Nat) (hs : a.eval s = .slice A n c) (hown : OwnE w base A n c xs)
    (base' : Nat) (A' : Option Addr) (m c' : Nat) (ys : List Nat) (hx : a.eval x = .slice A' m c') (hsrc : OwnE w base' A' m c' ys) (hmax : n + m ≤ 1000000000) (hbase : base ≤ w.heap.size)
    (h : ∀ A'' c'' w', OwnE w' base A'' (n + m) c'' (xs ++ ys) → Below base w w' → K (a.put o.dst (.slice A'' (n + m) c'')) w') : o.wp Try.prog a w K Q := by
  rcases Nat.eq_zero_or_pos m with hm | hm
  · subst hm
    have hX := cells_pe
    obtain ⟨i0, hi0, hz0, hz1, hz2⟩ := info_parts hX.info
    have hl' : ys = [] := List.eq_nil_of_length_eq_zero hsrc.2
    subst hl'
    have hrun : (Builtin.append_ #[29, 29] o.type #[.slice A n c, .slice A' 0 c']).run Try.prog w = .ok (.slice A n c) w := by
      rcases A' with _ | ad
      · rcases hown.1.2 with ⟨hv, h0⟩ | ⟨g, cap, cur, hv, _, _, hnc, _⟩
        · injection hv with e1 e2 e3
          subst e1; subst e2; subst e3
          simp [Builtin.append_, run_underlying hX.und, sizeOf, typeInfo, hi0, Builtin.lenOf, Builtin.firstCells]
        · injection hv with e1 e2 e3
          subst e1; subst e3
          simp [Builtin.append_, run_underlying hX.und, sizeOf, typeInfo, hi0, Builtin.lenOf, Builtin.firstCells, hnc, storeCells]
      · rcases hown.1.2 with ⟨hv, h0⟩ | ⟨g, cap, cur, hv, _, _, hnc, _⟩
        · injection hv with e1 e2 e3
          subst e1; subst e2; subst e3
          simp [Builtin.append_, run_underlying hX.und, sizeOf, typeInfo, hi0, Builtin.lenOf, Builtin.firstCells, loadCells, loadCellsFrom]
        · injection hv with e1 e2 e3
          subst e1; subst e3
          simp [Builtin.append_, run_underlying hX.und, sizeOf, typeInfo, hi0, Builtin.lenOf, Builtin.firstCells, hnc, storeCells, loadCells, loadCellsFrom]
    unfold Oper.wp execOp
    simp only [ho, resolve, invoke, builtin, Sem.run_bind, Sem.run_pure, Result.andThen_ok, List.map_toArray, List.map_cons, List.map_nil, hs, hx, hrun]
    exact h A c w (by rw [List.append_nil]; exact hown) (Below.refl _ _)
  · obtain ⟨g, rfl⟩ := OwnX.form2 hsrc hm
    exact wp_appX cells_pe s x ho base A n c xs hs hown g m c' ys hx hsrc.2 (OwnX.cells_ hsrc) (by unfold maxLen; omega) (by omega) hbase h
theorem wpList_appEE {w : World} {ops : Array Oper} {rest : List Oper} {o : Oper} {a : Act} {Q : Exit → Act → World → Prop} (hgd : o.guard = none) (s x : Operand)
    (ho : o.op = .call { callee := .builtin .append, args := #[s, x], argTypes := #[29, 29] })
    (base : Nat) (A : Option Addr) (n c : Nat) (xs : List Nat) (hs : a.eval s = .slice A n c) (hown : OwnE w base A n c xs)
    (base' : Nat) (A' : Option Addr) (m c' : Nat) (ys : List Nat) (hx : a.eval x = .slice A' m c') (hsrc : OwnE w base' A' m c' ys) (hmax : n + m ≤ 1000000000) (hbase : base ≤ w.heap.size)
    (h : ∀ A'' c'' w', OwnE w' base A'' (n + m) c'' (xs ++ ys) → Below base w w' → wpList Try.prog ops Q rest (a.put o.dst (.slice A'' (n + m) c'')) w') : wpList Try.prog ops Q (o :: rest) a w :=
  wpList_plain hgd fun _ hK => wp_appEE s x ho base A n c xs hs hown base' A' m c' ys hx hsrc hmax hbase fun A'' c'' w' h2 h3 => hK _ _ (h A'' c'' w' h2 h3)
/-- The same, at a step of a region that draws its order. -/
theorem step_appE {w : World} {ops : Array Oper} {o : Oper} {a : Act} {K : Act → World → Prop} {Q : Exit → Act → World → Prop} {E : Prop} (hgd : o.guard = none) (s x : Operand)
    (ho : o.op = .call { callee := .builtin .append, args := #[s, x], argTypes := #[29, 29] })
    (base : Nat) (A : Option Addr) (n c : Nat) (xs : List Nat) (hs : a.eval s = .slice A n c) (hown : OwnE w base A n c xs)
    (g m c' : Nat) (ys : List Nat) (hx : a.eval x = .slice (some ⟨g, 0, none⟩) m c') (hm : ys.length = m) (hcell : ∀ j u, (ys.flatMap eC)[j]? = some u → w.cell? ⟨g, j, none⟩ = some u) (hmax : n + m ≤ 1000000000) (hbase : base ≤ w.heap.size)
    (h : ∀ A'' c'' w', OwnE w' base A'' (n + m) c'' (xs ++ ys) → Below base w w' → K (a.put o.dst (.slice A'' (n + m) c'')) w') :
    if Region.wanted o (yielded ops a.tmps) = true then Oper.wp Try.prog o a w K Q else E := by
  have hw : Region.wanted o (yielded ops a.tmps) = true := by simp [Region.wanted, hgd]
  rw [if_pos hw]
  exact wp_appX cells_pe s x ho base A n c xs hs hown g m c' ys hx hm hcell (by unfold maxLen; omega) (by omega) hbase h
end Go.Proofs.Ytilpdojliaiokaa

/- Cuts of slices of elements. No conditions; nothing is claimed of the program here. -/
namespace Go.Proofs.Ytilpdojliaiokaa
open Go.RowKit
set_option linter.unusedVariables false
set_option linter.unusedSimpArgs false

def cutE (A : Option Addr) (c l : Nat) : Option Addr := if c = l then A else A.map (·.add (l * 2))
theorem cutE_h (A : Option Addr) (n c h : Nat) (h2 : h ≤ c) : ∀ W : World, (Instr.slice 29 (.slice A n c) none (some (.int .i64 (h : Int))) none).run Try.prog W = .ok (.slice (cutE A c 0) h c) W := by
  intro W
  obtain ⟨i0, hi0, hz0, hz1, hz2⟩ := info_parts cells_pe.info
  simp [Instr.slice, Instr.sliceBounds, Instr.sliceBound, asIntOf, go_sem, run_underlying cells_pe.und, h2, cutE, sizeOf, typeInfo, hi0, hz1]
theorem cutE_l (A : Option Addr) (n c l : Nat) (h1 : l ≤ n) : ∀ W : World, (Instr.slice 29 (.slice A n c) (some (.int .i64 (l : Int))) none none).run Try.prog W = .ok (.slice (cutE A c l) (n - l) (c - l)) W := by
  intro W
  obtain ⟨i0, hi0, hz0, hz1, hz2⟩ := info_parts cells_pe.info
  simp [Instr.slice, Instr.sliceBounds, Instr.sliceBound, asIntOf, go_sem, run_underlying cells_pe.und, h1, cutE, sizeOf, typeInfo, hi0, hz1]
theorem XE.cut {w : World} {B n c i j : Nat} {A : Option Addr} {xs : List Nat} (h : XE w B A n xs) (hij : i ≤ j) (hj : j ≤ n) (hc : n ≤ c) : XE w B (cutE A c i) (j - i) ((xs.take j).drop i) := by
  have hlen := h.1
  have hat : ∀ (k x : Nat), ((xs.take j).drop i)[k]? = some x → xs[i + k]? = some x := fun k x hx => by
    rw [List.getElem?_drop, List.getElem?_take] at hx
    split at hx
    · exact hx
    · cases hx
  refine ⟨by rw [List.length_drop, List.length_take]; omega, fun k x hx => h.2.1 _ x (hat k x hx), fun hn => ?_⟩
  obtain ⟨g, o, rfl, hg, hcx⟩ := h.2.2 (by omega)
  refine ⟨g, o + i * 2, ?_, hg, fun k x hx => ?_⟩
  · unfold cutE
    rw [if_neg (by omega), Option.map_some, Addr.add_mid]
  · have := hcx _ x (hat k x hx)
    rw [show o + i * 2 + k * 2 = o + (i + k) * 2 by omega]
    exact this
end Go.Proofs.Ytilpdojliaiokaa

/- layer 5's walks: what they carry from call to call. No conditions; nothing new is claimed of the program here. -/
namespace Go.Proofs.Ytilpdojliaiokaa
open Go.RowKit
set_option linter.unusedVariables false
set_option linter.unusedSimpArgs false

theorem nqp_zero (x : Nat) (w : World) : (binOp .neq 36 (PE x) (.agg #[.int .u64 0, .int .u64 0])).run Try.prog w = .ok (.bool (!decide (x = 0))) w := by rw [← pe_0]; exact nqp x 0 w
attribute [go_sem] nqp_zero
/-- A hash that a statement has made, at or beyond its heap's end; all that was there is as it was. -/
def K2 (w : World) (b h : Nat) (d : Bool) (v : World) : Prop := Ho v b h d ∧ Below w.heap.size w v ∧ w.heap.size ≤ b
theorem K2.keep {w v v' : World} {b h : Nat} {d : Bool} (k : K2 w b h d v) (hb : Below v.heap.size v v') : K2 w b h d v' := ⟨k.1.keep hb, k.2.1.trans (hb.mono k.2.1.size), k.2.2⟩
theorem K2.use {w v v' : World} {b h : Nat} {d d' : Bool} (k : K2 w b h d v) (hb : But b v v') (ho : Ho v' b h d') : K2 w b h d' v' := ⟨ho, k.2.1.trans (hb.below k.2.2 k.1.lt), k.2.2⟩
theorem K2.below {w v v' : World} {b h B : Nat} {d : Bool} (k : K2 w b h d v) (hb : Below B v v') (h1 : w.heap.size ≤ B) (h2 : b < B) : K2 w b h d v' := ⟨k.1.below hb h2, k.2.1.trans (hb.mono h1), k.2.2⟩
theorem XE.but {w w' : World} {B n b : Nat} {A : Option Addr} {xs : List Nat} (h : XE w B A n xs) (hb : But b w w') (hB : B ≤ w.heap.size) (hne : ∀ g o, 0 < n → A = some ⟨g, o, none⟩ → g ≠ b) : XE w' B A n xs := by
  refine ⟨h.1, h.2.1, fun hn => ?_⟩
  obtain ⟨g, o, hA, hg, hc⟩ := h.2.2 hn
  exact ⟨g, o, hA, hg, fun i x hx j v hv => (hb.cell (p := ⟨g, o + i * 2 + j, none⟩) (by show g < _; omega) (hne g o hn hA)).trans (hc i x hx j v hv)⟩
theorem OwnB.apart {w : World} {base n c b : Nat} {A : Option Addr} {l : List UInt8} (h : OwnB w base A n c l) (hb : b < base) : ∀ g o, 0 < n → A = some ⟨g, o, none⟩ → g ≠ b := by
  intro g o hn e
  obtain ⟨g2, e2, hg, _⟩ := h.form hn
  rw [e2] at e
  injection e with e
  injection e with e
  omega
theorem K2.lo {w v : World} {b h : Nat} {d : Bool} (k : K2 w b h d v) : w.heap.size ≤ b := k.2.2
theorem K2.ho {w v : World} {b h : Nat} {d : Bool} (k : K2 w b h d v) : Ho v b h d := k.1
theorem K2.bel {w v : World} {b h : Nat} {d : Bool} (k : K2 w b h d v) : Below w.heap.size w v := k.2.1
theorem K2.drew {w v : World} {b h : Nat} {d : Bool} (k : K2 w b h d v) : K2 w b h d v.drew := k.keep (Below.refl _ _).drew
theorem K2.xe {w v : World} {b h n : Nat} {d : Bool} {A : Option Addr} {xs : List Nat} (k : K2 w b h d v) (hx : XE w w.heap.size A n xs) : XE v v.heap.size A n xs := (hx.step k.2.1).lt k.2.1.size
theorem K2.rb {w v : World} {b h n : Nat} {d : Bool} {A : Option Addr} {l : List UInt8} (k : K2 w b h d v) (hx : RB w w.heap.size A n l) : RB v v.heap.size A n l := hx.step k.2.1
theorem XE.apart {w : World} {B n b : Nat} {A : Option Addr} {xs : List Nat} (hx : XE w B A n xs) (hb : B ≤ b) : ∀ g o, 0 < n → A = some ⟨g, o, none⟩ → g ≠ b := by
  intro g o hn e
  obtain ⟨g2, o2, e2, hg, _⟩ := hx.2.2 hn
  rw [e2] at e
  injection e with e
  injection e with e
  omega
theorem RB.apart {w : World} {B n b : Nat} {A : Option Addr} {l : List UInt8} (hx : RB w B A n l) (hb : B ≤ b) : ∀ g o, 0 < n → A = some ⟨g, o, none⟩ → g ≠ b := by
  intro g o hn e
  obtain ⟨g2, o2, e2, hg, _⟩ := hx.2 hn
  rw [e2] at e
  injection e with e
  injection e with e
  omega
/-- Calls by their answers: times, folds, sums. -/
theorem times_k {w v : World} {b h : Nat} {d : Bool} (k : K2 w b h d v) (e p : Nat) (he : e < 2 ^ 128) (hp : p = gMul e h) : Calls Try.prog 22 #[.pointer (some ⟨b, 0, none⟩), PE e] v fun r v' => r = .returned (PE p) ∧ K2 w b h true v' ∧ But b v v' := by
  refine (times_gh b h e d v k.1 he).mono ?_
  rintro r v' ⟨rfl, hb, ho⟩
  exact ⟨by rw [hp], k.use hb ho, hb⟩
theorem fold_k {w v : World} {b h : Nat} {d : Bool} (k : K2 w b h d v) (f p : Nat) (A : Option Addr) (n c : Nat) (xs : List Nat) (hf : f < 2 ^ 128) (hn : n ≤ 1000000) (hx : XE v v.heap.size A n xs) (hne : ∀ g o, 0 < n → A = some ⟨g, o, none⟩ → g ≠ b) (hp : p = gFold h f xs) :
    Calls Try.prog 21 #[.pointer (some ⟨b, 0, none⟩), PE f, .slice A n c] v fun r v' => r = .returned (PE p) ∧ (∃ d', K2 w b h d' v') ∧ But b v v' := by
  refine (fold_gh b h f d A n c xs v k.1 k.1.1 hf (by unfold maxLen; omega) hx hne).mono ?_
  rintro r v' ⟨rfl, hb, ho⟩
  exact ⟨by rw [hp], ⟨_, k.use hb ho⟩, hb⟩
theorem sum2_k (x y z : Nat) (w : World) (hx : x < 2 ^ 128) (hy : y < 2 ^ 128) (hz : z = x ^^^ y) :
    Calls Try.prog 23 #[.slice (some ⟨w.heap.size, 0, none⟩) 2 2] (w.alloc (.cells (es (x / 2 ^ 64) (x % 2 ^ 64) ++ es (y / 2 ^ 64) (y % 2 ^ 64)).toArray 36)) fun e w' => e = .returned (PE z) ∧ Below w.heap.size w w' := by rw [hz]; exact sum2_pe x y w hx hy
theorem sum2_kd (x y z : Nat) (w : World) (hx : x < 2 ^ 128) (hy : y < 2 ^ 128) (hz : z = x ^^^ y) :
    Calls Try.prog 23 #[.slice (some ⟨w.heap.size, 0, none⟩) 2 2] (w.alloc (.cells (es (x / 2 ^ 64) (x % 2 ^ 64) ++ es (y / 2 ^ 64) (y % 2 ^ 64)).toArray 36)).drew fun e w' => e = .returned (PE z) ∧ Below w.heap.size w w' := by rw [hz]; exact sum2_td x y w hx hy
theorem next_k (a z : Nat) (w : World) (ha : a < 2 ^ 128) (hz : z = gNext a) : Calls Try.prog 24 #[PE a] w (RetP z w) := by rw [hz]; exact next_pe a w ha
/-- New, for a statement. -/
theorem new_k (w v : World) (A : Option Addr) (n c h : Nat) (l : List UInt8) (hn : n = 16) (hc : n ≤ c) (hr : RB w w.heap.size A n l) (hb : Below w.heap.size w v) (hh : h = nB l) :
    Calls Try.prog 9 #[.slice A n c] v fun e v' => ∃ b, e = .returned (.tuple #[.pointer (some ⟨b, 0, none⟩), .int .i64 0]) ∧ v.heap.size ≤ b ∧ Below v.heap.size v v' ∧ K2 w b h false v' := by
  subst hn
  have hr2 := hr.step hb
  refine (new_ok A c l v hc hr.len hr2).mono ?_
  rintro e v' ⟨b, rfl, h1, h2, h3⟩
  exact ⟨b, rfl, h1, h2, by rw [hh]; exact h3, hb.trans (h2.mono hb.size), Nat.le_trans hb.size h1⟩
theorem nB_lt' (l : List UInt8) (n : Nat) (hn : n = 16) (h : l.length = n) : nB l < 2 ^ 128 := nB_lt l (h.trans hn)
/-- Two variables of elements. -/
def X2 (g1 g2 x y : Nat) (v : World) : Prop := Xw v g1 x ∧ Xw v g2 y
theorem X2.keep {g1 g2 x y : Nat} {v v' : World} (a : X2 g1 g2 x y v) (hb : Below v.heap.size v v') : X2 g1 g2 x y v' := ⟨Xw.keep a.1 hb, Xw.keep a.2 hb⟩
theorem X2.but {g1 g2 x y b : Nat} {v v' : World} (a : X2 g1 g2 x y v) (hb : But b v v') (h1 : g1 ≠ b) (h2 : g2 ≠ b) : X2 g1 g2 x y v' := ⟨Xw.but a.1 hb h1, Xw.but a.2 hb h2⟩
theorem X2.s {g1 g2 x y : Nat} {v : World} (a : X2 g1 g2 x y v) : ldP (.pointer (some ⟨g1, 0, none⟩)) v = .ok (.value (PE x)) v ∧ ldP (.pointer (some ⟨g2, 0, none⟩)) v = .ok (.value (PE y)) v := ⟨ldP_x a.1, ldP_x a.2⟩
end Go.Proofs.Ytilpdojliaiokaa

