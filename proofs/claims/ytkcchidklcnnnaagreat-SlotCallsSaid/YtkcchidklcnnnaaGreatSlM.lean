/- Layer 18: slots in memory (the program's and the reference's), what a walk carries. No condition but that the configurations' keys have sixteen bytes; nothing is claimed of the program here. -/
import Derived.Test.YtkcchidklcnnnaaGreatSlP
import Derived.Test.YtkcchidklcnnnaaGreatMdC
import Derived.Test.YtkcchidklcnnnaaGreatCdM
namespace Go.Proofs.YtkcchidklcnnnaaGreat
open Go.RowKit
set_option linter.unusedVariables false
set_option linter.unusedSimpArgs false
/-- What a slot holds: a configuration and its stamp. -/
def hcel (c : Cfg) (t : Nat) : List Value := c.cells ++ [.int .i64 (t : Int)]
def zh : List Value := hcel zeroC 0
/-- Slots as cells: the program's, the reference's. -/
def arr3 (c0 c1 c2 : Cfg) (t0 t1 t2 : Nat) : List Value := hcel c0 t0 ++ (hcel c1 t1 ++ hcel c2 t2)
def p3 (c0 c1 c2 : Cfg) (t0 t1 t2 n : Nat) : List Value := hcel c0 t0 ++ (hcel c1 t1 ++ (hcel c2 t2 ++ [.int .i64 (n : Int)]))
def r3 (c0 c1 c2 : Cfg) (t0 t1 t2 n : Nat) : List Value := c0.cells ++ (c1.cells ++ (c2.cells ++ [.int .i64 (t0 : Int), .int .i64 (t1 : Int), .int .i64 (t2 : Int), .int .i64 (n : Int)]))
def aSl (s : Sl) : List Value := arr3 (s.row 0) (s.row 1) (s.row 2) (s.tm 0) (s.tm 1) (s.tm 2)
def pSl (s : Sl) : List Value := p3 (s.row 0) (s.row 1) (s.row 2) (s.tm 0) (s.tm 1) (s.tm 2) s.n
def rSl (s : Sl) : List Value := r3 (s.row 0) (s.row 1) (s.row 2) (s.tm 0) (s.tm 1) (s.tm 2) s.n
/-- Is there such a slot? What stamp has it? -/
def inB (p : Int) : Bool := decide (0 ≤ p ∧ p < 3)
def tmN (s : Sl) (p : Int) : Nat := if hasS s p then s.tm p.toNat else 0
section
variable {c c0 c1 c2 : Cfg} {t t0 t1 t2 n : Nat} {s : Sl} {p : Int}
theorem hcel_len (h : c.ok) : (hcel c t).length = 20 := by unfold hcel; rw [List.length_append, Cfg.cells_len h]; rfl
theorem zh_len : zh.length = 20 := hcel_len zeroC_ok
theorem hcel_one : ones (hcel c t) := fun v hv => by
  unfold hcel at hv
  rcases List.mem_append.1 hv with hv | hv
  · exact cells_one c v hv
  · rw [List.mem_singleton.1 hv]; rfl
theorem hcel_zh (h : c.ok) : (hcel c t).length = zh.length := by rw [hcel_len h, zh_len]
theorem hcel_19 (h : c.ok) : (hcel c t)[19]? = some (.int .i64 (t : Int)) := by
  unfold hcel; rw [List.getElem?_append_right (by rw [Cfg.cells_len h]; omega), Cfg.cells_len h]; rfl
theorem hcel_take (h : c.ok) : (hcel c t).take 19 = c.cells := by unfold hcel; rw [List.take_left' (Cfg.cells_len h)]
theorem p3_len (h0 : c0.ok) (h1 : c1.ok) (h2 : c2.ok) : (p3 c0 c1 c2 t0 t1 t2 n).length = 61 := by
  unfold p3; simp only [List.length_append, hcel_len h0, hcel_len h1, hcel_len h2, List.length_singleton]
theorem r3_len (h0 : c0.ok) (h1 : c1.ok) (h2 : c2.ok) : (r3 c0 c1 c2 t0 t1 t2 n).length = 61 := by
  unfold r3; simp only [List.length_append, Cfg.cells_len h0, Cfg.cells_len h1, Cfg.cells_len h2]; rfl
theorem arr3_len (h0 : c0.ok) (h1 : c1.ok) (h2 : c2.ok) : (arr3 c0 c1 c2 t0 t1 t2).length = 60 := by
  unfold arr3; simp only [List.length_append, hcel_len h0, hcel_len h1, hcel_len h2]
theorem pSl_len (h : s.ok) : (pSl s).length = 61 := p3_len (h.g 0) (h.g 1) (h.g 2)
theorem rSl_len (h : s.ok) : (rSl s).length = 61 := r3_len (h.g 0) (h.g 1) (h.g 2)
theorem aSl_len (h : s.ok) : (aSl s).length = 60 := arr3_len (h.g 0) (h.g 1) (h.g 2)
/-! Parts of them. -/
theorem pSl_arr (h : s.ok) : ((pSl s).drop 0).take 60 = aSl s := by
  unfold pSl p3 aSl arr3
  rw [List.drop_zero, ← List.append_assoc, ← List.append_assoc, ← List.append_assoc, List.append_assoc (hcel (s.row 0) (s.tm 0)), List.take_left' (by simp only [List.length_append, hcel_len (h.g 0), hcel_len (h.g 1), hcel_len (h.g 2)])]
theorem pSl_0 (h : s.ok) : ((pSl s).drop 0).take 20 = hcel (s.row 0) (s.tm 0) := by unfold pSl p3; rw [List.drop_zero, List.take_left' (hcel_len (h.g 0))]
theorem pSl_1 (h : s.ok) : ((pSl s).drop 20).take 20 = hcel (s.row 1) (s.tm 1) := by
  unfold pSl p3
  rw [List.drop_left' (hcel_len (h.g 0)), List.take_left' (hcel_len (h.g 1))]
theorem pSl_2 (h : s.ok) : ((pSl s).drop 40).take 20 = hcel (s.row 2) (s.tm 2) := by
  unfold pSl p3
  rw [← List.append_assoc, List.drop_left' (by simp only [List.length_append, hcel_len (h.g 0), hcel_len (h.g 1)]), List.take_left' (hcel_len (h.g 2))]
theorem pSl_n (h : s.ok) : (pSl s)[60]? = some (.int .i64 (s.n : Int)) := by
  unfold pSl p3
  rw [← List.append_assoc, ← List.append_assoc, List.getElem?_append_right (by simp only [List.length_append, hcel_len (h.g 0), hcel_len (h.g 1), hcel_len (h.g 2)]; omega)]
  simp only [List.length_append, hcel_len (h.g 0), hcel_len (h.g 1), hcel_len (h.g 2)]
  rfl
theorem aSl_0 (h : s.ok) : ((aSl s).drop 0).take 20 = hcel (s.row 0) (s.tm 0) := by unfold aSl arr3; rw [List.drop_zero, List.take_left' (hcel_len (h.g 0))]
theorem aSl_1 (h : s.ok) : ((aSl s).drop 20).take 20 = hcel (s.row 1) (s.tm 1) := by
  unfold aSl arr3
  rw [List.drop_left' (hcel_len (h.g 0)), List.take_left' (hcel_len (h.g 1))]
theorem aSl_2 (h : s.ok) : ((aSl s).drop 40).take 20 = hcel (s.row 2) (s.tm 2) := by
  unfold aSl arr3
  rw [← List.append_assoc, List.drop_left' (by simp only [List.length_append, hcel_len (h.g 0), hcel_len (h.g 1)]), List.take_of_length_le (by rw [hcel_len (h.g 2)]; omega)]
theorem rSl_0 (h : s.ok) : ((rSl s).drop 0).take 19 = (s.row 0).cells := by unfold rSl r3; rw [List.drop_zero, List.take_left' (Cfg.cells_len (h.g 0))]
theorem rSl_1 (h : s.ok) : ((rSl s).drop 19).take 19 = (s.row 1).cells := by
  unfold rSl r3
  rw [List.drop_left' (Cfg.cells_len (h.g 0)), List.take_left' (Cfg.cells_len (h.g 1))]
theorem rSl_2 (h : s.ok) : ((rSl s).drop 38).take 19 = (s.row 2).cells := by
  unfold rSl r3
  rw [← List.append_assoc, List.drop_left' (by simp only [List.length_append, Cfg.cells_len (h.g 0), Cfg.cells_len (h.g 1)]), List.take_left' (Cfg.cells_len (h.g 2))]
theorem rSl_at (h : s.ok) (j : Nat) : (rSl s)[57 + j]? = [Value.int .i64 (s.tm 0 : Int), .int .i64 (s.tm 1 : Int), .int .i64 (s.tm 2 : Int), .int .i64 (s.n : Int)][j]? := by
  unfold rSl r3
  rw [← List.append_assoc, ← List.append_assoc, List.getElem?_append_right (by simp only [List.length_append, Cfg.cells_len (h.g 0), Cfg.cells_len (h.g 1), Cfg.cells_len (h.g 2)]; omega)]
  simp only [List.length_append, Cfg.cells_len (h.g 0), Cfg.cells_len (h.g 1), Cfg.cells_len (h.g 2)]
  rw [show 57 + j - (19 + 19 + 19) = j by omega]
/-! Stores. -/
theorem putsL_mid {a b b' r : List Value} {o : Nat} (ho : a.length = o) (hb : b'.length = b.length) : putsL (a ++ (b ++ r)) o b' = a ++ (b' ++ r) := by
  rw [putsL_eq _ _ _ (by simp only [List.length_append]; omega), List.take_left' ho, hb]
  congr 2
  rw [← List.append_assoc, List.drop_left' (by rw [List.length_append, ho])]
theorem pSl_set (h : s.ok) : (pSl s).set 60 (.int .i64 (n : Int)) = p3 (s.row 0) (s.row 1) (s.row 2) (s.tm 0) (s.tm 1) (s.tm 2) n := by
  unfold pSl p3
  rw [List.set_append_right _ _ (by rw [hcel_len (h.g 0)]; omega), hcel_len (h.g 0), List.set_append_right _ _ (by rw [hcel_len (h.g 1)]; omega), hcel_len (h.g 1), List.set_append_right _ _ (by rw [hcel_len (h.g 2)]; omega), hcel_len (h.g 2)]
  rfl
theorem p3_put0 (h0 : c0.ok) (h : c.ok) : putsL (p3 c0 c1 c2 t0 t1 t2 n) 0 (hcel c t) = p3 c c1 c2 t t1 t2 n :=
  putsL_mid (a := []) (b := hcel c0 t0) rfl (by rw [hcel_len h, hcel_len h0])
theorem p3_put1 (h0 : c0.ok) (h1 : c1.ok) (h : c.ok) : putsL (p3 c0 c1 c2 t0 t1 t2 n) 20 (hcel c t) = p3 c0 c c2 t0 t t2 n :=
  putsL_mid (hcel_len h0) (by rw [hcel_len h, hcel_len h1])
theorem p3_put2 (h0 : c0.ok) (h1 : c1.ok) (h2 : c2.ok) (h : c.ok) : putsL (p3 c0 c1 c2 t0 t1 t2 n) 40 (hcel c t) = p3 c0 c1 c t0 t1 t n := by
  unfold p3
  rw [← List.append_assoc, putsL_mid (a := hcel c0 t0 ++ hcel c1 t1) (by rw [List.length_append, hcel_len h0, hcel_len h1]) (by rw [hcel_len h, hcel_len h2]), List.append_assoc]
theorem r3_put0 (h0 : c0.ok) (h : c.ok) : putsL (r3 c0 c1 c2 t0 t1 t2 n) 0 c.cells = r3 c c1 c2 t0 t1 t2 n :=
  putsL_mid (a := []) (b := c0.cells) rfl (by rw [Cfg.cells_len h, Cfg.cells_len h0])
theorem r3_put1 (h0 : c0.ok) (h1 : c1.ok) (h : c.ok) : putsL (r3 c0 c1 c2 t0 t1 t2 n) 19 c.cells = r3 c0 c c2 t0 t1 t2 n :=
  putsL_mid (Cfg.cells_len h0) (by rw [Cfg.cells_len h, Cfg.cells_len h1])
theorem r3_put2 (h0 : c0.ok) (h1 : c1.ok) (h2 : c2.ok) (h : c.ok) : putsL (r3 c0 c1 c2 t0 t1 t2 n) 38 c.cells = r3 c0 c1 c t0 t1 t2 n := by
  unfold r3
  rw [← List.append_assoc, putsL_mid (a := c0.cells ++ c1.cells) (by rw [List.length_append, Cfg.cells_len h0, Cfg.cells_len h1]) (by rw [Cfg.cells_len h, Cfg.cells_len h2]), List.append_assoc]
theorem r3_set (h0 : c0.ok) (h1 : c1.ok) (h2 : c2.ok) (j : Nat) (v : Value) : (r3 c0 c1 c2 t0 t1 t2 n).set (57 + j) v = c0.cells ++ (c1.cells ++ (c2.cells ++ [Value.int .i64 (t0 : Int), .int .i64 (t1 : Int), .int .i64 (t2 : Int), .int .i64 (n : Int)].set j v)) := by
  unfold r3
  rw [List.set_append_right _ _ (by rw [Cfg.cells_len h0]; omega), Cfg.cells_len h0, List.set_append_right _ _ (by rw [Cfg.cells_len h1]; omega), Cfg.cells_len h1, List.set_append_right _ _ (by rw [Cfg.cells_len h2]; omega), Cfg.cells_len h2, show 57 + j - 19 - 19 - 19 = j by omega]
theorem pSl_putS {k : Nat} (h : s.ok) (hk : k < 3) : pSl (putS s k c) = p3 (if 0 = k then c else s.row 0) (if 1 = k then c else s.row 1) (if 2 = k then c else s.row 2) (if 0 = k then s.n + 1 else s.tm 0) (if 1 = k then s.n + 1 else s.tm 1) (if 2 = k then s.n + 1 else s.tm 2) (s.n + 1) := by
  unfold pSl
  rw [put_row h hk, put_row h hk, put_row h hk, put_tm h hk, put_tm h hk, put_tm h hk]
  rfl
theorem pSl_offS {k : Nat} (h : s.ok) (hk : k < 3) : pSl (offS s k) = p3 (if 0 = k then zeroC else s.row 0) (if 1 = k then zeroC else s.row 1) (if 2 = k then zeroC else s.row 2) (if 0 = k then 0 else s.tm 0) (if 1 = k then 0 else s.tm 1) (if 2 = k then 0 else s.tm 2) s.n := by
  unfold pSl
  rw [off_row h hk, off_row h hk, off_row h hk, off_tm h hk, off_tm h hk, off_tm h hk]
  rfl
theorem rSl_putS {k : Nat} (h : s.ok) (hk : k < 3) : rSl (putS s k c) = r3 (if 0 = k then c else s.row 0) (if 1 = k then c else s.row 1) (if 2 = k then c else s.row 2) (if 0 = k then s.n + 1 else s.tm 0) (if 1 = k then s.n + 1 else s.tm 1) (if 2 = k then s.n + 1 else s.tm 2) (s.n + 1) := by
  unfold rSl
  rw [put_row h hk, put_row h hk, put_row h hk, put_tm h hk, put_tm h hk, put_tm h hk]
  rfl
theorem rSl_offS {k : Nat} (h : s.ok) (hk : k < 3) : rSl (offS s k) = r3 (if 0 = k then zeroC else s.row 0) (if 1 = k then zeroC else s.row 1) (if 2 = k then zeroC else s.row 2) (if 0 = k then 0 else s.tm 0) (if 1 = k then 0 else s.tm 1) (if 2 = k then 0 else s.tm 2) s.n := by
  unfold rSl
  rw [off_row h hk, off_row h hk, off_row h hk, off_tm h hk, off_tm h hk, off_tm h hk]
  rfl
/-! What a slot holds, told by the plain functions. -/
theorem has_no (h : hasS s p = false) : ofS s p = zeroC ∧ tmS s p = 0 ∧ tmN s p = 0 := by unfold ofS tmS tmN; rw [h]; exact ⟨rfl, rfl, rfl⟩
theorem has_yes (h : hasS s p = true) : ofS s p = s.row p.toNat ∧ tmS s p = (s.tm p.toNat : Int) ∧ tmN s p = s.tm p.toNat := by unfold ofS tmS tmN; rw [h]; exact ⟨rfl, rfl, rfl⟩
theorem tmS_N (s : Sl) (p : Int) : tmS s p = (tmN s p : Int) := by unfold tmS tmN; cases hasS s p <;> rfl
theorem in_no (h : inB p = false) : hasS s p = false := by
  unfold inB at h; unfold hasS
  rw [decide_eq_false_iff_not] at h ⊢
  exact fun e => h e.1
theorem held_in (hs : s.ok) (h : inB p = true) : ofS s p = s.row p.toNat ∧ tmN s p = s.tm p.toNat := by
  cases hh : hasS s p
  · have ht : s.tm p.toNat = 0 := by
      unfold inB at h; unfold hasS at hh
      rw [decide_eq_true_eq] at h
      rw [decide_eq_false_iff_not] at hh
      rcases Nat.eq_zero_or_pos (s.tm p.toNat) with e | e
      · exact e
      · exact absurd ⟨h, e⟩ hh
    rw [(has_no hh).1, (has_no hh).2.2, hs.z _ ht, ht]
    exact ⟨rfl, rfl⟩
  · exact ⟨(has_yes hh).1, (has_yes hh).2.2⟩
theorem ofS_ok (hs : s.ok) (p : Int) : (ofS s p).ok := by unfold ofS; split; exact hs.g _; exact zeroC_ok
/-- It is empty just where it holds nought. -/
theorem held_empty (hs : s.ok) (p : Int) : decide (ofS s p = zeroC ∧ tmN s p = 0) = !hasS s p := by
  cases hh : hasS s p
  · rw [(has_no hh).1, (has_no hh).2.2]; exact decide_eq_true ⟨rfl, rfl⟩
  · rw [(has_yes hh).2.2]
    exact decide_eq_false (fun e => absurd (has_iff.1 hh).2 (by omega))
theorem in_cases (h : inB p = true) : p = 0 ∨ p = 1 ∨ p = 2 := by unfold inB at h; rw [decide_eq_true_eq] at h; omega
end
/-! Types. -/
set_option maxRecDepth 100000 in
theorem rt_held : RT 66 zh := ⟨row_of (by kernel_rfl), by kernel_rfl⟩
set_option maxRecDepth 100000 in
theorem rt_slots : RT 69 (pSl zSl) := ⟨row_of (by kernel_rfl), by kernel_rfl⟩
set_option maxRecDepth 100000 in
theorem rt_arr : RT 67 (aSl zSl) := ⟨row_of (by kernel_rfl), by kernel_rfl⟩
theorem ex_ldH (ev : Operand → Value) (x : Operand) (d : Option Tmp) (ty : TypeId) (ps : String) (af : Array Edge) (g : Option (Nat × Bool)) (w : World) : (execOp ev ⟨d, .load 66 x, ty, ps, af, g⟩).run Tryz.prog w = ldHd 66 (ev x) w := rfl
theorem ex_ldA (ev : Operand → Value) (x : Operand) (d : Option Tmp) (ty : TypeId) (ps : String) (af : Array Edge) (g : Option (Nat × Bool)) (w : World) : (execOp ev ⟨d, .load 67 x, ty, ps, af, g⟩).run Tryz.prog w = ldHd 67 (ev x) w := rfl
theorem ex_ldS (ev : Operand → Value) (x : Operand) (d : Option Tmp) (ty : TypeId) (ps : String) (af : Array Edge) (g : Option (Nat × Bool)) (w : World) : (execOp ev ⟨d, .load 69 x, ty, ps, af, g⟩).run Tryz.prog w = ldHd 69 (ev x) w := rfl
theorem ex_stH (ev : Operand → Value) (x y : Operand) (d : Option Tmp) (ty : TypeId) (ps : String) (af : Array Edge) (g : Option (Nat × Bool)) (w : World) : (execOp ev ⟨d, .store 66 x y, ty, ps, af, g⟩).run Tryz.prog w = stHd 66 (ev x) (ev y) w := rfl
section
variable {w w' : World} {x q : Nat} {s : Sl} {c : Cfg} {t : Nat} {T : TypeId}
/-- A part of a block, loaded. -/
theorem ld_mid {z : List Value} (rt : RT T z) {T' : TypeId} {cs vs : List Value} {o : Nat} (k : Blk T' w q cs) (hv : (cs.drop o).take vs.length = vs) (hl : vs.length = z.length) : ldHd T (.pointer (some ⟨q, o, none⟩)) w = .ok (.value (.agg vs.toArray)) w := ldB_m rt k (by rw [← hl]; exact hv) hl
theorem ld_held (h : c.ok) (k : Blk T w q (hcel c t)) : ldHd 66 (.pointer (some ⟨q, 0, none⟩)) w = .ok (.value (.agg (hcel c t).toArray)) w :=
  ld_mid rt_held k (by rw [List.drop_zero, List.take_of_length_le (Nat.le_refl _)]) (hcel_zh h)
theorem ld_hcfg (h : c.ok) (k : Blk T w q (hcel c t)) : ldHd 35 (.pointer (some ⟨q, 0, none⟩)) w = .ok (.value c.val) w := by
  rw [val_agg]
  exact ld_mid rt_cfg k (by rw [List.drop_zero, Cfg.cells_len h, hcel_take h]) (by rw [Cfg.cells_len h, zeroC_len])
theorem ld_s0 (h : s.ok) (k : Blk T w x (pSl s)) : ldHd 66 (.pointer (some ⟨x, 0, none⟩)) w = .ok (.value (.agg (hcel (s.row 0) (s.tm 0)).toArray)) w :=
  ld_mid rt_held k (by rw [hcel_len (h.g 0), pSl_0 h]) (hcel_zh (h.g 0))
theorem ld_s1 (h : s.ok) (k : Blk T w x (pSl s)) : ldHd 66 (.pointer (some ⟨x, 20, none⟩)) w = .ok (.value (.agg (hcel (s.row 1) (s.tm 1)).toArray)) w :=
  ld_mid rt_held k (by rw [hcel_len (h.g 1), pSl_1 h]) (hcel_zh (h.g 1))
theorem ld_s2 (h : s.ok) (k : Blk T w x (pSl s)) : ldHd 66 (.pointer (some ⟨x, 40, none⟩)) w = .ok (.value (.agg (hcel (s.row 2) (s.tm 2)).toArray)) w :=
  ld_mid rt_held k (by rw [hcel_len (h.g 2), pSl_2 h]) (hcel_zh (h.g 2))
theorem ld_sa (h : s.ok) (k : Blk T w x (pSl s)) : ldHd 67 (.pointer (some ⟨x, 0, none⟩)) w = .ok (.value (.agg (aSl s).toArray)) w :=
  ld_mid rt_arr k (by rw [aSl_len h, pSl_arr h]) (by rw [aSl_len h, aSl_len zSl_ok])
theorem ld_aa (h : s.ok) (k : Blk T w x (aSl s)) : ldHd 67 (.pointer (some ⟨x, 0, none⟩)) w = .ok (.value (.agg (aSl s).toArray)) w :=
  ld_mid rt_arr k (by rw [List.drop_zero, List.take_of_length_le (Nat.le_refl _)]) (by rw [aSl_len h, aSl_len zSl_ok])
theorem ld_ss (h : s.ok) (k : Blk T w x (pSl s)) : ldHd 69 (.pointer (some ⟨x, 0, none⟩)) w = .ok (.value (.agg (pSl s).toArray)) w :=
  ld_mid rt_slots k (by rw [List.drop_zero, List.take_of_length_le (Nat.le_refl _)]) (by rw [pSl_len h, pSl_len zSl_ok])
theorem s_n (h : s.ok) (k : Blk T w x (pSl s)) : w.cell? ⟨x, 60, none⟩ = some (.int .i64 (s.n : Int)) := by rw [k.cell, pSl_n h]
theorem ld_r0 (h : s.ok) (k : Blk T w x (rSl s)) : ldHd 29 (.pointer (some ⟨x, 0, none⟩)) w = .ok (.value (s.row 0).val) w := by
  rw [val_agg]
  exact ld_mid rt_rcfg k (by rw [Cfg.cells_len (h.g 0), rSl_0 h]) (by rw [Cfg.cells_len (h.g 0), zeroC_len])
theorem ld_r1 (h : s.ok) (k : Blk T w x (rSl s)) : ldHd 29 (.pointer (some ⟨x, 19, none⟩)) w = .ok (.value (s.row 1).val) w := by
  rw [val_agg]
  exact ld_mid rt_rcfg k (by rw [Cfg.cells_len (h.g 1), rSl_1 h]) (by rw [Cfg.cells_len (h.g 1), zeroC_len])
theorem ld_r2 (h : s.ok) (k : Blk T w x (rSl s)) : ldHd 29 (.pointer (some ⟨x, 38, none⟩)) w = .ok (.value (s.row 2).val) w := by
  rw [val_agg]
  exact ld_mid rt_rcfg k (by rw [Cfg.cells_len (h.g 2), rSl_2 h]) (by rw [Cfg.cells_len (h.g 2), zeroC_len])
theorem r_t0 (h : s.ok) (k : Blk T w x (rSl s)) : w.cell? ⟨x, 57, none⟩ = some (.int .i64 (s.tm 0 : Int)) := by rw [k.cell]; exact rSl_at h 0
theorem r_t1 (h : s.ok) (k : Blk T w x (rSl s)) : w.cell? ⟨x, 58, none⟩ = some (.int .i64 (s.tm 1 : Int)) := by rw [k.cell]; exact rSl_at h 1
theorem r_t2 (h : s.ok) (k : Blk T w x (rSl s)) : w.cell? ⟨x, 59, none⟩ = some (.int .i64 (s.tm 2 : Int)) := by rw [k.cell]; exact rSl_at h 2
theorem r_n (h : s.ok) (k : Blk T w x (rSl s)) : w.cell? ⟨x, 60, none⟩ = some (.int .i64 (s.n : Int)) := by rw [k.cell]; exact rSl_at h 3
end
/-! Equality of what slots hold. -/
theorem part_cfg (c : Cfg) (h : c.ok) (t : Nat) (w : World) : (part 35 (hcel c t).toArray 0).run Tryz.prog w = .ok c.val w := by
  obtain ⟨i, hi⟩ := info_of_underlying et_cfg.u
  have hc : Tryz.prog.cellsOf 35 = 19 := by kernel_rfl
  have e : (hcel c t).toArray.extract 0 (0 + 19) = c.cells.toArray := by
    apply Array.toList_inj.1
    rw [Array.toList_extract]
    simp only [List.extract, List.drop_zero]
    exact hcel_take h
  rw [val_agg]
  simp only [part, isAgg, Sem.run_bind, run_underlying et_cfg.u, Result.andThen_ok, Sem.run_pure, if_true, run_sizeOf w hi, hc, e]
theorem part_stamp (c : Cfg) (h : c.ok) (t : Nat) (w : World) : (part 2 (hcel c t).toArray 19).run Tryz.prog w = .ok (.int .i64 (t : Int)) w :=
  run_part_plain w (by simp [Program.plainKey, Tryz.underlying2]) (by rw [List.getElem?_toArray]; exact hcel_19 h)
theorem held_u : Tryz.prog.underlying 66 = some (.struct (Tryz.prog.fieldsOf 66)) := by kernel_rfl
theorem held_h : Tryz.prog.stoodInHeld 66 = false := by kernel_rfl
theorem held_f : (Tryz.prog.fieldsOf 66).toList.map (fun f => (f.name == "_", f.type, f.offset)) = [(false, 35, 0), (false, 2, 19)] := by kernel_rfl
theorem held_g : Tryz.prog.eqGuardType Tryz.prog.depth 66 = false := by kernel_rfl
theorem eq_held (c d : Cfg) (t u : Nat) (hc : c.ok) (hd : d.ok) (n : Nat) (w : World) : (Op.equalIn (n + 4) 66 (.agg (hcel c t).toArray) (.agg (hcel d u).toArray)).run Tryz.prog w = .ok (decide (c = d ∧ t = u)) w := by
  rw [run_equalIn_struct w (n + 3) 66 _ _ held_u held_h]
  have hf := held_f
  generalize (Tryz.prog.fieldsOf 66).toList = fs at hf
  have hl : fs.length = 2 := by have := congrArg List.length hf; simpa using this
  match fs, hl, hf with
  | [f0, f1], _, hf =>
    simp only [List.map_cons, List.map_nil, List.cons.injEq, Prod.mk.injEq, and_true] at hf
    obtain ⟨⟨n0, t0, o0⟩, n1, t1, o1⟩ := hf
    have m0 : f0.name ≠ "_" := by simpa using n0
    have m1 : f1.name ≠ "_" := by simpa using n1
    have ei : ∀ w : World, (Op.equalIn (n + 3) 2 (.int .i64 (t : Int)) (.int .i64 (u : Int))).run Tryz.prog w = .ok (((t : Int) == (u : Int))) w := fun w => run_equalIn_int w (n + 2) _ _ _ _ _ Tryz.underlying2
    simp only [Op.eqFields, m0, m1, ne_eq, not_false_eq_true, if_true, t0, o0, t1, o1, Sem.run_bind, part_cfg c hc, part_cfg d hd, part_stamp c hc, part_stamp d hd, Result.andThen_ok, eq_cfg et_cfg c d hc hd, ei]
    cases h0 : decide (c = d)
    · simp only [Bool.not_false, if_true, Sem.run_pure]
      rw [decide_eq_false]
      intro e; rw [e.1] at h0; simp at h0
    · have hr : ((t : Int) == (u : Int)) = decide (c = d ∧ t = u) := by
        rw [Bool.eq_iff_iff, beq_iff_eq, decide_eq_true_eq]
        exact ⟨fun e => ⟨of_decide_eq_true h0, by omega⟩, fun e => by rw [e.2]⟩
      simp only [Bool.not_true, Bool.false_eq_true, if_false, Sem.run_pure, Sem.run_bind, part_stamp c hc, part_stamp d hd, Result.andThen_ok, ei, hr]
      cases decide (c = d ∧ t = u) <;> rfl
theorem eql_held (c d : Cfg) (t u : Nat) (hc : c.ok) (hd : d.ok) (w : World) : (binOp .eql 66 (.agg (hcel c t).toArray) (.agg (hcel d u).toArray)).run Tryz.prog w = .ok (.bool (decide (c = d ∧ t = u))) w := by
  rw [run_eql_struct, show (10000 : Nat) = 9996 + 4 from rfl, eq_held c d t u hc hd 9996 w]
  rfl
/-! What a walk carries: blocks that are known, all others as they were but for those of S. -/
structure VK (S : List Nat) (v : World) (bs : List (TypeId × Nat × List Value)) (w : World) : Prop where
  oth : Oth S v w
  blk : ∀ b ∈ bs, Blk b.1 w b.2.1 b.2.2
  nd : (bs.map (fun b => b.2.1)).Nodup
section
variable {S : List Nat} {v w w' : World} {bs bs' : List (TypeId × Nat × List Value)} {T : TypeId} {q : Nat} {cs cs0 : List Value}
theorem oth_nil (h : Oth [] v w) : Below v.heap.size v w := h.below (fun k hk => (by cases hk)) (Nat.le_refl _)
theorem VK.start (S : List Nat) (w : World) : VK S w [] w := ⟨Oth.refl _ _, fun b hb => (by cases hb), List.nodup_nil⟩
theorem VK.bel (k : VK [] v bs w) : Below v.heap.size v w := oth_nil k.oth
theorem VK.hold (k : VK S v bs w) (h : Blk T w q cs) (hn : q ∉ bs.map (fun b => b.2.1)) : VK S v ((T, q, cs) :: bs) w := ⟨k.oth, fun b hb => by
  rcases List.mem_cons.1 hb with rfl | hb
  · exact h
  · exact k.blk b hb, List.nodup_cons.2 ⟨hn, k.nd⟩⟩
theorem VK.step (k : VK S v bs w) (hb : Below w.heap.size w w') : VK S v bs w' := ⟨k.oth.trans (Oth.of_below hb), fun b h => (k.blk b h).step hb, k.nd⟩
theorem VK.draw (k : VK S v bs w) : VK S v bs w.drew := k.step (Below.refl _ _).drew
theorem VK.fresh (k : VK S v bs w) (hq : w.heap.size ≤ q) : q ∉ bs.map (fun b => b.2.1) := fun hm => by
  obtain ⟨b, hb, e⟩ := List.mem_map.1 hm
  have := (k.blk b hb).lt
  have e2 : b.2.1 = q := e
  omega
theorem VK.new (k : VK S v bs w) (hb : Below w.heap.size w w') (hq : w.heap.size ≤ q) (h : Blk T w' q cs) : VK S v ((T, q, cs) :: bs) w' := (k.step hb).hold h (k.fresh hq)
theorem VK.alloc (k : VK S v bs w) (cs : Array Value) (T : TypeId) : VK S v ((T, w.heap.size, cs.toList) :: bs) (w.alloc (.cells cs T)) := k.new (below_alloc w _) (Nat.le_refl _) (heap_alloc_new w _)
/-- A block that is stored into. -/
theorem VK.put (k : VK S v bs w) (i : Nat) (hi : bs[i]? = some (T, q, cs0)) (hq : q ∈ S ∨ v.heap.size ≤ q) (ho : Oth [q] w w') (hc : Blk T w' q cs) (e : bs.set i (T, q, cs) = bs') : VK S v bs' w' := by
  subst e
  have hil : i < bs.length := (List.getElem?_eq_some_iff.1 hi).1
  have hiv : bs[i] = (T, q, cs0) := (List.getElem?_eq_some_iff.1 hi).2
  have hmap : (bs.set i (T, q, cs)).map (fun b => b.2.1) = bs.map (fun b => b.2.1) := by
    rw [List.map_set]
    apply List.ext_getElem?
    intro j
    rw [List.getElem?_set]
    split
    · rename_i e
      subst e
      rw [if_pos (by rw [List.length_map]; exact hil), List.getElem?_map, hi]
      rfl
    · rfl
  refine ⟨⟨ho.os.trans k.oth.os, ho.tape.trans k.oth.tape, ho.output.trans k.oth.output, Nat.le_trans k.oth.size ho.size, fun j hj hn => (ho.block j (Nat.lt_of_lt_of_le hj k.oth.size) (fun hm => ?_)).trans (k.oth.block j hj hn)⟩, fun b hb => ?_, by rw [hmap]; exact k.nd⟩
  · rw [List.mem_singleton.1 hm] at hj hn
    rcases hq with hq | hq
    · exact hn hq
    · omega
  · obtain ⟨j, hj, rfl⟩ := List.getElem_of_mem hb
    rw [List.getElem_set]
    split
    · exact hc
    · rename_i hne
      have hjl : j < bs.length := by rw [List.length_set] at hj; exact hj
      refine (k.blk _ (List.getElem_mem hjl)).oth ho (fun hm => hne ?_)
      have e1 : bs[j].2.1 = q := List.mem_singleton.1 hm
      have h2 := List.pairwise_iff_getElem.1 k.nd
      have e2 : bs[i].2.1 = q := by rw [hiv]
      rcases Nat.lt_trichotomy i j with h | h | h
      · exact absurd (by rw [List.getElem_map, List.getElem_map, e1, e2]) (h2 i j (by rw [List.length_map]; exact hil) (by rw [List.length_map]; exact hjl) h)
      · exact h
      · exact absurd (by rw [List.getElem_map, List.getElem_map, e1, e2]) (h2 j i (by rw [List.length_map]; exact hjl) (by rw [List.length_map]; exact hil) h)
/-- Cells stored at an offset; one cell. -/
theorem VK.putAt (k : VK S v bs w) (i o : Nat) (vs : List Value) (hi : bs[i]? = some (T, q, cs0)) (hq : q ∈ S ∨ v.heap.size ≤ q) (hl : putsL cs0 o vs = cs) (e : bs.set i (T, q, cs) = bs') : VK S v bs' (w.setCells q o vs) := by
  refine k.put i hi hq (oth_setCells q vs o w w (Oth.refl _ _)) ?_ e
  have hb : Blk T w q cs0 := k.blk (T, q, cs0) (List.mem_of_getElem? hi)
  rw [← hl]
  exact hb.puts vs o
theorem VK.set1 (k : VK S v bs w) (i j : Nat) (u : Value) (hi : bs[i]? = some (T, q, cs0)) (hq : q ∈ S ∨ v.heap.size ≤ q) (hl : cs0.set j u = cs) (e : bs.set i (T, q, cs) = bs') : VK S v bs' (w.setCell ⟨q, j, none⟩ u) := by
  refine k.put i hi hq ((Oth.refl [q] w).set (x := q) (by simp) j u) ?_ e
  have hb : Blk T w q cs0 := k.blk (T, q, cs0) (List.mem_of_getElem? hi)
  rw [← hl]
  exact hb.set j u
/-- Fewer blocks. -/
theorem VK.tail {b : TypeId × Nat × List Value} (k : VK S v (b :: bs) w) : VK S v bs w := ⟨k.oth, fun c hc => k.blk c (.tail _ hc), (List.nodup_cons.1 k.nd).2⟩
theorem VK.b0 {b : TypeId × Nat × List Value} (k : VK S v (b :: bs) w) : Blk b.1 w b.2.1 b.2.2 := k.blk _ (.head _)
theorem VK.b1 {b c : TypeId × Nat × List Value} (k : VK S v (b :: c :: bs) w) : Blk c.1 w c.2.1 c.2.2 := k.blk _ (.tail _ (.head _))
theorem VK.b2 {b c d : TypeId × Nat × List Value} (k : VK S v (b :: c :: d :: bs) w) : Blk d.1 w d.2.1 d.2.2 := k.blk _ (.tail _ (.tail _ (.head _)))
end
end Go.Proofs.YtkcchidklcnnnaaGreat
