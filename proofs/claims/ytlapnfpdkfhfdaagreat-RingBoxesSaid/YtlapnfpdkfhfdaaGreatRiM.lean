/- Layer 19: a ring in memory: entries with boxes, keys, numbers; slices.Delete of one of them; find. Conditions: what is said of the ring. -/
import Derived.Test.YtlapnfpdkfhfdaaGreatGrd
import Derived.Test.YtlapnfpdkfhfdaaGreatRiB
import Derived.Test.YtlapnfpdkfhfdaaGreatRiP
import Derived.Deep.RegionLaw
namespace Go.Proofs.YtlapnfpdkfhfdaaGreat
open Go.RowKit
set_option linter.unusedVariables false
set_option linter.unusedSimpArgs false

/-! Plain: where a number's key stands. -/
def idxR (s : Rg) (q : Int) : Int := match findR s q with | some i => (i : Int) | none => -1
theorem idx_neg {s : Rg} {q : Int} (h : hasR s q = false) : idxR s q = -1 := by
  unfold hasR at h; unfold idxR
  cases e : findR s q with
  | none => rfl
  | some i => rw [e] at h; cases h
theorem idx_pos {s : Rg} {q : Int} (h : hasR s q = true) : ∃ i : Nat, idxR s q = (i : Int) ∧ findR s q = some i ∧ i < s.length := by
  obtain ⟨i, r, hf, _, _, hl⟩ := has_someR h
  exact ⟨i, by unfold idxR; rw [hf], hf, hl⟩

/-- Entries: boxes with their numbers. -/
abbrev Ens := List (EB × Int)
def rgE (es : Ens) : Rg := es.map fun e => (e.2, e.1.key)
def enR (e : EB × Int) : List Value := .pointer (some ⟨e.1.x, 0, none⟩) :: .int .i64 e.2 :: bvs e.1.key
def zEn : List Value := .pointer none :: .int .i64 0 :: List.replicate 16 (.int .u8 0)
theorem rg_len (es : Ens) : (rgE es).length = es.length := List.length_map _
theorem enR_len {e : EB × Int} (h : e.1.key.length = 16) : (enR e).length = 18 := by
  unfold enR; simp [bvs, h]
theorem enR_one (e : EB × Int) : ones (enR e) := by
  intro v hv
  unfold enR at hv
  rcases List.mem_cons.1 hv with rfl | hv
  · rfl
  rcases List.mem_cons.1 hv with rfl | hv
  · rfl
  · obtain ⟨b, _, rfl⟩ := List.mem_map.1 hv; rfl
theorem zEn_len : zEn.length = 18 := rfl
theorem zEn_one : ones zEn := by
  intro v hv
  unfold zEn at hv
  rcases List.mem_cons.1 hv with rfl | hv
  · rfl
  rcases List.mem_cons.1 hv with rfl | hv
  · rfl
  · rw [List.eq_of_mem_replicate hv]; rfl
theorem gt_en : GT 60 53 zEn 32 := ⟨Tryz.underlying53, row_of (by kernel_rfl), by kernel_rfl, by decide, zEn_one⟩
theorem rt_en : RT 60 zEn := gt_en.rt
theorem rt_ring : RT 55 [.slice none 0 0] := ⟨row_of (by kernel_rfl), by kernel_rfl⟩
abbrev GE (w : World) (base : Nat) (A : Option Addr) (c : Nat) (es : Ens) : Prop := Grd 60 18 w base A es.length c (es.map enR)

/-- A load of one record out of a row. -/
theorem wpList_ldR {w : World} {ops : Array Oper} {rest : List Oper} {o : Oper} {a : Act} {Q : Exit → Act → World → Prop} {T : TypeId} {z : List Value} (rt : RT T z) (hgd : o.guard = none) (x : Operand) (hop : o.op = .load T x) (g k : Nat) (hx : a.eval x = .pointer (some ⟨g, k, none⟩)) (vs : List Value) (hr : w.rangeAt g k vs) (hl : vs.length = z.length)
    (hk : wpList Tryz.prog ops Q rest (a.put o.dst (.agg vs.toArray)) w) : wpList Tryz.prog ops Q (o :: rest) a w := by
  obtain ⟨d, hu, hd⟩ := rt.row
  exact wpList_load_mid hgd _ x hop g k hx vs d hr hu hd (by rw [hl]; exact rt.size) hk
/-- A ring: its block, its entries, their boxes. -/
structure Rn (base : Nat) (w : World) (x : Nat) (A : Option Addr) (c : Nat) (es : Ens) (N F : Nat) : Prop where
  blk : Blk 55 w x [.slice A es.length c]
  grd : GE w base A c es
  ok : ∀ e ∈ es, e.1.Ok N F w ∧ e.1.key.length = 16 ∧ base ≤ e.1.L ∧ e.1.out x ∧ ∀ g ∈ blkO A, e.1.out g
  pw : es.Pairwise (fun a b => a.1.H ≤ b.1.L)
  low : base ≤ x
section
variable {base : Nat} {w w' : World} {x c N F N' F' : Nat} {A : Option Addr} {es : Ens} {S : List Nat}
theorem Rn.nx (h : Rn base w x A c es N F) : x ∉ blkO A := h.grd.away h.blk (by decide)
theorem Rn.off (h : Rn base w x A c es N F) (ho : Oth S w w') (hx : x ∉ S) (hA : ∀ g ∈ blkO A, g ∉ S) (he : ∀ e ∈ es, ∀ g ∈ S, e.1.out g) : Rn base w' x A c es N F :=
  ⟨h.blk.oth ho hx, h.grd.oth ho hA, fun e hm => ⟨(h.ok e hm).1.off ho (he e hm), (h.ok e hm).2⟩, h.pw, h.low⟩
theorem Rn.step (h : Rn base w x A c es N F) (hb : Below w.heap.size w w') : Rn base w' x A c es N F := h.off (Oth.of_below (S := []) hb) (by simp) (fun g hg => by simp) (fun e hm g hg => by cases hg)
theorem Rn.up (h : Rn base w x A c es N F) (hn : N ≤ N') (hf : F ≤ F') : Rn base w x A c es N' F' := ⟨h.blk, h.grd, fun e hm => ⟨(h.ok e hm).1.up hn hf, (h.ok e hm).2⟩, h.pw, h.low⟩
theorem Rn.base_le {b : Nat} (h : Rn base w x A c es N F) (hb : b ≤ base) : Rn b w x A c es N F :=
  ⟨h.blk, h.grd.base_le hb, fun e hm => ⟨(h.ok e hm).1, (h.ok e hm).2.1, Nat.le_trans hb (h.ok e hm).2.2.1, (h.ok e hm).2.2.2⟩, h.pw, Nat.le_trans hb h.low⟩
/-- An entry's cells. -/
theorem Rn.at_ (h : Rn base w x A c es N F) {i : Nat} (hi : i < es.length) : ∃ g e, A = some ⟨g, 0, none⟩ ∧ g ∈ blkO A ∧ g < w.heap.size ∧ es[i]? = some e ∧ e ∈ es ∧ (enR e).length = 18 ∧ w.rangeAt g (i * 18) (enR e) ∧ w.cell? ⟨g, i * 18, none⟩ = some (.pointer (some ⟨e.1.x, 0, none⟩)) ∧ w.cell? ⟨g, i * 18 + 1, none⟩ = some (.int .i64 e.2) := by
  obtain ⟨g, r, eA, hg, hr, hl, hrg, hm⟩ := h.grd.at_ hi
  rw [List.getElem?_map, List.getElem?_eq_getElem hi] at hr
  injection hr with hr
  subst hr
  refine ⟨g, es[i], eA, hm, hg, List.getElem?_eq_getElem hi, List.getElem_mem hi, hl, hrg, ?_, ?_⟩
  · exact hrg 0 _ rfl
  · exact hrg 1 _ rfl
theorem Rn.c0 (h : Rn base w x A c es N F) : w.cell? ⟨x, 0, none⟩ = some (.slice A es.length c) := h.blk.cell 0
end

/-! slices.Delete of one element. -/
theorem putsG_eq : ∀ (vs cs : List Value) (o : Nat), o + vs.length ≤ cs.length → putsL cs o vs = cs.take o ++ vs ++ cs.drop (o + vs.length)
  | [], cs, o, _ => by simp [putsL]
  | v :: r, cs, o, h => by
    rw [List.length_cons] at h
    rw [putsL, putsG_eq r (cs.set o v) (o + 1) (by rw [List.length_set]; omega)]
    have h1 : (cs.set o v).take (o + 1) = cs.take o ++ [v] := by
      rw [List.set_eq_take_append_cons_drop, if_pos (by omega)]
      rw [List.take_append, List.take_of_length_le (by rw [List.length_take]; omega), List.length_take, Nat.min_eq_left (by omega), Nat.add_sub_cancel_left]
      rfl
    have h2 : (cs.set o v).drop (o + 1 + r.length) = cs.drop (o + 1 + r.length) := by
      rw [List.drop_set_of_lt (by omega)]
    rw [h1, h2, List.length_cons, show o + (r.length + 1) = o + 1 + r.length by omega]
    simp
theorem del_mem {T : TypeId} {k : Nat} {w : World} {base n c i m g : Nat} {rs : List (List Value)} {z : List Value} (h : Grd T k w base (some ⟨g, 0, none⟩) n c rs) (hi : i < n) (hm : n = m + 1) (hz : z.length = k) :
    Grd T k ((w.setCells g (i * k) (rs.drop (i + 1)).flatten).setCells g (m * k) z) base (some ⟨g, 0, none⟩) m c (rs.eraseIdx i) := by
  obtain ⟨_, hb, hg, cur, hh, hs, ht⟩ := h.blk (g := g) (by simp [blkO])
  have hcap := h.cap
  have hk : Blk T w g cur.toList := by unfold Blk; rw [hh]
  have hsz : cur.toList.length = c * k := by rw [Array.length_toList]; exact hs
  have hdl : (rs.drop (i + 1)).flatten.length = (m - i) * k := by rw [(h.2.2.sub (fun r hr => List.mem_of_mem_drop hr) : recs k (rs.drop (i + 1))).len, List.length_drop, h.2.1, hm]; congr 1; omega
  have hmk : i * k + (m - i) * k = m * k := by rw [← Nat.add_mul]; congr 1; omega
  have hmc : m * k + k ≤ c * k := by rw [← Nat.succ_mul]; exact Nat.mul_le_mul_right k (by omega)
  have hik : i * k ≤ n * k := Nat.mul_le_mul_right k (by omega)
  have hmn : m * k ≤ n * k := Nat.mul_le_mul_right k (by omega)
  have hnc : n * k ≤ c * k := Nat.mul_le_mul_right k hcap.1
  have k2 := ((hk.puts (rs.drop (i + 1)).flatten (i * k)).puts z (m * k))
  have hl2 : (putsL (putsL cur.toList (i * k) (rs.drop (i + 1)).flatten) (m * k) z).length = c * k := by rw [putsL_len, putsL_len, hsz]
  have hre : recs k (rs.eraseIdx i) := h.2.2.sub (fun r hr => List.mem_of_mem_eraseIdx hr)
  have hle : (rs.eraseIdx i).length = m := by rw [List.length_eraseIdx_of_lt (by rw [h.2.1]; exact hi), h.2.1]; omega
  refine ⟨⟨by rw [hre.len, hle], .inr ⟨g, c, _, rfl, hb, k2, by omega, hcap.2, ?_, ?_⟩⟩, hle, hre⟩
  · rw [List.size_toArray, hl2]
  · rw [show (putsL (putsL cur.toList (i * k) (rs.drop (i + 1)).flatten) (m * k) z).toArray.toList = putsL (putsL cur.toList (i * k) (rs.drop (i + 1)).flatten) (m * k) z from rfl]
    rw [putsG_eq z _ _ (by rw [putsL_len, hsz, hz]; exact hmc), List.append_assoc, List.take_append_of_le_length (by rw [List.length_take, putsL_len, hsz]; omega), List.take_take, Nat.min_self]
    rw [putsG_eq _ _ _ (by rw [hdl, hsz]; omega), hdl, hmk, List.take_append_of_le_length (by rw [List.length_append, List.length_take, hdl, hsz]; omega), List.take_of_length_le (by rw [List.length_append, List.length_take, hdl, hsz]; omega)]
    rw [List.eraseIdx_eq_take_drop_succ, List.flatten_append, flat_take h.2.2, ← ht, List.take_take, Nat.min_eq_left hik]
/-- A step of a region that draws: an append whose run is known. -/
theorem step_run {ops : Array Oper} {o : Oper} {a : Act} {w w1 : World} {K : Act → World → Prop} {Q : Exit → Act → World → Prop} {E : Prop} (hgd : o.guard = none) (s x : Operand) (t : TypeId) (ho : o.op = .call { callee := .builtin .append, args := #[s, x], argTypes := #[t, t] })
    (v1 v2 v : Value) (hs : a.eval s = v1) (hx : a.eval x = v2) (hrun : ∀ ty, (Builtin.append_ #[t, t] ty #[v1, v2]).run Tryz.prog w = .ok v w1) (h : K (a.put o.dst v) w1) :
    if Region.wanted o (yielded ops a.tmps) = true then Oper.wp Tryz.prog o a w K Q else E := by
  have hw : Region.wanted o (yielded ops a.tmps) = true := by simp [Region.wanted, hgd]
  rw [if_pos hw]
  unfold Oper.wp execOp
  simp only [ho, resolve, invoke, builtin, Sem.run_bind, Sem.run_pure, Result.andThen_ok, List.map_toArray, List.map_cons, List.map_nil, hs, hx, hrun]
  exact h
theorem run_clear1 {T S : TypeId} {z : List Value} {bytes : Nat} (gt : GT T S z bytes) (ty : TypeId) (w : World) (g o d : Nat) (hc : ∀ j, j < z.length → (w.cell? ⟨g, o + j, none⟩).isSome = true ∧ w.frozen? ⟨g, o + j, none⟩ = false) :
    (Builtin.clear_ #[S] ty #[.slice (some ⟨g, o, none⟩) 1 d]).run Tryz.prog w = .ok (.tuple #[]) (w.setCells g o z) := by
  have hz := gt.rt.zero
  have hzc : (Builtin.zeroCells (Value.agg z.toArray).cells 1).toList = z := by
    simp only [Builtin.zeroCells, Value.cells, Nat.one_mul, List.size_toArray]
    apply List.ext_getElem
    · simp
    · intro i h1 h2
      simp [Nat.mod_eq_of_lt h2]
      rw [List.getElem?_eq_getElem h2]; rfl
  have hst := run_storeCells_cells (P := Tryz.prog) g o z 0 w (by simpa using fun j hj => (hc j hj).1) (by simpa using fun j hj => (hc j hj).2) gt.one
  simp only [Nat.add_zero] at hst
  simp [Builtin.clear_, run_underlying gt.und, hz, hzc, hst]
set_option maxRecDepth 100000 in
set_option maxHeartbeats 4000000 in
theorem del_any (base : Nat) (A : Option Addr) (n c i : Nat) (Ji : Int) (rs : List (List Value)) (w : World) (h : Grd 60 18 w base A n c rs) (hi : i < n) (hn : n ≤ 1000) (hJ : Ji = (i : Int) + 1) :
    Calls Tryz.prog 39 #[.slice A n c, .int .i64 i, .int .i64 Ji] w fun e w' => e = .returned (.slice A (n - 1) c) ∧ Grd 60 18 w' base A (n - 1) c (rs.eraseIdx i) ∧ Oth (blkO A) w w' := by
  obtain ⟨g, eA, hg⟩ := h.spot (by omega)
  subst eA
  obtain ⟨m, HM⟩ : ∃ m, Hid (n = m + 1) := ⟨n - 1, Lib.hid (by omega)⟩
  obtain ⟨J, HJ⟩ : ∃ J, Hid (J = i + 1) := ⟨_, Lib.hid rfl⟩
  obtain ⟨M, HMM⟩ : ∃ M, Hid (M = n - J) := ⟨_, Lib.hid rfl⟩
  obtain ⟨d, HD⟩ : ∃ d, Hid (d = c - J) := ⟨_, Lib.hid rfl⟩
  obtain ⟨d1, HD1⟩ : ∃ d, Hid (d = c - m) := ⟨_, Lib.hid rfl⟩
  have hmo := HM.out; have hjo := HJ.out; have hMo := HMM.out; have hdo := HD.out; have hd1 := HD1.out
  have hcap := h.cap
  have hjji : Ji = (J : Int) := by rw [hJ, hjo]; simp
  clear hJ
  subst hjji
  have H := Lib.hid h
  -- what was read, stored, cleared
  obtain ⟨_, hb, hgl, cur, hh, hs, ht⟩ := h.blk hg
  have hk : Blk 60 w g cur.toList := by unfold Blk; rw [hh]
  have hsz : cur.toList.length = c * 18 := by rw [Array.length_toList]; exact hs
  have hX : ∃ X : Addr, (if c = J then (some ⟨g, 0, none⟩ : Option Addr) else (some ⟨g, 0, none⟩ : Option Addr).map (·.add (J * 18))) = some X ∧ ∀ j u, (rs.drop J).flatten[j]? = some u → w.cell? (X.add j) = some u := by
    have hrd := h.rd.back (i := J) (c := c) (by omega) hcap.1
    by_cases hc : c = J
    · refine ⟨⟨g, 0, none⟩, by rw [if_pos hc], fun j u hu => ?_⟩
      have h0 : (rs.drop J).flatten = [] := by
        rw [List.drop_eq_nil_of_le (by rw [h.2.1]; omega)]; rfl
      rw [h0] at hu; cases hu
    · rw [if_neg hc] at hrd ⊢
      refine ⟨(⟨g, 0, none⟩ : Addr).add (J * 18), rfl, fun j u hu => ?_⟩
      have hpos : 0 < n - J := by
        rcases Nat.eq_zero_or_pos (n - J) with h0 | h0
        · rw [List.drop_eq_nil_of_le (by rw [h.2.1]; omega)] at hu; cases hu
        · exact h0
      obtain ⟨b, o, e, _, hcl⟩ := hrd.2.2 hpos
      rw [Option.map_some] at e
      injection e with e
      rw [e]
      have hadd : (⟨b, o, none⟩ : Addr).add j = ⟨b, o + j, none⟩ := by unfold Addr.add; split <;> simp_all
      rw [hadd]
      exact hcl j u hu
  obtain ⟨X, eX, hXc⟩ := hX
  have hrecd : recs 18 (rs.drop J) := h.2.2.sub (fun r hr => List.mem_of_mem_drop hr)
  have hfl : (rs.drop J).flatten.length = M * 18 := by rw [hrecd.len, List.length_drop, h.2.1, hMo]
  obtain ⟨i0, hi0, _, hi2, _⟩ := gt_en.parts
  obtain ⟨W1, HW1⟩ : ∃ W1, Hid (W1 = w.drew.setCells g (i * 18) (rs.drop J).flatten) := ⟨_, Lib.hid rfl⟩
  have happ : Hid (∀ ty, (Builtin.append_ #[53, 53] ty #[.slice (some ⟨g, 0, none⟩) i c, .slice (some X) M d]).run Tryz.prog w.drew = .ok (.slice (some ⟨g, 0, none⟩) m c) W1) := Lib.hid (fun ty => by
    have hr := run_append_room_cells (P := Tryz.prog) w.drew 53 ty 60 i0 Tryz.underlying53 hi0 g 0 i c X M d (rs.drop J).flatten (by rw [hfl, hi2]; rfl) hXc hrecd.one (by omega) (fun j hj => by
      show (w.cell? _).isSome = true
      rw [hi2, hk.cell, List.getElem?_eq_getElem (by
        rw [hsz]
        have h1 : j < M * 18 := by rw [← hfl]; exact hj
        have h2 : zEn.length = 18 := rfl
        rw [h2]; omega)]; rfl) (fun j hj => hk.free _)
    rw [hr, show i + M = m by omega, hi2, Nat.zero_add, HW1.out]
    rfl)
  have hk1 : Blk 60 W1 g (putsL cur.toList (i * 18) (rs.drop J).flatten) := by rw [HW1.out]; exact Blk.puts _ _ w.drew _ hk
  obtain ⟨W2, HW2⟩ : ∃ W2, Hid (W2 = W1.setCells g (m * 18) zEn) := ⟨_, Lib.hid rfl⟩
  have hclr : ∀ ty, (Builtin.clear_ #[53] ty #[.slice (some ⟨g, m * 18, none⟩) 1 d1]).run Tryz.prog W1 = .ok (.tuple #[]) W2 := fun ty => by
    rw [HW2.out]
    exact run_clear1 gt_en ty W1 g (m * 18) d1 (fun j hj => by
      rw [zEn_len] at hj
      refine ⟨?_, hk1.free _⟩
      rw [hk1.cell, List.getElem?_eq_getElem (by rw [putsL_len, hsz]; omega)]; rfl)
  have c13 : ∀ W : World, ∃ v, (Instr.slice 53 (.slice (some ⟨g, 0, none⟩) n c) (some (.int .i64 (i : Int))) (some (.int .i64 (J : Int))) (some (.int .i64 (n : Int)))).run Tryz.prog W = .ok v W := fun W => ⟨_, cutG_lhm gt_en (by omega) (by omega) hcap.1 W⟩
  obtain ⟨V13, HC13⟩ : ∃ V, ∀ W : World, (Instr.slice 53 (.slice (some ⟨g, 0, none⟩) n c) (some (.int .i64 (i : Int))) (some (.int .i64 (J : Int))) (some (.int .i64 (n : Int)))).run Tryz.prog W = .ok V W := ⟨_, cutG_lhm gt_en (by omega) (by omega) hcap.1⟩
  have c22 := cutG_h gt_en (n := n) (A := some ⟨g, 0, none⟩) (show i ≤ c by omega)
  have c25 : ∀ W : World, (Instr.slice 53 (.slice (some ⟨g, 0, none⟩) n c) (some (.int .i64 (J : Int))) none none).run Tryz.prog W = .ok (.slice (some X) M d) W := by
    have := cutG_l gt_en (n := n) (c := c) (A := some ⟨g, 0, none⟩) (show J ≤ n by omega)
    rw [zEn_len, eX, ← hMo, ← hdo] at this
    exact this
  have c31 : ∀ W : World, (Instr.slice 53 (.slice (some ⟨g, 0, none⟩) m c) (some (.int .i64 (m : Int))) (some (.int .i64 (n : Int))) none).run Tryz.prog W = .ok (.slice (some ⟨g, m * 18, none⟩) 1 d1) W := by
    have := cutG_lh gt_en (n := m) (c := c) (A := some ⟨g, 0, none⟩) (show m ≤ n by omega) hcap.1
    have hadd : (⟨g, 0, none⟩ : Addr).add (m * 18) = ⟨g, m * 18, none⟩ := by unfold Addr.add; split <;> simp_all
    rw [if_neg (by omega), Option.map_some, zEn_len, hadd, show n - m = 1 by omega, ← hd1] at this
    exact this
  have ne : ((i : Int) == (J : Int)) = false := by rw [beq_eq_false_iff_ne]; omega
  have HN := Lib.hid (And.intro hi hn)
  clear hXc eX hrecd hfl hi0 hi2 hh hs ht hk hk1 hsz hb hgl hg h hi hn hmo hjo hMo hdo hd1 hcap c13
  go_enter Tryz.func39, Tryz.ntmps39
  go_wp2_with fail
  go_region_law (refine step_run rfl (.tmp 22) (.tmp 25) 53 rfl _ _ _ rfl rfl happ.out ?_)
  go_wp2_with fail
  go_ret
  have hmo := HM.out
  refine ⟨by rw [show n - 1 = m by omega]; rfl, ?_, ?_⟩
  · rw [show n - 1 = m by omega, HW2.out, HW1.out, HJ.out]
    exact del_mem (w := w.drew) H.out HN.out.1 hmo rfl
  · rw [HW2.out, HW1.out]
    exact oth_setCells g _ _ _ _ (oth_setCells g _ _ _ _ (Oth.of_below (Below.refl _ _).drew))
end Go.Proofs.YtlapnfpdkfhfdaaGreat
