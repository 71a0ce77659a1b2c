/- Boxes of layer 7 that lie beside each other: what is done elsewhere leaves a box as it was. No conditions; nothing is claimed of the program here. -/
import Derived.Test.YthllaoeioddddaaGreatGcmAll
import Derived.Test.YthllaoeioddddaaGreatRec
import Derived.Test.YthllaoeioddddaaGreatGrd
import Derived.Test.YthllaoeioddddaaGreatRiP
import Derived.Deep.RegionLaw
import Derived.Test.YthllaoeioddddaaGreatClone
import Derived.Test.YthllaoeioddddaaGreatIntM
import Derived.Great.BuildSlice
import Derived.Laws.Cover3
namespace Go.Proofs.YthllaoeioddddaaGreat
open Go.RowKit
set_option linter.unusedVariables false
set_option linter.unusedSimpArgs false

/-- A box: its blocks that calls change, from where to where all of it lies, its key. -/
structure EB where
  x : Nat
  cb : Nat
  hb : Nat
  L : Nat
  H : Nat
  key : List UInt8
def EB.S (e : EB) : List Nat := [e.x, e.cb, e.hb]
structure EB.Is (e : EB) (p : BP) : Prop where
  x : p.x = e.x
  cb : p.cb = e.cb
  hb : p.hb = e.hb
  key : p.key = e.key
  H : p.w0.heap.size = e.H
  lo : e.L ≤ p.lo
  ls : ∀ y ∈ p.S, e.L ≤ y
  la : ∀ g o, p.A0 = some ⟨g, o, none⟩ → e.L ≤ g
/-- The box is there: at most N blocks encrypted, at most F tags wrong. -/
def EB.Ok (e : EB) (N F : Nat) (w : World) : Prop := ∃ (p : BP) (f : Nat), e.Is p ∧ f ≤ F ∧ Bz p N f w
/-- The block is none of the box's. -/
def EB.out (e : EB) (g : Nat) : Prop := g < e.L ∨ e.H ≤ g
section
variable {e e2 : EB} {p : BP} {N F N' F' n f g lo : Nat} {w w' : World} {S : List Nat}
theorem EB.Is.same (h : e.Is p) : p.S = e.S := by unfold BP.S EB.S; rw [h.x, h.cb, h.hb]
theorem EB.Ok.le (h : e.Ok N F w) : e.H ≤ w.heap.size := by
  obtain ⟨p, f, hi, _, hz⟩ := h
  rw [← hi.H]; exact hz.old
theorem EB.Ok.in_ (h : e.Ok N F w) : ∀ y ∈ e.S, e.L ≤ y ∧ y < e.H := by
  obtain ⟨p, f, hi, _, hz⟩ := h
  intro y hy
  rw [← hi.same] at hy
  exact ⟨hi.ls y hy, by rw [← hi.H]; exact hz.lt y hy⟩
theorem EB.Ok.up (h : e.Ok N F w) (hn : N ≤ N') (hf : F ≤ F') : e.Ok N' F' w := by
  obtain ⟨p, f, hi, hl, hz⟩ := h
  exact ⟨p, f, hi, Nat.le_trans hl hf, hz.up hn⟩
/-- What is done to other blocks. -/
theorem EB.Ok.off (h : e.Ok N F w) (ho : Oth S w w') (hs : ∀ g ∈ S, e.out g) : e.Ok N F w' := by
  obtain ⟨p, f, hi, hl, hz⟩ := h
  have hord := hz.ord
  have hlc := hz.ob0.lt
  have hold := hz.old
  have hH := hi.H
  have hno : ∀ k, e.L ≤ k → k < p.w0.heap.size → k ∉ S := fun k h1 h2 hm => by
    have := hs k hm
    unfold EB.out at this
    omega
  have hsame : ∀ k, e.L ≤ k → k < p.w0.heap.size → w'.heap[k]? = w.heap[k]? := fun k h1 h2 => ho.block k (Nat.lt_of_lt_of_le h2 hold) (hno k h1 h2)
  have hx := hi.ls p.x (by simp [BP.S])
  have hc := hi.ls p.cb (by simp [BP.S])
  have hh := hi.ls p.hb (by simp [BP.S])
  have ex := hsame p.x hx hord.2.2.1
  have ec := hsame p.cb hc (by omega)
  have eh := hsame p.hb hh hord.2.2.2.1
  obtain ⟨W, hW0, hWs, hWi, hWn⟩ : ∃ W : World, (W.os = p.wc.os ∧ W.tape = p.wc.tape ∧ W.output = p.wc.output) ∧ W.heap.size = p.wc.heap.size ∧ (∀ k, k < p.wc.heap.size → k ∈ S → W.heap[k]? = w'.heap[k]?) ∧ (∀ k, k < p.wc.heap.size → k ∉ S → W.heap[k]? = p.wc.heap[k]?) := by
    refine ⟨{ p.wc with heap := Array.ofFn (n := p.wc.heap.size) fun i => if i.val ∈ S then (w'.heap[i.val]?).getD p.wc.heap[i] else p.wc.heap[i] }, ⟨rfl, rfl, rfl⟩, by simp, fun k hk hm => ?_, fun k hk hm => ?_⟩
    · have h1 : k < w'.heap.size := by have := ho.size; omega
      simp [Array.getElem?_ofFn, hk, hm, Array.getElem?_eq_getElem h1]
    · simp [Array.getElem?_ofFn, hk, hm]
  have hbut : But p.cb W w' := by
    refine ⟨(ho.os.trans hz.but.os).trans hW0.1.symm, (ho.tape.trans hz.but.tape).trans hW0.2.1.symm, (ho.output.trans hz.but.output).trans hW0.2.2.symm, ?_, fun k hk hne => ?_⟩
    · have := ho.size; have := hz.but.size; omega
    · rw [hWs] at hk
      by_cases hm : k ∈ S
      · exact (hWi k hk hm).symm
      · rw [hWn k hk hm, ← hz.but.block k hk hne]
        exact ho.block k (Nat.lt_of_lt_of_le hk hz.but.size) hm
  have hob0 : Ob p.cb p.b p.lo p.key 0 W := ⟨hz.ob0.cf.block (hWn p.cb hlc (hno _ hc (by omega))), hz.ob0.tab.keep (fun q m fn hq hm hcl j hj => by
    have hql := hcl.lt hm
    have eq := hWn q hql (hno q (Nat.le_trans hi.lo hq) (by omega))
    exact ⟨(World.cell?_of_block (w := p.wc) (a := ⟨q, j, none⟩) eq).trans (hcl j hj).1, (World.frozen?_of_block (w := p.wc) (a := ⟨q, j, none⟩) eq).trans (hcl j hj).2⟩), hz.ob0.len, hz.ob0.few⟩
  refine ⟨{ p with wc := W }, f, ⟨hi.x, hi.cb, hi.hb, hi.key, hi.H, hi.lo, hi.ls, hi.la⟩, hl, ?_⟩
  exact {
    old := Nat.le_trans hold ho.size
    c0 := (World.cell?_of_block (w := w) (a := ⟨p.x, 0, none⟩) ex).trans hz.c0
    c1 := (World.cell?_of_block (w := w) (a := ⟨p.x, 1, none⟩) ex).trans hz.c1
    c2 := (World.cell?_of_block (w := w) (a := ⟨p.x, 2, none⟩) ex).trans hz.c2
    c3 := (World.cell?_of_block (w := w) (a := ⟨p.x, 3, none⟩) ex).trans hz.c3
    free := (World.frozen?_of_block (w := w) (a := ⟨p.x, 3, none⟩) ex).trans hz.free
    cap := hz.cap
    key := ⟨hz.key.1, fun hn => by
      obtain ⟨g, o, eA, hg, hcl⟩ := hz.key.2 hn
      exact ⟨g, o, eA, hg, fun i hi2 => by
        rw [← hcl i hi2]
        exact World.cell?_of_block (w := w) (a := ⟨g, o + i, none⟩) (hsame g (hi.la g o eA) hg)⟩⟩
    away := hz.away
    ob0 := hob0
    but := hbut
    ob := by
      obtain ⟨m, hm, hob⟩ := hz.ob
      exact ⟨m, hm, ⟨hob.cf.block ec, hob0.tab.apartJ (by decide) 0 (by omega) hob0.cf.nob hob0.cf.ne (fun q hlq hq => hbut.block q hlq hq), hob.len, hob.few⟩⟩
    ho := by
      obtain ⟨d, hd⟩ := hz.ho
      exact ⟨d, hd.same eh⟩
    ord := by
      show W.heap.size ≤ p.x ∧ W.heap.size ≤ p.hb ∧ p.x < p.w0.heap.size ∧ p.hb < p.w0.heap.size ∧ p.x ≠ p.hb ∧ W.heap.size ≤ p.w0.heap.size
      rw [hWs]; exact hord }
theorem EB.Ok.step (h : e.Ok N F w) (hb : Below w.heap.size w w') : e.Ok N F w' := h.off (Oth.of_below (S := []) hb) (fun g hg => by cases hg)
theorem EB.Ok.below (h : e.Ok N F w) (hl : e.H ≤ lo) (hb : Below lo w w') : e.Ok N F w' := by
  obtain ⟨p, f, hi, hf, hz⟩ := h
  exact ⟨p, f, hi, hf, hz.hold (hb.mono (by rw [hi.H]; exact hl))⟩
theorem EB.apart (h : e.Ok N F w) (hd : e.H ≤ e2.L ∨ e2.H ≤ e.L) : ∀ g ∈ e.S, e2.out g := fun g hg => by
  have := h.in_ g hg
  unfold EB.out
  omega
theorem EB.of_new {key : List UInt8} {r : Ending} (h : RetX2 key w r w') : ∃ e : EB, r = .returned (.tuple #[.pointer (some ⟨e.x, 0, none⟩), .int .i64 0]) ∧ e.key = key ∧ Below w.heap.size w w' ∧ e.L = w.heap.size ∧ e.H = w'.heap.size ∧ e.Ok 1 0 w' := by
  obtain ⟨p, hr, hk, hb, hs, ⟨h1, h2, h3⟩, hz⟩ := h
  exact ⟨⟨p.x, p.cb, p.hb, w.heap.size, w'.heap.size, p.key⟩, hr, hk, hb, rfl, rfl, p, 0, ⟨rfl, rfl, rfl, rfl, h3, h1, hs, h2⟩, Nat.le_refl _, hz⟩
end
end Go.Proofs.YthllaoeioddddaaGreat

/- Layer 19: a ring in memory: entries with boxes, keys, numbers; slices.Delete of one of them; find. Conditions: what is said of the ring. -/
namespace Go.Proofs.YthllaoeioddddaaGreat
open Go.RowKit
set_option linter.unusedVariables false
set_option linter.unusedSimpArgs false

/-! Plain: where a number's key stands. -/
def idxR (s : Rg) (q : Int) : Int := match findR s q with | some i => (i : Int) | none => -1
theorem idx_neg {s : Rg} {q : Int} (h : hasR s q = false) : idxR s q = -1 := by
  unfold hasR at h; unfold idxR
  cases e : findR s q with
  | none => rfl
  | some i => rw [e] at h; cases h
theorem idx_pos {s : Rg} {q : Int} (h : hasR s q = true) : ∃ i : Nat, idxR s q = (i : Int) ∧ findR s q = some i ∧ i < s.length := by
  obtain ⟨i, r, hf, _, _, hl⟩ := has_someR h
  exact ⟨i, by unfold idxR; rw [hf], hf, hl⟩

/-- Entries: boxes with their numbers. -/
abbrev Ens := List (EB × Int)
def rgE (es : Ens) : Rg := es.map fun e => (e.2, e.1.key)
def enR (e : EB × Int) : List Value := .pointer (some ⟨e.1.x, 0, none⟩) :: .int .i64 e.2 :: bvs e.1.key
def zEn : List Value := .pointer none :: .int .i64 0 :: List.replicate 16 (.int .u8 0)
theorem rg_len (es : Ens) : (rgE es).length = es.length := List.length_map _
theorem enR_len {e : EB × Int} (h : e.1.key.length = 16) : (enR e).length = 18 := by
  unfold enR; simp [bvs, h]
theorem enR_one (e : EB × Int) : ones (enR e) := by
  intro v hv
  unfold enR at hv
  rcases List.mem_cons.1 hv with rfl | hv
  · rfl
  rcases List.mem_cons.1 hv with rfl | hv
  · rfl
  · obtain ⟨b, _, rfl⟩ := List.mem_map.1 hv; rfl
theorem zEn_len : zEn.length = 18 := rfl
theorem zEn_one : ones zEn := by
  intro v hv
  unfold zEn at hv
  rcases List.mem_cons.1 hv with rfl | hv
  · rfl
  rcases List.mem_cons.1 hv with rfl | hv
  · rfl
  · rw [List.eq_of_mem_replicate hv]; rfl
theorem gt_en : GT 99 100 zEn 32 := ⟨Tryz.underlying100, row_of (by kernel_rfl), by kernel_rfl, by decide, zEn_one⟩
theorem rt_en : RT 99 zEn := gt_en.rt
abbrev GE (w : World) (base : Nat) (A : Option Addr) (c : Nat) (es : Ens) : Prop := Grd 99 18 w base A es.length c (es.map enR)

/-- A load of one record out of a row. -/
theorem wpList_ldR {w : World} {ops : Array Oper} {rest : List Oper} {o : Oper} {a : Act} {Q : Exit → Act → World → Prop} {T : TypeId} {z : List Value} (rt : RT T z) (hgd : o.guard = none) (x : Operand) (hop : o.op = .load T x) (g k : Nat) (hx : a.eval x = .pointer (some ⟨g, k, none⟩)) (vs : List Value) (hr : w.rangeAt g k vs) (hl : vs.length = z.length)
    (hk : wpList Tryz.prog ops Q rest (a.put o.dst (.agg vs.toArray)) w) : wpList Tryz.prog ops Q (o :: rest) a w := by
  obtain ⟨d, hu, hd⟩ := rt.row
  exact wpList_load_mid hgd _ x hop g k hx vs d hr hu hd (by rw [hl]; exact rt.size) hk
/-- A ring: its block, its entries, their boxes. -/
structure Rn (base : Nat) (w : World) (x : Nat) (A : Option Addr) (c : Nat) (es : Ens) (N F : Nat) : Prop where
  blk : Blk 102 w x [.slice A es.length c]
  grd : GE w base A c es
  ok : ∀ e ∈ es, e.1.Ok N F w ∧ e.1.key.length = 16 ∧ base ≤ e.1.L ∧ e.1.out x ∧ ∀ g ∈ blkO A, e.1.out g
  pw : es.Pairwise (fun a b => a.1.H ≤ b.1.L)
  low : base ≤ x
section
variable {base : Nat} {w w' : World} {x c N F N' F' : Nat} {A : Option Addr} {es : Ens} {S : List Nat}
theorem Rn.nx (h : Rn base w x A c es N F) : x ∉ blkO A := h.grd.away h.blk (by decide)
theorem Rn.off (h : Rn base w x A c es N F) (ho : Oth S w w') (hx : x ∉ S) (hA : ∀ g ∈ blkO A, g ∉ S) (he : ∀ e ∈ es, ∀ g ∈ S, e.1.out g) : Rn base w' x A c es N F :=
  ⟨h.blk.oth ho hx, h.grd.oth ho hA, fun e hm => ⟨(h.ok e hm).1.off ho (he e hm), (h.ok e hm).2⟩, h.pw, h.low⟩
theorem Rn.step (h : Rn base w x A c es N F) (hb : Below w.heap.size w w') : Rn base w' x A c es N F := h.off (Oth.of_below (S := []) hb) (by simp) (fun g hg => by simp) (fun e hm g hg => by cases hg)
theorem Rn.up (h : Rn base w x A c es N F) (hn : N ≤ N') (hf : F ≤ F') : Rn base w x A c es N' F' := ⟨h.blk, h.grd, fun e hm => ⟨(h.ok e hm).1.up hn hf, (h.ok e hm).2⟩, h.pw, h.low⟩
theorem Rn.base_le {b : Nat} (h : Rn base w x A c es N F) (hb : b ≤ base) : Rn b w x A c es N F :=
  ⟨h.blk, h.grd.base_le hb, fun e hm => ⟨(h.ok e hm).1, (h.ok e hm).2.1, Nat.le_trans hb (h.ok e hm).2.2.1, (h.ok e hm).2.2.2⟩, h.pw, Nat.le_trans hb h.low⟩
/-- An entry's cells. -/
theorem Rn.at_ (h : Rn base w x A c es N F) {i : Nat} (hi : i < es.length) : ∃ g e, A = some ⟨g, 0, none⟩ ∧ g ∈ blkO A ∧ g < w.heap.size ∧ es[i]? = some e ∧ e ∈ es ∧ (enR e).length = 18 ∧ w.rangeAt g (i * 18) (enR e) ∧ w.cell? ⟨g, i * 18, none⟩ = some (.pointer (some ⟨e.1.x, 0, none⟩)) ∧ w.cell? ⟨g, i * 18 + 1, none⟩ = some (.int .i64 e.2) := by
  obtain ⟨g, r, eA, hg, hr, hl, hrg, hm⟩ := h.grd.at_ hi
  rw [List.getElem?_map, List.getElem?_eq_getElem hi] at hr
  injection hr with hr
  subst hr
  refine ⟨g, es[i], eA, hm, hg, List.getElem?_eq_getElem hi, List.getElem_mem hi, hl, hrg, ?_, ?_⟩
  · exact hrg 0 _ rfl
  · exact hrg 1 _ rfl
theorem Rn.c0 (h : Rn base w x A c es N F) : w.cell? ⟨x, 0, none⟩ = some (.slice A es.length c) := h.blk.cell 0
end

/-! slices.Delete of one element. -/
theorem putsG_eq : ∀ (vs cs : List Value) (o : Nat), o + vs.length ≤ cs.length → putsL cs o vs = cs.take o ++ vs ++ cs.drop (o + vs.length)
  | [], cs, o, _ => by simp [putsL]
  | v :: r, cs, o, h => by
    rw [List.length_cons] at h
    rw [putsL, putsG_eq r (cs.set o v) (o + 1) (by rw [List.length_set]; omega)]
    have h1 : (cs.set o v).take (o + 1) = cs.take o ++ [v] := by
      rw [List.set_eq_take_append_cons_drop, if_pos (by omega)]
      rw [List.take_append, List.take_of_length_le (by rw [List.length_take]; omega), List.length_take, Nat.min_eq_left (by omega), Nat.add_sub_cancel_left]
      rfl
    have h2 : (cs.set o v).drop (o + 1 + r.length) = cs.drop (o + 1 + r.length) := by
      rw [List.drop_set_of_lt (by omega)]
    rw [h1, h2, List.length_cons, show o + (r.length + 1) = o + 1 + r.length by omega]
    simp
theorem del_mem {T : TypeId} {k : Nat} {w : World} {base n c i m g : Nat} {rs : List (List Value)} {z : List Value} (h : Grd T k w base (some ⟨g, 0, none⟩) n c rs) (hi : i < n) (hm : n = m + 1) (hz : z.length = k) :
    Grd T k ((w.setCells g (i * k) (rs.drop (i + 1)).flatten).setCells g (m * k) z) base (some ⟨g, 0, none⟩) m c (rs.eraseIdx i) := by
  obtain ⟨_, hb, hg, cur, hh, hs, ht⟩ := h.blk (g := g) (by simp [blkO])
  have hcap := h.cap
  have hk : Blk T w g cur.toList := by unfold Blk; rw [hh]
  have hsz : cur.toList.length = c * k := by rw [Array.length_toList]; exact hs
  have hdl : (rs.drop (i + 1)).flatten.length = (m - i) * k := by rw [(h.2.2.sub (fun r hr => List.mem_of_mem_drop hr) : recs k (rs.drop (i + 1))).len, List.length_drop, h.2.1, hm]; congr 1; omega
  have hmk : i * k + (m - i) * k = m * k := by rw [← Nat.add_mul]; congr 1; omega
  have hmc : m * k + k ≤ c * k := by rw [← Nat.succ_mul]; exact Nat.mul_le_mul_right k (by omega)
  have hik : i * k ≤ n * k := Nat.mul_le_mul_right k (by omega)
  have hmn : m * k ≤ n * k := Nat.mul_le_mul_right k (by omega)
  have hnc : n * k ≤ c * k := Nat.mul_le_mul_right k hcap.1
  have k2 := ((hk.puts (rs.drop (i + 1)).flatten (i * k)).puts z (m * k))
  have hl2 : (putsL (putsL cur.toList (i * k) (rs.drop (i + 1)).flatten) (m * k) z).length = c * k := by rw [putsL_len, putsL_len, hsz]
  have hre : recs k (rs.eraseIdx i) := h.2.2.sub (fun r hr => List.mem_of_mem_eraseIdx hr)
  have hle : (rs.eraseIdx i).length = m := by rw [List.length_eraseIdx_of_lt (by rw [h.2.1]; exact hi), h.2.1]; omega
  refine ⟨⟨by rw [hre.len, hle], .inr ⟨g, c, _, rfl, hb, k2, by omega, hcap.2, ?_, ?_⟩⟩, hle, hre⟩
  · rw [List.size_toArray, hl2]
  · rw [show (putsL (putsL cur.toList (i * k) (rs.drop (i + 1)).flatten) (m * k) z).toArray.toList = putsL (putsL cur.toList (i * k) (rs.drop (i + 1)).flatten) (m * k) z from rfl]
    rw [putsG_eq z _ _ (by rw [putsL_len, hsz, hz]; exact hmc), List.append_assoc, List.take_append_of_le_length (by rw [List.length_take, putsL_len, hsz]; omega), List.take_take, Nat.min_self]
    rw [putsG_eq _ _ _ (by rw [hdl, hsz]; omega), hdl, hmk, List.take_append_of_le_length (by rw [List.length_append, List.length_take, hdl, hsz]; omega), List.take_of_length_le (by rw [List.length_append, List.length_take, hdl, hsz]; omega)]
    rw [List.eraseIdx_eq_take_drop_succ, List.flatten_append, flat_take h.2.2, ← ht, List.take_take, Nat.min_eq_left hik]
/-- A step of a region that draws: an append whose run is known. -/
theorem step_run {ops : Array Oper} {o : Oper} {a : Act} {w w1 : World} {K : Act → World → Prop} {Q : Exit → Act → World → Prop} {E : Prop} (hgd : o.guard = none) (s x : Operand) (t : TypeId) (ho : o.op = .call { callee := .builtin .append, args := #[s, x], argTypes := #[t, t] })
    (v1 v2 v : Value) (hs : a.eval s = v1) (hx : a.eval x = v2) (hrun : ∀ ty, (Builtin.append_ #[t, t] ty #[v1, v2]).run Tryz.prog w = .ok v w1) (h : K (a.put o.dst v) w1) :
    if Region.wanted o (yielded ops a.tmps) = true then Oper.wp Tryz.prog o a w K Q else E := by
  have hw : Region.wanted o (yielded ops a.tmps) = true := by simp [Region.wanted, hgd]
  rw [if_pos hw]
  unfold Oper.wp execOp
  simp only [ho, resolve, invoke, builtin, Sem.run_bind, Sem.run_pure, Result.andThen_ok, List.map_toArray, List.map_cons, List.map_nil, hs, hx, hrun]
  exact h
theorem run_clear1 {T S : TypeId} {z : List Value} {bytes : Nat} (gt : GT T S z bytes) (ty : TypeId) (w : World) (g o d : Nat) (hc : ∀ j, j < z.length → (w.cell? ⟨g, o + j, none⟩).isSome = true ∧ w.frozen? ⟨g, o + j, none⟩ = false) :
    (Builtin.clear_ #[S] ty #[.slice (some ⟨g, o, none⟩) 1 d]).run Tryz.prog w = .ok (.tuple #[]) (w.setCells g o z) := by
  have hz := gt.rt.zero
  have hzc : (Builtin.zeroCells (Value.agg z.toArray).cells 1).toList = z := by
    simp only [Builtin.zeroCells, Value.cells, Nat.one_mul, List.size_toArray]
    apply List.ext_getElem
    · simp
    · intro i h1 h2
      simp [Nat.mod_eq_of_lt h2]
      rw [List.getElem?_eq_getElem h2]; rfl
  have hst := run_storeCells_cells (P := Tryz.prog) g o z 0 w (by simpa using fun j hj => (hc j hj).1) (by simpa using fun j hj => (hc j hj).2) gt.one
  simp only [Nat.add_zero] at hst
  simp [Builtin.clear_, run_underlying gt.und, hz, hzc, hst]
set_option maxRecDepth 100000 in
set_option maxHeartbeats 4000000 in
theorem del_any (base : Nat) (A : Option Addr) (n c i : Nat) (Ji : Int) (rs : List (List Value)) (w : World) (h : Grd 99 18 w base A n c rs) (hi : i < n) (hn : n ≤ 1000) (hJ : Ji = (i : Int) + 1) :
    Calls Tryz.prog 58 #[.slice A n c, .int .i64 i, .int .i64 Ji] w fun e w' => e = .returned (.slice A (n - 1) c) ∧ Grd 99 18 w' base A (n - 1) c (rs.eraseIdx i) ∧ Oth (blkO A) w w' := by
  obtain ⟨g, eA, hg⟩ := h.spot (by omega)
  subst eA
  obtain ⟨m, HM⟩ : ∃ m, Hid (n = m + 1) := ⟨n - 1, Lib.hid (by omega)⟩
  obtain ⟨J, HJ⟩ : ∃ J, Hid (J = i + 1) := ⟨_, Lib.hid rfl⟩
  obtain ⟨M, HMM⟩ : ∃ M, Hid (M = n - J) := ⟨_, Lib.hid rfl⟩
  obtain ⟨d, HD⟩ : ∃ d, Hid (d = c - J) := ⟨_, Lib.hid rfl⟩
  obtain ⟨d1, HD1⟩ : ∃ d, Hid (d = c - m) := ⟨_, Lib.hid rfl⟩
  have hmo := HM.out; have hjo := HJ.out; have hMo := HMM.out; have hdo := HD.out; have hd1 := HD1.out
  have hcap := h.cap
  have hjji : Ji = (J : Int) := by rw [hJ, hjo]; simp
  clear hJ
  subst hjji
  have H := Lib.hid h
  -- what was read, stored, cleared
  obtain ⟨_, hb, hgl, cur, hh, hs, ht⟩ := h.blk hg
  have hk : Blk 99 w g cur.toList := by unfold Blk; rw [hh]
  have hsz : cur.toList.length = c * 18 := by rw [Array.length_toList]; exact hs
  have hX : ∃ X : Addr, (if c = J then (some ⟨g, 0, none⟩ : Option Addr) else (some ⟨g, 0, none⟩ : Option Addr).map (·.add (J * 18))) = some X ∧ ∀ j u, (rs.drop J).flatten[j]? = some u → w.cell? (X.add j) = some u := by
    have hrd := h.rd.back (i := J) (c := c) (by omega) hcap.1
    by_cases hc : c = J
    · refine ⟨⟨g, 0, none⟩, by rw [if_pos hc], fun j u hu => ?_⟩
      have h0 : (rs.drop J).flatten = [] := by
        rw [List.drop_eq_nil_of_le (by rw [h.2.1]; omega)]; rfl
      rw [h0] at hu; cases hu
    · rw [if_neg hc] at hrd ⊢
      refine ⟨(⟨g, 0, none⟩ : Addr).add (J * 18), rfl, fun j u hu => ?_⟩
      have hpos : 0 < n - J := by
        rcases Nat.eq_zero_or_pos (n - J) with h0 | h0
        · rw [List.drop_eq_nil_of_le (by rw [h.2.1]; omega)] at hu; cases hu
        · exact h0
      obtain ⟨b, o, e, _, hcl⟩ := hrd.2.2 hpos
      rw [Option.map_some] at e
      injection e with e
      rw [e]
      have hadd : (⟨b, o, none⟩ : Addr).add j = ⟨b, o + j, none⟩ := by unfold Addr.add; split <;> simp_all
      rw [hadd]
      exact hcl j u hu
  obtain ⟨X, eX, hXc⟩ := hX
  have hrecd : recs 18 (rs.drop J) := h.2.2.sub (fun r hr => List.mem_of_mem_drop hr)
  have hfl : (rs.drop J).flatten.length = M * 18 := by rw [hrecd.len, List.length_drop, h.2.1, hMo]
  obtain ⟨i0, hi0, _, hi2, _⟩ := gt_en.parts
  obtain ⟨W1, HW1⟩ : ∃ W1, Hid (W1 = w.drew.setCells g (i * 18) (rs.drop J).flatten) := ⟨_, Lib.hid rfl⟩
  have happ : Hid (∀ ty, (Builtin.append_ #[100, 100] ty #[.slice (some ⟨g, 0, none⟩) i c, .slice (some X) M d]).run Tryz.prog w.drew = .ok (.slice (some ⟨g, 0, none⟩) m c) W1) := Lib.hid (fun ty => by
    have hr := run_append_room_cells (P := Tryz.prog) w.drew 100 ty 99 i0 Tryz.underlying100 hi0 g 0 i c X M d (rs.drop J).flatten (by rw [hfl, hi2]; rfl) hXc hrecd.one (by omega) (fun j hj => by
      show (w.cell? _).isSome = true
      rw [hi2, hk.cell, List.getElem?_eq_getElem (by
        rw [hsz]
        have h1 : j < M * 18 := by rw [← hfl]; exact hj
        have h2 : zEn.length = 18 := rfl
        rw [h2]; omega)]; rfl) (fun j hj => hk.free _)
    rw [hr, show i + M = m by omega, hi2, Nat.zero_add, HW1.out]
    rfl)
  have hk1 : Blk 99 W1 g (putsL cur.toList (i * 18) (rs.drop J).flatten) := by rw [HW1.out]; exact Blk.puts _ _ w.drew _ hk
  obtain ⟨W2, HW2⟩ : ∃ W2, Hid (W2 = W1.setCells g (m * 18) zEn) := ⟨_, Lib.hid rfl⟩
  have hclr : ∀ ty, (Builtin.clear_ #[100] ty #[.slice (some ⟨g, m * 18, none⟩) 1 d1]).run Tryz.prog W1 = .ok (.tuple #[]) W2 := fun ty => by
    rw [HW2.out]
    exact run_clear1 gt_en ty W1 g (m * 18) d1 (fun j hj => by
      rw [zEn_len] at hj
      refine ⟨?_, hk1.free _⟩
      rw [hk1.cell, List.getElem?_eq_getElem (by rw [putsL_len, hsz]; omega)]; rfl)
  have c13 : ∀ W : World, ∃ v, (Instr.slice 100 (.slice (some ⟨g, 0, none⟩) n c) (some (.int .i64 (i : Int))) (some (.int .i64 (J : Int))) (some (.int .i64 (n : Int)))).run Tryz.prog W = .ok v W := fun W => ⟨_, cutG_lhm gt_en (by omega) (by omega) hcap.1 W⟩
  obtain ⟨V13, HC13⟩ : ∃ V, ∀ W : World, (Instr.slice 100 (.slice (some ⟨g, 0, none⟩) n c) (some (.int .i64 (i : Int))) (some (.int .i64 (J : Int))) (some (.int .i64 (n : Int)))).run Tryz.prog W = .ok V W := ⟨_, cutG_lhm gt_en (by omega) (by omega) hcap.1⟩
  have c22 := cutG_h gt_en (n := n) (A := some ⟨g, 0, none⟩) (show i ≤ c by omega)
  have c25 : ∀ W : World, (Instr.slice 100 (.slice (some ⟨g, 0, none⟩) n c) (some (.int .i64 (J : Int))) none none).run Tryz.prog W = .ok (.slice (some X) M d) W := by
    have := cutG_l gt_en (n := n) (c := c) (A := some ⟨g, 0, none⟩) (show J ≤ n by omega)
    rw [zEn_len, eX, ← hMo, ← hdo] at this
    exact this
  have c31 : ∀ W : World, (Instr.slice 100 (.slice (some ⟨g, 0, none⟩) m c) (some (.int .i64 (m : Int))) (some (.int .i64 (n : Int))) none).run Tryz.prog W = .ok (.slice (some ⟨g, m * 18, none⟩) 1 d1) W := by
    have := cutG_lh gt_en (n := m) (c := c) (A := some ⟨g, 0, none⟩) (show m ≤ n by omega) hcap.1
    have hadd : (⟨g, 0, none⟩ : Addr).add (m * 18) = ⟨g, m * 18, none⟩ := by unfold Addr.add; split <;> simp_all
    rw [if_neg (by omega), Option.map_some, zEn_len, hadd, show n - m = 1 by omega, ← hd1] at this
    exact this
  have ne : ((i : Int) == (J : Int)) = false := by rw [beq_eq_false_iff_ne]; omega
  have HN := Lib.hid (And.intro hi hn)
  clear hXc eX hrecd hfl hi0 hi2 hh hs ht hk hk1 hsz hb hgl hg h hi hn hmo hjo hMo hdo hd1 hcap c13
  go_enter Tryz.func58, Tryz.ntmps58
  go_wp2_with fail
  go_region_law (refine step_run rfl (.tmp 22) (.tmp 25) 100 rfl _ _ _ rfl rfl happ.out ?_)
  go_wp2_with fail
  go_ret
  have hmo := HM.out
  refine ⟨by rw [show n - 1 = m by omega]; rfl, ?_, ?_⟩
  · rw [show n - 1 = m by omega, HW2.out, HW1.out, HJ.out]
    exact del_mem (w := w.drew) H.out HN.out.1 hmo rfl
  · rw [HW2.out, HW1.out]
    exact oth_setCells g _ _ _ _ (oth_setCells g _ _ _ _ (Oth.of_below (Below.refl _ _).drew))
end Go.Proofs.YthllaoeioddddaaGreat

/- Layer 19: find, Key, Box, Newest, Seqs of a ring. Condition: what is said of the ring. -/
namespace Go.Proofs.YthllaoeioddddaaGreat
open Go.RowKit
set_option linter.unusedVariables false
set_option linter.unusedSimpArgs false

set_option maxRecDepth 100000 in
set_option maxHeartbeats 2000000 in
theorem find1_any (cs : List Value) (p q : Int) (b : Nat) (w : World) (h1 : cs[1]? = some (.int .i64 p)) (hq : w.cell? ⟨b, 0, none⟩ = some (.int .i64 q)) (v : Bool) (hv : (p == q) = v) :
    Calls Tryz.prog 85 #[.agg cs.toArray, .pointer (some ⟨b, 0, none⟩)] w fun e w' => e = .returned (.bool v) ∧ Below w.heap.size w w' := by
  have H1 := Lib.hid h1
  have HQ := Lib.hid hq
  clear h1 hq
  go_enter Tryz.func85, Tryz.ntmps85
  go_wp2_with (first
    | (refine wpList_boxB rfl 99 (.tmp 0) rfl cs rfl ?_; intro w1 g1 k1 hb1 hg1; have hc1 := (k1.cell 1).trans H1.out; have hc0 := (hb1.cell (p := ⟨b, 0, none⟩) (World.block_lt_of_cell? w _ HQ.out)).trans HQ.out; have HB1 := Lib.hid hb1; clear hb1 k1 hg1))
  go_ret
  exact ⟨rfl, HB1.out⟩
set_option maxRecDepth 100000 in
set_option maxHeartbeats 4000000 in
theorem index_any (base : Nat) (A : Option Addr) (c : Nat) (es : Ens) (b : Nat) (q : Int) (w : World) (h : GE w base A c es) (hn : es.length ≤ 1000) (hq : w.cell? ⟨b, 0, none⟩ = some (.int .i64 q)) :
    Calls Tryz.prog 84 #[.slice A es.length c, .func (.func 85) #[] #[.pointer (some ⟨b, 0, none⟩)]] w fun e w' => e = .returned (.int .i64 (idxR (rgE es) q)) ∧ Below w.heap.size w w' := by
  have H := Lib.hid h
  have HQ := Lib.hid hq
  obtain ⟨n, HN⟩ : ∃ n, Hid (es.length = n) := ⟨_, Lib.hid rfl⟩
  rw [HN.out] at hn ⊢
  clear h hq
  go_enter Tryz.func84, Tryz.ntmps84
  go_wp2_with fail
  go_loopw [8] (fun i wr => ∃ k : Nat, k ≤ n ∧ i = .int .i64 (k : Int) ∧ Hid (Below w.heap.size w wr ∧ ∀ j e, j < k → es[j]? = some e → e.2 ≠ q)) (fun i _ => n - (intOf i).toNat)
  case atStart => exact ⟨0, by omega, rfl, Lib.hid ⟨Below.refl _ _, fun j e hj => absurd hj (by omega)⟩⟩
  case round =>
    obtain ⟨k, hk, rfl, HK⟩ := hrel
    by_cases hlt : k < n
    · have HG := Lib.hid (H.out.step HK.out.1)
      obtain ⟨g, r, rfl, hg, hr, hl, hrg, _⟩ := HG.out.at_ (i := k) (by rw [HN.out]; exact hlt)
      rw [List.getElem?_map] at hr
      obtain ⟨e0, he0, rfl⟩ : ∃ e0, es[k]? = some e0 ∧ enR e0 = r := by
        rcases hh : es[k]? with _ | e0
        · rw [hh] at hr; cases hr
        · rw [hh] at hr; injection hr with hr; exact ⟨e0, rfl, hr⟩
      have HE := Lib.hid he0
      have HR := Lib.hid (And.intro hl hrg)
      obtain ⟨v, HV⟩ : ∃ v, Hid ((e0.2 == q) = v) := ⟨_, Lib.hid rfl⟩
      have HF := Lib.hid (find1_any (enR e0) e0.2 q b wr rfl (by exact (HK.out.1.cell (p := ⟨b, 0, none⟩) (World.block_lt_of_cell? w _ HQ.out)).trans HQ.out) v HV.out)
      clear he0 hr hl hrg hg
      go_wp2_with (first
        | (refine wpList_ldR rt_en rfl (.tmp 14) rfl g (k * 18) (by first | rfl | simp [Act.eval, Act.put]) (enR e0) HR.out.2 HR.out.1 ?_))
      refine HF.out.mono ?_
      rintro e w1 ⟨rfl, hb⟩
      have HB1 := Lib.hid (bel_next HK.out.1 hb)
      clear hb HF
      rcases v with _ | _
      · go_wp2_with fail
        go_roundw
        case rel => exact ⟨k + 1, by omega, by go_num, Lib.hid ⟨HB1.out, fun j e hj he => by
          rcases Nat.lt_or_ge j k with h | h
          · exact HK.out.2 j e h he
          · obtain rfl : j = k := by omega
            rw [HE.out] at he
            injection he with he
            subst he
            exact beq_eq_false_iff_ne.1 HV.out⟩⟩
        case measure => simp [intOf]; omega
      · go_wp2_with fail
        go_ret
        refine ⟨?_, HB1.out⟩
        have hf : findR (rgE es) q = some k := by
          unfold findR rgE
          rw [List.findIdx?_eq_some_iff_getElem]
          have hkl : k < es.length := by rw [HN.out]; exact hlt
          refine ⟨by rw [List.length_map]; exact hkl, ?_, fun j hj => ?_⟩
          · rw [List.getElem_map]
            have : es[k] = e0 := by have := HE.out; rw [List.getElem?_eq_getElem hkl] at this; injection this
            rw [this]; exact HV.out
          · rw [List.getElem_map]
            have := HK.out.2 j es[j] hj (List.getElem?_eq_getElem (by omega))
            simpa using this
        unfold idxR
        rw [hf]
        rfl
    · have hkn : k = n := by omega
      subst hkn
      go_wp2_with fail
      go_ret
      refine ⟨?_, HK.out.1⟩
      have hf : hasR (rgE es) q = false := by
        rw [has_noR]
        unfold seqsR rgE
        rw [List.map_map]
        intro hm
        obtain ⟨e0, he, e1⟩ := List.mem_map.1 hm
        obtain ⟨j, hj, hje⟩ := List.getElem_of_mem he
        exact HK.out.2 j e0 (by rw [← HN.out]; exact hj) (by rw [List.getElem?_eq_getElem hj, hje]) e1
      rw [idx_neg hf]
      rfl
set_option maxRecDepth 100000 in
set_option maxHeartbeats 2000000 in
theorem find_any (base : Nat) (x : Nat) (A : Option Addr) (c : Nat) (es : Ens) (N F : Nat) (q : Int) (w : World) (h : Rn base w x A c es N F) (hn : es.length ≤ 1000) :
    Calls Tryz.prog 55 #[.pointer (some ⟨x, 0, none⟩), .int .i64 q] w fun e w' => e = .returned (.int .i64 (idxR (rgE es) q)) ∧ Below w.heap.size w w' := by
  have hb1 := below_alloc w (.cells #[.int .i64 q] 3)
  have HI := Lib.hid (index_any base A c es w.heap.size q (w.alloc (.cells #[.int .i64 q] 3)) (h.grd.step hb1) hn (World.cell?_alloc_at _ _ _ _ rfl))
  have HB1 := Lib.hid hb1
  have hc0 : (w.alloc (.cells #[.int .i64 q] 3)).cell? ⟨x, 0, none⟩ = some (.slice A es.length c) := (hb1.cell (p := ⟨x, 0, none⟩) h.blk.lt).trans h.c0
  have hmf : ∀ (fn : Fn) (first cap : Array Value) (w : World), (Instr.makeFunc fn first cap).run Tryz.prog w = .ok (.func fn first cap) w := fun _ _ _ _ => rfl
  clear h hb1
  go_enter Tryz.func55, Tryz.ntmps55
  go_wp2_with fail
  refine HI.out.mono ?_
  rintro e w1 ⟨rfl, hb⟩
  have HB2 := Lib.hid (bel_next HB1.out hb)
  clear hb
  go_wp2_with fail
  go_ret
  exact ⟨rfl, HB2.out⟩
/-! Key, Box. -/
/-- A call that gives bytes and whether there were any. -/
def RetKy (l : List UInt8) (v : Bool) (w : World) (e : Ending) (w' : World) : Prop :=
  ∃ A c, e = .returned (.tuple #[.slice A l.length c, .bool v]) ∧ OwnB w' w.heap.size A l.length c l ∧ Below w.heap.size w w'
theorem rg_at {es : Ens} {q : Int} (h : hasR (rgE es) q = true) : ∃ (i : Nat) (e : EB × Int), idxR (rgE es) q = (i : Int) ∧ i < es.length ∧ es[i]? = some e ∧ e.2 = q ∧ e.1.key = keyR (rgE es) q ∧ findR (rgE es) q = some i := by
  obtain ⟨i, r, hf, hr, hq, hl⟩ := has_someR h
  rw [rg_len] at hl
  have he : (rgE es)[i]? = some (es[i].2, es[i].1.key) := by unfold rgE; rw [List.getElem?_map, List.getElem?_eq_getElem hl]; rfl
  rw [hr] at he
  injection he with he
  refine ⟨i, es[i], by unfold idxR; rw [hf], hl, List.getElem?_eq_getElem hl, by rw [he] at hq; exact hq, ?_, hf⟩
  exact (key_atR (p := es[i].2) (k := es[i].1.key) hf (by rw [hr, he])).symm
set_option maxRecDepth 100000 in
set_option maxHeartbeats 4000000 in
theorem rkey_any (base : Nat) (x : Nat) (A : Option Addr) (c : Nat) (es : Ens) (N F : Nat) (q : Int) (w : World) (h : Rn base w x A c es N F) (hn : es.length ≤ 1000) :
    Calls Tryz.prog 27 #[.pointer (some ⟨x, 0, none⟩), .int .i64 q] w (RetKy (keyR (rgE es) q) (hasR (rgE es) q) w) := by
  have HI := Lib.hid (find_any base x A c es N F q w h hn)
  have H := Lib.hid h
  clear h
  cases hv : hasR (rgE es) q
  · rw [key_noneR hv]
    rw [idx_neg hv] at HI
    clear hv
    go_enter Tryz.func27, Tryz.ntmps27
    go_wp2_with fail
    refine HI.out.mono ?_
    rintro e w1 ⟨rfl, hb⟩
    have HB := Lib.hid hb
    clear hb
    go_wp2_with fail
    go_ret2
    exact ⟨none, 0, rfl, OwnB.nil_ _ _, HB.out⟩
  · obtain ⟨i, e0, hi, hl, he, _, hk, _⟩ := rg_at hv
    rw [hi] at HI
    rw [← hk]
    clear hv hi hk
    obtain ⟨n, HN⟩ : ∃ n, Hid (es.length = n) := ⟨_, Lib.hid rfl⟩
    have HE := Lib.hid he
    have HKL := Lib.hid (H.out.ok e0 (List.mem_of_getElem? he)).2.1
    have hlt : decide ((i : Int) < 0) = false := decide_eq_false (by omega)
    rw [HN.out] at hn hl
    clear he
    go_enter Tryz.func27, Tryz.ntmps27
    go_wp2_with fail
    refine HI.out.mono ?_
    rintro e w1 ⟨rfl, hb⟩
    have HB := Lib.hid hb
    have H1 := Lib.hid (H.out.step hb)
    clear hb
    have hc0 := H1.out.c0
    rw [HN.out] at hc0
    obtain ⟨g, e1, rfl, _, hg, he1, _, _, hrg, _, _⟩ := H1.out.at_ (i := i) (by rw [HN.out]; exact hl)
    rw [HE.out] at he1
    injection he1 with he1
    subst he1
    have HRB : Hid (RB w1 w1.heap.size (some ⟨g, i * 18 + 2, none⟩) 16 e0.1.key) := Lib.hid ⟨HKL.out, fun _ => ⟨g, i * 18 + 2, rfl, hg, fun j hj => by
      rw [Nat.add_assoc]
      refine hrg (2 + j) _ ?_
      unfold enR
      rw [show 2 + j = j + 1 + 1 by omega, List.getElem?_cons_succ, List.getElem?_cons_succ]
      simp [bvs, hj]⟩⟩
    clear hrg hg
    go_wp2_with fail
    refine (clone_any (some ⟨g, i * 18 + 2, none⟩) 16 16 w1.heap.size e0.1.key w1 (by exact HRB.out) (Nat.le_refl _) (by omega)).mono ?_
    rintro e w2 ⟨A2, c2, rfl, ho, hb2⟩
    have HO := Lib.hid (ho.base_le HB.out.size)
    have HB2 := Lib.hid (bel_next HB.out hb2)
    clear ho hb2
    go_wp2_with fail
    go_ret2
    exact ⟨A2, c2, by rw [HKL.out]; rfl, by rw [HKL.out]; exact HO.out, HB2.out⟩
set_option maxRecDepth 100000 in
set_option maxHeartbeats 4000000 in
theorem box_no (base : Nat) (x : Nat) (A : Option Addr) (c : Nat) (es : Ens) (N F : Nat) (q : Int) (w : World) (h : Rn base w x A c es N F) (hn : es.length ≤ 1000) (hv : hasR (rgE es) q = false) :
    Calls Tryz.prog 46 #[.pointer (some ⟨x, 0, none⟩), .int .i64 q] w fun e w' => e = .returned (.tuple #[.pointer none, .bool false]) ∧ Below w.heap.size w w' := by
  have HI := Lib.hid (find_any base x A c es N F q w h hn)
  rw [idx_neg hv] at HI
  clear hv h
  go_enter Tryz.func46, Tryz.ntmps46
  go_wp2_with fail
  refine HI.out.mono ?_
  rintro e w1 ⟨rfl, hb⟩
  have HB := Lib.hid hb
  clear hb
  go_wp2_with fail
  go_ret2
  exact ⟨rfl, HB.out⟩
set_option maxRecDepth 100000 in
set_option maxHeartbeats 4000000 in
theorem box_has (base : Nat) (x : Nat) (A : Option Addr) (c : Nat) (es : Ens) (N F : Nat) (q : Int) (w : World) (h : Rn base w x A c es N F) (hn : es.length ≤ 1000) (hv : hasR (rgE es) q = true) :
    ∃ (i : Nat) (e0 : EB × Int), es[i]? = some e0 ∧ findR (rgE es) q = some i ∧ e0.2 = q ∧ e0.1.key = keyR (rgE es) q ∧
    Calls Tryz.prog 46 #[.pointer (some ⟨x, 0, none⟩), .int .i64 q] w fun e w' => e = .returned (.tuple #[.pointer (some ⟨e0.1.x, 0, none⟩), .bool true]) ∧ Below w.heap.size w w' := by
  have HI := Lib.hid (find_any base x A c es N F q w h hn)
  have H := Lib.hid h
  clear h
  obtain ⟨i, e0, hi, hl, he, hq, hk, hf⟩ := rg_at hv
  rw [hi] at HI
  clear hv hi
  refine ⟨i, e0, he, hf, hq, hk, ?_⟩
  clear hq hk hf
  obtain ⟨n, HN⟩ : ∃ n, Hid (es.length = n) := ⟨_, Lib.hid rfl⟩
  have HE := Lib.hid he
  have hlt : decide ((i : Int) < 0) = false := decide_eq_false (by omega)
  rw [HN.out] at hn hl
  clear he
  go_enter Tryz.func46, Tryz.ntmps46
  go_wp2_with fail
  refine HI.out.mono ?_
  rintro e w1 ⟨rfl, hb⟩
  have HB := Lib.hid hb
  have H1 := Lib.hid (H.out.step hb)
  clear hb
  have hc0 := H1.out.c0
  rw [HN.out] at hc0
  obtain ⟨g, e1, rfl, _, hg, he1, _, _, _, hc1, _⟩ := H1.out.at_ (i := i) (by rw [HN.out]; exact hl)
  rw [HE.out] at he1
  injection he1 with he1
  subst he1
  clear hg
  go_wp2_with fail
  go_ret2
  exact ⟨rfl, HB.out⟩
/-! Newest. -/
end Go.Proofs.YthllaoeioddddaaGreat

/- Layer 19: isSeq, New, Seqs, add, Install, Retire, Clone of a ring. Condition: what is said of the ring. -/
namespace Go.Proofs.YthllaoeioddddaaGreat
open Go.RowKit
set_option linter.unusedVariables false
set_option linter.unusedSimpArgs false

def isSq (q : Int) : Bool := decide (0 ≤ q ∧ q ≤ 127)
set_option maxRecDepth 100000 in
set_option maxHeartbeats 2000000 in
theorem isSeq_any (q : Int) (w : World) : Calls Tryz.prog 57 #[.int .i64 q] w fun e w' => e = .returned (.bool (isSq q)) ∧ w = w' := by
  by_cases h0 : 0 ≤ q
  · have d0 : decide (q ≥ 0) = true := decide_eq_true h0
    by_cases h1 : q ≤ 127
    · have d1 : decide (q ≤ 127) = true := decide_eq_true h1
      rw [show isSq q = true by unfold isSq; exact decide_eq_true ⟨h0, h1⟩]
      go_enter Tryz.func57, Tryz.ntmps57
      go_wp2_with fail
      go_ret
      exact ⟨rfl, rfl⟩
    · have d1 : decide (q ≤ 127) = false := decide_eq_false h1
      rw [show isSq q = false by unfold isSq; exact decide_eq_false (fun e => h1 e.2)]
      go_enter Tryz.func57, Tryz.ntmps57
      go_wp2_with fail
      go_ret
      exact ⟨rfl, rfl⟩
  · have d0 : decide (q ≥ 0) = false := decide_eq_false h0
    rw [show isSq q = false by unfold isSq; exact decide_eq_false (fun e => h0 e.1)]
    go_enter Tryz.func57, Tryz.ntmps57
    go_wp2_with fail
    go_ret
    exact ⟨rfl, rfl⟩
/-- A ring without keys. -/
theorem Rn.new {w w' : World} {x : Nat} (h : Blk 102 w' x [.slice none 0 0]) (hx : w.heap.size ≤ x) (N F : Nat) : Rn w.heap.size w' x none 0 [] N F :=
  ⟨h, Grd.nil_ _ _ _ _, fun e he => (by cases he), List.Pairwise.nil, hx⟩
set_option maxRecDepth 100000 in
set_option maxHeartbeats 2000000 in
theorem rnew_any (w : World) : Calls Tryz.prog 30 #[] w fun e w' => ∃ x, e = .returned (.pointer (some ⟨x, 0, none⟩)) ∧ Below w.heap.size w w' ∧ Rn w.heap.size w' x none 0 [] 1 0 := by
  have h := Blk.new w 102 [.slice none 0 0] _ rfl
  go_enter Tryz.func30, Tryz.ntmps30
  go_wp2_with fail
  go_ret
  exact ⟨_, rfl, below_alloc _ _, Rn.new h (Nat.le_refl _) 1 0⟩
/-! Seqs. -/
/-! add. -/
theorem bld_en (p : Option Addr) (q : Int) (l : List UInt8) (hl : l.length = 16) : Tryz.prog.built 99 [(0, .pointer p), (1, .int .i64 q), (2, .agg (bvs l).toArray)] = some (.pointer p :: .int .i64 q :: bvs l).toArray := by
  match l, hl with
  | [a0, a1, a2, a3, a4, a5, a6, a7, a8, a9, b0, b1, b2, b3, b4, b5], _ => show Tryz.prog.built _ _ = _; kernel_rfl
noncomputable def bldE (a b c : Value) (w : World) : Result Next := Sem.run Tryz.prog (do let r ← Instr.build 99 #[(0, a), (1, b), (2, c)]; pure (Next.value r)) w
theorem ex_blE (ev : Operand → Value) (x y z : Operand) (d : Option Tmp) (ty : TypeId) (ps : String) (af : Array Edge) (g : Option (Nat × Bool)) (w : World) : (execOp ev ⟨d, .build 99 #[(0, x), (1, y), (2, z)], ty, ps, af, g⟩).run Tryz.prog w = bldE (ev x) (ev y) (ev z) w := by
  unfold bldE execOp
  simp only [List.map_toArray, List.map_cons, List.map_nil]
theorem ex_ldK (ev : Operand → Value) (x : Operand) (d : Option Tmp) (ty : TypeId) (ps : String) (af : Array Edge) (g : Option (Nat × Bool)) (w : World) : (execOp ev ⟨d, .load 97 x, ty, ps, af, g⟩).run Tryz.prog w = ldHd 97 (ev x) w := rfl
theorem bl_en (p : Option Addr) (q : Int) (l : List UInt8) (hl : l.length = 16) (w : World) : bldE (.pointer p) (.int .i64 q) (.agg (bvs l).toArray) w = .ok (.value (.agg (.pointer p :: .int .i64 q :: bvs l).toArray)) w := by
  unfold bldE
  simp only [Sem.run_bind, run_build w _ #[(0, .pointer p), (1, .int .i64 q), (2, .agg (bvs l).toArray)] _ (bld_en p q l hl), Result.andThen_ok, Sem.run_pure]
noncomputable def bsE (a : Value) (w : World) : Result Next := Sem.run Tryz.prog (do let r ← Instr.buildSlice 100 1 #[(0, a)]; pure (Next.value r)) w
theorem ex_bsE (ev : Operand → Value) (x : Operand) (d : Option Tmp) (ty : TypeId) (ps : String) (af : Array Edge) (g : Option (Nat × Bool)) (w : World) : (execOp ev ⟨d, .buildSlice 100 1 #[(0, x)], ty, ps, af, g⟩).run Tryz.prog w = bsE (ev x) w := by
  unfold bsE execOp
  simp only [List.map_toArray, List.map_cons, List.map_nil]
theorem bs_en (p : Option Addr) (q : Int) (l : List UInt8) (hl : l.length = 16) (w : World) : bsE (.agg (.pointer p :: .int .i64 q :: bvs l).toArray) w = .ok (.value (.slice (some ⟨w.heap.size, 0, none⟩) 1 1)) (w.alloc (.cells (.pointer p :: .int .i64 q :: bvs l).toArray 99)) := by
  obtain ⟨i0, hi0, hz0, hz1, _⟩ := gt_en.parts
  have hf : Instr.fill (fun i => some (i * i0.size, i0.size)) ((Array.range (1 * i0.size)).map ((Value.agg zEn.toArray).cells[· % (Value.agg zEn.toArray).cells.size]!)) [(0, .agg (.pointer p :: .int .i64 q :: bvs l).toArray)] = some (.pointer p :: .int .i64 q :: bvs l).toArray := by
    rw [hz1]
    match l, hl with
    | [a0, a1, a2, a3, a4, a5, a6, a7, a8, a9, b0, b1, b2, b3, b4, b5], _ => show Instr.fill _ _ _ = _; kernel_rfl
  have hr := run_buildSlice (P := Tryz.prog) w 100 99 1 #[(0, .agg (.pointer p :: .int .i64 q :: bvs l).toArray)] _ i0 _ Tryz.underlying100 hi0 hz0 (by rw [hz1, zEn_len]; decide) (by rw [hz1, zEn_len]; decide) hf
  unfold bsE
  simp only [Sem.run_bind, hr, Result.andThen_ok, Sem.run_pure]
theorem rt_key : RT 97 (bvs (List.replicate 16 0)) := ⟨row_of (by kernel_rfl), by kernel_rfl⟩
theorem bvs_len (l : List UInt8) : (bvs l).length = l.length := by simp [bvs]
/-- append's answer hangs on no type that is handed on. -/
theorem app_ty (ts : Array TypeId) (ty ty' : TypeId) (a : Array Value) : Builtin.append_ ts ty a = Builtin.append_ ts ty' a := rfl
theorem rb_blk {T : TypeId} {w : World} {q : Nat} {l : List UInt8} (k : Blk T w q (bvs l)) : RB w w.heap.size (some ⟨q, 0, none⟩) l.length l :=
  ⟨rfl, fun _ => ⟨q, 0, rfl, k.lt, fun i hi => by rw [Nat.zero_add, k.cell]; simp only [bvs, List.getElem?_map, List.getElem?_eq_getElem hi, Option.map_some]⟩⟩
/-- What a call leaves that puts an entry more, or takes one away, or neither: the blocks that it changes are the ring's and its row's. -/
def RetRn (base x : Nat) (A : Option Addr) (es : Ens) (N F : Nat) (s : Rg) (w w' : World) : Prop :=
  ∃ (A' : Option Addr) (c' : Nat) (es' : Ens), Rn base w' x A' c' es' N F ∧ rgE es' = s ∧ Oth (x :: blkO A) w w' ∧ (∀ e ∈ es', e ∈ es ∨ w.heap.size ≤ e.1.L) ∧ (∀ g ∈ blkO A', g ∈ blkO A ∨ w.heap.size ≤ g)
attribute [local go_sem ↓] ex_blE ex_ldK ex_bsE
set_option maxRecDepth 100000 in
set_option maxHeartbeats 8000000 in
theorem add_any (base : Nat) (x : Nat) (A : Option Addr) (c : Nat) (es : Ens) (N F : Nat) (q : Int) (l : List UInt8) (w : World) (h : Rn base w x A c es N F) (hn : es.length ≤ 1000) (hl : l.length = 16) (h1 : 1 ≤ N) (hbw : base ≤ w.heap.size) :
    Calls Tryz.prog 61 #[.pointer (some ⟨x, 0, none⟩), .int .i64 q, .agg (bvs l).toArray] w fun e w' => e = .returned (.tuple #[]) ∧ RetRn base x A es N F (rgE es ++ [(q, l)]) w w' := by
  have H := Lib.hid h
  have HNN := Lib.hid (And.intro hn (And.intro h1 hbw))
  obtain ⟨n, HN⟩ : ∃ n, Hid (es.length = n) := ⟨_, Lib.hid rfl⟩
  have HL := Lib.hid hl
  clear h hl h1 hbw hn
  go_enter Tryz.func61, Tryz.ntmps61
  go_wp2_with (first
    | (refine wpList_boxB rfl 97 (.tmp 2) rfl (bvs l) rfl ?_; intro w1 g1 k1 hb1 hg1; have K1 := Lib.hid k1; have HB1 := Lib.hid (And.intro hb1 hg1); clear k1 hb1 hg1))
  refine (gnew2_any (some ⟨g1, 0, none⟩) 16 l w1 (by have := rb_blk K1.out; rw [HL.out] at this; exact this) (Nat.le_refl _)).mono ?_
  intro e w2 hr
  obtain ⟨b, rfl, hbk, hb2, hbL, hbH, hbo⟩ := EB.of_new hr
  have K2 := Lib.hid (K1.out.step hb2)
  have HB2 := Lib.hid (bel_next HB1.out.1 hb2)
  have H2 := Lib.hid (H.out.step HB2.out)
  have HBO := Lib.hid (And.intro hbk (And.intro hbL (And.intro hbH hbo)))
  have HS1 := Lib.hid HB1.out.1.size
  clear hr hb2 hbk hbL hbH hbo HB1 K1
  -- the append
  obtain ⟨A', c', W, hrun, hG, hO, hA'⟩ := run_appG gt_en 0 (d := 1) (H2.out.grd.step ((Below.refl _ _).drew.trans (below_alloc w2.drew (.cells (enR (b, q)).toArray 99)))) (by
    have := RdG.lit1 99 w2.drew (enR (b, q)) (enR_one _)
    rw [enR_len (by show b.key.length = 16; rw [HBO.out.1]; exact HL.out)] at this
    exact this) (by have := HNN.out.1; omega) (by omega) (Nat.le_trans HNN.out.2.2 (Nat.le_trans HB2.out.size (by simp)))
  rw [HN.out] at hrun
  have HRUN : Hid (∀ ty, (Builtin.append_ #[100, 100] ty #[.slice A n c, .slice (some ⟨w2.heap.size, 0, none⟩) 1 1]).run Tryz.prog (w2.drew.alloc (.cells (enR (b, q)).toArray 99)) = .ok (.slice A' (n + 1) c') W) := Lib.hid (fun ty => by rw [app_ty _ ty 0]; exact hrun)
  have HG := Lib.hid hG
  have HO2 : Hid (Oth (blkO A) w2 W) := Lib.hid ((Oth.of_below ((Below.refl _ _).drew.trans (below_alloc w2.drew _))).trans hO)
  have HA := Lib.hid hA'
  have hxW : Hid (Blk 102 W x [.slice A n c]) := Lib.hid (by
    have := H2.out.blk.oth HO2.out H2.out.nx
    rw [HN.out] at this
    exact this)
  have hcW := hxW.out.cell 0
  have hfW := hxW.out.free 0
  have hcx := H2.out.c0
  rw [HN.out] at hcx
  have hcx2 := ((below_alloc w2 (.cells (Value.pointer (some ⟨b.x, 0, none⟩) :: .int .i64 q :: bvs l).toArray 99)).cell (p := ⟨x, 0, none⟩) H2.out.blk.lt).trans hcx
  have hld : ∀ W : World, W.heap = w2.heap → ldHd 97 (.pointer (some ⟨g1, 0, none⟩)) W = .ok (.value (.agg (bvs l).toArray)) W := fun W e => ldB_m rt_key (T' := 97) (cs := bvs l) (by unfold Blk; rw [e]; exact K2.out) (by rw [List.drop_zero]; exact List.take_of_length_le (by simp [bvs, HL.out])) (by simp [bvs, HL.out])
  have hl1 := hld w2.drew rfl
  have hbe := bl_en (some ⟨b.x, 0, none⟩) q l HL.out
  have hbs := bs_en (some ⟨b.x, 0, none⟩) q l HL.out
  have hen : enR (b, q) = .pointer (some ⟨b.x, 0, none⟩) :: .int .i64 q :: bvs l := by unfold enR; rw [show (b, q).1.key = l from HBO.out.1]
  rw [hen] at HRUN
  clear hen hrun hG hO hA' hld
  have HEND : Hid (RetRn base x A es N F (rgE es ++ [(q, l)]) w (W.setCell ⟨x, 0, none⟩ (.slice A' (n + 1) c'))) := Lib.hid (by
    refine ⟨A', c', es ++ [(b, q)], ?_, ?_, ?_, ?_, ?_⟩
    · have hn1 : (es ++ [(b, q)]).length = n + 1 := by rw [List.length_append, HN.out]; rfl
      have hox : Oth [x] W (W.setCell ⟨x, 0, none⟩ (.slice A' (n + 1) c')) := (Oth.refl [x] W).set (by simp) 0 _
      have hxA : x ∉ blkO A' := HG.out.away hxW.out (by decide)
      have hall : Oth (x :: blkO A) w2 (W.setCell ⟨x, 0, none⟩ (.slice A' (n + 1) c')) := (HO2.out.more (fun k hk => .tail _ hk)).trans (hox.more (fun k hk => by rw [List.mem_singleton.1 hk]; exact .head _))
      have hxlt : x < w.heap.size := H.out.blk.lt
      have hbL : w.heap.size ≤ b.L := by rw [HBO.out.2.1]; exact HS1.out
      have hnew : ∀ g ∈ blkO A', g ∈ blkO A ∨ w2.heap.size ≤ g := fun g hg => (HA.out g hg).imp id (fun k => by simp at k; omega)
      refine ⟨?_, ?_, fun e he => ?_, ?_, H.out.low⟩
      · rw [hn1]; exact hxW.out.set 0 _
      · show Grd _ 18 _ base A' (es ++ [(b, q)]).length c' ((es ++ [(b, q)]).map enR)
        have hG1 := HG.out
        rw [HN.out] at hG1
        rw [hn1, List.map_append]
        exact hG1.oth hox (fun g hg hm => hxA (by rw [List.mem_singleton] at hm; rw [← hm]; exact hg))
      · rcases List.mem_append.1 he with he | he
        · obtain ⟨o1, o2, o3, o4, o5⟩ := H2.out.ok e he
          refine ⟨o1.off hall (fun g hg => ?_), o2, o3, o4, fun g hg => ?_⟩
          · rcases List.mem_cons.1 hg with rfl | hg
            · exact o4
            · exact o5 g hg
          · rcases hnew g hg with hg | hg
            · exact o5 g hg
            · exact .inr (Nat.le_trans o1.le hg)
        · rw [List.mem_singleton.1 he]
          have hlow : ∀ g ∈ x :: blkO A, b.out g := fun g hg => by
            refine .inl (Nat.lt_of_lt_of_le ?_ hbL)
            rcases List.mem_cons.1 hg with rfl | hg
            · exact hxlt
            · exact (H.out.grd.lt g hg).2
          refine ⟨(HBO.out.2.2.2.off hall hlow).up HNN.out.2.1 (Nat.zero_le _), by show b.key.length = 16; rw [HBO.out.1]; exact HL.out, Nat.le_trans HNN.out.2.2 hbL, hlow x (.head _), fun g hg => ?_⟩
          rcases hnew g hg with hg | hg
          · exact hlow g (.tail _ hg)
          · exact .inr (by rw [HBO.out.2.2.1]; exact hg)
      · refine List.pairwise_append.2 ⟨H.out.pw, List.pairwise_singleton _ _, fun a ha c hc => ?_⟩
        rw [List.mem_singleton.1 hc]
        exact Nat.le_trans (H.out.ok a ha).1.le hbL
    · unfold rgE; rw [List.map_append]; show _ ++ [((b, q).2, (b, q).1.key)] = _; rw [show (b, q).1.key = l from HBO.out.1]
    · have hox : Oth [x] W (W.setCell ⟨x, 0, none⟩ (.slice A' (n + 1) c')) := (Oth.refl [x] W).set (by simp) 0 _
      exact ((Oth.of_below HB2.out).trans (HO2.out.more (fun k hk => .tail _ hk))).trans (hox.more (fun k hk => by rw [List.mem_singleton.1 hk]; exact .head _))
    · intro e he
      rcases List.mem_append.1 he with he | he
      · exact .inl he
      · right; rw [List.mem_singleton.1 he]; show w.heap.size ≤ b.L; rw [HBO.out.2.1]; exact HS1.out
    · exact fun g hg => (HA.out g hg).imp id (fun k => by have := HB2.out.size; simp at k; omega))
  clear HG HO2 HA HBO K2
  go_wp2_with fail
  go_region_law (refine step_run rfl (.tmp 17) (.tmp 22) 100 rfl _ _ _ rfl rfl HRUN.out ?_)
  all_goals (go_wp2_with fail; exact ⟨rfl, _, results_none rfl _ _ _, rfl, HEND.out⟩)
end Go.Proofs.YthllaoeioddddaaGreat

/- Layer 19: Install, Retire, Clone of a ring. Condition: what is said of the ring. -/
namespace Go.Proofs.YthllaoeioddddaaGreat
open Go.RowKit
set_option linter.unusedVariables false
set_option linter.unusedSimpArgs false
theorem sq_yes {q : Int} (h : isSq q = true) : 0 ≤ q ∧ q ≤ 127 := by unfold isSq at h; exact of_decide_eq_true h
theorem sq_no {q : Int} (h : isSq q = false) : ¬ (0 ≤ q ∧ q ≤ 127) := by unfold isSq at h; exact of_decide_eq_false h
section
variable {s : Rg} {q : Int} {k : List UInt8}
theorem inst_range (h : isSq q = false) : instR s q k = (s, 11) := by unfold instR; rw [if_pos (fun e => sq_no h ⟨e.1, e.2.1⟩)]
theorem inst_size (h : k.length ≠ 16) : instR s q k = (s, 11) := by unfold instR; rw [if_pos (fun e => h e.2.2)]
theorem inst_there (h : isSq q = true) (hk : k.length = 16) (hh : hasR s q = true) : instR s q k = (s, 16) := by
  unfold instR; rw [if_neg (fun e => e ⟨(sq_yes h).1, (sq_yes h).2, hk⟩), if_pos hh]
theorem inst_full (h : isSq q = true) (hk : k.length = 16) (hh : hasR s q = false) (hl : s.length = 16) : instR s q k = (s, 18) := by
  unfold instR; rw [if_neg (fun e => e ⟨(sq_yes h).1, (sq_yes h).2, hk⟩), if_neg (by rw [hh]; decide), if_pos hl]
theorem inst_done (h : isSq q = true) (hk : k.length = 16) (hh : hasR s q = false) (hl : s.length ≠ 16) : instR s q k = (s ++ [(q, k)], 0) := by
  unfold instR; rw [if_neg (fun e => e ⟨(sq_yes h).1, (sq_yes h).2, hk⟩), if_neg (by rw [hh]; decide), if_neg hl]
theorem ret_range (h : isSq q = false) : retR s q = (s, 11) := by unfold retR; rw [if_pos (sq_no h)]
theorem ret_gone (h : isSq q = true) (hh : hasR s q = false) : retR s q = (s, 17) := by
  unfold retR; rw [if_neg (fun e => e (sq_yes h)), if_neg (by rw [hh]; decide)]
theorem ret_done (h : isSq q = true) {i : Nat} (hf : findR s q = some i) : retR s q = (s.eraseIdx i, 0) := by
  have hh : hasR s q = true := by unfold hasR; rw [hf]; rfl
  unfold retR; rw [if_neg (fun e => e (sq_yes h)), if_pos hh, hf]; rfl
end
theorem RetRn.same {base x : Nat} {A : Option Addr} {c : Nat} {es : Ens} {N F : Nat} {w w' : World} (h : Rn base w x A c es N F) (hb : Below w.heap.size w w') : RetRn base x A es N F (rgE es) w w' :=
  ⟨A, c, es, h.step hb, rfl, Oth.of_below hb, fun e he => .inl he, fun g hg => .inl hg⟩
theorem RetRn.later {base x : Nat} {A : Option Addr} {es : Ens} {N F : Nat} {s : Rg} {w w1 w' : World} (hb : Below w.heap.size w w1) (h : RetRn base x A es N F s w1 w') : RetRn base x A es N F s w w' := by
  obtain ⟨A', c', es', h1, h2, h3, h4, h5⟩ := h
  exact ⟨A', c', es', h1, h2, (Oth.of_below hb).trans h3, fun e he => (h4 e he).imp id (fun k => Nat.le_trans hb.size k), fun g hg => (h5 g hg).imp id (fun k => Nat.le_trans hb.size k)⟩
theorem rb_range {w : World} {b o n : Nat} {l : List UInt8} (h : RB w w.heap.size (some ⟨b, o, none⟩) n l) (hn : 0 < n) : w.rangeAt b o (bvs l) := fun j v hv => by
  obtain ⟨b', o', e, _, hc⟩ := h.2 hn
  injection e with e
  injection e with e1 e2
  subst e1; subst e2
  have hj : j < l.length := by have := (List.getElem?_eq_some_iff.1 hv).1; simpa [bvs] using this
  rw [hc j hj, ← hv]
  simp [bvs, hj]
set_option maxRecDepth 100000 in
set_option maxHeartbeats 8000000 in
theorem install_any (base : Nat) (x : Nat) (A : Option Addr) (c : Nat) (es : Ens) (N F : Nat) (q : Int) (K : Option Addr) (m d : Nat) (l : List UInt8) (w : World) (h : Rn base w x A c es N F) (hn : es.length ≤ 16) (hk : RB w w.heap.size K m l) (hd : m ≤ d) (h1 : 1 ≤ N) (hbw : base ≤ w.heap.size) :
    Calls Tryz.prog 31 #[.pointer (some ⟨x, 0, none⟩), .int .i64 q, .slice K m d] w fun e w' => e = .returned (.int .i64 (instR (rgE es) q l).2) ∧ RetRn base x A es N F (instR (rgE es) q l).1 w w' := by
  have H := Lib.hid h
  have HK := Lib.hid hk
  have hlen := hk.len
  have HNN := Lib.hid (And.intro h1 hbw)
  obtain ⟨n, HN⟩ : ∃ n, Hid (es.length = n) := ⟨_, Lib.hid rfl⟩
  have HS := isSeq_any q
  have HI := Lib.hid (find_any base x A c es N F q w h (by omega))
  have hn2 : n ≤ 16 := by rw [← HN.out]; exact hn
  clear h hk h1 hbw hn
  cases hs : isSq q
  · rw [inst_range hs]
    rw [hs] at HS
    have HSS := Lib.hid HS
    clear hs HS
    go_enter Tryz.func31, Tryz.ntmps31
    go_wp2_with fail
    refine (HSS.out _).mono ?_
    rintro e w1 ⟨rfl, rfl⟩
    go_wp2_with fail
    go_ret
    exact ⟨rfl, RetRn.same H.out (Below.refl _ _)⟩
  · rw [hs] at HS
    have HSS := Lib.hid HS
    by_cases hm : m = 16
    · subst hm
      obtain ⟨b, o, rfl⟩ : ∃ b o, K = some ⟨b, o, none⟩ := by obtain ⟨b, o, e, _⟩ := HK.out.2 (by omega); exact ⟨b, o, e⟩
      cases hv : hasR (rgE es) q
      · rw [idx_neg hv] at HI
        by_cases hl : n = 16
        · rw [inst_full hs hlen hv (by rw [rg_len, HN.out]; exact hl)]
          subst hl
          clear hs HS hv
          go_enter Tryz.func31, Tryz.ntmps31
          go_wp2_with fail
          refine (HSS.out _).mono ?_
          rintro e w1 ⟨rfl, rfl⟩
          go_wp2_with fail
          refine HI.out.mono ?_
          rintro e w1 ⟨rfl, hb⟩
          have HB := Lib.hid hb
          have hc0 := (H.out.step hb).c0
          rw [HN.out] at hc0
          clear hb
          go_wp2_with fail
          go_ret
          exact ⟨rfl, RetRn.same H.out HB.out⟩
        · rw [inst_done hs hlen hv (by rw [rg_len, HN.out]; exact hl)]
          have hge : decide ((n : Int) ≥ 16) = false := decide_eq_false (by omega)
          have harr : ∀ W : World, (Instr.arrayAt 97 (.slice (some ⟨b, o, none⟩) 16 d)).run Tryz.prog W = .ok (.pointer (some ⟨b, o, none⟩)) W := fun W => run_arrayAt (P := Tryz.prog) W 97 _ 16 _ 16 d Tryz.underlying97 (Nat.le_refl _)
          clear hs HS hv
          go_enter Tryz.func31, Tryz.ntmps31
          go_wp2_with fail
          refine (HSS.out _).mono ?_
          rintro e w1 ⟨rfl, rfl⟩
          go_wp2_with fail
          refine HI.out.mono ?_
          rintro e w1 ⟨rfl, hb⟩
          have HB := Lib.hid hb
          have H1 := Lib.hid (H.out.step hb)
          have hc0 := H1.out.c0
          rw [HN.out] at hc0
          have HR := Lib.hid (rb_range (HK.out.step hb) (by omega))
          clear hb
          go_wp2_with (first
            | (refine wpList_ldR rt_key rfl (.tmp 28) rfl b o rfl (bvs l) HR.out (by rw [bvs_len, hlen]; rfl) ?_))
          refine (add_any base x A c es N F q l w1 (by exact H1.out) (by rw [HN.out]; omega) hlen HNN.out.1 (Nat.le_trans HNN.out.2 HB.out.size)).mono ?_
          rintro e w2 ⟨rfl, hr⟩
          have HR2 := Lib.hid (hr.later HB.out)
          clear hr
          go_wp2_with fail
          go_ret
          exact ⟨rfl, HR2.out⟩
      · rw [inst_there hs hlen hv]
        obtain ⟨i, hi, _, _⟩ := idx_pos hv
        rw [hi] at HI
        have hge : decide ((i : Int) ≥ 0) = true := decide_eq_true (by omega)
        clear hs HS hv hi
        go_enter Tryz.func31, Tryz.ntmps31
        go_wp2_with fail
        refine (HSS.out _).mono ?_
        rintro e w1 ⟨rfl, rfl⟩
        go_wp2_with fail
        refine HI.out.mono ?_
        rintro e w1 ⟨rfl, hb⟩
        have HB := Lib.hid hb
        clear hb
        go_wp2_with fail
        go_ret
        exact ⟨rfl, RetRn.same H.out HB.out⟩
    · rw [inst_size (by omega)]
      have hne : ((m : Int) == 16) = false := by rw [beq_eq_false_iff_ne]; omega
      have hne2 : ((m : Int) != 16) = true := by simp [bne, hne]
      clear hs HS
      go_enter Tryz.func31, Tryz.ntmps31
      go_wp2_with fail
      refine (HSS.out _).mono ?_
      rintro e w1 ⟨rfl, rfl⟩
      go_wp2_with fail
      go_ret
      exact ⟨rfl, RetRn.same H.out (Below.refl _ _)⟩
/-- What Retire leaves: the row lies where it lay. -/
def RetRnA (base x : Nat) (A : Option Addr) (es : Ens) (N F : Nat) (s : Rg) (w w' : World) : Prop :=
  ∃ (c' : Nat) (es' : Ens), Rn base w' x A c' es' N F ∧ rgE es' = s ∧ Oth (x :: blkO A) w w' ∧ ∀ e ∈ es', e ∈ es
theorem RetRnA.all {base x : Nat} {A : Option Addr} {es : Ens} {N F : Nat} {s : Rg} {w w' : World} (h : RetRnA base x A es N F s w w') : RetRn base x A es N F s w w' := by
  obtain ⟨c', es', h1, h2, h3, h4⟩ := h
  exact ⟨A, c', es', h1, h2, h3, fun e he => .inl (h4 e he), fun g hg => .inl hg⟩
theorem RetRnA.same {base x : Nat} {A : Option Addr} {c : Nat} {es : Ens} {N F : Nat} {w w' : World} (h : Rn base w x A c es N F) (hb : Below w.heap.size w w') : RetRnA base x A es N F (rgE es) w w' :=
  ⟨c, es, h.step hb, rfl, Oth.of_below hb, fun e he => he⟩
/-- One entry is gone. -/
theorem RetRnA.cut {base x : Nat} {A : Option Addr} {c : Nat} {es : Ens} {N F i n : Nat} {w w1 W : World} (h : Rn base w1 x A c es N F) (hb : Below w.heap.size w w1) (hi : i < es.length) (hn : es.length = n) (hg : Grd 99 18 W base A (n - 1) c ((es.map enR).eraseIdx i)) (ho : Oth (blkO A) w1 W) :
    RetRnA base x A es N F ((rgE es).eraseIdx i) w (W.setCell ⟨x, 0, none⟩ (.slice A (n - 1) c)) := by
  have hl : (es.eraseIdx i).length = n - 1 := by rw [List.length_eraseIdx_of_lt hi, hn]
  have hox : Oth [x] W (W.setCell ⟨x, 0, none⟩ (.slice A (n - 1) c)) := (Oth.refl [x] W).set (by simp) 0 _
  have hall : Oth (x :: blkO A) w1 (W.setCell ⟨x, 0, none⟩ (.slice A (n - 1) c)) := (ho.more (fun k hk => .tail _ hk)).trans (hox.more (fun k hk => by rw [List.mem_singleton.1 hk]; exact .head _))
  have hx := h.blk.oth ho h.nx
  have hmem : ∀ e ∈ es.eraseIdx i, e ∈ es := fun e he => List.mem_of_mem_eraseIdx he
  refine ⟨c, es.eraseIdx i, ⟨?_, ?_, fun e he => ?_, h.pw.sublist (List.eraseIdx_sublist _ _), h.low⟩, ?_, (Oth.of_below hb).trans hall, hmem⟩
  · rw [hl]; exact hx.set 0 _
  · show Grd _ 18 _ base A (es.eraseIdx i).length c ((es.eraseIdx i).map enR)
    rw [hl, show (es.eraseIdx i).map enR = (es.map enR).eraseIdx i by simp only [List.eraseIdx_eq_take_drop_succ, List.map_append, List.map_take, List.map_drop]]
    exact hg.oth hox (fun g hg' hm => h.nx (by rw [List.mem_singleton] at hm; rw [← hm]; exact hg'))
  · obtain ⟨o1, o2, o3, o4, o5⟩ := h.ok e (hmem e he)
    refine ⟨o1.off hall (fun g hg => ?_), o2, o3, o4, o5⟩
    rcases List.mem_cons.1 hg with rfl | hg
    · exact o4
    · exact o5 g hg
  · unfold rgE; simp only [List.eraseIdx_eq_take_drop_succ, List.map_append, List.map_take, List.map_drop]
set_option maxRecDepth 100000 in
set_option maxHeartbeats 8000000 in
theorem retire2_any (base : Nat) (x : Nat) (A : Option Addr) (c : Nat) (es : Ens) (N F : Nat) (q : Int) (w : World) (h : Rn base w x A c es N F) (hn : es.length ≤ 16) :
    Calls Tryz.prog 28 #[.pointer (some ⟨x, 0, none⟩), .int .i64 q] w fun e w' => e = .returned (.int .i64 (retR (rgE es) q).2) ∧ RetRnA base x A es N F (retR (rgE es) q).1 w w' := by
  have H := Lib.hid h
  obtain ⟨n, HN⟩ : ∃ n, Hid (es.length = n) := ⟨_, Lib.hid rfl⟩
  have HS := isSeq_any q
  have HI := Lib.hid (find_any base x A c es N F q w h (by omega))
  have hn2 : n ≤ 16 := by rw [← HN.out]; exact hn
  clear h hn
  cases hs : isSq q
  · rw [ret_range hs]
    rw [hs] at HS
    have HSS := Lib.hid HS
    clear hs HS
    go_enter Tryz.func28, Tryz.ntmps28
    go_wp2_with fail
    refine (HSS.out _).mono ?_
    rintro e w1 ⟨rfl, rfl⟩
    go_wp2_with fail
    go_ret
    exact ⟨rfl, RetRnA.same H.out (Below.refl _ _)⟩
  · rw [hs] at HS
    have HSS := Lib.hid HS
    cases hv : hasR (rgE es) q
    · rw [idx_neg hv] at HI
      rw [ret_gone hs hv]
      clear hs HS hv
      go_enter Tryz.func28, Tryz.ntmps28
      go_wp2_with fail
      refine (HSS.out _).mono ?_
      rintro e w1 ⟨rfl, rfl⟩
      go_wp2_with fail
      refine HI.out.mono ?_
      rintro e w1 ⟨rfl, hb⟩
      have HB := Lib.hid hb
      clear hb
      go_wp2_with fail
      go_ret
      exact ⟨rfl, RetRnA.same H.out HB.out⟩
    · obtain ⟨i, hi, hf, hl⟩ := idx_pos hv
      rw [hi] at HI
      rw [ret_done hs hf]
      rw [rg_len, HN.out] at hl
      have hge : decide ((i : Int) < 0) = false := decide_eq_false (by omega)
      clear hs HS hv hi hf
      go_enter Tryz.func28, Tryz.ntmps28
      go_wp2_with fail
      refine (HSS.out _).mono ?_
      rintro e w1 ⟨rfl, rfl⟩
      go_wp2_with fail
      refine HI.out.mono ?_
      rintro e w1 ⟨rfl, hb⟩
      have HB := Lib.hid hb
      have H1 := Lib.hid (H.out.step hb)
      have hc0 := H1.out.c0
      rw [HN.out] at hc0
      clear hb
      go_wp2_with fail
      refine (del_any base A n c i _ (es.map enR) w1 (by have := H1.out.grd; unfold GE at this; rw [HN.out] at this; exact this) hl (by omega) (by first | rfl | simp)).mono ?_
      rintro e W ⟨rfl, hg, ho⟩
      have HR := Lib.hid (RetRnA.cut H1.out HB.out (by rw [HN.out]; exact hl) HN.out hg ho)
      have hcW := (H1.out.blk.oth ho H1.out.nx).cell 0
      rw [HN.out] at hcW
      have hcW2 : W.cell? ⟨x, 0, none⟩ = some (.slice A n c) := hcW
      have hfW := (H1.out.blk.oth ho H1.out.nx).free 0
      clear hg ho hcW
      go_wp2_with fail
      go_ret
      exact ⟨rfl, HR.out⟩
theorem retire_any (base : Nat) (x : Nat) (A : Option Addr) (c : Nat) (es : Ens) (N F : Nat) (q : Int) (w : World) (h : Rn base w x A c es N F) (hn : es.length ≤ 16) :
    Calls Tryz.prog 28 #[.pointer (some ⟨x, 0, none⟩), .int .i64 q] w fun e w' => e = .returned (.int .i64 (retR (rgE es) q).2) ∧ RetRn base x A es N F (retR (rgE es) q).1 w w' :=
  (retire2_any base x A c es N F q w h hn).mono fun e w' k => ⟨k.1, k.2.all⟩
/-! Clone. -/
end Go.Proofs.YthllaoeioddddaaGreat

