/- Layer 18: what a walk of a statement carries; rows of calls in memory; many calls, plain. No condition; nothing is claimed of the program here. -/
import Derived.Test.YtkcchidklcnnnaaGreatSlD
import Derived.Test.YtkcchidklcnnnaaGreatSlT
import Derived.Test.YtkcchidklcnnnaaGreatSlG
import Derived.Test.YtkcchidklcnnnaaGreatCdV
import Derived.Test.YtkcchidklcnnnaaGreatUseBytes
namespace Go.Proofs.YtkcchidklcnnnaaGreat
open Go.RowKit
set_option linter.unusedVariables false
set_option linter.unusedSimpArgs false
/-! Many calls. -/
/-- A row of calls, one after another. -/
def allS (s : Sl) (ks : List Cl) : Sl := ks.foldl (fun s k => (doS s k).1) s
theorem all_nil (s : Sl) : allS s [] = s := rfl
theorem all_snoc (s : Sl) (ks : List Cl) (k : Cl) : allS s (ks ++ [k]) = (doS (allS s ks) k).1 := by unfold allS; rw [List.foldl_append]; rfl
theorem all_ok {ks : List Cl} (h : ∀ k ∈ ks, k.ok) : ∀ s : Sl, s.ok → (allS s ks).ok := by
  induction ks with
  | nil => intro s hs; exact hs
  | cons k ks ih => intro s hs; exact ih (fun j hj => h j (.tail _ hj)) _ (do_ok hs (h k (.head _)))
theorem all_n (ks : List Cl) : ∀ s : Sl, (allS s ks).n ≤ s.n + ks.length := by
  induction ks with
  | nil => intro s; exact Nat.le_refl _
  | cons k ks ih =>
    intro s
    have h1 := ih (doS s k).1
    have h2 := do_n s k
    rw [List.length_cons]
    show (allS (doS s k).1 ks).n ≤ _
    omega
/-- The slots behind the first i calls. -/
def upTo (ks : List Cl) (i : Nat) : Sl := allS zSl (ks.take i)
theorem upTo_0 (ks : List Cl) : upTo ks 0 = zSl := rfl
theorem upTo_next {ks : List Cl} {i : Nat} {k : Cl} (h : ks[i]? = some k) : upTo ks (i + 1) = (doS (upTo ks i) k).1 := by
  unfold upTo
  rw [List.take_add_one, h, ← all_snoc]
  rfl
theorem upTo_ok {ks : List Cl} (h : ∀ k ∈ ks, k.ok) (i : Nat) : (upTo ks i).ok := all_ok (fun k hk => h k (List.mem_of_mem_take hk)) _ zSl_ok
theorem upTo_n (ks : List Cl) (i : Nat) : (upTo ks i).n ≤ ks.length := by
  have h := all_n (ks.take i) zSl
  unfold upTo
  rw [List.length_take] at h
  have : zSl.n = 0 := rfl
  omega
/-! Calls in memory. -/
def CLs (w : World) (B : Nat) (A : Option Addr) (n : Nat) (ks : List Cl) : Prop :=
  ks.length = n ∧ (∀ k ∈ ks, k.ok) ∧ (0 < n → ∃ b o, A = some ⟨b, o, none⟩ ∧ b < B ∧ ∀ (i : Nat) k, ks[i]? = some k → w.rangeAt b (o + i * 21) k.cells)
section
variable {w w' : World} {B n : Nat} {A : Option Addr} {ks : List Cl}
theorem CLs.len (h : CLs w B A n ks) : ks.length = n := h.1
theorem CLs.below (h : CLs w B A n ks) (hb : Below B w w') : CLs w' B A n ks :=
  ⟨h.1, h.2.1, fun hn => by
    obtain ⟨b, o, e, hbb, hc⟩ := h.2.2 hn
    exact ⟨b, o, e, hbb, fun i p hp j v hv => (hb.cell (p := ⟨b, o + i * 21 + j, none⟩) hbb).trans (hc i p hp j v hv)⟩⟩
theorem CLs.at_ {k : Nat} (h : CLs w B A n ks) (hk : k < n) : ∃ b o p, A = some ⟨b, o, none⟩ ∧ b < B ∧ ks[k]? = some p ∧ p.ok ∧ w.rangeAt b (o + k * 21) p.cells := by
  obtain ⟨b, o, e, hb, hc⟩ := h.2.2 (by omega)
  have hl : k < ks.length := by rw [h.1]; exact hk
  exact ⟨b, o, ks[k], e, hb, List.getElem?_eq_getElem hl, h.2.1 _ (List.getElem_mem hl), hc k _ (List.getElem?_eq_getElem hl)⟩
end
theorem ld_at {w : World} {b o : Nat} {k : Cl} (hk : k.ok) (h : w.rangeAt b o k.cells) : ldHd 37 (.pointer (some ⟨b, o, none⟩)) w = .ok (.value k.val) w := by
  obtain ⟨d, hu, hd⟩ := rt_call.row
  have := run_loadAt_mid (P := Tryz.prog) w b o 37 k.cells d h hu hd (by rw [Cl.cells_len hk]; have := rt_call.size; rw [Cl.cells_len zCl_ok] at this; exact this)
  unfold ldHd
  rw [cl_val]
  simp only [Sem.run_bind, this, Result.andThen_ok, Sem.run_pure]
/-! What a walk carries: blocks, rows of its own, rows that are read. -/
structure SG (v : World) (os rows : List (Option Addr × Nat × Nat × List UInt8)) (bs : List (TypeId × Nat × List Value)) (w : World) : Prop where
  vk : VK [] v bs w
  own : ∀ r ∈ os, OwnB w v.heap.size r.1 r.2.1 r.2.2.1 r.2.2.2
  row : ∀ r ∈ rows, RB w w.heap.size r.1 r.2.1 r.2.2.2 ∧ r.2.1 ≤ r.2.2.1 ∧ r.2.2.1 ≤ maxLen
section
variable {v w w1 w' : World} {os rows : List (Option Addr × Nat × Nat × List UInt8)} {bs bs' : List (TypeId × Nat × List Value)} {A B : Option Addr} {n c m d q : Nat} {l r : List UInt8} {T : TypeId} {cs cs0 : List Value}
theorem SG.start (w : World) : SG w [] [] [] w := ⟨VK.start [] w, fun r hr => (by cases hr), fun r hr => (by cases hr)⟩
theorem SG.bel (k : SG v os rows bs w) : Below v.heap.size v w := k.vk.bel
theorem SG.blk (k : SG v os rows bs w) : ∀ b ∈ bs, Blk b.1 w b.2.1 b.2.2 := k.vk.blk
theorem SG.step (k : SG v os rows bs w) (hb : Below w.heap.size w w') : SG v os rows bs w' := ⟨k.vk.step hb, fun r hr => (k.own r hr).below hb, fun r hr => ⟨(k.row r hr).1.step hb, (k.row r hr).2⟩⟩
theorem SG.add (k : SG v os rows bs w) (h : RB w w.heap.size A n l) (h1 : n ≤ c) (h2 : c ≤ maxLen) : SG v os ((A, n, c, l) :: rows) bs w := ⟨k.vk, k.own, fun r hr => by
  rcases List.mem_cons.1 hr with rfl | hr
  · exact ⟨h, h1, h2⟩
  · exact k.row r hr⟩
theorem SG.ret (k : SG v os rows bs w) (hb : Below w.heap.size w w') (ho : OwnB w' w.heap.size A n c l) : SG v ((A, n, c, l) :: os) rows bs w' := ⟨(k.step hb).vk, fun r hr => by
  rcases List.mem_cons.1 hr with rfl | hr
  · exact ho.base_le k.bel.size
  · exact (k.own r hr).below hb, (k.step hb).row⟩
theorem SG.ret2 (k : SG v os rows bs w) (hb : Below w.heap.size w w') (h1 : OwnB w' w.heap.size A n c l) (h2 : OwnB w' w.heap.size B m d r) : SG v ((B, m, d, r) :: (A, n, c, l) :: os) rows bs w' := ⟨(k.step hb).vk, fun r hr => by
  rcases List.mem_cons.1 hr with rfl | hr
  · exact h2.base_le k.bel.size
  rcases List.mem_cons.1 hr with rfl | hr
  · exact h1.base_le k.bel.size
  · exact (k.own r hr).below hb, (k.step hb).row⟩
theorem SG.two (k : SG v os rows bs w) (hb : Below w.heap.size w w') (h1 : RB w' w'.heap.size A n l ∧ n ≤ c ∧ c ≤ maxLen) (h2 : RB w' w'.heap.size B m r ∧ m ≤ d ∧ d ≤ maxLen) : SG v os ((B, m, d, r) :: (A, n, c, l) :: rows) bs w' :=
  ((k.step hb).add h1.1 h1.2.1 h1.2.2).add h2.1 h2.2.1 h2.2.2
theorem SG.new (k : SG v os rows bs w) (hb : Below w.heap.size w w') (hq : w.heap.size ≤ q) (h : Blk T w' q cs) : SG v os rows ((T, q, cs) :: bs) w' := ⟨k.vk.new hb hq h, (k.step hb).own, (k.step hb).row⟩
/-- A variable that is made and stored. -/
theorem SG.var (k : SG v os rows bs w) (hb : Below w.heap.size w w1) (hq : w.heap.size ≤ q) (ho : Oth [q] w1 w') (h : Blk T w' q cs) : SG v os rows ((T, q, cs) :: bs) w' :=
  k.new (hb.trans (ho.below (fun j hj => by rw [List.mem_singleton.1 hj]; exact hq) hb.size)) hq h
/-- A literal row of bytes, as a block. -/
theorem SG.lit (k : SG v os rows bs w) (ls : List UInt8) (ds : Array Value) (hc : ds = (bvs ls).toArray) (a : Nat) (ha : w.heap.size = a) : SG v os rows ((5, a, bvs ls) :: bs) (w.alloc (.cells ds 5)) := by
  subst ha; subst hc
  exact k.new (below_alloc w _) (Nat.le_refl _) (Blk.new w _ (bvs ls) _ rfl)
/-- An object of the walk's own that a call has changed. -/
theorem SG.mut (k : SG v os [] bs w) (i : Nat) (hi : bs[i]? = some (T, q, cs0)) (hT : T ≠ 5) (hq : v.heap.size ≤ q) (ho : Oth [q] w w') (hc : Blk T w' q cs) (e : bs.set i (T, q, cs) = bs') : SG v os [] bs' w' :=
  ⟨k.vk.put i hi (.inr hq) ho hc e, fun r hr => (k.own r hr).offS ho ((k.vk.blk _ (List.mem_of_getElem? hi)).nob hT), fun r hr => (by cases hr)⟩
theorem Oth.swap_ {x y : Nat} (h : Oth [x, y] w w') : Oth [y, x] w w' := h.more (fun k hk => by simp only [List.mem_cons, List.not_mem_nil, or_false] at hk ⊢; exact hk.symm)
/-- Two objects of the walk's own that a call has changed. -/
theorem SG.mut2 {T2 : TypeId} {q2 : Nat} {cs1 cs2 cs3 : List Value} (k : SG v os [] ((T, q, cs0) :: (T2, q2, cs1) :: bs) w) (hT : T ≠ 5) (hT2 : T2 ≠ 5) (hq : v.heap.size ≤ q) (hq2 : v.heap.size ≤ q2) (ho : Oth [q, q2] w w') (hc : Blk T w' q cs2) (hc2 : Blk T2 w' q2 cs3) : SG v os [] ((T, q, cs2) :: (T2, q2, cs3) :: bs) w' := by
  have hn := k.vk.nd
  simp only [List.map_cons, List.nodup_cons] at hn
  refine ⟨⟨⟨ho.os.trans k.vk.oth.os, ho.tape.trans k.vk.oth.tape, ho.output.trans k.vk.oth.output, Nat.le_trans k.vk.oth.size ho.size, fun j hj h0 => (ho.block j (Nat.lt_of_lt_of_le hj k.vk.oth.size) (fun hm => ?_)).trans (k.vk.oth.block j hj h0)⟩, fun b hb => ?_, by simp only [List.map_cons, List.nodup_cons]; exact hn⟩, fun r hr => (k.own r hr).offS ho (fun j hj cs fr e => ?_), fun r hr => (by cases hr)⟩
  · simp only [List.mem_cons, List.not_mem_nil, or_false] at hm
    rcases hm with rfl | rfl <;> omega
  · rcases List.mem_cons.1 hb with rfl | hb
    · exact hc
    rcases List.mem_cons.1 hb with rfl | hb
    · exact hc2
    refine (k.vk.blk b (.tail _ (.tail _ hb))).oth ho (fun hm => ?_)
    have hmem : b.2.1 ∈ bs.map (fun b => b.2.1) := List.mem_map.2 ⟨b, hb, rfl⟩
    simp only [List.mem_cons, List.not_mem_nil, or_false] at hm
    rcases hm with e | e
    · rw [e] at hmem; exact hn.1 (.tail _ hmem)
    · rw [e] at hmem; exact hn.2.1 hmem
  · simp only [List.mem_cons, List.not_mem_nil, or_false] at hj
    rcases hj with rfl | rfl
    · exact k.vk.b0.nob hT _ (by simp) cs fr e
    · exact k.vk.b1.nob hT2 _ (by simp) cs fr e
theorem SG.tail_ {b : TypeId × Nat × List Value} (k : SG v os rows (b :: bs) w) : SG v os rows bs w := ⟨k.vk.tail, k.own, k.row⟩
theorem Blk.rb (k : Blk 5 w q (bvs l)) : RB w w.heap.size (some ⟨q, 0, none⟩) l.length l :=
  ⟨rfl, fun _ => ⟨q, 0, rfl, k.lt, fun i hi => by rw [Nat.zero_add, k.cell]; simp only [bvs, List.getElem?_map, List.getElem?_eq_getElem hi, Option.map_some]⟩⟩
end
theorem rz_lit : (Value.agg #[.int .i64 0, .int .i64 0, .int .i64 0, .int .u8 0, .int .u8 0, .int .u8 0, .int .u8 0, .int .u8 0, .int .u8 0, .int .u8 0, .int .u8 0, .int .u8 0, .int .u8 0, .int .u8 0, .int .u8 0, .int .u8 0, .int .u8 0, .int .u8 0, .int .u8 0, .int .i64 0, .int .i64 0, .int .i64 0, .int .u8 0, .int .u8 0, .int .u8 0, .int .u8 0, .int .u8 0, .int .u8 0, .int .u8 0, .int .u8 0, .int .u8 0, .int .u8 0, .int .u8 0, .int .u8 0, .int .u8 0, .int .u8 0, .int .u8 0, .int .u8 0, .int .i64 0, .int .i64 0, .int .i64 0, .int .u8 0, .int .u8 0, .int .u8 0, .int .u8 0, .int .u8 0, .int .u8 0, .int .u8 0, .int .u8 0, .int .u8 0, .int .u8 0, .int .u8 0, .int .u8 0, .int .u8 0, .int .u8 0, .int .u8 0, .int .u8 0, .int .i64 0, .int .i64 0, .int .i64 0, .int .i64 0]) = .agg (rSl zSl).toArray := by unfold rSl r3 zSl Sl.row Sl.tm zeroC Cfg.cells zK; rfl
end Go.Proofs.YtkcchidklcnnnaaGreat
