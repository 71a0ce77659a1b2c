/- Layer 19: SameInts; a ring and the reference's beside each other, and what each call leaves of both. Condition: what is said of them. -/
import Derived.Test.YthllaoeioddddaaGreatRiR
import Derived.Test.YthllaoeioddddaaGreatUseBytes
import Derived.Test.YthllaoeioddddaaGreatGcmShow
namespace Go.Proofs.YthllaoeioddddaaGreat
open Go.RowKit
set_option linter.unusedVariables false
set_option linter.unusedSimpArgs false
/-! Calls. -/
/-- What a ring is told: what, a number, a key and where it lies. -/
structure Cr where
  t : Int
  q : Int
  A : Option Addr
  n : Nat
  c : Nat
  key : List UInt8
def Cr.cells (k : Cr) : List Value := [.int .i64 k.t, .int .i64 k.q, .slice k.A k.n k.c]
def Cr.val (k : Cr) : Value := .agg k.cells.toArray
/-- Its key can be read; its slice is one. -/
def Cr.ok (k : Cr) (B : Nat) (w : World) : Prop := RB w B k.A k.n k.key ∧ k.n ≤ k.c ∧ k.c ≤ maxLen
def doR (s : Rg) (k : Cr) : Rg × Int := if k.t = 0 then instR s k.q k.key else if k.t = 1 then retR s k.q else (s, 0)
theorem rt_call19 : RT 63 [.int .i64 0, .int .i64 0, .slice none 0 0] := ⟨row_of (by kernel_rfl), by kernel_rfl⟩
theorem Cr.one (k : Cr) : ones k.cells := by
  intro v hv
  unfold Cr.cells at hv
  simp only [List.mem_cons, List.not_mem_nil, or_false] at hv
  rcases hv with rfl | rfl | rfl <;> rfl

/-! A ring and the reference's. G: blocks that are none of theirs. -/
structure PRe (N F : Nat) (v : World) (x y : Nat) (s t : Rg) (G : List Nat) (w : World) (A : Option Addr) (c : Nat) (es : Ens) (B : Option Addr) (d : Nat) (ks : List KR) : Prop where
  bel : Below v.heap.size v w
  rn : Rn v.heap.size w x A c es N F
  rs : Rs v.heap.size w y B d ks
  ee : rgE es = s
  kk : rgK ks = t
  yo : ∀ e ∈ es, e.1.out y ∧ ∀ g ∈ blkO B, e.1.out g
  gs : ∀ g ∈ G, g < w.heap.size ∧ g ≠ x ∧ g ≠ y ∧ g ∉ blkO A ∧ g ∉ blkO B ∧ (∀ e ∈ es, e.1.out g) ∧ ∀ k ∈ ks, g ∉ blkO k.A
  os : okR s
  ot : okR t
  n1 : 1 ≤ N
  ko : ∀ e ∈ es, ∀ k ∈ ks, ∀ g ∈ blkO k.A, e.1.out g
def PR (N F : Nat) (v : World) (x y : Nat) (s t : Rg) (G : List Nat) (w : World) : Prop := ∃ A c es B d ks, PRe N F v x y s t G w A c es B d ks
/-- What lies in G is as it was. -/
def Kp (G : List Nat) (w w' : World) : Prop := ∀ g ∈ G, w'.heap[g]? = w.heap[g]?
theorem Blk.kp {T : TypeId} {w w' : World} {g : Nat} {cs : List Value} {G : List Nat} (h : Blk T w g cs) (k : Kp G w w') (hg : g ∈ G) : Blk T w' g cs := (k g hg).trans h
theorem OwnB.kp {w w' : World} {base n c : Nat} {A : Option Addr} {l : List UInt8} {G : List Nat} (h : OwnB w base A n c l) (k : Kp G w w') (hg : ∀ g ∈ blkO A, g ∈ G) : OwnB w' base A n c l := by
  refine ⟨h.1, ?_⟩
  rcases h.2 with h0 | ⟨g, cap, cur, hv, hbg, hh, r⟩
  · exact .inl h0
  · have hA : A = some ⟨g, 0, none⟩ := by injection hv
    exact .inr ⟨g, cap, cur, hv, hbg, (k g (hg g (by rw [hA]; simp [blkO]))).trans hh, r⟩
theorem own_lt {w : World} {base n c : Nat} {A : Option Addr} {l : List UInt8} (h : OwnB w base A n c l) : ∀ g ∈ blkO A, base ≤ g ∧ g < w.heap.size := fun g hg => by
  obtain ⟨a, ea, hga⟩ := mem_blkO hg
  exact World.ownsRow.lt h g (by show Value.ownBlock (.slice A n c) = some g; rw [ea]; exact congrArg some hga)
section
variable {N F N' F' : Nat} {v w w' : World} {x y c d : Nat} {s t s' : Rg} {G S : List Nat} {A B : Option Addr} {es : Ens} {ks : List KR}
theorem PRe.oth (h : PRe N F v x y s t G w A c es B d ks) (ho : Oth S w w') (hb : Below v.heap.size w w') (hS : ∀ g ∈ S, g ∈ G) : PRe N F v x y s t G w' A c es B d ks := by
  have hk : ∀ k ∈ ks, ∀ g ∈ blkO k.A, g ∉ S := fun k hk g hg hm => (h.gs g (hS g hm)).2.2.2.2.2.2 k hk hg
  refine ⟨h.bel.trans hb, h.rn.off ho (fun hm => (h.gs x (hS x hm)).2.1 rfl) (fun g hg hm => (h.gs g (hS g hm)).2.2.2.1 hg) (fun e he g hg => (h.gs g (hS g hg)).2.2.2.2.2.1 e he), h.rs.off ho (fun hm => (h.gs y (hS y hm)).2.2.1 rfl) (fun g hg hm => (h.gs g (hS g hm)).2.2.2.2.1 hg) hk, h.ee, h.kk, h.yo, fun g hg => ⟨Nat.lt_of_lt_of_le (h.gs g hg).1 ho.size, (h.gs g hg).2⟩, h.os, h.ot, h.n1, h.ko⟩
theorem PR.step (h : PR N F v x y s t G w) (hb : Below w.heap.size w w') : PR N F v x y s t G w' := by
  obtain ⟨A, c, es, B, d, ks, h⟩ := h
  exact ⟨A, c, es, B, d, ks, h.oth (S := []) (Oth.of_below hb) (hb.mono h.bel.size) (fun g hg => by cases hg)⟩
/-- A block of G is stored into. -/
theorem PR.poke (h : PR N F v x y s t G w) (ho : Oth S w w') (hS : ∀ g ∈ S, g ∈ G) (hv : ∀ g ∈ S, v.heap.size ≤ g) : PR N F v x y s t G w' := by
  obtain ⟨A, c, es, B, d, ks, h⟩ := h
  exact ⟨A, c, es, B, d, ks, h.oth ho (ho.below hv h.bel.size) hS⟩
theorem PR.bel (h : PR N F v x y s t G w) : Below v.heap.size v w := by
  obtain ⟨A, c, es, B, d, ks, h⟩ := h
  exact h.bel
theorem PR.up (h : PR N F v x y s t G w) (hn : N ≤ N') (hf : F ≤ F') : PR N' F' v x y s t G w := by
  obtain ⟨A, c, es, B, d, ks, h⟩ := h
  exact ⟨A, c, es, B, d, ks, h.bel, h.rn.up hn hf, h.rs, h.ee, h.kk, h.yo, h.gs, h.os, h.ot, Nat.le_trans h.n1 hn, h.ko⟩
theorem PR.ok (h : PR N F v x y s t G w) : okR s ∧ okR t := by
  obtain ⟨A, c, es, B, d, ks, h⟩ := h
  exact ⟨h.os, h.ot⟩
/-- New blocks are none of theirs. -/
theorem PR.fresh (h : PR N F v x y s t G w) (L : List Nat) (hL : ∀ g ∈ L, w.heap.size ≤ g ∧ g < w'.heap.size) (hb : Below w.heap.size w w') : PR N F v x y s t (L ++ G) w' := by
  obtain ⟨A, c, es, B, d, ks, h⟩ := h
  have k := h.oth (S := []) (Oth.of_below hb) (hb.mono h.bel.size) (fun g hg => by cases hg)
  refine ⟨A, c, es, B, d, ks, k.bel, k.rn, k.rs, k.ee, k.kk, k.yo, fun g hg => ?_, k.os, k.ot, k.n1, k.ko⟩
  rcases List.mem_append.1 hg with hg | hg
  · obtain ⟨h1, h2⟩ := hL g hg
    have hx := h.rn.blk.lt
    have hy := h.rs.blk.lt
    refine ⟨h2, by omega, by omega, fun hm => ?_, fun hm => ?_, fun e he => .inr (Nat.le_trans (h.rn.ok e he).1.le h1), fun r hr hm => ?_⟩
    · have := (h.rn.grd.lt g hm).2; omega
    · have := (h.rs.grd.lt g hm).2; omega
    · have := (own_lt (h.rs.key r hr) g hm).2; omega
  · exact k.gs g hg
theorem PR.less {G' : List Nat} (h : PR N F v x y s t G w) (hG : ∀ g ∈ G', g ∈ G) : PR N F v x y s t G' w := by
  obtain ⟨A, c, es, B, d, ks, h⟩ := h
  exact ⟨A, c, es, B, d, ks, h.bel, h.rn, h.rs, h.ee, h.kk, h.yo, fun g hg => h.gs g (hG g hg), h.os, h.ot, h.n1, h.ko⟩
theorem PRe.inst (h : PRe N F v x y s t G w A c es B d ks) (hr : RetRn v.heap.size x A es N F s' w w') (hs : okR s') : PR N F v x y s' t G w' ∧ Kp G w w' := by
  obtain ⟨A', c', es', r1, r2, r3, r4, r5⟩ := hr
  have hlow : ∀ g ∈ x :: blkO A, v.heap.size ≤ g := fun g hg => by
    rcases List.mem_cons.1 hg with rfl | hg
    · exact h.rn.low
    · exact (h.rn.grd.lt g hg).1
  have hb : Below v.heap.size w w' := r3.below hlow h.bel.size
  have hnob : NoB (x :: blkO A) w := fun j hj cs fr e => by
    rcases List.mem_cons.1 hj with rfl | hj
    · exact h.rn.blk.nob (by decide) j (by simp) cs fr e
    · exact h.rn.grd.nob (by decide) j hj cs fr e
  have hxy : y ∉ x :: blkO A := fun hm => by
    rcases List.mem_cons.1 hm with e | hm
    · exact h.rs.blk.far h.rn.blk (by decide) e
    · exact h.rn.grd.away h.rs.blk (by decide) hm
  have hBA : ∀ g ∈ blkO B, g ∉ x :: blkO A := fun g hg hm => by
    rcases List.mem_cons.1 hm with rfl | hm
    · exact h.rs.grd.away h.rn.blk (by decide) hg
    · exact h.rn.grd.apart h.rs.grd (by decide) g hm hg
  have hrs : Rs v.heap.size w' y B d ks := ⟨h.rs.blk.oth r3 hxy, h.rs.grd.oth r3 hBA, fun k hk => (h.rs.key k hk).offS r3 hnob, h.rs.low⟩
  have hyl := h.rs.blk.lt
  refine ⟨⟨A', c', es', B, d, ks, h.bel.trans hb, r1, hrs, r2, h.kk, fun e he => ?_, fun g hg => ?_, hs, h.ot, h.n1, fun e he k hk g hg => ?_⟩, fun g hg => ?_⟩
  · rcases r4 e he with k | k
    · exact h.yo e k
    · exact ⟨.inl (by omega), fun g hg => .inl (by have := (h.rs.grd.lt g hg).2; omega)⟩
  · obtain ⟨g1, g2, g3, g4, g5, g6, g7⟩ := h.gs g hg
    refine ⟨Nat.lt_of_lt_of_le g1 r3.size, g2, g3, fun hm => ?_, g5, fun e he => ?_, g7⟩
    · rcases r5 g hm with k | k
      · exact g4 k
      · omega
    · rcases r4 e he with k | k
      · exact g6 e k
      · exact .inl (by omega)
  · rcases r4 e he with z | z
    · exact h.ko e z k hk g hg
    · exact .inl (by have := (own_lt (h.rs.key k hk) g hg).2; omega)
  · obtain ⟨g1, g2, _, g4, _⟩ := h.gs g hg
    exact r3.block g g1 (fun hm => by
      rcases List.mem_cons.1 hm with e | hm
      · exact g2 e
      · exact g4 hm)
theorem PRe.rinst (h : PRe N F v x y s t G w A c es B d ks) (hr : RetRs v.heap.size y B ks s' w w') (hs : okR s') : PR N F v x y s s' G w' ∧ Kp G w w' := by
  obtain ⟨B', d', ks', r1, r2, r3, r4, r5⟩ := hr
  have hlow : ∀ g ∈ y :: blkO B, v.heap.size ≤ g := fun g hg => by
    rcases List.mem_cons.1 hg with rfl | hg
    · exact h.rs.low
    · exact (h.rs.grd.lt g hg).1
  have hb : Below v.heap.size w w' := r3.below hlow h.bel.size
  have hxy : x ∉ y :: blkO B := fun hm => by
    rcases List.mem_cons.1 hm with e | hm
    · exact h.rn.blk.far h.rs.blk (by decide) e
    · exact h.rs.grd.away h.rn.blk (by decide) hm
  have hBA : ∀ g ∈ blkO A, g ∉ y :: blkO B := fun g hg hm => by
    rcases List.mem_cons.1 hm with rfl | hm
    · exact h.rn.grd.away h.rs.blk (by decide) hg
    · exact h.rn.grd.apart h.rs.grd (by decide) g hg hm
  have hrn : Rn v.heap.size w' x A c es N F := h.rn.off r3 hxy hBA (fun e he g hg => by
    rcases List.mem_cons.1 hg with rfl | hg
    · exact (h.yo e he).1
    · exact (h.yo e he).2 g hg)
  refine ⟨⟨A, c, es, B', d', ks', h.bel.trans hb, hrn, r1, h.ee, r2, fun e he => ⟨(h.yo e he).1, fun g hg => ?_⟩, fun g hg => ?_, h.os, hs, h.n1, fun e he k hk g hg => ?_⟩, fun g hg => ?_⟩
  · rcases r5 g hg with k | k
    · exact (h.yo e he).2 g k
    · exact .inr (Nat.le_trans (h.rn.ok e he).1.le k)
  · obtain ⟨g1, g2, g3, g4, g5, g6, g7⟩ := h.gs g hg
    refine ⟨Nat.lt_of_lt_of_le g1 r3.size, g2, g3, g4, fun hm => ?_, g6, fun k hk hm => ?_⟩
    · rcases r5 g hm with z | z
      · exact g5 z
      · omega
    · rcases r4 k hk with z | z
      · exact g7 k z hm
      · have := z g hm; omega
  · rcases r4 k hk with z | z
    · exact h.ko e he k z g hg
    · exact .inr (Nat.le_trans (h.rn.ok e he).1.le (z g hg))
  · obtain ⟨g1, _, g3, _, g5, _⟩ := h.gs g hg
    exact r3.block g g1 (fun hm => by
      rcases List.mem_cons.1 hm with e | hm
      · exact g3 e
      · exact g5 hm)
theorem PR.new {x y : Nat} (hn : 1 ≤ N) (h1 : Rn v.heap.size w x none 0 [] N F) (h2 : Rs v.heap.size w y none 0 []) (hb : Below v.heap.size v w) : PR N F v x y [] [] [] w :=
  ⟨none, 0, [], none, 0, [], hb, h1, h2, rfl, rfl, fun e he => (by cases he), fun g hg => (by cases hg), nil_okR, nil_okR, hn, fun e he => (by cases he)⟩
theorem PRe.len (h : PRe N F v x y s t G w A c es B d ks) : es.length ≤ 16 ∧ ks.length ≤ 16 := by
  have h1 := h.os.n
  have h2 := h.ot.n
  rw [← h.ee, rg_len] at h1
  rw [← h.kk, rgK_len] at h2
  exact ⟨h1, h2⟩
end
/-- The calls. -/
def RetP19 (N F : Nat) (v : World) (x y : Nat) (s t : Rg) (G : List Nat) (a : Int) (w : World) (e : Ending) (w' : World) : Prop := e = .returned (.int .i64 a) ∧ PR N F v x y s t G w' ∧ Kp G w w'
theorem pr_inst (N F : Nat) (v : World) (x y : Nat) (s t : Rg) (G : List Nat) (w : World) (h : PR N F v x y s t G w) (q : Int) (K : Option Addr) (m d : Nat) (l : List UInt8) (hk : RB w w.heap.size K m l) (hd : m ≤ d) :
    Calls Tryz.prog 31 #[.pointer (some ⟨x, 0, none⟩), .int .i64 q, .slice K m d] w (RetP19 N F v x y (instR s q l).1 t G (instR s q l).2 w) := by
  obtain ⟨A, c, es, B, d2, ks, h⟩ := h
  refine (install_any _ x A c es N F q K m d l w h.rn h.len.1 hk hd h.n1 h.bel.size).mono fun e w' hr => ?_
  rw [h.ee] at hr
  exact ⟨hr.1, h.inst hr.2 (inst_okR h.os)⟩
theorem pr_ret (N F : Nat) (v : World) (x y : Nat) (s t : Rg) (G : List Nat) (w : World) (h : PR N F v x y s t G w) (q : Int) :
    Calls Tryz.prog 28 #[.pointer (some ⟨x, 0, none⟩), .int .i64 q] w (RetP19 N F v x y (retR s q).1 t G (retR s q).2 w) := by
  obtain ⟨A, c, es, B, d2, ks, h⟩ := h
  refine (retire_any _ x A c es N F q w h.rn h.len.1).mono fun e w' hr => ?_
  rw [h.ee] at hr
  exact ⟨hr.1, h.inst hr.2 (ret_okR h.os)⟩
theorem pr_rinst (N F : Nat) (v : World) (x y : Nat) (s t : Rg) (G : List Nat) (w : World) (h : PR N F v x y s t G w) (q : Int) (K : Option Addr) (m d : Nat) (l : List UInt8) (hk : RB w w.heap.size K m l) :
    Calls Tryz.prog 59 #[.pointer (some ⟨y, 0, none⟩), .int .i64 q, .slice K m d] w (RetP19 N F v x y s (instR t q l).1 G (instR t q l).2 w) := by
  obtain ⟨A, c, es, B, d2, ks, h⟩ := h
  refine (rinst_any _ y B d2 ks q K m d l w h.rs h.len.2 hk h.bel.size).mono fun e w' hr => ?_
  rw [h.kk] at hr
  exact ⟨hr.1, h.rinst hr.2 (inst_okR h.ot)⟩
theorem pr_rret (N F : Nat) (v : World) (x y : Nat) (s t : Rg) (G : List Nat) (w : World) (h : PR N F v x y s t G w) (q : Int) :
    Calls Tryz.prog 60 #[.pointer (some ⟨y, 0, none⟩), .int .i64 q] w (RetP19 N F v x y s (retR t q).1 G (retR t q).2 w) := by
  obtain ⟨A, c, es, B, d2, ks, h⟩ := h
  refine (rret_any _ y B d2 ks q w h.rs h.len.2 h.bel.size).mono fun e w' hr => ?_
  rw [h.kk] at hr
  exact ⟨hr.1, h.rinst hr.2 (ret_okR h.ot)⟩
end Go.Proofs.YthllaoeioddddaaGreat

/- Layer 19: the statements' Great, Do, Agree. Condition: what is said of the rings, the calls' keys can be read. -/
namespace Go.Proofs.YthllaoeioddddaaGreat
open Go.RowKit
set_option linter.unusedVariables false
set_option linter.unusedSimpArgs false
/-! Rows of calls. -/
def CRs (w : World) (B : Nat) (A : Option Addr) (n : Nat) (ks : List Cr) : Prop :=
  ks.length = n ∧ (∀ k ∈ ks, k.ok B w) ∧ (0 < n → ∃ b o, A = some ⟨b, o, none⟩ ∧ b < B ∧ ∀ (i : Nat) k, ks[i]? = some k → w.rangeAt b (o + i * 3) k.cells)
theorem Cr.ok.below {k : Cr} {B : Nat} {w w' : World} (h : k.ok B w) (hb : Below B w w') : k.ok B w' := ⟨h.1.below hb, h.2⟩
theorem Cr.ok.more {k : Cr} {B B' : Nat} {w : World} (h : k.ok B w) (hB : B ≤ B') : k.ok B' w := ⟨h.1.more hB, h.2⟩
section
variable {w w' : World} {B n : Nat} {A : Option Addr} {ks : List Cr}
theorem CRs.below (h : CRs w B A n ks) (hb : Below B w w') : CRs w' B A n ks :=
  ⟨h.1, fun k hk => (h.2.1 k hk).below hb, fun hn => by
    obtain ⟨b, o, e, hbb, hc⟩ := h.2.2 hn
    exact ⟨b, o, e, hbb, fun i p hp j v hv => (hb.cell (p := ⟨b, o + i * 3 + j, none⟩) hbb).trans (hc i p hp j v hv)⟩⟩
theorem CRs.at_ {i : Nat} (h : CRs w B A n ks) (hi : i < n) : ∃ b o k, A = some ⟨b, o, none⟩ ∧ ks[i]? = some k ∧ k.ok B w ∧ w.rangeAt b (o + i * 3) k.cells ∧ w.cell? ⟨b, o + i * 3 + 2, none⟩ = some (.slice k.A k.n k.c) := by
  obtain ⟨b, o, e, hb, hc⟩ := h.2.2 (by omega)
  have hl : i < ks.length := by rw [h.1]; exact hi
  exact ⟨b, o, ks[i], e, List.getElem?_eq_getElem hl, h.2.1 _ (List.getElem_mem hl), hc i _ (List.getElem?_eq_getElem hl), hc i _ (List.getElem?_eq_getElem hl) 2 _ rfl⟩
theorem CRs.lit (w : World) (k : Cr) (hk : k.ok w.heap.size w) (cs : Array Value) (hc : cs = k.cells.toArray) (T : TypeId) : CRs (w.alloc (.cells cs T)) (w.alloc (.cells cs T)).heap.size (some ⟨w.heap.size, 0, none⟩) 1 [k] := by
  subst hc
  have hb := below_alloc w (.cells k.cells.toArray T)
  refine ⟨rfl, fun j hj => by rw [List.mem_singleton.1 hj]; exact (hk.below hb).more hb.size, fun _ => ⟨w.heap.size, 0, rfl, by simp, fun i p hp j v hv => ?_⟩⟩
  have hi : i = 0 := by have := (List.getElem?_eq_some_iff.1 hp).1; simpa using this
  subst hi
  injection hp with hp
  subst hp
  simp only [Nat.zero_mul, Nat.zero_add]
  rw [cell_of_row _ w.heap.size j _ T (0, 0) (heap_alloc_new w _)]
  simpa using hv
end
set_option maxRecDepth 100000 in
set_option maxHeartbeats 4000000 in
theorem great19_any (A : Option Addr) (n c : Nat) (ks : List Cr) (w : World) (h : CRs w w.heap.size A n ks) (hn : n ≤ maxLen) :
    Calls Tryz.prog 21 #[.slice A n c] w fun e w' => ∃ v, e = .returned (.bool v) ∧ w = w' ∧ (v = false → n ≤ 60 ∧ ∀ k ∈ ks, k.n ≤ 100) := by
  have H := Lib.hid h
  clear h
  unfold maxLen at hn
  by_cases hg : (n : Int) > 60
  · have d1 : decide ((n : Int) > 60) = true := decide_eq_true hg
    go_enter Tryz.func21, Tryz.ntmps21
    go_wp2_with fail
    go_ret
    exact ⟨true, rfl, rfl, fun e => by cases e⟩
  have d1 : decide ((n : Int) > 60) = false := decide_eq_false hg
  have hn60 : n ≤ 60 := by omega
  clear hg hn
  go_enter Tryz.func21, Tryz.ntmps21
  go_wp2_with fail
  go_loopw [3] (fun i wr => ∃ k : Nat, k ≤ n ∧ i = .int .i64 (k : Int) ∧ w = wr ∧ Hid (∀ j e, j < k → ks[j]? = some e → e.n ≤ 100)) (fun i _ => n - (intOf i).toNat)
  case atStart => exact ⟨0, by omega, rfl, rfl, Lib.hid (fun j e hj => absurd hj (by omega))⟩
  case round =>
    obtain ⟨k, hk, rfl, rfl, HK⟩ := hrel
    by_cases hlt : k < n
    · obtain ⟨b, o, e0, rfl, he, hok, _, hc⟩ := H.out.at_ hlt
      have HE := Lib.hid (And.intro he hok)
      have hmx : e0.n ≤ 9223372036854775807 := by have h1 := hok.2.1; have h2 := hok.2.2; unfold maxLen at h2; omega
      clear he hok
      by_cases hq : (e0.n : Int) > 100
      · have d2 : decide ((e0.n : Int) > 100) = true := decide_eq_true hq
        clear hq
        go_wp2_with fail
        go_ret
        exact ⟨true, rfl, rfl, fun e => by cases e⟩
      · have d2 : decide ((e0.n : Int) > 100) = false := decide_eq_false hq
        have HQ := Lib.hid hq
        clear hq
        go_wp2_with fail
        go_roundw
        case rel => exact ⟨k + 1, by omega, by go_num, trivial, Lib.hid (fun j e hj he => by
          rcases Nat.lt_or_ge j k with h | h
          · exact HK.out j e h he
          · obtain rfl : j = k := by omega
            rw [HE.out.1] at he
            injection he with he
            subst he
            have := HQ.out
            omega)⟩
        case measure => simp [intOf]; omega
    · have hkn : k = n := by omega
      subst hkn
      go_wp2_with fail
      go_ret
      exact ⟨false, rfl, rfl, fun _ => ⟨hn60, fun k hk => by
        obtain ⟨j, hj, rfl⟩ := List.getElem_of_mem hk
        exact HK.out j ks[j] (by have := H.out.1; omega) (List.getElem?_eq_getElem hj)⟩⟩
theorem byte_up19 (x : UInt8) : ∃ y : UInt8, ((x.toNat : Int) + 1) % 256 = (y.toNat : Int) := ⟨UInt8.ofNat (x.toNat + 1), by simp⟩
/-- Do's answer: are theirs one? -/
def RetD19 (N F : Nat) (v : World) (x y : Nat) (s t : Rg) (k : Cr) (w : World) (e : Ending) (w' : World) : Prop := e = .returned (.bool ((doR s k).2 == (doR t k).2)) ∧ PR N F v x y (doR s k).1 (doR t k).1 [] w'
/-- The same, beside blocks that it leaves. -/
def RetG19 (N F : Nat) (v : World) (x y : Nat) (s t : Rg) (G : List Nat) (k : Cr) (w : World) (e : Ending) (w' : World) : Prop := e = .returned (.bool ((doR s k).2 == (doR t k).2)) ∧ PR N F v x y (doR s k).1 (doR t k).1 G w' ∧ Kp G w w'
theorem PR.kp {N F : Nat} {v w w' : World} {x y : Nat} {s t : Rg} {G : List Nat} (h : PR N F v x y s t G w) (hb : Below w.heap.size w w') : Kp G w w' := by
  obtain ⟨A, c, es, B, d, ks, h⟩ := h
  exact fun g hg => hb.block g (h.gs g hg).1
theorem PR.inG {N F : Nat} {v w : World} {x y : Nat} {s t : Rg} {G : List Nat} (h : PR N F v x y s t G w) : ∀ g ∈ G, g < w.heap.size := by
  obtain ⟨A, c, es, B, d, ks, h⟩ := h
  exact fun g hg => (h.gs g hg).1
theorem Kp.trans {G : List Nat} {w w1 w2 : World} (h : Kp G w w1) (k : Kp G w1 w2) : Kp G w w2 := fun g hg => (k g hg).trans (h g hg)
theorem Kp.less {G G' : List Nat} {w w1 : World} (h : Kp G w w1) (hG : ∀ g ∈ G', g ∈ G) : Kp G' w w1 := fun g hg => h g (hG g hg)
set_option maxRecDepth 100000 in
set_option maxHeartbeats 8000000 in
theorem do19_inst (N F : Nat) (v : World) (x y : Nat) (s t : Rg) (G : List Nat) (w : World) (h : PR N F v x y s t G w) (k : Cr) (hk : k.ok v.heap.size v) (hn : k.n ≤ 100) (h0 : k.t = 0) :
    Calls Tryz.prog 29 #[.pointer (some ⟨x, 0, none⟩), .pointer (some ⟨y, 0, none⟩), k.val] w (RetG19 N F v x y s t G k w) := by
  have HK := Lib.hid hk
  have HH := Lib.hid h
  have hklen := hk.1.len
  obtain ⟨kt, HT⟩ : ∃ z, Hid (k.t = z) := ⟨_, Lib.hid rfl⟩
  have HD : ∀ s, doR s k = instR s k.q k.key := fun s => by unfold doR; rw [if_pos h0]
  have d0 : ((kt : Int) == 0) = true := by rw [beq_iff_eq, ← HT.out]; exact h0
  unfold RetG19
  rw [HD, HD]
  clear h hk HD
  unfold Cr.val
  go_enter Tryz.func29, Tryz.ntmps29
  go_wp2_with (first
    | (refine wpList_boxB rfl 63 (.tmp 2) rfl k.cells rfl ?_; intro w1 bx k1 hb1 hbx; have c0 : w1.cell? ⟨bx, 0, none⟩ = some (.int .i64 k.t) := k1.cell 0; have cq : w1.cell? ⟨bx, 1, none⟩ = some (.int .i64 k.q) := k1.cell 1; have c2 : w1.cell? ⟨bx, 2, none⟩ = some (.slice k.A k.n k.c) := k1.cell 2; have K1 := Lib.hid k1; have P1 := Lib.hid (HH.out.fresh (w' := w1) [bx] (fun g hg => by rw [List.mem_singleton.1 hg]; exact ⟨hbx, k1.lt⟩) hb1); have HV : Hid (v.heap.size ≤ w1.heap.size) := Lib.hid (Nat.le_trans HH.out.bel.size hb1.size); have HG : Hid (∀ g ∈ G, g < w1.heap.size) := Lib.hid (fun g hg => Nat.lt_of_lt_of_le (HH.out.inG g hg) hb1.size); have HKP1 := Lib.hid (HH.out.kp hb1); clear k1 hb1 hbx))
  refine (copy_any k.A k.n k.c 0 k.key w1 (by exact HK.out.1.step P1.out.bel) (by omega)).mono ?_
  rintro e w2 ⟨A1, c1, rfl, ho, hb2⟩
  have P2 : Hid (PR N F v x y s t (blkO A1 ++ (bx :: G)) w2) := Lib.hid (P1.out.fresh (blkO A1) (fun g hg => own_lt ho g hg) hb2)
  have O2 := Lib.hid ho
  have HKP2 := Lib.hid (HKP1.out.trans ((P1.out.kp hb2).less (fun g hg => List.mem_cons_of_mem _ hg)))
  have K2 := Lib.hid (K1.out.step hb2)
  have c0 : w2.cell? ⟨bx, 0, none⟩ = some (.int .i64 kt) := by rw [← HT.out]; exact K2.out.cell 0
  have cq : w2.cell? ⟨bx, 1, none⟩ = some (.int .i64 k.q) := K2.out.cell 1
  have c2 : w2.cell? ⟨bx, 2, none⟩ = some (.slice k.A k.n k.c) := K2.out.cell 2
  clear ho hb2 K1 P1
  go_wp2_with fail
  refine wp_region_held_drew (S := fun w' => w'.cell? ⟨bx, 1, none⟩ = some (.int .i64 k.q) ∧ w'.cell? ⟨bx, 2, none⟩ = some (.slice k.A k.n k.c)) (by kernel_rfl) ⟨cq, c2⟩ (fun hHeld => ?_)
  (try dsimp only at hHeld)
  refine wpAnyH_take (i := 0) (v := ?v0_1) rfl (by kernel_rfl) (by kernel_rfl) (by kernel_rfl) (fun _ _ _ h => h) (Or.inl ⟨by rfl, ?hy0_1⟩) hHeld ?_
  case hy0_1 => (intro w hSw; (try dsimp only at hSw); obtain ⟨hs1, hs2⟩ := hSw; (try simp only [List.getElem_toArray, List.getElem_cons_zero, List.getElem_cons_succ]); go_simp <;> with_reducible rfl)
  (try simp only [Act.put, List.getElem_toArray, List.getElem_cons_zero, List.getElem_cons_succ, List.setIfInBounds_toArray, List.set_cons_zero, List.set_cons_succ])
  refine wpAnyH_take (i := 1) (v := ?v1_2) rfl (by kernel_rfl) (by kernel_rfl) (by kernel_rfl) (fun _ _ _ h => h) (Or.inl ⟨by rfl, ?hy1_2⟩) hHeld ?_
  case hy1_2 => (intro w hSw; (try dsimp only at hSw); obtain ⟨hs1, hs2⟩ := hSw; (try simp only [List.getElem_toArray, List.getElem_cons_zero, List.getElem_cons_succ]); go_simp <;> with_reducible rfl)
  (try simp only [Act.put, List.getElem_toArray, List.getElem_cons_zero, List.getElem_cons_succ, List.setIfInBounds_toArray, List.set_cons_zero, List.set_cons_succ])
  refine wpAnyH_take (i := 2) (v := ?v2_3) rfl (by kernel_rfl) (by kernel_rfl) (by kernel_rfl) (fun _ _ _ h => h) (Or.inl ⟨by rfl, ?hy2_3⟩) hHeld ?_
  case hy2_3 => (intro w hSw; (try dsimp only at hSw); obtain ⟨hs1, hs2⟩ := hSw; (try simp only [List.getElem_toArray, List.getElem_cons_zero, List.getElem_cons_succ]); go_simp <;> with_reducible rfl)
  (try simp only [Act.put, List.getElem_toArray, List.getElem_cons_zero, List.getElem_cons_succ, List.setIfInBounds_toArray, List.set_cons_zero, List.set_cons_succ])
  refine wpAnyH_take (i := 3) (v := ?v3_4) rfl (by kernel_rfl) (by kernel_rfl) (by kernel_rfl) (fun _ _ _ h => h) (Or.inl ⟨by rfl, ?hy3_4⟩) hHeld ?_
  case hy3_4 => (intro w hSw; (try dsimp only at hSw); obtain ⟨hs1, hs2⟩ := hSw; (try simp only [List.getElem_toArray, List.getElem_cons_zero, List.getElem_cons_succ]); go_simp <;> with_reducible rfl)
  (try simp only [Act.put, List.getElem_toArray, List.getElem_cons_zero, List.getElem_cons_succ, List.setIfInBounds_toArray, List.set_cons_zero, List.set_cons_succ])
  refine wpAnyH_take (i := 5) (v := ?v5_5) rfl (by kernel_rfl) (by kernel_rfl) (by kernel_rfl) (fun _ _ _ h => h) (Or.inl ⟨by rfl, ?hy5_5⟩) hHeld ?_
  case hy5_5 => (intro w hSw; (try dsimp only at hSw); obtain ⟨hs1, hs2⟩ := hSw; (try simp only [List.getElem_toArray, List.getElem_cons_zero, List.getElem_cons_succ]); go_simp <;> with_reducible rfl)
  (try simp only [Act.put, List.getElem_toArray, List.getElem_cons_zero, List.getElem_cons_succ, List.setIfInBounds_toArray, List.set_cons_zero, List.set_cons_succ])
  refine wpAnyH_take (i := 6) (v := ?v6_6) rfl (by kernel_rfl) (by kernel_rfl) (by kernel_rfl) (fun _ _ _ h => h) (Or.inl ⟨by rfl, ?hy6_6⟩) hHeld ?_
  case hy6_6 => (intro w hSw; (try dsimp only at hSw); obtain ⟨hs1, hs2⟩ := hSw; (try simp only [List.getElem_toArray, List.getElem_cons_zero, List.getElem_cons_succ]); go_simp <;> with_reducible rfl)
  (try simp only [Act.put, List.getElem_toArray, List.getElem_cons_zero, List.getElem_cons_succ, List.setIfInBounds_toArray, List.set_cons_zero, List.set_cons_succ])
  refine wpAnyH_take (i := 7) (v := ?v7_7) rfl (by kernel_rfl) (by kernel_rfl) (by kernel_rfl) (fun _ _ _ h => h) (Or.inl ⟨by rfl, ?hy7_7⟩) hHeld ?_
  case hy7_7 => (intro w hSw; (try dsimp only at hSw); obtain ⟨hs1, hs2⟩ := hSw; (try simp only [List.getElem_toArray, List.getElem_cons_zero, List.getElem_cons_succ]); go_simp <;> with_reducible rfl)
  (try simp only [Act.put, List.getElem_toArray, List.getElem_cons_zero, List.getElem_cons_succ, List.setIfInBounds_toArray, List.set_cons_zero, List.set_cons_succ])
  refine wpAnyH_take (i := 8) (v := ?v8_8) rfl (by kernel_rfl) (by kernel_rfl) (by kernel_rfl) (fun _ _ _ h => h) (Or.inl ⟨by rfl, ?hy8_8⟩) hHeld ?_
  case hy8_8 => (intro w hSw; (try dsimp only at hSw); obtain ⟨hs1, hs2⟩ := hSw; (try simp only [List.getElem_toArray, List.getElem_cons_zero, List.getElem_cons_succ]); go_simp <;> with_reducible rfl)
  (try simp only [Act.put, List.getElem_toArray, List.getElem_cons_zero, List.getElem_cons_succ, List.setIfInBounds_toArray, List.set_cons_zero, List.set_cons_succ])
  refine wpAnyH_take (i := 9) (v := ?v9_9) rfl (by kernel_rfl) (by kernel_rfl) (by kernel_rfl) (fun _ _ _ h => h) (Or.inl ⟨by rfl, ?hy9_9⟩) hHeld ?_
  case hy9_9 => (intro w hSw; (try dsimp only at hSw); obtain ⟨hs1, hs2⟩ := hSw; (try simp only [List.getElem_toArray, List.getElem_cons_zero, List.getElem_cons_succ]); go_simp <;> with_reducible rfl)
  (try simp only [Act.put, List.getElem_toArray, List.getElem_cons_zero, List.getElem_cons_succ, List.setIfInBounds_toArray, List.set_cons_zero, List.set_cons_succ])
  refine wpAnyH_ready (rs := [4]) (by kernel_rfl) (by simp) ?_
  refine AllReadyH.cons rfl (fun K hK => ?_) AllReadyH.nil
  (try simp only [List.getElem_toArray, List.getElem_cons_zero, List.getElem_cons_succ])
  go_simp
  refine (pr_inst N F v x y (s) (t) _ w2.drew (by first | exact P2.out | exact P2.out.step ((Below.refl _ _).drew)) k.q A1 k.n c1 k.key (by first | exact O2.out.rb | exact (O2.out.below ((Below.refl _ _).drew)).rb) O2.out.cap.1).mono ?_
  rintro e w3 ⟨rfl, hp3, hk3⟩
  have P3 := Lib.hid hp3
  have K3 := Lib.hid (K2.out.kp hk3 (by simp))
  have O3 := Lib.hid (O2.out.kp hk3 (fun g hg => List.mem_append_left _ hg))
  have HKP3 := Lib.hid (HKP2.out.trans (hk3.less (fun g hg => List.mem_append_right _ (List.mem_cons_of_mem _ hg))))
  clear hk3
  clear hp3
  (try go_wp2_with fail)
  refine hK.out _ _ ⟨K3.out.cell 1, K3.out.cell 2⟩ (fun hHeld => ?_)
  clear hK K
  (try simp only [Act.put, List.getElem_toArray, List.getElem_cons_zero, List.getElem_cons_succ, List.setIfInBounds_toArray, List.set_cons_zero, List.set_cons_succ])
  refine wpAnyH_ready (rs := [10]) (by kernel_rfl) (by simp) ?_
  refine AllReadyH.cons rfl (fun K hK => ?_) AllReadyH.nil
  (try simp only [List.getElem_toArray, List.getElem_cons_zero, List.getElem_cons_succ])
  go_simp
  refine (pr_rinst N F v x y ((instR s k.q k.key).1) (t) _ w3 (by first | exact P3.out | exact P3.out.step ((Below.refl _ _).drew)) k.q k.A k.n k.c k.key (by first | exact HK.out.1.step P3.out.bel | exact HK.out.1.step (P3.out.step ((Below.refl _ _).drew)).bel)).mono ?_
  rintro e w4 ⟨rfl, hp4, hk4⟩
  have P4 := Lib.hid hp4
  have K4 := Lib.hid (K3.out.kp hk4 (by simp))
  have O4 := Lib.hid (O3.out.kp hk4 (fun g hg => List.mem_append_left _ hg))
  have HKP4 := Lib.hid (HKP3.out.trans (hk4.less (fun g hg => List.mem_append_right _ (List.mem_cons_of_mem _ hg))))
  clear hk4
  clear hp4
  (try go_wp2_with fail)
  refine hK.out _ _ ⟨K4.out.cell 1, K4.out.cell 2⟩ (fun hHeld => ?_)
  clear hK K
  (try simp only [Act.put, List.getElem_toArray, List.getElem_cons_zero, List.getElem_cons_succ, List.setIfInBounds_toArray, List.set_cons_zero, List.set_cons_succ])
  refine wpAnyH_take (i := 11) (v := ?v11_10) rfl (by kernel_rfl) (by kernel_rfl) (by kernel_rfl) (fun _ _ _ h => h) (Or.inl ⟨by rfl, ?hy11_10⟩) hHeld ?_
  case hy11_10 => (intro w hSw; (try dsimp only at hSw); (try simp only [List.getElem_toArray, List.getElem_cons_zero, List.getElem_cons_succ]); go_simp <;> with_reducible rfl)
  (try simp only [Act.put, List.getElem_toArray, List.getElem_cons_zero, List.getElem_cons_succ, List.setIfInBounds_toArray, List.set_cons_zero, List.set_cons_succ])
  refine wpAnyH_take (i := 12) (v := ?v12_11) rfl (by kernel_rfl) (by kernel_rfl) (by kernel_rfl) (fun _ _ _ h => h) (Or.inl ⟨by rfl, ?hy12_11⟩) hHeld ?_
  case hy12_11 => (intro w hSw; (try dsimp only at hSw); (try simp only [List.getElem_toArray, List.getElem_cons_zero, List.getElem_cons_succ]); go_simp <;> with_reducible rfl)
  (try simp only [Act.put, List.getElem_toArray, List.getElem_cons_zero, List.getElem_cons_succ, List.setIfInBounds_toArray, List.set_cons_zero, List.set_cons_succ])
  refine wpAnyH_done (by kernel_rfl) ?_ _
  have HZ := Lib.hid (And.intro P4.out (And.intro O4.out HKP4.out))
  go_wp2_with fail
  go_loopw [9] (fun i wr => ∃ j : Nat, j ≤ k.n ∧ i = .int .i64 (j : Int) ∧ Hid (PR N F v x y ((instR s k.q k.key).1) ((instR t k.q k.key).1) (blkO A1 ++ (bx :: G)) wr ∧ Kp G w wr ∧ ∃ q, OwnB wr w1.heap.size A1 k.n c1 q)) (fun i _ => k.n - (intOf i).toNat)
  case atStart => exact ⟨0, by omega, rfl, Lib.hid ⟨HZ.out.1, HZ.out.2.2, _, HZ.out.2.1⟩⟩
  case round =>
    obtain ⟨j, hj, rfl, HK⟩ := hrel
    by_cases hlt : j < k.n
    · obtain ⟨hpr, hkp, q, hown⟩ := HK.out
      obtain ⟨gb, hgb, hgl, hgs⟩ := hown.form (by omega)
      subst hgb
      have hq : j < q.length := by rw [hown.len]; exact hlt
      obtain ⟨xb, hx⟩ : ∃ x, q[j]? = some x := ⟨_, List.getElem?_eq_getElem hq⟩
      have hc := hown.cellAt hx
      have hf := hown.freeAt j
      obtain ⟨yb, hy⟩ := byte_up19 xb
      have hx8 := xb.toNat_lt
      have HO := Lib.hid (And.intro hpr (And.intro hgl (And.intro hkp hown)))
      clear hx hgl hown hq hpr hgs hkp
      go_wp2_with fail
      go_roundw
      case rel => exact ⟨j + 1, by omega, by go_num, Lib.hid ⟨HO.out.1.poke (S := [gb]) ((Oth.refl [gb] wr).set (by simp) j _) (fun g hg => by rw [List.mem_singleton.1 hg]; simp [blkO]) (fun g hg => by rw [List.mem_singleton.1 hg]; exact Nat.le_trans HV.out HO.out.2.1), HO.out.2.2.1.trans (fun g hg => ((Oth.refl [gb] wr).set (by simp) j _).block g (HO.out.1.inG g (List.mem_append_right _ (List.mem_cons_of_mem _ hg))) (fun hm => by rw [List.mem_singleton.1 hm] at hg; have := HG.out gb hg; have := HO.out.2.1; omega)), _, HO.out.2.2.2.stored j yb _ (by rw [bv])⟩⟩
      case measure => simp [intOf]; omega
    · go_wp2_with fail
      go_ret
      exact ⟨rfl, HK.out.1.less (fun g hg => List.mem_append_right _ (List.mem_cons_of_mem _ hg)), HK.out.2.1⟩
set_option maxRecDepth 100000 in
set_option maxHeartbeats 8000000 in
theorem do19_ret (N F : Nat) (v : World) (x y : Nat) (s t : Rg) (G : List Nat) (w : World) (h : PR N F v x y s t G w) (k : Cr) (hk : k.ok v.heap.size v) (hn : k.n ≤ 100) (h1 : k.t = 1) :
    Calls Tryz.prog 29 #[.pointer (some ⟨x, 0, none⟩), .pointer (some ⟨y, 0, none⟩), k.val] w (RetG19 N F v x y s t G k w) := by
  have HK := Lib.hid hk
  have HH := Lib.hid h
  have hklen := hk.1.len
  obtain ⟨kt, HT⟩ : ∃ z, Hid (k.t = z) := ⟨_, Lib.hid rfl⟩
  have HD : ∀ s, doR s k = retR s k.q := fun s => by unfold doR; rw [if_neg (by omega), if_pos h1]
  have d0 : ((kt : Int) == 0) = false := by rw [beq_eq_false_iff_ne, ← HT.out]; omega
  have d1 : ((kt : Int) == 1) = true := by rw [beq_iff_eq, ← HT.out]; exact h1
  unfold RetG19
  rw [HD, HD]
  clear h hk HD
  unfold Cr.val
  go_enter Tryz.func29, Tryz.ntmps29
  go_wp2_with (first
    | (refine wpList_boxB rfl 63 (.tmp 2) rfl k.cells rfl ?_; intro w1 bx k1 hb1 hbx; have c0 : w1.cell? ⟨bx, 0, none⟩ = some (.int .i64 k.t) := k1.cell 0; have cq : w1.cell? ⟨bx, 1, none⟩ = some (.int .i64 k.q) := k1.cell 1; have c2 : w1.cell? ⟨bx, 2, none⟩ = some (.slice k.A k.n k.c) := k1.cell 2; have K1 := Lib.hid k1; have P1 := Lib.hid (HH.out.fresh (w' := w1) [bx] (fun g hg => by rw [List.mem_singleton.1 hg]; exact ⟨hbx, k1.lt⟩) hb1); have HV : Hid (v.heap.size ≤ w1.heap.size) := Lib.hid (Nat.le_trans HH.out.bel.size hb1.size); have HG : Hid (∀ g ∈ G, g < w1.heap.size) := Lib.hid (fun g hg => Nat.lt_of_lt_of_le (HH.out.inG g hg) hb1.size); have HKP1 := Lib.hid (HH.out.kp hb1); clear k1 hb1 hbx))
  refine (copy_any k.A k.n k.c 0 k.key w1 (by exact HK.out.1.step P1.out.bel) (by omega)).mono ?_
  rintro e w2 ⟨A1, c1, rfl, ho, hb2⟩
  have P2 : Hid (PR N F v x y s t (blkO A1 ++ (bx :: G)) w2) := Lib.hid (P1.out.fresh (blkO A1) (fun g hg => own_lt ho g hg) hb2)
  have O2 := Lib.hid ho
  have HKP2 := Lib.hid (HKP1.out.trans ((P1.out.kp hb2).less (fun g hg => List.mem_cons_of_mem _ hg)))
  have K2 := Lib.hid (K1.out.step hb2)
  have c0 : w2.cell? ⟨bx, 0, none⟩ = some (.int .i64 kt) := by rw [← HT.out]; exact K2.out.cell 0
  have cq : w2.cell? ⟨bx, 1, none⟩ = some (.int .i64 k.q) := K2.out.cell 1
  have c2 : w2.cell? ⟨bx, 2, none⟩ = some (.slice k.A k.n k.c) := K2.out.cell 2
  clear ho hb2 K1 P1
  go_wp2_with fail
  refine wp_region_held_drew (S := fun w' => w'.cell? ⟨bx, 1, none⟩ = some (.int .i64 k.q) ∧ w'.cell? ⟨bx, 2, none⟩ = some (.slice k.A k.n k.c)) (by kernel_rfl) ⟨cq, c2⟩ (fun hHeld => ?_)
  (try dsimp only at hHeld)
  refine wpAnyH_take (i := 0) (v := ?v0_12) rfl (by kernel_rfl) (by kernel_rfl) (by kernel_rfl) (fun _ _ _ h => h) (Or.inl ⟨by rfl, ?hy0_12⟩) hHeld ?_
  case hy0_12 => (intro w hSw; (try dsimp only at hSw); obtain ⟨hs1, hs2⟩ := hSw; (try simp only [List.getElem_toArray, List.getElem_cons_zero, List.getElem_cons_succ]); go_simp <;> with_reducible rfl)
  (try simp only [Act.put, List.getElem_toArray, List.getElem_cons_zero, List.getElem_cons_succ, List.setIfInBounds_toArray, List.set_cons_zero, List.set_cons_succ])
  refine wpAnyH_take (i := 1) (v := ?v1_13) rfl (by kernel_rfl) (by kernel_rfl) (by kernel_rfl) (fun _ _ _ h => h) (Or.inl ⟨by rfl, ?hy1_13⟩) hHeld ?_
  case hy1_13 => (intro w hSw; (try dsimp only at hSw); obtain ⟨hs1, hs2⟩ := hSw; (try simp only [List.getElem_toArray, List.getElem_cons_zero, List.getElem_cons_succ]); go_simp <;> with_reducible rfl)
  (try simp only [Act.put, List.getElem_toArray, List.getElem_cons_zero, List.getElem_cons_succ, List.setIfInBounds_toArray, List.set_cons_zero, List.set_cons_succ])
  refine wpAnyH_take (i := 2) (v := ?v2_14) rfl (by kernel_rfl) (by kernel_rfl) (by kernel_rfl) (fun _ _ _ h => h) (Or.inl ⟨by rfl, ?hy2_14⟩) hHeld ?_
  case hy2_14 => (intro w hSw; (try dsimp only at hSw); obtain ⟨hs1, hs2⟩ := hSw; (try simp only [List.getElem_toArray, List.getElem_cons_zero, List.getElem_cons_succ]); go_simp <;> with_reducible rfl)
  (try simp only [Act.put, List.getElem_toArray, List.getElem_cons_zero, List.getElem_cons_succ, List.setIfInBounds_toArray, List.set_cons_zero, List.set_cons_succ])
  refine wpAnyH_take (i := 4) (v := ?v4_15) rfl (by kernel_rfl) (by kernel_rfl) (by kernel_rfl) (fun _ _ _ h => h) (Or.inl ⟨by rfl, ?hy4_15⟩) hHeld ?_
  case hy4_15 => (intro w hSw; (try dsimp only at hSw); obtain ⟨hs1, hs2⟩ := hSw; (try simp only [List.getElem_toArray, List.getElem_cons_zero, List.getElem_cons_succ]); go_simp <;> with_reducible rfl)
  (try simp only [Act.put, List.getElem_toArray, List.getElem_cons_zero, List.getElem_cons_succ, List.setIfInBounds_toArray, List.set_cons_zero, List.set_cons_succ])
  refine wpAnyH_take (i := 5) (v := ?v5_16) rfl (by kernel_rfl) (by kernel_rfl) (by kernel_rfl) (fun _ _ _ h => h) (Or.inl ⟨by rfl, ?hy5_16⟩) hHeld ?_
  case hy5_16 => (intro w hSw; (try dsimp only at hSw); obtain ⟨hs1, hs2⟩ := hSw; (try simp only [List.getElem_toArray, List.getElem_cons_zero, List.getElem_cons_succ]); go_simp <;> with_reducible rfl)
  (try simp only [Act.put, List.getElem_toArray, List.getElem_cons_zero, List.getElem_cons_succ, List.setIfInBounds_toArray, List.set_cons_zero, List.set_cons_succ])
  refine wpAnyH_take (i := 6) (v := ?v6_17) rfl (by kernel_rfl) (by kernel_rfl) (by kernel_rfl) (fun _ _ _ h => h) (Or.inl ⟨by rfl, ?hy6_17⟩) hHeld ?_
  case hy6_17 => (intro w hSw; (try dsimp only at hSw); obtain ⟨hs1, hs2⟩ := hSw; (try simp only [List.getElem_toArray, List.getElem_cons_zero, List.getElem_cons_succ]); go_simp <;> with_reducible rfl)
  (try simp only [Act.put, List.getElem_toArray, List.getElem_cons_zero, List.getElem_cons_succ, List.setIfInBounds_toArray, List.set_cons_zero, List.set_cons_succ])
  refine wpAnyH_ready (rs := [3]) (by kernel_rfl) (by simp) ?_
  refine AllReadyH.cons rfl (fun K hK => ?_) AllReadyH.nil
  (try simp only [List.getElem_toArray, List.getElem_cons_zero, List.getElem_cons_succ])
  go_simp
  refine (pr_ret N F v x y (s) (t) _ w2.drew (by first | exact P2.out | exact P2.out.step ((Below.refl _ _).drew)) k.q).mono ?_
  rintro e w3 ⟨rfl, hp3, hk3⟩
  have P3 := Lib.hid hp3
  have K3 := Lib.hid (K2.out.kp hk3 (by simp))
  have O3 := Lib.hid (O2.out.kp hk3 (fun g hg => List.mem_append_left _ hg))
  have HKP3 := Lib.hid (HKP2.out.trans (hk3.less (fun g hg => List.mem_append_right _ (List.mem_cons_of_mem _ hg))))
  clear hk3
  clear hp3
  (try go_wp2_with fail)
  refine hK.out _ _ ⟨K3.out.cell 1, K3.out.cell 2⟩ (fun hHeld => ?_)
  clear hK K
  (try simp only [Act.put, List.getElem_toArray, List.getElem_cons_zero, List.getElem_cons_succ, List.setIfInBounds_toArray, List.set_cons_zero, List.set_cons_succ])
  refine wpAnyH_ready (rs := [7]) (by kernel_rfl) (by simp) ?_
  refine AllReadyH.cons rfl (fun K hK => ?_) AllReadyH.nil
  (try simp only [List.getElem_toArray, List.getElem_cons_zero, List.getElem_cons_succ])
  go_simp
  refine (pr_rret N F v x y ((retR s k.q).1) (t) _ w3 (by first | exact P3.out | exact P3.out.step ((Below.refl _ _).drew)) k.q).mono ?_
  rintro e w4 ⟨rfl, hp4, hk4⟩
  have P4 := Lib.hid hp4
  have K4 := Lib.hid (K3.out.kp hk4 (by simp))
  have O4 := Lib.hid (O3.out.kp hk4 (fun g hg => List.mem_append_left _ hg))
  have HKP4 := Lib.hid (HKP3.out.trans (hk4.less (fun g hg => List.mem_append_right _ (List.mem_cons_of_mem _ hg))))
  clear hk4
  clear hp4
  (try go_wp2_with fail)
  refine hK.out _ _ ⟨K4.out.cell 1, K4.out.cell 2⟩ (fun hHeld => ?_)
  clear hK K
  (try simp only [Act.put, List.getElem_toArray, List.getElem_cons_zero, List.getElem_cons_succ, List.setIfInBounds_toArray, List.set_cons_zero, List.set_cons_succ])
  refine wpAnyH_take (i := 8) (v := ?v8_18) rfl (by kernel_rfl) (by kernel_rfl) (by kernel_rfl) (fun _ _ _ h => h) (Or.inl ⟨by rfl, ?hy8_18⟩) hHeld ?_
  case hy8_18 => (intro w hSw; (try dsimp only at hSw); (try simp only [List.getElem_toArray, List.getElem_cons_zero, List.getElem_cons_succ]); go_simp <;> with_reducible rfl)
  (try simp only [Act.put, List.getElem_toArray, List.getElem_cons_zero, List.getElem_cons_succ, List.setIfInBounds_toArray, List.set_cons_zero, List.set_cons_succ])
  refine wpAnyH_take (i := 9) (v := ?v9_19) rfl (by kernel_rfl) (by kernel_rfl) (by kernel_rfl) (fun _ _ _ h => h) (Or.inl ⟨by rfl, ?hy9_19⟩) hHeld ?_
  case hy9_19 => (intro w hSw; (try dsimp only at hSw); (try simp only [List.getElem_toArray, List.getElem_cons_zero, List.getElem_cons_succ]); go_simp <;> with_reducible rfl)
  (try simp only [Act.put, List.getElem_toArray, List.getElem_cons_zero, List.getElem_cons_succ, List.setIfInBounds_toArray, List.set_cons_zero, List.set_cons_succ])
  refine wpAnyH_done (by kernel_rfl) ?_ _
  have HZ := Lib.hid (And.intro P4.out (And.intro O4.out HKP4.out))
  go_wp2_with fail
  go_loopw [9] (fun i wr => ∃ j : Nat, j ≤ k.n ∧ i = .int .i64 (j : Int) ∧ Hid (PR N F v x y ((retR s k.q).1) ((retR t k.q).1) (blkO A1 ++ (bx :: G)) wr ∧ Kp G w wr ∧ ∃ q, OwnB wr w1.heap.size A1 k.n c1 q)) (fun i _ => k.n - (intOf i).toNat)
  case atStart => exact ⟨0, by omega, rfl, Lib.hid ⟨HZ.out.1, HZ.out.2.2, _, HZ.out.2.1⟩⟩
  case round =>
    obtain ⟨j, hj, rfl, HK⟩ := hrel
    by_cases hlt : j < k.n
    · obtain ⟨hpr, hkp, q, hown⟩ := HK.out
      obtain ⟨gb, hgb, hgl, hgs⟩ := hown.form (by omega)
      subst hgb
      have hq : j < q.length := by rw [hown.len]; exact hlt
      obtain ⟨xb, hx⟩ : ∃ x, q[j]? = some x := ⟨_, List.getElem?_eq_getElem hq⟩
      have hc := hown.cellAt hx
      have hf := hown.freeAt j
      obtain ⟨yb, hy⟩ := byte_up19 xb
      have hx8 := xb.toNat_lt
      have HO := Lib.hid (And.intro hpr (And.intro hgl (And.intro hkp hown)))
      clear hx hgl hown hq hpr hgs hkp
      go_wp2_with fail
      go_roundw
      case rel => exact ⟨j + 1, by omega, by go_num, Lib.hid ⟨HO.out.1.poke (S := [gb]) ((Oth.refl [gb] wr).set (by simp) j _) (fun g hg => by rw [List.mem_singleton.1 hg]; simp [blkO]) (fun g hg => by rw [List.mem_singleton.1 hg]; exact Nat.le_trans HV.out HO.out.2.1), HO.out.2.2.1.trans (fun g hg => ((Oth.refl [gb] wr).set (by simp) j _).block g (HO.out.1.inG g (List.mem_append_right _ (List.mem_cons_of_mem _ hg))) (fun hm => by rw [List.mem_singleton.1 hm] at hg; have := HG.out gb hg; have := HO.out.2.1; omega)), _, HO.out.2.2.2.stored j yb _ (by rw [bv])⟩⟩
      case measure => simp [intOf]; omega
    · go_wp2_with fail
      go_ret
      exact ⟨rfl, HK.out.1.less (fun g hg => List.mem_append_right _ (List.mem_cons_of_mem _ hg)), HK.out.2.1⟩
set_option maxRecDepth 100000 in
set_option maxHeartbeats 8000000 in
theorem do19_else (N F : Nat) (v : World) (x y : Nat) (s t : Rg) (G : List Nat) (w : World) (h : PR N F v x y s t G w) (k : Cr) (hk : k.ok v.heap.size v) (hn : k.n ≤ 100) (h0 : k.t ≠ 0 ∧ k.t ≠ 1) :
    Calls Tryz.prog 29 #[.pointer (some ⟨x, 0, none⟩), .pointer (some ⟨y, 0, none⟩), k.val] w (RetG19 N F v x y s t G k w) := by
  have HK := Lib.hid hk
  have HH := Lib.hid h
  have hklen := hk.1.len
  obtain ⟨kt, HT⟩ : ∃ z, Hid (k.t = z) := ⟨_, Lib.hid rfl⟩
  have HD : ∀ s, doR s k = (s, 0) := fun s => by unfold doR; rw [if_neg h0.1, if_neg h0.2]
  have d0 : ((kt : Int) == 0) = false := by rw [beq_eq_false_iff_ne, ← HT.out]; exact h0.1
  have d1 : ((kt : Int) == 1) = false := by rw [beq_eq_false_iff_ne, ← HT.out]; exact h0.2
  unfold RetG19
  rw [HD, HD]
  clear h hk HD
  unfold Cr.val
  go_enter Tryz.func29, Tryz.ntmps29
  go_wp2_with (first
    | (refine wpList_boxB rfl 63 (.tmp 2) rfl k.cells rfl ?_; intro w1 bx k1 hb1 hbx; have c0 : w1.cell? ⟨bx, 0, none⟩ = some (.int .i64 k.t) := k1.cell 0; have cq : w1.cell? ⟨bx, 1, none⟩ = some (.int .i64 k.q) := k1.cell 1; have c2 : w1.cell? ⟨bx, 2, none⟩ = some (.slice k.A k.n k.c) := k1.cell 2; have K1 := Lib.hid k1; have P1 := Lib.hid (HH.out.fresh (w' := w1) [bx] (fun g hg => by rw [List.mem_singleton.1 hg]; exact ⟨hbx, k1.lt⟩) hb1); have HV : Hid (v.heap.size ≤ w1.heap.size) := Lib.hid (Nat.le_trans HH.out.bel.size hb1.size); have HG : Hid (∀ g ∈ G, g < w1.heap.size) := Lib.hid (fun g hg => Nat.lt_of_lt_of_le (HH.out.inG g hg) hb1.size); have HKP1 := Lib.hid (HH.out.kp hb1); clear k1 hb1 hbx))
  refine (copy_any k.A k.n k.c 0 k.key w1 (by exact HK.out.1.step P1.out.bel) (by omega)).mono ?_
  rintro e w2 ⟨A1, c1, rfl, ho, hb2⟩
  have P2 : Hid (PR N F v x y s t (blkO A1 ++ (bx :: G)) w2) := Lib.hid (P1.out.fresh (blkO A1) (fun g hg => own_lt ho g hg) hb2)
  have O2 := Lib.hid ho
  have HKP2 := Lib.hid (HKP1.out.trans ((P1.out.kp hb2).less (fun g hg => List.mem_cons_of_mem _ hg)))
  have K2 := Lib.hid (K1.out.step hb2)
  have c0 : w2.cell? ⟨bx, 0, none⟩ = some (.int .i64 kt) := by rw [← HT.out]; exact K2.out.cell 0
  have cq : w2.cell? ⟨bx, 1, none⟩ = some (.int .i64 k.q) := K2.out.cell 1
  have c2 : w2.cell? ⟨bx, 2, none⟩ = some (.slice k.A k.n k.c) := K2.out.cell 2
  clear ho hb2 K1 P1
  have HZ := Lib.hid (And.intro P2.out (And.intro O2.out HKP2.out))
  go_wp2_with fail
  go_loopw [9] (fun i wr => ∃ j : Nat, j ≤ k.n ∧ i = .int .i64 (j : Int) ∧ Hid (PR N F v x y (s) (t) (blkO A1 ++ (bx :: G)) wr ∧ Kp G w wr ∧ ∃ q, OwnB wr w1.heap.size A1 k.n c1 q)) (fun i _ => k.n - (intOf i).toNat)
  case atStart => exact ⟨0, by omega, rfl, Lib.hid ⟨HZ.out.1, HZ.out.2.2, _, HZ.out.2.1⟩⟩
  case round =>
    obtain ⟨j, hj, rfl, HK⟩ := hrel
    by_cases hlt : j < k.n
    · obtain ⟨hpr, hkp, q, hown⟩ := HK.out
      obtain ⟨gb, hgb, hgl, hgs⟩ := hown.form (by omega)
      subst hgb
      have hq : j < q.length := by rw [hown.len]; exact hlt
      obtain ⟨xb, hx⟩ : ∃ x, q[j]? = some x := ⟨_, List.getElem?_eq_getElem hq⟩
      have hc := hown.cellAt hx
      have hf := hown.freeAt j
      obtain ⟨yb, hy⟩ := byte_up19 xb
      have hx8 := xb.toNat_lt
      have HO := Lib.hid (And.intro hpr (And.intro hgl (And.intro hkp hown)))
      clear hx hgl hown hq hpr hgs hkp
      go_wp2_with fail
      go_roundw
      case rel => exact ⟨j + 1, by omega, by go_num, Lib.hid ⟨HO.out.1.poke (S := [gb]) ((Oth.refl [gb] wr).set (by simp) j _) (fun g hg => by rw [List.mem_singleton.1 hg]; simp [blkO]) (fun g hg => by rw [List.mem_singleton.1 hg]; exact Nat.le_trans HV.out HO.out.2.1), HO.out.2.2.1.trans (fun g hg => ((Oth.refl [gb] wr).set (by simp) j _).block g (HO.out.1.inG g (List.mem_append_right _ (List.mem_cons_of_mem _ hg))) (fun hm => by rw [List.mem_singleton.1 hm] at hg; have := HG.out gb hg; have := HO.out.2.1; omega)), _, HO.out.2.2.2.stored j yb _ (by rw [bv])⟩⟩
      case measure => simp [intOf]; omega
    · go_wp2_with fail
      go_ret
      exact ⟨rfl, HK.out.1.less (fun g hg => List.mem_append_right _ (List.mem_cons_of_mem _ hg)), HK.out.2.1⟩
theorem do19_g (N F : Nat) (v : World) (x y : Nat) (s t : Rg) (G : List Nat) (w : World) (h : PR N F v x y s t G w) (k : Cr) (hk : k.ok v.heap.size v) (hn : k.n ≤ 100) :
    Calls Tryz.prog 29 #[.pointer (some ⟨x, 0, none⟩), .pointer (some ⟨y, 0, none⟩), k.val] w (RetG19 N F v x y s t G k w) := by
  by_cases h0 : k.t = 0
  · exact do19_inst N F v x y s t G w h k hk hn h0
  by_cases h1 : k.t = 1
  · exact do19_ret N F v x y s t G w h k hk hn h1
  · exact do19_else N F v x y s t G w h k hk hn ⟨h0, h1⟩
theorem do19_any (N F : Nat) (v : World) (x y : Nat) (s t : Rg) (w : World) (h : PR N F v x y s t [] w) (k : Cr) (hk : k.ok v.heap.size v) (hn : k.n ≤ 100) :
    Calls Tryz.prog 29 #[.pointer (some ⟨x, 0, none⟩), .pointer (some ⟨y, 0, none⟩), k.val] w (RetD19 N F v x y s t k w) :=
  (do19_g N F v x y s t [] w h k hk hn).mono fun e w' hr => ⟨hr.1, hr.2.1⟩
end Go.Proofs.YthllaoeioddddaaGreat

/- Layer 19: the statements' Agree, and the check that stands at their head. Condition: what is said of the rings. -/
namespace Go.Proofs.YthllaoeioddddaaGreat
open Go.RowKit
set_option linter.unusedVariables false
set_option linter.unusedSimpArgs false
/-! alive. -/
def zr19 : List UInt8 := List.replicate 16 0
def S1r : Rg := [(3, zr19)]
def S2r : Rg := [(3, zr19), (7, zr19)]
def S3r : Rg := [(3, zr19), (7, zr19), (5, zr19)]
/-- The ring, the same behind a clone. -/
def LR1 (v : World) (x : Nat) (s : Rg) (w : World) : Prop := Below v.heap.size v w ∧ ∃ A c es, Rn v.heap.size w x A c es 1 0 ∧ rgE es = s
def LR2 (v : World) (x : Nat) (s : Rg) (y : Nat) (u : Rg) (w : World) : Prop := Below v.heap.size v w ∧ ∃ A c es vc B d fs, Rn v.heap.size w x A c es 1 0 ∧ rgE es = s ∧ Rn vc w y B d fs 1 0 ∧ rgE fs = u ∧ ∀ g ∈ x :: blkO A, g < vc
section
variable {v w w' : World} {x y : Nat} {s u : Rg}
theorem LR1.step (h : LR1 v x s w) (hb : Below w.heap.size w w') : LR1 v x s w' := by
  obtain ⟨hv, A, c, es, h1, h2⟩ := h
  exact ⟨bel_next hv hb, A, c, es, h1.step hb, h2⟩
theorem LR2.step (h : LR2 v x s y u w) (hb : Below w.heap.size w w') : LR2 v x s y u w' := by
  obtain ⟨hv, A, c, es, vc, B, d, fs, h1, h2, h3, h4, h5⟩ := h
  exact ⟨bel_next hv hb, A, c, es, vc, B, d, fs, h1.step hb, h2, h3.step hb, h4, h5⟩
theorem LR2.one (h : LR2 v x s y u w) : LR1 v x s w := by
  obtain ⟨hv, A, c, es, vc, B, d, fs, h1, h2, h3, h4, h5⟩ := h
  exact ⟨hv, A, c, es, h1, h2⟩
theorem LR2.other (h : LR2 v x s y u w) : ∃ vc B d fs, Rn vc w y B d fs 1 0 ∧ rgE fs = u := by
  obtain ⟨hv, A, c, es, vc, B, d, fs, h1, h2, h3, h4, h5⟩ := h
  exact ⟨vc, B, d, fs, h3, h4⟩
end
end Go.Proofs.YthllaoeioddddaaGreat

/- Layer 19: what the statements' walks share: many calls, plain; the ring beside blocks of the walk's own. No condition; nothing is claimed of the program here. -/
namespace Go.Proofs.YthllaoeioddddaaGreat
open Go.RowKit
set_option linter.unusedVariables false
set_option linter.unusedSimpArgs false
/-- The keys behind the first i calls. -/
def upR (ks : List Cr) (i : Nat) : Rg := (ks.take i).foldl (fun s k => (doR s k).1) []
theorem upR_next {ks : List Cr} {i : Nat} {k : Cr} (h : ks[i]? = some k) : upR ks (i + 1) = (doR (upR ks i) k).1 := by
  unfold upR
  rw [List.take_add_one, h, List.foldl_append]
  rfl
theorem ex_ldCr (ev : Operand → Value) (x : Operand) (d : Option Tmp) (ty : TypeId) (ps : String) (af : Array Edge) (g : Option (Nat × Bool)) (w : World) : (execOp ev ⟨d, .load 63 x, ty, ps, af, g⟩).run Tryz.prog w = ldHd 63 (ev x) w := rfl
theorem ldCr_r {w : World} {b o : Nat} {k : Cr} (h : w.rangeAt b o k.cells) : ldHd 63 (.pointer (some ⟨b, o, none⟩)) w = .ok (.value (.agg #[.int .i64 k.t, .int .i64 k.q, .slice k.A k.n k.c])) w := by
  obtain ⟨d, hu, hd⟩ := rt_call19.row
  have := run_loadAt_mid (P := Tryz.prog) w b o 63 k.cells d h hu hd rt_call19.size
  unfold ldHd
  simp only [Sem.run_bind, this, Result.andThen_ok, Sem.run_pure]
  rfl
section
variable {v w w' : World} {x y c d : Nat} {s t : Rg} {G S : List Nat} {A B : Option Addr} {es : Ens} {ks : List KR}
theorem Rs.base_le {b base : Nat} (h : Rs base w y B d ks) (hb : b ≤ base) : Rs b w y B d ks := ⟨h.blk, h.grd.base_le hb, h.key, Nat.le_trans hb h.low⟩
/-- A ring that was there, and the reference's that is new. -/
theorem PR.pair (h1 : Rn v.heap.size w x A c es 1 0) (hv : Below v.heap.size v w) (hb : Below w.heap.size w w') (h2 : Rs w.heap.size w' y B d ks) (he : rgE es = s) (hk : rgK ks = t) (os : okR s) (ot : okR t) (hko : ∀ k ∈ ks, ∀ g ∈ blkO k.A, g < v.heap.size) : PR 1 0 v x y s t [] w' :=
  ⟨A, c, es, B, d, ks, bel_next hv hb, h1.step hb, h2.base_le hv.size, he, hk, fun e hm => ⟨.inr (Nat.le_trans (h1.ok e hm).1.le h2.low), fun g hg => .inr (Nat.le_trans (h1.ok e hm).1.le (h2.grd.lt g hg).1)⟩, fun g hg => (by cases hg), os, ot, Nat.le_refl _, fun e he k hk g hg => .inl (Nat.lt_of_lt_of_le (hko k hk g hg) (h1.ok e he).2.2.1)⟩
/-- A ring, and blocks that are none of its own. -/
def RG (v : World) (x : Nat) (s : Rg) (G : List Nat) (w : World) : Prop := Below v.heap.size v w ∧ okR s ∧ ∃ A c es, Rn v.heap.size w x A c es 1 0 ∧ rgE es = s ∧ ∀ g ∈ G, g < w.heap.size ∧ g ≠ x ∧ g ∉ blkO A
theorem RG.step (h : RG v x s G w) (hb : Below w.heap.size w w') : RG v x s G w' := by
  obtain ⟨hv, os, A, c, es, h1, h2, h3⟩ := h
  exact ⟨bel_next hv hb, os, A, c, es, h1.step hb, h2, fun g hg => ⟨Nat.lt_of_lt_of_le (h3 g hg).1 hb.size, (h3 g hg).2⟩⟩
theorem RG.fresh (h : RG v x s G w) (L : List Nat) (hL : ∀ g ∈ L, w.heap.size ≤ g ∧ g < w'.heap.size) (hb : Below w.heap.size w w') : RG v x s (L ++ G) w' := by
  obtain ⟨hv, os, A, c, es, h1, h2, h3⟩ := h
  refine ⟨bel_next hv hb, os, A, c, es, h1.step hb, h2, fun g hg => ?_⟩
  rcases List.mem_append.1 hg with hg | hg
  · obtain ⟨a, b⟩ := hL g hg
    have := h1.blk.lt
    exact ⟨b, by omega, fun hm => by have := (h1.grd.lt g hm).2; omega⟩
  · exact ⟨Nat.lt_of_lt_of_le (h3 g hg).1 hb.size, (h3 g hg).2⟩
theorem RG.all {s' : Rg} (h1 : Rn v.heap.size w x A c es 1 0) (hv : Below v.heap.size v w) (h3 : ∀ g ∈ G, g < w.heap.size ∧ g ≠ x ∧ g ∉ blkO A) (hr : RetRn v.heap.size x A es 1 0 s' w w') (os : okR s') : RG v x s' G w' ∧ Kp G w w' := by
  obtain ⟨A', c', es', r1, r2, r3, r4, r5⟩ := hr
  refine ⟨⟨hv.trans (r3.below (fun g hg => by
    rcases List.mem_cons.1 hg with rfl | hg
    · exact h1.low
    · exact (h1.grd.lt g hg).1) hv.size), os, A', c', es', r1, r2, fun g hg => ⟨Nat.lt_of_lt_of_le (h3 g hg).1 r3.size, (h3 g hg).2.1, fun hm => ?_⟩⟩, fun g hg => r3.block g (h3 g hg).1 (fun hm => ?_)⟩
  · rcases r5 g hm with z | z
    · exact (h3 g hg).2.2 z
    · have := (h3 g hg).1; omega
  · rcases List.mem_cons.1 hm with e | hm
    · exact (h3 g hg).2.1 e
    · exact (h3 g hg).2.2 hm
theorem RG.pr (h : RG v x s [] w) (hb : Below w.heap.size w w') (hy : Blk 84 w' y [.slice none 0 0]) (hl : w.heap.size ≤ y) : PR 1 0 v x y s [] [] w' := by
  obtain ⟨hv, os, A, c, es, h1, h2, _⟩ := h
  exact PR.pair h1 hv hb (Rs.new hy hl) h2 rfl os nil_okR (fun k hk => (by cases hk))
theorem RG.ok (h : RG v x s G w) : okR s := h.2.1
theorem OwnZ.kp {base n : Nat} {l : List Int} (h : OwnZ w base A n c l) (k : Kp G w w') (hg : ∀ g ∈ blkO A, g ∈ G) : OwnZ w' base A n c l := by
  refine ⟨⟨h.1.1, ?_⟩, h.2⟩
  rcases h.1.2 with h0 | ⟨g, cap, cur, hv, hbg, hh, r⟩
  · exact .inl h0
  · have hA : A = some ⟨g, 0, none⟩ := by injection hv
    exact .inr ⟨g, cap, cur, hv, hbg, (k g (hg g (by rw [hA]; simp [blkO]))).trans hh, r⟩
theorem RG.none (h : RG v x s G w) : RG v x s [] w := by
  obtain ⟨hv, os, A, c, es, h1, h2, h3⟩ := h
  exact ⟨hv, os, A, c, es, h1, h2, fun g hg => (by cases hg)⟩
end
theorem rg_inst (v w : World) (x : Nat) (s : Rg) (G : List Nat) (h : RG v x s G w) (q : Int) (K : Option Addr) (m d : Nat) (l : List UInt8) (hk : RB w w.heap.size K m l) (hd : m ≤ d) :
    Calls Tryz.prog 31 #[.pointer (some ⟨x, 0, none⟩), .int .i64 q, .slice K m d] w fun e w' => e = .returned (.int .i64 (instR s q l).2) ∧ RG v x (instR s q l).1 G w' ∧ Kp G w w' := by
  obtain ⟨hv, os, A, c, es, h1, h2, h3⟩ := h
  subst h2
  exact (install_any _ x A c es 1 0 q K m d l w h1 (by have := os.n; rw [rg_len] at this; exact this) hk hd (Nat.le_refl _) hv.size).mono fun e w' hr => ⟨hr.1, RG.all h1 hv h3 hr.2 (inst_okR os)⟩
end Go.Proofs.YthllaoeioddddaaGreat

/- Layer 19: a ring's boxes in use: what a box's call answers and leaves of the ring, of the other boxes, of other rows. Condition: what is said of the ring; lengths are at most 65535 (65551). -/
namespace Go.Proofs.YthllaoeioddddaaGreat
attribute [local irreducible] wsW keyUpTo keyF lastW turn0 encUp decUp aftL encL tableL blksL blkL strmL putL numL xorL turnAt fstL hkL tagL trnL bB sumG nB sealR openR tagR
open Go.RowKit
set_option linter.unusedVariables false
set_option linter.unusedSimpArgs false
/-- A box's call: bytes, an error's number; the box is as it was but for its counts. -/
def RetEB (e : EB) (N F M : Nat) (L : List UInt8) (E : Int) (w : World) (r : Ending) (w' : World) : Prop :=
  ∃ A c, r = .returned (.tuple #[.slice A M c, .int .i64 E]) ∧ OwnB w' w.heap.size A M c L ∧ Oth e.S w w' ∧ e.Ok N F w'
theorem away_of {e : EB} {A : Option Addr} (h : ∀ g ∈ blkO A, g ∉ e.S) : AwayS A e.S := fun x hx g o ea he => by
  subst he
  exact h g (by rw [ea]; simp [blkO]) hx
theorem eb_seal (e : EB) (N F : Nat) (w : World) (h : e.Ok N F w) (hn : N + 1 ≤ 1000000000) (A1 A2 A3 : Option Addr) (n1 c1 n2 c2 n3 c3 : Nat) (l t a : List UInt8) (h1 : RB w w.heap.size A1 n1 l) (h2 : RB w w.heap.size A2 n2 t) (h3 : RB w w.heap.size A3 n3 a) (m3 : n3 ≤ c3) (a3 : 0 < n3 → ∀ g ∈ blkO A3, g ∉ e.S) (hn2 : n2 ≤ 65535) (hn3 : n3 ≤ 65535) (M : Nat) (L : List UInt8) (E : Int) (hR : sealR e.key l t a = (L, E)) (hM : L.length = M) :
    Calls Tryz.prog 47 #[.pointer (some ⟨e.x, 0, none⟩), .slice A1 n1 c1, .slice A2 n2 c2, .slice A3 n3 c3] w (RetEB e (N + 1) F M L E w) := by
  obtain ⟨p, f, hi, hf, hz⟩ := h
  rw [← hi.x]
  refine (gseal_r p N f A1 A2 A3 n1 c1 n2 c2 n3 c3 l t a w hz hn h1 h2 h3 m3 (fun h0 => by rw [hi.same]; exact away_of (a3 h0)) hn2 hn3).mono fun r w' hr => ?_
  obtain ⟨A, c, he, ho, hoff, hz'⟩ := hr.to f M L E rfl (by rw [hi.key]; exact hR) hM
  exact ⟨A, c, he, ho, by rw [← hi.same]; exact ⟨hoff.os, hoff.tape, hoff.output, hoff.size, hoff.block⟩, p, f, hi, hf, hz'⟩
theorem eb_open (e : EB) (N F : Nat) (w : World) (h : e.Ok N F w) (hn : N + 1 ≤ 1000000000) (hF : F ≤ 1000000000) (A1 A2 A3 : Option Addr) (n1 c1 n2 c2 n3 c3 : Nat) (l s a : List UInt8) (h1 : RB w w.heap.size A1 n1 l) (h2 : RB w w.heap.size A2 n2 s) (h3 : RB w w.heap.size A3 n3 a) (m2 : n2 ≤ c2) (m3 : n3 ≤ c3) (a1 : 0 < n1 → ∀ g ∈ blkO A1, g ∉ e.S) (a2 : 0 < n2 → ∀ g ∈ blkO A2, g ∉ e.S) (a3 : 0 < n3 → ∀ g ∈ blkO A3, g ∉ e.S) (hn2 : n2 ≤ 65551) (hn3 : n3 ≤ 65535) (M : Nat) (L : List UInt8) (E : Int) (hR : openR e.key l s a = (L, E)) (hM : L.length = M) :
    Calls Tryz.prog 83 #[.pointer (some ⟨e.x, 0, none⟩), .slice A1 n1 c1, .slice A2 n2 c2, .slice A3 n3 c3] w (RetEB e (N + 1) (F + 1) M L E w) := by
  obtain ⟨p, f, hi, hf, hz⟩ := h
  rw [← hi.x]
  refine (gopen_r p N f A1 A2 A3 n1 c1 n2 c2 n3 c3 l s a w hz hn (by omega) h1 h2 h3 m2 m3 (fun h0 => by rw [hi.same]; exact away_of (a1 h0)) (fun h0 => by rw [hi.same]; exact away_of (a2 h0)) (fun h0 => by rw [hi.same]; exact away_of (a3 h0)) hn2 hn3).mono fun r w' hr => ?_
  obtain ⟨A, c, he, ho, hoff, hz'⟩ := hr.to _ M L E rfl (by rw [hi.key]; exact hR) hM
  exact ⟨A, c, he, ho, by rw [← hi.same]; exact ⟨hoff.os, hoff.tape, hoff.output, hoff.size, hoff.block⟩, p, _, hi, by split <;> omega, hz'⟩
section
variable {v w w' : World} {base x c N F N' F' n d M : Nat} {A B : Option Addr} {es : Ens} {e0 : EB × Int} {l L : List UInt8} {E : Int} {r : Ending} {S : List Nat}
/-- Two of a ring's boxes are one, or lie apart. -/
theorem Rn.parted (h : Rn base w x A c es N F) : ∀ a ∈ es, ∀ b ∈ es, a = b ∨ a.1.H ≤ b.1.L ∨ b.1.H ≤ a.1.L := fun a ha b hb => by
  obtain ⟨i, hi, rfl⟩ := List.getElem_of_mem ha
  obtain ⟨j, hj, rfl⟩ := List.getElem_of_mem hb
  have hp := List.pairwise_iff_getElem.1 h.pw
  rcases Nat.lt_trichotomy i j with hl | hl | hl
  · exact .inr (.inl (hp i j hi hj hl))
  · subst hl; exact .inl rfl
  · exact .inr (.inr (hp j i hj hi hl))
theorem EB.Ok.not_in {e : EB} {g : Nat} (h : e.Ok N F w) (ho : e.out g) : g ∉ e.S := fun hm => by
  have := h.in_ g hm
  unfold EB.out at ho
  omega
/-- A box of the ring has been called. -/
theorem Rn.call (h : Rn base w x A c es N F) (h0 : e0 ∈ es) (ho : Oth e0.1.S w w') (hk : e0.1.Ok N' F' w') (hn : N ≤ N') (hf : F ≤ F') : Rn base w' x A c es N' F' := by
  obtain ⟨k1, k2, k3, k4, k5⟩ := h.ok e0 h0
  refine ⟨h.blk.oth ho (k1.not_in k4), h.grd.oth ho (fun g hg => k1.not_in (k5 g hg)), fun e he => ⟨?_, (h.ok e he).2⟩, h.pw, h.low⟩
  rcases h.parted e he e0 h0 with rfl | hd
  · exact hk
  · exact ((h.ok e he).1.off ho (fun g hg => by
      have := k1.in_ g hg
      unfold EB.out
      omega)).up hn hf
/-- What a walk carries: a ring whose boxes are called, and rows of bytes that are none of theirs. -/
structure BX (v : World) (x : Nat) (A : Option Addr) (c : Nat) (es : Ens) (N F : Nat) (rows : List (Option Addr × Nat × Nat × List UInt8)) (w : World) : Prop where
  bel : Below v.heap.size v w
  rn : Rn v.heap.size w x A c es N F
  row : ∀ r ∈ rows, RB w w.heap.size r.1 r.2.1 r.2.2.2 ∧ r.2.1 ≤ r.2.2.1 ∧ (0 < r.2.1 → ∀ g ∈ blkO r.1, ∀ e ∈ es, e.1.out g)
variable {rows : List (Option Addr × Nat × Nat × List UInt8)}
theorem BX.step (h : BX v x A c es N F rows w) (hb : Below w.heap.size w w') : BX v x A c es N F rows w' :=
  ⟨bel_next h.bel hb, h.rn.step hb, fun r hr => ⟨(h.row r hr).1.step hb, (h.row r hr).2⟩⟩
theorem BX.arg (h : BX v x A c es N F rows w) (hr : RB v v.heap.size B n l) (hc : n ≤ d) : BX v x A c es N F ((B, n, d, l) :: rows) w :=
  ⟨h.bel, h.rn, fun r hm => by
    rcases List.mem_cons.1 hm with rfl | hm
    · refine ⟨hr.step h.bel, hc, fun h0 g hg e he => .inl ?_⟩
      obtain ⟨b, o, eb, hlt, _⟩ := hr.2 h0
      rw [show B = some ⟨b, o, none⟩ from eb] at hg
      obtain rfl : g = b := by simpa [blkO] using hg
      exact Nat.lt_of_lt_of_le hlt (h.rn.ok e he).2.2.1
    · exact h.row r hm⟩
/-- New bytes. -/
theorem BX.own (h : BX v x A c es N F rows w) (hb : Below w.heap.size w w') (ho : OwnB w' w.heap.size B n d l) : BX v x A c es N F ((B, n, d, l) :: rows) w' :=
  ⟨bel_next h.bel hb, h.rn.step hb, fun r hm => by
    rcases List.mem_cons.1 hm with rfl | hm
    · exact ⟨ho.rb, ho.cap.1, fun _ g hg e he => .inr (Nat.le_trans (h.rn.ok e he).1.le (own_lt ho g hg).1)⟩
    · exact ⟨(h.row r hm).1.step hb, (h.row r hm).2⟩⟩
/-- A box's call. -/
theorem BX.call (h : BX v x A c es N F rows w) (h0 : e0 ∈ es) (hr : RetEB e0.1 N' F' M L E w r w') (hn : N ≤ N') (hf : F ≤ F') : ∃ B d, r = .returned (.tuple #[.slice B M d, .int .i64 E]) ∧ BX v x A c es N' F' ((B, M, d, L) :: rows) w' := by
  obtain ⟨B, d, he, ho, hoth, hok⟩ := hr
  obtain ⟨k1, k2, k3, k4, k5⟩ := h.rn.ok e0 h0
  have hlo : ∀ g ∈ e0.1.S, v.heap.size ≤ g := fun g hg => Nat.le_trans k3 (k1.in_ g hg).1
  refine ⟨B, d, he, h.bel.trans (hoth.below hlo h.bel.size), h.rn.call h0 hoth hok hn hf, fun q hm => ?_⟩
  rcases List.mem_cons.1 hm with rfl | hm
  · exact ⟨ho.rb, ho.cap.1, fun _ g hg e he => .inr (Nat.le_trans (h.rn.ok e he).1.le (own_lt ho g hg).1)⟩
  · obtain ⟨r1, r2, r3⟩ := h.row q hm
    exact ⟨r1.oth hoth (fun h0' g o eg => k1.not_in (r3 h0' g (by rw [eg]; simp [blkO]) e0 h0)), r2, r3⟩
theorem BX.not (h : BX v x A c es N F rows w) (h0 : e0 ∈ es) (hm : (B, n, d, l) ∈ rows) : 0 < n → ∀ g ∈ blkO B, g ∉ e0.1.S := fun hn g hg => (h.rn.ok e0 h0).1.not_in ((h.row _ hm).2.2 hn g hg e0 h0)
end
/-! A ring and the reference's, whose boxes are called, and rows of bytes that are none of theirs. -/
theorem PRe.call {N F N' F' : Nat} {v w w' : World} {x y c d : Nat} {s t : Rg} {G : List Nat} {A B : Option Addr} {es : Ens} {ks : List KR} {e0 : EB × Int} (h : PRe N F v x y s t G w A c es B d ks) (h0 : e0 ∈ es) (ho : Oth e0.1.S w w') (hk : e0.1.Ok N' F' w') (hn : N ≤ N') (hf : F ≤ F') : PRe N' F' v x y s t G w' A c es B d ks ∧ Kp G w w' := by
  obtain ⟨k1, k2, k3, k4, k5⟩ := h.rn.ok e0 h0
  have hlo : ∀ g ∈ e0.1.S, v.heap.size ≤ g := fun g hg => Nat.le_trans k3 (k1.in_ g hg).1
  refine ⟨⟨h.bel.trans (ho.below hlo h.bel.size), h.rn.call h0 ho hk hn hf, h.rs.off ho (k1.not_in (h.yo e0 h0).1) (fun g hg => k1.not_in ((h.yo e0 h0).2 g hg)) (fun k hk2 g hg => k1.not_in (h.ko e0 h0 k hk2 g hg)), h.ee, h.kk, h.yo, fun g hg => ⟨Nat.lt_of_lt_of_le (h.gs g hg).1 ho.size, (h.gs g hg).2⟩, h.os, h.ot, Nat.le_trans h.n1 hn, h.ko⟩, fun g hg => ho.block g (h.gs g hg).1 (k1.not_in ((h.gs g hg).2.2.2.2.2.1 e0 h0))⟩
/-- Blocks that are newer than all that the pair had in w. -/
theorem PRe.add {N F N' F' : Nat} {v w w' : World} {x y c d : Nat} {s t : Rg} {G : List Nat} {A B : Option Addr} {es : Ens} {ks : List KR} (h : PRe N F v x y s t G w A c es B d ks) (k : PRe N' F' v x y s t G w' A c es B d ks) (L : List Nat) (hL : ∀ g ∈ L, w.heap.size ≤ g ∧ g < w'.heap.size) : PRe N' F' v x y s t (L ++ G) w' A c es B d ks := by
  refine ⟨k.bel, k.rn, k.rs, k.ee, k.kk, k.yo, fun g hg => ?_, k.os, k.ot, k.n1, k.ko⟩
  rcases List.mem_append.1 hg with hg | hg
  · obtain ⟨h1, h2⟩ := hL g hg
    have hx := h.rn.blk.lt
    have hy := h.rs.blk.lt
    refine ⟨h2, by omega, by omega, fun hm => ?_, fun hm => ?_, fun e he => .inr (Nat.le_trans (h.rn.ok e he).1.le h1), fun r hr hm => ?_⟩
    · have := (h.rn.grd.lt g hm).2; omega
    · have := (h.rs.grd.lt g hm).2; omega
    · have := (own_lt (h.rs.key r hr) g hm).2; omega
  · exact k.gs g hg
/-- Where the pair lies. -/
structure XD where
  A : Option Addr
  c : Nat
  es : Ens
  B : Option Addr
  d : Nat
  ks : List KR
/-- A row that lies in G, or was there before. -/
def RowG (v : World) (G : List Nat) (w : World) (r : Option Addr × Nat × Nat × List UInt8) : Prop := RB w w.heap.size r.1 r.2.1 r.2.2.2 ∧ r.2.1 ≤ r.2.2.1 ∧ (0 < r.2.1 → ∀ g ∈ blkO r.1, g ∈ G ∨ g < v.heap.size)
structure TX (N F : Nat) (v : World) (x y : Nat) (s t : Rg) (D : XD) (G : List Nat) (rows : List (Option Addr × Nat × Nat × List UInt8)) (w : World) : Prop where
  pr : PRe N F v x y s t G w D.A D.c D.es D.B D.d D.ks
  row : ∀ r ∈ rows, RowG v G w r
section
variable {N F N' F' : Nat} {v w w' : World} {x y n c d M : Nat} {s t s' t' : Rg} {D : XD} {G : List Nat} {A B : Option Addr} {rows : List (Option Addr × Nat × Nat × List UInt8)} {l L : List UInt8} {E : Int} {r : Ending} {a : Int} {e0 : EB × Int}
theorem RowG.keep {q : Option Addr × Nat × Nat × List UInt8} (h : RowG v G w q) (hk : Kp G w w') (hv : ∀ k, k < v.heap.size → w'.heap[k]? = w.heap[k]?) (hG : ∀ g ∈ G, g < w'.heap.size) (hs : v.heap.size ≤ w'.heap.size) : RowG v G w' q := by
  obtain ⟨h1, h2, h3⟩ := h
  refine ⟨⟨h1.1, fun hn => ?_⟩, h2, h3⟩
  obtain ⟨b, o, e, hlt, hc⟩ := h1.2 hn
  have hb := h3 hn b (by rw [show q.1 = some ⟨b, o, none⟩ from e]; simp [blkO])
  refine ⟨b, o, e, hb.elim (hG b) (fun k => by omega), fun i hi => ?_⟩
  rw [← hc i hi]
  exact World.cell?_of_block (w := w) (a := ⟨b, o + i, none⟩) (hb.elim (hk b) (hv b))
theorem PR.tx (h : PR N F v x y s t G w) : ∃ D, TX N F v x y s t D G [] w := by
  obtain ⟨A, c, es, B, d, ks, h⟩ := h
  exact ⟨⟨A, c, es, B, d, ks⟩, h, fun r hr => (by cases hr)⟩
theorem TX.out (h : TX N F v x y s t D G rows w) : PR N F v x y s t G w := ⟨_, _, _, _, _, _, h.pr⟩
theorem TX.bel (h : TX N F v x y s t D G rows w) : Below v.heap.size v w := h.pr.bel
theorem TX.step (h : TX N F v x y s t D G rows w) (hb : Below w.heap.size w w') : TX N F v x y s t D G rows w' :=
  ⟨h.pr.oth (S := []) (Oth.of_below hb) (hb.mono h.pr.bel.size) (fun g hg => by cases hg), fun q hq => ⟨(h.row q hq).1.step hb, (h.row q hq).2⟩⟩
theorem TX.arg (h : TX N F v x y s t D G rows w) (hr : RB v v.heap.size B n l) (hc : n ≤ d) : TX N F v x y s t D G ((B, n, d, l) :: rows) w :=
  ⟨h.pr, fun q hq => by
    rcases List.mem_cons.1 hq with rfl | hq
    · refine ⟨hr.step h.pr.bel, hc, fun h0 g hg => .inr ?_⟩
      obtain ⟨b, o, eb, hlt, _⟩ := hr.2 h0
      rw [show B = some ⟨b, o, none⟩ from eb] at hg
      obtain rfl : g = b := by simpa [blkO] using hg
      exact hlt
    · exact h.row q hq⟩
/-- A cut of a row, or another view of it. -/
theorem TX.view (h : TX N F v x y s t D G rows w) {B' : Option Addr} {n' d' : Nat} {l' : List UInt8} (hm : (B, n, d, l) ∈ rows) (hr : RB w w.heap.size B' n' l') (hc : n' ≤ d') (hb : 0 < n' → 0 < n ∧ ∀ g ∈ blkO B', g ∈ blkO B) : TX N F v x y s t D G ((B', n', d', l') :: rows) w :=
  ⟨h.pr, fun q hq => by
    rcases List.mem_cons.1 hq with rfl | hq
    · exact ⟨hr, hc, fun h0 g hg => (h.row _ hm).2.2 (hb h0).1 g ((hb h0).2 g hg)⟩
    · exact h.row q hq⟩
theorem TX.own (h : TX N F v x y s t D G rows w) (hb : Below w.heap.size w w') (ho : OwnB w' w.heap.size B n d l) : TX N F v x y s t D (blkO B ++ G) ((B, n, d, l) :: rows) w' :=
  ⟨h.pr.add (h.step hb).pr (blkO B) (fun g hg => own_lt ho g hg), fun q hq => by
    rcases List.mem_cons.1 hq with rfl | hq
    · exact ⟨ho.rb, ho.cap.1, fun _ g hg => .inl (List.mem_append_left _ hg)⟩
    · exact ⟨(h.row q hq).1.step hb, (h.row q hq).2.1, fun h0 g hg => ((h.row q hq).2.2 h0 g hg).imp (List.mem_append_right _) id⟩⟩
/-- A ring's call, ours or the reference's. -/
theorem TX.ring (h : TX N F v x y s t D G rows w) (hr : RetP19 N F v x y s' t' G a w r w') : r = .returned (.int .i64 a) ∧ ∃ D', TX N F v x y s' t' D' G rows w' := by
  obtain ⟨he, ⟨A, c, es, B, d, ks, hp⟩, hk⟩ := hr
  refine ⟨he, ⟨A, c, es, B, d, ks⟩, hp, fun q hq => (h.row q hq).keep hk (fun k hlt => (hp.bel.block k hlt).trans (h.pr.bel.block k hlt).symm) (fun g hg => (hp.gs g hg).1) hp.bel.size⟩
/-- A box's call. -/
theorem TX.box (h : TX N F v x y s t D G rows w) (h0 : e0 ∈ D.es) (hr : RetEB e0.1 N' F' M L E w r w') (hn : N ≤ N') (hf : F ≤ F') : ∃ B d, r = .returned (.tuple #[.slice B M d, .int .i64 E]) ∧ TX N' F' v x y s t D (blkO B ++ G) ((B, M, d, L) :: rows) w' := by
  obtain ⟨B, d, he, ho, hoth, hok⟩ := hr
  obtain ⟨hp, hk⟩ := h.pr.call h0 hoth hok hn hf
  refine ⟨B, d, he, h.pr.add hp (blkO B) (fun g hg => own_lt ho g hg), fun q hq => ?_⟩
  rcases List.mem_cons.1 hq with rfl | hq
  · exact ⟨ho.rb, ho.cap.1, fun _ g hg => .inl (List.mem_append_left _ hg)⟩
  · have z := (h.row q hq).keep hk (fun k hlt => (hp.bel.block k hlt).trans (h.pr.bel.block k hlt).symm) (fun g hg => (hp.gs g hg).1) hp.bel.size
    exact ⟨z.1, z.2.1, fun h0 g hg => (z.2.2 h0 g hg).imp (List.mem_append_right _) id⟩
theorem TX.not (h : TX N F v x y s t D G rows w) (h0 : e0 ∈ D.es) (hm : (B, n, d, l) ∈ rows) : 0 < n → ∀ g ∈ blkO B, g ∉ e0.1.S := fun hn g hg => by
  obtain ⟨k1, k2, k3, k4, k5⟩ := h.pr.rn.ok e0 h0
  rcases (h.row _ hm).2.2 hn g hg with hG | hl
  · exact k1.not_in ((h.pr.gs g hG).2.2.2.2.2.1 e0 h0)
  · exact fun hs => by have := (k1.in_ g hs).1; omega
end
end Go.Proofs.YthllaoeioddddaaGreat

