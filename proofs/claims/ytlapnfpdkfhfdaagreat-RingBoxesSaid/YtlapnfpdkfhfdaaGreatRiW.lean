/- Layer 19: what the statements' walks share: many calls, plain; the ring beside blocks of the walk's own. No condition; nothing is claimed of the program here. -/
import Derived.Test.YtlapnfpdkfhfdaaGreatRiV
namespace Go.Proofs.YtlapnfpdkfhfdaaGreat
open Go.RowKit
set_option linter.unusedVariables false
set_option linter.unusedSimpArgs false
/-- The keys behind the first i calls. -/
def upR (ks : List Cr) (i : Nat) : Rg := (ks.take i).foldl (fun s k => (doR s k).1) []
theorem upR_0 (ks : List Cr) : upR ks 0 = [] := rfl
theorem upR_next {ks : List Cr} {i : Nat} {k : Cr} (h : ks[i]? = some k) : upR ks (i + 1) = (doR (upR ks i) k).1 := by
  unfold upR
  rw [List.take_add_one, h, List.foldl_append]
  rfl
theorem upR_ok (ks : List Cr) (i : Nat) : okR (upR ks i) := by
  unfold upR
  generalize ks.take i = l
  suffices ∀ (l : List Cr) (s : Rg), okR s → okR (l.foldl (fun s k => (doR s k).1) s) from this l [] nil_okR
  intro l
  induction l with
  | nil => intro s h; exact h
  | cons k l ih => intro s h; exact ih _ (do_okR h)
theorem ex_ldCr (ev : Operand → Value) (x : Operand) (d : Option Tmp) (ty : TypeId) (ps : String) (af : Array Edge) (g : Option (Nat × Bool)) (w : World) : (execOp ev ⟨d, .load 34 x, ty, ps, af, g⟩).run Tryz.prog w = ldHd 34 (ev x) w := rfl
theorem ldCr_b {w : World} {q : Nat} {k : Cr} (h : Blk 34 w q k.cells) : ldHd 34 (.pointer (some ⟨q, 0, none⟩)) w = .ok (.value (.agg #[.int .i64 k.t, .int .i64 k.q, .slice k.A k.n k.c])) w := ldB_m rt_call19 (cs := k.cells) (vs := k.cells) h rfl rfl
theorem ldCr_r {w : World} {b o : Nat} {k : Cr} (h : w.rangeAt b o k.cells) : ldHd 34 (.pointer (some ⟨b, o, none⟩)) w = .ok (.value (.agg #[.int .i64 k.t, .int .i64 k.q, .slice k.A k.n k.c])) w := by
  obtain ⟨d, hu, hd⟩ := rt_call19.row
  have := run_loadAt_mid (P := Tryz.prog) w b o 34 k.cells d h hu hd rt_call19.size
  unfold ldHd
  simp only [Sem.run_bind, this, Result.andThen_ok, Sem.run_pure]
  rfl
section
variable {v w w' : World} {x y c d : Nat} {s t : Rg} {G S : List Nat} {A B : Option Addr} {es : Ens} {ks : List KR}
theorem Rs.base_le {b base : Nat} (h : Rs base w y B d ks) (hb : b ≤ base) : Rs b w y B d ks := ⟨h.blk, h.grd.base_le hb, h.key, Nat.le_trans hb h.low⟩
/-- A ring that was there, and the reference's that is new. -/
theorem PR.pair (h1 : Rn v.heap.size w x A c es 1 0) (hv : Below v.heap.size v w) (hb : Below w.heap.size w w') (h2 : Rs w.heap.size w' y B d ks) (he : rgE es = s) (hk : rgK ks = t) (os : okR s) (ot : okR t) : PR v x y s t [] w' :=
  ⟨A, c, es, B, d, ks, bel_next hv hb, h1.step hb, h2.base_le hv.size, he, hk, fun e hm => ⟨.inr (Nat.le_trans (h1.ok e hm).1.le h2.low), fun g hg => .inr (Nat.le_trans (h1.ok e hm).1.le (h2.grd.lt g hg).1)⟩, fun g hg => (by cases hg), os, ot⟩
/-- A ring, and blocks that are none of its own. -/
def RG (v : World) (x : Nat) (s : Rg) (G : List Nat) (w : World) : Prop := Below v.heap.size v w ∧ okR s ∧ ∃ A c es, Rn v.heap.size w x A c es 1 0 ∧ rgE es = s ∧ ∀ g ∈ G, g < w.heap.size ∧ g ≠ x ∧ g ∉ blkO A
theorem RG.step (h : RG v x s G w) (hb : Below w.heap.size w w') : RG v x s G w' := by
  obtain ⟨hv, os, A, c, es, h1, h2, h3⟩ := h
  exact ⟨bel_next hv hb, os, A, c, es, h1.step hb, h2, fun g hg => ⟨Nat.lt_of_lt_of_le (h3 g hg).1 hb.size, (h3 g hg).2⟩⟩
theorem RG.fresh (h : RG v x s G w) (L : List Nat) (hL : ∀ g ∈ L, w.heap.size ≤ g ∧ g < w'.heap.size) (hb : Below w.heap.size w w') : RG v x s (L ++ G) w' := by
  obtain ⟨hv, os, A, c, es, h1, h2, h3⟩ := h
  refine ⟨bel_next hv hb, os, A, c, es, h1.step hb, h2, fun g hg => ?_⟩
  rcases List.mem_append.1 hg with hg | hg
  · obtain ⟨a, b⟩ := hL g hg
    have := h1.blk.lt
    exact ⟨b, by omega, fun hm => by have := (h1.grd.lt g hm).2; omega⟩
  · exact ⟨Nat.lt_of_lt_of_le (h3 g hg).1 hb.size, (h3 g hg).2⟩
theorem RG.all {s' : Rg} (h1 : Rn v.heap.size w x A c es 1 0) (hv : Below v.heap.size v w) (h3 : ∀ g ∈ G, g < w.heap.size ∧ g ≠ x ∧ g ∉ blkO A) (hr : RetRn v.heap.size x A es 1 0 s' w w') (os : okR s') : RG v x s' G w' ∧ Kp G w w' := by
  obtain ⟨A', c', es', r1, r2, r3, r4, r5⟩ := hr
  refine ⟨⟨hv.trans (r3.below (fun g hg => by
    rcases List.mem_cons.1 hg with rfl | hg
    · exact h1.low
    · exact (h1.grd.lt g hg).1) hv.size), os, A', c', es', r1, r2, fun g hg => ⟨Nat.lt_of_lt_of_le (h3 g hg).1 r3.size, (h3 g hg).2.1, fun hm => ?_⟩⟩, fun g hg => r3.block g (h3 g hg).1 (fun hm => ?_)⟩
  · rcases r5 g hm with z | z
    · exact (h3 g hg).2.2 z
    · have := (h3 g hg).1; omega
  · rcases List.mem_cons.1 hm with e | hm
    · exact (h3 g hg).2.1 e
    · exact (h3 g hg).2.2 hm
theorem PR.rg (h : PR v x y s t [] w) : RG v x s [] w := by
  obtain ⟨A, c, es, B, d, ks, h⟩ := h
  exact ⟨h.bel, h.os, A, c, es, h.rn, h.ee, fun g hg => (by cases hg)⟩
theorem RG.pr (h : RG v x s [] w) (hb : Below w.heap.size w w') (hy : Blk 31 w' y [.slice none 0 0]) (hl : w.heap.size ≤ y) : PR v x y s [] [] w' := by
  obtain ⟨hv, os, A, c, es, h1, h2, _⟩ := h
  exact PR.pair h1 hv hb (Rs.new hy hl) h2 rfl os nil_okR
theorem RG.ok (h : RG v x s G w) : okR s := h.2.1
theorem OwnZ.kp {base n : Nat} {l : List Int} (h : OwnZ w base A n c l) (k : Kp G w w') (hg : ∀ g ∈ blkO A, g ∈ G) : OwnZ w' base A n c l := by
  refine ⟨⟨h.1.1, ?_⟩, h.2⟩
  rcases h.1.2 with h0 | ⟨g, cap, cur, hv, hbg, hh, r⟩
  · exact .inl h0
  · have hA : A = some ⟨g, 0, none⟩ := by injection hv
    exact .inr ⟨g, cap, cur, hv, hbg, (k g (hg g (by rw [hA]; simp [blkO]))).trans hh, r⟩
theorem ownZ_lt {base n : Nat} {l : List Int} (h : OwnZ w base A n c l) : ∀ g ∈ blkO A, base ≤ g ∧ g < w.heap.size := fun g hg => by
  obtain ⟨a, ea, hga⟩ := mem_blkO hg
  exact World.ownsRow.lt h.1 g (by show Value.ownBlock (.slice A n c) = some g; rw [ea]; exact congrArg some hga)
theorem RG.none (h : RG v x s G w) : RG v x s [] w := by
  obtain ⟨hv, os, A, c, es, h1, h2, h3⟩ := h
  exact ⟨hv, os, A, c, es, h1, h2, fun g hg => (by cases hg)⟩
end
theorem rg_inst (v w : World) (x : Nat) (s : Rg) (G : List Nat) (h : RG v x s G w) (q : Int) (K : Option Addr) (m d : Nat) (l : List UInt8) (hk : RB w w.heap.size K m l) (hd : m ≤ d) :
    Calls Tryz.prog 15 #[.pointer (some ⟨x, 0, none⟩), .int .i64 q, .slice K m d] w fun e w' => e = .returned (.int .i64 (instR s q l).2) ∧ RG v x (instR s q l).1 G w' ∧ Kp G w w' := by
  obtain ⟨hv, os, A, c, es, h1, h2, h3⟩ := h
  subst h2
  exact (install_any _ x A c es 1 0 q K m d l w h1 (by have := os.n; rw [rg_len] at this; exact this) hk hd (Nat.le_refl _) hv.size).mono fun e w' hr => ⟨hr.1, RG.all h1 hv h3 hr.2 (inst_okR os)⟩
theorem rg_ret (v w : World) (x : Nat) (s : Rg) (G : List Nat) (h : RG v x s G w) (q : Int) :
    Calls Tryz.prog 18 #[.pointer (some ⟨x, 0, none⟩), .int .i64 q] w fun e w' => e = .returned (.int .i64 (retR s q).2) ∧ RG v x (retR s q).1 G w' ∧ Kp G w w' := by
  obtain ⟨hv, os, A, c, es, h1, h2, h3⟩ := h
  subst h2
  exact (retire_any _ x A c es 1 0 q w h1 (by have := os.n; rw [rg_len] at this; exact this)).mono fun e w' hr => ⟨hr.1, RG.all h1 hv h3 hr.2 (ret_okR os)⟩
theorem rg_new (v w : World) (x : Nat) (s : Rg) (G : List Nat) (h : RG v x s G w) (q : Int) (b : Bool) (hn : newR s = (q, b)) :
    Calls Tryz.prog 16 #[.pointer (some ⟨x, 0, none⟩)] w fun e w' => e = .returned (.tuple #[.int .i64 q, .bool b]) ∧ Below w.heap.size w w' := by
  obtain ⟨hv, os, A, c, es, h1, h2, h3⟩ := h
  subst h2
  have := newest_any _ x A c es 1 0 w h1 (by have := os.n; rw [rg_len] at this; omega)
  rw [hn] at this
  exact this
theorem rg_seqs (v w : World) (x : Nat) (s : Rg) (G : List Nat) (h : RG v x s G w) (n : Nat) (hn : s.length = n) :
    Calls Tryz.prog 20 #[.pointer (some ⟨x, 0, none⟩)] w fun e w' => ∃ B d, e = .returned (.slice B n d) ∧ OwnZ w' w.heap.size B n d (seqsR s) ∧ Below w.heap.size w w' := by
  obtain ⟨hv, os, A, c, es, h1, h2, h3⟩ := h
  subst h2
  have := seqs_any _ x A c es 1 0 w h1 (by have := os.n; rw [rg_len] at this; omega) (rng_en os)
  rw [← rg_len, hn] at this
  exact this
theorem rg_key (v w : World) (x : Nat) (s : Rg) (G : List Nat) (h : RG v x s G w) (q : Int) :
    Calls Tryz.prog 9 #[.pointer (some ⟨x, 0, none⟩), .int .i64 q] w (RetKy (keyR s q) (hasR s q) w) := by
  obtain ⟨hv, os, A, c, es, h1, h2, h3⟩ := h
  subst h2
  exact rkey_any _ x A c es 1 0 q w h1 (by have := os.n; rw [rg_len] at this; omega)
/-- Box: some box, or none. -/
theorem rg_box (v w : World) (x : Nat) (s : Rg) (G : List Nat) (h : RG v x s G w) (q : Int) (hv : hasR s q = true) :
    ∃ p, Calls Tryz.prog 8 #[.pointer (some ⟨x, 0, none⟩), .int .i64 q] w fun e w' => e = .returned (.tuple #[.pointer (some ⟨p, 0, none⟩), .bool true]) ∧ Below w.heap.size w w' := by
  obtain ⟨_, os, A, c, es, h1, h2, h3⟩ := h
  subst h2
  obtain ⟨i, e0, _, _, _, _, hc⟩ := box_has _ x A c es 1 0 q w h1 (by have := os.n; rw [rg_len] at this; omega) hv
  exact ⟨_, hc⟩
theorem rg_nobox (v w : World) (x : Nat) (s : Rg) (G : List Nat) (h : RG v x s G w) (q : Int) (hv : hasR s q = false) :
    Calls Tryz.prog 8 #[.pointer (some ⟨x, 0, none⟩), .int .i64 q] w fun e w' => e = .returned (.tuple #[.pointer none, .bool false]) ∧ Below w.heap.size w w' := by
  obtain ⟨_, os, A, c, es, h1, h2, h3⟩ := h
  subst h2
  exact box_no _ x A c es 1 0 q w h1 (by have := os.n; rw [rg_len] at this; omega) hv
end Go.Proofs.YtlapnfpdkfhfdaaGreat
