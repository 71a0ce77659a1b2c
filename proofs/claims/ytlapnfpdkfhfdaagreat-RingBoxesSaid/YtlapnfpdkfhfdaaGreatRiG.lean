/- Layer 19: SameInts; a ring and the reference's beside each other, and what each call leaves of both. Condition: what is said of them. -/
import Derived.Test.YtlapnfpdkfhfdaaGreatRiR
import Derived.Test.YtlapnfpdkfhfdaaGreatUseBytes
namespace Go.Proofs.YtlapnfpdkfhfdaaGreat
open Go.RowKit
set_option linter.unusedVariables false
set_option linter.unusedSimpArgs false
theorem take_snocZ {l : List Int} {k : Nat} {x : Int} (h : l[k]? = some x) : l.take (k + 1) = l.take k ++ [x] := by rw [List.take_add_one, h]; rfl
set_option maxHeartbeats 400000 in
/-- The references' comparison: the same ints, whatever the memory. -/
theorem same_ints (A A' : Option Addr) (n c n' c' B B' : Nat) (l l' : List Int) (w : World) (h : ZL w B A n l) (h' : ZL w B' A' n' l') (hm : n ≤ maxLen) (hm' : n' ≤ maxLen) :
    Calls Tryz.prog 19 #[.slice A n c, .slice A' n' c'] w fun e w' => e = .returned (.bool (l == l')) ∧ ∃ q, w' = w.drewN q := by
  unfold maxLen at hm hm'
  by_cases hne : n = n'
  · subst hne
    go_enter Tryz.func19, Tryz.ntmps19
    go_wp2
    go_loopw [5] (fun i wr => ∃ k q : Nat, k ≤ n ∧ i = .int .i64 k ∧ wr = w.drewN q ∧ Hid (l.take k = l'.take k)) (fun i _ => n - (intOf i).toNat)
    case atStart => exact ⟨0, 0, Nat.zero_le _, rfl, rfl, rfl⟩
    case round =>
      obtain ⟨k, q, hk, rfl, rfl, he⟩ := hrel
      by_cases hlt : k < n
      · obtain ⟨b, o, rfl, hb, x, hx, _, hc⟩ := h.at_ hlt
        obtain ⟨b', o', rfl, hb', x', hx', _, hc'⟩ := h'.at_ hlt
        have HX := Lib.hid hx
        have HX' := Lib.hid hx'
        clear hx hx'
        by_cases hxx : x = x'
        · subst hxx
          go_wp2
          go_quiet (fail)
          go_wp2
          go_roundw
          case rel => exact ⟨k + 1, _, by omega, by go_num, rfl, Lib.hid (by rw [take_snocZ HX.out, take_snocZ HX'.out, he.out])⟩
          case measure => simp [intOf]; omega
        · have hb1 : (x != x') = true := by
            rw [bne_iff_ne]; exact hxx
          go_wp2
          go_quiet (fail)
          go_wp2
          go_ret
          exact ⟨ret1b (by
            symm
            rw [Bool.eq_false_iff]
            intro e
            have e' := eq_of_beq e
            have p := HX.out
            rw [e', HX'.out] at p
            exact hxx (Option.some.inj p).symm), q + nq, World.drewN_drewN _ _ _⟩
      · go_wp2
        go_ret
        exact ⟨ret1b (by
          have e : l = l' := by
            have := he.out
            rwa [List.take_of_length_le (by have := h.len; omega), List.take_of_length_le (by have := h'.len; omega)] at this
          rw [e]
          simp), _, rfl⟩
  · have hne2 : ((n : Int) != (n' : Int)) = true := by rw [bne_iff_ne]; omega
    go_enter Tryz.func19, Tryz.ntmps19
    go_wp2
    go_ret
    exact ⟨ret1b (by symm; rw [Bool.eq_false_iff]; intro e; exact hne (by rw [← h.len, ← h'.len, eq_of_beq e])), 0, rfl⟩
theorem al_ints (A A' : Option Addr) (n c n' c' : Nat) (l l' : List Int) (w : World) (h : ZL w w.heap.size A n l) (h' : ZL w w.heap.size A' n' l') (hm : n ≤ maxLen) (hm' : n' ≤ maxLen) (v : Bool) (hv : (l == l') = v) :
    Calls Tryz.prog 19 #[.slice A n c, .slice A' n' c'] w fun e w' => e = .returned (.bool v) ∧ Below w.heap.size w w' :=
  (same_ints A A' n c n' c' _ _ l l' w h h' hm hm').mono fun e w' ⟨he, q, hq⟩ => by
    subst hv
    subst hq
    exact ⟨he, below_drewN (Below.refl _ _) _⟩

/-! Calls. -/
/-- What a ring is told: what, a number, a key and where it lies. -/
structure Cr where
  t : Int
  q : Int
  A : Option Addr
  n : Nat
  c : Nat
  key : List UInt8
def Cr.cells (k : Cr) : List Value := [.int .i64 k.t, .int .i64 k.q, .slice k.A k.n k.c]
def Cr.val (k : Cr) : Value := .agg k.cells.toArray
/-- Its key can be read; its slice is one. -/
def Cr.ok (k : Cr) (B : Nat) (w : World) : Prop := RB w B k.A k.n k.key ∧ k.n ≤ k.c ∧ k.c ≤ maxLen
def doR (s : Rg) (k : Cr) : Rg × Int := if k.t = 0 then instR s k.q k.key else if k.t = 1 then retR s k.q else (s, 0)
theorem do_okR {s : Rg} {k : Cr} (h : okR s) : okR (doR s k).1 := by
  unfold doR
  split
  · exact inst_okR h
  · split
    · exact ret_okR h
    · exact h
theorem rt_call19 : RT 34 [.int .i64 0, .int .i64 0, .slice none 0 0] := ⟨row_of (by kernel_rfl), by kernel_rfl⟩
theorem Cr.one (k : Cr) : ones k.cells := by
  intro v hv
  unfold Cr.cells at hv
  simp only [List.mem_cons, List.not_mem_nil, or_false] at hv
  rcases hv with rfl | rfl | rfl <;> rfl

/-! A ring and the reference's. G: blocks that are none of theirs. -/
structure PRe (v : World) (x y : Nat) (s t : Rg) (G : List Nat) (w : World) (A : Option Addr) (c : Nat) (es : Ens) (B : Option Addr) (d : Nat) (ks : List KR) : Prop where
  bel : Below v.heap.size v w
  rn : Rn v.heap.size w x A c es 1 0
  rs : Rs v.heap.size w y B d ks
  ee : rgE es = s
  kk : rgK ks = t
  yo : ∀ e ∈ es, e.1.out y ∧ ∀ g ∈ blkO B, e.1.out g
  gs : ∀ g ∈ G, g < w.heap.size ∧ g ≠ x ∧ g ≠ y ∧ g ∉ blkO A ∧ g ∉ blkO B ∧ (∀ e ∈ es, e.1.out g) ∧ ∀ k ∈ ks, g ∉ blkO k.A
  os : okR s
  ot : okR t
def PR (v : World) (x y : Nat) (s t : Rg) (G : List Nat) (w : World) : Prop := ∃ A c es B d ks, PRe v x y s t G w A c es B d ks
/-- What lies in G is as it was. -/
def Kp (G : List Nat) (w w' : World) : Prop := ∀ g ∈ G, w'.heap[g]? = w.heap[g]?
theorem Blk.kp {T : TypeId} {w w' : World} {g : Nat} {cs : List Value} {G : List Nat} (h : Blk T w g cs) (k : Kp G w w') (hg : g ∈ G) : Blk T w' g cs := (k g hg).trans h
theorem OwnB.kp {w w' : World} {base n c : Nat} {A : Option Addr} {l : List UInt8} {G : List Nat} (h : OwnB w base A n c l) (k : Kp G w w') (hg : ∀ g ∈ blkO A, g ∈ G) : OwnB w' base A n c l := by
  refine ⟨h.1, ?_⟩
  rcases h.2 with h0 | ⟨g, cap, cur, hv, hbg, hh, r⟩
  · exact .inl h0
  · have hA : A = some ⟨g, 0, none⟩ := by injection hv
    exact .inr ⟨g, cap, cur, hv, hbg, (k g (hg g (by rw [hA]; simp [blkO]))).trans hh, r⟩
theorem own_lt {w : World} {base n c : Nat} {A : Option Addr} {l : List UInt8} (h : OwnB w base A n c l) : ∀ g ∈ blkO A, base ≤ g ∧ g < w.heap.size := fun g hg => by
  obtain ⟨a, ea, hga⟩ := mem_blkO hg
  exact World.ownsRow.lt h g (by show Value.ownBlock (.slice A n c) = some g; rw [ea]; exact congrArg some hga)
section
variable {v w w' : World} {x y c d : Nat} {s t s' : Rg} {G S : List Nat} {A B : Option Addr} {es : Ens} {ks : List KR}
theorem PRe.oth (h : PRe v x y s t G w A c es B d ks) (ho : Oth S w w') (hb : Below v.heap.size w w') (hS : ∀ g ∈ S, g ∈ G) : PRe v x y s t G w' A c es B d ks := by
  have hk : ∀ k ∈ ks, ∀ g ∈ blkO k.A, g ∉ S := fun k hk g hg hm => (h.gs g (hS g hm)).2.2.2.2.2.2 k hk hg
  refine ⟨h.bel.trans hb, h.rn.off ho (fun hm => (h.gs x (hS x hm)).2.1 rfl) (fun g hg hm => (h.gs g (hS g hm)).2.2.2.1 hg) (fun e he g hg => (h.gs g (hS g hg)).2.2.2.2.2.1 e he), h.rs.off ho (fun hm => (h.gs y (hS y hm)).2.2.1 rfl) (fun g hg hm => (h.gs g (hS g hm)).2.2.2.2.1 hg) hk, h.ee, h.kk, h.yo, fun g hg => ⟨Nat.lt_of_lt_of_le (h.gs g hg).1 ho.size, (h.gs g hg).2⟩, h.os, h.ot⟩
theorem PR.step (h : PR v x y s t G w) (hb : Below w.heap.size w w') : PR v x y s t G w' := by
  obtain ⟨A, c, es, B, d, ks, h⟩ := h
  exact ⟨A, c, es, B, d, ks, h.oth (S := []) (Oth.of_below hb) (hb.mono h.bel.size) (fun g hg => by cases hg)⟩
/-- A block of G is stored into. -/
theorem PR.poke (h : PR v x y s t G w) (ho : Oth S w w') (hS : ∀ g ∈ S, g ∈ G) (hv : ∀ g ∈ S, v.heap.size ≤ g) : PR v x y s t G w' := by
  obtain ⟨A, c, es, B, d, ks, h⟩ := h
  exact ⟨A, c, es, B, d, ks, h.oth ho (ho.below hv h.bel.size) hS⟩
theorem PR.bel (h : PR v x y s t G w) : Below v.heap.size v w := by
  obtain ⟨A, c, es, B, d, ks, h⟩ := h
  exact h.bel
theorem PR.ok (h : PR v x y s t G w) : okR s ∧ okR t := by
  obtain ⟨A, c, es, B, d, ks, h⟩ := h
  exact ⟨h.os, h.ot⟩
/-- New blocks are none of theirs. -/
theorem PR.fresh (h : PR v x y s t G w) (L : List Nat) (hL : ∀ g ∈ L, w.heap.size ≤ g ∧ g < w'.heap.size) (hb : Below w.heap.size w w') : PR v x y s t (L ++ G) w' := by
  obtain ⟨A, c, es, B, d, ks, h⟩ := h
  have k := h.oth (S := []) (Oth.of_below hb) (hb.mono h.bel.size) (fun g hg => by cases hg)
  refine ⟨A, c, es, B, d, ks, k.bel, k.rn, k.rs, k.ee, k.kk, k.yo, fun g hg => ?_, k.os, k.ot⟩
  rcases List.mem_append.1 hg with hg | hg
  · obtain ⟨h1, h2⟩ := hL g hg
    have hx := h.rn.blk.lt
    have hy := h.rs.blk.lt
    refine ⟨h2, by omega, by omega, fun hm => ?_, fun hm => ?_, fun e he => .inr (Nat.le_trans (h.rn.ok e he).1.le h1), fun r hr hm => ?_⟩
    · have := (h.rn.grd.lt g hm).2; omega
    · have := (h.rs.grd.lt g hm).2; omega
    · have := (own_lt (h.rs.key r hr) g hm).2; omega
  · exact k.gs g hg
theorem PR.less {G' : List Nat} (h : PR v x y s t G w) (hG : ∀ g ∈ G', g ∈ G) : PR v x y s t G' w := by
  obtain ⟨A, c, es, B, d, ks, h⟩ := h
  exact ⟨A, c, es, B, d, ks, h.bel, h.rn, h.rs, h.ee, h.kk, h.yo, fun g hg => h.gs g (hG g hg), h.os, h.ot⟩
theorem PRe.inst (h : PRe v x y s t G w A c es B d ks) (hr : RetRn v.heap.size x A es 1 0 s' w w') (hs : okR s') : PR v x y s' t G w' ∧ Kp G w w' := by
  obtain ⟨A', c', es', r1, r2, r3, r4, r5⟩ := hr
  have hlow : ∀ g ∈ x :: blkO A, v.heap.size ≤ g := fun g hg => by
    rcases List.mem_cons.1 hg with rfl | hg
    · exact h.rn.low
    · exact (h.rn.grd.lt g hg).1
  have hb : Below v.heap.size w w' := r3.below hlow h.bel.size
  have hnob : NoB (x :: blkO A) w := fun j hj cs fr e => by
    rcases List.mem_cons.1 hj with rfl | hj
    · exact h.rn.blk.nob (by decide) j (by simp) cs fr e
    · exact h.rn.grd.nob (by decide) j hj cs fr e
  have hxy : y ∉ x :: blkO A := fun hm => by
    rcases List.mem_cons.1 hm with e | hm
    · exact h.rs.blk.far h.rn.blk (by decide) e
    · exact h.rn.grd.away h.rs.blk (by decide) hm
  have hBA : ∀ g ∈ blkO B, g ∉ x :: blkO A := fun g hg hm => by
    rcases List.mem_cons.1 hm with rfl | hm
    · exact h.rs.grd.away h.rn.blk (by decide) hg
    · exact h.rn.grd.apart h.rs.grd (by decide) g hm hg
  have hrs : Rs v.heap.size w' y B d ks := ⟨h.rs.blk.oth r3 hxy, h.rs.grd.oth r3 hBA, fun k hk => (h.rs.key k hk).offS r3 hnob, h.rs.low⟩
  have hyl := h.rs.blk.lt
  refine ⟨⟨A', c', es', B, d, ks, h.bel.trans hb, r1, hrs, r2, h.kk, fun e he => ?_, fun g hg => ?_, hs, h.ot⟩, fun g hg => ?_⟩
  · rcases r4 e he with k | k
    · exact h.yo e k
    · exact ⟨.inl (by omega), fun g hg => .inl (by have := (h.rs.grd.lt g hg).2; omega)⟩
  · obtain ⟨g1, g2, g3, g4, g5, g6, g7⟩ := h.gs g hg
    refine ⟨Nat.lt_of_lt_of_le g1 r3.size, g2, g3, fun hm => ?_, g5, fun e he => ?_, g7⟩
    · rcases r5 g hm with k | k
      · exact g4 k
      · omega
    · rcases r4 e he with k | k
      · exact g6 e k
      · exact .inl (by omega)
  · obtain ⟨g1, g2, _, g4, _⟩ := h.gs g hg
    exact r3.block g g1 (fun hm => by
      rcases List.mem_cons.1 hm with e | hm
      · exact g2 e
      · exact g4 hm)
theorem PRe.rinst (h : PRe v x y s t G w A c es B d ks) (hr : RetRs v.heap.size y B ks s' w w') (hs : okR s') : PR v x y s s' G w' ∧ Kp G w w' := by
  obtain ⟨B', d', ks', r1, r2, r3, r4, r5⟩ := hr
  have hlow : ∀ g ∈ y :: blkO B, v.heap.size ≤ g := fun g hg => by
    rcases List.mem_cons.1 hg with rfl | hg
    · exact h.rs.low
    · exact (h.rs.grd.lt g hg).1
  have hb : Below v.heap.size w w' := r3.below hlow h.bel.size
  have hxy : x ∉ y :: blkO B := fun hm => by
    rcases List.mem_cons.1 hm with e | hm
    · exact h.rn.blk.far h.rs.blk (by decide) e
    · exact h.rs.grd.away h.rn.blk (by decide) hm
  have hBA : ∀ g ∈ blkO A, g ∉ y :: blkO B := fun g hg hm => by
    rcases List.mem_cons.1 hm with rfl | hm
    · exact h.rn.grd.away h.rs.blk (by decide) hg
    · exact h.rn.grd.apart h.rs.grd (by decide) g hg hm
  have hrn : Rn v.heap.size w' x A c es 1 0 := h.rn.off r3 hxy hBA (fun e he g hg => by
    rcases List.mem_cons.1 hg with rfl | hg
    · exact (h.yo e he).1
    · exact (h.yo e he).2 g hg)
  refine ⟨⟨A, c, es, B', d', ks', h.bel.trans hb, hrn, r1, h.ee, r2, fun e he => ⟨(h.yo e he).1, fun g hg => ?_⟩, fun g hg => ?_, h.os, hs⟩, fun g hg => ?_⟩
  · rcases r5 g hg with k | k
    · exact (h.yo e he).2 g k
    · exact .inr (Nat.le_trans (h.rn.ok e he).1.le k)
  · obtain ⟨g1, g2, g3, g4, g5, g6, g7⟩ := h.gs g hg
    refine ⟨Nat.lt_of_lt_of_le g1 r3.size, g2, g3, g4, fun hm => ?_, g6, fun k hk hm => ?_⟩
    · rcases r5 g hm with z | z
      · exact g5 z
      · omega
    · rcases r4 k hk with z | z
      · exact g7 k z hm
      · have := z g hm; omega
  · obtain ⟨g1, _, g3, _, g5, _⟩ := h.gs g hg
    exact r3.block g g1 (fun hm => by
      rcases List.mem_cons.1 hm with e | hm
      · exact g3 e
      · exact g5 hm)
theorem PR.new {x y : Nat} (h1 : Rn v.heap.size w x none 0 [] 1 0) (h2 : Rs v.heap.size w y none 0 []) (hb : Below v.heap.size v w) : PR v x y [] [] [] w :=
  ⟨none, 0, [], none, 0, [], hb, h1, h2, rfl, rfl, fun e he => (by cases he), fun g hg => (by cases hg), nil_okR, nil_okR⟩
theorem PRe.len (h : PRe v x y s t G w A c es B d ks) : es.length ≤ 16 ∧ ks.length ≤ 16 := by
  have h1 := h.os.n
  have h2 := h.ot.n
  rw [← h.ee, rg_len] at h1
  rw [← h.kk, rgK_len] at h2
  exact ⟨h1, h2⟩
end
/-- The calls. -/
def RetP19 (v : World) (x y : Nat) (s t : Rg) (G : List Nat) (a : Int) (w : World) (e : Ending) (w' : World) : Prop := e = .returned (.int .i64 a) ∧ PR v x y s t G w' ∧ Kp G w w'
theorem pr_inst (v : World) (x y : Nat) (s t : Rg) (G : List Nat) (w : World) (h : PR v x y s t G w) (q : Int) (K : Option Addr) (m d : Nat) (l : List UInt8) (hk : RB w w.heap.size K m l) (hd : m ≤ d) :
    Calls Tryz.prog 15 #[.pointer (some ⟨x, 0, none⟩), .int .i64 q, .slice K m d] w (RetP19 v x y (instR s q l).1 t G (instR s q l).2 w) := by
  obtain ⟨A, c, es, B, d2, ks, h⟩ := h
  refine (install_any _ x A c es 1 0 q K m d l w h.rn h.len.1 hk hd (Nat.le_refl _) h.bel.size).mono fun e w' hr => ?_
  rw [h.ee] at hr
  exact ⟨hr.1, h.inst hr.2 (inst_okR h.os)⟩
theorem pr_ret (v : World) (x y : Nat) (s t : Rg) (G : List Nat) (w : World) (h : PR v x y s t G w) (q : Int) :
    Calls Tryz.prog 18 #[.pointer (some ⟨x, 0, none⟩), .int .i64 q] w (RetP19 v x y (retR s q).1 t G (retR s q).2 w) := by
  obtain ⟨A, c, es, B, d2, ks, h⟩ := h
  refine (retire_any _ x A c es 1 0 q w h.rn h.len.1).mono fun e w' hr => ?_
  rw [h.ee] at hr
  exact ⟨hr.1, h.inst hr.2 (ret_okR h.os)⟩
theorem pr_rinst (v : World) (x y : Nat) (s t : Rg) (G : List Nat) (w : World) (h : PR v x y s t G w) (q : Int) (K : Option Addr) (m d : Nat) (l : List UInt8) (hk : RB w w.heap.size K m l) :
    Calls Tryz.prog 22 #[.pointer (some ⟨y, 0, none⟩), .int .i64 q, .slice K m d] w (RetP19 v x y s (instR t q l).1 G (instR t q l).2 w) := by
  obtain ⟨A, c, es, B, d2, ks, h⟩ := h
  refine (rinst_any _ y B d2 ks q K m d l w h.rs h.len.2 hk h.bel.size).mono fun e w' hr => ?_
  rw [h.kk] at hr
  exact ⟨hr.1, h.rinst hr.2 (inst_okR h.ot)⟩
theorem pr_rret (v : World) (x y : Nat) (s t : Rg) (G : List Nat) (w : World) (h : PR v x y s t G w) (q : Int) :
    Calls Tryz.prog 23 #[.pointer (some ⟨y, 0, none⟩), .int .i64 q] w (RetP19 v x y s (retR t q).1 G (retR t q).2 w) := by
  obtain ⟨A, c, es, B, d2, ks, h⟩ := h
  refine (rret_any _ y B d2 ks q w h.rs h.len.2 h.bel.size).mono fun e w' hr => ?_
  rw [h.kk] at hr
  exact ⟨hr.1, h.rinst hr.2 (ret_okR h.ot)⟩
end Go.Proofs.YtlapnfpdkfhfdaaGreat
