/- A box of layer 7 in memory: its key, its cipher, its hash, how many of its tags were wrong. No conditions; nothing is claimed of the program here. -/
import Derived.Test.YtlapnfpdkfhfdaaCountAll
import Derived.Test.YtlapnfpdkfhfdaaRefGcm
import Derived.Test.YtlapnfpdkfhfdaaGhTexts
import Derived.Test.YtlapnfpdkfhfdaaOctAll
namespace Go.Proofs.Ytlapnfpdkfhfdaa
open Go.RowKit
set_option linter.unusedVariables false

/-- Where a box lies: the worlds in which it and its cipher were made; its block, its cipher's, its hash's, the tables'; its key. -/
structure BP where
  w0 : World
  wc : World
  x : Nat
  cb : Nat
  hb : Nat
  b : Nat
  lo : Nat
  c0 : Nat
  A0 : Option Addr
  key : List UInt8
/-- The blocks that its calls change. -/
def BP.S (p : BP) : List Nat := [p.x, p.cb, p.hb]
/-- The box is in w as New, or an older call, left it: at most n blocks encrypted, f tags wrong. -/
structure Bz (p : BP) (n f : Nat) (w : World) : Prop where
  old : p.w0.heap.size ≤ w.heap.size
  c0 : w.cell? ⟨p.x, 0, none⟩ = some (.slice p.A0 16 p.c0)
  c1 : w.cell? ⟨p.x, 1, none⟩ = some (.pointer (some ⟨p.cb, 0, none⟩))
  c2 : w.cell? ⟨p.x, 2, none⟩ = some (.pointer (some ⟨p.hb, 0, none⟩))
  c3 : w.cell? ⟨p.x, 3, none⟩ = some (.int .i64 (f : Int))
  free : w.frozen? ⟨p.x, 3, none⟩ = false
  cap : 16 ≤ p.c0
  key : RB w p.w0.heap.size p.A0 16 p.key
  away : AwayS p.A0 p.S
  ob0 : Ob p.cb p.b p.lo p.key 0 p.wc
  but : But p.cb p.wc w
  ob : ∃ m, m ≤ n ∧ Ob p.cb p.b p.lo p.key m w
  ho : ∃ d, Ho w p.hb (nB (hkL p.key)) d
  ord : p.wc.heap.size ≤ p.x ∧ p.wc.heap.size ≤ p.hb ∧ p.x < p.w0.heap.size ∧ p.hb < p.w0.heap.size ∧ p.x ≠ p.hb ∧ p.wc.heap.size ≤ p.w0.heap.size
theorem Ho.same {w w' : World} {b h : Nat} {d : Bool} (o : Ho w b h d) (e : w'.heap[b]? = w.heap[b]?) : Ho w' b h d := by
  obtain ⟨h0, f, hc, hr⟩ := o
  exact ⟨h0, f, fun j hj => ⟨(World.cell?_of_block (w := w) (a := ⟨b, j, none⟩) e).trans (hc j hj).1, (World.frozen?_of_block (w := w) (a := ⟨b, j, none⟩) e).trans (hc j hj).2⟩, hr⟩
section
variable {p : BP} {n f : Nat} {w w' : World}
theorem Bz.lt (h : Bz p n f w) : ∀ y ∈ p.S, y < p.w0.heap.size := by
  intro y hy
  have h0 := h.ord
  have h1 := h.ob0.lt
  simp only [BP.S, List.mem_cons, List.not_mem_nil, or_false] at hy
  rcases hy with rfl | rfl | rfl <;> omega
theorem Bz.hold (h : Bz p n f w) (hb : Below p.w0.heap.size w w') : Bz p n f w' where
  old := Nat.le_trans h.old hb.size
  c0 := (hb.cell (p := ⟨p.x, 0, none⟩) h.ord.2.2.1).trans h.c0
  c1 := (hb.cell (p := ⟨p.x, 1, none⟩) h.ord.2.2.1).trans h.c1
  c2 := (hb.cell (p := ⟨p.x, 2, none⟩) h.ord.2.2.1).trans h.c2
  c3 := (hb.cell (p := ⟨p.x, 3, none⟩) h.ord.2.2.1).trans h.c3
  free := (hb.frozen (p := ⟨p.x, 3, none⟩) h.ord.2.2.1).trans h.free
  cap := h.cap
  key := h.key.below hb
  away := h.away
  ob0 := h.ob0
  but := h.but.behind (hb.mono h.ord.2.2.2.2.2)
  ob := by
    obtain ⟨m, hm, ho⟩ := h.ob
    exact ⟨m, hm, h.ob0.hold h.but ho (hb.mono h.ord.2.2.2.2.2)⟩
  ho := by
    obtain ⟨d, ho⟩ := h.ho
    exact ⟨d, ho.below hb h.ord.2.2.2.1⟩
  ord := h.ord
theorem Bz.keep (h : Bz p n f w) (hb : Below w.heap.size w w') : Bz p n f w' := h.hold (hb.mono h.old)
theorem Bz.drew (h : Bz p n f w) : Bz p n f w.drew := h.keep (Below.refl _ _).drew
theorem Bz.up {n' : Nat} (h : Bz p n f w) (hn : n ≤ n') : Bz p n' f w := { h with ob := h.ob.elim fun m k => ⟨m, Nat.le_trans k.1 hn, k.2⟩ }
/-- The key's slice, as it may be read now. -/
theorem Bz.kr (h : Bz p n f w) : RB w w.heap.size p.A0 16 p.key := h.key.more h.old
/-- Its cipher has encrypted a block. -/
theorem Bz.enc (h : Bz p n f w) (hb : But p.cb w w') (ho : ∃ m, m ≤ n + 1 ∧ Ob p.cb p.b p.lo p.key m w') : Bz p (n + 1) f w' :=
  have h0 := h.ord
  have h1 := h.ob0.lt
  have hx : p.x < w.heap.size := Nat.lt_of_lt_of_le h0.2.2.1 h.old
  have hc : p.x ≠ p.cb := by omega
  { old := Nat.le_trans h.old hb.size
    c0 := (hb.cell (p := ⟨p.x, 0, none⟩) hx hc).trans h.c0
    c1 := (hb.cell (p := ⟨p.x, 1, none⟩) hx hc).trans h.c1
    c2 := (hb.cell (p := ⟨p.x, 2, none⟩) hx hc).trans h.c2
    c3 := (hb.cell (p := ⟨p.x, 3, none⟩) hx hc).trans h.c3
    free := (hb.frozen (p := ⟨p.x, 3, none⟩) hx hc).trans h.free
    cap := h.cap
    key := h.key.but hb h.old (fun g o _ e => h.away p.cb (by simp [BP.S]) g o e)
    away := h.away
    ob0 := h.ob0
    but := h.but.trans hb
    ob := ho
    ho := by
      obtain ⟨d, ho⟩ := h.ho
      exact ⟨d, ho.same (hb.block p.hb (Nat.lt_of_lt_of_le h0.2.2.2.1 h.old) (by omega))⟩
    ord := h0 }
/-- Its hash has made a sum. -/
theorem Bz.sum (h : Bz p n f w) (hb : But p.hb w w') (ho : ∃ d, Ho w' p.hb (nB (hkL p.key)) d) : Bz p n f w' :=
  have h0 := h.ord
  have hx : p.x < w.heap.size := Nat.lt_of_lt_of_le h0.2.2.1 h.old
  have hl : Below p.wc.heap.size w w' := hb.below h0.2.1 (Nat.lt_of_lt_of_le h0.2.2.2.1 h.old)
  { old := Nat.le_trans h.old hb.size
    c0 := (hb.cell (p := ⟨p.x, 0, none⟩) hx h0.2.2.2.2.1).trans h.c0
    c1 := (hb.cell (p := ⟨p.x, 1, none⟩) hx h0.2.2.2.2.1).trans h.c1
    c2 := (hb.cell (p := ⟨p.x, 2, none⟩) hx h0.2.2.2.2.1).trans h.c2
    c3 := (hb.cell (p := ⟨p.x, 3, none⟩) hx h0.2.2.2.2.1).trans h.c3
    free := (hb.frozen (p := ⟨p.x, 3, none⟩) hx h0.2.2.2.2.1).trans h.free
    cap := h.cap
    key := h.key.but hb h.old (fun g o _ e => h.away p.hb (by simp [BP.S]) g o e)
    away := h.away
    ob0 := h.ob0
    but := h.but.behind hl
    ob := by
      obtain ⟨m, hm, ho⟩ := h.ob
      exact ⟨m, hm, h.ob0.hold h.but ho hl⟩
    ho := ho
    ord := h0 }
/-- One tag more was wrong. -/
theorem Bz.add (h : Bz p n f w) : Bz p n (f + 1) (w.setCell ⟨p.x, 3, none⟩ (.int .i64 ((f : Int) + 1))) :=
  have h0 := h.ord
  have hx : p.x < w.heap.size := Nat.lt_of_lt_of_le h0.2.2.1 h.old
  have hb : But p.x w (w.setCell ⟨p.x, 3, none⟩ (.int .i64 ((f : Int) + 1))) := (But.refl p.x w).self 3 _
  have hl : Below p.wc.heap.size w (w.setCell ⟨p.x, 3, none⟩ (.int .i64 ((f : Int) + 1))) := hb.below h0.1 hx
  { old := Nat.le_trans h.old hb.size
    c0 := (World.cell?_setCell_other _ _ _ _ (by intro e; injection e with _ e; omega)).trans h.c0
    c1 := (World.cell?_setCell_other _ _ _ _ (by intro e; injection e with _ e; omega)).trans h.c1
    c2 := (World.cell?_setCell_other _ _ _ _ (by intro e; injection e with _ e; omega)).trans h.c2
    c3 := by
      rw [Int.natCast_add]
      exact World.cell?_setCell_same w _ _ h.c3
    free := by simp [h.free]
    cap := h.cap
    key := h.key.but hb h.old (fun g o _ e => h.away p.x (by simp [BP.S]) g o e)
    away := h.away
    ob0 := h.ob0
    but := h.but.behind hl
    ob := by
      obtain ⟨m, hm, ho⟩ := h.ob
      exact ⟨m, hm, h.ob0.hold h.but ho hl⟩
    ho := by
      obtain ⟨d, ho⟩ := h.ho
      exact ⟨d, ho.same (hb.block p.hb (Nat.lt_of_lt_of_le h0.2.2.2.1 h.old) (by omega))⟩
    ord := h0 }
/-- A slice of what was there before the box is none of its blocks. -/
theorem Bz.after (h : Bz p n f w) {base : Nat} (hb : w.heap.size ≤ base) : ∀ y ∈ p.S, y < base := fun y hy => Nat.lt_of_lt_of_le (h.lt y hy) (Nat.le_trans h.old hb)
end
/-- A call of a box that answers bytes and an error's number. -/
def RetO (p : BP) (n f : Nat) (r : List UInt8 × Int) (w : World) (e : Ending) (w' : World) : Prop :=
  ∃ A c, e = .returned (.tuple #[.slice A r.1.length c, .int .i64 r.2]) ∧ OwnB w' w.heap.size A r.1.length c r.1 ∧ Off p.S w w' ∧ Bz p n f w'
/-- New's answer, and from where on the box lies. -/
def RetX2 (key : List UInt8) (w : World) (e : Ending) (w' : World) : Prop :=
  ∃ p : BP, e = .returned (.tuple #[.pointer (some ⟨p.x, 0, none⟩), .int .i64 0]) ∧ p.key = key ∧ Below w.heap.size w w' ∧ (∀ y ∈ p.S, w.heap.size ≤ y) ∧ (w.heap.size ≤ p.lo ∧ (∀ g o, p.A0 = some ⟨g, o, none⟩ → w.heap.size ≤ g) ∧ p.w0.heap.size = w'.heap.size) ∧ Bz p 1 0 w'
/-- New's answer. -/
def RetX (key : List UInt8) (w : World) (e : Ending) (w' : World) : Prop :=
  ∃ p : BP, e = .returned (.tuple #[.pointer (some ⟨p.x, 0, none⟩), .int .i64 0]) ∧ p.key = key ∧ Below w.heap.size w w' ∧ (∀ y ∈ p.S, w.heap.size ≤ y) ∧ Bz p 1 0 w'
end Go.Proofs.Ytlapnfpdkfhfdaa

/- gcm's tooLong, first, turn, sign, New, Seal, Tag, Open, Failed. Conditions: the slices' cells are readable and none of the box's blocks, the box is as New, or an older call, left it; lengths are at most 65535 (65551). -/
namespace Go.Proofs.Ytlapnfpdkfhfdaa
open Go.RowKit
set_option linter.unusedVariables false
set_option linter.unusedSimpArgs false
attribute [local irreducible] wsW keyUpTo keyF lastW turn0 encUp decUp aftL encL tableL blksL blkL strmL putL numL xorL turnAt fstL hkL tagL trnL bB sumG nB

theorem fst_two (n : List UInt8) : n ++ [0, 0, 0, 1] = fstL n := by unfold fstL; rfl
/-- What sign answers. -/
def RetTg (p : BP) (n f : Nat) (l : List UInt8) (w : World) (e : Ending) (w' : World) : Prop :=
  ∃ A c, e = .returned (.slice A 16 c) ∧ OwnB w' w.heap.size A 16 c l ∧ Off p.S w w' ∧ Bz p n f w'
theorem BP.mem (p : BP) : p.x ∈ p.S ∧ p.cb ∈ p.S ∧ p.hb ∈ p.S := by simp [BP.S]
/-- The slice's part is in the same block. -/
theorem AwayS.cut {A : Option Addr} {S : List Nat} (h : AwayS A S) (hA : ∃ g o, A = some ⟨g, o, none⟩) (c i : Nat) : AwayS (cutA A c i) S := by
  obtain ⟨b, q, rfl⟩ := hA
  intro x hx g o e
  refine h x hx g q ?_
  unfold cutA at e
  split at e
  · injection e with e; injection e with e3 e4 e5
    rw [e3]
  · simp only [Option.map_some] at e
    unfold Addr.add at e
    split at e
    · injection e with e; injection e with e3 e4 e5
      rw [e3]
    · injection e with e; injection e with e3 e4 e5
      have e6 : b = g := e3
      rw [e6]
set_option maxRecDepth 100000 in
set_option maxHeartbeats 2000000 in
theorem gnew_bad (A : Option Addr) (n c : Nat) (w : World) (hn : n ≠ 16) :
    Calls Try.prog 32 #[.slice A n c] w fun e w' => e = .returned (.tuple #[.pointer none, .int .i64 11]) ∧ w = w' := by
  have HN := Lib.hid (anew_bad n c A w hn)
  go_enter Try.func32, Try.ntmps32
  go_wp2_with fail
  refine HN.out.mono ?_
  rintro e w1 ⟨rfl, rfl⟩
  go_wp2_with fail
  go_ret2
  exact ⟨rfl, rfl⟩
theorem bx_built (A : Option Addr) (n c p q : Nat) : Try.prog.built 85 [(0, .slice A n c), (1, .pointer (some ⟨p, 0, none⟩)), (2, .pointer (some ⟨q, 0, none⟩))] = some #[.slice A n c, .pointer (some ⟨p, 0, none⟩), .pointer (some ⟨q, 0, none⟩), .int .i64 0] := by kernel_rfl
theorem wpList_bx {w : World} {ops : Array Oper} {rest : List Oper} {o : Oper} {a : Act} {Q : Exit → Act → World → Prop} (hgd : o.guard = none) (x y z : Operand) (hop : o.op = .build 85 #[(0, x), (1, y), (2, z)])
    (A : Option Addr) (n c p q : Nat) (hx : a.eval x = .slice A n c) (hy : a.eval y = .pointer (some ⟨p, 0, none⟩)) (hz : a.eval z = .pointer (some ⟨q, 0, none⟩)) (h : wpList Try.prog ops Q rest (a.put o.dst (.agg #[.slice A n c, .pointer (some ⟨p, 0, none⟩), .pointer (some ⟨q, 0, none⟩), .int .i64 0])) w) : wpList Try.prog ops Q (o :: rest) a w := by
  refine wpList_plain hgd fun K hK => ?_
  unfold Oper.wp execOp
  simp only [hop, List.map_toArray, List.map_cons, List.map_nil, hx, hy, hz, Sem.run_bind, run_build w _ #[(0, .slice A n c), (1, .pointer (some ⟨p, 0, none⟩)), (2, .pointer (some ⟨q, 0, none⟩))] _ (bx_built A n c p q), Result.andThen_ok]
  exact hK _ _ h
theorem bx_new (key : List UInt8) (w w2 w4 w5 w6 : World) (cb b lo hb c6 : Nat) (A6 : Option Addr) (HB2 : Below w.heap.size w w2) (hcb : w.heap.size ≤ cb) (hlo : w.heap.size ≤ lo) (HOB : Ob cb b lo key 0 w2) (HU4 : But cb w2 w4) (HOB4 : Ob cb b lo key 1 w4) (hhb : w4.heap.size ≤ hb) (HB5 : Below w4.heap.size w4 w5) (HHO5 : Ho w5 hb (nB (hkL key)) false) (HO6 : OwnB w6 w5.heap.size A6 16 c6 key) (HB6 : Below w5.heap.size w5 w6) :
    RetX2 key w (.returned (.tuple #[.pointer (some ⟨w6.heap.size, 0, none⟩), .int .i64 0])) (w6.alloc (.cells #[.slice A6 16 c6, .pointer (some ⟨cb, 0, none⟩), .pointer (some ⟨hb, 0, none⟩), .int .i64 0] 85)) := by
  have hlc := HOB.lt
  have hlh := HHO5.lt
  have s24 := HU4.size
  have s2 := HB2.size
  have s45 := HB5.size
  have s56 := HB6.size
  have hal := below_alloc w6 (.cells #[.slice A6 16 c6, .pointer (some ⟨cb, 0, none⟩), .pointer (some ⟨hb, 0, none⟩), .int .i64 0] 85)
  have hs7 : (w6.alloc (.cells #[.slice A6 16 c6, .pointer (some ⟨cb, 0, none⟩), .pointer (some ⟨hb, 0, none⟩), .int .i64 0] 85)).heap.size = w6.heap.size + 1 := by simp
  have hb47 : Below w4.heap.size w4 (w6.alloc (.cells #[.slice A6 16 c6, .pointer (some ⟨cb, 0, none⟩), .pointer (some ⟨hb, 0, none⟩), .int .i64 0] 85)) := (HB5.trans (HB6.mono s45)).trans (hal.mono (by omega))
  refine ⟨⟨w6.alloc (.cells #[.slice A6 16 c6, .pointer (some ⟨cb, 0, none⟩), .pointer (some ⟨hb, 0, none⟩), .int .i64 0] 85), w2, w6.heap.size, cb, hb, b, lo, c6, A6, key⟩, rfl, rfl, ?_, ?_, ⟨hlo, fun g o e => ?_, rfl⟩, ?_⟩
  · exact (HB2.trans (HU4.below hcb hlc)).trans (hb47.mono (by omega))
  · intro y hy
    simp only [BP.S, List.mem_cons, List.not_mem_nil, or_false] at hy
    rcases hy with rfl | rfl | rfl <;> omega
  · have h6 : w5.heap.size ≤ g := (World.ownsRow.lt HO6 g (by show Value.ownBlock (.slice A6 16 c6) = some g; rw [show A6 = some ⟨g, o, none⟩ from e]; rfl)).1
    omega
  · exact {
      old := Nat.le_refl _
      c0 := World.cell?_alloc_at _ _ _ _ rfl
      c1 := World.cell?_alloc_at _ _ _ _ rfl
      c2 := World.cell?_alloc_at _ _ _ _ rfl
      c3 := World.cell?_alloc_at _ _ _ _ rfl
      free := World.frozen?_alloc_at _ _ _ _ rfl
      cap := HO6.cap.1
      key := HO6.rb.step hal
      away := by
        intro y hy
        simp only [BP.S, List.mem_cons, List.not_mem_nil, or_false] at hy
        rcases hy with rfl | rfl | rfl
        · exact HO6.rb.far (by omega) (Nat.le_refl _)
        · exact HO6.far (by omega)
        · exact HO6.far (by omega)
      ob0 := HOB
      but := HU4.trans (But.of_below hb47)
      ob := ⟨1, Nat.le_refl _, HOB4.below hb47⟩
      ho := ⟨false, HHO5.keep ((HB6.trans (hal.mono s56)))⟩
      ord := by
        show w2.heap.size ≤ w6.heap.size ∧ w2.heap.size ≤ hb ∧ w6.heap.size < _ ∧ hb < _ ∧ w6.heap.size ≠ hb ∧ w2.heap.size ≤ _
        rw [hs7]
        omega }
set_option maxRecDepth 100000 in
set_option maxHeartbeats 4000000 in
theorem gnew2_any (A : Option Addr) (c : Nat) (key : List UInt8) (w : World) (h : RB w w.heap.size A 16 key) (hc : 16 ≤ c) :
    Calls Try.prog 32 #[.slice A 16 c] w (RetX2 key w) := by
  have H := Lib.hid h
  have HN := Lib.hid (anew_any c A key w h hc)
  have HHK := Lib.hid (hk_eq key)
  have HKL := Lib.hid (hkL_len key h.len)
  clear h hc
  go_enter Try.func32, Try.ntmps32
  go_wp2_with fail
  refine HN.out.mono ?_
  rintro e w2 ⟨cb, b, lo, rfl, hb2, hcb, hbl, hob⟩
  have HB2 := Lib.hid hb2
  have HOB := Lib.hid hob
  have HCB : Hid (w.heap.size ≤ cb ∧ cb < w2.heap.size) := Lib.hid ⟨hcb, hob.lt⟩
  have HLO := Lib.hid hbl.2
  clear hb2 hob hcb hbl HN
  go_wp2_with (first
    | (at_make; refine wpList_mk rfl _ _ rfl w2.heap.size .i64 .i64 _ _ 16 rfl rfl rfl rfl (by omega) (Nat.le_refl _) ?_; intro w3 hown3 hs3 hb3; have HO3 := Lib.hid hown3; have HB3 := Lib.hid hb3; clear hown3 hb3 hs3))
  refine (encrypt_any cb b lo 0 16 key (List.replicate 16 0) _ _ (by exact HOB.out.below HB3.out) (by omega) (by exact HO3.out.rb) (by omega) (by exact HO3.out.far HCB.out.2)).mono ?_
  rw [HHK.out]
  rintro e w4 ⟨A4, c4, rfl, ho4, hbu4, hob4⟩
  have HC4 := ho4.cap.1
  have HR4 := Lib.hid ho4.rb
  have HU4 := Lib.hid ((But.of_below (b := cb) HB3.out).trans hbu4)
  have HOB4 := Lib.hid hob4
  clear ho4 hbu4 hob4 HO3 HB3
  go_wp2_with fail
  refine (new_ok A4 c4 (hkL key) _ HC4 HKL.out (by exact HR4.out)).mono ?_
  rintro e w5 ⟨hb, rfl, hhb, hb5, hho5⟩
  have HHB := Lib.hid hhb
  have HB5 := Lib.hid hb5
  have HHO5 := Lib.hid hho5
  have HBW5 : Hid (Below w.heap.size w w5) := Lib.hid (((HB2.out.trans (HU4.out.below HCB.out.1 HCB.out.2)).trans (hb5.mono (Nat.le_trans HB2.out.size HU4.out.size))))
  clear hhb hb5 hho5 HR4 HC4
  go_wp2_with fail
  refine (clone_any A 16 c w5.heap.size key _ (by exact H.out.step HBW5.out) (by exact Nat.le_refl _) (by omega)).mono ?_
  rintro e w6 ⟨A6, c6, rfl, ho6, hb6⟩
  have HO6 := Lib.hid ho6
  have HB6 := Lib.hid hb6
  clear ho6 hb6
  go_wp2_with (refine wpList_bx rfl (.tmp 30) (.tmp 31) (.tmp 32) rfl A6 16 c6 cb hb rfl rfl rfl ?_)
  go_ret2
  exact bx_new key w w2 w4 w5 w6 cb b lo hb c6 A6 HB2.out HCB.out.1 HLO.out HOB.out HU4.out HOB4.out HHB.out HB5.out HHO5.out HO6.out HB6.out
theorem gnew_any (A : Option Addr) (c : Nat) (key : List UInt8) (w : World) (h : RB w w.heap.size A 16 key) (hc : 16 ≤ c) :
    Calls Try.prog 32 #[.slice A 16 c] w (RetX key w) :=
  (gnew2_any A c key w h hc).mono fun e w' k => by
    obtain ⟨p, h1, h2, h3, h4, _, h5⟩ := k
    exact ⟨p, h1, h2, h3, h4, h5⟩

/-! Seal, Tag. -/
/-! Open. -/
end Go.Proofs.Ytlapnfpdkfhfdaa

