/- The check that stands at the head of each of layer 7's statements answers true; great bounds its rows. Condition: the rows' cells are readable. -/
import Derived.Test.YtmpidjadpcpbfaaGreatGcm
import Derived.Test.YtmpidjadpcpbfaaGreatGcmNum
import Derived.Test.YtmpidjadpcpbfaaGreatUseBytes
namespace Go.Proofs.YtmpidjadpcpbfaaGreat
attribute [local irreducible] wsW keyUpTo keyF lastW turn0 encUp decUp aftL encL tableL blksL blkL strmL putL numL xorL turnAt fstL hkL tagL trnL bB sumG nB sealR openR tagR
open Go.RowKit
set_option linter.unusedVariables false
set_option linter.unusedSimpArgs false

/-- make of n bytes, as a fact: for a region's operation that is guarded. -/
theorem make_run (n : Nat) (N : Int) (hN : N = (n : Int)) (hn : n ≤ 140737488355328) (w : World) : ∃ w', (Instr.makeSlice 22 (.int .i64 N) (.int .i64 N)).run Tryz.prog w = .ok (.slice (some ⟨w.heap.size, 0, none⟩) n n) w' ∧ OwnB w' w.heap.size (some ⟨w.heap.size, 0, none⟩) n n (List.replicate n 0) ∧ Below w.heap.size w w' := by
  obtain ⟨i0, hi0, hz0, hz1, hz2⟩ := info_parts u8_info
  have hrun := run_make (P := Tryz.prog) w 22 5 i0 (.int .u8 0) Tryz.underlying22 hi0 hz0 .i64 .i64 (n : Int) (n : Int) (by omega) (by omega) (by rw [hz2]; omega) (by omega)
  subst hN
  simp only [Int.toNat_natCast, hz1, Nat.mul_one] at hrun
  refine ⟨_, hrun, ?_, (Below.refl _ _).alloc (Nat.le_refl _) _⟩
  have h := World.ownsRow_lit (size := 1) (base := w.heap.size) (e := 5) w (madeCells (Value.int .u8 0).cells n) n (Nat.le_refl _) (by unfold maxLen; omega) (by simp [size_madeCells])
  have e : (madeCells (Value.int .u8 0).cells n).toList = bvs (List.replicate n 0) := by
    apply List.ext_getElem
    · simp [bvs, size_madeCells]
    · intro i h1 h2
      simp [madeCells, bvs, bv, Value.cells, Nat.mod_one]
  rw [e] at h
  exact h
theorem zr_reps : List.replicate 16 (0 : UInt8) = zr16 ∧ List.replicate 12 (0 : UInt8) = zr12 := ⟨rfl, rfl⟩
attribute [local irreducible] zr16 zr12 wantG textL tgL keyL e1L tg1L
/-- What a box's call answers, its length and its error's number named. -/
def RetU (p : BP) (n f N : Nat) (L : List UInt8) (E : Int) (w : World) (e : Ending) (w' : World) : Prop :=
  ∃ A c, e = .returned (.tuple #[.slice A N c, .int .i64 E]) ∧ OwnB w' w.heap.size A N c L ∧ Off p.S w w' ∧ Bz p n f w'
theorem RetO.to {p : BP} {n f : Nat} {R : List UInt8 × Int} {w w' : World} {e : Ending} (h : RetO p n f R w e w') (f2 N : Nat) (L : List UInt8) (E : Int) (hf : f = f2) (hR : R = (L, E)) (hN : L.length = N) : RetU p n f2 N L E w e w' := by
  subst hf
  subst hN
  subst hR
  exact h
/-- The same of what the reference answers. -/
theorem RetQ.to {R : List UInt8 × Int} {w w' : World} {e : Ending} (h : RetQ R w e w') (N : Nat) (L : List UInt8) (E : Int) (hR : R = (L, E)) (hN : L.length = N) : RetBE N L E w e w' := by
  subst hN
  subst hR
  exact h
/-- What a walk carries: the box, and rows of bytes that none of its calls touch. -/
structure KG (v : World) (p : BP) (n f : Nat) (rows : List (Option Addr × Nat × List UInt8)) (w : World) : Prop where
  bel : Below v.heap.size v w
  low : ∀ y ∈ p.S, v.heap.size ≤ y
  box : Bz p n f w
  row : ∀ r ∈ rows, RB w w.heap.size r.1 r.2.1 r.2.2 ∧ (0 < r.2.1 → AwayS r.1 p.S)
section
variable {v w w' : World} {p : BP} {n f n' f' N c : Nat} {rows : List (Option Addr × Nat × List UInt8)} {A : Option Addr} {l L : List UInt8} {E : Int} {e : Ending}
theorem KG.step (h : KG v p n f rows w) (hb : Below w.heap.size w w') : KG v p n f rows w' :=
  ⟨bel_next h.bel hb, h.low, h.box.keep hb, fun r hr => ⟨(h.row r hr).1.step hb, (h.row r hr).2⟩⟩
theorem KG.off (h : KG v p n f rows w) (hf : Off p.S w w') (hx : Bz p n' f' w') : KG v p n' f' rows w' :=
  ⟨h.bel.trans (hf.below h.low h.bel.size), h.low, hx, fun r hr => ⟨(h.row r hr).1.off hf (h.row r hr).2, (h.row r hr).2⟩⟩
theorem KG.push (h : KG v p n f rows w) (hr : RB w w.heap.size A N l) (ha : 0 < N → AwayS A p.S) : KG v p n f ((A, N, l) :: rows) w :=
  ⟨h.bel, h.low, h.box, fun r hm => by
    rcases List.mem_cons.1 hm with rfl | hm
    · exact ⟨hr, ha⟩
    · exact h.row r hm⟩
theorem KG.own (h : KG v p n f rows w) (hb : Below w.heap.size w w') (ho : OwnB w' w.heap.size A N c l) : KG v p n f ((A, N, l) :: rows) w' :=
  (h.step hb).push ho.rb (fun _ => ho.afar (h.box.after (Nat.le_refl _)))
theorem KG.ret (h : KG v p n f rows w) (hr : RetU p n' f' N L E w e w') : ∃ A c, e = .returned (.tuple #[.slice A N c, .int .i64 E]) ∧ KG v p n' f' ((A, N, L) :: rows) w' ∧ OwnB w' w.heap.size A N c L := by
  obtain ⟨A, c, he, ho, hf, hx⟩ := hr
  exact ⟨A, c, he, (h.off hf hx).push ho.rb (fun _ => ho.afar (h.box.after (Nat.le_refl _))), ho⟩
theorem KG.lit (h : KG v p n f rows w) (T : TypeId) (cs : Array Value) (hr : RB (w.alloc (.cells cs T)) (w.alloc (.cells cs T)).heap.size (some ⟨w.heap.size, 0, none⟩) N l) : KG v p n f ((some ⟨w.heap.size, 0, none⟩, N, l) :: rows) (w.alloc (.cells cs T)) :=
  (h.step (below_alloc _ _)).push hr (fun _ x hx g o e => by
    have := h.box.after (Nat.le_refl w.heap.size) x hx
    injection e with e
    injection e with e1 e2 e3
    omega)
theorem KG.front (h : KG v p n f rows w) (hm : (A, N, l) ∈ rows) {m : Nat} (hn : m ≤ N) : KG v p n f ((A, m, l.take m) :: rows) w :=
  h.push ((h.row _ hm).1.front hn) (fun h0 => (h.row _ hm).2 (Nat.lt_of_lt_of_le h0 hn))
theorem KG.head (h : KG v p n f rows w) (hm : (A, N, l) ∈ rows) {m : Nat} (hn : m ≤ N) (hc : N ≤ c) (h0 : 0 < N) {l' : List UInt8} (e : l.take m = l') : KG v p n f ((cutA A c 0, m, l') :: rows) w := by
  subst e
  refine h.push ((h.row _ hm).1.part (i := 0) (j := m) (by omega) hn hc) (fun _ => ?_)
  obtain ⟨g, o, e, _⟩ := (h.row _ hm).1.2 h0
  exact ((h.row _ hm).2 h0).cut ⟨g, o, e⟩ c 0
theorem KG.tail (h : KG v p n f rows w) (hm : (A, N, l) ∈ rows) {i M : Nat} (hi : i + M = N) (hc : N ≤ c) (h0 : 0 < N) {l' : List UInt8} (e : l.drop i = l') : KG v p n f ((cutA A c i, M, l') :: rows) w := by
  subst e
  refine h.push ?_ (fun _ => ?_)
  · have hrow : RB w w.heap.size A N l := (h.row _ hm).1
    have k := hrow.part (i := i) (j := N) (c := c) (by omega) (Nat.le_refl _) hc
    have hl := hrow.len
    rw [List.take_of_length_le (by omega), show N - i = M by omega] at k
    exact k
  · obtain ⟨g, o, e, _⟩ := (h.row _ hm).1.2 h0
    exact ((h.row _ hm).2 h0).cut ⟨g, o, e⟩ c i
theorem KG.start {key : List UInt8} (hb : Below v.heap.size v w) (hx : RetX key w e w') : ∃ p : BP, e = .returned (.tuple #[.pointer (some ⟨p.x, 0, none⟩), .int .i64 0]) ∧ p.key = key ∧ KG v p 1 0 [] w' := by
  obtain ⟨p, he, hk, hb2, hs, hx⟩ := hx
  exact ⟨p, he, hk, bel_next hb hb2, fun y hy => Nat.le_trans hb.size (hs y hy), hx, fun r hr => absurd hr (by simp)⟩
theorem KG.arg (h : KG v p n f rows w) (hr : RB v v.heap.size A N l) : KG v p n f ((A, N, l) :: rows) w := h.push (hr.step h.bel) (hr.afar h.low)
theorem KG.cut (h : KG v p n f rows w) (hm : (A, N, l) ∈ rows) {i j : Nat} (hij : i ≤ j) (hj : j ≤ N) (hc : N ≤ c) (h0 : 0 < N) : KG v p n f ((cutA A c i, j - i, (l.take j).drop i) :: rows) w :=
  h.push ((h.row _ hm).1.part hij hj hc) (fun _ => by
    obtain ⟨g, o, e, _⟩ := (h.row _ hm).1.2 h0
    exact ((h.row _ hm).2 h0).cut ⟨g, o, e⟩ c i)
end

set_option maxRecDepth 100000 in
set_option maxHeartbeats 1000000 in
theorem great_any (A : Option Addr) (n c : Nat) (ps : List (List UInt8)) (w : World) (h : RR w w.heap.size A n ps) (hn : n ≤ 1000) (hp0 : ∀ p ∈ ps, p.length ≤ maxLen) :
    Calls Tryz.prog 7 #[.slice A n c] w fun e w' => ∃ v, e = .returned (.bool v) ∧ w = w' ∧ (v = false → ∀ p ∈ ps, p.length ≤ 200) := by
  have H := Lib.hid h
  have HP := Lib.hid hp0
  clear h hp0
  go_enter Tryz.func7, Tryz.ntmps7
  go_wp2_with fail
  go_loopw [3] (fun i wr => ∃ k : Nat, k ≤ n ∧ i = .int .i64 k ∧ w = wr ∧ Hid (∀ p ∈ ps.take k, p.length ≤ 200)) (fun i _ => n - (intOf i).toNat)
  case atStart => exact ⟨0, by omega, rfl, rfl, Lib.hid (by simp)⟩
  case round =>
    obtain ⟨k, hk, rfl, rfl, hle⟩ := hrel
    by_cases hlt : k < n
    · obtain ⟨b, o, rfl, hb, p, hp, Ai, ci, hc, hr⟩ := H.out.at_ hlt
      have HT := Lib.hid (take_row hp)
      have hpl := HP.out p (List.mem_of_getElem? hp)
      unfold maxLen at hpl
      clear hp hr
      by_cases h1 : 200 < p.length
      · have hd : decide (200 < (p.length : Int)) = true := decide_eq_true (by omega)
        go_wp2_with fail
        go_ret
        exact ⟨true, rfl, rfl, fun h => absurd h (by simp)⟩
      · have hd : decide (200 < (p.length : Int)) = false := decide_eq_false (by omega)
        go_wp2_with fail
        go_roundw
        case rel => exact ⟨k + 1, by omega, by go_num, trivial, Lib.hid (by
          rw [HT.out]
          intro q hq
          rcases List.mem_append.1 hq with hq | hq
          · exact hle.out q hq
          · rw [List.mem_singleton.1 hq]; omega)⟩
        case measure => simp [intOf]; omega
    · have hkn : k = n := by omega
      subst hkn
      have HE : Hid (ps.take k = ps) := Lib.hid (List.take_of_length_le (by rw [H.out.len]; exact Nat.le_refl _))
      go_wp2_with fail
      go_ret
      exact ⟨false, rfl, rfl, fun _ => by have := hle.out; rw [HE.out] at this; exact this⟩
theorem great_lit (rows : List (Option Addr × Nat × List UInt8)) (cs : Array Value) (k : Nat) (w : World) (hc : cs = (rows.map fun r => Value.slice r.1 r.2.2.length r.2.1).toArray) (hn : rows.length = k) (hk : k ≤ 1000) (hr : ∀ r ∈ rows, RB w w.heap.size r.1 r.2.2.length r.2.2) (hm : ∀ r ∈ rows, r.2.2.length ≤ maxLen) :
    Calls Tryz.prog 7 #[.slice (some ⟨w.heap.size, 0, none⟩) k k] (w.alloc (.cells cs 22)) fun e w' => ∃ v, e = .returned (.bool v) ∧ Below w.heap.size w w' ∧ (v = false → ∀ r ∈ rows, r.2.2.length ≤ 200) := by
  have hrr := RR.lit w rows cs 22 k w.heap.size hc hn rfl hr
  refine (great_any _ k k (rows.map fun r => r.2.2) _ hrr hk (fun q hq => by
    obtain ⟨r, h1, h2⟩ := List.mem_map.1 hq
    rw [← h2]
    exact hm r h1)).mono ?_
  rintro e w' ⟨v, rfl, rfl, hv⟩
  exact ⟨v, rfl, below_alloc _ _, fun h r h1 => hv h r.2.2 (List.mem_map.2 ⟨r, h1, rfl⟩)⟩

set_option maxRecDepth 100000 in
set_option maxHeartbeats 4000000 in
theorem alive_any (w : World) :
    Calls Tryz.prog 6 #[] w fun e w' => e = .returned (.bool true) ∧ Below w.heap.size w w' := by
  have HSE := Lib.hid seal_shown
  have HOP := Lib.hid open_shown
  have HOP1 := Lib.hid open_shown1
  have HOP2 := Lib.hid open_shown2
  have HTG : Hid (tagR zr16 zr12 (wantG.take 16) [] = (tgL, 0)) := Lib.hid (by unfold tagR; rw [if_pos shown_lens.2.1, want_cut.2.1, tag_shown])
  have HZ16 : Hid (List.replicate 16 (0 : UInt8) = zr16) := Lib.hid zr_reps.1
  have HZ12 : Hid (List.replicate 12 (0 : UInt8) = zr12) := Lib.hid zr_reps.2
  have HWD : Hid (wantG.drop 16 = tgL) := Lib.hid want_cut.2.2
  go_enter Tryz.func6, Tryz.ntmps6
  go_wp2_with (first
    | (at_make; refine wpList_mk rfl _ _ rfl w.heap.size .i64 .i64 _ _ 16 rfl rfl rfl rfl (by omega) (Nat.le_refl _) ?_; intro w1 hown1 hs1 hb1; rw [HZ16.out] at hown1; have HO1 := Lib.hid hown1; have HB1 := Lib.hid hb1; clear hown1 hb1 hs1))
  refine (gnew_any _ 16 zr16 _ (by exact HO1.out.rb) (by omega)).mono ?_
  rintro e w2 ⟨p, rfl, hpk, hb2, hps, hx2⟩
  have HPK := Lib.hid hpk
  have HK2 : Hid (KG w p 1 0 [] w2) := Lib.hid ⟨bel_next HB1.out hb2, fun y hy => Nat.le_trans HB1.out.size (hps y hy), hx2, fun r hr => absurd hr (by simp)⟩
  clear hpk hb2 hps hx2 HB1 HO1
  go_wp2_with fail
  refine (gnew_bad none 0 0 _ (by omega)).mono ?_
  rintro e w3 ⟨rfl, rfl⟩
  go_wp2_with (first
    | (at_make; refine wpList_mk rfl _ _ rfl w2.heap.size .i64 .i64 _ _ 12 rfl rfl rfl rfl (by omega) (Nat.le_refl _) ?_; intro w3 hown3 hs3 hb3; rw [HZ12.out] at hown3; have HK3 := Lib.hid (HK2.out.own hb3 hown3); clear hown3 hb3 hs3 HK2)
    | (at_make; refine wpList_mk rfl _ _ rfl w3.heap.size .i64 .i64 _ _ 16 rfl rfl rfl rfl (by omega) (Nat.le_refl _) ?_; intro w4 hown4 hs4 hb4; rw [HZ16.out] at hown4; have HK4 := Lib.hid (HK3.out.own hb4 hown4); clear hown4 hb4 hs4 HK3))
  refine (gseal_r p 1 0 (some ⟨w2.heap.size, 0, none⟩) (some ⟨w3.heap.size, 0, none⟩) none 12 12 16 16 0 0 zr12 zr16 [] _ (by exact HK4.out.box) (by omega) (by exact (HK4.out.row (_, 12, zr12) (by simp)).1) (by exact (HK4.out.row (_, 16, zr16) (by simp)).1) (RB.nil_) (by omega) (fun h => absurd h (by omega)) (by omega) (by omega)).mono ?_
  intro e w5 hr
  obtain ⟨A5, c5, rfl, hk5, ho5⟩ := HK4.out.ret (hr.to 0 32 wantG 0 rfl (by rw [HPK.out, HSE.out]) want_cut.1)
  have HK5 := Lib.hid hk5
  have HC5 := ho5.cap.1
  obtain ⟨g5, hg5, _⟩ := OwnB.form ho5 (by omega)
  have HG5 := Lib.hid hg5
  clear hr hk5 ho5 HK4 hg5
  go_wp2_with fail
  refine (gopen_r p 2 0 _ A5 none 12 12 32 c5 0 0 zr12 wantG [] _ (by exact HK5.out.box) (by omega) (by omega) (by exact (HK5.out.row (_, 12, zr12) (by simp)).1) (by exact (HK5.out.row (A5, 32, wantG) (by simp)).1) (RB.nil_) HC5 (by omega) (by exact (HK5.out.row (_, 12, zr12) (by simp)).2) (by exact (HK5.out.row (A5, 32, wantG) (by simp)).2) (fun h => absurd h (by omega)) (by omega) (by omega)).mono ?_
  intro e w6 hr
  obtain ⟨A6, c6, rfl, hk6, ho6⟩ := HK5.out.ret (hr.to 0 16 zr16 0 (by rw [HPK.out, HOP.out]; rfl) (by rw [HPK.out, HOP.out]) shown_lens.1)
  have HK6 := Lib.hid hk6
  clear hr hk6 ho6 HK5
  go_wp2_with fail
  have HK7 := Lib.hid (HK6.out.lit 5 #[.int .u8 1] (RB.lit w6 [1] _ 1 _ rfl rfl rfl))
  clear HK6
  refine (gopen_r p 3 0 _ A5 _ 12 12 32 c5 1 1 zr12 wantG [1] _ (by exact HK7.out.box) (by omega) (by omega) (by exact (HK7.out.row (_, 12, zr12) (by simp)).1) (by exact (HK7.out.row (A5, 32, wantG) (by simp)).1) (by exact (HK7.out.row (_, 1, [1]) (by simp)).1) HC5 (by omega) (by exact (HK7.out.row (_, 12, zr12) (by simp)).2) (by exact (HK7.out.row (A5, 32, wantG) (by simp)).2) (by exact (HK7.out.row (_, 1, [1]) (by simp)).2) (by omega) (by omega)).mono ?_
  intro e w8 hr
  obtain ⟨A8, c8, rfl, hk8, ho8⟩ := HK7.out.ret (hr.to 1 0 [] 13 (by rw [HPK.out, HOP1.out]; rfl) (by rw [HPK.out, HOP1.out]) rfl)
  have HK8 := Lib.hid (hk8.front (A := A5) (N := 32) (l := wantG) (m := 15) (by simp) (by omega))
  clear hr hk8 ho8 HK7
  go_wp2_with fail
  refine (gopen_r p 4 1 _ A5 none 12 12 15 c5 0 0 zr12 (wantG.take 15) [] _ (by exact HK8.out.box) (by omega) (by omega) (by exact (HK8.out.row (_, 12, zr12) (by simp)).1) (by exact (HK8.out.row (A5, 15, wantG.take 15) (by simp)).1) (RB.nil_) (by omega) (by omega) (by exact (HK8.out.row (_, 12, zr12) (by simp)).2) (by exact (HK8.out.row (A5, 15, wantG.take 15) (by simp)).2) (fun h => absurd h (by omega)) (by omega) (by omega)).mono ?_
  intro e w9 hr
  obtain ⟨A9, c9, rfl, hk9, ho9⟩ := HK8.out.ret (hr.to 1 0 [] 12 (by rw [HPK.out, HOP2.out]; rfl) (by rw [HPK.out, HOP2.out]) rfl)
  have HK9 := Lib.hid hk9
  clear hr hk9 ho9 HK8
  go_wp2_with fail
  refine (gseal_bad _ none none none 0 0 0 0 0 0 _ (by omega)).mono ?_
  rintro e w10 ⟨rfl, rfl⟩
  go_wp2_with fail
  have HK10 := Lib.hid (HK9.out.lit 5 _ (RB.lit w9 wantG _ 32 _ rfl want_cut.1 rfl))
  obtain ⟨w10, HW10⟩ : ∃ w10, Hid (w10 = w9.alloc (.cells (bvs wantG).toArray 5)) := ⟨_, Lib.hid rfl⟩
  rw [← HW10.out] at HK10
  rw [← want_cells, ← HW10.out]
  have HK11 := Lib.hid (HK10.out.front (A := some ⟨w9.heap.size, 0, none⟩) (N := 32) (l := wantG) (m := 16) (by simp) (by omega))
  clear HK9 HK10
  refine (gtag_r p 5 1 _ (some ⟨w9.heap.size, 0, none⟩) none 12 12 16 32 0 0 zr12 (wantG.take 16) [] _ (by exact HK11.out.box) (by omega) (by exact (HK11.out.row (_, 12, zr12) (by simp)).1) (by exact (HK11.out.row (some ⟨w9.heap.size, 0, none⟩, 16, wantG.take 16) (by simp)).1) (RB.nil_) (by omega) (by omega) (by exact (HK11.out.row (some ⟨w9.heap.size, 0, none⟩, 16, wantG.take 16) (by simp)).2) (fun h => absurd h (by omega)) (by omega) (by omega)).mono ?_
  intro e w12 hr
  obtain ⟨A12, c12, rfl, hk12, ho12⟩ := HK11.out.ret (hr.to 1 16 tgL 0 rfl (by rw [HPK.out, HTG.out]) shown_lens.2.2.1)
  have HK12 := Lib.hid (hk12.cut (A := some ⟨w9.heap.size, 0, none⟩) (N := 32) (l := wantG) (c := 32) (i := 16) (j := 32) (by simp) (by omega) (by omega) (by omega) (by omega))
  clear hr hk12 ho12 HK11
  go_wp2_with fail
  refine (al_same A5 _ 32 c5 32 32 wantG wantG _ (by exact (HK12.out.row (A5, 32, wantG) (by simp)).1) (by exact (HK12.out.row (_, 32, wantG) (by simp)).1) (by unfold maxLen; omega) (by unfold maxLen; omega) true (by simp)).mono ?_
  rintro e w13 ⟨rfl, hb13⟩
  have HK13 := Lib.hid (HK12.out.step hb13)
  clear hb13 HK12
  obtain ⟨w14, hmk14, hown14, hb14⟩ := make_run 16 16 rfl (by omega) w13
  rw [HZ16.out] at hown14
  have HK14 := Lib.hid (HK13.out.own hb14 hown14)
  clear hown14 hb14 HK13
  go_wp2_with fail
  clear hmk14
  refine (al_same A6 _ 16 c6 16 16 zr16 zr16 _ (by exact (HK14.out.row (A6, 16, zr16) (by simp)).1) (by exact (HK14.out.row (_, 16, zr16) (by simp)).1) (by unfold maxLen; omega) (by unfold maxLen; omega) true (by simp)).mono ?_
  rintro e w15 ⟨rfl, hb15⟩
  have HK15 := Lib.hid (HK14.out.step hb15)
  clear hb15 HK14
  go_wp2_with fail
  have HT15 : Hid (RB w15 w15.heap.size (some ⟨w9.heap.size, 16, none⟩) 16 tgL) := Lib.hid (by
    have h := (HK15.out.row (cutA (some ⟨w9.heap.size, 0, none⟩) 32 16, 32 - 16, (wantG.take 32).drop 16) (by simp)).1
    rw [List.take_of_length_le (by rw [want_cut.1]; omega), HWD.out] at h
    exact h)
  refine (al_same A12 _ 16 c12 16 _ tgL tgL _ (by exact (HK15.out.row (A12, 16, tgL) (by simp)).1) (by exact HT15.out) (by unfold maxLen; omega) (by unfold maxLen; omega) true (by simp)).mono ?_
  rintro e w16 ⟨rfl, hb16⟩
  have HK16 := Lib.hid (HK15.out.step hb16)
  clear hb16 HK15
  go_wp2_with fail
  refine (gfailed_any p 6 1 _ (by exact HK16.out.box)).mono ?_
  rintro e w17 ⟨rfl, rfl⟩
  go_wp2_with fail
  go_ret
  exact ⟨rfl, HK16.out.bel⟩
end Go.Proofs.YtmpidjadpcpbfaaGreat
