/- Layer 9's statements ask a reader for parts: it tells just these, and goes on as the document says. Conditions: as in Scan. -/
import Derived.Test.YtakmnfcbfbkloaaScanPure
import Derived.Test.YtakmnfcbfbkloaaScanLd
namespace Go.Proofs.Ytakmnfcbfbkloaa
open Go.RowKit
set_option linter.unusedVariables false
set_option linter.unusedSimpArgs false

theorem PL.off {w w' : World} {x n : Nat} {A : Option Addr} {ps : List Pt} {s : Int × List UInt8} (h : PL w w.heap.size A n ps) (hr : RdR w x s) (ho : Oth [x] w w') : PL w' w'.heap.size A n ps := by
  refine ⟨h.1, fun p hp => ?_, fun hn => ?_⟩
  · have k := h.2.1 p hp
    exact ⟨k.rb.oth ho (hr.row k.rb), k.cap, k.few, k.v64, k.what, k.size⟩
  · obtain ⟨b, o, e, hb, hc⟩ := h.2.2 hn
    refine ⟨b, o, e, Nat.lt_of_lt_of_le hb ho.size, fun i p hp j v hv => ?_⟩
    refine (World.cell?_of_block (w := w) (ho.block b hb (fun hm => ?_))).trans (hc i p hp j v hv)
    have hbx := List.mem_singleton.1 hm
    subst hbx
    obtain ⟨A', n', c', t1, _⟩ := hr
    have h0 : 0 < ps.length := by rw [h.1]; exact hn
    have h2 := hc 0 ps[0] (List.getElem?_eq_getElem h0) 2 _ rfl
    rw [cell_of_row w b _ _ _ (0, 0) t1] at h2
    simp at h2
/-- What the walk carries between two parts. -/
structure LK (w0 : World) (x : Nat) (A : Option Addr) (n : Nat) (ps : List Pt) (s : Int × List UInt8) (w : World) : Prop where
  oth : Oth [x] w0 w
  rd : RdR w x s
  pl : PL w w.heap.size A n ps
/-- Within a part: its box too. -/
structure TK (w0 : World) (q x : Nat) (p : Pt) (A : Option Addr) (n : Nat) (ps : List Pt) (s : Int × List UInt8) (w : World) : Prop where
  lk : LK w0 x A n ps s w
  lt : q < w.heap.size
  ne : q ≠ x
  box : w.rangeAt q 0 p.cells
  mem : p ∈ ps
section
variable {w0 w w' : World} {x q n : Nat} {A : Option Addr} {ps : List Pt} {p : Pt} {s s' : Int × List UInt8}
theorem LK.step (h : LK w0 x A n ps s w) (hb : Below w.heap.size w w') : LK w0 x A n ps s w' :=
  ⟨h.oth.trans (Oth.of_below hb), h.rd.step hb, (h.pl.below hb).more hb.size⟩
theorem LK.off (h : LK w0 x A n ps s w) (ho : Oth [x] w w') (hr : RdR w' x s') : LK w0 x A n ps s' w' :=
  ⟨h.oth.trans ho, hr, h.pl.off h.rd ho⟩
theorem TK.off (h : TK w0 q x p A n ps s w) (ho : Oth [x] w w') (hr : RdR w' x s') : TK w0 q x p A n ps s' w' :=
  ⟨h.lk.off ho hr, Nat.lt_of_lt_of_le h.lt ho.size, h.ne, fun j v hv => (World.cell?_of_block (w := w) (ho.block q h.lt (by simpa using h.ne))).trans (h.box j v hv), h.mem⟩
theorem TK.step (h : TK w0 q x p A n ps s w) (hb : Below w.heap.size w w') : TK w0 q x p A n ps s w' :=
  ⟨h.lk.step hb, Nat.lt_of_lt_of_le h.lt hb.size, h.ne, fun j v hv => (hb.cell (p := ⟨q, 0 + j, none⟩) h.lt).trans (h.box j v hv), h.mem⟩
theorem TK.b0 (h : TK w0 q x p A n ps s w) : w.cell? ⟨q, 0, none⟩ = some (.int .i64 p.what) := h.box 0 _ rfl
theorem TK.b1 (h : TK w0 q x p A n ps s w) : w.cell? ⟨q, 1, none⟩ = some (.int .i64 p.size) := h.box 1 _ rfl
theorem TK.b2 (h : TK w0 q x p A n ps s w) : w.cell? ⟨q, 2, none⟩ = some (.int .u64 (p.v : Int)) := h.box 2 _ rfl
theorem TK.b3 (h : TK w0 q x p A n ps s w) : w.cell? ⟨q, 3, none⟩ = some (.slice p.A p.b.length p.c) := h.box 3 _ rfl
theorem TK.ok (h : TK w0 q x p A n ps s w) : p.ok w w.heap.size := h.lk.pl.2.1 p h.mem
end
theorem pt_info : (Try.prog.info? 48).map (fun i => (i.zero, i.size, i.bytes)) = some (some (.agg #[.int .i64 0, .int .i64 0, .int .u64 0, .slice none 0 0]), 4, 48) := by kernel_rfl
theorem pt_zero (w : World) : (zeroValue 48).run Try.prog w = .ok (.agg #[.int .i64 0, .int .i64 0, .int .u64 0, .slice none 0 0]) w := by
  obtain ⟨i, hi, hz, _⟩ := info_parts pt_info
  simp [zeroValue, typeInfo, hi, hz]
theorem pt_all (p : Pt) : p.cells.toArray.all (·.oneCell') = true := all_oneCell_toArray (fun v hv => by
  simp only [Pt.cells, List.mem_cons, List.not_mem_nil, or_false] at hv
  rcases hv with rfl | rfl | rfl | rfl <;> rfl)
/-- A part stored whole. -/
theorem wpList_stPt {w : World} {ops : Array Oper} {rest : List Oper} {o : Oper} {a : Act} {Q : Exit → Act → World → Prop} (hgd : o.guard = none) (x y : Operand) (hop : o.op = .store 48 x y) (g : Nat) (hx : a.eval x = .pointer (some ⟨g, 0, none⟩)) (p : Pt) (hy : a.eval y = p.val) (hc : w.there g 0 4)
    (hk : ∀ w', w'.rangeAt g 0 p.cells → (∀ B, B ≤ g → Below B w w') → w'.heap.size = w.heap.size → wpList Try.prog ops Q rest (a.put o.dst undef) w') : wpList Try.prog ops Q (o :: rest) a w := by
  refine wpList_store_mid hgd _ x y hop g 0 p.cells.toArray hx hy hc sz_pt (pt_all p) ?_
  have hsz : ∀ (vs : List Value) (o : Nat) (w : World), (w.setCells g o vs).heap.size = w.heap.size := by
    intro vs
    induction vs with
    | nil => intro o w; rfl
    | cons v r ih => intro o w; rw [World.setCells, ih]; simp
  have hbl : ∀ (vs : List Value) (o : Nat) (w0 w1 : World) (B : Nat), B ≤ g → Below B w0 w1 → Below B w0 (w1.setCells g o vs) := by
    intro vs
    induction vs with
    | nil => intro o w0 w1 B _ h; exact h
    | cons v r ih => intro o w0 w1 B hB h; rw [World.setCells]; exact ih _ _ _ _ hB (h.setCell (p := ⟨g, o, none⟩) hB v)
  refine hk _ (fun j v hv => ?_) (fun B hB => hbl _ _ _ _ B hB (Below.refl _ _)) (by simpa using hsz _ _ _)
  have hj := (List.getElem?_eq_some_iff.1 hv).1
  have := World.cell?_setCells_in g p.cells 0 w (fun q hq => (hc q hq).1) j hj
  simp only [List.toList_toArray]
  rw [this, ← hv, List.getElem?_eq_getElem hj]
theorem beq_num (a b : Nat) : ((a : Int) == (b : Int)) = (a == b) := by rw [Bool.eq_iff_iff]; simp; omega
attribute [local irreducible] numS bytesS variS shortS longS restS endS readP tellF

set_option maxRecDepth 100000 in
set_option maxHeartbeats 8000000 in
theorem tells_any (x : Nat) (A : Option Addr) (n c : Nat) (ps : List Pt) (s : Int × List UInt8) (w : World) (h1 : RdR w x s) (h2 : PL w w.heap.size A n ps) (hn : n ≤ 1000000) (h3 : ∀ p ∈ ps, p.b.length ≤ 300) :
    Calls Try.prog 19 #[.pointer (some ⟨x, 0, none⟩), .slice A n c] w fun e w' => e = .returned (.bool ((tellF ps (true, s)).1 && (tellF ps (true, s)).2.1 == 0)) ∧ Oth [x] w w' ∧ RdR w' x (tellF ps (true, s)).2 := by
  have hlen := h2.len
  have H3 := Lib.hid h3
  have K0 : Hid (LK w x A n ps s w) := Lib.hid ⟨Oth.refl _ _, h1, h2⟩
  have hz := pt_zero
  clear h1 h2 h3
  go_enter Try.func19, Try.ntmps19
  go_wp2_with fail
  go_loopw [5, 6, 7] (fun ok i _ wr => ∃ (k : Nat) (o : Bool) (t : Int × List UInt8), k ≤ n ∧ i = .int .i64 k ∧ ok = .bool o ∧ Hid (tellF (ps.take k) (true, s) = (o, t)) ∧ Hid (LK w x A n ps t wr)) (fun _ i _ _ => n - (intOf i).toNat)
  case atStart => exact ⟨0, true, s, by omega, rfl, rfl, Lib.hid (by simp [tellF]), K0⟩
  case round =>
    obtain ⟨k, o, t, hk, rfl, rfl, HF, K⟩ := hrel
    clear K0
    by_cases hlt : k < n
    · obtain ⟨b, off, p, rfl, hb, hp, hok, hc⟩ := K.out.pl.at_ hlt
      have HMEM := Lib.hid (List.mem_of_getElem? hp)
      have h300 : p.b.length ≤ 300 := H3.out p HMEM.out
      have HFS : Hid (tellF (ps.take (k + 1)) (true, s) = ((readP p t).1 && o, (readP p t).2)) := Lib.hid (by
        rw [show ps.take (k + 1) = ps.take k ++ [p] by rw [List.take_add_one, hp]; rfl, tellF_snoc, HF.out])
      have HC := Lib.hid hc
      have hrl := K.out.rd.lt
      have hI := hok.size
      have hV := hok.v64
      unfold I64 at hI
      have HTH : Hid (∀ z : Array Value, z.size = 4 → (wr.alloc (.cells z 48)).there wr.heap.size 0 4) := Lib.hid (fun z hz j hj => by
        refine ⟨?_, World.frozen?_alloc_at _ _ _ _ rfl⟩
        rw [World.cell?_alloc_at _ _ _ _ rfl, Nat.zero_add, Array.getElem?_eq_getElem (by omega)]
        rfl)
      clear hb hp hok hc
      by_cases k0 : p.what = 0
      · have e0 : (p.what == 0) = true := by rw [k0]; rfl
        obtain ⟨a, HA⟩ : ∃ a, Hid (a = numS p.size t) := ⟨_, Lib.hid rfl⟩
        obtain ⟨v, hv⟩ : ∃ v, ((a.1 : Int) == (p.v : Int)) = v := ⟨_, rfl⟩
        have hv2 : decide (a.1 = p.v) = v := by rw [← hv]; rw [Bool.eq_iff_iff]; simp; omega
        have hvn : (a.1 == p.v) = v := by rw [← beq_num]; exact hv
        have HR : Hid (readP p t = (v, a.2)) := Lib.hid (by unfold readP; rw [if_pos k0, ← HA.out, hvn])
        go_wp2_with (first
          | (refine wpList_ldPt rfl (.tmp 16) rfl b (off + k * 4) rfl p (by exact HC.out) ?_)
          | (refine wpList_stPt rfl (.tmp 7) (.tmp 17) rfl wr.heap.size rfl p rfl (by exact HTH.out _ rfl) ?_; intro w2 hr2 hb2 hs2; have K2 : Hid (TK w wr.heap.size x p (some ⟨b, off, none⟩) n ps t w2) := Lib.hid ⟨K.out.step ((below_alloc wr _).trans (hb2 _ (Nat.le_refl _))), by rw [hs2]; simp, Nat.ne_of_gt hrl, hr2, HMEM.out⟩; have b0 := K2.out.b0; have b1 := K2.out.b1; have b2 := K2.out.b2; have b3 := K2.out.b3; clear hr2 hb2 hs2))
        refine wp_region_held_drew (S := fun w' => w'.cell? ⟨wr.heap.size, 1, none⟩ = some (.int .i64 p.size) ∧ w'.cell? ⟨wr.heap.size, 2, none⟩ = some (.int .u64 (p.v : Int))) (by kernel_rfl) ⟨b1, b2⟩ (fun hHeld => ?_)
        (try dsimp only at hHeld)
        have K3 := Lib.hid (K2.out.step (Below.refl _ _).drew)
        refine wpAnyH_take (i := 0) (v := ?v0_1) rfl (by kernel_rfl) (by kernel_rfl) (by kernel_rfl) (fun _ _ _ h => h) (Or.inl ⟨by rfl, ?hy0_1⟩) hHeld ?_
        case hy0_1 => (intro w hSw; (try dsimp only at hSw); obtain ⟨hSw1, hSw2⟩ := hSw; (try simp only [List.getElem_toArray, List.getElem_cons_zero, List.getElem_cons_succ]); go_simp <;> with_reducible rfl)
        (try simp only [Act.put, List.getElem_toArray, List.getElem_cons_zero, List.getElem_cons_succ, List.setIfInBounds_toArray, List.set_cons_zero, List.set_cons_succ])
        refine wpAnyH_take (i := 1) (v := ?v1_2) rfl (by kernel_rfl) (by kernel_rfl) (by kernel_rfl) (fun _ _ _ h => h) (Or.inl ⟨by rfl, ?hy1_2⟩) hHeld ?_
        case hy1_2 => (intro w hSw; (try dsimp only at hSw); obtain ⟨hSw1, hSw2⟩ := hSw; (try simp only [List.getElem_toArray, List.getElem_cons_zero, List.getElem_cons_succ]); go_simp <;> with_reducible rfl)
        (try simp only [Act.put, List.getElem_toArray, List.getElem_cons_zero, List.getElem_cons_succ, List.setIfInBounds_toArray, List.set_cons_zero, List.set_cons_succ])
        refine wpAnyH_take (i := 2) (v := ?v2_3) rfl (by kernel_rfl) (by kernel_rfl) (by kernel_rfl) (fun _ _ _ h => h) (Or.inl ⟨by rfl, ?hy2_3⟩) hHeld ?_
        case hy2_3 => (intro w hSw; (try dsimp only at hSw); obtain ⟨hSw1, hSw2⟩ := hSw; (try simp only [List.getElem_toArray, List.getElem_cons_zero, List.getElem_cons_succ]); go_simp <;> with_reducible rfl)
        (try simp only [Act.put, List.getElem_toArray, List.getElem_cons_zero, List.getElem_cons_succ, List.setIfInBounds_toArray, List.set_cons_zero, List.set_cons_succ])
        refine wpAnyH_take (i := 4) (v := ?v4_4) rfl (by kernel_rfl) (by kernel_rfl) (by kernel_rfl) (fun _ _ _ h => h) (Or.inl ⟨by rfl, ?hy4_4⟩) hHeld ?_
        case hy4_4 => (intro w hSw; (try dsimp only at hSw); obtain ⟨hSw1, hSw2⟩ := hSw; (try simp only [List.getElem_toArray, List.getElem_cons_zero, List.getElem_cons_succ]); go_simp <;> with_reducible rfl)
        (try simp only [Act.put, List.getElem_toArray, List.getElem_cons_zero, List.getElem_cons_succ, List.setIfInBounds_toArray, List.set_cons_zero, List.set_cons_succ])
        refine wpAnyH_take (i := 5) (v := ?v5_5) rfl (by kernel_rfl) (by kernel_rfl) (by kernel_rfl) (fun _ _ _ h => h) (Or.inl ⟨by rfl, ?hy5_5⟩) hHeld ?_
        case hy5_5 => (intro w hSw; (try dsimp only at hSw); obtain ⟨hSw1, hSw2⟩ := hSw; (try simp only [List.getElem_toArray, List.getElem_cons_zero, List.getElem_cons_succ]); go_simp <;> with_reducible rfl)
        (try simp only [Act.put, List.getElem_toArray, List.getElem_cons_zero, List.getElem_cons_succ, List.setIfInBounds_toArray, List.set_cons_zero, List.set_cons_succ])
        refine wpAnyH_ready (rs := [3]) (by kernel_rfl) (by simp) ?_
        refine AllReadyH.cons rfl (fun K hK => ?_) AllReadyH.nil
        (try simp only [List.getElem_toArray, List.getElem_cons_zero, List.getElem_cons_succ])
        go_simp
        refine (rnum_any x p.size t _ K3.out.lk.rd hI.2).mono ?_
        rw [← HA.out]
        rintro e w4 ⟨rfl, ho, hr⟩
        have K4 := Lib.hid (K3.out.off ho hr)
        clear ho hr
        (try go_wp2_with fail)
        refine hK.out _ _ ⟨K4.out.b1, K4.out.b2⟩ (fun hHeld => ?_)
        clear hK K
        (try simp only [Act.put, List.getElem_toArray, List.getElem_cons_zero, List.getElem_cons_succ, List.setIfInBounds_toArray, List.set_cons_zero, List.set_cons_succ])
        refine wpAnyH_take (i := 6) (v := ?v6_6) rfl (by kernel_rfl) (by kernel_rfl) (by kernel_rfl) (fun _ _ _ h => h) (Or.inl ⟨by rfl, ?hy6_6⟩) hHeld ?_
        case hy6_6 => (intro w hSw; (try dsimp only at hSw); obtain ⟨hSw1, hSw2⟩ := hSw; (try simp only [List.getElem_toArray, List.getElem_cons_zero, List.getElem_cons_succ]); go_simp <;> with_reducible rfl)
        (try simp only [Act.put, List.getElem_toArray, List.getElem_cons_zero, List.getElem_cons_succ, List.setIfInBounds_toArray, List.set_cons_zero, List.set_cons_succ])
        refine wpAnyH_take (i := 7) (v := ?v7_7) rfl (by kernel_rfl) (by kernel_rfl) (by kernel_rfl) (fun _ _ _ h => h) (Or.inl ⟨by rfl, ?hy7_7⟩) hHeld ?_
        case hy7_7 => (intro w hSw; (try dsimp only at hSw); obtain ⟨hSw1, hSw2⟩ := hSw; (try simp only [List.getElem_toArray, List.getElem_cons_zero, List.getElem_cons_succ]); go_simp <;> with_reducible rfl)
        (try simp only [Act.put, List.getElem_toArray, List.getElem_cons_zero, List.getElem_cons_succ, List.setIfInBounds_toArray, List.set_cons_zero, List.set_cons_succ])
        rcases v with _ | _
        · have hv0 := hHeld
          refine wpAnyH_take (i := 8) (v := undef) rfl (by kernel_rfl) (by kernel_rfl) (by kernel_rfl) (fun _ _ _ h => h) (Or.inr ⟨by rfl, rfl⟩) hHeld ?_
          (try simp only [Act.put, List.getElem_toArray, List.getElem_cons_zero, List.getElem_cons_succ, List.setIfInBounds_toArray, List.set_cons_zero, List.set_cons_succ])
          refine wpAnyH_take (i := 9) (v := ?v9_9) rfl (by kernel_rfl) (by kernel_rfl) (by kernel_rfl) (fun _ _ _ h => h) (Or.inl ⟨by rfl, ?hy9_9⟩) hHeld ?_
          case hy9_9 => (intro w hSw; (try dsimp only at hSw); obtain ⟨hSw1, hSw2⟩ := hSw; (try simp only [List.getElem_toArray, List.getElem_cons_zero, List.getElem_cons_succ]); go_simp <;> with_reducible rfl)
          (try simp only [Act.put, List.getElem_toArray, List.getElem_cons_zero, List.getElem_cons_succ, List.setIfInBounds_toArray, List.set_cons_zero, List.set_cons_succ])
          refine wpAnyH_take (i := 10) (v := ?v10_10) rfl (by kernel_rfl) (by kernel_rfl) (by kernel_rfl) (fun _ _ _ h => h) (Or.inl ⟨by rfl, ?hy10_10⟩) hHeld ?_
          case hy10_10 => (intro w hSw; (try dsimp only at hSw); obtain ⟨hSw1, hSw2⟩ := hSw; (try simp only [List.getElem_toArray, List.getElem_cons_zero, List.getElem_cons_succ]); go_simp <;> with_reducible rfl)
          (try simp only [Act.put, List.getElem_toArray, List.getElem_cons_zero, List.getElem_cons_succ, List.setIfInBounds_toArray, List.set_cons_zero, List.set_cons_succ])
          refine wpAnyH_done (by kernel_rfl) ?_ _
          clear b1 b2 b3
          go_wp2_with fail
          go_roundw
          case rel => exact ⟨k + 1, false, a.2, by omega, by go_num, rfl, Lib.hid (by rw [HFS.out, HR.out]; rfl), Lib.hid K4.out.lk⟩
          case measure => simp [intOf]; omega
        · have hv0 := hHeld
          refine wpAnyH_take (i := 8) (v := ?v8_11) rfl (by kernel_rfl) (by kernel_rfl) (by kernel_rfl) (fun _ _ _ h => h) (Or.inl ⟨by rfl, ?hy8_11⟩) hHeld ?_
          case hy8_11 => (intro w hSw; (try dsimp only at hSw); obtain ⟨hSw1, hSw2⟩ := hSw; (try simp only [List.getElem_toArray, List.getElem_cons_zero, List.getElem_cons_succ]); go_simp <;> with_reducible rfl)
          (try simp only [Act.put, List.getElem_toArray, List.getElem_cons_zero, List.getElem_cons_succ, List.setIfInBounds_toArray, List.set_cons_zero, List.set_cons_succ])
          refine wpAnyH_take (i := 9) (v := ?v9_12) rfl (by kernel_rfl) (by kernel_rfl) (by kernel_rfl) (fun _ _ _ h => h) (Or.inl ⟨by rfl, ?hy9_12⟩) hHeld ?_
          case hy9_12 => (intro w hSw; (try dsimp only at hSw); obtain ⟨hSw1, hSw2⟩ := hSw; (try simp only [List.getElem_toArray, List.getElem_cons_zero, List.getElem_cons_succ]); go_simp <;> with_reducible rfl)
          (try simp only [Act.put, List.getElem_toArray, List.getElem_cons_zero, List.getElem_cons_succ, List.setIfInBounds_toArray, List.set_cons_zero, List.set_cons_succ])
          refine wpAnyH_take (i := 10) (v := ?v10_13) rfl (by kernel_rfl) (by kernel_rfl) (by kernel_rfl) (fun _ _ _ h => h) (Or.inl ⟨by rfl, ?hy10_13⟩) hHeld ?_
          case hy10_13 => (intro w hSw; (try dsimp only at hSw); obtain ⟨hSw1, hSw2⟩ := hSw; (try simp only [List.getElem_toArray, List.getElem_cons_zero, List.getElem_cons_succ]); go_simp <;> with_reducible rfl)
          (try simp only [Act.put, List.getElem_toArray, List.getElem_cons_zero, List.getElem_cons_succ, List.setIfInBounds_toArray, List.set_cons_zero, List.set_cons_succ])
          refine wpAnyH_done (by kernel_rfl) ?_ _
          clear b1 b2 b3
          go_wp2_with fail
          go_roundw
          case rel => exact ⟨k + 1, o, a.2, by omega, by go_num, rfl, Lib.hid (by rw [HFS.out, HR.out]; rfl), Lib.hid K4.out.lk⟩
          case measure => simp [intOf]; omega
      have e0 : (p.what == 0) = false := by rw [beq_eq_false_iff_ne]; exact k0
      by_cases k1 : p.what = 1
      · have e1 : (p.what == 1) = true := by rw [k1]; rfl
        obtain ⟨a, HA⟩ : ∃ a, Hid (a = bytesS (p.b.length : Int) t) := ⟨_, Lib.hid rfl⟩
        obtain ⟨v, hv⟩ : ∃ v, (a.1 == p.b) = v := ⟨_, rfl⟩
        have HR : Hid (readP p t = (v, a.2)) := Lib.hid (by unfold readP; rw [if_neg k0, if_pos k1, ← HA.out, hv])
        go_wp2_with (first
          | (refine wpList_ldPt rfl (.tmp 16) rfl b (off + k * 4) rfl p (by exact HC.out) ?_)
          | (refine wpList_stPt rfl (.tmp 7) (.tmp 17) rfl wr.heap.size rfl p rfl (by exact HTH.out _ rfl) ?_; intro w2 hr2 hb2 hs2; have K2 : Hid (TK w wr.heap.size x p (some ⟨b, off, none⟩) n ps t w2) := Lib.hid ⟨K.out.step ((below_alloc wr _).trans (hb2 _ (Nat.le_refl _))), by rw [hs2]; simp, Nat.ne_of_gt hrl, hr2, HMEM.out⟩; have b0 := K2.out.b0; have b1 := K2.out.b1; have b2 := K2.out.b2; have b3 := K2.out.b3; clear hr2 hb2 hs2))
        refine wp_region_held_drew (S := fun w' => w'.cell? ⟨wr.heap.size, 1, none⟩ = some (.int .i64 p.size) ∧ w'.cell? ⟨wr.heap.size, 3, none⟩ = some (.slice p.A p.b.length p.c)) (by kernel_rfl) ⟨b1, b3⟩ (fun hHeld => ?_)
        (try dsimp only at hHeld)
        have K3 := Lib.hid (K2.out.step (Below.refl _ _).drew)
        refine wpAnyH_take (i := 0) (v := ?v0_14) rfl (by kernel_rfl) (by kernel_rfl) (by kernel_rfl) (fun _ _ _ h => h) (Or.inl ⟨by rfl, ?hy0_14⟩) hHeld ?_
        case hy0_14 => (intro w hSw; (try dsimp only at hSw); obtain ⟨hSw1, hSw2⟩ := hSw; (try simp only [List.getElem_toArray, List.getElem_cons_zero, List.getElem_cons_succ]); go_simp <;> with_reducible rfl)
        (try simp only [Act.put, List.getElem_toArray, List.getElem_cons_zero, List.getElem_cons_succ, List.setIfInBounds_toArray, List.set_cons_zero, List.set_cons_succ])
        refine wpAnyH_take (i := 1) (v := ?v1_15) rfl (by kernel_rfl) (by kernel_rfl) (by kernel_rfl) (fun _ _ _ h => h) (Or.inl ⟨by rfl, ?hy1_15⟩) hHeld ?_
        case hy1_15 => (intro w hSw; (try dsimp only at hSw); obtain ⟨hSw1, hSw2⟩ := hSw; (try simp only [List.getElem_toArray, List.getElem_cons_zero, List.getElem_cons_succ]); go_simp <;> with_reducible rfl)
        (try simp only [Act.put, List.getElem_toArray, List.getElem_cons_zero, List.getElem_cons_succ, List.setIfInBounds_toArray, List.set_cons_zero, List.set_cons_succ])
        refine wpAnyH_take (i := 2) (v := ?v2_16) rfl (by kernel_rfl) (by kernel_rfl) (by kernel_rfl) (fun _ _ _ h => h) (Or.inl ⟨by rfl, ?hy2_16⟩) hHeld ?_
        case hy2_16 => (intro w hSw; (try dsimp only at hSw); obtain ⟨hSw1, hSw2⟩ := hSw; (try simp only [List.getElem_toArray, List.getElem_cons_zero, List.getElem_cons_succ]); go_simp <;> with_reducible rfl)
        (try simp only [Act.put, List.getElem_toArray, List.getElem_cons_zero, List.getElem_cons_succ, List.setIfInBounds_toArray, List.set_cons_zero, List.set_cons_succ])
        refine wpAnyH_take (i := 3) (v := ?v3_17) rfl (by kernel_rfl) (by kernel_rfl) (by kernel_rfl) (fun _ _ _ h => h) (Or.inl ⟨by rfl, ?hy3_17⟩) hHeld ?_
        case hy3_17 => (intro w hSw; (try dsimp only at hSw); obtain ⟨hSw1, hSw2⟩ := hSw; (try simp only [List.getElem_toArray, List.getElem_cons_zero, List.getElem_cons_succ]); go_simp <;> with_reducible rfl)
        (try simp only [Act.put, List.getElem_toArray, List.getElem_cons_zero, List.getElem_cons_succ, List.setIfInBounds_toArray, List.set_cons_zero, List.set_cons_succ])
        refine wpAnyH_take (i := 5) (v := ?v5_18) rfl (by kernel_rfl) (by kernel_rfl) (by kernel_rfl) (fun _ _ _ h => h) (Or.inl ⟨by rfl, ?hy5_18⟩) hHeld ?_
        case hy5_18 => (intro w hSw; (try dsimp only at hSw); obtain ⟨hSw1, hSw2⟩ := hSw; (try simp only [List.getElem_toArray, List.getElem_cons_zero, List.getElem_cons_succ]); go_simp <;> with_reducible rfl)
        (try simp only [Act.put, List.getElem_toArray, List.getElem_cons_zero, List.getElem_cons_succ, List.setIfInBounds_toArray, List.set_cons_zero, List.set_cons_succ])
        refine wpAnyH_take (i := 6) (v := ?v6_19) rfl (by kernel_rfl) (by kernel_rfl) (by kernel_rfl) (fun _ _ _ h => h) (Or.inl ⟨by rfl, ?hy6_19⟩) hHeld ?_
        case hy6_19 => (intro w hSw; (try dsimp only at hSw); obtain ⟨hSw1, hSw2⟩ := hSw; (try simp only [List.getElem_toArray, List.getElem_cons_zero, List.getElem_cons_succ]); go_simp <;> with_reducible rfl)
        (try simp only [Act.put, List.getElem_toArray, List.getElem_cons_zero, List.getElem_cons_succ, List.setIfInBounds_toArray, List.set_cons_zero, List.set_cons_succ])
        refine wpAnyH_ready (rs := [4]) (by kernel_rfl) (by simp) ?_
        refine AllReadyH.cons rfl (fun K hK => ?_) AllReadyH.nil
        (try simp only [List.getElem_toArray, List.getElem_cons_zero, List.getElem_cons_succ])
        go_simp
        refine (rbytes_any x (p.b.length : Int) t _ K3.out.lk.rd (by omega)).mono ?_
        rw [← HA.out]
        rintro e w4 ⟨A4, n4, c4, rfl, hw, ho, hr⟩
        have K4 := Lib.hid (K3.out.off ho hr)
        have R4 := Lib.hid hw.rb
        have C4 := hw.cap
        clear ho hr hw
        (try go_wp2_with fail)
        refine hK.out _ _ ⟨K4.out.b1, K4.out.b3⟩ (fun hHeld => ?_)
        clear hK K
        (try simp only [Act.put, List.getElem_toArray, List.getElem_cons_zero, List.getElem_cons_succ, List.setIfInBounds_toArray, List.set_cons_zero, List.set_cons_succ])
        refine wpAnyH_ready (rs := [7]) (by kernel_rfl) (by simp) ?_
        refine AllReadyH.cons rfl (fun K hK => ?_) AllReadyH.nil
        (try simp only [List.getElem_toArray, List.getElem_cons_zero, List.getElem_cons_succ])
        go_simp
        refine (same_any A4 p.A n4 c4 p.b.length p.c _ _ a.1 p.b _ R4.out K4.out.ok.rb (Nat.le_trans C4.1 C4.2) (by unfold maxLen; omega)).mono ?_
        rw [hv]
        rintro e w5 ⟨rfl, d, rfl⟩
        have K5 := Lib.hid (K4.out.step (below_drewN (Below.refl _ _) d))
        (try go_wp2_with fail)
        refine hK.out _ _ ⟨K5.out.b1, K5.out.b3⟩ (fun hHeld => ?_)
        clear hK K
        (try simp only [Act.put, List.getElem_toArray, List.getElem_cons_zero, List.getElem_cons_succ, List.setIfInBounds_toArray, List.set_cons_zero, List.set_cons_succ])
        refine wpAnyH_take (i := 8) (v := ?v8_20) rfl (by kernel_rfl) (by kernel_rfl) (by kernel_rfl) (fun _ _ _ h => h) (Or.inl ⟨by rfl, ?hy8_20⟩) hHeld ?_
        case hy8_20 => (intro w hSw; (try dsimp only at hSw); obtain ⟨hSw1, hSw2⟩ := hSw; (try simp only [List.getElem_toArray, List.getElem_cons_zero, List.getElem_cons_succ]); go_simp <;> with_reducible rfl)
        (try simp only [Act.put, List.getElem_toArray, List.getElem_cons_zero, List.getElem_cons_succ, List.setIfInBounds_toArray, List.set_cons_zero, List.set_cons_succ])
        rcases v with _ | _
        · have hv0 := hHeld
          refine wpAnyH_take (i := 9) (v := undef) rfl (by kernel_rfl) (by kernel_rfl) (by kernel_rfl) (fun _ _ _ h => h) (Or.inr ⟨by rfl, rfl⟩) hHeld ?_
          (try simp only [Act.put, List.getElem_toArray, List.getElem_cons_zero, List.getElem_cons_succ, List.setIfInBounds_toArray, List.set_cons_zero, List.set_cons_succ])
          refine wpAnyH_take (i := 10) (v := ?v10_22) rfl (by kernel_rfl) (by kernel_rfl) (by kernel_rfl) (fun _ _ _ h => h) (Or.inl ⟨by rfl, ?hy10_22⟩) hHeld ?_
          case hy10_22 => (intro w hSw; (try dsimp only at hSw); obtain ⟨hSw1, hSw2⟩ := hSw; (try simp only [List.getElem_toArray, List.getElem_cons_zero, List.getElem_cons_succ]); go_simp <;> with_reducible rfl)
          (try simp only [Act.put, List.getElem_toArray, List.getElem_cons_zero, List.getElem_cons_succ, List.setIfInBounds_toArray, List.set_cons_zero, List.set_cons_succ])
          refine wpAnyH_take (i := 11) (v := ?v11_23) rfl (by kernel_rfl) (by kernel_rfl) (by kernel_rfl) (fun _ _ _ h => h) (Or.inl ⟨by rfl, ?hy11_23⟩) hHeld ?_
          case hy11_23 => (intro w hSw; (try dsimp only at hSw); obtain ⟨hSw1, hSw2⟩ := hSw; (try simp only [List.getElem_toArray, List.getElem_cons_zero, List.getElem_cons_succ]); go_simp <;> with_reducible rfl)
          (try simp only [Act.put, List.getElem_toArray, List.getElem_cons_zero, List.getElem_cons_succ, List.setIfInBounds_toArray, List.set_cons_zero, List.set_cons_succ])
          refine wpAnyH_done (by kernel_rfl) ?_ _
          clear b1 b2 b3
          go_wp2_with fail
          go_roundw
          case rel => exact ⟨k + 1, false, a.2, by omega, by go_num, rfl, Lib.hid (by rw [HFS.out, HR.out]; rfl), Lib.hid K5.out.lk⟩
          case measure => simp [intOf]; omega
        · have hv0 := hHeld
          refine wpAnyH_take (i := 9) (v := ?v9_24) rfl (by kernel_rfl) (by kernel_rfl) (by kernel_rfl) (fun _ _ _ h => h) (Or.inl ⟨by rfl, ?hy9_24⟩) hHeld ?_
          case hy9_24 => (intro w hSw; (try dsimp only at hSw); obtain ⟨hSw1, hSw2⟩ := hSw; (try simp only [List.getElem_toArray, List.getElem_cons_zero, List.getElem_cons_succ]); go_simp <;> with_reducible rfl)
          (try simp only [Act.put, List.getElem_toArray, List.getElem_cons_zero, List.getElem_cons_succ, List.setIfInBounds_toArray, List.set_cons_zero, List.set_cons_succ])
          refine wpAnyH_take (i := 10) (v := ?v10_25) rfl (by kernel_rfl) (by kernel_rfl) (by kernel_rfl) (fun _ _ _ h => h) (Or.inl ⟨by rfl, ?hy10_25⟩) hHeld ?_
          case hy10_25 => (intro w hSw; (try dsimp only at hSw); obtain ⟨hSw1, hSw2⟩ := hSw; (try simp only [List.getElem_toArray, List.getElem_cons_zero, List.getElem_cons_succ]); go_simp <;> with_reducible rfl)
          (try simp only [Act.put, List.getElem_toArray, List.getElem_cons_zero, List.getElem_cons_succ, List.setIfInBounds_toArray, List.set_cons_zero, List.set_cons_succ])
          refine wpAnyH_take (i := 11) (v := ?v11_26) rfl (by kernel_rfl) (by kernel_rfl) (by kernel_rfl) (fun _ _ _ h => h) (Or.inl ⟨by rfl, ?hy11_26⟩) hHeld ?_
          case hy11_26 => (intro w hSw; (try dsimp only at hSw); obtain ⟨hSw1, hSw2⟩ := hSw; (try simp only [List.getElem_toArray, List.getElem_cons_zero, List.getElem_cons_succ]); go_simp <;> with_reducible rfl)
          (try simp only [Act.put, List.getElem_toArray, List.getElem_cons_zero, List.getElem_cons_succ, List.setIfInBounds_toArray, List.set_cons_zero, List.set_cons_succ])
          refine wpAnyH_done (by kernel_rfl) ?_ _
          clear b1 b2 b3
          go_wp2_with fail
          go_roundw
          case rel => exact ⟨k + 1, o, a.2, by omega, by go_num, rfl, Lib.hid (by rw [HFS.out, HR.out]; rfl), Lib.hid K5.out.lk⟩
          case measure => simp [intOf]; omega
      have e1 : (p.what == 1) = false := by rw [beq_eq_false_iff_ne]; exact k1
      by_cases k2 : p.what = 2
      · have e2 : (p.what == 2) = true := by rw [k2]; rfl
        obtain ⟨a, HA⟩ : ∃ a, Hid (a = variS t) := ⟨_, Lib.hid rfl⟩
        obtain ⟨v, hv⟩ : ∃ v, ((a.1 : Int) == (p.v : Int)) = v := ⟨_, rfl⟩
        have hv2 : decide (a.1 = p.v) = v := by rw [← hv]; rw [Bool.eq_iff_iff]; simp; omega
        have hvn : (a.1 == p.v) = v := by rw [← beq_num]; exact hv
        obtain ⟨a', HA'⟩ : ∃ a', Hid (a' = variS a.2) := ⟨_, Lib.hid rfl⟩
        obtain ⟨u, hu⟩ : ∃ u, ((a'.1 : Int) == 7) = u := ⟨_, rfl⟩
        have hu2 : decide (a'.1 = 7) = u := by rw [← hu]; rw [Bool.eq_iff_iff]; simp; omega
        have hun : (a'.1 == 7) = u := by rw [← hu]; exact (beq_num a'.1 7).symm
        have HR : Hid (readP p t = (u && v, a'.2)) := Lib.hid (by unfold readP; rw [if_neg k0, if_neg k1, if_pos k2, ← HA.out, ← HA'.out, hun, hvn])
        go_wp2_with (first
          | (refine wpList_ldPt rfl (.tmp 16) rfl b (off + k * 4) rfl p (by exact HC.out) ?_)
          | (refine wpList_stPt rfl (.tmp 7) (.tmp 17) rfl wr.heap.size rfl p rfl (by exact HTH.out _ rfl) ?_; intro w2 hr2 hb2 hs2; have K2 : Hid (TK w wr.heap.size x p (some ⟨b, off, none⟩) n ps t w2) := Lib.hid ⟨K.out.step ((below_alloc wr _).trans (hb2 _ (Nat.le_refl _))), by rw [hs2]; simp, Nat.ne_of_gt hrl, hr2, HMEM.out⟩; have b0 := K2.out.b0; have b1 := K2.out.b1; have b2 := K2.out.b2; have b3 := K2.out.b3; clear hr2 hb2 hs2))
        refine wp_region_held_drew (S := fun w' => w'.cell? ⟨wr.heap.size, 1, none⟩ = some (.int .i64 p.size) ∧ w'.cell? ⟨wr.heap.size, 2, none⟩ = some (.int .u64 (p.v : Int))) (by kernel_rfl) ⟨b1, b2⟩ (fun hHeld => ?_)
        (try dsimp only at hHeld)
        have K3 := Lib.hid (K2.out.step (Below.refl _ _).drew)
        refine wpAnyH_take (i := 0) (v := ?v0_27) rfl (by kernel_rfl) (by kernel_rfl) (by kernel_rfl) (fun _ _ _ h => h) (Or.inl ⟨by rfl, ?hy0_27⟩) hHeld ?_
        case hy0_27 => (intro w hSw; (try dsimp only at hSw); obtain ⟨hSw1, hSw2⟩ := hSw; (try simp only [List.getElem_toArray, List.getElem_cons_zero, List.getElem_cons_succ]); go_simp <;> with_reducible rfl)
        (try simp only [Act.put, List.getElem_toArray, List.getElem_cons_zero, List.getElem_cons_succ, List.setIfInBounds_toArray, List.set_cons_zero, List.set_cons_succ])
        refine wpAnyH_take (i := 2) (v := ?v2_28) rfl (by kernel_rfl) (by kernel_rfl) (by kernel_rfl) (fun _ _ _ h => h) (Or.inl ⟨by rfl, ?hy2_28⟩) hHeld ?_
        case hy2_28 => (intro w hSw; (try dsimp only at hSw); obtain ⟨hSw1, hSw2⟩ := hSw; (try simp only [List.getElem_toArray, List.getElem_cons_zero, List.getElem_cons_succ]); go_simp <;> with_reducible rfl)
        (try simp only [Act.put, List.getElem_toArray, List.getElem_cons_zero, List.getElem_cons_succ, List.setIfInBounds_toArray, List.set_cons_zero, List.set_cons_succ])
        refine wpAnyH_take (i := 3) (v := ?v3_29) rfl (by kernel_rfl) (by kernel_rfl) (by kernel_rfl) (fun _ _ _ h => h) (Or.inl ⟨by rfl, ?hy3_29⟩) hHeld ?_
        case hy3_29 => (intro w hSw; (try dsimp only at hSw); obtain ⟨hSw1, hSw2⟩ := hSw; (try simp only [List.getElem_toArray, List.getElem_cons_zero, List.getElem_cons_succ]); go_simp <;> with_reducible rfl)
        (try simp only [Act.put, List.getElem_toArray, List.getElem_cons_zero, List.getElem_cons_succ, List.setIfInBounds_toArray, List.set_cons_zero, List.set_cons_succ])
        refine wpAnyH_ready (rs := [1]) (by kernel_rfl) (by simp) ?_
        refine AllReadyH.cons rfl (fun K hK => ?_) AllReadyH.nil
        (try simp only [List.getElem_toArray, List.getElem_cons_zero, List.getElem_cons_succ])
        go_simp
        refine (rvari_any x t _ K3.out.lk.rd).mono ?_
        rw [← HA.out]
        rintro e w4 ⟨rfl, ho, hr⟩
        have K4 := Lib.hid (K3.out.off ho hr)
        clear ho hr
        (try go_wp2_with fail)
        refine hK.out _ _ ⟨K4.out.b1, K4.out.b2⟩ (fun hHeld => ?_)
        clear hK K
        (try simp only [Act.put, List.getElem_toArray, List.getElem_cons_zero, List.getElem_cons_succ, List.setIfInBounds_toArray, List.set_cons_zero, List.set_cons_succ])
        refine wpAnyH_take (i := 4) (v := ?v4_30) rfl (by kernel_rfl) (by kernel_rfl) (by kernel_rfl) (fun _ _ _ h => h) (Or.inl ⟨by rfl, ?hy4_30⟩) hHeld ?_
        case hy4_30 => (intro w hSw; (try dsimp only at hSw); obtain ⟨hSw1, hSw2⟩ := hSw; (try simp only [List.getElem_toArray, List.getElem_cons_zero, List.getElem_cons_succ]); go_simp <;> with_reducible rfl)
        (try simp only [Act.put, List.getElem_toArray, List.getElem_cons_zero, List.getElem_cons_succ, List.setIfInBounds_toArray, List.set_cons_zero, List.set_cons_succ])
        refine wpAnyH_take (i := 5) (v := ?v5_31) rfl (by kernel_rfl) (by kernel_rfl) (by kernel_rfl) (fun _ _ _ h => h) (Or.inl ⟨by rfl, ?hy5_31⟩) hHeld ?_
        case hy5_31 => (intro w hSw; (try dsimp only at hSw); obtain ⟨hSw1, hSw2⟩ := hSw; (try simp only [List.getElem_toArray, List.getElem_cons_zero, List.getElem_cons_succ]); go_simp <;> with_reducible rfl)
        (try simp only [Act.put, List.getElem_toArray, List.getElem_cons_zero, List.getElem_cons_succ, List.setIfInBounds_toArray, List.set_cons_zero, List.set_cons_succ])
        rcases v with _ | _
        · have hv0 := hHeld
          refine wpAnyH_take (i := 6) (v := undef) rfl (by kernel_rfl) (by kernel_rfl) (by kernel_rfl) (fun _ _ _ h => h) (Or.inr ⟨by rfl, rfl⟩) hHeld ?_
          (try simp only [Act.put, List.getElem_toArray, List.getElem_cons_zero, List.getElem_cons_succ, List.setIfInBounds_toArray, List.set_cons_zero, List.set_cons_succ])
          refine wpAnyH_take (i := 7) (v := ?v7_33) rfl (by kernel_rfl) (by kernel_rfl) (by kernel_rfl) (fun _ _ _ h => h) (Or.inl ⟨by rfl, ?hy7_33⟩) hHeld ?_
          case hy7_33 => (intro w hSw; (try dsimp only at hSw); obtain ⟨hSw1, hSw2⟩ := hSw; (try simp only [List.getElem_toArray, List.getElem_cons_zero, List.getElem_cons_succ]); go_simp <;> with_reducible rfl)
          (try simp only [Act.put, List.getElem_toArray, List.getElem_cons_zero, List.getElem_cons_succ, List.setIfInBounds_toArray, List.set_cons_zero, List.set_cons_succ])
          refine wpAnyH_take (i := 8) (v := ?v8_34) rfl (by kernel_rfl) (by kernel_rfl) (by kernel_rfl) (fun _ _ _ h => h) (Or.inl ⟨by rfl, ?hy8_34⟩) hHeld ?_
          case hy8_34 => (intro w hSw; (try dsimp only at hSw); obtain ⟨hSw1, hSw2⟩ := hSw; (try simp only [List.getElem_toArray, List.getElem_cons_zero, List.getElem_cons_succ]); go_simp <;> with_reducible rfl)
          (try simp only [Act.put, List.getElem_toArray, List.getElem_cons_zero, List.getElem_cons_succ, List.setIfInBounds_toArray, List.set_cons_zero, List.set_cons_succ])
          refine wpAnyH_done (by kernel_rfl) ?_ _
          clear b1 b2 b3
          go_wp2_with fail
          refine (rvari_any x a.2 _ K4.out.lk.rd).mono ?_
          rw [← HA'.out]
          rintro e w6 ⟨rfl, ho, hr⟩
          have K6 := Lib.hid (K4.out.off ho hr)
          clear ho hr
          rcases u with _ | _
          · go_wp2_with fail
            go_roundw
            case rel => exact ⟨k + 1, false, a'.2, by omega, by go_num, rfl, Lib.hid (by rw [HFS.out, HR.out]; rfl), Lib.hid K6.out.lk⟩
            case measure => simp [intOf]; omega
          · go_wp2_with fail
            go_roundw
            case rel => exact ⟨k + 1, false, a'.2, by omega, by go_num, rfl, Lib.hid (by rw [HFS.out, HR.out]; rfl), Lib.hid K6.out.lk⟩
            case measure => simp [intOf]; omega
        · have hv0 := hHeld
          refine wpAnyH_take (i := 6) (v := ?v6_35) rfl (by kernel_rfl) (by kernel_rfl) (by kernel_rfl) (fun _ _ _ h => h) (Or.inl ⟨by rfl, ?hy6_35⟩) hHeld ?_
          case hy6_35 => (intro w hSw; (try dsimp only at hSw); obtain ⟨hSw1, hSw2⟩ := hSw; (try simp only [List.getElem_toArray, List.getElem_cons_zero, List.getElem_cons_succ]); go_simp <;> with_reducible rfl)
          (try simp only [Act.put, List.getElem_toArray, List.getElem_cons_zero, List.getElem_cons_succ, List.setIfInBounds_toArray, List.set_cons_zero, List.set_cons_succ])
          refine wpAnyH_take (i := 7) (v := ?v7_36) rfl (by kernel_rfl) (by kernel_rfl) (by kernel_rfl) (fun _ _ _ h => h) (Or.inl ⟨by rfl, ?hy7_36⟩) hHeld ?_
          case hy7_36 => (intro w hSw; (try dsimp only at hSw); obtain ⟨hSw1, hSw2⟩ := hSw; (try simp only [List.getElem_toArray, List.getElem_cons_zero, List.getElem_cons_succ]); go_simp <;> with_reducible rfl)
          (try simp only [Act.put, List.getElem_toArray, List.getElem_cons_zero, List.getElem_cons_succ, List.setIfInBounds_toArray, List.set_cons_zero, List.set_cons_succ])
          refine wpAnyH_take (i := 8) (v := ?v8_37) rfl (by kernel_rfl) (by kernel_rfl) (by kernel_rfl) (fun _ _ _ h => h) (Or.inl ⟨by rfl, ?hy8_37⟩) hHeld ?_
          case hy8_37 => (intro w hSw; (try dsimp only at hSw); obtain ⟨hSw1, hSw2⟩ := hSw; (try simp only [List.getElem_toArray, List.getElem_cons_zero, List.getElem_cons_succ]); go_simp <;> with_reducible rfl)
          (try simp only [Act.put, List.getElem_toArray, List.getElem_cons_zero, List.getElem_cons_succ, List.setIfInBounds_toArray, List.set_cons_zero, List.set_cons_succ])
          refine wpAnyH_done (by kernel_rfl) ?_ _
          clear b1 b2 b3
          go_wp2_with fail
          refine (rvari_any x a.2 _ K4.out.lk.rd).mono ?_
          rw [← HA'.out]
          rintro e w6 ⟨rfl, ho, hr⟩
          have K6 := Lib.hid (K4.out.off ho hr)
          clear ho hr
          rcases u with _ | _
          · go_wp2_with fail
            go_roundw
            case rel => exact ⟨k + 1, false, a'.2, by omega, by go_num, rfl, Lib.hid (by rw [HFS.out, HR.out]; rfl), Lib.hid K6.out.lk⟩
            case measure => simp [intOf]; omega
          · go_wp2_with fail
            go_roundw
            case rel => exact ⟨k + 1, o, a'.2, by omega, by go_num, rfl, Lib.hid (by rw [HFS.out, HR.out]; rfl), Lib.hid K6.out.lk⟩
            case measure => simp [intOf]; omega
      have e2 : (p.what == 2) = false := by rw [beq_eq_false_iff_ne]; exact k2
      by_cases k3 : p.what = 3
      · have e3 : (p.what == 3) = true := by rw [k3]; rfl
        obtain ⟨a, HA⟩ : ∃ a, Hid (a = shortS t) := ⟨_, Lib.hid rfl⟩
        obtain ⟨v, hv⟩ : ∃ v, (a.1 == p.b) = v := ⟨_, rfl⟩
        have HR : Hid (readP p t = (v, a.2)) := Lib.hid (by unfold readP; rw [if_neg k0, if_neg k1, if_neg k2, if_pos k3, ← HA.out, hv])
        go_wp2_with (first
          | (refine wpList_ldPt rfl (.tmp 16) rfl b (off + k * 4) rfl p (by exact HC.out) ?_)
          | (refine wpList_stPt rfl (.tmp 7) (.tmp 17) rfl wr.heap.size rfl p rfl (by exact HTH.out _ rfl) ?_; intro w2 hr2 hb2 hs2; have K2 : Hid (TK w wr.heap.size x p (some ⟨b, off, none⟩) n ps t w2) := Lib.hid ⟨K.out.step ((below_alloc wr _).trans (hb2 _ (Nat.le_refl _))), by rw [hs2]; simp, Nat.ne_of_gt hrl, hr2, HMEM.out⟩; have b0 := K2.out.b0; have b1 := K2.out.b1; have b2 := K2.out.b2; have b3 := K2.out.b3; clear hr2 hb2 hs2))
        refine wp_region_held_drew (S := fun w' => w'.cell? ⟨wr.heap.size, 1, none⟩ = some (.int .i64 p.size) ∧ w'.cell? ⟨wr.heap.size, 3, none⟩ = some (.slice p.A p.b.length p.c)) (by kernel_rfl) ⟨b1, b3⟩ (fun hHeld => ?_)
        (try dsimp only at hHeld)
        have K3 := Lib.hid (K2.out.step (Below.refl _ _).drew)
        refine wpAnyH_take (i := 0) (v := ?v0_38) rfl (by kernel_rfl) (by kernel_rfl) (by kernel_rfl) (fun _ _ _ h => h) (Or.inl ⟨by rfl, ?hy0_38⟩) hHeld ?_
        case hy0_38 => (intro w hSw; (try dsimp only at hSw); obtain ⟨hSw1, hSw2⟩ := hSw; (try simp only [List.getElem_toArray, List.getElem_cons_zero, List.getElem_cons_succ]); go_simp <;> with_reducible rfl)
        (try simp only [Act.put, List.getElem_toArray, List.getElem_cons_zero, List.getElem_cons_succ, List.setIfInBounds_toArray, List.set_cons_zero, List.set_cons_succ])
        refine wpAnyH_take (i := 2) (v := ?v2_39) rfl (by kernel_rfl) (by kernel_rfl) (by kernel_rfl) (fun _ _ _ h => h) (Or.inl ⟨by rfl, ?hy2_39⟩) hHeld ?_
        case hy2_39 => (intro w hSw; (try dsimp only at hSw); obtain ⟨hSw1, hSw2⟩ := hSw; (try simp only [List.getElem_toArray, List.getElem_cons_zero, List.getElem_cons_succ]); go_simp <;> with_reducible rfl)
        (try simp only [Act.put, List.getElem_toArray, List.getElem_cons_zero, List.getElem_cons_succ, List.setIfInBounds_toArray, List.set_cons_zero, List.set_cons_succ])
        refine wpAnyH_take (i := 3) (v := ?v3_40) rfl (by kernel_rfl) (by kernel_rfl) (by kernel_rfl) (fun _ _ _ h => h) (Or.inl ⟨by rfl, ?hy3_40⟩) hHeld ?_
        case hy3_40 => (intro w hSw; (try dsimp only at hSw); obtain ⟨hSw1, hSw2⟩ := hSw; (try simp only [List.getElem_toArray, List.getElem_cons_zero, List.getElem_cons_succ]); go_simp <;> with_reducible rfl)
        (try simp only [Act.put, List.getElem_toArray, List.getElem_cons_zero, List.getElem_cons_succ, List.setIfInBounds_toArray, List.set_cons_zero, List.set_cons_succ])
        refine wpAnyH_ready (rs := [1]) (by kernel_rfl) (by simp) ?_
        refine AllReadyH.cons rfl (fun K hK => ?_) AllReadyH.nil
        (try simp only [List.getElem_toArray, List.getElem_cons_zero, List.getElem_cons_succ])
        go_simp
        refine (rshort_any x t _ K3.out.lk.rd).mono ?_
        rw [← HA.out]
        rintro e w4 ⟨A4, n4, c4, rfl, hw, ho, hr⟩
        have K4 := Lib.hid (K3.out.off ho hr)
        have R4 := Lib.hid hw.rb
        have C4 := hw.cap
        clear ho hr hw
        (try go_wp2_with fail)
        refine hK.out _ _ ⟨K4.out.b1, K4.out.b3⟩ (fun hHeld => ?_)
        clear hK K
        (try simp only [Act.put, List.getElem_toArray, List.getElem_cons_zero, List.getElem_cons_succ, List.setIfInBounds_toArray, List.set_cons_zero, List.set_cons_succ])
        refine wpAnyH_ready (rs := [4]) (by kernel_rfl) (by simp) ?_
        refine AllReadyH.cons rfl (fun K hK => ?_) AllReadyH.nil
        (try simp only [List.getElem_toArray, List.getElem_cons_zero, List.getElem_cons_succ])
        go_simp
        refine (same_any A4 p.A n4 c4 p.b.length p.c _ _ a.1 p.b _ R4.out K4.out.ok.rb (Nat.le_trans C4.1 C4.2) (by unfold maxLen; omega)).mono ?_
        rw [hv]
        rintro e w5 ⟨rfl, d, rfl⟩
        have K5 := Lib.hid (K4.out.step (below_drewN (Below.refl _ _) d))
        (try go_wp2_with fail)
        refine hK.out _ _ ⟨K5.out.b1, K5.out.b3⟩ (fun hHeld => ?_)
        clear hK K
        (try simp only [Act.put, List.getElem_toArray, List.getElem_cons_zero, List.getElem_cons_succ, List.setIfInBounds_toArray, List.set_cons_zero, List.set_cons_succ])
        refine wpAnyH_take (i := 5) (v := ?v5_41) rfl (by kernel_rfl) (by kernel_rfl) (by kernel_rfl) (fun _ _ _ h => h) (Or.inl ⟨by rfl, ?hy5_41⟩) hHeld ?_
        case hy5_41 => (intro w hSw; (try dsimp only at hSw); obtain ⟨hSw1, hSw2⟩ := hSw; (try simp only [List.getElem_toArray, List.getElem_cons_zero, List.getElem_cons_succ]); go_simp <;> with_reducible rfl)
        (try simp only [Act.put, List.getElem_toArray, List.getElem_cons_zero, List.getElem_cons_succ, List.setIfInBounds_toArray, List.set_cons_zero, List.set_cons_succ])
        rcases v with _ | _
        · have hv0 := hHeld
          refine wpAnyH_take (i := 6) (v := undef) rfl (by kernel_rfl) (by kernel_rfl) (by kernel_rfl) (fun _ _ _ h => h) (Or.inr ⟨by rfl, rfl⟩) hHeld ?_
          (try simp only [Act.put, List.getElem_toArray, List.getElem_cons_zero, List.getElem_cons_succ, List.setIfInBounds_toArray, List.set_cons_zero, List.set_cons_succ])
          refine wpAnyH_take (i := 7) (v := ?v7_43) rfl (by kernel_rfl) (by kernel_rfl) (by kernel_rfl) (fun _ _ _ h => h) (Or.inl ⟨by rfl, ?hy7_43⟩) hHeld ?_
          case hy7_43 => (intro w hSw; (try dsimp only at hSw); obtain ⟨hSw1, hSw2⟩ := hSw; (try simp only [List.getElem_toArray, List.getElem_cons_zero, List.getElem_cons_succ]); go_simp <;> with_reducible rfl)
          (try simp only [Act.put, List.getElem_toArray, List.getElem_cons_zero, List.getElem_cons_succ, List.setIfInBounds_toArray, List.set_cons_zero, List.set_cons_succ])
          refine wpAnyH_take (i := 8) (v := ?v8_44) rfl (by kernel_rfl) (by kernel_rfl) (by kernel_rfl) (fun _ _ _ h => h) (Or.inl ⟨by rfl, ?hy8_44⟩) hHeld ?_
          case hy8_44 => (intro w hSw; (try dsimp only at hSw); obtain ⟨hSw1, hSw2⟩ := hSw; (try simp only [List.getElem_toArray, List.getElem_cons_zero, List.getElem_cons_succ]); go_simp <;> with_reducible rfl)
          (try simp only [Act.put, List.getElem_toArray, List.getElem_cons_zero, List.getElem_cons_succ, List.setIfInBounds_toArray, List.set_cons_zero, List.set_cons_succ])
          refine wpAnyH_done (by kernel_rfl) ?_ _
          clear b1 b2 b3
          go_wp2_with fail
          go_roundw
          case rel => exact ⟨k + 1, false, a.2, by omega, by go_num, rfl, Lib.hid (by rw [HFS.out, HR.out]; rfl), Lib.hid K5.out.lk⟩
          case measure => simp [intOf]; omega
        · have hv0 := hHeld
          refine wpAnyH_take (i := 6) (v := ?v6_45) rfl (by kernel_rfl) (by kernel_rfl) (by kernel_rfl) (fun _ _ _ h => h) (Or.inl ⟨by rfl, ?hy6_45⟩) hHeld ?_
          case hy6_45 => (intro w hSw; (try dsimp only at hSw); obtain ⟨hSw1, hSw2⟩ := hSw; (try simp only [List.getElem_toArray, List.getElem_cons_zero, List.getElem_cons_succ]); go_simp <;> with_reducible rfl)
          (try simp only [Act.put, List.getElem_toArray, List.getElem_cons_zero, List.getElem_cons_succ, List.setIfInBounds_toArray, List.set_cons_zero, List.set_cons_succ])
          refine wpAnyH_take (i := 7) (v := ?v7_46) rfl (by kernel_rfl) (by kernel_rfl) (by kernel_rfl) (fun _ _ _ h => h) (Or.inl ⟨by rfl, ?hy7_46⟩) hHeld ?_
          case hy7_46 => (intro w hSw; (try dsimp only at hSw); obtain ⟨hSw1, hSw2⟩ := hSw; (try simp only [List.getElem_toArray, List.getElem_cons_zero, List.getElem_cons_succ]); go_simp <;> with_reducible rfl)
          (try simp only [Act.put, List.getElem_toArray, List.getElem_cons_zero, List.getElem_cons_succ, List.setIfInBounds_toArray, List.set_cons_zero, List.set_cons_succ])
          refine wpAnyH_take (i := 8) (v := ?v8_47) rfl (by kernel_rfl) (by kernel_rfl) (by kernel_rfl) (fun _ _ _ h => h) (Or.inl ⟨by rfl, ?hy8_47⟩) hHeld ?_
          case hy8_47 => (intro w hSw; (try dsimp only at hSw); obtain ⟨hSw1, hSw2⟩ := hSw; (try simp only [List.getElem_toArray, List.getElem_cons_zero, List.getElem_cons_succ]); go_simp <;> with_reducible rfl)
          (try simp only [Act.put, List.getElem_toArray, List.getElem_cons_zero, List.getElem_cons_succ, List.setIfInBounds_toArray, List.set_cons_zero, List.set_cons_succ])
          refine wpAnyH_done (by kernel_rfl) ?_ _
          clear b1 b2 b3
          go_wp2_with fail
          go_roundw
          case rel => exact ⟨k + 1, o, a.2, by omega, by go_num, rfl, Lib.hid (by rw [HFS.out, HR.out]; rfl), Lib.hid K5.out.lk⟩
          case measure => simp [intOf]; omega
      have e3 : (p.what == 3) = false := by rw [beq_eq_false_iff_ne]; exact k3
      by_cases k4 : p.what = 4
      · have e4 : (p.what == 4) = true := by rw [k4]; rfl
        obtain ⟨a, HA⟩ : ∃ a, Hid (a = longS t) := ⟨_, Lib.hid rfl⟩
        obtain ⟨v, hv⟩ : ∃ v, (a.1 == p.b) = v := ⟨_, rfl⟩
        have HR : Hid (readP p t = (v, a.2)) := Lib.hid (by unfold readP; rw [if_neg k0, if_neg k1, if_neg k2, if_neg k3, if_pos k4, ← HA.out, hv])
        go_wp2_with (first
          | (refine wpList_ldPt rfl (.tmp 16) rfl b (off + k * 4) rfl p (by exact HC.out) ?_)
          | (refine wpList_stPt rfl (.tmp 7) (.tmp 17) rfl wr.heap.size rfl p rfl (by exact HTH.out _ rfl) ?_; intro w2 hr2 hb2 hs2; have K2 : Hid (TK w wr.heap.size x p (some ⟨b, off, none⟩) n ps t w2) := Lib.hid ⟨K.out.step ((below_alloc wr _).trans (hb2 _ (Nat.le_refl _))), by rw [hs2]; simp, Nat.ne_of_gt hrl, hr2, HMEM.out⟩; have b0 := K2.out.b0; have b1 := K2.out.b1; have b2 := K2.out.b2; have b3 := K2.out.b3; clear hr2 hb2 hs2))
        refine wp_region_held_drew (S := fun w' => w'.cell? ⟨wr.heap.size, 1, none⟩ = some (.int .i64 p.size) ∧ w'.cell? ⟨wr.heap.size, 3, none⟩ = some (.slice p.A p.b.length p.c)) (by kernel_rfl) ⟨b1, b3⟩ (fun hHeld => ?_)
        (try dsimp only at hHeld)
        have K3 := Lib.hid (K2.out.step (Below.refl _ _).drew)
        refine wpAnyH_take (i := 0) (v := ?v0_48) rfl (by kernel_rfl) (by kernel_rfl) (by kernel_rfl) (fun _ _ _ h => h) (Or.inl ⟨by rfl, ?hy0_48⟩) hHeld ?_
        case hy0_48 => (intro w hSw; (try dsimp only at hSw); obtain ⟨hSw1, hSw2⟩ := hSw; (try simp only [List.getElem_toArray, List.getElem_cons_zero, List.getElem_cons_succ]); go_simp <;> with_reducible rfl)
        (try simp only [Act.put, List.getElem_toArray, List.getElem_cons_zero, List.getElem_cons_succ, List.setIfInBounds_toArray, List.set_cons_zero, List.set_cons_succ])
        refine wpAnyH_take (i := 2) (v := ?v2_49) rfl (by kernel_rfl) (by kernel_rfl) (by kernel_rfl) (fun _ _ _ h => h) (Or.inl ⟨by rfl, ?hy2_49⟩) hHeld ?_
        case hy2_49 => (intro w hSw; (try dsimp only at hSw); obtain ⟨hSw1, hSw2⟩ := hSw; (try simp only [List.getElem_toArray, List.getElem_cons_zero, List.getElem_cons_succ]); go_simp <;> with_reducible rfl)
        (try simp only [Act.put, List.getElem_toArray, List.getElem_cons_zero, List.getElem_cons_succ, List.setIfInBounds_toArray, List.set_cons_zero, List.set_cons_succ])
        refine wpAnyH_take (i := 3) (v := ?v3_50) rfl (by kernel_rfl) (by kernel_rfl) (by kernel_rfl) (fun _ _ _ h => h) (Or.inl ⟨by rfl, ?hy3_50⟩) hHeld ?_
        case hy3_50 => (intro w hSw; (try dsimp only at hSw); obtain ⟨hSw1, hSw2⟩ := hSw; (try simp only [List.getElem_toArray, List.getElem_cons_zero, List.getElem_cons_succ]); go_simp <;> with_reducible rfl)
        (try simp only [Act.put, List.getElem_toArray, List.getElem_cons_zero, List.getElem_cons_succ, List.setIfInBounds_toArray, List.set_cons_zero, List.set_cons_succ])
        refine wpAnyH_ready (rs := [1]) (by kernel_rfl) (by simp) ?_
        refine AllReadyH.cons rfl (fun K hK => ?_) AllReadyH.nil
        (try simp only [List.getElem_toArray, List.getElem_cons_zero, List.getElem_cons_succ])
        go_simp
        refine (rlong_any x t _ K3.out.lk.rd).mono ?_
        rw [← HA.out]
        rintro e w4 ⟨A4, n4, c4, rfl, hw, ho, hr⟩
        have K4 := Lib.hid (K3.out.off ho hr)
        have R4 := Lib.hid hw.rb
        have C4 := hw.cap
        clear ho hr hw
        (try go_wp2_with fail)
        refine hK.out _ _ ⟨K4.out.b1, K4.out.b3⟩ (fun hHeld => ?_)
        clear hK K
        (try simp only [Act.put, List.getElem_toArray, List.getElem_cons_zero, List.getElem_cons_succ, List.setIfInBounds_toArray, List.set_cons_zero, List.set_cons_succ])
        refine wpAnyH_ready (rs := [4]) (by kernel_rfl) (by simp) ?_
        refine AllReadyH.cons rfl (fun K hK => ?_) AllReadyH.nil
        (try simp only [List.getElem_toArray, List.getElem_cons_zero, List.getElem_cons_succ])
        go_simp
        refine (same_any A4 p.A n4 c4 p.b.length p.c _ _ a.1 p.b _ R4.out K4.out.ok.rb (Nat.le_trans C4.1 C4.2) (by unfold maxLen; omega)).mono ?_
        rw [hv]
        rintro e w5 ⟨rfl, d, rfl⟩
        have K5 := Lib.hid (K4.out.step (below_drewN (Below.refl _ _) d))
        (try go_wp2_with fail)
        refine hK.out _ _ ⟨K5.out.b1, K5.out.b3⟩ (fun hHeld => ?_)
        clear hK K
        (try simp only [Act.put, List.getElem_toArray, List.getElem_cons_zero, List.getElem_cons_succ, List.setIfInBounds_toArray, List.set_cons_zero, List.set_cons_succ])
        refine wpAnyH_take (i := 5) (v := ?v5_51) rfl (by kernel_rfl) (by kernel_rfl) (by kernel_rfl) (fun _ _ _ h => h) (Or.inl ⟨by rfl, ?hy5_51⟩) hHeld ?_
        case hy5_51 => (intro w hSw; (try dsimp only at hSw); obtain ⟨hSw1, hSw2⟩ := hSw; (try simp only [List.getElem_toArray, List.getElem_cons_zero, List.getElem_cons_succ]); go_simp <;> with_reducible rfl)
        (try simp only [Act.put, List.getElem_toArray, List.getElem_cons_zero, List.getElem_cons_succ, List.setIfInBounds_toArray, List.set_cons_zero, List.set_cons_succ])
        rcases v with _ | _
        · have hv0 := hHeld
          refine wpAnyH_take (i := 6) (v := undef) rfl (by kernel_rfl) (by kernel_rfl) (by kernel_rfl) (fun _ _ _ h => h) (Or.inr ⟨by rfl, rfl⟩) hHeld ?_
          (try simp only [Act.put, List.getElem_toArray, List.getElem_cons_zero, List.getElem_cons_succ, List.setIfInBounds_toArray, List.set_cons_zero, List.set_cons_succ])
          refine wpAnyH_take (i := 7) (v := ?v7_53) rfl (by kernel_rfl) (by kernel_rfl) (by kernel_rfl) (fun _ _ _ h => h) (Or.inl ⟨by rfl, ?hy7_53⟩) hHeld ?_
          case hy7_53 => (intro w hSw; (try dsimp only at hSw); obtain ⟨hSw1, hSw2⟩ := hSw; (try simp only [List.getElem_toArray, List.getElem_cons_zero, List.getElem_cons_succ]); go_simp <;> with_reducible rfl)
          (try simp only [Act.put, List.getElem_toArray, List.getElem_cons_zero, List.getElem_cons_succ, List.setIfInBounds_toArray, List.set_cons_zero, List.set_cons_succ])
          refine wpAnyH_take (i := 8) (v := ?v8_54) rfl (by kernel_rfl) (by kernel_rfl) (by kernel_rfl) (fun _ _ _ h => h) (Or.inl ⟨by rfl, ?hy8_54⟩) hHeld ?_
          case hy8_54 => (intro w hSw; (try dsimp only at hSw); obtain ⟨hSw1, hSw2⟩ := hSw; (try simp only [List.getElem_toArray, List.getElem_cons_zero, List.getElem_cons_succ]); go_simp <;> with_reducible rfl)
          (try simp only [Act.put, List.getElem_toArray, List.getElem_cons_zero, List.getElem_cons_succ, List.setIfInBounds_toArray, List.set_cons_zero, List.set_cons_succ])
          refine wpAnyH_done (by kernel_rfl) ?_ _
          clear b1 b2 b3
          go_wp2_with fail
          go_roundw
          case rel => exact ⟨k + 1, false, a.2, by omega, by go_num, rfl, Lib.hid (by rw [HFS.out, HR.out]; rfl), Lib.hid K5.out.lk⟩
          case measure => simp [intOf]; omega
        · have hv0 := hHeld
          refine wpAnyH_take (i := 6) (v := ?v6_55) rfl (by kernel_rfl) (by kernel_rfl) (by kernel_rfl) (fun _ _ _ h => h) (Or.inl ⟨by rfl, ?hy6_55⟩) hHeld ?_
          case hy6_55 => (intro w hSw; (try dsimp only at hSw); obtain ⟨hSw1, hSw2⟩ := hSw; (try simp only [List.getElem_toArray, List.getElem_cons_zero, List.getElem_cons_succ]); go_simp <;> with_reducible rfl)
          (try simp only [Act.put, List.getElem_toArray, List.getElem_cons_zero, List.getElem_cons_succ, List.setIfInBounds_toArray, List.set_cons_zero, List.set_cons_succ])
          refine wpAnyH_take (i := 7) (v := ?v7_56) rfl (by kernel_rfl) (by kernel_rfl) (by kernel_rfl) (fun _ _ _ h => h) (Or.inl ⟨by rfl, ?hy7_56⟩) hHeld ?_
          case hy7_56 => (intro w hSw; (try dsimp only at hSw); obtain ⟨hSw1, hSw2⟩ := hSw; (try simp only [List.getElem_toArray, List.getElem_cons_zero, List.getElem_cons_succ]); go_simp <;> with_reducible rfl)
          (try simp only [Act.put, List.getElem_toArray, List.getElem_cons_zero, List.getElem_cons_succ, List.setIfInBounds_toArray, List.set_cons_zero, List.set_cons_succ])
          refine wpAnyH_take (i := 8) (v := ?v8_57) rfl (by kernel_rfl) (by kernel_rfl) (by kernel_rfl) (fun _ _ _ h => h) (Or.inl ⟨by rfl, ?hy8_57⟩) hHeld ?_
          case hy8_57 => (intro w hSw; (try dsimp only at hSw); obtain ⟨hSw1, hSw2⟩ := hSw; (try simp only [List.getElem_toArray, List.getElem_cons_zero, List.getElem_cons_succ]); go_simp <;> with_reducible rfl)
          (try simp only [Act.put, List.getElem_toArray, List.getElem_cons_zero, List.getElem_cons_succ, List.setIfInBounds_toArray, List.set_cons_zero, List.set_cons_succ])
          refine wpAnyH_done (by kernel_rfl) ?_ _
          clear b1 b2 b3
          go_wp2_with fail
          go_roundw
          case rel => exact ⟨k + 1, o, a.2, by omega, by go_num, rfl, Lib.hid (by rw [HFS.out, HR.out]; rfl), Lib.hid K5.out.lk⟩
          case measure => simp [intOf]; omega
      have e4 : (p.what == 4) = false := by rw [beq_eq_false_iff_ne]; exact k4
      have HR : Hid (readP p t = (true, t)) := Lib.hid (by unfold readP; rw [if_neg k0, if_neg k1, if_neg k2, if_neg k3, if_neg k4])
      go_wp2_with (first
        | (refine wpList_ldPt rfl (.tmp 16) rfl b (off + k * 4) rfl p (by exact HC.out) ?_)
        | (refine wpList_stPt rfl (.tmp 7) (.tmp 17) rfl wr.heap.size rfl p rfl (by exact HTH.out _ rfl) ?_; intro w2 hr2 hb2 hs2; have K2 : Hid (TK w wr.heap.size x p (some ⟨b, off, none⟩) n ps t w2) := Lib.hid ⟨K.out.step ((below_alloc wr _).trans (hb2 _ (Nat.le_refl _))), by rw [hs2]; simp, Nat.ne_of_gt hrl, hr2, HMEM.out⟩; have b0 := K2.out.b0; have b1 := K2.out.b1; have b2 := K2.out.b2; have b3 := K2.out.b3; clear hr2 hb2 hs2))
      clear b1 b2 b3
      go_wp2_with fail
      go_roundw
      case rel => exact ⟨k + 1, o, t, by omega, by go_num, rfl, Lib.hid (by rw [HFS.out, HR.out]; rfl), Lib.hid K2.out.lk⟩
      case measure => simp [intOf]; omega
    · have hkn : k = n := by omega
      subst hkn
      have HE : Hid (tellF ps (true, s) = (o, t)) := Lib.hid (by
        have := HF.out
        rwa [List.take_of_length_le (by omega)] at this)
      clear HF
      have HET : Hid ((tellF ps (true, s)).1 = o ∧ (tellF ps (true, s)).2 = t) := Lib.hid ⟨by rw [HE.out], by rw [HE.out]⟩
      rcases o with _ | _
      · go_wp2_with fail
        go_ret
        rw [HET.out.1, HET.out.2]
        exact ⟨rfl, K.out.oth, K.out.rd⟩
      · obtain ⟨v, hv⟩ : ∃ v, (t.1 == 0) = v := ⟨_, rfl⟩
        have hv2 : decide (t.1 = 0) = v := by rw [← hv]; rw [Bool.eq_iff_iff]; simp
        go_wp2_with fail
        refine (err_any x t _ K.out.rd).mono ?_
        rintro e w9 ⟨rfl, rfl⟩
        go_wp2_with fail
        go_ret
        rw [HET.out.1, HET.out.2]
        exact ⟨by rw [Bool.true_and]; first | (rw [hv]; rfl) | rfl, K.out.oth, K.out.rd⟩
end Go.Proofs.Ytakmnfcbfbkloaa
