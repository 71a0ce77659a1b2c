/- ScanBack's walk: what is written is read again, part by part, and nothing is left; of fewer bytes the end is told. No condition. -/
import Derived.Test.YtakmnfcbfbkloaaScanTells
import Derived.Test.YtakmnfcbfbkloaaScanPutW
import Derived.Deep.CutBlock
namespace Go.Proofs.Ytakmnfcbfbkloaa
open Go.RowKit
set_option linter.unusedVariables false
set_option linter.unusedSimpArgs false

/-- A row of parts that the call made itself. -/
def OwnP (w : World) (base : Nat) (A : Option Addr) (n c : Nat) (ps : List Pt) : Prop := w.ownsRow base 48 4 (.slice A n c) n (ps.flatMap Pt.cells) ∧ ps.length = n
theorem ptflat_len : ∀ ps : List Pt, (ps.flatMap Pt.cells).length = ps.length * 4
  | [] => rfl
  | p :: ps => by
    rw [List.flatMap_cons, List.length_append, ptflat_len ps, List.length_cons]
    show 4 + _ = _
    omega
theorem ptflat_at : ∀ (ps : List Pt) (i : Nat) (p : Pt) (j : Nat), ps[i]? = some p → j < 4 → (ps.flatMap Pt.cells)[i * 4 + j]? = p.cells[j]?
  | [], i, p, j, hx, _ => by simp at hx
  | y :: ps, 0, p, j, hx, hj => by
    injection hx with hx
    subst hx
    rw [List.flatMap_cons, List.getElem?_append_left (by show _ < 4; omega), Nat.zero_mul, Nat.zero_add]
  | y :: ps, i + 1, p, j, hx, hj => by
    have e : (i + 1) * 4 + j = 4 + (i * 4 + j) := by omega
    rw [List.flatMap_cons, e, List.getElem?_append_right (by show 4 ≤ _; omega)]
    show (ps.flatMap Pt.cells)[4 + (i * 4 + j) - 4]? = _
    rw [Nat.add_sub_cancel_left]
    exact ptflat_at ps i p j hx hj
section
variable {w w' : World} {base n c : Nat} {A : Option Addr} {ps : List Pt}
theorem OwnP.lit0 (w : World) (base : Nat) (hb : base ≤ w.heap.size) : OwnP (w.alloc (.cells #[] 48)) base (some ⟨w.heap.size, 0, none⟩) 0 0 [] :=
  ⟨World.ownsRow_lit (size := 4) (base := base) (e := 48) w #[] 0 hb (by unfold maxLen; omega) (by simp), rfl⟩
theorem OwnP.typ (h : OwnP w base A n c ps) : ∀ g ∈ blkO A, ∃ cs, w.heap[g]? = some (.cells cs 48 (0, 0)) := by
  intro g hg
  obtain ⟨a, e, rfl⟩ := mem_blkO hg
  rcases h.1.2 with ⟨hv, _⟩ | ⟨g', cap, cur, hv, _, hh, _⟩
  · rw [e] at hv; cases hv
  · rw [e] at hv
    injection hv with hv
    injection hv with hv
    subst hv
    exact ⟨_, hh⟩
theorem OwnP.oth {S : List Nat} (h : OwnP w base A n c ps) (ho : Oth S w w') (hA : ∀ g ∈ blkO A, g ∉ S) : OwnP w' base A n c ps := by
  refine ⟨⟨h.1.1, ?_⟩, h.2⟩
  rcases h.1.2 with h0 | ⟨g, cap, cur, hv, hbg, hh, r⟩
  · exact .inl h0
  · have hg : g ∈ blkO A := by injection hv with hv; rw [hv]; simp [blkO]
    exact .inr ⟨g, cap, cur, hv, hbg, (ho.block g (Array.getElem?_eq_some_iff.1 hh).1 (hA g hg)).trans hh, r⟩
theorem OwnP.step (h : OwnP w base A n c ps) (hb : Below w.heap.size w w') : OwnP w' base A n c ps := h.oth (S := []) (Oth.of_below hb) (fun _ _ => by simp)
theorem OwnP.cap (h : OwnP w base A n c ps) : n ≤ c ∧ c ≤ maxLen := by
  rcases h.1.2 with ⟨hv, h0⟩ | ⟨g, cap, cur, hv, _, _, hnc, hcm, _⟩
  · injection hv with _ _ hc; subst hc; subst h0; exact ⟨Nat.le_refl _, Nat.zero_le _⟩
  · injection hv with _ _ hc; subst hc; exact ⟨hnc, hcm⟩
theorem OwnP.pl (h : OwnP w base A n c ps) (hok : ∀ p ∈ ps, p.ok w w.heap.size) : PL w w.heap.size A n ps := by
  refine ⟨h.2, hok, fun hn => ?_⟩
  have hA : ∃ g, A = some ⟨g, 0, none⟩ ∧ g < w.heap.size := by
    rcases h.1.2 with ⟨_, h0⟩ | ⟨g, cap, cur, hv, hbg, hh, r⟩
    · omega
    · injection hv with hA
      exact ⟨g, hA, (Array.getElem?_eq_some_iff.1 hh).1⟩
  obtain ⟨g, rfl, hg⟩ := hA
  refine ⟨g, 0, rfl, hg, fun i p hp j v hv => ?_⟩
  have hi : i < n := by have := (List.getElem?_eq_some_iff.1 hp).1; have := h.2; omega
  have hj : j < 4 := (List.getElem?_eq_some_iff.1 hv).1
  rw [Nat.zero_add, World.ownsRow.cellAt h.1 (i * 4 + j) (by omega), ptflat_at ps i p j hp hj]
  exact hv
end
theorem run_oneP (w : World) (p : Pt) : (Instr.buildSlice 39 1 #[(0, p.val)]).run Try.prog w = .ok (.slice (some ⟨w.heap.size, 0, none⟩) 1 1) (w.alloc (.cells p.cells.toArray 48)) := by unfold Pt.val Pt.cells; go_simp
theorem wpList_oneP {w : World} {ops : Array Oper} {rest : List Oper} {o : Oper} {a : Act} {Q : Exit → Act → World → Prop} (hgd : o.guard = none) (x : Operand) (hop : o.op = .buildSlice 39 1 #[(0, x)]) (p : Pt) (hx : a.eval x = p.val)
    (hk : wpList Try.prog ops Q rest (a.put o.dst (.slice (some ⟨w.heap.size, 0, none⟩) 1 1)) (w.alloc (.cells p.cells.toArray 48))) : wpList Try.prog ops Q (o :: rest) a w := by
  refine wpList_plain hgd fun K hK => ?_
  unfold Oper.wp execOp
  simp only [hop, List.map_toArray, List.map_cons, List.map_nil, hx, Sem.run_bind, run_oneP, Result.andThen_ok]
  exact hK _ _ hk
set_option maxRecDepth 100000 in
/-- append of one part to parts of the call's own. -/
theorem wpList_appPt {w : World} {ops : Array Oper} {rest : List Oper} {o : Oper} {a : Act} {Q : Exit → Act → World → Prop} (hgd : o.guard = none) (s x : Operand)
    (ho : o.op = .call { callee := .builtin .append, args := #[s, x], argTypes := #[39, 39] })
    (base : Nat) (A : Option Addr) (n c : Nat) (ps : List Pt) (hs : a.eval s = .slice A n c) (hown : OwnP w base A n c ps) (g : Nat) (p : Pt) (hx : a.eval x = .slice (some ⟨g, 0, none⟩) 1 1)
    (hcell : ∀ j u, p.cells[j]? = some u → w.cell? ⟨g, j, none⟩ = some u) (hn : n ≤ 1000000) (hbase : base ≤ w.heap.size)
    (h : ∀ A'' c'' w', OwnP w' base A'' (n + 1) c'' (ps ++ [p]) → Oth (blkO A) w w' → wpList Try.prog ops Q rest (a.put o.dst (.slice A'' (n + 1) c'')) w') : wpList Try.prog ops Q (o :: rest) a w :=
  wpList_plain hgd fun K hK => by
    obtain ⟨i0, hi0, hz0, hz1, hz2⟩ := info_parts pt_info
    have hone : ∀ u ∈ p.cells, u.oneCell' = true := fun u hu => by
      simp only [Pt.cells, List.mem_cons, List.not_mem_nil, or_false] at hu
      rcases hu with rfl | rfl | rfl | rfl <;> rfl
    obtain ⟨v', w', hrun, k1, k2, _⟩ := run_append_own (P := Try.prog) w base 39 o.type 48 i0 (.agg #[.int .i64 0, .int .i64 0, .int .u64 0, .slice none 0 0]) 4 48 Try.underlying39 hi0 hz0 hz1 hz2 rfl (by omega) (.slice A n c) n _ hown.1
      ⟨g, 0, none⟩ 1 1 p.cells rfl (fun j u hu => by
        have hadd : (⟨g, 0, none⟩ : Addr).add j = ⟨g, j, none⟩ := by unfold Addr.add; split <;> simp_all
        rw [hadd]; exact hcell j u hu) hone (by unfold maxLen; omega) (by omega) hbase
    obtain ⟨A'', c'', rfl⟩ : ∃ A'' c'', v' = .slice A'' (n + 1) c'' := by
      rcases k1.2 with ⟨rfl, h0⟩ | ⟨g, cap, cur, rfl, _⟩
      · exact ⟨none, 0, by rw [h0]⟩
      · exact ⟨_, _, rfl⟩
    unfold Oper.wp execOp
    simp only [ho, resolve, invoke, builtin, Sem.run_bind, Sem.run_pure, Result.andThen_ok, List.map_toArray, List.map_cons, List.map_nil, hs, hx, hrun]
    exact hK _ _ (h A'' c'' w' ⟨by rw [List.flatMap_append]; simpa using k1, by rw [List.length_append, hown.2]; rfl⟩ (Oth.of_grown k2))
/-- What the walk carries while it writes: the writer, the row of parts. -/
structure DK (v : World) (x : Nat) (A : Option Addr) (s : Int × List UInt8) (E : Option Addr) (m ce : Nat) (ps : List Pt) (w : World) : Prop where
  sw : SW v x A s w
  own : OwnP w v.heap.size E m ce ps
section
variable {v w w' : World} {x y m ce : Nat} {A E : Option Addr} {s s' t' : Int × List UInt8} {ps : List Pt} {e : Ending}
theorem DK.step (h : DK v x A s E m ce ps w) (hb : Below w.heap.size w w') : DK v x A s E m ce ps w' := ⟨h.sw.step hb, h.own.step hb⟩
theorem DK.ret (h : DK v x A s E m ce ps w) (hy : v.heap.size ≤ y) (hq : ∃ cs, w.heap[y]? = some (.cells cs 44 (0, 0))) (k : RetPut x y v.heap.size v.heap.size A none s' t' w e w') : e = .returned (.bool true) ∧ ∃ A', DK v x A' s' E m ce ps w' := by
  obtain ⟨he, A', hk⟩ := h.sw.ret hy k
  obtain ⟨_, _, _, h1, _⟩ := k
  refine ⟨he, A', hk, h.own.oth h1 (fun g hg hm => ?_)⟩
  have ht := h.own.typ g hg
  rcases List.mem_cons.1 hm with hm | hm
  · exact typ_ne ht h.sw.wr.self (by decide) hm
  rcases List.mem_cons.1 hm with hm | hm
  · exact typ_ne ht hq (by decide) hm
  rcases List.mem_append.1 hm with hm | hm
  · exact typ_ne ht (h.sw.wr.typ g hm) (by decide) rfl
  · simp [blkO] at hm
end
/-- What it carries when all is written: the row of parts, the bytes. -/
structure BK (v : World) (E : Option Addr) (m ce : Nat) (ps : List Pt) (B : Option Addr) (n : Nat) (l : List UInt8) (w : World) : Prop where
  bel : Below v.heap.size v w
  own : OwnP w v.heap.size E m ce ps
  row : RB w w.heap.size B n l
section
variable {v w w' : World} {x m n ce : Nat} {E B : Option Addr} {s : Int × List UInt8} {ps : List Pt} {l : List UInt8}
theorem BK.step (h : BK v E m ce ps B n l w) (hb : Below w.heap.size w w') : BK v E m ce ps B n l w' := ⟨bel_next h.bel hb, h.own.step hb, h.row.step hb⟩
theorem BK.oth (h : BK v E m ce ps B n l w) (hr : RdR w x s) (hx : v.heap.size ≤ x) (ho : Oth [x] w w') : BK v E m ce ps B n l w' :=
  ⟨h.bel.trans (ho.below (fun k hk => by rw [List.mem_singleton.1 hk]; exact hx) h.bel.size), h.own.oth ho (fun g hg hm => by
    obtain ⟨A, n, c, t1, _⟩ := hr
    exact typ_ne (h.own.typ g hg) ⟨_, t1⟩ (by decide) (List.mem_singleton.1 hm)), h.row.oth ho (hr.row h.row)⟩
end
/-- What the first half leaves: the row of the parts that were put without an error. -/
structure EK (v : World) (E : Option Addr) (m ce : Nat) (ps : List Pt) (w : World) : Prop where
  bel : Below v.heap.size v w
  own : OwnP w v.heap.size E m ce ps
theorem putAll_nil {s : Int × List UInt8} : putAll [] s = s := rfl
theorem tellF_nil {a : Bool × Int × List UInt8} : tellF [] a = a := rfl
theorem yW_typ (w : World) : ∃ cs, (w.alloc (.cells #[.slice none 0 0, .int .i64 0] 44)).heap[w.heap.size]? = some (.cells cs 44 (0, 0)) := ⟨_, heap_alloc_new w _⟩
attribute [local irreducible] putP doneS encP putAll encs tellF readP

set_option maxRecDepth 100000 in
set_option maxHeartbeats 8000000 in
theorem ScanBack_walk (A0 : Option Addr) (n0 c0 : Nat) (l0 : List Pt) (x1 : Int) (w : World) (h0 : PL w w.heap.size A0 n0 l0) (m0 : n0 ≤ c0 ∧ c0 ≤ maxLen) (h1 : (Lit.int .i64 x1).wf = true) :
    Calls Try.prog 5 #[.slice A0 n0 c0, .int .i64 x1] w fun e w' => e = .returned (.bool true) ∧ Below w.heap.size w w' := by
  have H0 := Lib.hid (And.intro h0 m0)
  have b0 : n0 ≤ 9223372036854775807 := by have := m0; unfold maxLen at this; omega
  have b1 : I64 x1 := bounds_i64 h1
  unfold I64 at b1
  clear h0 m0 h1
  go_enter Try.func5, Try.ntmps5
  go_wp2_with fail
  refine (alive_any _).mono ?_
  rintro e w1 ⟨rfl, hb1⟩
  have HB1 := Lib.hid hb1
  clear hb1
  go_wp2_with fail
  refine (great_any A0 n0 c0 l0 _ (by exact (H0.out.1.below HB1.out).more HB1.out.size) (Nat.le_trans H0.out.2.1 H0.out.2.2)).mono ?_
  rintro e w2 ⟨v, rfl, rfl, hv⟩
  rcases v with _ | _
  case true =>
    clear hv
    go_wp2_with fail
    go_ret
    exact ⟨rfl, HB1.out⟩
  case false =>
    have HG := Lib.hid (hv rfl)
    have h60 := (hv rfl).1
    clear hv
    go_wp2_with fail
    refine (write_any _ w.heap.size HB1.out.size).mono ?_
    rintro e w2 ⟨x, rfl, hx, hb, hw⟩
    have HW : Hid (SW w x none (0, []) w2) := Lib.hid ⟨bel_next HB1.out hb, Nat.le_trans HB1.out.size hx, hw⟩
    clear hx hb hw HB1
    go_upto_block 0 with fail
    go_cut [6, 7, 8, 9] from 22 to 49 (fun d _ _ _ wx => ∃ (j ce : Nat) (E : Option Addr), j ≤ n0 ∧ d = .slice E j ce ∧ Hid ((putAll (l0.take j) (0, [])).1 = 0) ∧ Hid (EK w E j ce (l0.take j) wx))
    case first =>
      go_wp2_with fail
      have K0 : Hid (DK w x none (0, []) (some ⟨w2.heap.size, 0, none⟩) 0 0 [] (w2.alloc (.cells #[] 48))) := Lib.hid ⟨HW.out.step (below_alloc _ _), OwnP.lit0 w2 _ HW.out.bel.size⟩
      go_loopw [6, 7, 8, 9] (fun d i _ _ wr => ∃ (k ce : Nat) (E A : Option Addr) (s : Int × List UInt8), k ≤ n0 ∧ i = .int .i64 k ∧ d = .slice E k ce ∧ s.2.length ≤ 400 * k ∧ Hid (s = putAll (l0.take k) (0, [])) ∧ s.1 = 0 ∧ Hid (DK w x A s E k ce (l0.take k) wr)) (fun _ i _ _ _ => n0 - (intOf i).toNat)
      case atStart => exact ⟨0, 0, _, none, (0, []), by omega, rfl, rfl, by simp, Lib.hid (by rw [List.take_zero]; exact putAll_nil.symm), rfl, by simpa using K0⟩
      case round =>
        obtain ⟨k, ce, E, A, s, hk, rfl, rfl, hs, HS, hs0, K⟩ := hrel
        clear K0 HW
        by_cases hlt : k < n0
        · obtain ⟨b, o, p, rfl, hb, hp, hok, hc⟩ := (H0.out.1.below K.out.sw.bel).at_ hlt
          have h300 : p.b.length ≤ 300 := HG.out.2 p (List.mem_of_getElem? hp)
          have HOK := Lib.hid (H0.out.1.2.1 p (List.mem_of_getElem? hp))
          have HC := Lib.hid hc
          have HB := Lib.hid (Nat.lt_of_lt_of_le hb K.out.sw.bel.size)
          have HTK := Lib.hid (show l0.take (k + 1) = l0.take k ++ [p] by rw [List.take_add_one, hp]; rfl)
          have hlen := putP_len p h300 s
          obtain ⟨t, HT⟩ : ∃ t, Hid (t = putP p s) := ⟨_, Lib.hid rfl⟩
          rw [← HT.out] at hlen
          have HTA : Hid (t = putAll (l0.take (k + 1)) (0, [])) := Lib.hid (by rw [HTK.out, putAll_snoc, ← HS.out, HT.out])
          obtain ⟨r, HR⟩ : ∃ r, Hid (r = doneS t) := ⟨_, Lib.hid rfl⟩
          have hal := below_alloc wr (.cells #[.slice none 0 0, .int .i64 0] 44)
          have K1 := Lib.hid (K.out.step hal)
          have HC1 := Lib.hid (show (wr.alloc (.cells #[.slice none 0 0, .int .i64 0] 44)).rangeAt b (o + k * 4) p.cells from fun j v hv => (hal.cell (p := ⟨b, o + k * 4 + j, none⟩) HB.out).trans (hc j v hv))
          clear hp hok hc hb hal
          go_wp2_with (first | (refine wpList_ldPt rfl (.tmp 33) rfl b (o + k * 4) rfl p (by exact HC1.out) ?_))
          refine (put_any x wr.heap.size w.heap.size w.heap.size A none s (0, []) p _ K1.out.sw.wr (yW_new _ _) (fun g _ hg => by simp [blkO] at hg) ((HOK.out.below K1.out.sw.bel).more K1.out.sw.bel.size) (K1.out.sw.away HOK.out.rb) (fun _ _ _ _ hg => by simp [blkO] at hg) K1.out.sw.bel.size K1.out.sw.bel.size (by omega) (by simp) h300).mono ?_
          rw [← HT.out]
          intro e w5 kk
          obtain ⟨rfl, A6, k6⟩ := K1.out.ret K.out.sw.bel.size (yW_typ _) kk
          have K6 := Lib.hid k6
          clear kk k6 K1 HC1
          go_wp2_with fail
          refine (wdone_any x w.heap.size A6 t _ K6.out.sw.wr (by omega)).mono ?_
          rw [← HR.out]
          rintro e w7 ⟨A7, c7, rfl, ho, hb⟩
          have K7 := Lib.hid (K6.out.step hb)
          have HC7 := Lib.hid (show w7.rangeAt b (o + k * 4) p.cells from fun j v hv => by
            have hx := H0.out.1.below K7.out.sw.bel
            obtain ⟨b', o', p', e', _, hp', _, hc'⟩ := hx.at_ hlt
            injection e' with e'
            injection e' with e1 e2
            subst e1 e2
            have : p' = p := by
              have h1 := HTK.out
              rw [List.take_add_one, hp'] at h1
              have := List.append_cancel_left h1
              simpa using this
            subst this
            exact hc' j v hv)
          clear ho hb K6
          by_cases he : t.1 = 0
          · have hr0 : r.2 = 0 := by rw [HR.out]; unfold doneS; rw [if_pos he]
            have hb : (r.2 != 0) = false := by rw [hr0]; rfl
            have HOP := Lib.hid (K7.out.own.step (below_alloc w7 (.cells p.cells.toArray 48)))
            have HSW := Lib.hid (K7.out.sw.step (below_alloc w7 (.cells p.cells.toArray 48)))
            go_wp2_with (first
              | (refine wpList_ldPt rfl (.tmp 46) rfl b (o + k * 4) rfl p (by exact HC7.out) ?_)
              | (refine wpList_oneP rfl (.tmp 47) rfl p rfl ?_)
              | (at_builtin; refine wpList_appPt rfl (.tmp 43) (.tmp 48) rfl w.heap.size E k ce _ rfl (by exact HOP.out) w7.heap.size p rfl (fun j u hu => by rw [World.cell?_alloc_at _ _ _ _ rfl]; simpa using hu) (by omega) HSW.out.bel.size ?_; intro E8 c8 w8 ho8 hx8; have HO8 := Lib.hid ho8; have HX8 := Lib.hid hx8; clear ho8 hx8))
            go_roundw
            case rel =>
              refine ⟨k + 1, c8, E8, A6, t, by omega, by go_num, rfl, by omega, HTA, he, Lib.hid ⟨⟨?_, HSW.out.lz, ?_⟩, ?_⟩⟩
              · refine HSW.out.bel.trans (HX8.out.below (fun g hg => ?_) HSW.out.bel.size)
                obtain ⟨a, ea, rfl⟩ := mem_blkO hg
                have hl := World.ownsRow.lt HOP.out.1 a.block (by rw [ea]; rfl)
                exact hl.1
              · exact HSW.out.wr.oth HX8.out (fun hm => typ_ne HSW.out.wr.self (HOP.out.typ x hm) (by decide) rfl) (fun g hg hm => typ_ne (HSW.out.wr.typ g hg) (HOP.out.typ g hm) (by decide) rfl)
              · rw [HTK.out]
                exact HO8.out
            case measure => simp [intOf]; omega
          · have hr0 : r.2 = t.1 := by rw [HR.out, doneS_1 he]
            have hb : (r.2 != 0) = true := by rw [hr0]; simpa using he
            have H00 : Hid ((putAll (l0.take k) (0, [])).1 = 0) := Lib.hid (by rw [← HS.out]; exact hs0)
            go_wp2_with fail
            go_meet
            exact ⟨k, ce, E, by omega, rfl, H00, Lib.hid ⟨K7.out.sw.bel, K7.out.own⟩⟩
        · have hkn : k = n0 := by omega
          subst hkn
          have H00 : Hid ((putAll (l0.take k) (0, [])).1 = 0) := Lib.hid (by rw [← HS.out]; exact hs0)
          go_wp2_with fail
          go_meet
          exact ⟨k, ce, E, by omega, rfl, H00, Lib.hid ⟨K.out.sw.bel, K.out.own⟩⟩
    case rest =>
      obtain ⟨j, ce, E, hj, rfl, H00, HE⟩ := hcut
      clear HW
      have hsub : ∀ p ∈ l0.take j, p ∈ l0 := fun p hp => List.mem_of_mem_take hp
      obtain ⟨ps, HPS⟩ : ∃ ps, Hid (ps = l0.take j) := ⟨_, Lib.hid rfl⟩
      rw [← HPS.out] at H00 HE hsub
      have HSUB := Lib.hid hsub
      have H3 : Hid (∀ p ∈ ps, p.b.length ≤ 300) := Lib.hid (fun p hp => HG.out.2 p (hsub p hp))
      have hall := putAll_ok ps [] H00.out
      rw [List.nil_append] at hall
      have HALL := Lib.hid hall
      have hpl : ps.length = j := HE.out.own.2
      clear hsub hall
      go_wp2_with fail
      refine (write_any _ w.heap.size HE.out.bel.size).mono ?_
      rintro e w3 ⟨z, rfl, hz, hb, hw⟩
      have K0 : Hid (DK w z none (0, []) E j ce ps w3) := Lib.hid ⟨⟨bel_next HE.out.bel hb, Nat.le_trans HE.out.bel.size hz, hw⟩, HE.out.own.step hb⟩
      clear hz hb hw HE
      go_wp2_with fail
      go_loopw [10] (fun i wr => ∃ (k : Nat) (A : Option Addr) (s : Int × List UInt8), k ≤ j ∧ i = .int .i64 k ∧ s.2.length ≤ 400 * k ∧ Hid (s = putAll (ps.take k) (0, [])) ∧ Hid (DK w z A s E j ce ps wr)) (fun i _ => j - (intOf i).toNat)
      case atStart => exact ⟨0, none, (0, []), by omega, rfl, by simp, Lib.hid (by rw [List.take_zero]; exact putAll_nil.symm), K0⟩
      case round =>
        obtain ⟨k, A, s, hk, rfl, hs, HS, K⟩ := hrel
        clear K0
        by_cases hlt : k < j
        · have hok : ∀ wz : World, Below w.heap.size w wz → ∀ p ∈ ps, p.ok wz wz.heap.size := fun wz hb p hp => ((H0.out.1.2.1 p (HSUB.out p hp)).below hb).more hb.size
          have HOKA := Lib.hid hok
          have hal := below_alloc wr (.cells #[.slice none 0 0, .int .i64 0] 44)
          have K1 := Lib.hid (K.out.step hal)
          obtain ⟨b, o, p, rfl, hb, hp, _, hc⟩ := (K1.out.own.pl (HOKA.out _ K1.out.sw.bel)).at_ hlt
          have HM := Lib.hid (List.mem_of_getElem? hp)
          have h300 : p.b.length ≤ 300 := H3.out p HM.out
          have HOK := Lib.hid (H0.out.1.2.1 p (HSUB.out p HM.out))
          have HC := Lib.hid hc
          have HTK := Lib.hid (show ps.take (k + 1) = ps.take k ++ [p] by rw [List.take_add_one, hp]; rfl)
          have hlen := putP_len p h300 s
          obtain ⟨t, HT⟩ : ∃ t, Hid (t = putP p s) := ⟨_, Lib.hid rfl⟩
          rw [← HT.out] at hlen
          have HTA : Hid (t = putAll (ps.take (k + 1)) (0, [])) := Lib.hid (by rw [HTK.out, putAll_snoc, ← HS.out, HT.out])
          clear hp hb hc hal hok
          go_wp2_with (first | (refine wpList_ldPt rfl (.tmp 62) rfl b (o + k * 4) rfl p (by exact HC.out) ?_))
          refine (put_any z wr.heap.size w.heap.size w.heap.size A none s (0, []) p _ K1.out.sw.wr (yW_new _ _) (fun g _ hg => by simp [blkO] at hg) ((HOK.out.below K1.out.sw.bel).more K1.out.sw.bel.size) (K1.out.sw.away HOK.out.rb) (fun _ _ _ _ hg => by simp [blkO] at hg) K1.out.sw.bel.size K1.out.sw.bel.size (by omega) (by simp) h300).mono ?_
          rw [← HT.out]
          intro e w5 kk
          obtain ⟨rfl, A6, k6⟩ := K1.out.ret K.out.sw.bel.size (yW_typ _) kk
          have K6 := Lib.hid k6
          clear kk k6 K1
          go_wp2_with fail
          go_roundw
          case rel => exact ⟨k + 1, A6, t, by omega, by go_num, by omega, HTA, K6⟩
          case measure => simp [intOf]; omega
        · have hkn : k = j := by omega
          subst hkn
          have hse : s = (0, encs ps) := by
            have h1 := HS.out
            rw [List.take_of_length_le (by omega)] at h1
            rw [h1, HALL.out.2]
          subst hse
          simp only at hs
          obtain ⟨L, HL⟩ : ∃ L, Hid (L = encs ps) := ⟨_, Lib.hid rfl⟩
          have HTA : Hid (tellF ps (true, 0, L) = (true, 0, [])) := Lib.hid (by
            have := tell_all ps H3.out HALL.out.1 []
            rw [List.append_nil, ← HL.out] at this
            exact this)
          have HTC : Hid (∀ i, i < L.length → (tellF ps (true, 0, L.take i)).2.1 = 12) := Lib.hid (fun i hi => by
            rw [HL.out] at hi ⊢
            exact tell_cut ps H3.out HALL.out.1 i true hi)
          rw [← HL.out] at hs K
          obtain ⟨N, HN⟩ : ∃ N, Hid (L.length = N) := ⟨_, Lib.hid rfl⟩
          rw [HN.out] at hs
          have HD : Hid (doneS (0, L) = (L, 0)) := Lib.hid (doneS_0 L)
          have HPOK : Hid (∀ wz : World, Below w.heap.size w wz → ∀ p ∈ ps, p.ok wz wz.heap.size) := Lib.hid (fun wz hb p hp => ((H0.out.1.2.1 p (HSUB.out p hp)).below hb).more hb.size)
          clear HS
          go_wp2_with fail
          refine (wdone_any z w.heap.size A (0, L) _ K.out.sw.wr (by simp only [HN.out]; omega)).mono ?_
          rw [HD.out]
          rintro e w5 ⟨A5, c5, rfl, ho, hb⟩
          simp only [HN.out] at ho ⊢
          have K5 : Hid (BK w E k ce ps A5 N L w5) := Lib.hid ⟨(K.out.sw.step hb).bel, K.out.own.step hb, ho.rb⟩
          have C5 := ho.cap
          clear ho hb K
          go_wp2_with fail
          refine (read_any A5 N c5 L _ K5.out.row (by omega)).mono ?_
          rintro e w6 ⟨x2, rfl, hx2, hb, hr⟩
          have K6 := Lib.hid (K5.out.step hb)
          have HX := Lib.hid (Nat.le_trans K5.out.bel.size hx2)
          have HR := Lib.hid hr
          clear hx2 hb hr K5
          go_wp2_with fail
          refine (tells_any x2 E k ce ps (0, L) _ HR.out (K6.out.own.pl (HPOK.out _ K6.out.bel)) (by omega) H3.out).mono ?_
          rw [HTA.out]
          rintro e w7 ⟨rfl, ho, hr⟩
          have K7 := Lib.hid (K6.out.oth HR.out HX.out ho)
          have HR7 := Lib.hid hr
          clear ho hr HR K6
          go_wp2_with fail
          refine (end_any x2 (0, []) _ HR7.out).mono ?_
          rw [show endS (0, []) = (0, []) from rfl]
          rintro e w8 ⟨rfl, ho, hr⟩
          have K8 := Lib.hid (K7.out.oth HR7.out HX.out ho)
          have HR8 := Lib.hid hr
          clear ho hr HR7 K7
          go_wp2_with fail
          refine (left_any x2 (0, []) _ HR8.out).mono ?_
          rintro e w9 ⟨rfl, rfl⟩
          by_cases hn1 : x1 < 0
          · have d1 : decide (x1 < 0) = true := decide_eq_true hn1
            go_wp2_with fail
            go_ret
            exact ⟨rfl, K8.out.bel⟩
          have d1 : decide (x1 < 0) = false := decide_eq_false hn1
          by_cases hn2 : (N : Int) ≤ x1
          · have d2 : decide ((N : Int) ≤ x1) = true := decide_eq_true hn2
            go_wp2_with fail
            go_ret
            exact ⟨rfl, K8.out.bel⟩
          have d2 : decide ((N : Int) ≤ x1) = false := decide_eq_false hn2
          obtain ⟨i, rfl⟩ : ∃ i : Nat, x1 = (i : Int) := ⟨x1.toNat, by omega⟩
          have hiN : i < N := by omega
          have hcut := cut_h A5 N c5 i (by omega)
          have hpart := K8.out.row.part (i := 0) (j := i) (c := c5) (by omega) (Nat.le_of_lt hiN) C5.1
          rw [Nat.sub_zero, List.drop_zero] at hpart
          have HPT := Lib.hid hpart
          have HC12 := Lib.hid (HTC.out i (by rw [HN.out]; exact hiN))
          clear hpart
          go_wp2_with fail
          refine (read_any (cutA A5 c5 0) i c5 (L.take i) _ HPT.out (by omega)).mono ?_
          rintro e w10 ⟨x3, rfl, hx3, hb, hr⟩
          have K10 := Lib.hid (K8.out.step hb)
          have HX3 := Lib.hid (Nat.le_trans K8.out.bel.size hx3)
          have HR10 := Lib.hid hr
          clear hx3 hb hr K8
          go_wp2_with fail
          refine (tells_any x3 E k ce ps (0, L.take i) _ HR10.out (K10.out.own.pl (HPOK.out _ K10.out.bel)) (by omega) H3.out).mono ?_
          obtain ⟨q, HQ⟩ : ∃ q, Hid (q = tellF ps (true, 0, L.take i)) := ⟨_, Lib.hid rfl⟩
          have hq := HC12.out
          rw [← HQ.out] at hq ⊢
          have hqf : (q.1 && q.2.1 == 0) = false := by rw [hq]; cases q.1 <;> rfl
          rw [hqf]
          rintro e w11 ⟨rfl, ho, hr⟩
          have K11 := Lib.hid (K10.out.oth HR10.out HX3.out ho)
          have HR11 := Lib.hid (And.intro hr hq)
          clear ho hr HR10 K10 hq hqf
          go_wp2_with fail
          refine (err_any x3 q.2 _ HR11.out.1).mono ?_
          rw [HR11.out.2]
          rintro e w12 ⟨rfl, rfl⟩
          go_wp2_with fail
          go_ret
          exact ⟨rfl, K11.out.bel⟩
end Go.Proofs.Ytakmnfcbfbkloaa
