/- The reference of layer 5 (ghash): bytes, laid in blocks. Condition: the slice's cells are readable, and not too many. -/
import Derived.Test.YtilpdojliaiokaaRefGhFold
import Derived.Test.YtilpdojliaiokaaPolyOb
import Derived.Great.BuildSlice
import Derived.Great.FillDense
namespace Go.Proofs.Ytilpdojliaiokaa
open Go.RowKit
set_option linter.unusedVariables false

/-- The number of sixteen bytes. -/
def nB (l : List UInt8) : Nat := hl (oH l) (oL l)
theorem nB_lt (l : List UInt8) (h : l.length = 16) : nB l < 2 ^ 128 := hl_lt _ _ (oH_lt l h) (oL_lt l h)
theorem nB_bits (l : List UInt8) (h : l.length = 16) : bitsOf l = co (nB l) := by
  have h1 := bits_e (oH l) (oL l) (oL_lt l h)
  rw [eB_o l h] at h1
  exact h1
theorem nB_pe (l : List UInt8) (h : l.length = 16) : PE (nB l) = EV (oH l) (oL l) := pe_hl _ _ (oL_lt l h)
/-- Block k's first q bytes, then noughts. -/
def padK (l : List UInt8) (k q : Nat) : List UInt8 := (List.range 16).map fun j => if j < q then l.getD (16 * k + j) 0 else 0
theorem padK_len (l : List UInt8) (k q : Nat) : (padK l k q).length = 16 := by simp [padK]
theorem padK_at (l : List UInt8) (k q j : Nat) (hj : j < 16) : (padK l k q)[j]? = some (if j < q then l.getD (16 * k + j) 0 else 0) := by simp [padK, hj]
theorem padK_zero (l : List UInt8) (k : Nat) : padK l k 0 = List.replicate 16 0 := by
  apply List.ext_getElem?
  intro j
  by_cases hj : j < 16
  · rw [padK_at l k 0 j hj, List.getElem?_replicate, if_pos hj, if_neg (by omega)]
  · rw [List.getElem?_eq_none (by rw [padK_len]; omega), List.getElem?_eq_none (by simp; omega)]
theorem padK_set (l : List UInt8) (k q : Nat) (hq : q < 16) : (padK l k q).set q (l.getD (16 * k + q) 0) = padK l k (q + 1) := by
  apply List.ext_getElem?
  intro j
  rw [List.getElem?_set]
  by_cases hj : j < 16
  · rw [padK_at l k q j hj, padK_at l k (q + 1) j hj]
    by_cases e : q = j
    · subst e; rw [if_pos rfl, padK_len, if_pos (by omega), if_pos (by omega)]
    · rw [if_neg e]
      by_cases e2 : j < q
      · rw [if_pos e2, if_pos (by omega)]
      · rw [if_neg e2, if_neg (by omega)]
  · rw [if_neg (by omega), List.getElem?_eq_none (by rw [padK_len]; omega), List.getElem?_eq_none (by rw [padK_len]; omega)]
theorem padK_full (l : List UInt8) (k q : Nat) (h : l.length ≤ 16 * k + q) : padK l k q = padK l k 16 := by
  apply List.ext_getElem?
  intro j
  by_cases hj : j < 16
  · rw [padK_at l k q j hj, padK_at l k 16 j hj, if_pos hj]
    by_cases e : j < q
    · rw [if_pos e]
    · rw [if_neg e]
      congr 1
      rw [List.getD_eq_getElem?_getD, List.getElem?_eq_none (by omega)]
      rfl
  · rw [List.getElem?_eq_none (by rw [padK_len]; omega), List.getElem?_eq_none (by rw [padK_len]; omega)]
/-- The first k blocks; all of them. -/
def bksN (l : List UInt8) (k : Nat) : List Nat := (List.range k).map fun i => nB (padK l i 16)
def bks (l : List UInt8) : List Nat := bksN l ((l.length + 15) / 16)
theorem bksN_len (l : List UInt8) (k : Nat) : (bksN l k).length = k := by simp [bksN]
theorem bksN_succ (l : List UInt8) (k : Nat) : bksN l (k + 1) = bksN l k ++ [nB (padK l k 16)] := by simp [bksN, List.range_succ]
theorem bksN_lt (l : List UInt8) (k i x : Nat) (h : (bksN l k)[i]? = some x) : x < 2 ^ 128 := by
  obtain ⟨j, _, rfl⟩ := List.mem_map.1 (List.mem_of_getElem? h)
  exact nB_lt _ (padK_len _ _ _)
theorem poly_info : ∃ z, (Try.prog.info? 43).map (fun i => (i.zero, i.size, i.bytes)) = some (some z, 128, 128) ∧ z.cells.size = 128 := by
  have h : (Try.prog.info? 43).map (fun i => (i.zero.map (·.cells.size), i.size, i.bytes)) = some (some 128, 128, 128) := by kernel_rfl
  rcases hi : Try.prog.info? 43 with _ | i
  · rw [hi] at h; cases h
  · rw [hi] at h
    simp only [Option.map_some, Option.some.injEq, Prod.mk.injEq] at h
    obtain ⟨h1, h2, h3⟩ := h
    rcases hz : i.zero with _ | z
    · rw [hz] at h1; cases h1
    · rw [hz] at h1
      simp only [Option.map_some, Option.some.injEq] at h1
      exact ⟨z, by simp [hz, h2, h3], h1⟩
/-- Rows of coefficients as cells. -/
theorem cells_co : ∃ z, CellsOf 43 31 128 128 z (fun x => tvs (co x)) := by
  obtain ⟨z, h1, h2⟩ := poly_info
  exact ⟨z, Try.underlying31, h1, h2, by omega, fun x => by rw [tvs_length, co_len], fun x u hu => by
    obtain ⟨b, _, rfl⟩ := List.mem_map.1 hu
    rfl⟩
/-- A slice of one row of coefficients that a call lays. -/
theorem wpList_oneP {w : World} {ops : Array Oper} {rest : List Oper} {o : Oper} {a : Act} {Q : Exit → Act → World → Prop} (hgd : o.guard = none) (x : Operand) (hop : o.op = .buildSlice 31 1 #[(0, x)]) (l : List Bool) (hl : l.length = 128) (hx : a.eval x = BV l)
    (hk : wpList Try.prog ops Q rest (a.put o.dst (.slice (some ⟨w.heap.size, 0, none⟩) 1 1)) (w.alloc (.cells (tvs l).toArray 43))) : wpList Try.prog ops Q (o :: rest) a w := by
  obtain ⟨z, h1, h2⟩ := poly_info
  obtain ⟨i0, hi0, hz0, hz1, hz2⟩ := info_parts h1
  have hb : (BV l).cells = (tvs l).toArray := rfl
  refine wpList_buildSlice hgd _ 43 1 _ hop (tvs l).toArray i0 z Try.underlying31 hi0 hz0 (by rw [hz1]; omega) (by rw [hz1]; omega) ?_ hk
  have h := Great.fill_whole (s := 128) (by omega) [BV l] ((Array.range (1 * 128)).map (z.cells[· % z.cells.size]!)) (fun v hv => by
    rw [List.mem_singleton.1 hv, hb]; simp [tvs_length, hl]) (by simp)
  rw [hz1]
  simpa [hx, hb] using h
theorem OwnX.form {T : TypeId} {k : Nat} {f : Nat → List Value} {w : World} {base n c : Nat} {A : Option Addr} {xs : List Nat} (h : OwnX T k f w base A n c xs) (hn : 0 < n) : ∃ g, A = some ⟨g, 0, none⟩ := by
  rcases h.1.2 with ⟨_, h0⟩ | ⟨g, cap, cur, hv, _⟩
  · omega
  · injection hv with hA
    exact ⟨g, hA⟩
/-- Blocks of one's own. -/
abbrev OwnP (w : World) (base : Nat) (A : Option Addr) (n c : Nat) (xs : List Nat) : Prop := OwnX 43 128 (fun x => tvs (co x)) w base A n c xs
attribute [local irreducible] padK bksN nB co tvs bitsOf

set_option maxRecDepth 100000 in
set_option maxHeartbeats 4000000 in
theorem rblocks_any (A : Option Addr) (n c : Nat) (l : List UInt8) (w : World) (h : RB w w.heap.size A n l) (hn : n ≤ 1000000) :
    Calls Try.prog 11 #[.slice A n c] w fun e w' => ∃ g1 c1, e = .returned (.slice (some ⟨g1, 0, none⟩) ((n + 15) / 16) c1) ∧ OwnP w' w.heap.size (some ⟨g1, 0, none⟩) ((n + 15) / 16) c1 (bks l) ∧ Below w.heap.size w w' := by
  obtain ⟨z, hX⟩ := cells_co
  have HXX := Lib.hid hX
  clear hX
  have HRB := Lib.hid h
  have hlen := h.len
  clear h
  have hbks : bks l = bksN l ((n + 15) / 16) := by unfold bks; rw [hlen]
  rw [hbks]
  go_enter Try.func11, Try.ntmps11
  go_wp2_with fail
  have HO0 : Hid (OwnP (w.alloc (.cells #[] 43)) w.heap.size (some ⟨w.heap.size, 0, none⟩) 0 0 (bksN l 0)) := Lib.hid (by rw [show bksN l 0 = [] by unfold bksN; rfl]; exact OwnX.lit0 _ _ _ w _ (Nat.le_refl _))
  go_loopw [3, 4] (fun v i wr => ∃ k c1 g1 : Nat, k ≤ (n + 15) / 16 ∧ i = .int .i64 (16 * (k : Int)) ∧ v = .slice (some ⟨g1, 0, none⟩) k c1 ∧ Hid (OwnP wr w.heap.size (some ⟨g1, 0, none⟩) k c1 (bksN l k)) ∧ Hid (Below w.heap.size w wr)) (fun _ i _ => n + 16 - (intOf i).toNat)
  case atStart => exact ⟨0, 0, w.heap.size, by omega, rfl, rfl, HO0, Lib.hid (below_alloc _ _)⟩
  case round =>
    obtain ⟨k, c1, g1, hk, rfl, rfl, ho, hb⟩ := hrel
    clear HO0
    obtain ⟨wo, ewo⟩ : ∃ wo : World, wo = wr := ⟨_, rfl⟩
    subst ewo
    by_cases hlt : 16 * k < n
    · have hlt' : 16 * (k : Int) < (n : Int) := by omega
      go_wp2_with (at_make; refine wpList_mk rfl _ _ rfl wo.heap.size .i64 .i64 _ _ 16 rfl rfl rfl rfl (by omega) (Nat.le_refl _) ?_; intro w1 hown1 hs1 hb1)
      have HP1 : Hid (OwnB w1 wo.heap.size (some ⟨wo.heap.size, 0, none⟩) 16 16 (padK l k 0)) := Lib.hid (by rw [padK_zero]; exact hown1)
      have HB1 : Hid (Below wo.heap.size wo w1) := Lib.hid hb1
      clear hown1 hb1
      go_loopw [6] (fun t ws => ∃ q : Nat, q ≤ 16 ∧ 16 * k + q ≤ n ∧ t = .int .i64 q ∧ Hid (OwnB ws wo.heap.size (some ⟨wo.heap.size, 0, none⟩) 16 16 (padK l k q)) ∧ Hid (Below wo.heap.size wo ws)) (fun t _ => 16 - (intOf t).toNat)
      case atStart => exact ⟨0, by omega, by omega, rfl, HP1, HB1⟩
      case round =>
        obtain ⟨q, hq, hkq, rfl, hp, hbs⟩ := hrel
        clear HP1 HB1
        by_cases h1 : q < 16 ∧ 16 * k + q < n
        · obtain ⟨h1a, h1b⟩ := h1
          have hws := hb.out.trans (hbs.out.mono hb.out.size)
          obtain ⟨b, o, rfl, hbb, x, hx, hc⟩ := (HRB.out.step hws).at_ (k := 16 * k + q) h1b
          have hxd : l.getD (16 * k + q) 0 = x := by rw [List.getD_eq_getElem?_getD, hx]; rfl
          obtain ⟨J, HJ⟩ : ∃ J, Hid (J = 16 * k + q ∧ J < n) := ⟨_, Lib.hid ⟨rfl, h1b⟩⟩
          rw [← HJ.out.1] at hc
          have hw1 : IntKind.i64.wrap (16 * (k : Int) + (q : Int)) = (J : Int) := by rw [IntWalk.i64_in _ (by omega), HJ.out.1]; omega
          have hJn : (J : Int) < (n : Int) := by have := HJ.out.2; omega
          have hc0 := hp.out.cellAt (j := q) (x := 0) (by rw [padK_at l k q q h1a, if_neg (by omega)])
          have hf0 := hp.out.freeAt q
          have HXD := Lib.hid hxd
          clear hx hxd h1b hws
          go_wp2_with fail
          go_roundw
          case rel => exact ⟨q + 1, by omega, by have := HJ.out; omega, by go_num, Lib.hid (by rw [← padK_set l k q h1a, HXD.out]; exact hp.out.stored q x _ rfl), Lib.hid (hbs.out.setCell (p := ⟨wo.heap.size, q, none⟩) (Nat.le_refl _) _)⟩
          case measure => simp [intOf]; omega
        · have HPF : Hid (OwnB wr wo.heap.size (some ⟨wo.heap.size, 0, none⟩) 16 16 (padK l k 16)) := Lib.hid (by
            by_cases h2 : q < 16
            · rw [← padK_full l k q (by omega)]; exact hp.out
            · obtain rfl : q = 16 := by omega
              exact hp.out)
          obtain ⟨y, HY⟩ : ∃ y, Hid (y = nB (padK l k 16)) := ⟨_, Lib.hid rfl⟩
          have HNB : Hid (bitsOf (padK l k 16) = co y) := Lib.hid (by rw [HY.out]; exact nB_bits _ (padK_len _ _ _))
          by_cases h2 : q < 16
          · have hw1 : IntKind.i64.wrap (16 * (k : Int) + (q : Int)) = (n : Int) := by rw [IntWalk.i64_in _ (by omega)]; omega
            clear h1
            go_wp2_with (first | (go_at_call 17; refine (pof_any (some ⟨wo.heap.size, 0, none⟩) 16 (padK l k 16) _ (by exact HPF.out.rb)).mono ?_; rw [HNB.out]; rintro e w5 ⟨rfl, hb5⟩; have HB5 := Lib.hid hb5; clear hb5) | (refine wpList_oneP rfl (.tmp 38) rfl (co y) (co_len y) rfl ?_) | (at_builtin; refine wpList_appX HXX.out rfl (.tmp 36) (.tmp 39) rfl w.heap.size (some ⟨g1, 0, none⟩) k c1 (bksN l k) rfl (by exact OwnX.below (OwnX.below (OwnX.below ho.out hbs.out) HB5.out) (below_alloc _ _)) w5.heap.size 1 1 [y] rfl rfl (by intro j u hu; have hu2 : (tvs (co y))[j]? = some u := (by simpa using hu); have := (Br.new w5 (co y) 43).1 j u hu2; rw [Nat.zero_add] at this; exact this) (by unfold maxLen; omega) (by omega) (by have h1 := hb.out.size; have h2 := hbs.out.size; have h3 := HB5.out.size; rw [World.size_alloc]; omega) ?_; intro A7 c7 w7 ho7 hb7; obtain ⟨g7, rfl⟩ := ho7.form (by omega); have HO7 := Lib.hid ho7; have HB7 := Lib.hid hb7; clear ho7 hb7))
            go_roundw
            case rel => exact ⟨k + 1, c7, g7, by omega, by go_num, rfl, Lib.hid (by rw [bksN_succ, ← HY.out]; exact HO7.out), Lib.hid (hb.out.trans ((hbs.out.trans ((HB5.out.trans ((below_alloc w5 _).mono HB5.out.size)).mono hbs.out.size)).mono hb.out.size |>.trans HB7.out))⟩
            case measure => simp [intOf]; omega
          · obtain rfl : q = 16 := by omega
            clear h1
            go_wp2_with (first | (go_at_call 17; refine (pof_any (some ⟨wo.heap.size, 0, none⟩) 16 (padK l k 16) _ (by exact HPF.out.rb)).mono ?_; rw [HNB.out]; rintro e w5 ⟨rfl, hb5⟩; have HB5 := Lib.hid hb5; clear hb5) | (refine wpList_oneP rfl (.tmp 38) rfl (co y) (co_len y) rfl ?_) | (at_builtin; refine wpList_appX HXX.out rfl (.tmp 36) (.tmp 39) rfl w.heap.size (some ⟨g1, 0, none⟩) k c1 (bksN l k) rfl (by exact OwnX.below (OwnX.below (OwnX.below ho.out hbs.out) HB5.out) (below_alloc _ _)) w5.heap.size 1 1 [y] rfl rfl (by intro j u hu; have hu2 : (tvs (co y))[j]? = some u := (by simpa using hu); have := (Br.new w5 (co y) 43).1 j u hu2; rw [Nat.zero_add] at this; exact this) (by unfold maxLen; omega) (by omega) (by have h1 := hb.out.size; have h2 := hbs.out.size; have h3 := HB5.out.size; rw [World.size_alloc]; omega) ?_; intro A7 c7 w7 ho7 hb7; obtain ⟨g7, rfl⟩ := ho7.form (by omega); have HO7 := Lib.hid ho7; have HB7 := Lib.hid hb7; clear ho7 hb7))
            go_roundw
            case rel => exact ⟨k + 1, c7, g7, by omega, by go_num, rfl, Lib.hid (by rw [bksN_succ, ← HY.out]; exact HO7.out), Lib.hid (hb.out.trans ((hbs.out.trans ((HB5.out.trans ((below_alloc w5 _).mono HB5.out.size)).mono hbs.out.size)).mono hb.out.size |>.trans HB7.out))⟩
            case measure => simp [intOf]; omega
    · have hke : k = (n + 15) / 16 := by omega
      subst hke
      go_wp2_with fail
      go_ret
      exact ⟨g1, c1, rfl, ho.out, hb.out⟩
end Go.Proofs.Ytilpdojliaiokaa
