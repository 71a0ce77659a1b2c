/- Layer 23: the reference's Order. Conditions: the key's and the entries' cells are readable. -/
import Derived.Test.YtocbdgkehgmahaaRkS
import Derived.Test.YtocbdgkehgmahaaRkA
namespace Go.Proofs.Ytocbdgkehgmahaa
open Go.RowKit
set_option linter.unusedVariables false
set_option linter.unusedSimpArgs false
theorem wpList_ldE {w : World} {ops : Array Oper} {rest : List Oper} {o : Oper} {a : Act} {Q : Exit → Act → World → Prop} {T : TypeId} (rt : RT T [.int .i64 0, .int .i64 0]) (hgd : o.guard = none) (x : Operand) (hop : o.op = .load T x) (g k : Nat) (hx : a.eval x = .pointer (some ⟨g, k, none⟩)) (e : Int × Int) (hr : w.rangeAt g k (ent e))
    (hk : wpList Try.prog ops Q rest (a.put o.dst (entV e)) w) : wpList Try.prog ops Q (o :: rest) a w := by
  obtain ⟨d, hu, hd⟩ := rt.row
  exact wpList_load_mid hgd _ x hop g k hx (ent e) d hr hu hd (by rw [ent_len]; exact rt.size) hk
theorem rt_rf : RT 34 [.int .i64 0, .int .i64 0] := gt_rf.rt
theorem OwnZ.spot {w : World} {base n c : Nat} {A : Option Addr} {l : List Int} (h : OwnZ w base A n c l) : ∀ g ∈ blkO A, base ≤ g ∧ ∃ cur, w.heap[g]? = some (.cells cur 3 (0, 0)) := fun g hg => by
  obtain ⟨a, ea, hk⟩ := mem_blkO hg
  subst ea
  rcases h.1.2 with ⟨hv, _⟩ | ⟨q, cap, cur, hv, hbq, hh, _⟩
  · cases hv
  · injection hv with hA _ _
    injection hA with hA
    subst hA
    subst hk
    exact ⟨hbq, _, hh⟩
theorem OwnZ.away {w : World} {base n c x : Nat} {A : Option Addr} {l : List Int} {T : TypeId} {cs : List Value} (h : OwnZ w base A n c l) (k : Blk T w x cs) (hT : T ≠ 3) : x ∉ blkO A := fun hm => by
  obtain ⟨_, cur, hh⟩ := h.spot x hm
  have e := (show w.heap[x]? = _ from k).symm.trans hh
  injection e with e
  injection e with _ e
  exact hT e
theorem OwnZ.oth {w w' : World} {base n c : Nat} {A : Option Addr} {l : List Int} {S : List Nat} (h : OwnZ w base A n c l) (ho : Oth S w w') (hS : ∀ g ∈ blkO A, g ∉ S) : OwnZ w' base A n c l := by
  refine ⟨⟨h.1.1, ?_⟩, h.2⟩
  rcases h.1.2 with h0 | ⟨g, cap, cur, hv, hbg, hh, r⟩
  · exact .inl h0
  · refine .inr ⟨g, cap, cur, hv, hbg, (ho.block g (Array.getElem?_eq_some_iff.1 hh).1 (hS g ?_)).trans hh, r⟩
    injection hv with hA _ _
    subst hA
    exact List.mem_singleton.2 rfl
/-- A table's cells: scores; who is there. -/
def Fs (T : Nat → Option Nat) (j : Nat) : Value := .int .u64 (((T j).getD 0 : Nat) : Int)
def Fh (T : Nat → Option Nat) (j : Nat) : Value := .bool (T j).isSome
theorem fs_nil (f : Int × Int → Nat) : u0 = Fs (tabE f []) := rfl
theorem fh_nil (f : Int × Int → Nat) : b0 = Fh (tabE f []) := rfl
theorem take_ent {l : List (Int × Int)} {k : Nat} {e : Int × Int} (h : l[k]? = some e) : l.take (k + 1) = l.take k ++ [e] := by rw [List.take_add_one, h]; rfl
/-- An entry that is not taken leaves the table. -/
theorem tab_skip {f : Int × Int → Nat} {l : List (Int × Int)} {e : Int × Int} (h : okE e = false ∨ ∃ i : Nat, e.1 = (i : Int) ∧ tabE f l i ≠ none) : tabE f (l ++ [e]) = tabE f l := by
  funext j
  rw [tab_snoc]
  cases hj : tabE f l j with
  | some t => rfl
  | none =>
    rcases h with h | ⟨i, hi, hn⟩
    · rw [h]; rfl
    · have : ¬ (okE e = true ∧ e.1 = (j : Int)) := fun hh => hn (by
        have e2 : i = j := by omega
        rw [e2]; exact hj)
      simp only [if_neg this]
/-- One that is taken. -/
theorem tab_put {f : Int × Int → Nat} {l : List (Int × Int)} {e : Int × Int} {i : Nat} (hok : okE e = true) (hi : e.1 = (i : Int)) (hn : tabE f l i = none) (j : Nat) : tabE f (l ++ [e]) j = if j = i then some (f e) else tabE f l j := by
  rw [tab_snoc]
  by_cases hj : j = i
  · subst hj
    rw [hn, if_pos rfl]
    simp only
    rw [if_pos ⟨hok, hi⟩]
  · rw [if_neg hj]
    cases tabE f l j with
    | some t => rfl
    | none =>
      have : ¬ (okE e = true ∧ e.1 = (j : Int)) := fun hh => hj (by omega)
      simp only [if_neg this]
theorem range_below {B g k : Nat} {w w' : World} {vs : List Value} (h : w.rangeAt g k vs) (hb : Below B w w') (hg : g < B) : w'.rangeAt g k vs := fun j v hv => (hb.cell (p := ⟨g, k + j, none⟩) hg).trans (h j v hv)
def intsN (l : List Nat) : List Int := List.map (fun i : Nat => (i : Int)) l
/-- A slice value's length. -/
def lenV : Value → Nat | .slice _ n _ => n | _ => 0
/-- Best so far, as the loop has it. -/
def bestV (b : Option Nat) : Int := match b with | none => -1 | some i => (i : Int)
theorem bestV_0 (D : Nat → Option Nat) : bestV (bestT D 0) = -1 := rfl
theorem best_skip {D : Nat → Option Nat} {p : Nat} (h : D p = none) : bestT D (p + 1) = bestT D p := by
  show (match D p with | none => bestT D p | some t => match bestT D p with | none => some p | some b => if (D b).getD 0 < t then some p else some b) = _
  rw [h]
theorem best_first {D : Nat → Option Nat} {p t : Nat} (h : D p = some t) (hb : bestT D p = none) : bestT D (p + 1) = some p := by
  show (match D p with | none => bestT D p | some t => match bestT D p with | none => some p | some b => if (D b).getD 0 < t then some p else some b) = _
  rw [h, hb]
theorem best_more {D : Nat → Option Nat} {p t b tb : Nat} (h : D p = some t) (hb : bestT D p = some b) (htb : D b = some tb) : bestT D (p + 1) = if tb < t then some p else some b := by
  show (match D p with | none => bestT D p | some t => match bestT D p with | none => some p | some b => if (D b).getD 0 < t then some p else some b) = _
  rw [h, hb]
  simp only [htb, Option.getD_some]
theorem left_some {T : Nat → Option Nat} {j i t : Nat} (h : leftT T j i = some t) : T i = some t := by
  unfold leftT at h
  split at h
  · cases h
  · exact h
theorem fh_none {D : Nat → Option Nat} {p : Nat} (h : D p = none) : Fh D p = .bool false := by unfold Fh; rw [h]; rfl
theorem fh_some {D : Nat → Option Nat} {p t : Nat} (h : D p = some t) : Fh D p = .bool true := by unfold Fh; rw [h]; rfl
theorem fs_some {D : Nat → Option Nat} {p t : Nat} (h : D p = some t) : Fs D p = .int .u64 (t : Int) := by unfold Fs; rw [h]; rfl
attribute [local irreducible] mixF scF scE scA okE tabE bestT ordA ordT leftT
set_option maxRecDepth 100000 in
set_option maxHeartbeats 4000000 in
theorem rorder_any (s : Nat) (A : Option Addr) (n c : Nat) (l : List UInt8) (Ae : Option Addr) (ne ce : Nat) (es : List (Int × Int)) (w : World) (hs : s < 18446744073709551616) (h : RB w w.heap.size A n l) (hn : n ≤ maxLen) (he : EL w w.heap.size Ae ne es) (hne : ne ≤ 1000000) :
    Calls Try.prog 16 #[.int .u64 (s : Int), .slice A n c, .slice Ae ne ce] w fun r w' => ∃ (Ao : Option Addr) (co : Nat), r = .returned (.slice Ao (ordA (tabE (scE s l) es)).length co) ∧ OwnZ w' w.heap.size Ao (ordA (tabE (scE s l) es)).length co (intsN (ordA (tabE (scE s l) es))) ∧ Below w.heap.size w w' := by
  have HR := Lib.hid h
  have HE := Lib.hid he
  clear h he
  obtain ⟨O, HO⟩ : ∃ O, Hid (O = ordA (tabE (scE s l) es)) := ⟨_, Lib.hid rfl⟩
  rw [← HO.out]
  go_enter Try.func16, Try.ntmps16
  go_wp2_with (first
    | (refine wpList_bldZ bz_u64a rfl rfl ?_; intro V1 HV1)
    | (refine wpList_newZ rt_u64a rfl rfl ?_; intro w1 x7 k1 hb1 hx1; have K1 := Lib.hid k1; have B1 := Lib.hid hb1; have X1 := Lib.hid hx1; clear k1 hb1 hx1)
    | (refine wpList_stZ rt_u64a u0_ones rfl (.tmp 7) (.tmp 15) rfl x7 rfl V1 rfl HV1 K1.out ?_; intro w2 k2 ho2 hs2; have K2 := Lib.hid k2; have B2 := Lib.hid (B1.out.trans (ho2.below (fun k hk => by rw [List.mem_singleton.1 hk]; exact X1.out) B1.out.size)); clear k2 ho2 hs2)
    | (refine wpList_bldZ bz_boola rfl rfl ?_; intro V3 HV3)
    | (refine wpList_newZ rt_boola rfl rfl ?_; intro w3 x8 k3 hb3 hx3; have K3 := Lib.hid k3; have K23 := Lib.hid (K2.out.step hb3); have B3 := Lib.hid (bel_next B2.out hb3); have X3 := Lib.hid hx3; clear k3 hb3 hx3)
    | (refine wpList_stZ rt_boola b0_ones rfl (.tmp 8) (.tmp 16) rfl x8 rfl V3 rfl HV3 K3.out ?_; intro w4 k4 ho4 hs4; have K4 := Lib.hid k4; have KU := Lib.hid (K23.out.oth ho4 (fun hm => by have := K2.out.lt; have := X3.out; rw [List.mem_singleton] at hm; omega)); have B4 := Lib.hid (B3.out.trans (ho4.below (fun k hk => by rw [List.mem_singleton.1 hk]; exact Nat.le_trans B2.out.size X3.out) B3.out.size)); clear k4 ho4 hs4))
  have HX : Hid (x7 ≠ x8) := Lib.hid (by have := K2.out.lt; have := X3.out; omega)
  have HL : Hid (w.heap.size ≤ x7 ∧ w.heap.size ≤ x8) := Lib.hid ⟨X1.out, Nat.le_trans B2.out.size X3.out⟩
  clear K1 B1 X1 K2 B2 K3 K23 B3 X3
  go_loopw [9, 10, 11] (fun i _ _ wr => ∃ k : Nat, k ≤ ne ∧ i = .int .i64 k ∧ Hid (A64 64 wr x7 (Fs (tabE (scE s l) (es.take k)))) ∧ Hid (A64 65 wr x8 (Fh (tabE (scE s l) (es.take k)))) ∧ Hid (Below w.heap.size w wr)) (fun i _ _ _ => ne - (intOf i).toNat)
  case atStart => exact ⟨0, Nat.zero_le _, rfl, by rw [List.take_zero, ← fs_nil]; exact KU, by rw [List.take_zero, ← fh_nil]; exact K4, B4⟩
  case round =>
    obtain ⟨k, hk, rfl, hu, hh, hb⟩ := hrel
    clear KU K4 B4
    by_cases hlt : k < ne
    · obtain ⟨b, o, e, rfl, hbb, hek, hi1, hi2, hrg, c0w, c1w⟩ := HE.out.at_ hlt
      obtain ⟨T, HT⟩ : ∃ T, Hid (T = tabE (scE s l) (es.take k)) := ⟨_, Lib.hid rfl⟩
      have HTA := Lib.hid (take_ent hek)
      rw [← HT.out] at hu hh
      have HSC := Lib.hid (fun W hW => rscore_any s A n c l e W hs hW hn)
      have HRG := Lib.hid (range_below hrg hb.out hbb)
      clear hrg
      rcases hok : okE e with _ | _
      · rw [hok] at HSC
        have HN : Hid (tabE (scE s l) (es.take (k + 1)) = T) := Lib.hid (by rw [HTA.out, tab_skip (.inl hok), ← HT.out])
        go_wp2_with (refine wpList_ldE rt_rf rfl (.tmp 28) rfl b (o + k * 2) (by first | rfl | simp [Act.eval, Act.put]) e HRG.out ?_)
        refine (HSC.out _ (by exact HR.out.step hb.out)).mono ?_
        rintro r w5 ⟨rfl, hb5⟩
        have HU5 := Lib.hid (hu.out.step hb5)
        have HH5 := Lib.hid (hh.out.step hb5)
        have HB5 := Lib.hid (bel_next hb.out hb5)
        clear hb5
        go_wp2_with fail
        go_roundw
        case rel => exact ⟨k + 1, by omega, by go_num, by rw [HN.out]; exact HU5, by rw [HN.out]; exact HH5, HB5⟩
        case measure => simp [intOf]; omega
      · rw [hok] at HSC
        obtain ⟨x, y⟩ := e
        have h1 := (okE_iff (x, y)).1 hok
        simp only at h1 hi1 hi2 c0w c1w
        obtain ⟨i, rfl⟩ := Int.eq_ofNat_of_zero_le (show 0 ≤ x by omega)
        have hi : i < 64 := by omega
        rw [scA_ok s l _ hok] at HSC
        obtain ⟨Z, HZ⟩ : ∃ Z, Hid (Z = scE s l ((i : Int), y)) := ⟨_, Lib.hid rfl⟩
        have hZ : Z < 18446744073709551616 := by rw [HZ.out]; exact scE_lt _ _ _
        rw [← HZ.out] at HSC
        cases hTi : T i with
        | some t =>
          have HN : Hid (tabE (scE s l) (es.take (k + 1)) = T) := Lib.hid (by rw [HTA.out, tab_skip (.inr ⟨i, rfl, by rw [← HT.out, hTi]; simp⟩), ← HT.out])
          go_wp2_with (refine wpList_ldE rt_rf rfl (.tmp 28) rfl b (o + k * 2) (by first | rfl | simp [Act.eval, Act.put]) ((i : Int), y) HRG.out ?_)
          refine (HSC.out _ (by exact HR.out.step hb.out)).mono ?_
          rintro r w5 ⟨rfl, hb5⟩
          have HU5 := Lib.hid (hu.out.step hb5)
          have HH5 := Lib.hid (hh.out.step hb5)
          have HB5 := Lib.hid (bel_next hb.out hb5)
          have c0 := (HB5.out.cell (p := ⟨b, o + k * 2, none⟩) hbb).trans c0w
          have ch := HH5.out.cell hi
          have eh : Fh T i = .bool true := by unfold Fh; rw [hTi]; rfl
          rw [eh] at ch
          clear hb5 eh
          go_wp2_with fail
          go_roundw
          case rel => exact ⟨k + 1, by omega, by go_num, by rw [HN.out]; exact HU5, by rw [HN.out]; exact HH5, HB5⟩
          case measure => simp [intOf]; omega
        | none =>
          have HP := Lib.hid (fun j => tab_put (f := scE s l) (l := es.take k) (e := ((i : Int), y)) (i := i) hok rfl (by rw [← HT.out]; exact hTi) j)
          rw [← HTA.out, ← HT.out, ← HZ.out] at HP
          go_wp2_with (refine wpList_ldE rt_rf rfl (.tmp 28) rfl b (o + k * 2) (by first | rfl | simp [Act.eval, Act.put]) ((i : Int), y) HRG.out ?_)
          refine (HSC.out _ (by exact HR.out.step hb.out)).mono ?_
          rintro r w5 ⟨rfl, hb5⟩
          have HU5 := Lib.hid (hu.out.step hb5)
          have HH5 := Lib.hid (hh.out.step hb5)
          have HB5 := Lib.hid (bel_next hb.out hb5)
          have c0 := (HB5.out.cell (p := ⟨b, o + k * 2, none⟩) hbb).trans c0w
          have ch := HH5.out.cell hi
          have eh : Fh T i = .bool false := by unfold Fh; rw [hTi]; rfl
          rw [eh] at ch
          clear hb5 eh
          go_wp2_with (first
            | (refine wpList_stC (by kernel_rfl) rfl (.tmp 50) (.tmp 49) rfl x7 i (by first | rfl | simp [Act.eval, Act.put]) (.int .u64 (Z : Int)) rfl rfl (fz (Fs T)) HU5.out (by rw [fz_len]; exact hi) ?_; intro w6 k6 ho6 hs6; rw [fz_set] at k6; have HU6 := Lib.hid k6; have HH6 := Lib.hid (HH5.out.oth ho6 (fun hm => HX.out (List.mem_singleton.1 hm).symm)); have HB6 := Lib.hid (HB5.out.trans (ho6.below (fun q hq => by rw [List.mem_singleton.1 hq]; exact HL.out.1) HB5.out.size)); have c06 := (HB6.out.cell (p := ⟨b, o + k * 2, none⟩) hbb).trans c0w; clear k6 ho6 hs6)
            | (refine wpList_stC (by kernel_rfl) rfl (.tmp 56) (.const (.bool true)) rfl x8 i (by first | rfl | simp [Act.eval, Act.put]) (.bool true) rfl rfl (fz (Fh T)) HH6.out (by rw [fz_len]; exact hi) ?_; intro w7 k7 ho7 hs7; rw [fz_set] at k7; have HH7 := Lib.hid k7; have HU7 := Lib.hid (A64.oth HU6.out ho7 (fun hm => HX.out (List.mem_singleton.1 hm))); have HB7 := Lib.hid (HB6.out.trans (ho7.below (fun q hq => by rw [List.mem_singleton.1 hq]; exact HL.out.2) HB6.out.size)); clear k7 ho7 hs7))
          go_roundw
          case rel =>
            refine ⟨k + 1, by omega, by go_num, Lib.hid (HU7.out.ext fun j hj => ?_), Lib.hid (A64.ext HH7.out fun j hj => ?_), HB7⟩
            · unfold upF Fs
              rw [HP.out j]
              split <;> rfl
            · unfold upF Fh
              rw [HP.out j]
              split <;> rfl
          case measure => simp [intOf]; omega
    · obtain rfl : k = ne := by omega
      rw [List.take_of_length_le (by have := HE.out.len; omega)] at hu hh
      obtain ⟨T, HT⟩ : ∃ T, Hid (T = tabE (scE s l) es) := ⟨_, Lib.hid rfl⟩
      rw [← HT.out] at hu hh HO
      have hcap := Nat.le_trans (Nat.le_of_eq (ordA_len T)) (cnt_le T 64)
      rw [← HO.out] at hcap
      go_wp2_with fail
      obtain ⟨wa, HWA⟩ : ∃ wa : World, Hid (wa = wr) := ⟨_, Lib.hid rfl⟩
      have Z0 : OwnZ (wr.alloc (.cells #[] 3)) w.heap.size (some ⟨wr.heap.size, 0, none⟩) 0 0 [] := OwnZ.lit wr w.heap.size [] #[] 0 rfl rfl (by decide) hb.out.size (by simp)
      have U0 := hu.out.step (below_alloc wr (.cells #[] 3))
      have H0 := hh.out.step (below_alloc wr (.cells #[] 3))
      have BB0 := bel_next hb.out (below_alloc wr (.cells #[] 3))
      have ZH := Lib.hid (And.intro Z0 (And.intro U0 (And.intro H0 BB0)))
      clear Z0 U0 H0 BB0 hu hh hb HWA wa
      go_loopw [12, 13, 14] (fun v _ _ wq => ∃ (k : Nat) (Ao : Option Addr) (co : Nat), k ≤ O.length ∧ v = .slice Ao k co ∧ Hid (OwnZ wq w.heap.size Ao k co (intsN (O.take k))) ∧ Hid (A64 64 wq x7 (Fs T)) ∧ Hid (A64 65 wq x8 (Fh (leftT T k))) ∧ Hid (Below w.heap.size w wq)) (fun v _ _ _ => 64 - lenV v)
      case atStart => exact ⟨0, _, _, Nat.zero_le _, rfl, Lib.hid (by rw [List.take_zero]; exact ZH.out.1), Lib.hid ZH.out.2.1, Lib.hid (by rw [left_zero]; exact ZH.out.2.2.1), Lib.hid ZH.out.2.2.2⟩
      case round =>
        obtain ⟨j, Ao, co, hj, rfl, hz, hu, hh, hb⟩ := hrel
        obtain ⟨wo, ewo⟩ : ∃ wo : World, wo = wr := ⟨_, rfl⟩
        subst ewo
        clear ZH
        go_wp2_with fail
        obtain ⟨D, HD⟩ : ∃ D, Hid (D = leftT T j) := ⟨_, Lib.hid rfl⟩
        rw [← HD.out] at hh
        go_loopw [13, 14] (fun v i wi => ∃ p q : Nat, p ≤ 64 ∧ i = .int .i64 p ∧ v = .int .i64 (bestV (bestT D p)) ∧ wi = wo.drewN q) (fun _ i _ => 64 - (intOf i).toNat)
        case atStart => exact ⟨0, 0, Nat.zero_le _, rfl, congrArg (Value.int .i64) (bestV_0 D).symm, rfl⟩
        case round =>
          obtain ⟨p, q, hp, rfl, rfl, rfl⟩ := hrel
          by_cases hlt : p < 64
          · cases hDp : D p with
            | none =>
              have ch : wo.cell? ⟨x8, p, none⟩ = some (.bool false) := by rw [← fh_none hDp]; exact hh.out.cell hlt
              have HN := Lib.hid (best_skip hDp)
              obtain ⟨B, HB⟩ : ∃ B, Hid (B = bestV (bestT D p)) := ⟨_, Lib.hid rfl⟩
              rw [← HB.out]
              go_wp2_with fail
              go_quiet (fail)
              go_wp2_with fail
              go_roundw
              case rel => exact ⟨p + 1, _, by omega, by go_num, by rw [HN.out, ← HB.out], rfl⟩
              case measure => simp [intOf]; omega
            | some t =>
              have ch : wo.cell? ⟨x8, p, none⟩ = some (.bool true) := by rw [← fh_some hDp]; exact hh.out.cell hlt
              have cp : wo.cell? ⟨x7, p, none⟩ = some (.int .u64 (t : Int)) := by rw [← fs_some (left_some (by rw [← HD.out]; exact hDp))]; exact hu.out.cell hlt
              cases hbp : bestT D p with
              | none =>
                have HN := Lib.hid (best_first hDp hbp)
                have hv : bestV none = -1 := rfl
                rw [hv]
                go_wp2_with fail
                go_quiet (fail)
                go_wp2_with fail
                go_roundw
                case rel => exact ⟨p + 1, _, by omega, by go_num, by rw [HN.out]; rfl, rfl⟩
                case measure => simp [intOf]; omega
              | some b =>
                obtain ⟨hb1, tb, hb2, _⟩ := best_is.1 b hbp
                have HN := Lib.hid (best_more hDp hbp hb2)
                have cb : wo.cell? ⟨x7, b, none⟩ = some (.int .u64 (tb : Int)) := by rw [← fs_some (left_some (by rw [← HD.out]; exact hb2))]; exact hu.out.cell (by omega)
                have hv : bestV (some b) = (b : Int) := rfl
                rw [hv]
                have hb64 : b < 64 := by omega
                have d1 : decide ((b : Int) < 0) = false := decide_eq_false (by omega)
                by_cases hgt : tb < t
                · have d2 : decide ((tb : Int) < (t : Int)) = true := decide_eq_true (by omega)
                  go_wp2_with fail
                  go_quiet (fail)
                  go_wp2_with fail
                  go_roundw
                  case rel => exact ⟨p + 1, _, by omega, by go_num, by rw [HN.out, if_pos hgt]; rfl, rfl⟩
                  case measure => simp [intOf]; omega
                · have d2 : decide ((tb : Int) < (t : Int)) = false := decide_eq_false (by omega)
                  go_wp2_with fail
                  go_quiet (fail)
                  go_wp2_with fail
                  go_roundw
                  case rel => exact ⟨p + 1, _, by omega, by go_num, by rw [HN.out, if_neg hgt]; rfl, rfl⟩
                  case measure => simp [intOf]; omega
          · obtain rfl : p = 64 := by omega
            cases hbp : bestT D 64 with
            | none =>
              have hv : bestV none = -1 := rfl
              rw [hv]
              go_wp2_with fail
              go_ret
              have hje : j = O.length := by
                have h1 := drop_ord (k := j) (T := T)
                rw [← HD.out, ordA_nil hbp, ← HO.out] at h1
                have h2 := congrArg List.length h1
                rw [List.length_drop, List.length_nil] at h2
                omega
              subst hje
              have hz := hz.out
              rw [List.take_length] at hz
              exact ⟨Ao, co, rfl, hz, below_drewN hb.out _⟩
            | some b =>
              obtain ⟨hb1, tb, hb2, _⟩ := best_is.1 b hbp
              have hv : bestV (some b) = (b : Int) := rfl
              rw [hv]
              have hjO : O[j]? = some b := by
                have h1 := drop_ord (k := j) (T := T)
                rw [← HD.out, ordA_cons hbp, ← HO.out] at h1
                have h2 := congrArg List.head? h1
                rw [List.head?_drop] at h2
                exact h2.symm
              have hjl := (List.getElem?_eq_some_iff.1 hjO).1
              have HTK : Hid (O.take (j + 1) = O.take j ++ [b]) := Lib.hid (by rw [List.take_add_one, hjO]; rfl)
              have HJ := Lib.hid hjl
              have HZ : Hid (OwnZ (wo.drewN q) w.heap.size Ao j co (intsN (O.take j))) := hz
              have HU2 : Hid (A64 64 (wo.drewN q) x7 (Fs T)) := hu
              have HH2 : Hid (A64 65 (wo.drewN q) x8 (Fh D)) := hh
              have HB2 : Hid (Below w.heap.size w (wo.drewN q)) := Lib.hid (below_drewN hb.out _)
              generalize wo.drewN q = wq at HZ HU2 HH2 HB2 ⊢
              clear hz hu hh hb hjl hjO
              have hb64 : b < 64 := hb1
              have HND : Hid (∀ q, upF (Fh D) b (.bool false) q = Fh (leftT T (j + 1)) q) := Lib.hid (fun q => by
                have hm : ∀ i, i ∈ (ordA T).take (j + 1) ↔ i ∈ (ordA T).take j ∨ i = b := fun i => by
                  rw [← HO.out, HTK.out, List.mem_append, List.mem_singleton]
                unfold upF Fh
                rw [HD.out]
                by_cases hq : q = b
                · rw [if_pos hq]
                  have : leftT T (j + 1) q = none := by unfold leftT; rw [if_pos ((hm q).2 (.inr hq))]
                  rw [this]; rfl
                · rw [if_neg hq]
                  have : leftT T (j + 1) q = leftT T j q := by
                    unfold leftT
                    by_cases hin : q ∈ (ordA T).take j
                    · rw [if_pos hin, if_pos ((hm q).2 (.inl hin))]
                    · rw [if_neg hin, if_neg (fun h => ((hm q).1 h).elim hin hq)]
                  rw [this])
              go_wp2_with (first
                | (at_builtin; refine wpList_appZ rfl (.tmp 82) (.tmp 84) rfl w.heap.size _ _ _ _ rfl (by exact HZ.out.below (below_alloc _ _)) _ (some ⟨wq.heap.size, 0, none⟩) 1 1 [(b : Int)] rfl (by exact ZL.lit wq [(b : Int)] _ 1 wq.heap.size _ (by rfl) rfl rfl (by intro y hy; rw [List.mem_singleton.1 hy]; omega)) (by have := HJ.out; omega) (by have := HB2.out.size; rw [World.size_alloc]; omega) ?_; intro A4 c4 w4 ho4 hg4 hb4; have HO4 := Lib.hid ho4; have HU4 := Lib.hid ((HU2.out.step (below_alloc wq (.cells #[.int .i64 (b : Int)] 3))).oth (Oth.of_grown hg4) (OwnZ.away (HZ.out.below (below_alloc _ _)) (HU2.out.step (below_alloc wq (.cells #[.int .i64 (b : Int)] 3))) (by decide))); have HH4 := Lib.hid ((HH2.out.step (below_alloc wq (.cells #[.int .i64 (b : Int)] 3))).oth (Oth.of_grown hg4) (OwnZ.away (HZ.out.below (below_alloc _ _)) (HH2.out.step (below_alloc wq (.cells #[.int .i64 (b : Int)] 3))) (by decide))); have HB4 := Lib.hid (HB2.out.trans (((below_alloc wq _).mono HB2.out.size).trans hb4)); clear ho4 hg4 hb4)
                | (refine wpList_stC (by kernel_rfl) rfl (.tmp 87) (.const (.bool false)) rfl x8 b (by first | rfl | simp [Act.eval, Act.put]) (.bool false) rfl rfl (fz (Fh D)) HH4.out (by rw [fz_len]; exact hb64) ?_; intro w5 k5 ho5 hs5; rw [fz_set] at k5; have HH5 := Lib.hid k5; have HU5 := Lib.hid (A64.oth HU4.out ho5 (fun hm => HX.out (List.mem_singleton.1 hm))); have HO5 := Lib.hid (OwnZ.oth HO4.out ho5 (fun q hq hm => OwnZ.away HO4.out HH4.out (by decide) (by rw [← List.mem_singleton.1 hm]; exact hq))); have HB5 := Lib.hid (HB4.out.trans (ho5.below (fun q hq => by rw [List.mem_singleton.1 hq]; exact HL.out.2) HB4.out.size)); clear k5 ho5 hs5))
              simp only [Act.put]
              go_roundw
              case rel =>
                refine ⟨j + 1, A4, c4, HJ.out, rfl, Lib.hid ?_, HU5, Lib.hid (A64.ext HH5.out fun q _ => HND.out q), HB5⟩
                have := HO5.out
                rw [HTK.out]
                unfold intsN
                rw [List.map_append]
                exact this
              case measure =>
                have := HJ.out
                simp [lenV]
                omega
end Go.Proofs.Ytocbdgkehgmahaa
