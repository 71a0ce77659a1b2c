/- Layer 23: entries as the references have them; are all entries right, and no Id told twice? Conditions: the entries' cells are readable. -/
import Derived.Test.YtocbdgkehgmahaaRkH
namespace Go.Proofs.Ytocbdgkehgmahaa
open Go.RowKit
set_option linter.unusedVariables false
set_option linter.unusedSimpArgs false
theorem EL.lit1 (T : TypeId) (w : World) (e : Int × Int) (cs : Array Value) (g : Nat) (hc : cs = (ent e).toArray) (hg : g = w.heap.size) (hi : I64e e.1 ∧ I64e e.2) : EL (w.alloc (.cells cs T)) (w.heap.size + 1) (some ⟨g, 0, none⟩) 1 [e] := by
  subst hc
  subst hg
  have h : RdG 2 (w.alloc (.cells (ent e).toArray T)) (some ⟨w.heap.size, 0, none⟩) 1 ([e].map ent) := RdG.lit1 T w (ent e) (ent_one e)
  have := EL.of_rd h (fun p hp => by rw [List.mem_singleton.1 hp]; exact hi)
  rw [World.size_alloc] at this
  exact this
theorem OwnE.below {T : TypeId} {w w' : World} {base n c : Nat} {A : Option Addr} {l : List (Int × Int)} (h : OwnE T w base A n c l) (hb : Below w.heap.size w w') : OwnE T w' base A n c l := h.step hb
set_option maxHeartbeats 1000000 in
theorem of_any (A : Option Addr) (n c : Nat) (es : List (Int × Int)) (w : World) (h : EL w w.heap.size A n es) (hn : n ≤ 80) :
    Calls Try.prog 13 #[.slice A n c] w fun r w' => ∃ (Ao : Option Addr) (co : Nat), r = .returned (.slice Ao n co) ∧ OwnE 34 w' w.heap.size Ao n co es ∧ Below w.heap.size w w' := by
  have HE := Lib.hid h
  clear h
  go_enter Try.func13, Try.ntmps13
  go_wp2_with fail
  have Z0 := Lib.hid (OwnE.lit0 34 w w.heap.size w.heap.size rfl (Nat.le_refl _))
  go_loopw [3, 4] (fun v i wr => ∃ (k : Nat) (A1 : Option Addr) (c1 : Nat), k ≤ n ∧ i = .int .i64 k ∧ v = .slice A1 k c1 ∧ Hid (OwnE 34 wr w.heap.size A1 k c1 (es.take k)) ∧ Hid (Below w.heap.size w wr)) (fun _ i _ => n - (intOf i).toNat)
  case atStart => exact ⟨0, _, _, Nat.zero_le _, rfl, rfl, by rw [List.take_zero]; exact Z0, Lib.hid (below_alloc w _)⟩
  case round =>
    obtain ⟨k, A1, c1, hk, rfl, rfl, ho, hb⟩ := hrel
    clear Z0
    by_cases hlt : k < n
    · obtain ⟨b, o, e, rfl, hbb, hek, hi1, hi2, hrg, c0w, c1w⟩ := HE.out.at_ hlt
      have HTA := Lib.hid (take_ent hek)
      have c0 := (hb.out.cell (p := ⟨b, o + k * 2, none⟩) hbb).trans c0w
      have c1' := (hb.out.cell (p := ⟨b, o + k * 2 + 1, none⟩) hbb).trans c1w
      clear hrg hek c0w c1w
      go_wp2_with fail
      go_region_law (refine step_appE gt_rf rfl (.tmp 12) (.tmp 24) rfl w.heap.size _ _ _ _ rfl ((ho.out.step (below_alloc _ _)).drew) (wr.heap.size + 1) (some ⟨wr.heap.size, 0, none⟩) 1 1 [e] rfl (by exact (EL.lit1 _ wr e _ _ (by rfl) rfl ⟨hi1, hi2⟩).drew) (by simp) (by omega) (by omega) (by have := hb.out.size; simp; omega) ?_; intro A2 c2 w2 ho2 hb2)
      all_goals
        have HO2 := Lib.hid ho2
        have HB2 := Lib.hid ((hb.out.trans ((below_alloc wr _).drew.mono hb.out.size)).trans hb2)
        clear ho2 hb2
        go_wp2_with fail
        go_roundw
        case rel => exact ⟨k + 1, A2, c2, by omega, by go_num, rfl, by rw [HTA.out]; exact HO2, HB2⟩
        case measure => simp [intOf]; omega
    · obtain rfl : k = n := by omega
      have HO := ho.out
      rw [List.take_of_length_le (by have := HE.out.len; omega)] at HO
      have HO := Lib.hid HO
      go_wp2_with fail
      go_ret
      exact ⟨A1, c1, rfl, HO.out, hb.out⟩
theorem rt_rk : RT 25 [.int .i64 0, .int .i64 0] := gt_rk.rt
/-- The Ids that were told, as a table. -/
def tb0 (l : List (Int × Int)) : Nat → Option Nat := tabE (fun _ => 0) l
theorem unl_prefix {l : List (Int × Int)} {k : Nat} {e : Int × Int} (h : unlP l) (he : l[k]? = some e) : unlP (l.take k ++ [e]) := by
  rw [← take_ent he]
  exact ⟨fun x hx => h.1 x (List.mem_of_mem_take hx), h.2.sublist (List.take_sublist _ _)⟩
theorem unl_bad {l : List (Int × Int)} {k : Nat} {e : Int × Int} (he : l[k]? = some e) (h : okE e = false ∨ ∃ i : Nat, e.1 = (i : Int) ∧ tb0 (l.take k) i ≠ none) : ¬ unlP l := fun hu => by
  have h1 := (unl_snoc e).1 (unl_prefix hu he)
  rcases h with h | ⟨i, hi, hn⟩
  · rw [h] at h1; cases h1.2.1
  · cases ht : tb0 (l.take k) i with
    | none => exact hn ht
    | some t =>
      obtain ⟨x, q1, _, q3, _⟩ := tab_mem ht
      exact h1.2.2 x q1 (by rw [q3, hi])
theorem unl_good {l : List (Int × Int)} {k i : Nat} {e : Int × Int} (hu : unlP (l.take k)) (he : l[k]? = some e) (hok : okE e = true) (hi : e.1 = (i : Int)) (hn : tb0 (l.take k) i = none) : unlP (l.take (k + 1)) := by
  rw [take_ent he, unl_snoc]
  refine ⟨hu, hok, fun x hx hxe => ?_⟩
  exact tab_has hx (hu.1 x hx) (by rw [hxe, hi]) hn
instance (l : List (Int × Int)) : Decidable (unlP l) := by unfold unlP; infer_instance
/-- Are all entries right, and no Id told twice? -/
def unlB (l : List (Int × Int)) : Bool := decide (unlP l)
theorem unlB_no {l : List (Int × Int)} (h : ¬ unlP l) : unlB l = false := decide_eq_false h
theorem unlB_yes {l : List (Int × Int)} (h : unlP l) : unlB l = true := decide_eq_true h
theorem unlB_iff {l : List (Int × Int)} : unlB l = true ↔ unlP l := decide_eq_true_iff
theorem fh_tb0 (j : Nat) : b0 j = Fh (tb0 []) j := rfl
attribute [local irreducible] mixF scF scE scA okE tabE tb0
set_option maxRecDepth 100000 in
set_option maxHeartbeats 4000000 in
theorem unlike_any (A : Option Addr) (n c : Nat) (es : List (Int × Int)) (w : World) (h : EL w w.heap.size A n es) (hn : n ≤ 1000000) :
    Calls Try.prog 18 #[.slice A n c] w fun r w' => r = .returned (.bool (unlB es)) ∧ Below w.heap.size w w' := by
  have HE := Lib.hid h
  clear h
  obtain ⟨v, HV⟩ : ∃ v, Hid (v = unlB es) := ⟨_, Lib.hid rfl⟩
  rw [← HV.out]
  go_enter Try.func18, Try.ntmps18
  go_wp2_with (first
    | (refine wpList_bldZ bz_boola rfl rfl ?_; intro V1 HV1)
    | (refine wpList_newZ rt_boola rfl rfl ?_; intro w1 x3 k1 hb1 hx1; have K1 := Lib.hid k1; have B1 := Lib.hid hb1; have X1 := Lib.hid hx1; clear k1 hb1 hx1)
    | (refine wpList_stZ rt_boola b0_ones rfl (.tmp 3) (.tmp 6) rfl x3 rfl V1 rfl HV1 K1.out ?_; intro w2 k2 ho2 hs2; have K2 := Lib.hid k2; have B2 := Lib.hid (B1.out.trans (ho2.below (fun k hk => by rw [List.mem_singleton.1 hk]; exact X1.out) B1.out.size)); clear k2 ho2 hs2))
  go_loopw [4, 5] (fun i _ wr => ∃ k : Nat, k ≤ n ∧ i = .int .i64 k ∧ Hid (unlP (es.take k)) ∧ Hid (A64 65 wr x3 (Fh (tb0 (es.take k)))) ∧ Hid (Below w.heap.size w wr)) (fun i _ _ => n - (intOf i).toNat)
  case atStart => exact ⟨0, Nat.zero_le _, rfl, Lib.hid (by rw [List.take_zero]; exact unl_nil), Lib.hid (A64.ext K2.out fun j _ => by rw [List.take_zero]; exact fh_tb0 j), B2⟩
  case round =>
    obtain ⟨k, hk, rfl, hun, hh, hb⟩ := hrel
    clear K1 B1 K2 B2
    by_cases hlt : k < n
    · obtain ⟨b, o, e, rfl, hbb, hek, hi1, hi2, hrg, c0w, c1w⟩ := HE.out.at_ hlt
      have HRG := Lib.hid (range_below hrg hb.out hbb)
      have HEK := Lib.hid hek
      clear hrg hek c0w c1w
      obtain ⟨x, y⟩ := e
      by_cases hbad : x < 0 ∨ 63 < x ∨ y < 1 ∨ 16 < y
      · have HNO := Lib.hid (unl_bad HEK.out (.inl (okE_no (x, y) hbad)))
        have key : ∀ (P : Prop), (x < 0 → P) → (0 ≤ x → 63 < x → P) → (0 ≤ x → x ≤ 63 → y < 1 → P) → (0 ≤ x → x ≤ 63 → 1 ≤ y → 16 < y → P) → P := by
          intro P h1 h2 h3 h4
          by_cases a1 : x < 0
          · exact h1 a1
          by_cases a2 : 63 < x
          · exact h2 (by omega) a2
          by_cases a3 : y < 1
          · exact h3 (by omega) (by omega) a3
          · exact h4 (by omega) (by omega) (by omega) (by omega)
        clear hbad
        apply key
        all_goals (
          clear key
          intros
          go_wp2_with (first
            | (refine wpList_ldE rt_rk rfl (.tmp 15) rfl b (o + k * 2) (by first | rfl | simp [Act.eval, Act.put]) (x, y) HRG.out ?_)
            | (refine wpList_newB rt_rk rfl rfl ?_; intro w3 q3 k3 hb3 hx3; have K3 := Lib.hid k3; have B3 := Lib.hid (bel_next hb.out hb3); have H3 := Lib.hid (hh.out.step hb3); have X3 := Lib.hid hx3; clear k3 hb3 hx3)
            | (refine wpList_stB rt_rk rfl (.tmp 5) (.tmp 16) rfl q3 0 rfl [.int .i64 0, .int .i64 0] (ent (x, y)) rfl (ent_one (x, y)) rfl K3.out (by decide) ?_; intro w4 k4 ho4 hs4; have c0 := k4.cell 0; have c1 := k4.cell 1; simp only [ent, putsL, List.set_cons_zero, List.set_cons_succ, List.getElem?_cons_zero, List.getElem?_cons_succ] at c0 c1; have H4 := Lib.hid (H3.out.oth ho4 (fun hm => by have := hh.out.lt; have := X3.out; rw [List.mem_singleton] at hm; omega)); have B4 := Lib.hid (B3.out.trans (ho4.below (fun j hj => by rw [List.mem_singleton.1 hj]; exact Nat.le_trans hb.out.size X3.out) B3.out.size)); clear k4 ho4 hs4))
          go_ret
          exact ⟨ret1b (by rw [HV.out]; exact (unlB_no HNO.out).symm), B4.out⟩)
      · obtain ⟨i, rfl⟩ := Int.eq_ofNat_of_zero_le (show 0 ≤ x by omega)
        have hok : okE ((i : Int), y) = true := by rw [okE_iff]; simp only; omega
        have hi : i < 64 := by omega
        have e1 : ¬ 63 < (i : Int) := by omega
        have e2 : ¬ y < 1 := by omega
        have e3 : ¬ 16 < y := by omega
        have e0 : ¬ (i : Int) < 0 := by omega
        cases hT : tb0 (es.take k) i with
        | some t =>
          have HNO := Lib.hid (unl_bad HEK.out (.inr ⟨i, rfl, by rw [hT]; simp⟩))
          have eh := fh_some hT
          clear hbad
          go_wp2_with (first
            | (refine wpList_ldE rt_rk rfl (.tmp 15) rfl b (o + k * 2) (by first | rfl | simp [Act.eval, Act.put]) ((i : Int), y) HRG.out ?_)
            | (refine wpList_newB rt_rk rfl rfl ?_; intro w3 q3 k3 hb3 hx3; have K3 := Lib.hid k3; have B3 := Lib.hid (bel_next hb.out hb3); have H3 := Lib.hid (hh.out.step hb3); have X3 := Lib.hid hx3; clear k3 hb3 hx3)
            | (refine wpList_stB rt_rk rfl (.tmp 5) (.tmp 16) rfl q3 0 rfl [.int .i64 0, .int .i64 0] (ent ((i : Int), y)) rfl (ent_one ((i : Int), y)) rfl K3.out (by decide) ?_; intro w4 k4 ho4 hs4; have c0 := k4.cell 0; have c1 := k4.cell 1; simp only [ent, putsL, List.set_cons_zero, List.set_cons_succ, List.getElem?_cons_zero, List.getElem?_cons_succ] at c0 c1; have H4 := Lib.hid (H3.out.oth ho4 (fun hm => by have := hh.out.lt; have := X3.out; rw [List.mem_singleton] at hm; omega)); have B4 := Lib.hid (B3.out.trans (ho4.below (fun j hj => by rw [List.mem_singleton.1 hj]; exact Nat.le_trans hb.out.size X3.out) B3.out.size)); clear k4 ho4 hs4; have ch := H4.out.cell hi; rw [eh] at ch))
          go_ret
          exact ⟨ret1b (by rw [HV.out]; exact (unlB_no HNO.out).symm), B4.out⟩
        | none =>
          have HUN := Lib.hid (unl_good hun.out HEK.out hok rfl hT)
          have HTB : Hid (∀ j, tb0 (es.take (k + 1)) j = if j = i then some 0 else tb0 (es.take k) j) := Lib.hid (fun j => by
            rw [take_ent HEK.out]
            unfold tb0 at hT ⊢
            exact tab_put hok rfl hT j)
          have eh := fh_none hT
          clear hbad
          go_wp2_with (first
            | (refine wpList_ldE rt_rk rfl (.tmp 15) rfl b (o + k * 2) (by first | rfl | simp [Act.eval, Act.put]) ((i : Int), y) HRG.out ?_)
            | (refine wpList_newB rt_rk rfl rfl ?_; intro w3 q3 k3 hb3 hx3; have K3 := Lib.hid k3; have B3 := Lib.hid (bel_next hb.out hb3); have H3 := Lib.hid (hh.out.step hb3); have X3 := Lib.hid hx3; clear k3 hb3 hx3)
            | (refine wpList_stB rt_rk rfl (.tmp 5) (.tmp 16) rfl q3 0 rfl [.int .i64 0, .int .i64 0] (ent ((i : Int), y)) rfl (ent_one ((i : Int), y)) rfl K3.out (by decide) ?_; intro w4 k4 ho4 hs4; have c0 := k4.cell 0; have c1 := k4.cell 1; simp only [ent, putsL, List.set_cons_zero, List.set_cons_succ, List.getElem?_cons_zero, List.getElem?_cons_succ] at c0 c1; have H4 := Lib.hid (H3.out.oth ho4 (fun hm => by have := hh.out.lt; have := X3.out; rw [List.mem_singleton] at hm; omega)); have B4 := Lib.hid (B3.out.trans (ho4.below (fun j hj => by rw [List.mem_singleton.1 hj]; exact Nat.le_trans hb.out.size X3.out) B3.out.size)); clear k4 ho4 hs4; have ch := H4.out.cell hi; rw [eh] at ch)
            | (refine wpList_stC (by kernel_rfl) rfl (.tmp 43) (.const (.bool true)) rfl x3 i (by first | rfl | simp [Act.eval, Act.put]) (.bool true) rfl rfl (fz (Fh (tb0 (es.take k)))) H4.out (by rw [fz_len]; exact hi) ?_; intro w5 k5 ho5 hs5; rw [fz_set] at k5; have H5 := Lib.hid k5; have B5 := Lib.hid (B4.out.trans (ho5.below (fun q hq => by rw [List.mem_singleton.1 hq]; exact X1.out) B4.out.size)); clear k5 ho5 hs5))
          go_roundw
          case rel => exact ⟨k + 1, by omega, by go_num, HUN, Lib.hid (A64.ext H5.out fun j _ => by
            unfold upF Fh
            rw [HTB.out j]
            split <;> rfl), B5⟩
          case measure => simp [intOf]; omega
    · obtain rfl : k = n := by omega
      have HU := hun.out
      rw [List.take_of_length_le (by have := HE.out.len; omega)] at HU
      have HU := Lib.hid HU
      go_wp2_with fail
      go_ret
      exact ⟨ret1b (by rw [HV.out]; exact (unlB_yes HU.out).symm), hb.out⟩
end Go.Proofs.Ytocbdgkehgmahaa
