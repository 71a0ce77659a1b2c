/- AesKeys' walk: the first round key is the key, and each word but each fourth's first is the one four ahead added to the one ahead. No condition. -/
import Derived.Test.YtbpbpkmjkbndbaaAesAlive
namespace Go.Proofs.Ytbpbpkmjkbndbaa
open Go.RowKit
set_option linter.unusedVariables false
attribute [local irreducible] wsW keyUpTo keyF lastW turn0 encUp decUp encL decL

theorem keyF_zero (key t : List UInt8) (hk : key.length = 16) : keyF key t 0 = key := by
  have h := keyUpTo_cut16 key t hk 0 4 (by omega) (by omega)
  have h2 := keyUpTo_first key t hk
  rw [← h2] at h
  rw [← h]
  unfold cutL layL
  rw [Nat.mul_zero, List.drop_zero, List.take_zero, List.nil_append, List.take_left' hk]
/-- The bytes of round key i. -/
def kB (key : List UInt8) (i j : Nat) : UInt8 := (keyF key tableL i).getD j 0
theorem kB_at (key : List UInt8) (hk : key.length = 16) (i j : Nat) (hi : i < 11) (hj : j < 16) : (keyF key tableL i)[j]? = some (kB key i j) := by
  have h := keyF_len key tableL hk i hi
  simp [kB, List.getD, h, hj]
theorem kB_word (key : List UInt8) (hk : key.length = 16) (i c r : Nat) (hi : i < 11) (hc : c < 4) (hr : r < 4) : (wsW key tableL (4 * i + c)).getD r 0 = kB key i (4 * c + r) := by
  rw [← keyF_cut key tableL hk i c hi hc, List.getD_eq_getElem?_getD, cutL_at _ _ _ _ hr, ← List.getD_eq_getElem?_getD]
  rfl
theorem xor_getD (a b : List UInt8) (r : Nat) (ha : a.length = 4) (hb : b.length = 4) (hr : r < 4) : (xorL a b).getD r 0 = a.getD r 0 ^^^ b.getD r 0 := by
  obtain ⟨a0, a1, a2, a3, rfl⟩ := list4 a ha
  obtain ⟨b0, b1, b2, b3, rfl⟩ := list4 b hb
  rcases (show r = 0 ∨ r = 1 ∨ r = 2 ∨ r = 3 by omega) with rfl | rfl | rfl | rfl <;> rfl
theorem kB_next (key : List UInt8) (hk : key.length = 16) (p j : Nat) (hp : p < 10) (h4 : 4 ≤ j) (hj : j < 16) : kB key (p + 1) j = kB key p j ^^^ kB key (p + 1) (j - 4) := by
  have hc : 1 ≤ j / 4 ∧ j / 4 < 4 := by omega
  have h := wsW_next key tableL (4 * p + j / 4) (by omega)
  rw [show 4 * p + j / 4 + 4 = 4 * (p + 1) + j / 4 by omega] at h
  unfold turnW at h
  rw [if_neg (by omega), show 4 * p + j / 4 + 3 = 4 * (p + 1) + (j / 4 - 1) by omega] at h
  have e1 := kB_word key hk (p + 1) (j / 4) (j % 4) (by omega) hc.2 (by omega)
  have e2 := kB_word key hk p (j / 4) (j % 4) (by omega) hc.2 (by omega)
  have e3 := kB_word key hk (p + 1) (j / 4 - 1) (j % 4) (by omega) (by omega) (by omega)
  rw [show 4 * (j / 4) + j % 4 = j by omega] at e1 e2
  rw [show 4 * (j / 4 - 1) + j % 4 = j - 4 by omega] at e3
  rw [← e1, ← e2, ← e3, h, xor_getD _ _ _ (wsW_len key tableL hk _ (by omega)) (wsW_len key tableL hk _ (by omega)) (by omega)]
theorem byte_inc' (x : UInt8) : IntKind.u8.wrap ((x.toNat : Int) + 1) = ((x + 1).toNat : Int) := by
  rw [IntKind.wrap_u8, UInt8.toNat_add]
  have := x.toNat_lt
  simp
theorem byte_not (x : UInt8) : (((x.toNat : Nat) : Int) != (((x + 1).toNat : Nat) : Int)) = true := by
  have h : x.toNat ≠ (x + 1).toNat := by
    rw [UInt8.toNat_add]
    have := x.toNat_lt
    simp
    omega
  simp only [bne_iff_ne, ne_eq]
  omega
/-- Round key q behind p rounds of the statement's loop. -/
def nowK (key : List UInt8) (p q : Nat) : List UInt8 := if 1 ≤ q ∧ q ≤ p then (keyF key tableL q).set 0 (kB key q 0 + 1) else keyF key tableL q
theorem nowK_at (key : List UInt8) (hk : key.length = 16) (p q j : Nat) (hq : q < 11) (hj : j < 16) (h : 1 ≤ j ∨ p < q ∨ q = 0) : (nowK key p q)[j]? = some (kB key q j) := by
  unfold nowK
  split
  · rw [List.getElem?_set, if_neg (by omega)]
    exact kB_at key hk q j hq hj
  · exact kB_at key hk q j hq hj
theorem nowK_next (key : List UInt8) (p : Nat) : nowK key (p + 1) (p + 1) = (nowK key p (p + 1)).set 0 (kB key (p + 1) 0 + 1) := by
  unfold nowK
  rw [if_pos (by omega), if_neg (by omega)]
theorem nowK_other (key : List UInt8) (p q : Nat) (h : q ≠ p + 1) : nowK key (p + 1) q = nowK key p q := by
  unfold nowK
  by_cases h1 : 1 ≤ q ∧ q ≤ p
  · rw [if_pos h1, if_pos (by omega)]
  · rw [if_neg h1, if_neg (by omega)]
theorem OwnB.otherCell {w : World} {base n c : Nat} {A : Option Addr} {l : List UInt8} (h : OwnB w base A n c l) (g k : Nat) (v : Value) (ha : Away A g) : OwnB (w.setCell ⟨g, k, none⟩ v) base A n c l := by
  refine ⟨h.1, ?_⟩
  rcases h.2 with h0 | ⟨g2, cap, cur, hv, hb, hh, r⟩
  · exact .inl h0
  · refine .inr ⟨g2, cap, cur, hv, hb, ?_, r⟩
    injection hv with hA
    rw [Below.heap_setCell w ⟨g, k, none⟩ v g2 (ha g2 0 hA)]
    exact hh
set_option maxRecDepth 100000 in
set_option maxHeartbeats 4000000 in
theorem AesKeys_in (A0 : Option Addr) (c0 : Nat) (l0 : List UInt8) (w : World) (h0 : RB w w.heap.size A0 16 l0) (m0 : 16 ≤ c0 ∧ c0 ≤ maxLen) :
    Calls Try.prog 6 #[.slice A0 16 c0] w fun e w' => e = .returned (.bool true) ∧ Below w.heap.size w w' := by
  have HL := Lib.hid h0.len
  have H0 := Lib.hid h0
  have M0 := Lib.hid m0
  have hp : ∀ (g : Nat) (W : World), (binOp .eql 25 (.pointer (some ⟨g, 0, none⟩)) (.pointer none)).run Try.prog W = .ok (.bool false) W := fun _ _ => by kernel_rfl
  clear h0 m0
  go_enter Try.func6, Try.ntmps6
  go_wp2_with fail
  refine (alive_any _).mono ?_
  rintro e w1 ⟨rfl, hb1⟩
  have HB1 := Lib.hid hb1
  clear hb1
  go_wp2_with fail
  refine (anew_any c0 A0 l0 _ (by exact (H0.out.below HB1.out).more HB1.out.size) M0.out.1).mono ?_
  rintro e w2 ⟨cb, b, lo, rfl, hb2, _, _, hob⟩
  have HB2 : Hid (Below w.heap.size w w2) := Lib.hid (bel_next HB1.out hb2)
  have HO := Lib.hid hob
  clear hb2 hob
  go_wp2_with fail
  refine (keysr_any cb b lo 0 l0 _ (by exact HO.out)).mono ?_
  rintro e w3 ⟨A3, c3, vs, rb, cp, rfl, hown, hrows, hb3⟩
  obtain ⟨gA, rfl, hgA1, hgA2⟩ : ∃ g, A3 = some ⟨g, 0, none⟩ ∧ w2.heap.size ≤ g ∧ g < w3.heap.size := by
    rcases hown.2 with ⟨_, h0⟩ | ⟨g, cap, cur, hv, hbg, hh, _⟩
    · omega
    · injection hv with hA
      exact ⟨g, hA, hbg, (Array.getElem?_eq_some_iff.1 hh).1⟩
  have hcells : ∀ q, q < 11 → w3.cell? ⟨gA, q, none⟩ = some (.slice (some ⟨rb q, 0, none⟩) 16 (cp q)) := fun q hq => by
    rw [World.ownsRow.cellAt hown q (by omega)]
    exact (hrows.row q hq).1
  have hne : ∀ q, q < 11 → rb q ≠ gA := fun q hq e => by
    have h1 := (hrows.row q hq).2.cellAt (kB_at l0 HL.out q 0 hq (by omega))
    rw [e, hcells 0 (by omega)] at h1
    injection h1 with h1
    cases h1
  have hinj : ∀ q r, q < 11 → r < 11 → q ≠ r → rb q ≠ rb r := fun q r hq hr hqr => by
    rcases Nat.lt_or_ge q r with h | h
    · have := hrows.lt q r h hr; omega
    · have := hrows.lt r q (by omega) hq; omega
  have hrow3 : ∀ q, q < 11 → OwnB w3 w2.heap.size (some ⟨rb q, 0, none⟩) 16 (cp q) (nowK l0 0 q) := fun q hq => by
    unfold nowK
    rw [if_neg (by omega)]
    exact (hrows.row q hq).2
  have hrbb : ∀ q, q < 11 → w2.heap.size ≤ rb q := fun q hq => (hrows.row q hq).2.blk.1
  have HCELL := Lib.hid hcells
  have HNE := Lib.hid hne
  have HINJ := Lib.hid hinj
  have HROW3 := Lib.hid hrow3
  have HRBB := Lib.hid hrbb
  have HB3 := Lib.hid hb3
  have HGA := Lib.hid (And.intro hgA1 hgA2)
  have ck0 := hcells 0 (by omega)
  clear hown hrows hb3 hgA1 hgA2 hcells hne hinj hrow3 hrbb
  go_wp2_with fail
  refine (al_same (some ⟨rb 0, 0, none⟩) A0 16 (cp 0) 16 c0 l0 l0 _ (by exact (by have := (HROW3.out 0 (by omega)).rb; unfold nowK at this; rw [if_neg (by omega), keyF_zero l0 tableL HL.out] at this; exact this)) (by exact (H0.out.below (bel_next HB2.out HB3.out)).more (bel_next HB2.out HB3.out).size) (by unfold maxLen; omega) (by unfold maxLen; omega) true (by simp)).mono ?_
  rintro e w4 ⟨rfl, hb4⟩
  have HC4 : Hid (∀ q, q < 11 → w4.cell? ⟨gA, q, none⟩ = some (.slice (some ⟨rb q, 0, none⟩) 16 (cp q))) := Lib.hid (fun q hq => (hb4.cell (p := ⟨gA, q, none⟩) HGA.out.2).trans (HCELL.out q hq))
  have HR4 : Hid (∀ q, q < 11 → OwnB w4 w2.heap.size (some ⟨rb q, 0, none⟩) 16 (cp q) (nowK l0 0 q)) := Lib.hid (fun q hq => (HROW3.out q hq).below hb4)
  have HB4 : Hid (Below w2.heap.size w2 w4) := Lib.hid (bel_next HB3.out hb4)
  clear hb4 ck0 HCELL HROW3 HB3
  go_wp2_with fail
  go_loopw [6] (fun i wr => ∃ p : Nat, p ≤ 10 ∧ i = .int .i64 ((p : Int) + 1) ∧ Hid (Below w2.heap.size w2 wr) ∧ Hid (∀ q, q < 11 → wr.cell? ⟨gA, q, none⟩ = some (.slice (some ⟨rb q, 0, none⟩) 16 (cp q))) ∧ Hid (∀ q, q < 11 → OwnB wr w2.heap.size (some ⟨rb q, 0, none⟩) 16 (cp q) (nowK l0 p q))) (fun i _ => 11 - (intOf i).toNat)
  case atStart => exact ⟨0, by omega, rfl, HB4, HC4, HR4⟩
  case round =>
    obtain ⟨p, hpp, rfl, hb, hc, hr⟩ := hrel
    clear HB4 HC4 HR4
    by_cases hlt : p < 10
    · have hcp := hc.out p (by omega)
      have hcp1 := hc.out (p + 1) (by omega)
      have hq1 : (0 : Int) ≤ (p : Int) + 1 := by omega
      have hq2 : (p : Int) + 1 < 11 := by omega
      have hdd : decide ((p : Int) + 1 < 11) = true := decide_eq_true hq2
      go_wp2_with fail
      go_loopw [7] (fun i ws => ∃ (m q : Nat), m ≤ 12 ∧ i = .int .i64 ((m : Int) + 4) ∧ ws = wr.drewN q) (fun i _ => 16 - (intOf i).toNat)
      case atStart => exact ⟨0, 0, by omega, rfl, rfl⟩
      case round =>
        obtain ⟨m, q, hm, rfl, rfl⟩ := hrel
        have r0 := hr.out p (by omega)
        have r1 := hr.out (p + 1) (by omega)
        by_cases hlt2 : m < 12
        · obtain ⟨x, HX⟩ : ∃ x, Hid (x = kB l0 (p + 1) (m + 4)) := ⟨_, Lib.hid rfl⟩
          obtain ⟨y, HY⟩ : ∃ x, Hid (x = kB l0 p (m + 4)) := ⟨_, Lib.hid rfl⟩
          obtain ⟨z, HZ⟩ : ∃ x, Hid (x = kB l0 (p + 1) m) := ⟨_, Lib.hid rfl⟩
          have HE : Hid (y ^^^ z = x) := Lib.hid (by
            have := kB_next l0 HL.out p (m + 4) hlt (by omega) (by omega)
            rw [show m + 4 - 4 = m by omega] at this
            rw [HX.out, HY.out, HZ.out, this])
          have hxy := xor_byte y z
          rw [HE.out] at hxy
          have d1 : wr.cell? ⟨gA, p, none⟩ = some (.slice (some ⟨rb p, 0, none⟩) 16 (cp p)) := hcp
          have d2 : wr.cell? ⟨gA, p + 1, none⟩ = some (.slice (some ⟨rb (p + 1), 0, none⟩) 16 (cp (p + 1))) := hcp1
          have d3 : wr.cell? ⟨rb (p + 1), m + 4, none⟩ = some (.int .u8 (x.toNat : Int)) := by rw [HX.out]; exact r1.cellAt (nowK_at l0 HL.out p (p + 1) (m + 4) (by omega) (by omega) (by omega))
          have d4 : wr.cell? ⟨rb p, m + 4, none⟩ = some (.int .u8 (y.toNat : Int)) := by rw [HY.out]; exact r0.cellAt (nowK_at l0 HL.out p p (m + 4) (by omega) (by omega) (by omega))
          have d5 : wr.cell? ⟨rb (p + 1), m, none⟩ = some (.int .u8 (z.toNat : Int)) := by rw [HZ.out]; exact r1.cellAt (nowK_at l0 HL.out p (p + 1) m (by omega) (by omega) (by omega))
          have b1 : (0 : Int) ≤ (p : Int) := by omega
          have b2 : (p : Int) < 11 := by omega
          have b3 : (0 : Int) ≤ (m : Int) + 4 := by omega
          have b4 : (m : Int) + 4 < 16 := by omega
          have b5 : (0 : Int) ≤ (m : Int) := by omega
          have b6 : (m : Int) < 16 := by omega
          have b7 : IntKind.i64.wrap (p : Int) = (p : Int) := IntWalk.i64_in _ (by omega)
          have b8 : IntKind.i64.wrap (m : Int) = (m : Int) := IntWalk.i64_in _ (by omega)
          clear r0 r1 hcp hcp1
          go_wp2_with fail
          go_quiet (fail)
          go_wp2_with fail
          go_roundw
          case rel => exact ⟨m + 1, _, by omega, by go_num, rfl⟩
          case measure => simp [intOf]; omega
        · obtain rfl : m = 12 := by omega
          have d2 : wr.cell? ⟨gA, p + 1, none⟩ = some (.slice (some ⟨rb (p + 1), 0, none⟩) 16 (cp (p + 1))) := hcp1
          obtain ⟨x, HX⟩ : ∃ x, Hid (x = kB l0 (p + 1) 0) := ⟨_, Lib.hid rfl⟩
          have d3 : wr.cell? ⟨rb (p + 1), 0, none⟩ = some (.int .u8 (x.toNat : Int)) := by rw [HX.out]; exact r1.cellAt (nowK_at l0 HL.out p (p + 1) 0 (by omega) (by omega) (by omega))
          have d4 : wr.frozen? ⟨rb (p + 1), 0, none⟩ = false := r1.freeAt 0
          have hinc := byte_inc' x
          have HR1 := Lib.hid r1
          clear r0 r1 hcp hcp1
          go_wp2_with fail
          go_roundw
          case rel =>
            have hset : OwnB (wr.drewN q) w2.heap.size (some ⟨rb (p + 1), 0, none⟩) 16 (cp (p + 1)) (nowK l0 p (p + 1)) := HR1.out
            refine ⟨p + 1, by omega, by go_num, Lib.hid ((below_drewN hb.out q).setCell (HRBB.out (p + 1) (by omega)) _), Lib.hid (fun r hr' => ?_), Lib.hid (fun r hr' => ?_)⟩
            · rw [World.cell?_setCell_other _ _ _ _ (by intro e; injection e with e1 _; exact HNE.out (p + 1) (by omega) e1)]
              exact hc.out r hr'
            · by_cases e : r = p + 1
              · subst e
                rw [nowK_next, ← HX.out]
                exact hset.stored 0 (x + 1) _ rfl
              · rw [nowK_other l0 p r e]
                have hbase : OwnB (wr.drewN q) w2.heap.size (some ⟨rb r, 0, none⟩) 16 (cp r) (nowK l0 p r) := hr.out r hr'
                exact hbase.otherCell _ _ _ (fun g o eA => by
                  injection eA with eA
                  injection eA with e1 _
                  rw [← e1]
                  exact HINJ.out r (p + 1) hr' (by omega) e)
          case measure => simp [intOf]; omega
    · obtain rfl : p = 10 := by omega
      go_wp2_with fail
      refine (keysr_any cb b lo 0 l0 _ (by exact HO.out.below hb.out)).mono ?_
      rintro e w5 ⟨A5, c5, vs5, rb5, cp5, rfl, hown5, hrows5, hb5⟩
      obtain ⟨g5, rfl, hg51, hg52⟩ : ∃ g, A5 = some ⟨g, 0, none⟩ ∧ wr.heap.size ≤ g ∧ g < w5.heap.size := by
        rcases hown5.2 with ⟨_, h0⟩ | ⟨g, cap, cur, hv, hbg, hh, _⟩
        · omega
        · injection hv with hA
          exact ⟨g, hA, hbg, (Array.getElem?_eq_some_iff.1 hh).1⟩
      have d1 : w5.cell? ⟨g5, 1, none⟩ = some (.slice (some ⟨rb5 1, 0, none⟩) 16 (cp5 1)) := by
        rw [World.ownsRow.cellAt hown5 1 (by omega)]
        exact (hrows5.row 1 (by omega)).1
      obtain ⟨x, HX⟩ : ∃ x, Hid (x = kB l0 1 0) := ⟨_, Lib.hid rfl⟩
      have d2 : w5.cell? ⟨rb5 1, 0, none⟩ = some (.int .u8 (x.toNat : Int)) := by rw [HX.out]; exact (hrows5.row 1 (by omega)).2.cellAt (kB_at l0 HL.out 1 0 (by omega) (by omega))
      have d3 : w5.cell? ⟨gA, 1, none⟩ = some (.slice (some ⟨rb 1, 0, none⟩) 16 (cp 1)) := by
        have := hc.out 1 (by omega)
        exact (hb5.cell (p := ⟨gA, 1, none⟩) (World.block_lt_of_cell? wr _ this)).trans this
      obtain ⟨y, HY⟩ : ∃ y, Hid (y = x + 1) := ⟨_, Lib.hid rfl⟩
      have d4 : w5.cell? ⟨rb 1, 0, none⟩ = some (.int .u8 (y.toNat : Int)) := by
        have h1 := (hr.out 1 (by omega)).below hb5
        have h2 : (nowK l0 10 1)[0]? = some y := by
          unfold nowK
          rw [if_pos (by omega), List.getElem?_set, if_pos rfl, if_pos (by rw [keyF_len l0 tableL HL.out 1 (by omega)]; omega), HY.out, HX.out]
        exact h1.cellAt h2
      have hnot : ((x.toNat : Int) != (y.toNat : Int)) = true := by rw [HY.out]; exact byte_not x
      have HBE : Hid (Below w.heap.size w w5) := Lib.hid ((HB2.out.trans (hb.out.mono HB2.out.size)).trans (hb5.mono (Nat.le_trans HB2.out.size hb.out.size)))
      clear hown5 hrows5 hb5 hg51 hg52
      go_wp2_with fail
      go_quiet (fail)
      go_wp2_with fail
      go_ret
      exact ⟨rfl, below_drewN HBE.out _⟩
theorem AesKeys_walk (A0 : Option Addr) (n0 c0 : Nat) (l0 : List UInt8) (w : World) (h0 : RB w w.heap.size A0 n0 l0) (m0 : n0 ≤ c0 ∧ c0 ≤ maxLen) :
    Calls Try.prog 6 #[.slice A0 n0 c0] w fun e w' => e = .returned (.bool true) ∧ Below w.heap.size w w' := by
  by_cases h16 : n0 = 16
  · subst h16
    exact AesKeys_in A0 c0 l0 w h0 m0
  · have hd : ((n0 : Int) == 16) = false := by rw [beq_eq_false_iff_ne]; omega
    have hd2 : ((n0 : Int) != 16) = true := by simp [bne, hd]
    clear h0 m0
    go_enter Try.func6, Try.ntmps6
    go_wp2_with fail
    refine (alive_any _).mono ?_
    rintro e w1 ⟨rfl, hb1⟩
    have HB1 := Lib.hid hb1
    clear hb1
    go_wp2_with fail
    refine (anew_bad n0 c0 A0 _ h16).mono ?_
    rintro e w2 ⟨rfl, rfl⟩
    go_wp2_with fail
    go_ret
    exact ⟨rfl, HB1.out⟩
end Go.Proofs.Ytbpbpkmjkbndbaa
