/- The references of layer 3 (aes) for a whole block: With and Decrypt. Conditions: the slices' cells are readable, key and block of 16 bytes, With's table of 256. -/
import Derived.Test.YtbpbpkmjkbndbaaRefAesKeys
namespace Go.Proofs.Ytbpbpkmjkbndbaa
open Go.RowKit
set_option linter.unusedVariables false

theorem columns_lit (A : Option Addr) (c0 : Nat) (l : List UInt8) (F0 F1 F2 F3 : Int) (f0 f1 f2 f3 : UInt8) (h0 : (f0.toNat : Int) = F0) (h1 : (f1.toNat : Int) = F1) (h2 : (f2.toNat : Int) = F2) (h3 : (f3.toNat : Int) = F3) (w : World) (h : RB w w.heap.size A 16 l) :
    Calls Try.prog 35 #[.slice A 16 c0, .agg #[.int .u8 F0, .int .u8 F1, .int .u8 F2, .int .u8 F3]] w (RetB 16 (columnsL l [f0, f1, f2, f3]) w) := by
  subst h0; subst h1; subst h2; subst h3; exact columns_any A c0 l f0 f1 f2 f3 w h
theorem OwnB.step16 {w w' : World} {base n c : Nat} {A : Option Addr} {l : List UInt8} (h : OwnB w' w.heap.size A n c l) (hb : base ≤ w.heap.size) : OwnB w' base A n c l := h.base_le hb
/-- The key of round i, read at a later world. -/
theorem key_at {wk w : World} {base : Nat} {A : Option Addr} {c : Nat} {key t : List UInt8} (hk : key.length = 16) (h : OwnR wk base A 11 c (keysL key t)) (hb : Below wk.heap.size wk w) (i : Nat) (hi : i < 11) :
    ∃ g Ai ci, A = some ⟨g, 0, none⟩ ∧ w.cell? ⟨g, i, none⟩ = some (.slice Ai 16 ci) ∧ RB w w.heap.size Ai 16 (keyF key t i) := by
  obtain ⟨g, p, Ai, ci, e, _, hp, hc, ho⟩ := (h.below hb).at_ hi
  rw [keysL_at key t i hi] at hp
  injection hp with hp
  subst hp
  rw [keyF_len key t hk i hi] at hc ho
  exact ⟨g, Ai, ci, e, hc, ho.rb⟩

set_option maxRecDepth 100000 in
set_option maxHeartbeats 4000000 in
theorem with_any (A K T : Option Addr) (c0 ck ct : Nat) (key t b : List UInt8) (w : World) (hk : RB w w.heap.size K 16 key) (hck : 16 ≤ ck) (hb : RB w w.heap.size A 16 b) (ht : RB w w.heap.size T 256 t) :
    Calls Try.prog 18 #[.slice K 16 ck, .slice A 16 c0, .slice T 256 ct] w (RetB 16 (encL key t b) w) := by
  have hkl := hk.len
  have hbl := hb.len
  have HKL := Lib.hid hkl
  have HBL := Lib.hid hbl
  have HK := Lib.hid hk
  have HB := Lib.hid hb
  have HT := Lib.hid ht
  clear hkl hbl hk hb ht
  go_enter Try.func18, Try.ntmps18
  go_wp2_with fail
  refine (keys_any _ _ _ _ key t _ (by exact HK.out) hck (by exact HT.out)).mono ?_
  rintro e wk ⟨AK, cK, rfl, hok, hbk⟩
  rw [keysL_len] at hok
  rw [keysL_len]
  have HOK := Lib.hid hok
  have HBK := Lib.hid hbk
  have hszk := hbk.size
  obtain ⟨gk, A0, ci0, rfl, hc0, hr0⟩ := key_at HKL.out hok (Below.refl _ _) 0 (by omega)
  have HR0 := Lib.hid hr0
  clear hok hbk hr0
  go_wp2_with fail
  refine (radd_any _ _ 16 _ _ b (keyF key t 0) _ (by exact HB.out.step HBK.out) (by exact HR0.out) (by omega)).mono ?_
  rintro e w1 ⟨A1, c1, rfl, ho1, hb1⟩
  have HO1 : Hid (OwnB w1 w.heap.size A1 16 c1 (encUp key t b 0)) := Lib.hid (ho1.base_le hszk)
  have HB1 := Lib.hid hb1
  clear ho1 hb1
  go_wp2_with fail
  go_loopw [8, 9] (fun v i wr => ∃ (j c8 : Nat) (A8 : Option Addr), j ≤ 10 ∧ i = .int .i64 ((j : Int) + 1) ∧ v = .slice A8 16 c8 ∧ Hid (OwnB wr w.heap.size A8 16 c8 (encUp key t b j)) ∧ Hid (Below wk.heap.size wk wr)) (fun _ i _ => 11 - (intOf i).toNat)
  case atStart => exact ⟨0, c1, A1, by omega, rfl, rfl, HO1, HB1⟩
  case round =>
    obtain ⟨j, c8, A8, hj, rfl, rfl, ho, hb⟩ := hrel
    clear HO1 HB1
    have hszr := hb.out.size
    have hsz : w.heap.size ≤ wr.heap.size := Nat.le_trans hszk hszr
    by_cases hlt : j < 10
    · have HTB : Hid (Below w.heap.size w wr) := Lib.hid (HBK.out.trans (hb.out.mono hszk))
      go_wp2_with fail
      refine (subs_any _ T 16 _ ct (encUp key t b j) t _ (by exact ho.out.rb) (by exact HT.out.step HTB.out) (by omega)).mono ?_
      rintro e w2 ⟨A2, c2, rfl, ho2, hb2⟩
      have HO2 := Lib.hid ho2
      have HB2 := Lib.hid hb2
      clear ho2 hb2
      go_wp2_with fail
      refine (rows_lit _ _ 1 1 (subsL t (encUp key t b j)) _ rfl (by exact HO2.out.rb) (by omega)).mono ?_
      rintro e w3 ⟨A3, c3, rfl, ho3, hb3⟩
      have HO3 := Lib.hid ho3
      have HB3 := Lib.hid (HB2.out.trans (hb3.mono HB2.out.size))
      clear ho3 hb3 HO2 HB2
      obtain ⟨gk2, Ai, ci, eg, hci, hri⟩ := key_at HKL.out HOK.out (hb.out.trans (HB3.out.mono hszr)) (j + 1) (by omega)
      injection eg with eg
      injection eg with eg
      subst eg
      have HRI := Lib.hid hri
      clear hri
      by_cases hlt9 : j + 1 < 10
      · have hd : decide ((j : Int) + 1 < 10) = true := decide_eq_true (by omega)
        have HN : Hid (encUp key t b (j + 1) = xorL (columnsL (rowsL (subsL t (encUp key t b j)) 1) [2, 3, 1, 1]) (keyF key t (j + 1))) := Lib.hid (by rw [encUp, if_pos hlt9])
        have hgl : gk < w3.heap.size := World.block_lt_of_cell? w3 _ hci
        go_wp2_with fail
        refine (columns_lit _ _ (rowsL (subsL t (encUp key t b j)) 1) 2 3 1 1 2 3 1 1 rfl rfl rfl rfl _ (by exact HO3.out.rb)).mono ?_
        rintro e w4 ⟨A4, c4, rfl, ho4, hb4⟩
        have HO4 := Lib.hid ho4
        have HB4 := Lib.hid hb4
        have hci4 : w4.cell? ⟨gk, j + 1, none⟩ = some (.slice Ai 16 ci) := (hb4.cell (p := ⟨gk, j + 1, none⟩) hgl).trans hci
        clear ho4 hb4
        go_wp2_with fail
        refine (radd_any _ _ 16 _ _ (columnsL (rowsL (subsL t (encUp key t b j)) 1) [2, 3, 1, 1]) (keyF key t (j + 1)) _ (by exact HO4.out.rb) (by exact HRI.out.step HB4.out) (by omega)).mono ?_
        rintro e w5 ⟨A5, c5, rfl, ho5, hb5⟩
        have HO5 := Lib.hid ho5
        have HB5 := Lib.hid (HB4.out.trans (hb5.mono HB4.out.size))
        clear ho5 hb5
        go_wp2_with fail
        go_roundw
        case rel =>
          have hs3 := HB3.out.size
          have hs4 := HB4.out.size
          refine ⟨j + 1, c5, A5, by omega, by go_num, rfl, Lib.hid ?_, Lib.hid ((hb.out.trans (HB3.out.mono hszr)).trans (HB5.out.mono (Nat.le_trans hszr hs3)))⟩
          rw [HN.out]
          exact HO5.out.base_le (by omega)
        case measure => simp [intOf]; omega
      · have hd : decide ((j : Int) + 1 < 10) = false := decide_eq_false (by omega)
        have HN : Hid (encUp key t b (j + 1) = xorL (rowsL (subsL t (encUp key t b j)) 1) (keyF key t (j + 1))) := Lib.hid (by rw [encUp, if_neg hlt9])
        go_wp2_with fail
        refine (radd_any _ _ 16 _ _ (rowsL (subsL t (encUp key t b j)) 1) (keyF key t (j + 1)) _ (by exact HO3.out.rb) (by exact HRI.out) (by omega)).mono ?_
        rintro e w5 ⟨A5, c5, rfl, ho5, hb5⟩
        have HO5 := Lib.hid ho5
        have HB5 := Lib.hid hb5
        clear ho5 hb5
        go_wp2_with fail
        go_roundw
        case rel =>
          have hs3 := HB3.out.size
          refine ⟨j + 1, c5, A5, by omega, by go_num, rfl, Lib.hid ?_, Lib.hid ((hb.out.trans (HB3.out.mono hszr)).trans (HB5.out.mono (Nat.le_trans hszr hs3)))⟩
          rw [HN.out]
          exact HO5.out.base_le (by omega)
        case measure => simp [intOf]; omega
    · obtain rfl : 10 = j := by omega
      go_wp2_with fail
      go_ret
      exact ⟨A8, c8, rfl, ho.out, HBK.out.trans (hb.out.mono hszk)⟩

theorem decUp_step (key t u b : List UInt8) (m : Nat) (hm : m < 10) : decUp key t u b (10 - m) = subsL u (rowsL (if m + 1 < 10 then columnsL (xorL (decUp key t u b (10 - (m + 1))) (keyF key t (m + 1))) [14, 11, 13, 9] else xorL (decUp key t u b (10 - (m + 1))) (keyF key t (m + 1))) 3) := by
  obtain ⟨j, hj⟩ : ∃ j, 10 - m = j + 1 := ⟨10 - (m + 1), by omega⟩
  rw [hj, decUp, show 10 - j = m + 1 by omega, show 10 - (m + 1) = j by omega]

set_option maxRecDepth 100000 in
set_option maxHeartbeats 4000000 in
theorem rdecrypt_any (A K : Option Addr) (c0 ck : Nat) (key b : List UInt8) (w : World) (hk : RB w w.heap.size K 16 key) (hck : 16 ≤ ck) (hb : RB w w.heap.size A 16 b) :
    Calls Try.prog 20 #[.slice K 16 ck, .slice A 16 c0] w (RetB 16 (decL key tableL backL b) w) := by
  have hkl := hk.len
  have hbl := hb.len
  have HKL := Lib.hid hkl
  have HBL := Lib.hid hbl
  have HK := Lib.hid hk
  have HB := Lib.hid hb
  clear hkl hbl hk hb
  go_enter Try.func20, Try.ntmps20
  go_wp2_with fail
  refine (table_any _).mono ?_
  rintro e wt ⟨AT, cT, rfl, hot, hbt⟩
  have HOT := Lib.hid hot
  have HBT := Lib.hid hbt
  have hszt := hbt.size
  clear hot hbt
  go_wp2_with fail
  refine (keys_any _ _ _ _ key tableL _ (by exact HK.out.step HBT.out) hck (by exact HOT.out.rb)).mono ?_
  rintro e wk ⟨AK, cK, rfl, hok, hbk⟩
  rw [keysL_len] at hok
  rw [keysL_len]
  have HOK := Lib.hid hok
  have HBK := Lib.hid (HBT.out.trans (hbk.mono hszt))
  have HOTK := Lib.hid (HOT.out.below hbk)
  have hszk := HBK.out.size
  clear hok hbk HOT
  go_wp2_with fail
  go_loopw [7, 8] (fun v i wr => ∃ (m c8 : Nat) (A8 : Option Addr), m ≤ 10 ∧ i = .int .i64 (m : Int) ∧ v = .slice A8 16 c8 ∧ Hid (RB wr wr.heap.size A8 16 (decUp key tableL backL b (10 - m))) ∧ Hid (Below wk.heap.size wk wr)) (fun _ i _ => (intOf i).toNat)
  case atStart => exact ⟨10, c0, A, by omega, rfl, rfl, Lib.hid (HB.out.step HBK.out), Lib.hid (Below.refl _ _)⟩
  case round =>
    obtain ⟨m, c8, A8, hm, rfl, rfl, hr, hb⟩ := hrel
    have hszr := hb.out.size
    have hsz : w.heap.size ≤ wr.heap.size := Nat.le_trans hszk hszr
    rcases m with _ | m
    · have e0 : ((0 : Nat) : Int) = 0 := rfl
      rw [e0]
      clear e0
      obtain ⟨gk, Ai, ci, rfl, hci, hri⟩ := key_at HKL.out HOK.out hb.out 0 (by omega)
      have HRI := Lib.hid hri
      clear hri
      go_wp2_with fail
      refine (radd_any _ _ 16 _ _ (decUp key tableL backL b 10) (keyF key tableL 0) _ (by exact hr.out) (by exact HRI.out) (by omega)).mono ?_
      rintro e w5 ⟨A5, c5, rfl, ho5, hb5⟩
      have HO5 := Lib.hid ho5
      have HB5 := Lib.hid hb5
      clear ho5 hb5
      go_wp2_with fail
      go_ret
      exact ⟨A5, c5, rfl, HO5.out.base_le hsz, (HBK.out.trans (hb.out.mono hszk)).trans (HB5.out.mono hsz)⟩
    · obtain ⟨gk, Ai, ci, rfl, hci, hri⟩ := key_at HKL.out HOK.out hb.out (m + 1) (by omega)
      have HRI := Lib.hid hri
      have e1 : ((m + 1 : Nat) : Int) = (m : Int) + 1 := by omega
      rw [e1]
      clear hri e1
      obtain ⟨d, HD⟩ : ∃ d, Hid (d = decUp key tableL backL b (10 - (m + 1))) := ⟨_, Lib.hid rfl⟩
      rw [← HD.out] at hr
      have hstep := decUp_step key tableL backL b m (by omega)
      rw [← HD.out] at hstep
      have HSTEP := Lib.hid hstep
      clear hstep
      go_wp2_with fail
      refine (radd_any _ _ 16 _ _ d (keyF key tableL (m + 1)) _ (by exact hr.out) (by exact HRI.out) (by omega)).mono ?_
      rintro e w2 ⟨A2, c2, rfl, ho2, hb2⟩
      have HO2 := Lib.hid ho2
      have HB2 := Lib.hid hb2
      clear ho2 hb2
      by_cases hlt9 : m + 1 < 10
      · have hd : decide ((m : Int) + 1 < 10) = true := decide_eq_true (by omega)
        go_wp2_with fail
        refine (columns_lit _ _ (xorL d (keyF key tableL (m + 1))) 14 11 13 9 14 11 13 9 rfl rfl rfl rfl _ (by exact HO2.out.rb)).mono ?_
        rintro e w3 ⟨A3, c3, rfl, ho3, hb3⟩
        have HO3 := Lib.hid ho3
        have HB3 := Lib.hid (HB2.out.trans (hb3.mono HB2.out.size))
        clear ho3 hb3 HO2 HB2
        go_wp2_with fail
        refine (rows_lit _ _ 3 3 (columnsL (xorL d (keyF key tableL (m + 1))) [14, 11, 13, 9]) _ rfl (by exact HO3.out.rb) (by omega)).mono ?_
        rintro e w4 ⟨A4, c4, rfl, ho4, hb4⟩
        have HO4 := Lib.hid ho4
        have HB4 := Lib.hid (HB3.out.trans (hb4.mono HB3.out.size))
        clear ho4 hb4 HO3 HB3
        go_wp2_with fail
        refine (back_any _ _ _ (by exact ((HOTK.out.below hb.out).below HB4.out).rb)).mono ?_
        rintro e w5 ⟨A5, c5, rfl, ho5, hb5⟩
        have HO5 := Lib.hid ho5
        have HR4 := Lib.hid (HO4.out.rb.step hb5)
        have HB5 := Lib.hid (HB4.out.trans (hb5.mono HB4.out.size))
        clear ho5 hb5 HO4 HB4
        go_wp2_with fail
        refine (subs_any _ _ 16 _ _ (rowsL (columnsL (xorL d (keyF key tableL (m + 1))) [14, 11, 13, 9]) 3) backL _ (by exact HR4.out) (by exact HO5.out.rb) (by omega)).mono ?_
        rintro e w6 ⟨A6, c6, rfl, ho6, hb6⟩
        have HO6 := Lib.hid ho6
        have HB6 := Lib.hid (HB5.out.trans (hb6.mono HB5.out.size))
        clear ho6 hb6
        go_wp2_with fail
        go_roundw
        case rel =>
          refine ⟨m, c6, A6, by omega, by go_num, rfl, Lib.hid ?_, Lib.hid (hb.out.trans (HB6.out.mono hszr))⟩
          rw [HSTEP.out, if_pos hlt9]
          exact HO6.out.rb
        case measure => simp [intOf]
      · have hd : decide ((m : Int) + 1 < 10) = false := decide_eq_false (by omega)
        go_wp2_with fail
        refine (rows_lit _ _ 3 3 (xorL d (keyF key tableL (m + 1))) _ rfl (by exact HO2.out.rb) (by omega)).mono ?_
        rintro e w4 ⟨A4, c4, rfl, ho4, hb4⟩
        have HO4 := Lib.hid ho4
        have HB4 := Lib.hid (HB2.out.trans (hb4.mono HB2.out.size))
        clear ho4 hb4 HO2 HB2
        go_wp2_with fail
        refine (back_any _ _ _ (by exact ((HOTK.out.below hb.out).below HB4.out).rb)).mono ?_
        rintro e w5 ⟨A5, c5, rfl, ho5, hb5⟩
        have HO5 := Lib.hid ho5
        have HR4 := Lib.hid (HO4.out.rb.step hb5)
        have HB5 := Lib.hid (HB4.out.trans (hb5.mono HB4.out.size))
        clear ho5 hb5 HO4 HB4
        go_wp2_with fail
        refine (subs_any _ _ 16 _ _ (rowsL (xorL d (keyF key tableL (m + 1))) 3) backL _ (by exact HR4.out) (by exact HO5.out.rb) (by omega)).mono ?_
        rintro e w6 ⟨A6, c6, rfl, ho6, hb6⟩
        have HO6 := Lib.hid ho6
        have HB6 := Lib.hid (HB5.out.trans (hb6.mono HB5.out.size))
        clear ho6 hb6
        go_wp2_with fail
        go_roundw
        case rel =>
          refine ⟨m, c6, A6, by omega, by go_num, rfl, Lib.hid ?_, Lib.hid (hb.out.trans (HB6.out.mono hszr))⟩
          rw [HSTEP.out, if_neg hlt9]
          exact HO6.out.rb
        case measure => simp [intOf]
end Go.Proofs.Ytbpbpkmjkbndbaa
