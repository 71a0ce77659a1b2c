/- AesBlocks' walk: New, Encrypt and Keys answer as the references do. No condition. -/
import Derived.Test.YtbpbpkmjkbndbaaAesAlive
import Derived.Test.YtbpbpkmjkbndbaaRefAesBlock
import Derived.Test.YtbpbpkmjkbndbaaUseRows
namespace Go.Proofs.Ytbpbpkmjkbndbaa
open Go.RowKit
set_option linter.unusedVariables false
attribute [local irreducible] wsW keyUpTo keyF lastW turn0 encUp decUp encL decL

theorem byte_inc (x : UInt8) : IntKind.u8.wrap ((x.toNat : Int) + 1) = ((x + 1).toNat : Int) := by
  rw [IntKind.wrap_u8, UInt8.toNat_add]
  have := x.toNat_lt
  simp
set_option maxRecDepth 100000 in
set_option maxHeartbeats 4000000 in
theorem AesBlocks_walk (A0 : Option Addr) (n0 c0 : Nat) (l0 : List UInt8) (A1 : Option Addr) (n1 c1 : Nat) (l1 : List UInt8) (w : World) (h0 : RB w w.heap.size A0 n0 l0) (m0 : n0 ≤ c0 ∧ c0 ≤ maxLen) (h1 : RB w w.heap.size A1 n1 l1) (m1 : n1 ≤ c1 ∧ c1 ≤ maxLen) :
    Calls Try.prog 3 #[.slice A0 n0 c0, .slice A1 n1 c1] w fun e w' => e = .returned (.bool true) ∧ Below w.heap.size w w' := by
  have H0 := Lib.hid h0
  have H1 := Lib.hid h1
  have M0 := Lib.hid m0
  have M1 := Lib.hid m1
  clear h0 h1 m0 m1
  by_cases hb : 100 < n0 ∨ 100 < n1
  · by_cases hb0 : 100 < n0
    · have hd : decide ((100 : Int) < (n0 : Int)) = true := decide_eq_true (by omega)
      go_enter Try.func3, Try.ntmps3
      go_wp2_with fail
      refine (alive_any _).mono ?_
      rintro e w1 ⟨rfl, hb1⟩
      go_wp2_with fail
      go_ret
      exact ⟨rfl, hb1⟩
    · have hd : decide ((100 : Int) < (n0 : Int)) = false := decide_eq_false (by omega)
      have hd1 : decide ((100 : Int) < (n1 : Int)) = true := decide_eq_true (by omega)
      go_enter Try.func3, Try.ntmps3
      go_wp2_with fail
      refine (alive_any _).mono ?_
      rintro e w1 ⟨rfl, hb1⟩
      go_wp2_with fail
      go_ret
      exact ⟨rfl, hb1⟩
  · have hb0 : ¬ 100 < n0 := fun h => hb (.inl h)
    have hb1 : ¬ 100 < n1 := fun h => hb (.inr h)
    clear hb
    have hp : ∀ (g : Nat) (W : World), (binOp .eql 25 (.pointer (some ⟨g, 0, none⟩)) (.pointer none)).run Try.prog W = .ok (.bool false) W := fun _ _ => by kernel_rfl
    by_cases h16 : n0 = 16
    · subst h16
      go_enter Try.func3, Try.ntmps3
      go_wp2_with fail
      refine (alive_any _).mono ?_
      rintro e w1 ⟨rfl, hb1⟩
      have HB1 := Lib.hid hb1
      clear hb1
      go_wp2_with fail
      refine (copy_any A0 16 c0 w1.heap.size l0 _ (by exact (H0.out.below HB1.out).more HB1.out.size) (by omega)).mono ?_
      rintro e w2 ⟨A2, c2, rfl, ho2, hb2⟩
      obtain ⟨g, rfl, hg1, hg2⟩ := ho2.form (by omega)
      have HO2 := Lib.hid ho2
      have HB2 : Hid (Below w.heap.size w w2) := Lib.hid (bel_next HB1.out hb2)
      have HG : Hid (w.heap.size ≤ g ∧ g < w2.heap.size) := Lib.hid ⟨Nat.le_trans HB1.out.size hg1, hg2⟩
      have HC2 := Lib.hid ho2.cap
      clear ho2 hb2 hg1 hg2
      go_wp2_with fail
      refine (anew_any c2 (some ⟨g, 0, none⟩) l0 _ (by exact HO2.out.rb) HC2.out.1).mono ?_
      rintro e w3 ⟨cb, b, lo, rfl, hb3, hcb, hbl, hob⟩
      have HB3 := Lib.hid hb3
      have HCB := Lib.hid hcb
      have HBL := Lib.hid hbl
      have HO := Lib.hid hob
      have HO3 : Hid (OwnB w3 w1.heap.size (some ⟨g, 0, none⟩) 16 c2 l0) := Lib.hid (HO2.out.below hb3)
      clear hb3 hcb hbl hob
      go_wp2_with fail
      go_loopw [8] (fun i wr => ∃ (k : Nat) (lk : List UInt8), k ≤ 16 ∧ i = .int .i64 k ∧ Hid (OwnB wr w1.heap.size (some ⟨g, 0, none⟩) 16 c2 lk) ∧ Hid (But g w3 wr)) (fun i _ => 16 - (intOf i).toNat)
      case atStart => exact ⟨0, l0, by omega, rfl, HO3, Lib.hid (But.refl g w3)⟩
      case round =>
        obtain ⟨k, lk, hk, rfl, ho, hbu⟩ := hrel
        clear HO3
        by_cases hlt : k < 16
        · obtain ⟨x, hx⟩ := getX lk 16 k ho.out.len hlt
          have cx := ho.out.cellAt hx
          have fx := ho.out.freeAt k
          have hinc := byte_inc x
          go_wp2_with fail
          go_roundw
          case rel => exact ⟨k + 1, lk.set k (x + 1), by omega, by go_num, Lib.hid (ho.out.stored k (x + 1) _ rfl), Lib.hid (hbu.out.self k _)⟩
          case measure => simp [intOf]; omega
        · obtain rfl : k = 16 := by omega
          have HOB : Hid (Ob cb b lo l0 0 wr) := Lib.hid (HO.out.under hbu.out (Nat.lt_of_lt_of_le HG.out.2 HBL.out.2) (Nat.lt_of_lt_of_le HG.out.2 HCB.out))
          have HBW3 : Hid (Below w.heap.size w w3) := Lib.hid (bel_next HB2.out (HB3.out))
          have HBW : Hid (Below w.heap.size w wr) := Lib.hid (HBW3.out.trans (hbu.out.below HG.out.1 (Nat.lt_of_lt_of_le HG.out.2 HB3.out.size)))
          have HWB : Hid (w.heap.size ≤ cb) := Lib.hid (Nat.le_trans HB2.out.size HCB.out)
          have HCR : Hid (cb < wr.heap.size) := Lib.hid HOB.out.lt
          clear ho hbu HO HB3 HBW3 HO2 HCB HBL HG HB2 HB1
          go_wp2_with fail
          refine (table_any _).mono ?_
          rintro e w4 ⟨A4, c4, rfl, ho4, hb4⟩
          have HO4 := Lib.hid ho4
          have HB4 : Hid (Below w.heap.size w w4) := Lib.hid (bel_next HBW.out hb4)
          have HOB4 : Hid (Ob cb b lo l0 0 w4) := Lib.hid (HOB.out.below hb4)
          clear ho4 hb4 HOB HBW
          go_wp2_with fail
          refine (keysr_any cb b lo 0 l0 _ (by exact HOB4.out)).mono ?_
          rintro e w5 hk5
          obtain ⟨A5, c5, rfl, ho5, hb5⟩ := keys_rows hk5
          have HO5 := Lib.hid ho5
          have HB5 := Lib.hid hb5
          clear hk5 ho5 hb5
          go_wp2_with fail
          have HB5W : Hid (Below w.heap.size w w5) := Lib.hid (bel_next HB4.out HB5.out)
          refine (keys_any A0 A4 c0 c4 l0 tableL _ (by exact (H0.out.below HB5W.out).more HB5W.out.size) M0.out.1 (by exact (HO4.out.rb.below HB5.out).more HB5.out.size)).mono ?_
          rintro e w6 ⟨A6, c6, rfl, ho6, hb6⟩
          have HO6 := Lib.hid ho6
          have HB6 := Lib.hid hb6
          clear ho6 hb6
          have hkl : (keysL l0 tableL).length = 11 := keysL_len _ _
          rw [hkl]
          have HP : Hid (∀ p ∈ keysL l0 tableL, p.length ≤ maxLen) := Lib.hid (fun p hp => by
            obtain ⟨i, hi, rfl⟩ := List.mem_map.1 hp
            rw [keyF_len l0 tableL H0.out.len i (List.mem_range.1 hi)]; unfold maxLen; omega)
          have HR6 : Hid (RR w6 w6.heap.size A6 11 (keysL l0 tableL)) := Lib.hid (by have := HO6.out.rr; rw [hkl] at this; exact this)
          go_wp2_with fail
          refine (rows_same A5 A6 11 c5 11 c6 _ _ (keysL l0 tableL) (keysL l0 tableL) _ (by exact (HO5.out.below HB6.out).rr) (by exact HR6.out) (by unfold maxLen; omega) (by unfold maxLen; omega) HP.out HP.out).mono ?_
          rintro e w7 ⟨rfl, q, rfl⟩
          have hee : (keysL l0 tableL == keysL l0 tableL) = true := by simp
          rw [hee]
          have HB7 : Hid (Below w4.heap.size w4 (w6.drewN q)) := Lib.hid (below_drewN (bel_next HB5.out HB6.out) q)
          obtain ⟨w7, HW7⟩ : ∃ w7, Hid (w7 = w6.drewN q) := ⟨_, Lib.hid rfl⟩
          rw [← HW7.out] at HB7 ⊢
          have HB7W : Hid (Below w.heap.size w w7) := Lib.hid (bel_next HB4.out HB7.out)
          clear HO5 HO6 HB5 HB6 HB5W HR6 HP hkl hee
          go_wp2_with fail
          refine (copy_any A1 n1 c1 w7.heap.size l1 _ (by exact (H1.out.below HB7W.out).more HB7W.out.size) (by omega)).mono ?_
          rintro e w8 ⟨A8, c8, rfl, ho8, hb8⟩
          have HO8 := Lib.hid ho8
          have HB8 : Hid (Below w4.heap.size w4 w8) := Lib.hid (bel_next HB7.out hb8)
          have HB8W : Hid (Below w.heap.size w w8) := Lib.hid (bel_next HB4.out HB8.out)
          have HOB8 : Hid (Ob cb b lo l0 0 w8) := Lib.hid (HOB4.out.below HB8.out)
          have HCW7 : Hid (cb < w7.heap.size) := Lib.hid (Nat.lt_of_lt_of_le HOB4.out.lt HB7.out.size)
          clear ho8 hb8
          by_cases h16 : n1 = 16
          · subst h16
            obtain ⟨R, HR⟩ : ∃ R, Hid (R = encL l0 tableL l1) := ⟨_, Lib.hid rfl⟩
            have HL1 := Lib.hid H1.out.len
            have HA8 : Hid (Away A8 cb) := Lib.hid (HO8.out.away HCW7.out)
            go_wp2_with fail
            refine (encrypt_any cb b lo 0 c8 l0 l1 _ _ (by exact HOB8.out) (by omega) (by exact HO8.out.rb) HO8.out.cap.1 HA8.out).mono ?_
            rw [← HR.out]
            rintro e w9 ⟨A9, c9, rfl, ho9, hb9, hob9⟩
            have HO9 := Lib.hid ho9
            have HB9 := Lib.hid hb9
            have HOB9 := Lib.hid hob9
            clear ho9 hb9 hob9
            have HS9 : Hid (w.heap.size ≤ w9.heap.size) := Lib.hid (Nat.le_trans HB8W.out.size HB9.out.size)
            have HK9 : Hid (RB w9 w9.heap.size A0 16 l0) := Lib.hid (((H0.out.below HB8W.out).over HB9.out HB8W.out.size HWB.out).more HS9.out)
            have HT9 : Hid (RB w9 w9.heap.size A1 16 l1) := Lib.hid (((H1.out.below HB8W.out).over HB9.out HB8W.out.size HWB.out).more HS9.out)
            have HX9 : Hid (RB w9 w9.heap.size A4 256 tableL) := Lib.hid (((HO4.out.rb.below HB8.out).more HB8.out.size).aside HB9.out (HO4.out.away HCR.out))
            have HY9 : Hid (RB w9 w9.heap.size A8 16 l1) := Lib.hid (HO8.out.rb.aside HB9.out HA8.out)
            go_wp2_with fail
            refine (with_any A1 A0 A4 c1 c0 c4 l0 tableL l1 _ (by exact HK9.out) M0.out.1 (by exact HT9.out) (by exact HX9.out)).mono ?_
            rw [← HR.out]
            rintro e w10 ⟨A10, c10, rfl, ho10, hb10⟩
            have HO10 := Lib.hid ho10
            have HB10 := Lib.hid hb10
            clear ho10 hb10
            go_wp2_with fail
            refine (al_same A9 A10 16 c9 16 c10 R R _ (by exact (HO9.out.rb.below HB10.out).more HB10.out.size) (by exact HO10.out.rb) (by unfold maxLen; omega) (by unfold maxLen; omega) true (by simp)).mono ?_
            rintro e w11 ⟨rfl, hb11⟩
            have HB11 : Hid (Below w9.heap.size w9 w11) := Lib.hid (bel_next HB10.out hb11)
            clear hb11
            go_wp2_with fail
            refine (al_same A8 A1 16 c8 16 c1 l1 l1 _ (by exact (HY9.out.below HB11.out).more HB11.out.size) (by exact (HT9.out.below HB11.out).more HB11.out.size) (by unfold maxLen; omega) (by unfold maxLen; omega) true (by simp)).mono ?_
            rintro e w12 ⟨rfl, hb12⟩
            have HB12 : Hid (Below w9.heap.size w9 w12) := Lib.hid (bel_next HB11.out hb12)
            clear hb12
            go_wp2_with fail
            refine (done_any cb b lo 1 l0 _ (by exact HOB9.out.below HB12.out)).mono ?_
            rintro e w13 ⟨rfl, rfl⟩
            go_wp2_with fail
            go_ret
            exact ⟨rfl, (HB8W.out.trans (HB9.out.below HWB.out HOB8.out.lt)).trans (HB12.out.mono HS9.out)⟩
          · have hd : ((n1 : Int) == 16) = false := by rw [beq_eq_false_iff_ne]; omega
            go_wp2_with fail
            refine (encrypt_bad cb n1 c8 A8 _ h16).mono ?_
            rintro e w9 ⟨rfl, rfl⟩
            go_wp2_with fail
            refine (done_any cb b lo 0 l0 _ (by exact HOB8.out)).mono ?_
            rintro e w10 ⟨rfl, rfl⟩
            go_wp2_with fail
            go_ret
            exact ⟨rfl, HB8W.out⟩
    · have hd : ((n0 : Int) == 16) = false := by rw [beq_eq_false_iff_ne]; omega
      go_enter Try.func3, Try.ntmps3
      go_wp2_with fail
      refine (alive_any _).mono ?_
      rintro e w1 ⟨rfl, hb1⟩
      have HB1 := Lib.hid hb1
      clear hb1
      go_wp2_with fail
      refine (copy_any A0 n0 c0 w1.heap.size l0 _ (by exact (H0.out.below HB1.out).more HB1.out.size) (by omega)).mono ?_
      rintro e w2 ⟨A2, c2, rfl, ho2, hb2⟩
      have HB2 : Hid (Below w.heap.size w w2) := Lib.hid (bel_next HB1.out hb2)
      clear hb2
      go_wp2_with fail
      refine (anew_bad n0 c2 A2 _ h16).mono ?_
      rintro e w3 ⟨rfl, rfl⟩
      go_wp2_with fail
      go_ret
      exact ⟨rfl, HB2.out⟩
end Go.Proofs.Ytbpbpkmjkbndbaa
