/- Layer 15's reference: a half's pass onto the other one, Pass, Passes. Conditions: the slices' cells are readable, lengths are at most a million, the key has sixteen bytes. -/
import Derived.Test.YtfipdaekfdbaeaaGreatFsP
import Derived.Test.YtfipdaekfdbaeaaGreatHvE
import Derived.Test.YtfipdaekfdbaeaaGreatRefAesAll
import Derived.Test.YtfipdaekfdbaeaaGreatAesInvW
import Derived.Test.YtfipdaekfdbaeaaGreatIntM
namespace Go.Proofs.YtfipdaekfdbaeaaGreat
open Go.RowKit
set_option linter.unusedVariables false
set_option linter.unusedSimpArgs false
theorem onto_cases (E : List UInt8 → List UInt8) (f t : List UInt8) (z p : Int) (left : Bool) : (∃ V, ontoR E f t z p left = (V, 0)) ∨ ontoR E f t z p left = ([], 11) := by
  unfold ontoR
  split
  · exact .inl ⟨_, rfl⟩
  · exact .inr rfl
theorem enc_E {key : List UInt8} (hk : key.length = 16) : ∀ b : List UInt8, b.length = 16 → (encL key tableL b).length = 16 := fun b hb => encL_len key tableL b hk hb
theorem xorL_pre {a s : List UInt8} {k : Nat} {x y : UInt8} (ha : a[k]? = some x) (hs : s[k]? = some y) : (xorL a s).take (k + 1) = (xorL a s).take k ++ [x ^^^ y] := take_snoc (by
  unfold xorL
  rw [List.getElem?_zipWith, ha, hs])
attribute [local irreducible] foursL pairsL cutR trimL joinL blockL joinR trimR blockR maskB edgeN szI szN encL tableL xorL addL passP passesP mixL ontoR passR passesR atP

set_option maxRecDepth 100000 in
set_option maxHeartbeats 2000000 in
theorem renc_any (K A : Option Addr) (ck c0 : Nat) (key b : List UInt8) (w : World) (hk : RB w w.heap.size K 16 key) (hck : 16 ≤ ck) (hb : RB w w.heap.size A 16 b) :
    Calls Tryz.prog 44 #[.slice K 16 ck, .slice A 16 c0] w (RetB 16 (encL key tableL b) w) := by
  have HK := Lib.hid hk
  have HC := Lib.hid hck
  have HB := Lib.hid hb
  clear hk hck hb
  go_enter Tryz.func44, Tryz.ntmps44
  go_wp2_with fail
  refine (table_any _).mono ?_
  rintro e w1 ⟨AT, cT, rfl, ho1, hb1⟩
  have HO1 := Lib.hid ho1
  have HB1 := Lib.hid hb1
  clear ho1 hb1
  go_wp2_with fail
  refine (with_any A K AT c0 ck cT key tableL b _ (by exact HK.out.step HB1.out) HC.out (by exact HB.out.step HB1.out) (by exact HO1.out.rb)).mono ?_
  rintro e w2 ⟨A2, c2, rfl, ho2, hb2⟩
  have HO2 := Lib.hid ho2
  have HB2 := Lib.hid hb2
  clear ho2 hb2
  go_wp2_with fail
  go_ret
  exact ⟨A2, c2, rfl, HO2.out.base_le HB1.out.size, HB1.out.trans (HB2.out.mono HB1.out.size)⟩

set_option maxRecDepth 100000 in
set_option maxHeartbeats 4000000 in
theorem ronto_any (K A B : Option Addr) (ck n c m d : Nat) (key f t : List UInt8) (z p : Int) (left : Bool) (w : World) (hk : RB w w.heap.size K 16 key) (hck : 16 ≤ ck) (h : RB w w.heap.size A n f) (k : RB w w.heap.size B m t) (hn : n ≤ 1000000) (hm : m ≤ 1000000) :
    Calls Tryz.prog 84 #[.slice K 16 ck, .slice A n c, .slice B m d, .int .i64 z, .int .i64 p, .bool left] w (RetBE (ontoR (encL key tableL) f t z p left).1.length (ontoR (encL key tableL) f t z p left).1 (ontoR (encL key tableL) f t z p left).2 w) := by
  have HL := Lib.hid h.len
  have HM := Lib.hid k.len
  have HK := Lib.hid hk
  have HCK := Lib.hid hck
  have HT := Lib.hid k
  have HBK := Lib.hid (rblock_any A n c f z p w h hn)
  cases hv : (fitB z n && decide (0 ≤ p ∧ p ≤ 255))
  · have HB : Hid (blockR f z p = ([], 11)) := Lib.hid (blockR_no (by rw [HL.out]; exact hv))
    have HE : Hid (ontoR (encL key tableL) f t z p left = ([], 11)) := Lib.hid (onto_no (by
      rw [HL.out]
      unfold okP
      revert hv
      cases fitB z n <;> cases decide (0 ≤ p ∧ p ≤ 255) <;> simp))
    rw [HB.out] at HBK
    clear h k hk hck hv HB
    go_enter Tryz.func84, Tryz.ntmps84
    go_wp2_with fail
    refine HBK.out.mono ?_
    rintro e w1 ⟨A1, c1, rfl, ho, hb⟩
    have B1 := Lib.hid hb
    clear ho hb
    go_wp2_with fail
    go_ret2
    rw [HE.out]
    exact ⟨none, 0, rfl, OwnB.nil_ _ _, B1.out⟩
  · have hfit : fitB z n = true := by revert hv; cases fitB z n <;> simp
    have hpp : 0 ≤ p ∧ p ≤ 255 := by rw [hfit, Bool.true_and] at hv; exact of_decide_eq_true hv
    obtain ⟨N, rfl, h2, h28, en⟩ := fitB_nat hfit
    obtain ⟨P, rfl⟩ : ∃ P : Nat, p = (P : Int) := ⟨p.toNat, by omega⟩
    have hP : P ≤ 255 := by omega
    have HB := Lib.hid (block_ok f N P h2 h28 (by rw [HL.out]; exact en) hP)
    have hn14 : n ≤ 14 := by have := szN_le N h28; omega
    have HBL : Hid ((blockL f N P).length = 16) := Lib.hid (block_len f N P (by rw [HL.out]; exact hn14))
    rw [HB.out] at HBK
    dsimp only at HBK
    rw [HBL.out] at HBK
    clear hv hfit hpp HB
    by_cases hl : m = n
    · subst hl
      have HE := Lib.hid (onto_ok (encL key tableL) f t N P left h2 h28 (by rw [HL.out]; exact en) (by rw [HM.out]; exact en) hP)
      have hne : ((m : Int) != (m : Int)) = false := bne_self_eq_false _
      obtain ⟨V, HV⟩ : ∃ V, Hid (V = blockL f N P) := ⟨_, Lib.hid rfl⟩
      rw [← HV.out] at HBK HBL
      obtain ⟨S, HS⟩ : ∃ S, Hid (S = encL key tableL V) := ⟨_, Lib.hid rfl⟩
      have HSL : Hid (S.length = 16) := Lib.hid (by rw [HS.out]; exact encL_len key tableL V hk.len HBL.out)
      obtain ⟨X, HX⟩ : ∃ X, Hid (X = xorL t S) := ⟨_, Lib.hid rfl⟩
      have HXL : Hid (X.length = m) := Lib.hid (by rw [HX.out, xor_len2 (by rw [HM.out, HSL.out]; omega), HM.out])
      have HTR := Lib.hid (trim_ok X N left h2 h28 (by rw [HXL.out]; exact en))
      have HAD : Hid (trimL X N left = addL (encL key tableL) f t N P left) := Lib.hid (by
        rw [HX.out, HS.out, HV.out]; unfold addL; rfl)
      rw [HAD.out] at HTR
      have HAL : Hid ((addL (encL key tableL) f t N P left).length = m) := Lib.hid (by rw [← HAD.out, trim_len]; exact HXL.out)
      clear h k hk hck en HAD
      go_enter Tryz.func84, Tryz.ntmps84
      go_wp2_with fail
      refine HBK.out.mono ?_
      rintro e w1 ⟨A1, c1, rfl, ho, hb⟩
      have O1 := Lib.hid ho
      have B1 := Lib.hid hb
      clear ho hb HBK
      go_wp2_with fail
      refine (renc_any K A1 ck c1 key V _ (by exact HK.out.step B1.out) HCK.out (by exact O1.out.rb)).mono ?_
      rw [← HS.out]
      rintro e w2 ⟨A2, c2, rfl, ho, hb⟩
      have B2 := Lib.hid (bel_next B1.out hb)
      have R2 := Lib.hid ho.rb
      have HT2 := Lib.hid (HT.out.step B2.out)
      clear ho hb O1
      go_wp2_with fail
      go_loopw [17, 18] (fun v i wr => ∃ (j c3 : Nat) (A3 : Option Addr), j ≤ m ∧ v = .slice A3 j c3 ∧ i = .int .i64 j ∧ Hid (OwnB wr w2.heap.size A3 j c3 (X.take j)) ∧ Hid (Below w2.heap.size w2 wr)) (fun _ i _ => m - (intOf i).toNat)
      case atStart => exact ⟨0, 0, some ⟨w2.heap.size, 0, none⟩, Nat.zero_le _, rfl, rfl, Lib.hid (by rw [List.take_zero]; exact OwnB.lit w2 _ [] #[] 0 rfl rfl (by unfold maxLen; omega) (Nat.le_refl _)), Lib.hid (below_alloc _ _)⟩
      case round =>
        obtain ⟨j, c3, A3, hj, rfl, rfl, ho, hb⟩ := hrel
        by_cases hlt : j < m
        · have HT3 := Lib.hid (HT2.out.step hb.out)
          have R3 := Lib.hid (R2.out.step hb.out)
          have hc16 : j < 16 := by omega
          have hi16 : (j : Int) < 16 := by omega
          obtain ⟨g, q, rfl, hg, x, hx, hc⟩ := HT3.out.at_ hlt
          obtain ⟨g2, q2, rfl, hg2, y, hy, hc2⟩ := R3.out.at_ hc16
          have HN : Hid (X.take (j + 1) = X.take j ++ [x ^^^ y]) := Lib.hid (by rw [HX.out]; exact xorL_pre hx hy)
          have hxy := xor_byte x y
          obtain ⟨v, HV2⟩ : ∃ v, Hid (v = x ^^^ y) := ⟨_, Lib.hid rfl⟩
          rw [← HV2.out] at hxy HN
          have hsz := hb.out.size
          clear hx hy hg hg2
          go_wp2
          go_region_law (refine step_app rfl (.tmp 45) (.tmp 55) rfl w2.heap.size _ _ _ _ rfl (ho.out.alloc _).drew (wr.heap.size + 1) (some ⟨wr.heap.size, 0, none⟩) 1 1 [v] rfl (RB.new wr [v] _ _ (by rfl)).drew (by omega) (by simp; omega) ?_; intro A4 c4 w4 ho4 _ hb4)
          all_goals
            go_wp2
            go_roundw
            case rel => exact ⟨j + 1, c4, A4, by omega, rfl, by go_num, Lib.hid (by rw [HN.out]; exact ho4), Lib.hid ((hb.out.alloc hsz _).drew.trans hb4)⟩
            case measure => simp [intOf]; omega
        · obtain rfl : j = m := by omega
          rw [List.take_of_length_le (by rw [HXL.out]; exact Nat.le_refl _)] at ho
          have HQ := Lib.hid (rtrim_any A3 j c3 X (N : Int) left wr ho.out.rb (by omega))
          rw [HTR.out] at HQ
          dsimp only at HQ
          rw [HAL.out] at HQ
          have B4 := Lib.hid (bel_next B2.out hb.out)
          go_wp2_with fail
          refine HQ.out.mono ?_
          rintro e w5 ⟨A5, c5, rfl, ho5, hb5⟩
          have K5 := Lib.hid (And.intro (ho5.base_le B4.out.size) (bel_next B4.out hb5))
          clear ho5 hb5
          go_wp2_with fail
          go_ret2
          rw [HE.out]
          dsimp only
          rw [HAL.out]
          exact ⟨A5, c5, rfl, K5.out.1, K5.out.2⟩
    · have HE : Hid (ontoR (encL key tableL) f t (N : Int) (P : Int) left = ([], 11)) := Lib.hid (onto_no (by
        rw [HL.out, HM.out, decide_eq_false hl]; simp))
      have hne : ((m : Int) != (n : Int)) = true := by rw [bne_iff_ne]; omega
      obtain ⟨V, HV⟩ : ∃ V, Hid (V = blockL f N P) := ⟨_, Lib.hid rfl⟩
      rw [← HV.out] at HBK
      clear h k hk hck en
      go_enter Tryz.func84, Tryz.ntmps84
      go_wp2_with fail
      refine HBK.out.mono ?_
      rintro e w1 ⟨A1, c1, rfl, ho, hb⟩
      have B1 := Lib.hid hb
      clear ho hb HBK
      go_wp2_with fail
      go_ret2
      rw [HE.out]
      exact ⟨none, 0, rfl, OwnB.nil_ _ _, B1.out⟩
end Go.Proofs.YtfipdaekfdbaeaaGreat
