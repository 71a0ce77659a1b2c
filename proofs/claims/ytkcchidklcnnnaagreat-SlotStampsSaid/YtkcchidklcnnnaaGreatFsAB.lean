/- Layer 15's reference: a half's pass onto the other one, Pass, Passes. Conditions: the slices' cells are readable, lengths are at most a million, the key has sixteen bytes. -/
import Derived.Test.YtkcchidklcnnnaaGreatFsP
import Derived.Test.YtkcchidklcnnnaaGreatHvU
import Derived.Test.YtkcchidklcnnnaaGreatRefAesAll
import Derived.Test.YtkcchidklcnnnaaGreatAesInvW
import Derived.Test.YtkcchidklcnnnaaGreatFsW
namespace Go.Proofs.YtkcchidklcnnnaaGreat
open Go.RowKit
set_option linter.unusedVariables false
set_option linter.unusedSimpArgs false
theorem onto_cases (E : List UInt8 → List UInt8) (f t : List UInt8) (z p : Int) (left : Bool) : (∃ V, ontoR E f t z p left = (V, 0)) ∨ ontoR E f t z p left = ([], 11) := by
  unfold ontoR
  split
  · exact .inl ⟨_, rfl⟩
  · exact .inr rfl
theorem enc_E {key : List UInt8} (hk : key.length = 16) : ∀ b : List UInt8, b.length = 16 → (encL key tableL b).length = 16 := fun b hb => encL_len key tableL b hk hb
theorem xorL_pre {a s : List UInt8} {k : Nat} {x y : UInt8} (ha : a[k]? = some x) (hs : s[k]? = some y) : (xorL a s).take (k + 1) = (xorL a s).take k ++ [x ^^^ y] := take_snoc (by
  unfold xorL
  rw [List.getElem?_zipWith, ha, hs])
attribute [local irreducible] foursL pairsL cutR trimL joinL blockL joinR trimR blockR maskB edgeN szI szN encL tableL xorL addL passP passesP mixL ontoR passR passesR atP

set_option maxRecDepth 100000 in
set_option maxHeartbeats 2000000 in
theorem renc_any (K A : Option Addr) (ck c0 : Nat) (key b : List UInt8) (w : World) (hk : RB w w.heap.size K 16 key) (hck : 16 ≤ ck) (hb : RB w w.heap.size A 16 b) :
    Calls Tryz.prog 59 #[.slice K 16 ck, .slice A 16 c0] w (RetB 16 (encL key tableL b) w) := by
  have HK := Lib.hid hk
  have HC := Lib.hid hck
  have HB := Lib.hid hb
  clear hk hck hb
  go_enter Tryz.func59, Tryz.ntmps59
  go_wp2_with fail
  refine (table_any _).mono ?_
  rintro e w1 ⟨AT, cT, rfl, ho1, hb1⟩
  have HO1 := Lib.hid ho1
  have HB1 := Lib.hid hb1
  clear ho1 hb1
  go_wp2_with fail
  refine (with_any A K AT c0 ck cT key tableL b _ (by exact HK.out.step HB1.out) HC.out (by exact HB.out.step HB1.out) (by exact HO1.out.rb)).mono ?_
  rintro e w2 ⟨A2, c2, rfl, ho2, hb2⟩
  have HO2 := Lib.hid ho2
  have HB2 := Lib.hid hb2
  clear ho2 hb2
  go_wp2_with fail
  go_ret
  exact ⟨A2, c2, rfl, HO2.out.base_le HB1.out.size, HB1.out.trans (HB2.out.mono HB1.out.size)⟩

set_option maxRecDepth 100000 in
set_option maxHeartbeats 4000000 in
theorem ronto_any (K A B : Option Addr) (ck n c m d : Nat) (key f t : List UInt8) (z p : Int) (left : Bool) (w : World) (hk : RB w w.heap.size K 16 key) (hck : 16 ≤ ck) (h : RB w w.heap.size A n f) (k : RB w w.heap.size B m t) (hn : n ≤ 1000000) (hm : m ≤ 1000000) :
    Calls Tryz.prog 99 #[.slice K 16 ck, .slice A n c, .slice B m d, .int .i64 z, .int .i64 p, .bool left] w (RetBE (ontoR (encL key tableL) f t z p left).1.length (ontoR (encL key tableL) f t z p left).1 (ontoR (encL key tableL) f t z p left).2 w) := by
  have HL := Lib.hid h.len
  have HM := Lib.hid k.len
  have HK := Lib.hid hk
  have HCK := Lib.hid hck
  have HT := Lib.hid k
  have HBK := Lib.hid (rblock_any A n c f z p w h hn)
  cases hv : (fitB z n && decide (0 ≤ p ∧ p ≤ 255))
  · have HB : Hid (blockR f z p = ([], 11)) := Lib.hid (blockR_no (by rw [HL.out]; exact hv))
    have HE : Hid (ontoR (encL key tableL) f t z p left = ([], 11)) := Lib.hid (onto_no (by
      rw [HL.out]
      unfold okP
      revert hv
      cases fitB z n <;> cases decide (0 ≤ p ∧ p ≤ 255) <;> simp))
    rw [HB.out] at HBK
    clear h k hk hck hv HB
    go_enter Tryz.func99, Tryz.ntmps99
    go_wp2_with fail
    refine HBK.out.mono ?_
    rintro e w1 ⟨A1, c1, rfl, ho, hb⟩
    have B1 := Lib.hid hb
    clear ho hb
    go_wp2_with fail
    go_ret2
    rw [HE.out]
    exact ⟨none, 0, rfl, OwnB.nil_ _ _, B1.out⟩
  · have hfit : fitB z n = true := by revert hv; cases fitB z n <;> simp
    have hpp : 0 ≤ p ∧ p ≤ 255 := by rw [hfit, Bool.true_and] at hv; exact of_decide_eq_true hv
    obtain ⟨N, rfl, h2, h28, en⟩ := fitB_nat hfit
    obtain ⟨P, rfl⟩ : ∃ P : Nat, p = (P : Int) := ⟨p.toNat, by omega⟩
    have hP : P ≤ 255 := by omega
    have HB := Lib.hid (block_ok f N P h2 h28 (by rw [HL.out]; exact en) hP)
    have hn14 : n ≤ 14 := by have := szN_le N h28; omega
    have HBL : Hid ((blockL f N P).length = 16) := Lib.hid (block_len f N P (by rw [HL.out]; exact hn14))
    rw [HB.out] at HBK
    dsimp only at HBK
    rw [HBL.out] at HBK
    clear hv hfit hpp HB
    by_cases hl : m = n
    · subst hl
      have HE := Lib.hid (onto_ok (encL key tableL) f t N P left h2 h28 (by rw [HL.out]; exact en) (by rw [HM.out]; exact en) hP)
      have hne : ((m : Int) != (m : Int)) = false := bne_self_eq_false _
      obtain ⟨V, HV⟩ : ∃ V, Hid (V = blockL f N P) := ⟨_, Lib.hid rfl⟩
      rw [← HV.out] at HBK HBL
      obtain ⟨S, HS⟩ : ∃ S, Hid (S = encL key tableL V) := ⟨_, Lib.hid rfl⟩
      have HSL : Hid (S.length = 16) := Lib.hid (by rw [HS.out]; exact encL_len key tableL V hk.len HBL.out)
      obtain ⟨X, HX⟩ : ∃ X, Hid (X = xorL t S) := ⟨_, Lib.hid rfl⟩
      have HXL : Hid (X.length = m) := Lib.hid (by rw [HX.out, xor_len2 (by rw [HM.out, HSL.out]; omega), HM.out])
      have HTR := Lib.hid (trim_ok X N left h2 h28 (by rw [HXL.out]; exact en))
      have HAD : Hid (trimL X N left = addL (encL key tableL) f t N P left) := Lib.hid (by
        rw [HX.out, HS.out, HV.out]; unfold addL; rfl)
      rw [HAD.out] at HTR
      have HAL : Hid ((addL (encL key tableL) f t N P left).length = m) := Lib.hid (by rw [← HAD.out, trim_len]; exact HXL.out)
      clear h k hk hck en HAD
      go_enter Tryz.func99, Tryz.ntmps99
      go_wp2_with fail
      refine HBK.out.mono ?_
      rintro e w1 ⟨A1, c1, rfl, ho, hb⟩
      have O1 := Lib.hid ho
      have B1 := Lib.hid hb
      clear ho hb HBK
      go_wp2_with fail
      refine (renc_any K A1 ck c1 key V _ (by exact HK.out.step B1.out) HCK.out (by exact O1.out.rb)).mono ?_
      rw [← HS.out]
      rintro e w2 ⟨A2, c2, rfl, ho, hb⟩
      have B2 := Lib.hid (bel_next B1.out hb)
      have R2 := Lib.hid ho.rb
      have HT2 := Lib.hid (HT.out.step B2.out)
      clear ho hb O1
      go_wp2_with fail
      go_loopw [17, 18] (fun v i wr => ∃ (j c3 : Nat) (A3 : Option Addr), j ≤ m ∧ v = .slice A3 j c3 ∧ i = .int .i64 j ∧ Hid (OwnB wr w2.heap.size A3 j c3 (X.take j)) ∧ Hid (Below w2.heap.size w2 wr)) (fun _ i _ => m - (intOf i).toNat)
      case atStart => exact ⟨0, 0, some ⟨w2.heap.size, 0, none⟩, Nat.zero_le _, rfl, rfl, Lib.hid (by rw [List.take_zero]; exact OwnB.lit w2 _ [] #[] 0 rfl rfl (by unfold maxLen; omega) (Nat.le_refl _)), Lib.hid (below_alloc _ _)⟩
      case round =>
        obtain ⟨j, c3, A3, hj, rfl, rfl, ho, hb⟩ := hrel
        by_cases hlt : j < m
        · have HT3 := Lib.hid (HT2.out.step hb.out)
          have R3 := Lib.hid (R2.out.step hb.out)
          have hc16 : j < 16 := by omega
          have hi16 : (j : Int) < 16 := by omega
          obtain ⟨g, q, rfl, hg, x, hx, hc⟩ := HT3.out.at_ hlt
          obtain ⟨g2, q2, rfl, hg2, y, hy, hc2⟩ := R3.out.at_ hc16
          have HN : Hid (X.take (j + 1) = X.take j ++ [x ^^^ y]) := Lib.hid (by rw [HX.out]; exact xorL_pre hx hy)
          have hxy := xor_byte x y
          obtain ⟨v, HV2⟩ : ∃ v, Hid (v = x ^^^ y) := ⟨_, Lib.hid rfl⟩
          rw [← HV2.out] at hxy HN
          have hsz := hb.out.size
          clear hx hy hg hg2
          go_wp2
          go_region_law (refine step_app rfl (.tmp 45) (.tmp 55) rfl w2.heap.size _ _ _ _ rfl (ho.out.alloc _).drew (wr.heap.size + 1) (some ⟨wr.heap.size, 0, none⟩) 1 1 [v] rfl (RB.new wr [v] _ _ (by rfl)).drew (by omega) (by simp; omega) ?_; intro A4 c4 w4 ho4 _ hb4)
          all_goals
            go_wp2
            go_roundw
            case rel => exact ⟨j + 1, c4, A4, by omega, rfl, by go_num, Lib.hid (by rw [HN.out]; exact ho4), Lib.hid ((hb.out.alloc hsz _).drew.trans hb4)⟩
            case measure => simp [intOf]; omega
        · obtain rfl : j = m := by omega
          rw [List.take_of_length_le (by rw [HXL.out]; exact Nat.le_refl _)] at ho
          have HQ := Lib.hid (rtrim_any A3 j c3 X (N : Int) left wr ho.out.rb (by omega))
          rw [HTR.out] at HQ
          dsimp only at HQ
          rw [HAL.out] at HQ
          have B4 := Lib.hid (bel_next B2.out hb.out)
          go_wp2_with fail
          refine HQ.out.mono ?_
          rintro e w5 ⟨A5, c5, rfl, ho5, hb5⟩
          have K5 := Lib.hid (And.intro (ho5.base_le B4.out.size) (bel_next B4.out hb5))
          clear ho5 hb5
          go_wp2_with fail
          go_ret2
          rw [HE.out]
          dsimp only
          rw [HAL.out]
          exact ⟨A5, c5, rfl, K5.out.1, K5.out.2⟩
    · have HE : Hid (ontoR (encL key tableL) f t (N : Int) (P : Int) left = ([], 11)) := Lib.hid (onto_no (by
        rw [HL.out, HM.out, decide_eq_false hl]; simp))
      have hne : ((m : Int) != (n : Int)) = true := by rw [bne_iff_ne]; omega
      obtain ⟨V, HV⟩ : ∃ V, Hid (V = blockL f N P) := ⟨_, Lib.hid rfl⟩
      rw [← HV.out] at HBK
      clear h k hk hck en
      go_enter Tryz.func99, Tryz.ntmps99
      go_wp2_with fail
      refine HBK.out.mono ?_
      rintro e w1 ⟨A1, c1, rfl, ho, hb⟩
      have B1 := Lib.hid hb
      clear ho hb HBK
      go_wp2_with fail
      go_ret2
      rw [HE.out]
      exact ⟨none, 0, rfl, OwnB.nil_ _ _, B1.out⟩
end Go.Proofs.YtkcchidklcnnnaaGreat

/- Layer 15's reference: Pass and Passes. Conditions: the slices' cells are readable, lengths are at most a million, the key has sixteen bytes. -/
namespace Go.Proofs.YtkcchidklcnnnaaGreat
open Go.RowKit
set_option linter.unusedVariables false
set_option linter.unusedSimpArgs false
attribute [local irreducible] foursL pairsL cutR trimL joinL blockL joinR trimR blockR maskB edgeN szI szN encL tableL xorL addL passP passesP mixL ontoR passR passesR atP

set_option maxRecDepth 100000 in
set_option maxHeartbeats 4000000 in
theorem rfpass_any (K A B : Option Addr) (ck n c m d : Nat) (key l r : List UInt8) (z p : Int) (w : World) (hk : RB w w.heap.size K 16 key) (hck : 16 ≤ ck) (h : RB w w.heap.size A n l) (k : RB w w.heap.size B m r) (hn : n ≤ 1000000) (hm : m ≤ 1000000) :
    Calls Tryz.prog 69 #[.slice K 16 ck, .slice A n c, .slice B m d, .int .i64 z, .int .i64 p] w (RetBBE (passR (encL key tableL) l r z p).1 (passR (encL key tableL) l r z p).2.1 (passR (encL key tableL) l r z p).2.2 w) := by
  have HA := Lib.hid h
  have HB := Lib.hid k
  by_cases hpar : p.tmod 2 = 0
  · have HE0 := Lib.hid (pass_even (E := encL key tableL) (l := l) (r := r) (z := z) hpar)
    have HO := Lib.hid (ronto_any K B A ck m d n c key r l z p true w hk hck k h hm hn)
    have d0 : ((p.tmod 2) == 0) = true := by rw [hpar]; rfl
    rcases onto_cases (encL key tableL) r l z p true with ⟨V, hv⟩ | hv
    · rw [hv] at HO
      have HE : Hid (passR (encL key tableL) l r z p = (V, r, 0)) := Lib.hid (by rw [HE0.out, hv]; rfl)
      dsimp only at HO
      obtain ⟨q, hq⟩ : ∃ q, V.length = q := ⟨_, rfl⟩
      rw [hq] at HO
      have HQ := Lib.hid hq
      clear h k hk hck hv HE0 hq
      go_enter Tryz.func69, Tryz.ntmps69
      go_wp2_with fail
      refine HO.out.mono ?_
      rintro e w1 ⟨A1, c1, rfl, ho, hb⟩
      have K1 := Lib.hid (And.intro ho hb)
      have HB1 := Lib.hid (HB.out.step hb)
      clear ho hb HO
      go_wp2_with (at_builtin; refine wpList_app rfl (.tmp 33) (.tmp 34) rfl w1.heap.size _ _ _ [] rfl (by exact OwnB.lit w1 _ [] #[] 0 rfl rfl (by unfold maxLen; omega) (Nat.le_refl _)) _ B m d r rfl (by exact HB1.out.step (below_alloc _ _)) (by omega) (by simp) ?_; intro A2 c2 w2 ho2 hg2 hb2; have K2 := Lib.hid (And.intro (ho2.base_le K1.out.2.size) ((below_alloc w1 _).trans hb2)); clear ho2 hg2 hb2)
      go_ret3
      rw [HE.out]
      exact ⟨A1, _, c1, A2, _, c2, rfl, K1.out.1.below K2.out.2, by simpa using K2.out.1, bel_next K1.out.2 K2.out.2⟩
    · rw [hv] at HO
      have HE : Hid (passR (encL key tableL) l r z p = ([], [], 11)) := Lib.hid (by rw [HE0.out, hv]; rfl)
      clear h k hk hck hv HE0
      go_enter Tryz.func69, Tryz.ntmps69
      go_wp2_with fail
      refine HO.out.mono ?_
      rintro e w1 ⟨A1, c1, rfl, ho, hb⟩
      have B1 := Lib.hid hb
      clear ho hb HO
      go_wp2_with fail
      go_ret3
      rw [HE.out]
      exact ⟨none, 0, 0, none, 0, 0, rfl, OwnB.nil_ _ _, OwnB.nil_ _ _, B1.out⟩
  · have HE0 := Lib.hid (pass_odd (E := encL key tableL) (l := l) (r := r) (z := z) hpar)
    have HO := Lib.hid (ronto_any K A B ck n c m d key l r z p false w hk hck h k hn hm)
    have d0 : ((p.tmod 2) == 0) = false := by rw [beq_eq_false_iff_ne]; exact hpar
    rcases onto_cases (encL key tableL) l r z p false with ⟨V, hv⟩ | hv
    · rw [hv] at HO
      have HE : Hid (passR (encL key tableL) l r z p = (l, V, 0)) := Lib.hid (by rw [HE0.out, hv]; rfl)
      dsimp only at HO
      obtain ⟨q, hq⟩ : ∃ q, V.length = q := ⟨_, rfl⟩
      rw [hq] at HO
      have HQ := Lib.hid hq
      clear h k hk hck hv HE0 hq
      go_enter Tryz.func69, Tryz.ntmps69
      go_wp2_with fail
      refine HO.out.mono ?_
      rintro e w1 ⟨A1, c1, rfl, ho, hb⟩
      have K1 := Lib.hid (And.intro ho hb)
      have HB1 := Lib.hid (HA.out.step hb)
      clear ho hb HO
      go_wp2_with (at_builtin; refine wpList_app rfl (.tmp 49) (.tmp 50) rfl w1.heap.size _ _ _ [] rfl (by exact OwnB.lit w1 _ [] #[] 0 rfl rfl (by unfold maxLen; omega) (Nat.le_refl _)) _ A n c l rfl (by exact HB1.out.step (below_alloc _ _)) (by omega) (by simp) ?_; intro A2 c2 w2 ho2 hg2 hb2; have K2 := Lib.hid (And.intro (ho2.base_le K1.out.2.size) ((below_alloc w1 _).trans hb2)); clear ho2 hg2 hb2)
      go_ret3
      rw [HE.out]
      exact ⟨A2, _, c2, A1, _, c1, rfl, by simpa using K2.out.1, K1.out.1.below K2.out.2, bel_next K1.out.2 K2.out.2⟩
    · rw [hv] at HO
      have HE : Hid (passR (encL key tableL) l r z p = ([], [], 11)) := Lib.hid (by rw [HE0.out, hv]; rfl)
      clear h k hk hck hv HE0
      go_enter Tryz.func69, Tryz.ntmps69
      go_wp2_with fail
      refine HO.out.mono ?_
      rintro e w1 ⟨A1, c1, rfl, ho, hb⟩
      have B1 := Lib.hid hb
      clear ho hb HO
      go_wp2_with fail
      go_ret3
      rw [HE.out]
      exact ⟨none, 0, 0, none, 0, 0, rfl, OwnB.nil_ _ _, OwnB.nil_ _ _, B1.out⟩

theorem all_len {o : List Int} {k : Nat} (h : (o.take k).all okP = true) (hk : o.length ≤ k) : o.all okP = true := by rwa [List.take_of_length_le hk] at h
set_option maxRecDepth 100000 in
set_option maxHeartbeats 4000000 in
theorem rfpasses_any (K A C : Option Addr) (ck n c m d : Nat) (key b : List UInt8) (o : List Int) (w : World) (hk : RB w w.heap.size K 16 key) (hck : 16 ≤ ck) (h : RB w w.heap.size A n b) (k : ZL w w.heap.size C m o) (hn : n ≤ 1000000) (hm : m ≤ 1000) :
    Calls Tryz.prog 58 #[.slice K 16 ck, .slice A n c, .slice C m d] w (RetBE (passesR (encL key tableL) b o).1.length (passesR (encL key tableL) b o).1 (passesR (encL key tableL) b o).2 w) := by
  have HK := Lib.hid hk
  have HCK := Lib.hid hck
  have HO := Lib.hid k
  have HL := Lib.hid h.len
  have HM := Lib.hid k.len
  have HEE := Lib.hid (enc_E hk.len)
  obtain ⟨E, HEN⟩ : ∃ E, Hid (E = encL key tableL) := ⟨_, Lib.hid rfl⟩
  have HPA := Lib.hid (fun (A B : Option Addr) (n c m d : Nat) (l r : List UInt8) (z p : Int) (v : World) (hv : Below w.heap.size w v) (h : RB v v.heap.size A n l) (k : RB v v.heap.size B m r) (hn : n ≤ 1000000) (hm : m ≤ 1000000) => rfpass_any K A B ck n c m d key l r z p v (HK.out.step hv) HCK.out h k hn hm)
  rw [← HEN.out] at HPA HEE ⊢
  have HC := Lib.hid (rcut_any A n c b w h hn)
  -- what Cut's answer says of the halves
  obtain ⟨u, HU⟩ : ∃ u, Hid (cutR b = u) := ⟨_, Lib.hid rfl⟩
  have HST : Hid ((u.2.2 = 0 ∧ (2 ≤ b.length ∧ b.length ≤ 28) ∧ u.1 = (atP E b o 0).1 ∧ u.2.1 = (atP E b o 0).2) ∨ (u.2.2 = 11 ∧ passesR E b o = ([], 11))) := Lib.hid (by
    by_cases hg : 2 ≤ b.length ∧ b.length ≤ 28
    · refine .inl ⟨?_, hg, ?_, ?_⟩
      · rw [← HU.out]; exact (cut_parts b hg.1 hg.2).1
      · rw [← HU.out, atP_zero]
      · rw [← HU.out, atP_zero]
    · refine .inr ⟨?_, passes_no (fun e => hg ⟨e.1, e.2.1⟩)⟩
      rw [← HU.out, cut_no hg])
  have HLN : Hid (u.1.length ≤ 1000000 ∧ u.2.1.length ≤ 1000000) := Lib.hid (by
    by_cases hg : 2 ≤ b.length ∧ b.length ≤ 28
    · have v := cut_vh b hg.1 hg.2
      have h14 := szN_le b.length hg.2
      have h1 := v.l
      have h2 := v.r
      rw [← HU.out]
      simp only at h1 h2
      rw [h1, h2]
      omega
    · rw [← HU.out, cut_no hg]; simp)
  rw [HU.out] at HC
  clear h k hk hck
  go_enter Tryz.func58, Tryz.ntmps58
  go_wp2_with fail
  refine HC.out.mono ?_
  rintro e w1 ⟨A1, n1, c1, A2, n2, c2, rfl, ho1, ho2, hb⟩
  have B1 := Lib.hid hb
  have R1 := Lib.hid ho1.rb
  have R2 := Lib.hid ho2.rb
  have N12 : Hid (n1 ≤ 1000000 ∧ n2 ≤ 1000000) := Lib.hid (by have := HLN.out; have e1 := ho1.len; have e2 := ho2.len; omega)
  clear ho1 ho2 hb HC
  obtain ⟨code, hcode⟩ : ∃ code, u.2.2 = code := ⟨_, rfl⟩
  rw [hcode] at HST ⊢
  clear hcode
  go_wp2_with fail
  go_loopw [8, 9, 10, 11] (fun v y e i wr => ∃ (j n1 c1 n2 c2 : Nat) (A1 A2 : Option Addr) (code : Int) (l r : List UInt8), j ≤ m ∧ v = .slice A1 n1 c1 ∧ y = .slice A2 n2 c2 ∧ e = .int .i64 code ∧ i = .int .i64 j ∧ Hid (RB wr wr.heap.size A1 n1 l) ∧ Hid (RB wr wr.heap.size A2 n2 r) ∧ Hid (n1 ≤ 1000000 ∧ n2 ≤ 1000000) ∧ Hid (Below w.heap.size w wr) ∧ Hid ((code = 0 ∧ (2 ≤ b.length ∧ b.length ≤ 28) ∧ l = (atP E b o j).1 ∧ r = (atP E b o j).2 ∧ (o.take j).all okP = true) ∨ (code = 11 ∧ passesR E b o = ([], 11)))) (fun _ _ _ i _ => m - (intOf i).toNat)
  case atStart => exact ⟨0, n1, c1, n2, c2, A1, A2, code, u.1, u.2.1, Nat.zero_le _, rfl, rfl, rfl, rfl, R1, R2, N12, B1, Lib.hid (by
    rcases HST.out with ⟨h1, h2, h3, h4⟩ | ⟨h1, h2⟩
    · exact .inl ⟨h1, h2, h3, h4, by rw [List.take_zero]; rfl⟩
    · exact .inr ⟨h1, h2⟩)⟩
  case round =>
    clear R1 R2 N12 B1 HST HLN HU
    obtain ⟨j, n1, c1, n2, c2, A1, A2, code, l, r, hj, rfl, rfl, rfl, rfl, r1, r2, hn12, hb, hst⟩ := hrel
    have hnn := hn12.out
    rcases hst.out with ⟨rfl, hg, hl, hr, hall⟩ | ⟨rfl, hno⟩
    · have HG := Lib.hid (And.intro hg hall)
      have HLR := Lib.hid (And.intro hl hr)
      clear hst hg hall hl hr
      by_cases hlt : j < m
      · have HO2 : Hid (ZL wr wr.heap.size C m o) := Lib.hid (HO.out.step hb.out)
        obtain ⟨g, q, rfl, hg, p, hp, hpb, hc⟩ := HO2.out.at_ hlt
        have HP := Lib.hid hp
        have HPB := Lib.hid hpb
        have HQ := Lib.hid (HPA.out A1 A2 n1 c1 n2 c2 l r (n : Int) p wr hb.out r1.out r2.out hnn.1 hnn.2)
        obtain ⟨t, HT⟩ : ∃ t, Hid (passR E l r (n : Int) p = t) := ⟨_, Lib.hid rfl⟩
        rw [HT.out] at HQ
        have HTT : Hid ((t.2.2 = 0 ∧ (2 ≤ b.length ∧ b.length ≤ 28) ∧ t.1 = (atP E b o (j + 1)).1 ∧ t.2.1 = (atP E b o (j + 1)).2 ∧ (o.take (j + 1)).all okP = true) ∨ (t.2.2 = 11 ∧ passesR E b o = ([], 11))) := Lib.hid (by
          rw [← HT.out, HLR.out.1, HLR.out.2, ← HL.out]
          cases hk : okP p
          · rw [atP_bad b o j p hk]
            refine .inr ⟨rfl, passes_no (fun e => ?_)⟩
            have := List.all_eq_true.1 e.2.2 p (List.mem_of_getElem? HP.out)
            rw [hk] at this; cases this
          · rw [atP_pass HEE.out b o j p HG.out.1.1 HG.out.1.2 HP.out hk]
            exact .inl ⟨rfl, HG.out.1, rfl, rfl, by rw [all_take HP.out, HG.out.2, hk]; rfl⟩)
        have HTL : Hid (t.1.length ≤ 1000000 ∧ t.2.1.length ≤ 1000000) := Lib.hid (by
          rcases pass_cases E l r (n : Int) p with hpe | hpe
          · rw [← HT.out, hpe]; simp
          rcases HTT.out with ⟨_, hg2, h1, h2, _⟩ | h11
          · have v := atP_vh HEE.out b o (j + 1) hg2.1 hg2.2
            have h14 := szN_le b.length hg2.2
            have e1 := v.l
            have e2 := v.r
            rw [h1, h2, e1, e2]
            omega
          · rw [HT.out] at hpe; rw [h11.1] at hpe; exact absurd hpe (by decide))
        obtain ⟨cd, hcd⟩ : ∃ cd, t.2.2 = cd := ⟨_, rfl⟩
        rw [hcd] at HTT HQ
        clear hp hpb hcd hnn
        go_wp2_with fail
        refine HQ.out.mono ?_
        rintro e w3 ⟨A3, n3, c3, A4, n4, c4, rfl, ho3, ho4, hb3⟩
        have B3 := Lib.hid (bel_next hb.out hb3)
        have N34 : Hid (n3 ≤ 1000000 ∧ n4 ≤ 1000000) := Lib.hid (by have := HTL.out; have e1 := ho3.len; have e2 := ho4.len; omega)
        have R3 := Lib.hid ho3.rb
        have R4 := Lib.hid ho4.rb
        clear ho3 ho4 hb3 HQ
        go_wp2_with fail
        go_roundw
        case rel => exact ⟨j + 1, n3, c3, n4, c4, A3, A4, cd, t.1, t.2.1, by omega, rfl, rfl, rfl, by go_num, R3, R4, N34, B3, HTT⟩
        case measure => simp [intOf]; omega
      · obtain rfl : j = m := by omega
        have hjm : decide ((j : Int) < (j : Int)) = false := decide_eq_false (by omega)
        have HJ := Lib.hid (rhjoin_any A1 A2 n1 c1 n2 c2 l r (n : Int) wr r1.out r2.out hnn.1 hnn.2)
        rw [HLR.out.1, HLR.out.2, ← HL.out, atP_join HEE.out b o j HM.out HG.out.1.1 HG.out.1.2 (all_len HG.out.2 (by rw [HM.out]; exact Nat.le_refl _)), HL.out] at HJ
        clear hlt
        go_wp2_with fail
        refine HJ.out.mono ?_
        rintro e w3 ⟨A3, c3, rfl, ho3, hb3⟩
        have K3 := Lib.hid (And.intro (ho3.base_le hb.out.size) (bel_next hb.out hb3))
        clear ho3 hb3
        go_wp2_with fail
        go_ret2
        exact ⟨A3, c3, rfl, K3.out.1, K3.out.2⟩
    · have HN := Lib.hid hno
      clear hst hno
      go_wp2_with fail
      all_goals
        go_ret2
        rw [HN.out]
        exact ⟨none, 0, rfl, OwnB.nil_ _ _, hb.out⟩
end Go.Proofs.YtkcchidklcnnnaaGreat

