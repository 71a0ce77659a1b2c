/- Layer 14's references Cut, Trim, Block. Conditions: the slices' cells are readable, lengths are at most a million. -/
import Derived.Test.YtfipdaekfdbaeaaGreatHvB
import Derived.Test.YtfipdaekfdbaeaaGreatRec
namespace Go.Proofs.YtfipdaekfdbaeaaGreat
open Go.RowKit
set_option linter.unusedVariables false
set_option linter.unusedSimpArgs false
/-- Two new rows and an error's number. -/
def RetBBE (a b : List UInt8) (code : Int) (w : World) (e : Ending) (w' : World) : Prop :=
  ∃ A n c A' n' c', e = .returned (.tuple #[.slice A n c, .slice A' n' c', .int .i64 code]) ∧ OwnB w' w.heap.size A n c a ∧ OwnB w' w.heap.size A' n' c' b ∧ Below w.heap.size w w'
theorem OwnB.apart {w w' : World} {B base2 n c n2 c2 : Nat} {A A2 : Option Addr} {l2 : List UInt8} (h2 : OwnB w base2 A2 n2 c2 l2) (h : ∀ a, A = some a → a.block < B) (hB : B ≤ base2) (hg : w.grownBy w' (Value.ownBlock (.slice A n c))) : OwnB w' base2 A2 n2 c2 l2 :=
  h2.oth (Oth.of_grown hg) (fun g o e hm => by
    obtain ⟨a, ea, hk⟩ := mem_blkO hm
    have h3 := (h2.spot _ e).2.1
    have h4 := h a ea
    simp only at h3
    omega)
attribute [local irreducible] foursL pairsL cutR trimL joinL blockL szN

set_option maxRecDepth 100000 in
set_option maxHeartbeats 4000000 in
theorem rcut_any (A : Option Addr) (n c : Nat) (l : List UInt8) (w : World) (h : RB w w.heap.size A n l) (hm : n ≤ 1000000) :
    Calls Tryz.prog 53 #[.slice A n c] w (RetBBE (cutR l).1 (cutR l).2.1 (cutR l).2.2 w) := by
  have HL := Lib.hid h.len
  by_cases hr : 2 ≤ n ∧ n ≤ 28
  · obtain ⟨h2, h28⟩ := hr
    have d1 : decide ((n : Int) < 2) = false := decide_eq_false (by omega)
    have d2 : decide (28 < (n : Int)) = false := decide_eq_false (by omega)
    by_cases hodd : n % 2 = 1
    · have HE := Lib.hid (cut_fours l (by have := HL.out; omega) (by have := HL.out; omega))
      rw [HL.out] at HE
      have hmod : ((n : Int) % 2 == 1) = true := by first | (rw [beq_iff_eq]; omega) | (rw [beq_eq_false_iff_ne]; omega)
      have HO : Hid (n % 2 = 1) := Lib.hid (by omega)
      obtain ⟨N, hN⟩ : ∃ N, N = 2 * n := ⟨_, rfl⟩
      have HN := Lib.hid hN
      have HC := Lib.hid (rfours_any A n c l w h hm)
      rw [← hN] at HC
      clear h
      go_enter Tryz.func53, Tryz.ntmps53
      go_wp2_with fail
      refine HC.out.mono ?_
      rintro e w1 ⟨A1, c1, rfl, ho1, hb1⟩
      have hcc := ho1.cap
      have R1 := Lib.hid (ho1.rb.part (i := 0) (j := n) (c := c1) (Nat.zero_le _) (by omega) hcc.1)
      have R2 := Lib.hid (ho1.rb.part (i := n) (j := N) (c := c1) (by omega) (Nat.le_refl _) hcc.1)
      have k1 := cut_h A1 N c1 n (by omega)
      have k2 := cut_l A1 N c1 n (by omega)
      have e2 : N - n = n := by omega
      rw [e2] at k2 R2
      rw [List.drop_zero, Nat.sub_zero] at R1
      rw [List.take_of_length_le (by rw [fours_len]; have := HL.out; have := HN.out; omega)] at R2
      have B1 := Lib.hid hb1
      obtain ⟨CA, HCA⟩ : ∃ CA, Hid (CA = cutA A1 c1 0) := ⟨_, Lib.hid rfl⟩
      obtain ⟨CB, HCB⟩ : ∃ CB, Hid (CB = cutA A1 c1 n) := ⟨_, Lib.hid rfl⟩
      rw [← HCA.out] at k1 R1
      rw [← HCB.out] at k2 R2
      clear HCA HCB ho1 hb1 hcc e2 hN
      go_wp2_with (first
        | (at_builtin; refine wpList_app rfl (.tmp 19) (.tmp 22) rfl w.heap.size _ _ _ [] rfl (by exact OwnB.lit w1 _ [] #[] 0 rfl rfl (by unfold maxLen; omega) B1.out.size) _ CA n c1 ((foursL l).take n) rfl (by exact R1.out.step (below_alloc _ _)) (by omega) (by have := B1.out.size; simp; omega) ?_; intro A2 c2 w2 ho2 hg2 hb2; have B2 : Hid (Below w.heap.size w w2 ∧ Below w1.heap.size w1 w2) := Lib.hid ⟨(B1.out.trans ((below_alloc w1 _).mono B1.out.size)).trans hb2, (below_alloc w1 _).trans (Below.grown (Below.refl _ _) hg2 (by simp) (fun k hk => by simp [Value.ownBlock] at hk; omega))⟩; have O2 : Hid (OwnB w2 w.heap.size A2 n c2 ((foursL l).take n)) := Lib.hid (by simpa using ho2); have R3 := Lib.hid (R2.out.step B2.out.2); clear ho2 hg2 hb2)
        | (at_builtin; refine wpList_app rfl (.tmp 24) (.tmp 27) rfl w2.heap.size _ _ _ [] rfl (by exact OwnB.lit w2 _ [] #[] 0 rfl rfl (by unfold maxLen; omega) (Nat.le_refl _)) _ CB n (c1 - n) ((foursL l).drop n) rfl (by exact R3.out.step (below_alloc _ _)) (by omega) (by simp) ?_; intro A3 c3 w3 ho3 hg3 hb3; have B3 : Hid (Below w2.heap.size w2 w3) := Lib.hid ((below_alloc w2 _).trans hb3); have O3 : Hid (OwnB w3 w2.heap.size A3 n c3 ((foursL l).drop n)) := Lib.hid (by simpa using ho3); clear ho3 hg3 hb3)
        | (at_builtin; refine wpList_app rfl (.tmp 32) (.tmp 33) rfl w.heap.size A2 n c2 ((foursL l).take n) rfl (by exact (O2.out.below B3.out).alloc _) _ _ 1 1 [0] rfl (by exact RB.new w3 [0] _ _ rfl) (by omega) (by exact Nat.le_trans (Nat.le_trans B2.out.1.size B3.out.size) (below_alloc w3 _).size) ?_; intro A4 c4 w4 ho4 hg4 hb4; have B4 : Hid (Below w.heap.size w w4) := Lib.hid (((B2.out.1.trans (B3.out.mono B2.out.1.size)).trans ((below_alloc w3 _).mono (Nat.le_trans B2.out.1.size B3.out.size))).trans hb4); have O4 := Lib.hid ho4; have O5 : Hid (OwnB w4 w2.heap.size A3 n c3 ((foursL l).drop n)) := Lib.hid ((O3.out.alloc _).apart (fun a ea => (O2.out.spot a ea).2.2) (Nat.le_refl _) hg4); have B24 : Hid (w2.heap.size ≤ w4.heap.size) := Lib.hid (Nat.le_trans B3.out.size (Nat.le_trans (below_alloc w3 _).size hg4.size)); clear ho4 hg4 hb4)
        | (at_builtin; refine wpList_app rfl (.tmp 35) (.tmp 36) rfl w4.heap.size _ _ _ [0] rfl (by exact OwnB.lit w4 _ [0] _ 1 rfl rfl (by unfold maxLen; omega) (Nat.le_refl _)) _ A3 n c3 ((foursL l).drop n) rfl (by exact (O5.out.rb).step (below_alloc _ _)) (by omega) (by simp) ?_; intro A6 c6 w6 ho6 hg6 hb6; have B6 : Hid (Below w4.heap.size w4 w6) := Lib.hid ((below_alloc w4 _).trans hb6); have O6 := Lib.hid ho6; clear ho6 hg6 hb6)
        | fail)
      have Q1 := Lib.hid (rhvbytes_any A4 (n + 1) (szN n) c4 _ w6 ((O4.out.below B6.out).rb) (by unfold szN; have := HO.out; omega) (by omega))
      refine Q1.out.mono ?_
      rintro e w7 ⟨A7, c7, rfl, ho7, hb7⟩
      have K7 := Lib.hid (And.intro ho7 hb7)
      have Q2 := Lib.hid (rhvbytes_any A6 (1 + n) (szN n) c6 _ w7 ((O6.out.below hb7).rb) (by unfold szN; have := HO.out; omega) (by omega))
      have HB : Hid (Below w.heap.size w w6 ∧ w.heap.size ≤ w6.heap.size) := Lib.hid (And.intro (B4.out.trans (B6.out.mono B4.out.size)) (Nat.le_trans B4.out.size B6.out.size))
      clear ho7 hb7 Q1
      go_wp2_with fail
      refine Q2.out.mono ?_
      rintro e w8 ⟨A8, c8, rfl, ho8, hb8⟩
      have K8 := Lib.hid (And.intro ho8 hb8)
      clear ho8 hb8 Q2
      go_wp2_with fail
      go_ret3
      rw [HE.out]
      rw [if_pos HO.out]
      exact ⟨A7, szN n, c7, A8, szN n, c8, rfl, (K7.out.1.below K8.out.2).base_le HB.out.2, K8.out.1.base_le (Nat.le_trans HB.out.2 K7.out.2.size), HB.out.1.trans ((K7.out.2.mono HB.out.2).trans (K8.out.2.mono (Nat.le_trans HB.out.2 K7.out.2.size)))⟩
    · have HE := Lib.hid (cut_fours l (by have := HL.out; omega) (by have := HL.out; omega))
      rw [HL.out] at HE
      have hmod : ((n : Int) % 2 == 1) = false := by first | (rw [beq_iff_eq]; omega) | (rw [beq_eq_false_iff_ne]; omega)
      have HO : Hid (¬ n % 2 = 1) := Lib.hid (by omega)
      obtain ⟨N, hN⟩ : ∃ N, N = 2 * n := ⟨_, rfl⟩
      have HN := Lib.hid hN
      have HC := Lib.hid (rfours_any A n c l w h hm)
      rw [← hN] at HC
      clear h
      go_enter Tryz.func53, Tryz.ntmps53
      go_wp2_with fail
      refine HC.out.mono ?_
      rintro e w1 ⟨A1, c1, rfl, ho1, hb1⟩
      have hcc := ho1.cap
      have R1 := Lib.hid (ho1.rb.part (i := 0) (j := n) (c := c1) (Nat.zero_le _) (by omega) hcc.1)
      have R2 := Lib.hid (ho1.rb.part (i := n) (j := N) (c := c1) (by omega) (Nat.le_refl _) hcc.1)
      have k1 := cut_h A1 N c1 n (by omega)
      have k2 := cut_l A1 N c1 n (by omega)
      have e2 : N - n = n := by omega
      rw [e2] at k2 R2
      rw [List.drop_zero, Nat.sub_zero] at R1
      rw [List.take_of_length_le (by rw [fours_len]; have := HL.out; have := HN.out; omega)] at R2
      have B1 := Lib.hid hb1
      obtain ⟨CA, HCA⟩ : ∃ CA, Hid (CA = cutA A1 c1 0) := ⟨_, Lib.hid rfl⟩
      obtain ⟨CB, HCB⟩ : ∃ CB, Hid (CB = cutA A1 c1 n) := ⟨_, Lib.hid rfl⟩
      rw [← HCA.out] at k1 R1
      rw [← HCB.out] at k2 R2
      clear HCA HCB ho1 hb1 hcc e2 hN
      go_wp2_with (first
        | (at_builtin; refine wpList_app rfl (.tmp 19) (.tmp 22) rfl w.heap.size _ _ _ [] rfl (by exact OwnB.lit w1 _ [] #[] 0 rfl rfl (by unfold maxLen; omega) B1.out.size) _ CA n c1 ((foursL l).take n) rfl (by exact R1.out.step (below_alloc _ _)) (by omega) (by have := B1.out.size; simp; omega) ?_; intro A2 c2 w2 ho2 hg2 hb2; have B2 : Hid (Below w.heap.size w w2 ∧ Below w1.heap.size w1 w2) := Lib.hid ⟨(B1.out.trans ((below_alloc w1 _).mono B1.out.size)).trans hb2, (below_alloc w1 _).trans (Below.grown (Below.refl _ _) hg2 (by simp) (fun k hk => by simp [Value.ownBlock] at hk; omega))⟩; have O2 : Hid (OwnB w2 w.heap.size A2 n c2 ((foursL l).take n)) := Lib.hid (by simpa using ho2); have R3 := Lib.hid (R2.out.step B2.out.2); clear ho2 hg2 hb2)
        | (at_builtin; refine wpList_app rfl (.tmp 24) (.tmp 27) rfl w2.heap.size _ _ _ [] rfl (by exact OwnB.lit w2 _ [] #[] 0 rfl rfl (by unfold maxLen; omega) (Nat.le_refl _)) _ CB n (c1 - n) ((foursL l).drop n) rfl (by exact R3.out.step (below_alloc _ _)) (by omega) (by simp) ?_; intro A3 c3 w3 ho3 hg3 hb3; have B3 : Hid (Below w2.heap.size w2 w3) := Lib.hid ((below_alloc w2 _).trans hb3); have O3 : Hid (OwnB w3 w2.heap.size A3 n c3 ((foursL l).drop n)) := Lib.hid (by simpa using ho3); clear ho3 hg3 hb3)
        | fail)
      have Q1 := Lib.hid (rhvbytes_any A2 n (szN n) c2 _ w3 ((O2.out.below B3.out).rb) (by unfold szN; have := HO.out; omega) (by omega))
      refine Q1.out.mono ?_
      rintro e w7 ⟨A7, c7, rfl, ho7, hb7⟩
      have K7 := Lib.hid (And.intro ho7 hb7)
      have Q2 := Lib.hid (rhvbytes_any A3 n (szN n) c3 _ w7 ((O3.out.below hb7).rb) (by unfold szN; have := HO.out; omega) (by omega))
      have HB : Hid (Below w.heap.size w w3 ∧ w.heap.size ≤ w3.heap.size) := Lib.hid (And.intro (B2.out.1.trans (B3.out.mono B2.out.1.size)) (Nat.le_trans B2.out.1.size B3.out.size))
      clear ho7 hb7 Q1
      go_wp2_with fail
      refine Q2.out.mono ?_
      rintro e w8 ⟨A8, c8, rfl, ho8, hb8⟩
      have K8 := Lib.hid (And.intro ho8 hb8)
      clear ho8 hb8 Q2
      go_wp2_with fail
      go_ret3
      rw [HE.out]
      rw [if_neg HO.out, List.append_nil, List.nil_append]
      exact ⟨A7, szN n, c7, A8, szN n, c8, rfl, (K7.out.1.below K8.out.2).base_le HB.out.2, K8.out.1.base_le (Nat.le_trans HB.out.2 K7.out.2.size), HB.out.1.trans ((K7.out.2.mono HB.out.2).trans (K8.out.2.mono (Nat.le_trans HB.out.2 K7.out.2.size)))⟩
  · have HE : Hid (cutR l = ([], [], 11)) := Lib.hid (by unfold cutR; rw [if_neg (by rw [HL.out]; exact hr)])
    by_cases h2 : n < 2
    · have d1 : decide ((n : Int) < 2) = true := decide_eq_true (by omega)
      clear h hr
      go_enter Tryz.func53, Tryz.ntmps53
      go_wp2_with fail
      go_ret3
      rw [HE.out]
      exact ⟨none, 0, 0, none, 0, 0, rfl, OwnB.nil_ _ _, OwnB.nil_ _ _, Below.refl _ _⟩
    · have d1 : decide ((n : Int) < 2) = false := decide_eq_false (by omega)
      have d2 : decide (28 < (n : Int)) = true := decide_eq_true (by omega)
      clear h hr
      go_enter Tryz.func53, Tryz.ntmps53
      go_wp2_with fail
      go_ret3
      rw [HE.out]
      exact ⟨none, 0, 0, none, 0, 0, rfl, OwnB.nil_ _ _, OwnB.nil_ _ _, Below.refl _ _⟩
end Go.Proofs.YtfipdaekfdbaeaaGreat
