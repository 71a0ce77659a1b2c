/- MixParts' walk: a fold goes on where another one ends; the mix of two parts is the end of four folds. -/
import Derived.Test.YtcihincfemiioaaMixApartW
import Derived.Deep.RegionWith
namespace Go.Proofs.Ytcihincfemiioaa
open Go.RowKit
set_option linter.unusedVariables false
set_option linter.unusedSimpArgs false
set_option maxHeartbeats 1000000 in
/-- The law's own eight bytes of a length. -/
theorem sz_any (k : Nat) (w : World) (hk : k ≤ 300) : Calls Try.prog 19 #[.int .i64 (k : Int)] w (RetB 8 (size8 k) w) := by
  rw [size8_few (by omega)]
  have hcs : #[Value.int .u8 0, .int .u8 0, .int .u8 0, .int .u8 0, .int .u8 0, .int .u8 0, .int .u8 ((k : Int) / 256), .int .u8 ((k : Int) % 256)] = (bvs [0, 0, 0, 0, 0, 0, UInt8.ofNat (k / 256), UInt8.ofNat k]).toArray := by
    have e1 : (((UInt8.ofNat (k / 256)).toNat : Nat) : Int) = (k : Int) / 256 := by
      have : (UInt8.ofNat (k / 256)).toNat = k / 256 % 256 := by simp
      omega
    have e2 : (((UInt8.ofNat k).toNat : Nat) : Int) = (k : Int) % 256 := by
      have : (UInt8.ofNat k).toNat = k % 256 := by simp
      omega
    unfold bvs
    simp only [List.map_cons, List.map_nil, bv, e1, e2]
    rfl
  go_enter Try.func19, Try.ntmps19
  go_wp2
  go_ret
  exact ⟨_, _, rfl, by exact OwnB.lit w _ _ _ 8 rfl rfl (by decide) (Nat.le_refl _), below_alloc _ _⟩
/-- Folds known beside others, in worlds that only drew. -/
structure FdT (w : World) (f : Nat) (A : Option Addr) (n c v : Nat) : Prop where
  go : ∀ d : Nat, Calls Try.prog 10 #[.int .u64 (f : Int), .slice A n c] (w.drewN d) fun e w' => e = .returned (.int .u64 (v : Int)) ∧ w.drewN d = w'
theorem fdT {w : World} {f n c v : Nat} {A : Option Addr} {l : List UInt8} (hf : f < 18446744073709551616) (h : RB w w.heap.size A n l) (hm : n ≤ 300) (hv : v = foldF f l) : FdT w f A n c v :=
  ⟨fun d => by rw [hv]; exact fold_any f A n c _ l _ hf (h.drewN d) (by unfold maxLen; omega)⟩
/-- Rows known beside others. -/
structure RwT (s : Nat) (w : World) (A : Option Addr) (n c v : Nat) : Prop where
  go : Calls Try.prog 14 #[.int .u64 (s : Int), .slice A n c] w fun e w' => e = .returned (.int .u64 (v : Int)) ∧ Below w.heap.size w w'
structure EdT (f v : Nat) : Prop where
  go : ∀ w : World, Calls Try.prog 12 #[.int .u64 (f : Int)] w fun e w' => e = .returned (.int .u64 (v : Int)) ∧ w = w'
theorem edT {f v : Nat} (hf : f < 18446744073709551616) (hv : v = endF f) : EdT f v := ⟨fun w => by rw [hv]; exact end_any f w hf⟩
attribute [local irreducible] foldF size8 partF partsF endF mixF stepF belowF
set_option maxRecDepth 100000 in
set_option maxHeartbeats 2000000 in
theorem parts_in (s : Nat) (A : Option Addr) (n c k : Nat) (l : List UInt8) (w : World) (hs : s < 18446744073709551616) (h : RB w w.heap.size A n l) (hc : n ≤ c) (hn : n ≤ 300) (hk : k ≤ n) :
    Calls Try.prog 5 #[.int .u64 (s : Int), .slice A n c, .int .i64 (k : Int)] w fun e w' => e = .returned (.bool true) ∧ Below w.heap.size w w' := by
  have g1 : ¬ (k : Int) < 0 := by omega
  have g2 : ¬ (n : Int) < (k : Int) := by omega
  have hll := h.len
  have hst := start64 hs
  have hq1 := cut_h A n c k (by omega)
  have hq2 := cut_l A n c k hk
  have L1 : (l.take k).length = k := by rw [List.length_take]; omega
  have L2 : (l.drop k).length = n - k := by rw [List.length_drop]; omega
  have hp1 := h.part (Nat.zero_le k) hk hc
  have hp2 := h.part hk (Nat.le_refl _) hc
  rw [Nat.sub_zero, List.drop_zero] at hp1
  rw [List.take_of_length_le (by omega)] at hp2
  obtain ⟨P, HP⟩ : ∃ P, Hid (P = l.take k) := ⟨_, Lib.hid rfl⟩
  obtain ⟨Q, HQ⟩ : ∃ Q, Hid (Q = l.drop k) := ⟨_, Lib.hid rfl⟩
  have HPQ : Hid (P ++ Q = l) := Lib.hid (by rw [HP.out, HQ.out, List.take_append_drop])
  rw [← HP.out] at hp1 L1
  rw [← HQ.out] at hp2 L2
  clear HP HQ
  obtain ⟨f, HF⟩ : ∃ f, Hid (f = 14695981039346656037 ^^^ s) := ⟨_, Lib.hid rfl⟩
  obtain ⟨y, HY⟩ : ∃ y, Hid (y = foldF s P) := ⟨_, Lib.hid rfl⟩
  obtain ⟨z, HZ⟩ : ∃ z, Hid (z = foldF s l) := ⟨_, Lib.hid rfl⟩
  obtain ⟨a1, H1⟩ : ∃ a, Hid (a = foldF f (size8 k)) := ⟨_, Lib.hid rfl⟩
  obtain ⟨a2, H2⟩ : ∃ a, Hid (a = foldF a1 P) := ⟨_, Lib.hid rfl⟩
  obtain ⟨a3, H3⟩ : ∃ a, Hid (a = foldF a2 (size8 (n - k))) := ⟨_, Lib.hid rfl⟩
  obtain ⟨a4, H4⟩ : ∃ a, Hid (a = foldF a3 Q) := ⟨_, Lib.hid rfl⟩
  obtain ⟨z1, HE1⟩ : ∃ z, Hid (z = endF a4) := ⟨_, Lib.hid rfl⟩
  obtain ⟨z2, HE2⟩ : ∃ z, Hid (z = endF f) := ⟨_, Lib.hid rfl⟩
  have hf : f < 18446744073709551616 := by rw [HF.out]; exact seed_lt hs
  have hy : y < 18446744073709551616 := by rw [HY.out]; exact fold_lt hs
  have b1 : a1 < 18446744073709551616 := by rw [H1.out]; exact fold_lt hf
  have b2 : a2 < 18446744073709551616 := by rw [H2.out]; exact fold_lt b1
  have b3 : a3 < 18446744073709551616 := by rw [H3.out]; exact fold_lt b2
  have b4 : a4 < 18446744073709551616 := by rw [H4.out]; exact fold_lt b3
  have HZ2 : Hid (z = foldF y Q) := Lib.hid (by rw [HZ.out, HY.out, ← HPQ.out, fold_app])
  have HM1 : Hid (z1 = mixF s [P, Q]) := Lib.hid (by rw [mix_two, L1, L2, ← HF.out, ← H1.out, ← H2.out, ← H3.out, ← H4.out, HE1.out])
  have HM2 : Hid (z2 = mixF s []) := Lib.hid (by rw [mix_none, ← HF.out, HE2.out])
  have ED1 := edT b4 HE1.out
  have ED2 := edT hf HE2.out
  rw [← HF.out] at hst
  have HPA := Lib.hid hp1
  have HQA := Lib.hid hp2
  have HL := Lib.hid (And.intro L1 L2)
  have HH := Lib.hid h
  clear L1 L2 hp1 hp2 h hll
  go_enter Try.func5, Try.ntmps5
  go_wp2_with fail
  refine (alive_any _).mono ?_
  rintro e w1 ⟨rfl, hb1⟩
  have T1 : FdT w1 s A n c z := fdT hs (HH.out.step hb1) hn HZ.out
  have T2 : FdT w1 s (cutA A c 0) k c y := fdT hs (HPA.out.step hb1) (by omega) HY.out
  have T3 : FdT w1 y (cutA A c k) (n - k) (c - k) z := fdT hy (HQA.out.step hb1) (by omega) HZ2.out
  go_wp2_with fail
  go_quiet ((go_at_call 10; exact quiet_left (FdT.go (by first | exact T1 | exact T2 | exact T3) _)))
  clear T1 T2 T3
  have HB1 : Below w.heap.size w (w1.drewN nq) := below_drewN hb1 _
  clear hb1
  generalize w1.drewN nq = w2 at HB1 ⊢
  have HB1 := Lib.hid HB1
  go_wp2_with fail
  refine (sz_any k _ (by omega)).mono ?_
  rintro e w3 ⟨B1, d1, rfl, ho, hb⟩
  have HB3 := Lib.hid (bel_next HB1.out hb)
  have HO := Lib.hid ho.rb
  clear hb ho
  go_wp2_with fail
  refine (fold_any f B1 8 d1 _ (size8 k) _ hf (by exact HO.out) (by unfold maxLen; omega)).mono ?_
  rw [← H1.out]
  rintro e w4 ⟨rfl, rfl⟩
  clear HO
  go_wp2_with fail
  refine (fold_any a1 (cutA A c 0) k c _ P _ b1 (by exact HPA.out.step HB3.out) (by unfold maxLen; omega)).mono ?_
  rw [← H2.out]
  rintro e w4 ⟨rfl, rfl⟩
  have hsub : wrap64 ((n : Int) - (k : Int)) = ((n - k : Nat) : Int) := by rw [IntWalk.wrap64_in _ (by omega)]; omega
  have hsub2 : (n : Int) - (k : Int) = ((n - k : Nat) : Int) := by omega
  go_wp2_with fail
  refine (sz_any (n - k) _ (by omega)).mono ?_
  rintro e w4 ⟨B2, d2, rfl, ho, hb⟩
  have HB4 := Lib.hid (bel_next HB3.out hb)
  have HO := Lib.hid ho.rb
  clear hb ho
  go_wp2_with fail
  refine (fold_any a2 B2 8 d2 _ (size8 (n - k)) _ b2 (by exact HO.out) (by unfold maxLen; omega)).mono ?_
  rw [← H3.out]
  rintro e w5 ⟨rfl, rfl⟩
  clear HO
  go_wp2_with fail
  refine (fold_any a3 (cutA A c k) (n - k) (c - k) _ Q _ b3 (by exact HQA.out.step HB4.out) (by unfold maxLen; omega)).mono ?_
  rw [← H4.out]
  rintro e w5 ⟨rfl, rfl⟩
  go_wp2_with fail
  have R2 : ∀ W : World, RwT s W none 0 0 z2 := fun W => ⟨by rw [HM2.out]; exact mix_any s none 0 0 [] W hs ⟨rfl, fun h => absurd h (by omega)⟩ (by decide) (by simp)⟩
  have R1 : ∀ (W : World) (A1 : Option Addr) (d : Nat), RR W W.heap.size A1 2 [P, Q] → RwT s W A1 2 d z1 := fun W A1 d hW => ⟨by
    rw [HM1.out]
    refine mix_any s A1 2 d [P, Q] W hs hW (by decide) ?_
    intro p hp
    simp only [List.mem_cons, List.not_mem_nil, or_false] at hp
    have q1 := HL.out.1
    have q2 := HL.out.2
    unfold maxLen
    rcases hp with rfl | rfl
    · omega
    · omega⟩
  have RL : RR (w4.alloc (.cells #[.slice (cutA A c 0) k c, .slice (cutA A c k) (n - k) (c - k)] 24)) (w4.alloc (.cells #[.slice (cutA A c 0) k c, .slice (cutA A c k) (n - k) (c - k)] 24)).heap.size (some ⟨w4.heap.size, 0, none⟩) 2 [P, Q] :=
    RR.lit w4 [(cutA A c 0, c, P), (cutA A c k, c - k, Q)] _ _ 2 _ (by simp only [List.map_cons, List.map_nil, HL.out.1, HL.out.2]) rfl rfl (by
      intro r hr
      simp only [List.mem_cons, List.not_mem_nil, or_false] at hr
      rcases hr with rfl | rfl
      · rw [HL.out.1]; exact HPA.out.step HB4.out
      · rw [HL.out.2]; exact HQA.out.step HB4.out)
  have RLH := Lib.hid RL
  clear RL
  go_region_with (first
    | (go_at_call 14; refine (RwT.go (by first | exact R2 _ | exact R1 _ _ _ (by exact RLH.out.drew))).mono ?_; rintro e wN ⟨rfl, hbN⟩; first | (have HB5 : Hid (Below w.heap.size w wN) := Lib.hid (bel_next HB4.out (bel_next ((below_alloc w4 _).drew) hbN))) | (have HB6 : Hid (Below w.heap.size w wN) := Lib.hid (bel_next HB5.out hbN)))
    | (go_at_call 12; refine (EdT.go (by first | exact ED1 | exact ED2) _).mono ?_; rintro e wE ⟨rfl, rfl⟩))
  go_wp2_with fail
  go_ret
  exact ⟨rfl, HB6.out⟩

set_option maxHeartbeats 1000000 in
theorem parts_out (s : Nat) (A : Option Addr) (n c : Nat) (x : Int) (w : World) (b0 : n ≤ 9223372036854775807) (hout : 300 < n ∨ x < 0 ∨ (n : Int) < x) :
    Calls Try.prog 5 #[.int .u64 (s : Int), .slice A n c, .int .i64 x] w fun e w' => e = .returned (.bool true) ∧ Below w.heap.size w w' := by
  have key : ∀ (P : Prop), (300 < n → P) → (n ≤ 300 → x < 0 → P) → (n ≤ 300 → 0 ≤ x → (n : Int) < x → P) → P := by
    intro P a b d
    rcases Nat.lt_or_ge 300 n with h | h
    · exact a h
    · rcases Int.lt_or_le x 0 with h1 | h1
      · exact b h h1
      · exact d h h1 (by omega)
  clear hout
  apply key
  · intro h
    go_enter Try.func5, Try.ntmps5
    go_wp2_with (go_at_call 7; refine (alive_any _).mono ?_; rintro e w1 ⟨rfl, hb1⟩)
    go_ret
    exact ⟨rfl, hb1⟩
  · intro h1 h2
    go_enter Try.func5, Try.ntmps5
    go_wp2_with (go_at_call 7; refine (alive_any _).mono ?_; rintro e w1 ⟨rfl, hb1⟩)
    go_ret
    exact ⟨rfl, hb1⟩
  · intro h1 h2 h3
    go_enter Try.func5, Try.ntmps5
    go_wp2_with (go_at_call 7; refine (alive_any _).mono ?_; rintro e w1 ⟨rfl, hb1⟩)
    go_ret
    exact ⟨rfl, hb1⟩
theorem MixParts_walk (x0 : Int) (A1 : Option Addr) (n1 c1 : Nat) (l1 : List UInt8) (x2 : Int) (w : World) (h0 : (Lit.int .u64 x0).wf = true) (h1 : RB w w.heap.size A1 n1 l1) (m1 : n1 ≤ c1 ∧ c1 ≤ maxLen) (h2 : (Lit.int .i64 x2).wf = true) :
    Calls Try.prog 5 #[.int .u64 x0, .slice A1 n1 c1, .int .i64 x2] w fun e w' => e = .returned (.bool true) ∧ Below w.heap.size w w' := by
  obtain ⟨s, rfl, hs⟩ := u64_nat h0
  by_cases hout : 300 < n1 ∨ x2 < 0 ∨ (n1 : Int) < x2
  · exact parts_out s A1 n1 c1 x2 w (len_max m1) hout
  · obtain ⟨k, rfl⟩ := Int.eq_ofNat_of_zero_le (show 0 ≤ x2 by omega)
    exact parts_in s A1 n1 c1 k l1 w hs h1 m1.1 (by omega) (by omega)
end Go.Proofs.Ytcihincfemiioaa
