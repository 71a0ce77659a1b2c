/- count's After and Next. Condition: the slices' cells are readable. -/
import Derived.Test.YtoaafjeknikniaaCountLaw
import Derived.Test.YtoaafjeknikniaaNum
import Derived.Test.YtoaafjeknikniaaJoin
namespace Go.Proofs.Ytoaafjeknikniaa
attribute [local irreducible] aftL encL tableL blksL blkL strmL putL numL
open Go.RowKit
set_option linter.unusedVariables false

/-- Two rows of bytes, joined. -/
theorem join_rows (w : World) (A1 A2 : Option Addr) (n1 n2 N c1 c2 : Nat) (l1 l2 : List UInt8) (h1 : RB w w.heap.size A1 n1 l1) (h2 : RB w w.heap.size A2 n2 l2) (hN : n1 + n2 = N) (hm : N ≤ 1000000) :
    Calls Try.prog 19 #[.slice (some ⟨w.heap.size, 0, none⟩) 2 2] (w.alloc (.cells #[.slice A1 n1 c1, .slice A2 n2 c2] 22)) (fun e w' => ∃ A c, e = .returned (.slice A N c) ∧ OwnB w' w.heap.size A N c (l1 ++ l2) ∧ Below w.heap.size w w') := by
  have e1 := h1.len
  have e2 := h2.len
  have hrr := RR.lit w [(A1, c1, l1), (A2, c2, l2)] #[.slice A1 n1 c1, .slice A2 n2 c2] 22 2 w.heap.size (by simp [e1, e2]) rfl rfl (fun r hr => by
    simp only [List.mem_cons, List.not_mem_nil, or_false] at hr
    rcases hr with rfl | rfl
    · rw [e1]; exact h1
    · rw [e2]; exact h2)
  have ht : totL [l1, l2] = N := by simp [totL, e1, e2, hN]
  refine (join_any _ 2 2 [l1, l2] _ hrr (by unfold maxLen; omega) (by rw [ht]; omega)).mono ?_
  rintro e w' ⟨A, c, rfl, ho, hb⟩
  rw [ht] at ho ⊢
  rw [show [l1, l2].flatten = l1 ++ l2 by simp] at ho
  exact ⟨A, c, rfl, ho.base_le (by simp), (below_alloc w _).trans (hb.mono (by simp))⟩

set_option maxRecDepth 100000 in
set_option maxHeartbeats 2000000 in
theorem after_bad (A : Option Addr) (n c k : Nat) (w : World) (hn : n ≠ 16) :
    Calls Try.prog 10 #[.slice A n c, .int .u64 (k : Int)] w fun e w' => e = .returned (.tuple #[.slice none 0 0, .int .i64 11]) ∧ w = w' := by
  have hd : ((n : Int) == 16) = false := by rw [beq_eq_false_iff_ne]; omega
  have hd2 : ((n : Int) != 16) = true := by simp [bne, hd]
  go_enter Try.func10, Try.ntmps10
  go_wp2_with fail
  go_ret2
  exact ⟨rfl, rfl⟩
theorem aftL_eq (l : List UInt8) (k V : Nat) (h : V = aftN l k) : l.take 12 ++ putL V 4 = aftL l k := by
  subst h
  unfold aftL
  rfl
theorem downL_four (V : Nat) (h : V < 2 ^ 32) : downL V 4 = 0 := by
  rw [downL_pow]
  exact Nat.div_eq_of_lt (by omega)
set_option maxRecDepth 100000 in
set_option maxHeartbeats 2000000 in
theorem after_any (A : Option Addr) (c0 : Nat) (l : List UInt8) (k : Nat) (w : World) (h : RB w w.heap.size A 16 l) (hc : 16 ≤ c0) (hk : k < 2 ^ 64) :
    Calls Try.prog 10 #[.slice A 16 c0, .int .u64 (k : Int)] w (RetBE 16 (aftL l k) 0 w) := by
  have hl := h.len
  have HR := Lib.hid h
  obtain ⟨q, HQ⟩ : ∃ q, Hid (q = numL (l.drop 12) ∧ q < 2 ^ 32) := ⟨_, Lib.hid ⟨rfl, by have := numL_lt 4 (l.drop 12) (by rw [List.length_drop]; omega); omega⟩⟩
  obtain ⟨k', HK⟩ : ∃ k', Hid (k' = k % 2 ^ 32 ∧ k' < 2 ^ 32) := ⟨_, Lib.hid ⟨rfl, Nat.mod_lt _ (by omega)⟩⟩
  obtain ⟨V, HV⟩ : ∃ V, Hid (V = (q + k') % 2 ^ 32 ∧ V < 2 ^ 32) := ⟨_, Lib.hid ⟨rfl, Nat.mod_lt _ (by omega)⟩⟩
  have HVA : Hid (l.take 12 ++ putL V 4 = aftL l k) := Lib.hid (aftL_eq l k V (by
    rw [HV.out.1, HK.out.1, HQ.out.1]
    unfold aftN
    omega))
  have q1 : ∀ W : World, (Instr.slice 22 (.slice A 16 c0) (some (.int .i64 12)) none none).run Try.prog W = .ok (.slice (cutA A c0 12) 4 (c0 - 12)) W := cut_l A 16 c0 12 (by omega)
  have q2 : ∀ W : World, (Instr.slice 22 (.slice A 16 c0) none (some (.int .i64 12)) none).run Try.prog W = .ok (.slice (cutA A c0 0) 12 c0) W := cut_h A 16 c0 12 (by omega)
  have HN : Hid (Calls Try.prog 17 #[.slice (cutA A c0 12) 4 (c0 - 12)] w fun e w' => e = .returned (.tuple #[.int .u64 (q : Int), .int .i64 0]) ∧ w = w') := Lib.hid (by
    have hp := h.part (i := 12) (j := 16) (c := c0) (by omega) (by omega) hc
    rw [List.take_of_length_le (by omega)] at hp
    rw [HQ.out.1]
    exact num_few _ 4 _ _ _ w hp (by omega))
  have HP : Hid (∀ v, Calls Try.prog 18 #[.int .u64 (V : Int), .int .i64 4] v (RetBE 4 (putL V 4) 0 v)) := Lib.hid (fun v => (put_ok V 4 v (by have := HV.out.2; omega) (by omega)).mono fun e w' k => by
    rcases k with ⟨_, k⟩ | ⟨k, _⟩
    · exact k
    · exact absurd (downL_four V HV.out.2) k)
  have HF : Hid (RB w w.heap.size (cutA A c0 0) 12 (l.take 12)) := Lib.hid (h.part (i := 0) (j := 12) (c := c0) (by omega) (by omega) hc)
  have hq32 : q < 4294967296 := HQ.out.2
  have hk32 : k' < 4294967296 := HK.out.2
  have hV32 : V < 4294967296 := HV.out.2
  have r0 : (q : Int) % 4294967296 = (q : Int) := by omega
  have r1 : (k : Int) % 4294967296 = (k' : Int) := by have := HK.out.1; omega
  have r2 : ((q : Int) + (k' : Int)) % 4294967296 = (V : Int) := by have := HV.out.1; omega
  clear h hl
  go_enter Try.func10, Try.ntmps10
  go_wp2_with fail
  refine HN.out.mono ?_
  rintro e w1 ⟨rfl, rfl⟩
  clear HN
  go_wp2_with fail
  refine (HP.out _).mono ?_
  rintro e w1 ⟨A1, c1, rfl, ho1, hb1⟩
  have HO1 := Lib.hid ho1
  have HB1 := Lib.hid hb1
  clear ho1 hb1 HP
  go_wp2_with fail
  refine (join_rows _ (cutA A c0 0) A1 12 4 16 c0 c1 (l.take 12) (putL V 4) (by exact HF.out.step HB1.out) (by exact HO1.out.rb) rfl (by omega)).mono ?_
  rintro e w2 ⟨A2, c2, rfl, ho2, hb2⟩
  have HO2 := Lib.hid ho2
  have HB2 := Lib.hid hb2
  clear ho2 hb2
  go_wp2_with fail
  go_ret2
  refine ⟨A2, c2, rfl, ?_, HB1.out.trans (HB2.out.mono HB1.out.size)⟩
  rw [← HVA.out]
  exact HO2.out.base_le HB1.out.size

set_option maxRecDepth 100000 in
set_option maxHeartbeats 2000000 in
theorem next_bad (A : Option Addr) (n c : Nat) (w : World) (hn : n ≠ 16) :
    Calls Try.prog 9 #[.slice A n c] w fun e w' => e = .returned (.tuple #[.slice none 0 0, .int .i64 11]) ∧ w = w' := by
  have HA := Lib.hid (after_bad A n c 1 w hn)
  go_enter Try.func9, Try.ntmps9
  go_wp2_with fail
  refine HA.out.mono ?_
  rintro e w1 ⟨rfl, rfl⟩
  go_wp2_with fail
  go_ret2
  exact ⟨rfl, rfl⟩
set_option maxRecDepth 100000 in
set_option maxHeartbeats 2000000 in
theorem next_any (A : Option Addr) (c0 : Nat) (l : List UInt8) (w : World) (h : RB w w.heap.size A 16 l) (hc : 16 ≤ c0) :
    Calls Try.prog 9 #[.slice A 16 c0] w (RetBE 16 (aftL l 1) 0 w) := by
  have HA := Lib.hid (after_any A c0 l 1 w h hc (by omega))
  clear h hc
  go_enter Try.func9, Try.ntmps9
  go_wp2_with fail
  refine HA.out.mono ?_
  rintro e w1 ⟨A1, c1, rfl, ho, hb⟩
  have HO := Lib.hid ho
  have HB := Lib.hid hb
  clear ho hb
  go_wp2_with fail
  go_ret2
  exact ⟨A1, c1, rfl, HO.out, HB.out⟩

end Go.Proofs.Ytoaafjeknikniaa
