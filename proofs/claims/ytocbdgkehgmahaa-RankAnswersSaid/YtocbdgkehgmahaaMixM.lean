/- Layer 22: Mix and Below, the reference's and the program's, answer what their words reckon. Conditions: the slices' cells are readable. -/
import Derived.Test.YtocbdgkehgmahaaMixE
import Derived.Deep.RegionWith
namespace Go.Proofs.Ytocbdgkehgmahaa
open Go.RowKit
set_option linter.unusedVariables false
set_option linter.unusedSimpArgs false

theorem lit_top {m : Nat} (h : m < 18446744073709551616) : #[Value.int .u8 ((m : Int) / 72057594037927936)] = (bvs [UInt8.ofNat (m / 72057594037927936)]).toArray := by
  have e : (((UInt8.ofNat (m / 72057594037927936)).toNat : Nat) : Int) = (m : Int) / 72057594037927936 := by
    have : (UInt8.ofNat (m / 72057594037927936)).toNat = m / 72057594037927936 % 256 := by simp
    omega
  unfold bvs
  simp only [List.map_cons, List.map_nil, bv, e]
set_option maxHeartbeats 1000000 in
theorem len_any (f n : Nat) (w : World) (hf : f < 18446744073709551616) (hn : n < 18446744073709551616) :
    Calls Try.prog 29 #[.int .u64 (f : Int), .int .u64 (n : Int)] w fun e w' => e = .returned (.int .u64 (foldF f (size8 n) : Int)) ∧ Below w.heap.size w w' := by
  rw [← size8_put]
  have hle : (putL n 8).length = 8 := putL_len n 8
  go_enter Try.func29, Try.ntmps29
  go_wp2
  go_loopw [0, 1, 5] (fun v m i wr => ∃ k : Nat, k ≤ 8 ∧ i = .int .i64 k ∧ v = .int .u64 (foldF f ((putL n 8).take k) : Int) ∧ m = .int .u64 (upL n k : Int) ∧ Below w.heap.size w wr) (fun _ _ i _ => 8 - (intOf i).toNat)
  case atStart => exact ⟨0, Nat.zero_le _, rfl, rfl, rfl, Below.refl _ _⟩
  case round =>
    obtain ⟨k, hk, rfl, rfl, rfl, hb⟩ := hrel
    by_cases hlt : k < 8
    · obtain ⟨V, HV⟩ : ∃ V, Hid (V = foldF f ((putL n 8).take k)) := ⟨_, Lib.hid rfl⟩
      obtain ⟨m, HM⟩ : ∃ m, Hid (m = upL n k) := ⟨_, Lib.hid rfl⟩
      rw [← HV.out, ← HM.out]
      have h1 : V < 18446744073709551616 := by rw [HV.out]; exact fold_lt hf
      have h2 : m < 18446744073709551616 := by rw [HM.out]; exact upL_lt hn k
      have HX := Lib.hid (up_at hn hlt)
      rw [← HM.out] at HX
      clear hle
      go_wp2_with (go_at_call 28; refine (fold_any V _ 1 _ _ [UInt8.ofNat (m / 72057594037927936)] _ h1 (by exact RB.lit wr [UInt8.ofNat (m / 72057594037927936)] _ 1 _ (lit_top h2) rfl rfl) (by unfold maxLen; omega)).mono ?_; rintro e w1 ⟨rfl, hw1⟩)
      go_roundw
      case rel => exact ⟨k + 1, by omega, by go_num, by rw [take_snoc HX.out, fold_app, HV.out], by rw [upL_succ, ← HM.out, ← mul64 m 256]; rfl, bel_next hb (by rw [← hw1]; exact below_alloc _ _)⟩
      case measure => simp [intOf]; omega
    · obtain rfl : k = 8 := by omega
      go_wp2
      go_ret
      exact ⟨ret1i (by rw [List.take_of_length_le (by omega)]), hb⟩

theorem start64 {s : Nat} (h : s < 18446744073709551616) : bits .xor .u64 14695981039346656037 (s : Int) = ((14695981039346656037 ^^^ s : Nat) : Int) := xor64 14695981039346656037 s (by decide) h
theorem part_def (f : Nat) (p : List UInt8) : foldF (foldF f (size8 p.length)) p = partF f p := rfl
set_option maxHeartbeats 1000000 in
theorem mix_any (s : Nat) (A : Option Addr) (n c : Nat) (ps : List (List UInt8)) (w : World) (hs : s < 18446744073709551616) (h : RR w w.heap.size A n ps) (hn : n ≤ maxLen) (hp : ∀ p ∈ ps, p.length ≤ maxLen) :
    Calls Try.prog 21 #[.int .u64 (s : Int), .slice A n c] w fun e w' => e = .returned (.int .u64 (mixF s ps : Int)) ∧ Below w.heap.size w w' := by
  unfold maxLen at hn
  have hst := start64 hs
  obtain ⟨f, HF⟩ : ∃ f, Hid (f = 14695981039346656037 ^^^ s) := ⟨_, Lib.hid rfl⟩
  have hf : f < 18446744073709551616 := by rw [HF.out]; exact seed_lt hs
  obtain ⟨z, HZ⟩ : ∃ z, Hid (z = mixF s ps) := ⟨_, Lib.hid rfl⟩
  have HE : Hid (endF (partsF f ps) = z) := Lib.hid (by rw [HZ.out, HF.out]; rfl)
  rw [← HF.out] at hst
  rw [← HZ.out]
  clear HF HZ hs
  go_enter Try.func21, Try.ntmps21
  go_wp2
  go_loopw [5, 7, 12] (fun v _ i wr => ∃ k : Nat, k ≤ n ∧ i = .int .i64 k ∧ v = .int .u64 (partsF f (ps.take k) : Int) ∧ Below w.heap.size w wr) (fun _ _ i _ => n - (intOf i).toNat)
  case atStart => exact ⟨0, Nat.zero_le _, rfl, rfl, Below.refl _ _⟩
  case round =>
    obtain ⟨k, hk, rfl, rfl, hb⟩ := hrel
    have hV : partsF f (ps.take k) < 18446744073709551616 := parts_lt hf
    have HT : Hid (k = n → partsF f (ps.take k) = partsF f ps) := Lib.hid (fun e => by rw [List.take_of_length_le (by have := h.len; omega)])
    by_cases hlt : k < n
    · obtain ⟨b, o, rfl, hbl, p, hpk, Ai, ci, hc, hr⟩ := (h.below hb).at_ hlt
      have hpl := hp p (List.mem_of_getElem? hpk)
      unfold maxLen at hpl
      have HN : Hid (partsF f (ps.take (k + 1)) = partF (partsF f (ps.take k)) p) := Lib.hid (parts_next hpk)
      have HR := Lib.hid (hr.more hb.size)
      obtain ⟨V, HV⟩ : ∃ V, Hid (V = partsF f (ps.take k)) := ⟨_, Lib.hid rfl⟩
      rw [← HV.out] at HN hV ⊢
      clear hpk HT hr HV
      have hl2 : p.length < 18446744073709551616 := by omega
      go_wp2_with (first
        | (go_at_call 29; refine (len_any V p.length _ hV hl2).mono ?_; rintro e w1 ⟨rfl, hb1⟩)
        | (go_at_call 28; refine (fold_any _ _ _ ci _ p _ (fold_lt hV) (by exact HR.out.step hb1) (by unfold maxLen; omega)).mono ?_; rintro e w2 ⟨rfl, hw2⟩))
      go_roundw
      case rel => exact ⟨k + 1, by omega, by go_num, by rw [HN.out]; rfl, by rw [← hw2]; exact bel_next hb hb1⟩
      case measure => simp [intOf]; omega
    · obtain rfl : k = n := by omega
      have HE2 : Hid (endF (partsF f (ps.take k)) = z) := Lib.hid (by rw [HT.out rfl, HE.out])
      go_wp2_with (go_at_call 30; refine (end_any _ _ hV).mono ?_; rintro e w1 ⟨rfl, hw1⟩)
      go_ret
      exact ⟨ret1i (by rw [HE2.out]), by rw [← hw1]; exact hb⟩

/-- What is left of a number. -/
def belowF (n : Nat) (m : Int) : Int := if m < 1 then 0 else (n : Int) % m
end Go.Proofs.Ytocbdgkehgmahaa
