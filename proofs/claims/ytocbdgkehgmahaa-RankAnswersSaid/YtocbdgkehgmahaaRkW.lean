/- Layer 23: the program's Chosen. Conditions: what it reads is readable. -/
import Derived.Test.YtocbdgkehgmahaaRkU
import Derived.Test.YtocbdgkehgmahaaRkG
namespace Go.Proofs.Ytocbdgkehgmahaa
open Go.RowKit Go.Maps
set_option linter.unusedVariables false
set_option linter.unusedSimpArgs false
attribute [local irreducible] mixF scF scE scA okE tabE bestT ordA ordT leftT fK cK keepE
theorem fK_keep (s : Nat) (es : List (Int × Int)) (k : List UInt8) : fK s (keepE es) k = fK s es k := by
  unfold fK
  rw [keep_tab]
set_option maxRecDepth 100000 in
set_option maxHeartbeats 4000000 in
theorem chosen_any (s : Nat) (A : Option Addr) (n c : Nat) (ps : List (List UInt8)) (Ae : Option Addr) (ne ce : Nat) (es : List (Int × Int)) (w : World) (hs : s < 18446744073709551616) (h : RR w w.heap.size A n ps) (hn : n ≤ 2000) (hp : ∀ p ∈ ps, p.length ≤ maxLen) (he : EL w w.heap.size Ae ne es) (hne : ne ≤ 1000000) :
    Calls Try.prog 17 #[.int .u64 (s : Int), .slice A n c, .slice Ae ne ce] w fun r w' => ∃ b m : Nat, r = .returned (.map (some b)) ∧ CM w' b m (cK (fK s es) ps) (nzN (cK (fK s es) ps) 64) ∧ w.heap.size ≤ b ∧ Below w.heap.size w w' := by
  have HR := Lib.hid h
  have HC0 := Lib.hid (counting_any Ae ne ce es w he hne)
  have HL : Hid (ps.length = n) := Lib.hid h.len
  rw [show fK s es = fK s (keepE es) from funext fun k => (fK_keep s es k).symm]
  have hu := keep_unl (es := es)
  have h64 := keep_64 (es := es)
  generalize keepE es = K at HC0 hu h64 ⊢
  obtain ⟨m, HM⟩ : ∃ m, Hid (m = K.length) := ⟨_, Lib.hid rfl⟩
  rw [← HM.out] at HC0 h64
  clear h he
  have hmm := @run_makeMap Try.prog
  go_enter Try.func17, Try.ntmps17
  go_wp2_with fail
  refine HC0.out.mono ?_
  rintro r w1 ⟨Ak, ck, rfl, ho, hb⟩
  have HEK := Lib.hid ho.el
  have HB1 := Lib.hid hb
  clear ho hb
  go_wp2_with fail
  have Z0 := Lib.hid (CM.made w1)
  have HBB := Lib.hid (bel_next HB1.out (below_alloc w1 (.map #[] 0)))
  have HW1 : Hid (w.heap.size ≤ w1.heap.size) := Lib.hid HB1.out.size
  have HEB : Hid (EL (w1.alloc (.map #[] 0)) w1.heap.size Ak m K) := Lib.hid (HEK.out.below (below_alloc w1 (.map #[] 0)))
  generalize hw2 : w1.alloc (.map #[] 0) = w2 at Z0 HBB HEB ⊢
  have HW2 : Hid (w1.heap.size < w2.heap.size) := Lib.hid (by rw [← hw2, World.size_alloc]; omega)
  generalize w1.heap.size = mb at Z0 HW1 HW2 HEB ⊢
  clear hw2 HEK HB1
  go_loopw [10, 11, 12, 18] (fun _ _ _ i wr => ∃ k : Nat, k ≤ n ∧ i = .int .i64 k ∧ Hid (CM wr mb k (cK (fK s K) (ps.take k)) (nzN (cK (fK s K) (ps.take k)) 64)) ∧ Hid (Below mb w2 wr)) (fun _ _ _ i _ => n - (intOf i).toNat)
  case atStart => exact ⟨0, Nat.zero_le _, rfl, Lib.hid (by rw [List.take_zero, cK_nil, nz_zero (fun j _ => rfl)]; exact Z0.out), Lib.hid (Below.refl _ _)⟩
  case round =>
    obtain ⟨k, hk, rfl, hm, hb⟩ := hrel
    clear Z0
    have HBW := Lib.hid (HBB.out.trans (hb.out.mono HW1.out))
    by_cases hlt : k < n
    · obtain ⟨b, o, rfl, hbl, p, hpk, Ai, ci, hc, hr⟩ := (HR.out.below HBW.out).at_ hlt
      have hpl := hp p (List.mem_of_getElem? hpk)
      have HRR := Lib.hid (hr.more HBW.out.size)
      have HTA := Lib.hid (take_row hpk)
      have HEW : Hid (EL wr wr.heap.size Ak m K) := Lib.hid ((HEB.out.below hb.out).more (Nat.le_trans (Nat.le_of_lt HW2.out) hb.out.size))
      have HF := Lib.hid (first0_any s Ai p.length ci p Ak m ck K wr hs HRR.out hpl HEW.out hu h64)
      have HFD := Lib.hid (fK_def s K p)
      rw [HFD.out.1, HFD.out.2] at HF
      clear hpk hr HFD
      cases hF : fK s K p with
      | none =>
        rw [hF] at HF
        have HN : Hid (cK (fK s K) (ps.take (k + 1)) = cK (fK s K) (ps.take k)) := Lib.hid (by rw [HTA.out, cK_none hF])
        go_wp2_with fail
        refine HF.out.mono ?_
        rintro r w5 ⟨rfl, hb5⟩
        have HM5 := Lib.hid (hm.out.step hb5)
        have HB5 := Lib.hid (hb.out.trans (hb5.mono (Nat.le_trans (Nat.le_of_lt HW2.out) hb.out.size)))
        clear hb5
        go_wp2_with fail
        go_roundw
        case rel => exact ⟨k + 1, by omega, by go_num, Lib.hid (by rw [HN.out]; exact HM5.out.more (Nat.le_succ _)), HB5⟩
        case measure => simp [intOf]; omega
      | some i =>
        rw [hF] at HF
        have hi := fK_lt hF
        have HN : Hid (cK (fK s K) (ps.take (k + 1)) = upC (cK (fK s K) (ps.take k)) i) := Lib.hid (by rw [HTA.out, cK_some hF])
        have HZ := Lib.hid (nz_up (C := cK (fK s K) (ps.take k)) hi)
        have hle := cK_le (F := fK s K) (ks := ps.take k) i
        rw [List.length_take] at hle
        obtain ⟨C, HC⟩ : ∃ C, Hid (C = cK (fK s K) (ps.take k)) := ⟨_, Lib.hid rfl⟩
        rw [← HC.out] at hm HN HZ hle
        have hgi : (some i).getD 0 = i := rfl
        have hsi : (some i).isSome = true := rfl
        rw [hgi, hsi] at HF
        go_wp2_with fail
        refine HF.out.mono ?_
        rintro r w5 ⟨rfl, hb5⟩
        have HM5 := Lib.hid (hm.out.step hb5)
        have HB5 := Lib.hid (hb.out.trans (hb5.mono (Nat.le_trans (Nat.le_of_lt HW2.out) hb.out.size)))
        have hlk := HM5.out.look hi (by omega)
        clear hb5
        go_wp2_with (first
          | (at_mapUpdate; refine wpList_bumpM rfl (.tmp 30) (.tmp 31) (.tmp 33) rfl mb k _ C rfl HM5.out (by omega) i hi rfl (by omega) rfl ?_; intro w6 hm6 hg6; have HM6 := Lib.hid hm6; have HB6 := Lib.hid (HB5.out.grown hg6 (Nat.le_trans (Nat.le_of_lt HW2.out) HB5.out.size) (fun j hj => by cases hj; exact Nat.le_refl _)); clear hm6 hg6))
        go_roundw
        case rel => exact ⟨k + 1, by omega, by go_num, Lib.hid (by rw [HN.out, HZ.out]; exact HM6.out), HB6⟩
        case measure => simp [intOf]; omega
    · obtain rfl : k = n := by omega
      have HM := hm.out
      rw [List.take_of_length_le (by have := HL.out; omega)] at HM
      have HM := Lib.hid HM
      go_wp2_with fail
      go_ret
      exact ⟨mb, k, rfl, HM.out, HW1.out, HBW.out⟩
end Go.Proofs.Ytocbdgkehgmahaa
