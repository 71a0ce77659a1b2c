/- RankSums' walk: each key is counted for just one entry; keys told twice count twice; with no entry that may be chosen none is. -/
import Derived.Test.YtocbdgkehgmahaaRkV
import Derived.Test.YtocbdgkehgmahaaMixA
import Derived.Test.YtocbdgkehgmahaaOpenRows
namespace Go.Proofs.Ytocbdgkehgmahaa
open Go.RowKit Go.Maps
set_option linter.unusedVariables false
set_option linter.unusedSimpArgs false
theorem fK_none {s : Nat} {es : List (Int × Int)} {k : List UInt8} : fK s es k = none ↔ ∀ e ∈ es, okE e = false := by
  unfold fK
  rw [best_none]
  constructor
  · intro h e he
    cases hok : okE e with
    | false => rfl
    | true =>
      have h1 := (okE_iff e).1 hok
      exact absurd (h e.1.toNat (by omega)) (tab_has he hok (by omega))
  · intro h j _
    cases ht : tabE (scE s k) es j with
    | none => rfl
    | some t =>
      obtain ⟨e, h1, h2, _⟩ := tab_mem ht
      rw [h e h1] at h2
      cases h2
theorem fK_any {s : Nat} {es : List (Int × Int)} {k : List UInt8} (h : fK s es k ≠ none) (k' : List UInt8) : ∃ i, fK s es k' = some i ∧ i < 64 := by
  cases hk : fK s es k' with
  | none => exact absurd (fK_none.2 (fK_none.1 hk)) h
  | some i => exact ⟨i, rfl, fK_lt hk⟩
theorem u64_natE {x : Int} (h : (Lit.int .u64 x).wf = true) : ∃ k : Nat, x = (k : Int) ∧ k < 18446744073709551616 := by
  have b1 := bounds_u64 h
  exact ⟨x.toNat, by omega, by omega⟩
theorem long_inE {ps : List (List UInt8)} {m : Nat} (h : longB ps m = false) : ps.length ≤ m ∧ totL ps ≤ m := by
  unfold longB at h
  rw [decide_eq_false_iff_not] at h
  omega
theorem great_in {ps : List (List UInt8)} {n : Nat} (h : greatB ps n = false) : n ≤ 80 ∧ ps.length ≤ 1000 ∧ totL ps ≤ 1000 := by
  unfold greatB at h
  rw [Bool.or_eq_false_iff, decide_eq_false_iff_not] at h
  have := long_inE h.1
  omega
theorem sum_le {C : Nat → Nat} {B : Nat} (h : ∀ j, C j ≤ B) (n : Nat) : sumN C n ≤ B * n := by
  induction n with
  | zero => exact Nat.zero_le _
  | succ n ih =>
    unfold sumN
    have := h n
    rw [Nat.mul_succ]
    omega
theorem sum_succ (C : Nat → Nat) (n : Nat) : sumN C (n + 1) = sumN C n + C n := rfl
theorem sum_0 (C : Nat → Nat) : 0 = sumN C 0 := rfl
attribute [local irreducible] mixF scF scE scA okE tabE bestT ordA ordT leftT fK cK greatB nzN sumN
set_option maxRecDepth 100000 in
set_option maxHeartbeats 4000000 in
theorem sums_in (s : Nat) (A : Option Addr) (n c : Nat) (ps : List (List UInt8)) (Ae : Option Addr) (ne ce : Nat) (es : List (Int × Int)) (w : World) (hs : s < 18446744073709551616) (h1 : RP w w.heap.size A n ps) (he : EL w w.heap.size Ae ne es)
    (hg : greatB ps ne = false) (hn : n ≤ 20) (hm1 : n ≤ maxLen) (hme : ne ≤ maxLen) :
    Calls Try.prog 6 #[.int .u64 (s : Int), .slice A n c, .slice Ae ne ce] w fun e w' => e = .returned (.bool true) ∧ Below w.heap.size w w' := by
  have hgr := great_in hg
  have hd : decide (20 < (n : Int)) = false := decide_eq_false (by omega)
  have GR := Lib.hid (fun W hW => great_any A n c ps Ae ne ce W hW hm1 h1.2 hme)
  rw [hg] at GR
  have HL : Hid (ps.length = n) := Lib.hid h1.1.len
  have HR := Lib.hid h1
  have HE := Lib.hid he
  obtain ⟨C, HC⟩ : ∃ C, Hid (C = cK (fK s es) ps) := ⟨_, Lib.hid rfl⟩
  have HC2 : Hid (∀ i, cK (fK s es) (ps ++ ps) i = 2 * C i) := Lib.hid (fun i => by rw [cK_app, HC.out]; omega)
  have hle : ∀ i, C i ≤ 20 := fun i => by
    have := cK_le (F := fK s es) (ks := ps) i
    rw [HC.out]
    have := HL.out
    omega
  have HLE := Lib.hid hle
  have HF := Lib.hid (fun W hE => first_any s none 0 0 [] Ae ne ce es W hs RB.nil_ (by decide) hE (by omega))
  rw [(fK_def s es []).1, (fK_def s es []).2] at HF
  have HCH := Lib.hid (fun W hW hE => chosen_any s A n c ps Ae ne ce es W hs hW (by omega) h1.2 hE (by omega))
  rw [← HC.out] at HCH
  have hp2 : ∀ p ∈ ps ++ ps, p.length ≤ maxLen := fun p hp => (List.mem_append.1 hp).elim (h1.2 p) (h1.2 p)
  have HCH2 := Lib.hid (fun W A2 c2 hW hE => chosen_any s A2 (n + n) c2 (ps ++ ps) Ae ne ce es W hs hW (by omega) hp2 hE (by omega))
  have HZ : Hid (fK s es [] = none → sumN C 64 = 0 ∧ nzN C 64 = 0) := Lib.hid (fun h0 => by
    have hall : ∀ k ∈ ps, fK s es k = none := fun k _ => fK_none.2 (fK_none.1 h0)
    rw [HC.out]
    exact ⟨sum_zero fun j _ => cK_noneall hall j, nz_zero fun j _ => cK_noneall hall j⟩)
  have HS : Hid (fK s es [] ≠ none → sumN C 64 = n ∧ nzN C 64 ≤ n) := Lib.hid (fun h0 => by
    have h2 := sum_all (F := fK s es) (ks := ps) fun k _ => fK_any h0 k
    have h3 := nz_le_sum (C := C) (n := 64)
    rw [← HC.out, HL.out] at h2
    omega)
  clear h1 he hg hp2 hle
  go_enter Try.func6, Try.ntmps6
  go_wp2_with fail
  refine (alive_any _).mono ?_
  rintro r w1 ⟨rfl, hb⟩
  have HB1 := Lib.hid hb
  clear hb
  go_wp2_with fail
  refine (GR.out _ (by exact (HR.out.1.below HB1.out).more22 HB1.out.size)).mono ?_
  rintro r w2 ⟨rfl, rfl⟩
  go_wp2_with fail
  refine (HCH.out _ (by exact (HR.out.1.below HB1.out).more22 HB1.out.size) (by exact HE.out.step HB1.out)).mono ?_
  rintro r w3 ⟨b1, m1, rfl, hm1, hb1, hb⟩
  have HM1 := Lib.hid hm1
  have HB3 := Lib.hid (bel_next HB1.out hb)
  have HBL := HB3.out.size
  clear hm1 hb hb1
  go_wp2_with (at_builtin; first
    | (refine wpList_appV22 rfl (.tmp 28) (.tmp 29) rfl w3.heap.size _ _ _ [] rfl (by exact OwnV.lit0 _ _ (Nat.le_refl _)) _ n _ ps rfl (by exact RX.of_rr (HR.out.1.below (bel_next HB3.out (below_alloc _ _))) HBL) (by omega) (by rw [World.size_alloc]; omega) ?_
       intro A6 c6 w6 ho6 hb6
       rw [Nat.zero_add] at ho6
       have HO6 : Hid (OwnV w6 w3.heap.size A6 n c6 ps) := Lib.hid ho6
       have B6 : Hid (Below w3.heap.size w3 w6) := Lib.hid ((below_alloc w3 _).trans hb6)
       have Z6 := B6.out.size
       clear ho6 hb6)
    | (refine wpList_appV22 rfl (.tmp 30) (.tmp 31) rfl w3.heap.size _ _ _ ps rfl (by exact HO6.out) _ n _ ps rfl (by exact RX.of_rr (HR.out.1.below (bel_next HB3.out B6.out)) HBL) (by omega) Z6 ?_
       intro A7 c7 w7 ho7 hb7
       have B7 : Hid (Below w3.heap.size w3 w7) := Lib.hid (B6.out.trans hb7)
       have HR7 := Lib.hid (ho7.rr B7.out.size)
       have HB7 := Lib.hid (bel_next HB3.out B7.out)
       have HM7 := Lib.hid (HM1.out.step B7.out)
       clear ho7 hb7))
  refine (HCH2.out _ _ _ (by exact HR7.out) (by exact HE.out.step HB7.out)).mono ?_
  rintro r w8 ⟨b2, m2, rfl, hm2, hb2, hb⟩
  have HM2 := Lib.hid hm2
  have HM1 := Lib.hid (HM7.out.step hb)
  have HB8 := Lib.hid (bel_next HB7.out hb)
  clear hm2 hb hb2 HM7 HR7
  have HSL := Lib.hid (sum_le HLE.out)
  go_wp2_with fail
  go_loop [9, 10] (fun v i => ∃ k : Nat, k ≤ 64 ∧ i = .int .i64 k ∧ v = .int .i64 (sumN C k : Int)) (fun _ i => 64 - (intOf i).toNat)
  case atStart => exact ⟨0, Nat.zero_le _, rfl, congrArg (fun z : Nat => Value.int .i64 (z : Int)) (sum_0 C)⟩
  case round =>
    obtain ⟨k, hk, rfl, rfl⟩ := hrel
    have hsk := HSL.out k
    by_cases hlt : k < 64
    · have hck := HLE.out k
      have hlk1 := HM1.out.look hlt (by omega)
      have hlk2 := HM2.out.look hlt (by rw [HC2.out]; omega)
      rw [HC2.out, Int.natCast_mul] at hlk2
      have HSS := Lib.hid (sum_succ C k)
      obtain ⟨x, HX⟩ : ∃ x, Hid (x = C k) := ⟨_, Lib.hid rfl⟩
      rw [← HX.out] at hck hlk1 hlk2 HSS
      obtain ⟨y, HY⟩ : ∃ y, Hid (y = sumN C k) := ⟨_, Lib.hid rfl⟩
      rw [← HY.out] at hsk HSS ⊢
      go_wp2
      go_round
      case rel => exact ⟨k + 1, by omega, by go_num, by rw [HSS.out]; go_num⟩
      case measure => simp [intOf]; omega
    · obtain rfl : k = 64 := by omega
      have hl1 := fun ty => HM1.out.len ty
      cases hF : fK s es [] with
      | none =>
        rw [hF] at HF
        have e0 := HZ.out hF
        rw [e0.2] at hl1
        rw [e0.1]
        go_wp2_with fail
        refine (HF.out _ (by exact HE.out.step HB8.out)).mono ?_
        rintro r w9 ⟨rfl, hb⟩
        have hl9 := fun ty => (HM1.out.step hb).len ty
        rw [e0.2] at hl9
        have HB9 := Lib.hid (bel_next HB8.out hb)
        clear hb hl1
        go_wp2_with fail
        go_ret
        exact ⟨rfl, HB9.out⟩
      | some i =>
        rw [hF] at HF
        have e0 := HS.out (by rw [hF]; simp)
        rw [e0.1]
        have hgi : (some i).isSome = true := rfl
        rw [hgi] at HF
        go_wp2_with fail
        refine (HF.out _ (by exact HE.out.step HB8.out)).mono ?_
        rintro r w9 ⟨rfl, hb⟩
        have hl9 := fun ty => (HM1.out.step hb).len ty
        have HB9 := Lib.hid (bel_next HB8.out hb)
        have hz := e0.2
        clear hb hl1
        generalize nzN C 64 = z at hl9 hz
        have hz2 : decide ((z : Int) ≤ (n : Int)) = true := decide_eq_true (by omega)
        go_wp2_with fail
        go_ret
        exact ⟨rfl, HB9.out⟩
set_option maxRecDepth 100000 in
set_option maxHeartbeats 2000000 in
theorem RankSums_walk (x0 : Int) (A1 : Option Addr) (n1 c1 : Nat) (l1 : List (List UInt8)) (A2 : Option Addr) (n2 c2 : Nat) (l2 : List (Int × Int)) (w : World) (h0 : (Lit.int .u64 x0).wf = true) (h1 : RP w w.heap.size A1 n1 l1) (m1 : n1 ≤ c1 ∧ c1 ≤ maxLen) (h2 : EL w w.heap.size A2 n2 l2) (m2 : n2 ≤ c2 ∧ c2 ≤ maxLen) :
    Calls Try.prog 6 #[.int .u64 x0, .slice A1 n1 c1, .slice A2 n2 c2] w fun e w' => e = .returned (.bool true) ∧ Below w.heap.size w w' := by
  obtain ⟨s, rfl, hs⟩ := u64_natE h0
  have hm1 : n1 ≤ maxLen := Nat.le_trans m1.1 m1.2
  have hm2 : n2 ≤ maxLen := Nat.le_trans m2.1 m2.2
  have hmb : n1 ≤ 9223372036854775807 := by unfold maxLen at hm1; omega
  have GR := Lib.hid (fun W hW => great_any A1 n1 c1 l1 A2 n2 c2 W hW hm1 h1.2 hm2)
  obtain ⟨t, ht⟩ : ∃ t, greatB l1 n2 = t := ⟨_, rfl⟩
  rcases t with _ | _
  · by_cases hn : 20 < n1
    · have hd : decide (20 < (n1 : Int)) = true := decide_eq_true (by omega)
      rw [ht] at GR
      have HR := Lib.hid h1
      clear h1 h2 h0 ht
      go_enter Try.func6, Try.ntmps6
      go_wp2_with fail
      refine (alive_any _).mono ?_
      rintro r w1 ⟨rfl, hb⟩
      have HB1 := Lib.hid hb
      clear hb
      go_wp2_with fail
      refine (GR.out _ (by exact (HR.out.1.below HB1.out).more22 HB1.out.size)).mono ?_
      rintro r w2 ⟨rfl, rfl⟩
      go_wp2_with fail
      go_ret
      exact ⟨rfl, HB1.out⟩
    · exact sums_in s A1 n1 c1 l1 A2 n2 c2 l2 w hs h1 h2 ht (by omega) hm1 hm2
  · rw [ht] at GR
    have HR := Lib.hid h1
    clear h1 h2 h0 ht
    go_enter Try.func6, Try.ntmps6
    go_wp2_with fail
    refine (alive_any _).mono ?_
    rintro r w1 ⟨rfl, hb⟩
    have HB1 := Lib.hid hb
    clear hb
    go_wp2_with fail
    refine (GR.out _ (by exact (HR.out.1.below HB1.out).more22 HB1.out.size)).mono ?_
    rintro r w2 ⟨rfl, rfl⟩
    go_wp2_with fail
    go_ret
    exact ⟨rfl, HB1.out⟩
end Go.Proofs.Ytocbdgkehgmahaa
