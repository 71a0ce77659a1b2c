/- MixSeeds' walk: unlike seeds mix the same parts to unlike numbers; a part with one byte changed is mixed to another number. -/
import Derived.Test.YtcihincfemiioaaMixAnswersW
import Derived.Test.YtcihincfemiioaaMixA
namespace Go.Proofs.Ytcihincfemiioaa
open Go.RowKit
set_option linter.unusedVariables false
set_option linter.unusedSimpArgs false
/-- The first rows. -/
theorem RX.front {w : World} {base B n m c : Nat} {A : Option Addr} {ps : List (List UInt8)} (h : RR w B A n ps) (hm : m ≤ n) (hb : B ≤ base) : RX w base (cutA A c 0) m (ps.take m) := by
  refine ⟨by rw [List.length_take, h.1]; omega, fun h0 => ?_⟩
  obtain ⟨b, o, rfl, _, hc⟩ := h.2 (by omega)
  refine ⟨b, o, ?_, fun i p hp => ?_⟩
  · unfold cutA
    split <;> simp [Addr.add]
  · have hi : i < m := by
      have := (List.getElem?_eq_some_iff.1 hp).1
      rw [List.length_take] at this
      omega
    rw [List.getElem?_take_of_lt hi] at hp
    obtain ⟨Ai, ci, k1, k2⟩ := hc i p hp
    exact ⟨Ai, ci, k1, k2.more hb⟩
theorem OwnV.lit0g (w : World) (base g : Nat) (hg : g = w.heap.size) (hb : base ≤ w.heap.size) : OwnV (w.alloc (.cells #[] 24)) base (some ⟨g, 0, none⟩) 0 0 [] := by
  subst hg
  exact OwnV.lit0 w base hb
theorem RX.one (w : World) (base : Nat) (A : Option Addr) (n c g : Nat) (l : List UInt8) (e : TypeId) (h : RB w base A n l) (hb : base ≤ w.heap.size) (hg : g = w.heap.size) : RX (w.alloc (.cells #[.slice A n c] e)) base (some ⟨g, 0, none⟩) 1 [l] := by
  subst hg
  refine ⟨rfl, fun _ => ⟨w.heap.size, 0, rfl, fun i p hp => ?_⟩⟩
  have hi : i = 0 := by
    have := (List.getElem?_eq_some_iff.1 hp).1
    simp at this
    exact this
  subst hi
  simp at hp
  subst hp
  have hl := h.len
  refine ⟨A, c, ?_, ?_⟩
  · rw [hl, Nat.zero_add]; exact cell_one w _ _
  · rw [hl]; exact h.alloc hb _
theorem cutr_h (A : Option Addr) (n c h : Nat) (h2 : h ≤ c) : ∀ W : World, (Instr.slice 23 (.slice A n c) none (some (.int .i64 (h : Int))) none).run Try.prog W = .ok (.slice (cutA A c 0) h c) W := by
  intro W
  simp [Instr.slice, Instr.sliceBounds, Instr.sliceBound, asIntOf, go_sem, run_underlying Try.underlying23, h2, cutA]
theorem byte_in {x : Int} (h : (Lit.int .u8 x).wf = true) : ∃ b : UInt8, x = (b.toNat : Int) := by
  have hr : 0 ≤ x ∧ x ≤ 255 := bounds_u8 h
  exact ⟨UInt8.ofNat x.toNat, by simp; omega⟩
theorem long_in {ps : List (List UInt8)} {m : Nat} (h : longB ps m = false) : ps.length ≤ m ∧ totL ps ≤ m := by
  unfold longB at h
  rw [decide_eq_false_iff_not] at h
  omega
theorem tot_mem {ps : List (List UInt8)} {p : List UInt8} (h : p ∈ ps) : p.length ≤ totL ps := by
  induction ps with
  | nil => cases h
  | cons q ps ih =>
    have e : totL (q :: ps) = q.length + totL ps := by simp [totL]
    rcases List.mem_cons.1 h with rfl | h
    · omega
    · have := ih h; omega
/-- A change of one byte is told by the mix. -/
theorem mix_turn {s k : Nat} {qs : List (List UInt8)} {l : List UInt8} {x y : UInt8} (hs : s < 18446744073709551616) (hx : l[k]? = some x) : mixF s (qs ++ [l.set k (x ^^^ y)]) = mixF s (qs ++ [l]) ↔ y = 0 := by
  have hk := (List.getElem?_eq_some_iff.1 hx).1
  constructor
  · intro e
    have h := mix_set hs hk e
    have h2 : (l.set k (x ^^^ y))[k]? = some (x ^^^ y) := List.getElem?_set_self hk
    rw [h, hx] at h2
    exact byte_xor.1 (Option.some.inj h2).symm
  · rintro rfl
    have e : l.set k (x ^^^ 0) = l := by
      apply List.ext_getElem?
      intro i
      by_cases hi : k = i
      · subst hi
        rw [List.getElem?_set_self hk, hx]
        simp
      · rw [List.getElem?_set_ne hi]
    rw [e]
attribute [local irreducible] foldF size8 partF partsF endF mixF stepF belowF longB
set_option maxRecDepth 100000 in
set_option maxHeartbeats 4000000 in
theorem seeds_in (a b : Nat) (A2 : Option Addr) (n c : Nat) (ps : List (List UInt8)) (x3 : Int) (y : UInt8) (w : World) (ha : a < 18446744073709551616) (hb0 : b < 18446744073709551616) (h2 : RP w w.heap.size A2 n ps) (hnc : n ≤ c) (r3 : -9223372036854775808 ≤ x3 ∧ x3 ≤ 9223372036854775807)
    (LG : Hid (∀ W : World, RR W W.heap.size A2 n ps → Calls Try.prog 8 #[.slice A2 n c, .int .i64 300] W fun e w' => e = .returned (.bool false) ∧ W = w'))
    (hn : n ≤ 20) (htot : totL ps ≤ 300) :
    Calls Try.prog 6 #[.int .u64 (a : Int), .int .u64 (b : Int), .slice A2 n c, .int .i64 x3, .int .u8 (y.toNat : Int)] w fun e w' => e = .returned (.bool true) ∧ Below w.heap.size w w' := by
  have hd : decide (20 < (n : Int)) = false := decide_eq_false (by omega)
  obtain ⟨P, HP⟩ : ∃ P, Hid (P = mixF a ps) := ⟨_, Lib.hid rfl⟩
  obtain ⟨Q, HQ⟩ : ∃ Q, Hid (Q = mixF b ps) := ⟨_, Lib.hid rfl⟩
  obtain ⟨r, hr⟩ : ∃ r : Bool, decide (a = b) = r := ⟨_, rfl⟩
  have e0 : ((a : Int) == (b : Int)) = r := beq_nat a b r (by rw [← hr]; simp)
  have e1 : ((P : Int) == (Q : Int)) = r := beq_nat _ _ r (by rw [← hr, decide_eq_true_iff, HP.out, HQ.out]; exact ⟨mix_inj ha hb0, fun h => by rw [h]⟩)
  have MA := Lib.hid (fun W hW => mix_any a A2 n c ps W ha hW (by unfold maxLen; omega) h2.2)
  have MB := Lib.hid (fun W hW => mix_any b A2 n c ps W hb0 hW (by unfold maxLen; omega) h2.2)
  rw [← HP.out] at MA
  rw [← HQ.out] at MB
  have HR := Lib.hid h2
  have hpl := h2.1.len
  clear h2 hr
  rcases Nat.eq_zero_or_pos n with hz | hz
  · subst hz
    rcases r with _ | _
    all_goals (
      skip
      go_enter Try.func6, Try.ntmps6
      go_wp2_with fail
      refine (alive_any _).mono ?_
      rintro e w1 ⟨rfl, hb1⟩
      go_wp2_with fail
      refine (LG.out _ (by exact (HR.out.1.below hb1).more22 hb1.size)).mono ?_
      rintro e w2 ⟨rfl, rfl⟩
      go_wp2_with fail
      refine (MA.out _ (by exact (HR.out.1.below hb1).more22 hb1.size)).mono ?_
      rintro e w2 ⟨rfl, hb⟩
      have HB2 := bel_next hb1 hb
      clear hb hb1
      go_wp2_with fail
      refine (MB.out _ (by exact (HR.out.1.below HB2).more22 HB2.size)).mono ?_
      rintro e w3 ⟨rfl, hb⟩
      have HB3 := bel_next HB2 hb
      clear hb HB2
      go_wp2_with fail
      go_ret
      exact ⟨rfl, HB3⟩
)
  · obtain ⟨m, HM⟩ : ∃ m, Hid (n = m + 1) := ⟨n - 1, Lib.hid (by omega)⟩
    have hm1 : m < n := by have := HM.out; omega
    have hz0 : ((n : Int) == 0) = false := by rw [beq_eq_false_iff_ne]; omega
    have hsub : (n : Int) - 1 = (m : Int) := by have := HM.out; omega
    obtain ⟨bb, o, rfl, hbb, l, hl, Ai, ci, hc, hrl⟩ := HR.out.1.at_ hm1
    have HPS : Hid (ps = ps.take m ++ [l]) := Lib.hid (by
      have h1 := take_row hl
      rw [List.take_of_length_le (by have := HM.out; omega)] at h1
      exact h1)
    have hll : l.length ≤ 300 := Nat.le_trans (tot_mem (List.mem_of_getElem? hl)) htot
    obtain ⟨L, HL⟩ : ∃ L, Hid (L = l.length) := ⟨_, Lib.hid rfl⟩
    rw [← HL.out] at hc hrl hll
    have HC := Lib.hid hc
    have HRL := Lib.hid hrl
    clear hc hrl hl hpl htot
    by_cases hout : x3 < 0 ∨ (L : Int) ≤ x3
    · have key : ∀ (p q : Bool), decide (x3 < 0) = p → decide ((L : Int) ≤ x3) = q → (p = true ∨ q = true) → Calls Try.prog 6 #[.int .u64 (a : Int), .int .u64 (b : Int), .slice (some ⟨bb, o, none⟩) n c, .int .i64 x3, .int .u8 (y.toNat : Int)] w fun e w' => e = .returned (.bool true) ∧ Below w.heap.size w w' := by
        intro p q hp hq hpq
        clear hout
        rcases p with _ | _ <;> rcases q with _ | _ <;> rcases r with _ | _
        all_goals first | (exfalso; simp at hpq; done) | skip
        all_goals clear hpq
        all_goals (
          skip
          go_enter Try.func6, Try.ntmps6
          go_wp2_with fail
          refine (alive_any _).mono ?_
          rintro e w1 ⟨rfl, hb1⟩
          go_wp2_with fail
          refine (LG.out _ (by exact (HR.out.1.below hb1).more22 hb1.size)).mono ?_
          rintro e w2 ⟨rfl, rfl⟩
          go_wp2_with fail
          refine (MA.out _ (by exact (HR.out.1.below hb1).more22 hb1.size)).mono ?_
          rintro e w2 ⟨rfl, hb⟩
          have HB2 := bel_next hb1 hb
          clear hb hb1
          go_wp2_with fail
          refine (MB.out _ (by exact (HR.out.1.below HB2).more22 HB2.size)).mono ?_
          rintro e w3 ⟨rfl, hb⟩
          have HB3 := bel_next HB2 hb
          clear hb HB2
          have hc3 := (HB3.cell (p := ⟨bb, o + m, none⟩) hbb).trans HC.out
          go_wp2_with fail
          go_ret
          exact ⟨rfl, HB3⟩
)
      exact key _ _ rfl rfl (by simpa using hout)
    · obtain ⟨k, rfl⟩ := Int.eq_ofNat_of_zero_le (show 0 ≤ x3 by omega)
      have hk : k < L := by omega
      obtain ⟨x, hx⟩ : ∃ x, l[k]? = some x := ⟨_, List.getElem?_eq_getElem (by rw [← HL.out]; exact hk)⟩
      have d1 : decide ((k : Int) < 0) = false := decide_eq_false (by omega)
      have d2 : decide ((L : Int) ≤ (k : Int)) = false := decide_eq_false (by omega)
      obtain ⟨R, HRR⟩ : ∃ R, Hid (R = mixF a (ps.take m ++ [l.set k (x ^^^ y)])) := ⟨_, Lib.hid rfl⟩
      obtain ⟨r2, hr2⟩ : ∃ r2 : Bool, decide (y = 0) = r2 := ⟨_, rfl⟩
      have HT : Hid (mixF a (ps.take m ++ [l.set k (x ^^^ y)]) = mixF a ps ↔ y = 0) := Lib.hid (by
        have h := mix_turn (s := a) (qs := ps.take m) (y := y) ha hx
        rw [← HPS.out] at h
        exact h)
      have e2 : ((R : Int) == (P : Int)) = r2 := beq_nat _ _ r2 (by rw [← hr2, decide_eq_true_iff, HRR.out, HP.out]; exact HT.out)
      have e3 : ((y.toNat : Int) == 0) = r2 := beq_nat y.toNat 0 r2 (by rw [← hr2, decide_eq_true_iff, ← UInt8.toNat_inj]; rfl)
      have HX := Lib.hid hx
      have hp7 : ∀ p ∈ ps.take m ++ [l.set k (x ^^^ y)], p.length ≤ maxLen := by
        intro p hp
        rcases List.mem_append.1 hp with h | h
        · exact HR.out.2 p (List.mem_of_mem_take h)
        · rw [List.mem_singleton] at h
          rw [h, List.length_set, ← HL.out]
          unfold maxLen
          omega
      have MT := Lib.hid (fun W A c hW => mix_any a A (m + 1) c (ps.take m ++ [l.set k (x ^^^ y)]) W ha hW (by unfold maxLen; omega) hp7)
      rw [← HRR.out] at MT
      clear hp7
      have hqr := cutr_h (some ⟨bb, o, none⟩) n c m (by omega)
      have hxb := xor_byte x y
      clear hx hout hr2
      rcases r with _ | _ <;> rcases r2 with _ | _
      all_goals (
        skip
        go_enter Try.func6, Try.ntmps6
        go_wp2_with fail
        refine (alive_any _).mono ?_
        rintro e w1 ⟨rfl, hb1⟩
        go_wp2_with fail
        refine (LG.out _ (by exact (HR.out.1.below hb1).more22 hb1.size)).mono ?_
        rintro e w2 ⟨rfl, rfl⟩
        go_wp2_with fail
        refine (MA.out _ (by exact (HR.out.1.below hb1).more22 hb1.size)).mono ?_
        rintro e w2 ⟨rfl, hb⟩
        have HB2 := bel_next hb1 hb
        clear hb hb1
        go_wp2_with fail
        refine (MB.out _ (by exact (HR.out.1.below HB2).more22 HB2.size)).mono ?_
        rintro e w3 ⟨rfl, hb⟩
        have HB3 := bel_next HB2 hb
        clear hb HB2
        have hc3 := (HB3.cell (p := ⟨bb, o + m, none⟩) hbb).trans HC.out
        go_wp2_with fail
        refine (copy_any Ai L ci 0 l _ (by exact HRL.out.step HB3) (by omega)).mono ?_
        rintro e w4 ⟨A4, c4, rfl, ho, hb⟩
        have HB4 := bel_next HB3 hb
        obtain ⟨g, rfl, hg1, hg2⟩ := ho.form (by omega)
        have hc0 := ho.cellAt HX.out
        have hf0 := ho.freeAt k
        have S5 := Lib.hid (ho.stored k (x ^^^ y) (.int .u8 ((x.toNat ^^^ y.toNat : Nat) : Int)) (by unfold bv; rw [UInt8.toNat_xor]))
        have B5 : Hid (Below w.heap.size w (w4.setCell ⟨g, k, none⟩ (.int .u8 ((x.toNat ^^^ y.toNat : Nat) : Int)))) := Lib.hid (HB4.setCell (Nat.le_trans HB3.size hg1) _)
        have Z5 : Hid ((w4.setCell ⟨g, k, none⟩ (.int .u8 ((x.toNat ^^^ y.toNat : Nat) : Int))).heap.size = w4.heap.size) := Lib.hid (by simp)
        have hw4 := HB4.size
        clear ho HB4 HB3 hc3
        go_wp2_with (at_builtin; first
          | (refine wpList_appV22 rfl (.tmp 60) (.tmp 65) rfl w4.heap.size _ _ _ [] rfl (by exact OwnV.lit0g _ _ _ Z5.out.symm (by rw [Z5.out]; exact Nat.le_refl _)) _ m _ (ps.take m) rfl (by exact RX.front (HR.out.1.below (B5.out.alloc (by rw [Z5.out]; exact hw4) _)) (by omega) hw4) (by omega) (by rw [World.size_alloc, Z5.out]; omega) ?_
             intro A6 c6 w6 ho6 hb6
             rw [Nat.zero_add] at ho6
             have HO6 : Hid (OwnV w6 w4.heap.size A6 m c6 (ps.take m)) := Lib.hid ho6
             have B6 := Lib.hid ((B5.out.alloc (by rw [Z5.out]; exact hw4) _).trans (hb6.mono hw4))
             have S6 := Lib.hid (((S5.out.rb.more (Nat.le_of_eq Z5.out)).alloc (by rw [Z5.out]; exact Nat.le_refl _) (.cells #[] 24)).below hb6)
             have Z6 : w4.heap.size ≤ w6.heap.size := by have := hb6.size; rw [World.size_alloc, Z5.out] at this; omega
             clear ho6 hb6)
          | (refine wpList_appV22 rfl (.tmp 66) (.tmp 68) rfl w4.heap.size _ _ _ (ps.take m) rfl (by exact HO6.out.alloc Z6 _) _ 1 _ [l.set k (x ^^^ y)] rfl (by exact RX.one _ _ _ _ _ _ _ _ S6.out Z6 rfl) (by omega) (by rw [World.size_alloc]; omega) ?_
             intro A7 c7 w7 ho7 hb7
             have Z7 : w4.heap.size ≤ w7.heap.size := by have := hb7.size; rw [World.size_alloc] at this; omega
             have HR7 := Lib.hid (ho7.rr Z7)
             have B7 := Lib.hid ((B6.out.alloc (Nat.le_trans hw4 Z6) _).trans (hb7.mono hw4))
             clear ho7 hb7))
        refine (MT.out _ _ _ (by exact HR7.out)).mono ?_
        rintro e w8 ⟨rfl, hb⟩
        have HB8 := bel_next B7.out hb
        clear hb
        go_wp2_with fail
        refine (MA.out _ (by exact (HR.out.1.below HB8).more22 HB8.size)).mono ?_
        rintro e w9 ⟨rfl, hb⟩
        have HB9 := bel_next HB8 hb
        clear hb
        go_wp2_with fail
        go_ret
        exact ⟨rfl, HB9⟩
)
set_option maxRecDepth 100000 in
set_option maxHeartbeats 2000000 in
theorem MixSeeds_walk (x0 : Int) (x1 : Int) (A2 : Option Addr) (n2 c2 : Nat) (l2 : List (List UInt8)) (x3 : Int) (x4 : Int) (w : World) (h0 : (Lit.int .u64 x0).wf = true) (h1 : (Lit.int .u64 x1).wf = true) (h2 : RP w w.heap.size A2 n2 l2) (m2 : n2 ≤ c2 ∧ c2 ≤ maxLen) (h3 : (Lit.int .i64 x3).wf = true) (h4 : (Lit.int .u8 x4).wf = true) :
    Calls Try.prog 6 #[.int .u64 x0, .int .u64 x1, .slice A2 n2 c2, .int .i64 x3, .int .u8 x4] w fun e w' => e = .returned (.bool true) ∧ Below w.heap.size w w' := by
  obtain ⟨a, rfl, ha⟩ := u64_nat h0
  obtain ⟨b, rfl, hb0⟩ := u64_nat h1
  obtain ⟨y, rfl⟩ := byte_in h4
  have r3 := bounds_i64 h3
  have hm := len_max m2
  have hm2 : n2 ≤ maxLen := Nat.le_trans m2.1 m2.2
  obtain ⟨t, ht⟩ : ∃ t, longB l2 300 = t := ⟨_, rfl⟩
  have LG := Lib.hid (fun W hW => long_any A2 n2 c2 300 l2 W hW hm2 (by omega) h2.2)
  rw [ht] at LG
  rcases t with _ | _
  · by_cases hl : 20 < n2
    · have hd : decide (20 < (n2 : Int)) = true := decide_eq_true (by omega)
      have HR := Lib.hid h2
      clear h2 h0 h1 h3 h4 ht
      go_enter Try.func6, Try.ntmps6
      go_wp2_with fail
      refine (alive_any _).mono ?_
      rintro e w1 ⟨rfl, hb1⟩
      go_wp2_with fail
      refine (LG.out _ (by exact (HR.out.1.below hb1).more22 hb1.size)).mono ?_
      rintro e w2 ⟨rfl, rfl⟩
      go_wp2_with fail
      go_ret
      exact ⟨rfl, hb1⟩
    · have h5 := long_in ht
      exact seeds_in a b A2 n2 c2 l2 x3 y w ha hb0 h2 m2.1 r3 LG (by omega) h5.2
  · have HR := Lib.hid h2
    clear h2 h0 h1 h3 h4 ht
    go_enter Try.func6, Try.ntmps6
    go_wp2_with fail
    refine (alive_any _).mono ?_
    rintro e w1 ⟨rfl, hb1⟩
    go_wp2_with fail
    refine (LG.out _ (by exact (HR.out.1.below hb1).more22 hb1.size)).mono ?_
    rintro e w2 ⟨rfl, rfl⟩
    go_wp2_with fail
    go_ret
    exact ⟨rfl, hb1⟩
end Go.Proofs.Ytcihincfemiioaa
