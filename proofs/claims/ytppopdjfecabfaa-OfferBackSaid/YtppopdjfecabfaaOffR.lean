/- Layer 13's references Make and Answer, and the statements' comparison of versions. Conditions: the slices' cells are readable, ids of at most a million bytes. -/
import Derived.Test.YtppopdjfecabfaaOffK
namespace Go.Proofs.Ytppopdjfecabfaa
open Go.RowKit
set_option linter.unusedVariables false
set_option linter.unusedSimpArgs false

set_option maxRecDepth 100000 in
set_option maxHeartbeats 1000000 in
theorem vsame_any (A A' : Option Addr) (n c n' c' B B' : Nat) (l l' : List Nat) (w : World) (h : VL w B A n l) (h' : VL w B' A' n' l') (hm : n ≤ maxLen) (hm' : n' ≤ maxLen) :
    Calls Try.prog 13 #[.slice A n c, .slice A' n' c'] w fun e w' => e = .returned (.bool (l == l')) ∧ ∃ q, w' = w.drewN q := by
  unfold maxLen at hm hm'
  by_cases hne : n = n'
  · subst hne
    go_enter Try.func13, Try.ntmps13
    go_wp2
    go_loopw [5] (fun i wr => ∃ k q : Nat, k ≤ n ∧ i = .int .i64 k ∧ wr = w.drewN q ∧ Hid (l.take k = l'.take k)) (fun i _ => n - (intOf i).toNat)
    case atStart => exact ⟨0, 0, Nat.zero_le _, rfl, rfl, rfl⟩
    case round =>
      obtain ⟨k, q, hk, rfl, rfl, he⟩ := hrel
      by_cases hlt : k < n
      · obtain ⟨b, o, rfl, hb, x, hx, hx32, hc⟩ := h.at_ hlt
        obtain ⟨b', o', rfl, hb', x', hx', hx32', hc'⟩ := h'.at_ hlt
        have HX := Lib.hid hx
        have HX' := Lib.hid hx'
        clear hx hx'
        by_cases hxx : x = x'
        · subst hxx
          go_wp2
          go_quiet (fail)
          go_wp2
          go_roundw
          case rel => exact ⟨k + 1, _, by omega, by go_num, rfl, Lib.hid (by rw [vtk_snoc HX.out, vtk_snoc HX'.out, he.out])⟩
          case measure => simp [intOf]; omega
        · have hb1 : ((x : Int) != (x' : Int)) = true := by
            rw [bne_iff_ne]; intro e; exact hxx (by omega)
          go_wp2
          go_quiet (fail)
          go_wp2
          go_ret
          exact ⟨ret1b (by
            symm
            rw [Bool.eq_false_iff]
            intro e
            have e' := eq_of_beq e
            have p := HX.out
            rw [e', HX'.out] at p
            exact hxx (Option.some.inj p).symm), q + nq, World.drewN_drewN _ _ _⟩
      · go_wp2
        go_ret
        exact ⟨ret1b (by
          have e : l = l' := by
            have := he.out
            rwa [List.take_of_length_le (by have := h.len; omega), List.take_of_length_le (by have := h'.len; omega)] at this
          rw [e]
          simp), _, rfl⟩
  · have hne2 : ((n : Int) != (n' : Int)) = true := by rw [bne_iff_ne]; omega
    go_enter Try.func13, Try.ntmps13
    go_wp2
    go_ret
    exact ⟨ret1b (by symm; rw [Bool.eq_false_iff]; intro e; exact hne (by rw [← h.len, ← h'.len, eq_of_beq e])), 0, rfl⟩
theorem al_vsame (A A' : Option Addr) (n c n' c' : Nat) (l l' : List Nat) (w : World) (h : VL w w.heap.size A n l) (h' : VL w w.heap.size A' n' l') (hm : n ≤ maxLen) (hm' : n' ≤ maxLen) (v : Bool) (hv : (l == l') = v) :
    Calls Try.prog 13 #[.slice A n c, .slice A' n' c'] w fun e w' => e = .returned (.bool v) ∧ Below w.heap.size w w' :=
  (vsame_any A A' n c n' c' _ _ l l' w h h' hm hm').mono fun e w' ⟨he, q, hq⟩ => by
    subst hv
    subst hq
    exact ⟨he, below_drewN (Below.refl _ _) _⟩
theorem lit4 (v : Nat) (hv : v ≤ 4294967295) : #[Value.int .u8 ((v : Int) / 16777216), .int .u8 ((v : Int) / 65536 % 256), .int .u8 ((v : Int) / 256 % 256), .int .u8 ((v : Int) % 256)] = (bvs (putL v 4)).toArray := by
  rw [putL_four]
  simp only [bvs, bv, List.map_cons, List.map_nil, UInt8.toNat_ofNat', Array.mk.injEq, List.cons.injEq, Value.int.injEq, true_and, and_true]
  omega
attribute [local irreducible] putL byt mkO offL rawP verL
set_option maxRecDepth 100000 in
set_option maxHeartbeats 4000000 in
theorem romake_any (f : UInt8) (A0 A1 A : Option Addr) (c0 c1 n c : Nat) (a b : List UInt8) (l : List Nat) (w : World) (h0 : RB w w.heap.size A0 a.length a) (m0 : a.length ≤ c0 ∧ c0 ≤ maxLen) (h1 : RB w w.heap.size A1 b.length b) (m1 : b.length ≤ c1 ∧ c1 ≤ maxLen) (ha : a.length ≤ 1000000) (hb : b.length ≤ 1000000) (h : VL w w.heap.size A n l) (hn : n ≤ maxLen) :
    Calls Try.prog 9 #[.int .u8 (f.toNat : Int), .slice A0 a.length c0, .slice A1 b.length c1, .slice A n c] w (RetBE (mkO f a b l).1.length (mkO f a b l).1 (mkO f a b l).2 w) := by
  have hl := h.len
  unfold maxLen at hn
  have H := Lib.hid h
  have hf8 := f.toNat_lt
  have HB := Lib.hid (rhbytes_any ⟨f128 f, 0, A0, c0, a, A1, c1, b⟩ w ⟨h0, h1, m0, m1, Nat.zero_le _⟩ ha hb)
  have ep : (⟨f128 f, 0, A0, c0, a, A1, c1, b⟩ : Hd).pl = (f128 f, 0, a, b) := rfl
  rw [ep] at HB
  have hfe : (f.toNat : Int) % 128 + 128 = ((f128 f).toNat : Int) := by rw [f128_nat]; omega
  clear h h0 h1 ep
  rcases mk_cases f a b l with ⟨k, e⟩ | ⟨k, e⟩ | ⟨k1, k2, k3, kb, e⟩ | ⟨k1, k2, kb, e, ka, kbb⟩
  · rw [e]
    have d : decide ((n : Int) < 1) = true := decide_eq_true (by omega)
    clear k e hl
    go_enter Try.func9, Try.ntmps9
    go_wp2_with fail
    go_ret2
    exact ⟨none, 0, rfl, OwnB.nil_ _ _, Below.refl _ _⟩
  · rw [e]
    have d : decide ((n : Int) < 1) = false := decide_eq_false (by omega)
    have d2 : decide (64 < (n : Int)) = true := decide_eq_true (by omega)
    clear k e hl
    go_enter Try.func9, Try.ntmps9
    go_wp2_with fail
    go_ret2
    exact ⟨none, 0, rfl, OwnB.nil_ _ _, Below.refl _ _⟩
  · rw [e]
    rw [kb] at HB
    have d : decide ((n : Int) < 1) = false := decide_eq_false (by omega)
    have d2 : decide (64 < (n : Int)) = false := decide_eq_false (by omega)
    clear k1 k2 k3 kb e hl
    go_enter Try.func9, Try.ntmps9
    go_wp2_with fail
    refine HB.out.mono ?_
    rintro e w1 ⟨A2, c2, rfl, ho, hb⟩
    have B1 := Lib.hid hb
    clear ho hb
    go_wp2_with fail
    go_ret2
    exact ⟨none, 0, rfl, OwnB.nil_ _ _, B1.out⟩
  · rw [e]
    rw [kb] at HB
    have d : decide ((n : Int) < 1) = false := decide_eq_false (by omega)
    have d2 : decide (64 < (n : Int)) = false := decide_eq_false (by omega)
    obtain ⟨P, HP⟩ : ∃ P, Hid (P = rawP (f128 f, 0, a, b) ∧ P.length ≤ 600) := ⟨_, Lib.hid ⟨rfl, by rw [raw_len]; simp only; omega⟩⟩
    rw [← HP.out.1] at HB
    have HE : Hid (offL f a b l = P ++ verL l) := Lib.hid (by rw [HP.out.1]; unfold offL; rfl)
    rw [HE.out]
    have HL := Lib.hid hl
    have n64 : n ≤ 64 := by omega
    clear k1 k2 kb e hl HE ka kbb
    go_enter Try.func9, Try.ntmps9
    go_wp2_with fail
    refine HB.out.mono ?_
    rintro e w1 ⟨A2, c2, rfl, ho, hb⟩
    have K1 := Lib.hid (And.intro ho hb)
    clear ho hb HB
    go_wp2_with fail
    go_loopw [10, 12, 13] (fun o i _ wr => ∃ (k m A3 c3 : _), k ≤ n ∧ i = .int .i64 (k : Int) ∧ o = .slice A3 m c3 ∧ m ≤ 600 + 4 * k ∧ Hid (OwnB wr w.heap.size A3 m c3 (P ++ verL (l.take k)) ∧ Below w.heap.size w wr)) (fun _ i _ _ => n - (intOf i).toNat)
    case atStart => exact ⟨0, P.length, A2, c2, Nat.zero_le _, rfl, rfl, HP.out.2, Lib.hid ⟨by simpa [verL] using K1.out.1, K1.out.2⟩⟩
    case round =>
      obtain ⟨k, m, A3, c3, hk, rfl, rfl, hm, HR⟩ := hrel
      by_cases hlt : k < n
      · obtain ⟨b2, o2, rfl, hb2, x, hx, hx32, hcl⟩ := (H.out.below HR.out.2).at_ hlt
        have HX := Lib.hid (verL_step hx)
        have H4 := Lib.hid (lit4 x hx32)
        clear hx
        go_wp2_with (first
          | (at_builtin; refine wpList_app rfl (.tmp 45) (.tmp 57) rfl w.heap.size _ _ _ (P ++ verL (l.take k)) rfl (by exact (HR.out.1.below (below_alloc _ _))) _ (some ⟨wr.heap.size, 0, none⟩) 4 4 (putL x 4) rfl (by exact (RB.lit wr (putL x 4) _ 4 _ H4.out (putL_len x 4) rfl)) (by omega) (by exact (bel_next HR.out.2 (below_alloc _ _)).size) ?_; intro A4 c4 w4 hown4 _ hb4))
        go_roundw
        case rel =>
          exact ⟨k + 1, m + 4, A4, c4, by omega, by go_num, rfl, by omega, Lib.hid ⟨by rw [HX.out, ← List.append_assoc]; exact hown4, (bel_next HR.out.2 (below_alloc _ _)).trans hb4⟩⟩
        case measure => simp [intOf]; omega
      · obtain rfl : k = n := by omega
        have e : l.take k = l := List.take_of_length_le (by have := HL.out; omega)
        rw [e] at HR
        clear e
        go_wp2_with fail
        go_ret2
        have hlen := HR.out.1.len
        exact ⟨A3, c3, by rw [hlen]; rfl, by rw [hlen]; exact HR.out.1, HR.out.2⟩
end Go.Proofs.Ytppopdjfecabfaa
