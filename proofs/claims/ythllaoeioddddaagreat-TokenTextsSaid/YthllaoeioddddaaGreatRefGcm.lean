/- The reference of layer 7 (gcm): tags, sealed texts, texts opened. Conditions: the slices' cells are readable; the key has sixteen bytes; lengths are at most 65535. -/
import Derived.Test.YthllaoeioddddaaGreatRefCountAll
import Derived.Test.YthllaoeioddddaaGreatRefGhash
namespace Go.Proofs.YthllaoeioddddaaGreat
open Go.RowKit
set_option linter.unusedVariables false
set_option linter.unusedSimpArgs false

/-- The first block of a nonce; a key's hash key; a tag; a turned text; a sealed text. -/
def fstL (n : List UInt8) : List UInt8 := n ++ [0, 0, 0, 1]
def hkL (k : List UInt8) : List UInt8 := encL k tableL (List.replicate 16 0)
def tagL (k n t a : List UInt8) : List UInt8 := xorL (bB (sumG (nB (hkL k)) a t)) (encL k tableL (fstL n))
def trnL (k n t : List UInt8) : List UInt8 := xorL (strmL k (aftL (fstL n) 1) t.length) t
/-- What Tag, Seal and Open answer: bytes, an error's number. -/
def tagR (k n t a : List UInt8) : List UInt8 × Int := if n.length = 12 then (tagL k n t a, 0) else ([], 11)
def sealR (k n t a : List UInt8) : List UInt8 × Int := if n.length = 12 then (trnL k n t ++ tagL k n (trnL k n t) a, 0) else ([], 11)
def openR (k n s a : List UInt8) : List UInt8 × Int :=
  if n.length = 12 then (if s.length < 16 then ([], 12) else if tagL k n (s.take (s.length - 16)) a = s.drop (s.length - 16) then (trnL k n (s.take (s.length - 16)), 0) else ([], 13)) else ([], 11)
theorem fstL_len (n : List UInt8) (h : n.length = 12) : (fstL n).length = 16 := by
  unfold fstL
  rw [List.length_append, h]
  rfl
theorem hkL_len (k : List UInt8) (h : k.length = 16) : (hkL k).length = 16 := encL_len k tableL _ h (by simp)
theorem tagL_len (k n t a : List UInt8) (h : k.length = 16) (hn : n.length = 12) : (tagL k n t a).length = 16 := by
  unfold tagL
  rw [xorL_len _ _ (by rw [bB_len, encL_len k tableL _ h (fstL_len n hn)]), bB_len]
theorem trnL_len (k n t : List UInt8) (h : k.length = 16) (hn : n.length = 12) : (trnL k n t).length = t.length := by
  have hs := strmL_len k (aftL (fstL n) 1) t.length h (aftL_len _ 1 (fstL_len n hn))
  unfold trnL
  rw [xorL_len _ _ hs.symm, hs]
theorem xorL_again : ∀ s t : List UInt8, s.length = t.length → xorL s (xorL s t) = t
  | [], [], _ => by unfold xorL; rfl
  | x :: s, y :: t, h => by
    have := xorL_again s t (by simpa using h)
    unfold xorL at this ⊢
    rw [List.zipWith_cons_cons, List.zipWith_cons_cons, this, ← UInt8.xor_assoc, UInt8.xor_self, UInt8.zero_xor]
/-- What is turned twice is as it was. -/
theorem trn_trn (k n t : List UInt8) (h : k.length = 16) (hn : n.length = 12) : trnL k n (trnL k n t) = t := by
  have hl := trnL_len k n t h hn
  have hs := strmL_len k (aftL (fstL n) 1) t.length h (aftL_len _ 1 (fstL_len n hn))
  show xorL (strmL k (aftL (fstL n) 1) (trnL k n t).length) (trnL k n t) = t
  rw [hl]
  exact xorL_again _ _ hs
/-- What is sealed is opened as it was. -/
theorem open_seal (k n t a : List UInt8) (h : k.length = 16) (hn : n.length = 12) : openR k n (sealR k n t a).1 a = (t, 0) := by
  have hl := trnL_len k n t h hn
  have hg := tagL_len k n (trnL k n t) a h hn
  have hs : (trnL k n t ++ tagL k n (trnL k n t) a).length = t.length + 16 := by rw [List.length_append, hl, hg]
  unfold openR sealR
  rw [if_pos hn, if_pos hn, if_neg (by show ¬ (trnL k n t ++ tagL k n (trnL k n t) a).length < 16; omega)]
  show (if tagL k n ((trnL k n t ++ tagL k n (trnL k n t) a).take ((trnL k n t ++ tagL k n (trnL k n t) a).length - 16)) a = (trnL k n t ++ tagL k n (trnL k n t) a).drop ((trnL k n t ++ tagL k n (trnL k n t) a).length - 16) then (trnL k n ((trnL k n t ++ tagL k n (trnL k n t) a).take ((trnL k n t ++ tagL k n (trnL k n t) a).length - 16)), (0 : Int)) else ([], 13)) = (t, 0)
  rw [hs, Nat.add_sub_cancel, List.take_left' hl, List.drop_left' hl, if_pos rfl, trn_trn k n t h hn]
/-- What a call answers, of a pair of bytes and an error's number. -/
def RetQ (r : List UInt8 × Int) (w : World) (e : Ending) (w' : World) : Prop := RetBE r.1.length r.1 r.2 w e w'
theorem RetQ.bad {w : World} (x : Int) : RetQ ([], x) w (.returned (.tuple #[.slice none 0 0, .int .i64 x])) w := ⟨none, 0, rfl, OwnB.nil_ _ _, Below.refl _ _⟩
attribute [local irreducible] aftL encL tableL blksL blkL strmL putL numL xorL turnAt fstL hkL tagL trnL bB sumG nB

set_option maxRecDepth 100000 in
set_option maxHeartbeats 2000000 in
theorem rencrypt_any (K A : Option Addr) (ck c0 : Nat) (key b : List UInt8) (w : World) (hk : RB w w.heap.size K 16 key) (hck : 16 ≤ ck) (hb : RB w w.heap.size A 16 b) :
    Calls Tryz.prog 97 #[.slice K 16 ck, .slice A 16 c0] w (RetB 16 (encL key tableL b) w) := by
  have HK := Lib.hid hk
  have HC := Lib.hid hck
  have HB := Lib.hid hb
  clear hk hck hb
  go_enter Tryz.func97, Tryz.ntmps97
  go_wp2_with fail
  refine (table_any _).mono ?_
  rintro e w1 ⟨AT, cT, rfl, ho1, hb1⟩
  have HO1 := Lib.hid ho1
  have HB1 := Lib.hid hb1
  clear ho1 hb1
  go_wp2_with fail
  refine (with_any A K AT c0 ck cT key tableL b _ (by exact HK.out.step HB1.out) HC.out (by exact HB.out.step HB1.out) (by exact HO1.out.rb)).mono ?_
  rintro e w2 ⟨A2, c2, rfl, ho2, hb2⟩
  have HO2 := Lib.hid ho2
  have HB2 := Lib.hid hb2
  clear ho2 hb2
  go_wp2_with fail
  go_ret
  exact ⟨A2, c2, rfl, HO2.out.base_le HB1.out.size, HB1.out.trans (HB2.out.mono HB1.out.size)⟩
theorem OwnB.other {w : World} {base n c g : Nat} {l : List UInt8} (h : OwnB w base (some ⟨g, 0, none⟩) n c l) {b : Nat} (hne : b ≠ g) (k : Nat) (v : Value) : OwnB (w.setCell ⟨b, k, none⟩ v) base (some ⟨g, 0, none⟩) n c l := by
  refine ⟨h.1, ?_⟩
  rcases h.2 with h0 | ⟨g2, cap, cur, hv, hb, hh, r⟩
  · exact .inl h0
  · refine .inr ⟨g2, cap, cur, hv, hb, ?_, r⟩
    injection hv with hA
    injection hA with hA
    injection hA with hA
    rw [Below.heap_setCell w ⟨b, k, none⟩ v g2 (by show g2 ≠ b; omega)]
    exact hh
theorem fst_app (n : List UInt8) : ([] ++ n) ++ [0, 0, 0, 1] = fstL n := by unfold fstL; rw [List.nil_append]
set_option maxRecDepth 100000 in
set_option maxHeartbeats 2000000 in
theorem rfirst_any (A : Option Addr) (c0 : Nat) (n : List UInt8) (w : World) (h : RB w w.heap.size A 12 n) :
    Calls Tryz.prog 81 #[.slice A 12 c0] w (RetB 16 (fstL n) w) := by
  have H := Lib.hid h
  have HF := Lib.hid (fst_app n)
  clear h
  go_enter Tryz.func81, Tryz.ntmps81
  go_wp2_with (first
    | (at_builtin; refine wpList_app rfl (.tmp 3) (.tmp 4) rfl w.heap.size _ _ _ [] rfl (OwnB.lit w _ [] #[] 0 rfl rfl (by unfold maxLen; omega) (Nat.le_refl _)) w.heap.size A 12 c0 n rfl (H.out.alloc (Nat.le_refl _) _) (by omega) (by simp) ?_; intro A1 c1 w1 ho1 _ hb1; have HO1 := Lib.hid ho1; have HB1 := Lib.hid ((below_alloc w (.cells #[] 5)).trans hb1); clear ho1 hb1)
    | (at_builtin; refine wpList_app rfl (.tmp 5) (.tmp 6) rfl w.heap.size A1 12 c1 ([] ++ n) rfl (by exact HO1.out.alloc _) _ (some ⟨w1.heap.size, 0, none⟩) 4 4 [0, 0, 0, 1] rfl (by exact RB.lit w1 [0, 0, 0, 1] _ 4 _ rfl rfl rfl) (by omega) (by have := HB1.out.size; simp; omega) ?_; intro A2 c2 w2 ho2 _ hb2; rw [HF.out] at ho2; have HO2 := Lib.hid ho2; have HB2 := Lib.hid ((HB1.out.alloc HB1.out.size _).trans hb2); clear ho2 hb2))
  go_ret
  exact ⟨A2, c2, rfl, HO2.out, HB2.out⟩
set_option maxRecDepth 100000 in
set_option maxHeartbeats 2000000 in
theorem rwrong_no (A0 A1 A2 A3 : Option Addr) (c0 c1 n2 c2 n3 c3 : Nat) (w : World) (h2 : n2 ≤ 65535) (h3 : n3 ≤ 65535) :
    Calls Tryz.prog 78 #[.slice A0 16 c0, .slice A1 12 c1, .slice A2 n2 c2, .slice A3 n3 c3] w fun e w' => e = .returned (.bool false) ∧ w = w' := by
  have g2 : decide (65535 < (n2 : Int)) = false := decide_eq_false (by omega)
  have g3 : decide (65535 < (n3 : Int)) = false := decide_eq_false (by omega)
  go_enter Tryz.func78, Tryz.ntmps78
  go_wp2_with fail
  go_ret
  exact ⟨rfl, rfl⟩
set_option maxRecDepth 100000 in
set_option maxHeartbeats 2000000 in
theorem rwrong_yes (A0 A1 A2 A3 : Option Addr) (c0 n1 c1 n2 c2 n3 c3 : Nat) (w : World) (h1 : n1 ≠ 12) :
    Calls Tryz.prog 78 #[.slice A0 16 c0, .slice A1 n1 c1, .slice A2 n2 c2, .slice A3 n3 c3] w fun e w' => e = .returned (.bool true) ∧ w = w' := by
  have g1 : ((n1 : Int) == 12) = false := by rw [beq_eq_false_iff_ne]; omega
  have g2 : ((n1 : Int) != 12) = true := by simp [bne, g1]
  go_enter Tryz.func78, Tryz.ntmps78
  go_wp2_with fail
  go_ret
  exact ⟨rfl, rfl⟩
theorem tag_eq (k n t a : List UInt8) : xorL (bB (sumG (nB (hkL k)) a t)) (encL k tableL (fstL n)) = tagL k n t a := by unfold tagL; rfl
theorem hk_eq (k : List UInt8) : encL k tableL (List.replicate 16 0) = hkL k := by unfold hkL; rfl
set_option maxRecDepth 100000 in
set_option maxHeartbeats 2000000 in
theorem rtag_any (A0 A1 A2 A3 : Option Addr) (c0 c1 n2 c2 n3 c3 : Nat) (k n t a : List UInt8) (w : World) (h0 : RB w w.heap.size A0 16 k) (m0 : 16 ≤ c0) (h1 : RB w w.heap.size A1 12 n) (h2 : RB w w.heap.size A2 n2 t) (h3 : RB w w.heap.size A3 n3 a) (hn2 : n2 ≤ 65535) (hn3 : n3 ≤ 65535) :
    Calls Tryz.prog 82 #[.slice A0 16 c0, .slice A1 12 c1, .slice A2 n2 c2, .slice A3 n3 c3] w (RetBE 16 (tagL k n t a) 0 w) := by
  have H0 := Lib.hid h0
  have H1 := Lib.hid h1
  have H2 := Lib.hid h2
  have H3 := Lib.hid h3
  have HM0 := Lib.hid m0
  have HW := Lib.hid (rwrong_no A0 A1 A2 A3 c0 c1 n2 c2 n3 c3 w hn2 hn3)
  obtain ⟨s, HS⟩ : ∃ s, Hid (s = bB (sumG (nB (hkL k)) a t) ∧ s.length = 16) := ⟨_, Lib.hid ⟨rfl, bB_len _⟩⟩
  obtain ⟨x, HX⟩ : ∃ x, Hid (x = encL k tableL (fstL n) ∧ x.length = 16) := ⟨_, Lib.hid ⟨rfl, encL_len k tableL _ h0.len (fstL_len n h1.len)⟩⟩
  have HT : Hid (xorL s x = tagL k n t a) := Lib.hid (by rw [HS.out.1, HX.out.1]; exact tag_eq k n t a)
  have HHK := Lib.hid (hk_eq k)
  clear h0 h1 h2 h3 m0
  go_enter Tryz.func82, Tryz.ntmps82
  go_wp2_with fail
  refine HW.out.mono ?_
  rintro e w1 ⟨rfl, rfl⟩
  clear HW
  go_wp2_with (first
    | (at_make; refine wpList_mk rfl _ _ rfl w.heap.size .i64 .i64 _ _ 16 rfl rfl rfl rfl (by omega) (Nat.le_refl _) ?_; intro w1 hown1 hs1 hb1; have HO1 := Lib.hid hown1; have HB1 := Lib.hid hb1; clear hown1 hb1 hs1))
  refine (rencrypt_any A0 _ c0 16 k (List.replicate 16 0) _ (by exact H0.out.step HB1.out) HM0.out (by exact HO1.out.rb)).mono ?_
  rw [HHK.out]
  rintro e w2 ⟨A5, c5, rfl, ho5, hb5⟩
  have HR5 := Lib.hid ho5.rb
  have HB2 := Lib.hid (bel_next HB1.out hb5)
  clear ho5 hb5 HO1 HB1
  go_wp2_with fail
  refine (rsum_any A5 A3 A2 c5 n3 c3 n2 c2 (hkL k) a t _ (by exact HR5.out) (by exact H3.out.step HB2.out) (by exact H2.out.step HB2.out) (by omega) (by omega)).mono ?_
  rw [← HS.out.1]
  rintro e w3 ⟨A6, c6, rfl, ho6, hb6⟩
  obtain ⟨g6, rfl, hg6, _⟩ := OwnB.form ho6 (by omega)
  have HO6 := Lib.hid (ho6.base_le HB2.out.size)
  have hwg : w.heap.size ≤ g6 := Nat.le_trans HB2.out.size hg6
  have HB3 := Lib.hid (bel_next HB2.out hb6)
  clear ho6 hb6 HR5 hg6
  go_wp2_with fail
  refine (rfirst_any A1 c1 n _ (by exact H1.out.step HB3.out)).mono ?_
  rintro e w4 ⟨A7, c7, rfl, ho7, hb7⟩
  have HR7 := Lib.hid ho7.rb
  have HB4 := Lib.hid (bel_next HB3.out hb7)
  have HO64 := Lib.hid (HO6.out.below hb7)
  clear ho7 hb7 HO6
  go_wp2_with fail
  refine (rencrypt_any A0 A7 c0 c7 k (fstL n) _ (by exact H0.out.step HB4.out) HM0.out (by exact HR7.out)).mono ?_
  rw [← HX.out.1]
  rintro e w5 ⟨A8, c8, rfl, ho8, hb8⟩
  obtain ⟨g8, rfl, hg8, _⟩ := OwnB.form ho8 (by omega)
  have HO8 := Lib.hid ho8
  have HB5 := Lib.hid (bel_next HB4.out hb8)
  have HO65 : Hid (OwnB w5 w.heap.size (some ⟨g6, 0, none⟩) 16 c6 (turnAt 0 s x)) := Lib.hid (by rw [turnAt_zero]; exact HO64.out.below hb8)
  have hne : g6 ≠ g8 := by
    have := (World.ownsRow.lt HO64.out g6 rfl).2
    omega
  clear ho8 hb8 HR7 HO64 hg8
  go_wp2_with fail
  go_loopw [13] (fun i wr => ∃ j : Nat, j ≤ 16 ∧ i = .int .i64 j ∧ Hid (OwnB wr w.heap.size (some ⟨g6, 0, none⟩) 16 c6 (turnAt j s x)) ∧ Hid (OwnB wr w4.heap.size (some ⟨g8, 0, none⟩) 16 c8 x) ∧ Hid (Below w.heap.size w wr)) (fun i _ => 16 - (intOf i).toNat)
  case atStart => exact ⟨0, by omega, rfl, HO65, HO8, HB5⟩
  case round =>
    obtain ⟨j, hj, rfl, ho, hx, hb⟩ := hrel
    clear HO65 HO8 HB5
    by_cases hlt : j < 16
    · obtain ⟨y, hy⟩ : ∃ y, x[j]? = some y := ⟨_, List.getElem?_eq_getElem (by have := HX.out.2; omega)⟩
      obtain ⟨z, hz⟩ : ∃ z, s[j]? = some z := ⟨_, List.getElem?_eq_getElem (by have := HS.out.2; omega)⟩
      have hc0 := ho.out.cellAt (turnAt_get 16 j s x z HS.out.2 HX.out.2 hz)
      have hc1 := hx.out.cellAt hy
      have hf0 := ho.out.freeAt j
      have HN := Lib.hid (turnAt_next 16 j s x z y HS.out.2 HX.out.2 hz hy)
      unfold bv at hc0
      clear hy hz
      go_wp2_with fail
      go_region
      all_goals
        go_wp2
        go_roundw
        case rel => exact ⟨j + 1, by omega, by go_num, Lib.hid (by rw [← HN.out]; exact ho.out.drew.stored j _ _ (by rw [xor_byte]; rfl)), Lib.hid (OwnB.other hx.out.drew hne j _), Lib.hid (hb.out.drew.setCell (p := ⟨g6, j, none⟩) hwg _)⟩
        case measure => simp [intOf]; omega
    · obtain rfl : j = 16 := by omega
      have h := ho.out
      rw [turnAt_end 16 s x HS.out.2 HX.out.2, HT.out] at h
      go_wp2_with fail
      go_ret2
      exact ⟨_, _, rfl, h, hb.out⟩
theorem trn_eq (k n t : List UInt8) (m : Nat) (h : t.length = m) : xorL (strmL k (aftL (fstL n) 1) m) t = trnL k n t := by subst h; unfold trnL; rfl
set_option maxRecDepth 100000 in
set_option maxHeartbeats 2000000 in
theorem rseal_any (A0 A1 A2 A3 : Option Addr) (c0 c1 n2 c2 n3 c3 : Nat) (k n t a : List UInt8) (w : World) (h0 : RB w w.heap.size A0 16 k) (m0 : 16 ≤ c0) (h1 : RB w w.heap.size A1 12 n) (h2 : RB w w.heap.size A2 n2 t) (h3 : RB w w.heap.size A3 n3 a) (hn2 : n2 ≤ 65535) (hn3 : n3 ≤ 65535) :
    Calls Tryz.prog 51 #[.slice A0 16 c0, .slice A1 12 c1, .slice A2 n2 c2, .slice A3 n3 c3] w (RetBE (n2 + 16) (trnL k n t ++ tagL k n (trnL k n t) a) 0 w) := by
  have HTRN := Lib.hid (trn_eq k n t n2 h2.len)
  have H0 := Lib.hid h0
  have H1 := Lib.hid h1
  have H2 := Lib.hid h2
  have H3 := Lib.hid h3
  have HM0 := Lib.hid m0
  have HW := Lib.hid (rwrong_no A0 A1 A2 A3 c0 c1 n2 c2 n3 c3 w hn2 hn3)
  obtain ⟨u, HU⟩ : ∃ u, Hid (u = trnL k n t) := ⟨_, Lib.hid rfl⟩
  rw [← HU.out] at HTRN ⊢
  clear h0 h1 h2 h3 m0
  go_enter Tryz.func51, Tryz.ntmps51
  go_wp2_with fail
  refine HW.out.mono ?_
  rintro e w1 ⟨rfl, rfl⟩
  clear HW
  go_wp2_with fail
  refine (rfirst_any A1 c1 n _ (by exact H1.out)).mono ?_
  rintro e w1 ⟨A5, c5, rfl, ho5, hb5⟩
  have HR5 := Lib.hid ho5.rb
  have HB1 := Lib.hid hb5
  clear ho5 hb5
  go_wp2_with fail
  refine (rafter_any A5 c5 (fstL n) 1 _ (by exact HR5.out) (by omega)).mono ?_
  rintro e w2 ⟨A6, c6, rfl, ho6, hb6⟩
  have HR6 := Lib.hid ho6.rb
  have HB2 := Lib.hid (bel_next HB1.out hb6)
  clear ho6 hb6 HR5 HB1
  go_wp2_with fail
  refine (rturn_any A0 A6 A2 c0 c6 n2 c2 k (aftL (fstL n) 1) t _ (by exact H0.out.step HB2.out) HM0.out (by exact HR6.out) (by exact H2.out.step HB2.out) (by omega)).mono ?_
  rw [HTRN.out]
  rintro e w3 ⟨A7, c7, rfl, ho7, hb7⟩
  have HO7 := Lib.hid ho7
  have HS7 := Lib.hid HB2.out.size
  have HB3 := Lib.hid (bel_next HB2.out hb7)
  clear ho7 hb7 HR6 HB2
  go_wp2_with fail
  refine (rtag_any A0 A1 A7 A3 c0 c1 n2 c7 n3 c3 k n u a _ (by exact H0.out.step HB3.out) HM0.out (by exact H1.out.step HB3.out) (by exact HO7.out.rb) (by exact H3.out.step HB3.out) (by omega) (by omega)).mono ?_
  rintro e w4 ⟨A8, c8, rfl, ho8, hb8⟩
  have HO8 := Lib.hid ho8
  have HB4 := Lib.hid (bel_next HB3.out hb8)
  have HO74 := Lib.hid ((HO7.out.below hb8).base_le HS7.out)
  clear ho8 hb8 HO7 HB3
  go_wp2_with (at_builtin; refine wpList_app rfl (.tmp 36) (.tmp 37) rfl w.heap.size A7 n2 c7 u rfl (by exact HO74.out) w4.heap.size A8 16 c8 (tagL k n u a) rfl (by exact HO8.out.rb) (by omega) (by exact HB4.out.size) ?_; intro A9 c9 w9 ho9 _ hb9; have HO9 := Lib.hid ho9; have HB9 := Lib.hid (HB4.out.trans hb9); clear ho9 hb9)
  go_ret2
  exact ⟨A9, c9, rfl, HO9.out, HB9.out⟩
set_option maxRecDepth 100000 in
set_option maxHeartbeats 2000000 in
theorem rseal_bad (A0 A1 A2 A3 : Option Addr) (c0 n1 c1 n2 c2 n3 c3 : Nat) (w : World) (h1 : n1 ≠ 12) :
    Calls Tryz.prog 51 #[.slice A0 16 c0, .slice A1 n1 c1, .slice A2 n2 c2, .slice A3 n3 c3] w fun e w' => e = .returned (.tuple #[.slice none 0 0, .int .i64 11]) ∧ w = w' := by
  have HW := Lib.hid (rwrong_yes A0 A1 A2 A3 c0 n1 c1 n2 c2 n3 c3 w h1)
  go_enter Tryz.func51, Tryz.ntmps51
  go_wp2_with fail
  refine HW.out.mono ?_
  rintro e w1 ⟨rfl, rfl⟩
  go_wp2_with fail
  go_ret2
  exact ⟨rfl, rfl⟩
theorem rseal_r (A0 A1 A2 A3 : Option Addr) (c0 n1 c1 n2 c2 n3 c3 : Nat) (k n t a : List UInt8) (w : World) (h0 : RB w w.heap.size A0 16 k) (m0 : 16 ≤ c0) (h1 : RB w w.heap.size A1 n1 n) (h2 : RB w w.heap.size A2 n2 t) (h3 : RB w w.heap.size A3 n3 a) (hn2 : n2 ≤ 65535) (hn3 : n3 ≤ 65535) :
    Calls Tryz.prog 51 #[.slice A0 16 c0, .slice A1 n1 c1, .slice A2 n2 c2, .slice A3 n3 c3] w (RetQ (sealR k n t a) w) := by
  by_cases h : n1 = 12
  · subst h
    refine (rseal_any A0 A1 A2 A3 c0 c1 n2 c2 n3 c3 k n t a w h0 m0 h1 h2 h3 hn2 hn3).mono fun e w' hr => ?_
    unfold RetQ sealR
    rw [if_pos h1.len]
    show RetBE (trnL k n t ++ tagL k n (trnL k n t) a).length (trnL k n t ++ tagL k n (trnL k n t) a) 0 w e w'
    rw [List.length_append, tagL_len k n _ a h0.len h1.len, trnL_len k n t h0.len h1.len, h2.len]
    exact hr
  · refine (rseal_bad A0 A1 A2 A3 c0 n1 c1 n2 c2 n3 c3 w h).mono fun e w' hr => ?_
    obtain ⟨rfl, rfl⟩ := hr
    unfold sealR
    rw [if_neg (by rw [h1.len]; exact h)]
    exact RetQ.bad 11
set_option maxRecDepth 100000 in
set_option maxHeartbeats 2000000 in
theorem ropen_few (A0 A1 A2 A3 : Option Addr) (c0 n1 c1 n2 c2 n3 c3 : Nat) (w : World) (hn2 : n2 ≤ 65551) (hn3 : n3 ≤ 65535) (h : n1 ≠ 12 ∨ n2 < 16) :
    Calls Tryz.prog 54 #[.slice A0 16 c0, .slice A1 n1 c1, .slice A2 n2 c2, .slice A3 n3 c3] w fun e w' => e = .returned (.tuple #[.slice none 0 0, .int .i64 (if n1 = 12 then 12 else 11)]) ∧ w = w' := by
  by_cases h1 : n1 = 12
  · subst h1
    have g2 : decide (65551 < (n2 : Int)) = false := decide_eq_false (by omega)
    have g3 : decide (65535 < (n3 : Int)) = false := decide_eq_false (by omega)
    have g4 : decide ((n2 : Int) - 16 < 0) = true := decide_eq_true (by omega)
    rw [if_pos rfl]
    go_enter Tryz.func54, Tryz.ntmps54
    go_wp2_with fail
    go_ret2
    exact ⟨rfl, rfl⟩
  · have g1 : ((n1 : Int) == 12) = false := by rw [beq_eq_false_iff_ne]; omega
    have g1' : ((n1 : Int) != 12) = true := by simp [bne, g1]
    rw [if_neg h1]
    go_enter Tryz.func54, Tryz.ntmps54
    go_wp2_with fail
    go_ret2
    exact ⟨rfl, rfl⟩
theorem ext16 (g h : List UInt8) (hg : g.length = 16) (hh : h.length = 16) (he : ∀ i, i < 16 → g[i]? = h[i]?) : g = h := by
  apply List.ext_getElem?
  intro i
  by_cases hi : i < 16
  · exact he i hi
  · rw [List.getElem?_eq_none (by omega), List.getElem?_eq_none (by omega)]
set_option maxRecDepth 100000 in
set_option maxHeartbeats 2000000 in
theorem ropen_any (A0 A1 A2 A3 : Option Addr) (c0 c1 m N c2 n3 c3 : Nat) (k n s a : List UInt8) (w : World) (h0 : RB w w.heap.size A0 16 k) (m0 : 16 ≤ c0) (h1 : RB w w.heap.size A1 12 n) (hN : N = m + 16) (h2 : RB w w.heap.size A2 N s) (m2 : N ≤ c2) (h3 : RB w w.heap.size A3 n3 a) (hn2 : m ≤ 65535) (hn3 : n3 ≤ 65535) :
    Calls Tryz.prog 54 #[.slice A0 16 c0, .slice A1 12 c1, .slice A2 N c2, .slice A3 n3 c3] w (RetQ (if tagL k n (s.take m) a = s.drop m then (trnL k n (s.take m), 0) else ([], 13)) w) := by
  have e2 := h2.len
  have H0 := Lib.hid h0
  have H1 := Lib.hid h1
  have H2 := Lib.hid h2
  have H3 := Lib.hid h3
  have HM0 := Lib.hid m0
  have htk : (s.take m).length = m := by rw [List.length_take]; omega
  have HTRN := Lib.hid (trn_eq k n (s.take m) m htk)
  obtain ⟨g, HG⟩ : ∃ g, Hid (g = tagL k n (s.take m) a ∧ g.length = 16) := ⟨_, Lib.hid ⟨rfl, tagL_len k n _ a h0.len h1.len⟩⟩
  have HDL : Hid ((s.drop m).length = 16) := Lib.hid (by rw [List.length_drop]; omega)
  obtain ⟨R, HR⟩ : ∃ R, Hid (R = (if tagL k n (s.take m) a = s.drop m then (trnL k n (s.take m), (0 : Int)) else ([], 13))) := ⟨_, Lib.hid rfl⟩
  rw [← HR.out]
  have HYES : Hid (g = s.drop m → R = (trnL k n (s.take m), 0)) := Lib.hid (fun h => by rw [HR.out, if_pos (by rw [← HG.out.1]; exact h)])
  have HNO : Hid (g ≠ s.drop m → R = ([], 13)) := Lib.hid (fun h => by rw [HR.out, if_neg (by rw [← HG.out.1]; exact h)])
  have HTL : Hid ((trnL k n (s.take m)).length = m) := Lib.hid (by rw [trnL_len k n _ h0.len h1.len, htk])
  have hcut : ∀ W : World, (Instr.slice 23 (.slice A2 N c2) none (some (.int .i64 (m : Int))) none).run Tryz.prog W = .ok (.slice (cutA A2 c2 0) m c2) W := cut_h A2 N c2 m (by omega)
  have HCUT : Hid (∀ v, Below w.heap.size w v → RB v v.heap.size (cutA A2 c2 0) m (s.take m)) := Lib.hid (fun v hv => (H2.out.step hv).part (i := 0) (j := m) (c := c2) (by omega) (by omega) m2)
  have g2 : decide (65551 < (N : Int)) = false := decide_eq_false (by omega)
  have g3 : decide (65535 < (n3 : Int)) = false := decide_eq_false (by omega)
  have g4 : decide ((m : Int) < 0) = false := decide_eq_false (by omega)
  have r1 : (N : Int) - 16 = (m : Int) := by omega
  have HNN : Hid (N = m + 16 ∧ s.length = N) := Lib.hid ⟨hN, e2⟩
  clear h0 h1 h2 h3 m0 htk hN e2 m2
  go_enter Tryz.func54, Tryz.ntmps54
  go_wp2_with fail
  refine (rtag_any A0 A1 (cutA A2 c2 0) A3 c0 c1 m c2 n3 c3 k n (s.take m) a _ (by exact H0.out) HM0.out (by exact H1.out) (by exact HCUT.out _ (Below.refl _ _)) (by exact H3.out) (by omega) (by omega)).mono ?_
  rw [← HG.out.1]
  rintro e w1 ⟨A4, c4, rfl, ho4, hb4⟩
  obtain ⟨g4', rfl, _, _⟩ := OwnB.form ho4 (by omega)
  have HO4 := Lib.hid ho4
  have HB4 := Lib.hid hb4
  clear ho4 hb4
  go_wp2_with fail
  go_loopw [13] (fun i wr => ∃ j : Nat, j ≤ 16 ∧ i = .int .i64 j ∧ Hid (OwnB wr w.heap.size (some ⟨g4', 0, none⟩) 16 c4 g) ∧ Hid (∀ i, i < j → g[i]? = (s.drop m)[i]?) ∧ Hid (Below w.heap.size w wr)) (fun i _ => 16 - (intOf i).toNat)
  case atStart => exact ⟨0, by omega, rfl, HO4, Lib.hid (fun i h => by omega), HB4⟩
  case round =>
    obtain ⟨j, hj, rfl, ho, he, hb⟩ := hrel
    clear HO4 HB4
    by_cases hlt : j < 16
    · obtain ⟨x, hx⟩ : ∃ x, g[j]? = some x := ⟨_, List.getElem?_eq_getElem (by have := HG.out.2; omega)⟩
      have hc4 := ho.out.cellAt hx
      obtain ⟨p, HP⟩ : ∃ p, Hid (p = m + j) := ⟨_, Lib.hid rfl⟩
      have hpN : p < N := by have := HNN.out.1; have := HP.out; omega
      obtain ⟨g5, o5, rfl, hg5, y, hy, hc5⟩ := (H2.out.step hb.out).at_ (k := p) hpN
      have hyd : (s.drop m)[j]? = some y := by rw [List.getElem?_drop, ← HP.out]; exact hy
      have hmj : (m : Int) + (j : Int) = (p : Int) := by have := HP.out; omega
      by_cases hxy : x = y
      · have hd : ((x.toNat : Int) != (y.toNat : Int)) = false := by rw [hxy]; simp
        have HE : Hid (∀ i, i < j + 1 → g[i]? = (s.drop m)[i]?) := Lib.hid (fun i hi => by
          by_cases hij : i = j
          · rw [hij, hx, hyd, hxy]
          · exact he.out i (by omega))
        clear hx hy hyd
        go_wp2_with fail
        go_region
        all_goals
          go_wp2
          go_roundw
          case rel => exact ⟨j + 1, by omega, by go_num, Lib.hid ho.out.drew, HE, Lib.hid hb.out.drew⟩
          case measure => simp [intOf]; omega
      · have hd : ((x.toNat : Int) != (y.toNat : Int)) = true := by
          rw [bne_iff_ne]
          intro h
          exact hxy (UInt8.toNat_inj.1 (by omega))
        have hR : R = ([], 13) := HNO.out (fun h => hxy (by rw [h, hyd] at hx; exact (Option.some.inj hx).symm))
        clear hx hy hyd
        go_wp2_with fail
        go_region
        all_goals
          go_wp2
          go_ret2
          rw [hR]
          exact ⟨none, 0, rfl, OwnB.nil_ _ _, hb.out.drew⟩
    · obtain rfl : j = 16 := by omega
      have hR := HYES.out (ext16 g _ HG.out.2 HDL.out he.out)
      have HK1 : Hid (RB wr wr.heap.size A1 12 n) := Lib.hid (H1.out.step hb.out)
      have HBD := Lib.hid hb.out.drew
      go_wp2_with fail
      refine wp_region_held_drew (S := fun w' => True) (by kernel_rfl) trivial (fun hHeld => ?_)
      (try dsimp only at hHeld)
      refine wpAnyH_take (i := 0) (v := ?v0_1) rfl (by kernel_rfl) (by kernel_rfl) (by kernel_rfl) (fun _ _ _ h => h) (Or.inl ⟨by rfl, ?hy0_1⟩) hHeld ?_
      case hy0_1 => (intro w hSw; (try dsimp only at hSw); (try simp only [List.getElem_toArray, List.getElem_cons_zero, List.getElem_cons_succ]); go_simp <;> with_reducible rfl)
      (try simp only [Act.put, List.getElem_toArray, List.getElem_cons_zero, List.getElem_cons_succ, List.setIfInBounds_toArray, List.set_cons_zero, List.set_cons_succ])
      refine wpAnyH_take (i := 1) (v := ?v1_2) rfl (by kernel_rfl) (by kernel_rfl) (by kernel_rfl) (fun _ _ _ h => h) (Or.inl ⟨by rfl, ?hy1_2⟩) hHeld ?_
      case hy1_2 => (intro w hSw; (try dsimp only at hSw); (try simp only [List.getElem_toArray, List.getElem_cons_zero, List.getElem_cons_succ]); go_simp <;> with_reducible rfl)
      (try simp only [Act.put, List.getElem_toArray, List.getElem_cons_zero, List.getElem_cons_succ, List.setIfInBounds_toArray, List.set_cons_zero, List.set_cons_succ])
      refine wpAnyH_take (i := 4) (v := ?v4_3) rfl (by kernel_rfl) (by kernel_rfl) (by kernel_rfl) (fun _ _ _ h => h) (Or.inl ⟨by rfl, ?hy4_3⟩) hHeld ?_
      case hy4_3 => (intro w hSw; (try dsimp only at hSw); (try simp only [List.getElem_toArray, List.getElem_cons_zero, List.getElem_cons_succ]); go_simp <;> with_reducible rfl)
      (try simp only [Act.put, List.getElem_toArray, List.getElem_cons_zero, List.getElem_cons_succ, List.setIfInBounds_toArray, List.set_cons_zero, List.set_cons_succ])
      refine wpAnyH_take (i := 5) (v := ?v5_4) rfl (by kernel_rfl) (by kernel_rfl) (by kernel_rfl) (fun _ _ _ h => h) (Or.inl ⟨by rfl, ?hy5_4⟩) hHeld ?_
      case hy5_4 => (intro w hSw; (try dsimp only at hSw); (try simp only [List.getElem_toArray, List.getElem_cons_zero, List.getElem_cons_succ]); go_simp <;> with_reducible rfl)
      (try simp only [Act.put, List.getElem_toArray, List.getElem_cons_zero, List.getElem_cons_succ, List.setIfInBounds_toArray, List.set_cons_zero, List.set_cons_succ])
      refine wpAnyH_take (i := 6) (v := ?v6_5) rfl (by kernel_rfl) (by kernel_rfl) (by kernel_rfl) (fun _ _ _ h => h) (Or.inl ⟨by rfl, ?hy6_5⟩) hHeld ?_
      case hy6_5 => (intro w hSw; (try dsimp only at hSw); (try simp only [List.getElem_toArray, List.getElem_cons_zero, List.getElem_cons_succ]); go_simp <;> with_reducible rfl)
      (try simp only [Act.put, List.getElem_toArray, List.getElem_cons_zero, List.getElem_cons_succ, List.setIfInBounds_toArray, List.set_cons_zero, List.set_cons_succ])
      refine wpAnyH_ready (rs := [2]) (by kernel_rfl) (by simp) ?_
      refine AllReadyH.cons rfl (fun K hK => ?_) AllReadyH.nil
      (try simp only [List.getElem_toArray, List.getElem_cons_zero, List.getElem_cons_succ])
      go_simp
      refine (rfirst_any A1 c1 n _ (by exact HK1.out)).mono ?_
      rintro e v1 ⟨A5, c5, rfl, ho5, hb5⟩
      have HR5 := Lib.hid ho5.rb
      have HB1 := Lib.hid (bel_next HBD.out hb5)
      clear ho5 hb5
      (try go_wp2_with fail)
      refine hK.out _ _ trivial (fun hHeld => ?_)
      clear hK K
      (try simp only [Act.put, List.getElem_toArray, List.getElem_cons_zero, List.getElem_cons_succ, List.setIfInBounds_toArray, List.set_cons_zero, List.set_cons_succ])
      refine wpAnyH_ready (rs := [3]) (by kernel_rfl) (by simp) ?_
      refine AllReadyH.cons rfl (fun K hK => ?_) AllReadyH.nil
      (try simp only [List.getElem_toArray, List.getElem_cons_zero, List.getElem_cons_succ])
      go_simp
      refine (rafter_any A5 c5 (fstL n) 1 _ (by exact HR5.out) (by omega)).mono ?_
      rintro e v2 ⟨A6, c6, rfl, ho6, hb6⟩
      have HR6 := Lib.hid ho6.rb
      have HB2 := Lib.hid (bel_next HB1.out hb6)
      clear ho6 hb6 HR5 HB1
      (try go_wp2_with fail)
      refine hK.out _ _ trivial (fun hHeld => ?_)
      clear hK K
      (try simp only [Act.put, List.getElem_toArray, List.getElem_cons_zero, List.getElem_cons_succ, List.setIfInBounds_toArray, List.set_cons_zero, List.set_cons_succ])
      refine wpAnyH_ready (rs := [7]) (by kernel_rfl) (by simp) ?_
      refine AllReadyH.cons rfl (fun K hK => ?_) AllReadyH.nil
      (try simp only [List.getElem_toArray, List.getElem_cons_zero, List.getElem_cons_succ])
      go_simp
      refine (rturn_any A0 A6 (cutA A2 c2 0) c0 c6 m c2 k (aftL (fstL n) 1) (s.take m) _ (by exact H0.out.step HB2.out) HM0.out (by exact HR6.out) (by exact HCUT.out _ HB2.out) (by omega)).mono ?_
      rw [HTRN.out]
      rintro e v3 ⟨A7, c7, rfl, ho7, hb7⟩
      have HO7 := Lib.hid (ho7.base_le HB2.out.size)
      have HB3 := Lib.hid (bel_next HB2.out hb7)
      clear ho7 hb7 HR6 HB2
      (try go_wp2_with fail)
      refine hK.out _ _ trivial (fun hHeld => ?_)
      clear hK K
      (try simp only [Act.put, List.getElem_toArray, List.getElem_cons_zero, List.getElem_cons_succ, List.setIfInBounds_toArray, List.set_cons_zero, List.set_cons_succ])
      refine wpAnyH_take (i := 8) (v := ?v8_6) rfl (by kernel_rfl) (by kernel_rfl) (by kernel_rfl) (fun _ _ _ h => h) (Or.inl ⟨by rfl, ?hy8_6⟩) hHeld ?_
      case hy8_6 => (intro w hSw; (try dsimp only at hSw); (try simp only [List.getElem_toArray, List.getElem_cons_zero, List.getElem_cons_succ]); go_simp <;> with_reducible rfl)
      (try simp only [Act.put, List.getElem_toArray, List.getElem_cons_zero, List.getElem_cons_succ, List.setIfInBounds_toArray, List.set_cons_zero, List.set_cons_succ])
      refine wpAnyH_take (i := 9) (v := ?v9_7) rfl (by kernel_rfl) (by kernel_rfl) (by kernel_rfl) (fun _ _ _ h => h) (Or.inl ⟨by rfl, ?hy9_7⟩) hHeld ?_
      case hy9_7 => (intro w hSw; (try dsimp only at hSw); (try simp only [List.getElem_toArray, List.getElem_cons_zero, List.getElem_cons_succ]); go_simp <;> with_reducible rfl)
      (try simp only [Act.put, List.getElem_toArray, List.getElem_cons_zero, List.getElem_cons_succ, List.setIfInBounds_toArray, List.set_cons_zero, List.set_cons_succ])
      refine wpAnyH_take (i := 10) (v := ?v10_8) rfl (by kernel_rfl) (by kernel_rfl) (by kernel_rfl) (fun _ _ _ h => h) (Or.inl ⟨by rfl, ?hy10_8⟩) hHeld ?_
      case hy10_8 => (intro w hSw; (try dsimp only at hSw); (try simp only [List.getElem_toArray, List.getElem_cons_zero, List.getElem_cons_succ]); go_simp <;> with_reducible rfl)
      (try simp only [Act.put, List.getElem_toArray, List.getElem_cons_zero, List.getElem_cons_succ, List.setIfInBounds_toArray, List.set_cons_zero, List.set_cons_succ])
      refine wpAnyH_ready (rs := [11]) (by kernel_rfl) (by simp) ?_
      refine AllReadyH.cons rfl (fun K hK => ?_) AllReadyH.nil
      (try simp only [List.getElem_toArray, List.getElem_cons_zero, List.getElem_cons_succ])
      go_simp
      refine hK.out _ _ trivial (fun _ => ?_)
      clear hK K
      (try simp only [Act.put, List.getElem_toArray, List.getElem_cons_zero, List.getElem_cons_succ, List.setIfInBounds_toArray, List.set_cons_zero, List.set_cons_succ])
      refine wpAnyH_done (by kernel_rfl) ?_ _
      go_wp2_with fail
      go_ret2
      rw [hR]
      exact ⟨A7, c7, by rw [HTL.out]; rfl, by show OwnB _ _ _ (trnL k n (s.take m)).length _ _; rw [HTL.out]; exact HO7.out, HB3.out⟩
theorem ropen_r (A0 A1 A2 A3 : Option Addr) (c0 n1 c1 n2 c2 n3 c3 : Nat) (k n s a : List UInt8) (w : World) (h0 : RB w w.heap.size A0 16 k) (m0 : 16 ≤ c0) (h1 : RB w w.heap.size A1 n1 n) (h2 : RB w w.heap.size A2 n2 s) (m2 : n2 ≤ c2) (h3 : RB w w.heap.size A3 n3 a) (hn2 : n2 ≤ 65551) (hn3 : n3 ≤ 65535) :
    Calls Tryz.prog 54 #[.slice A0 16 c0, .slice A1 n1 c1, .slice A2 n2 c2, .slice A3 n3 c3] w (RetQ (openR k n s a) w) := by
  by_cases h : n1 ≠ 12 ∨ n2 < 16
  · refine (ropen_few A0 A1 A2 A3 c0 n1 c1 n2 c2 n3 c3 w hn2 hn3 h).mono fun e w' hr => ?_
    obtain ⟨rfl, rfl⟩ := hr
    unfold openR
    by_cases h12 : n1 = 12
    · rw [if_pos h12, if_pos (by rw [h1.len]; exact h12), if_pos (by rw [h2.len]; omega)]
      exact RetQ.bad 12
    · rw [if_neg h12, if_neg (by rw [h1.len]; exact h12)]
      exact RetQ.bad 11
  · obtain rfl : n1 = 12 := by omega
    obtain ⟨m, rfl⟩ : ∃ m, n2 = m + 16 := ⟨n2 - 16, by omega⟩
    unfold openR
    rw [if_pos h1.len, if_neg (by rw [h2.len]; omega), h2.len, Nat.add_sub_cancel]
    exact ropen_any A0 A1 A2 A3 c0 c1 m (m + 16) c2 n3 c3 k n s a w h0 m0 h1 rfl h2 m2 h3 (by omega) hn3
end Go.Proofs.YthllaoeioddddaaGreat
