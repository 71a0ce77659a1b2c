/- Layer 10's functions isLong, Long, Id and Parse, for any bytes. Conditions: at most a million bytes. -/
import Derived.Test.YtpkombfiejdflaaHead
namespace Go.Proofs.Ytpkombfiejdflaa
open Go.RowKit
set_option linter.unusedVariables false
set_option linter.unusedSimpArgs false

/-! Plain: how readers go through a header. -/
theorem each_b (p : UInt8 → Prop) [DecidablePred p] (h : ∀ i : Fin 256, p (UInt8.ofNat i.val)) (x : UInt8) : p x := by
  have := h ⟨x.toNat, x.toNat_lt⟩
  simpa using this
theorem and_128 (x : UInt8) : (bits .and .u8 (x.toNat : Int) 128 != 0) = decide (128 ≤ x.toNat) := each_b (fun x => (bits .and .u8 (x.toNat : Int) 128 != 0) = decide (128 ≤ x.toNat)) (by decide +kernel) x
theorem takeS_app {n : Nat} {l : List UInt8} (h : n ≤ l.length) : takeS n (0, l) = (l.take n, 0, l.drop n) := takeS_ok h
theorem num1_ok (f : UInt8) (t : List UInt8) : numS 1 (0, f :: t) = (f.toNat, 0, t) := by
  rw [numS_eq]
  have e : bytesS 1 (numT 1 (0, f :: t)) = ([f], 0, t) := by
    unfold bytesS numT
    rw [if_neg (by decide), if_neg (by decide)]
    exact takeS_ok (n := 1) (by simp)
  rw [e]
  simp [numL]
theorem numk_ok (k : Nat) (hk : k ≤ 8) (l : List UInt8) (h : k ≤ l.length) : numS (k : Int) (0, l) = (numL (l.take k), 0, l.drop k) := by
  rw [numS_eq]
  have e : bytesS (k : Int) (numT (k : Int) (0, l)) = (l.take k, 0, l.drop k) := by
    unfold bytesS numT
    rw [if_neg (by omega), if_neg (by omega), Int.toNat_natCast]
    exact takeS_ok h
  rw [e]
theorem numk_end (k : Nat) (hk : k ≤ 8) (l : List UInt8) (h : l.length < k) : numS (k : Int) (0, l) = (0, 12, l) := by
  rw [numS_eq]
  have e : bytesS (k : Int) (numT (k : Int) (0, l)) = ([], 12, l) := by
    unfold bytesS numT
    rw [if_neg (by omega), if_neg (by omega), Int.toNat_natCast]
    exact takeS_end h
  rw [e]
  rfl
theorem numk_err (k : Nat) (hk : k ≤ 8) {s : Int × List UInt8} (h : s.1 ≠ 0) : numS (k : Int) s = (0, s) := by
  rw [numS_eq]
  have e : bytesS (k : Int) (numT (k : Int) s) = ([], s) := by
    unfold bytesS numT
    rw [if_neg (by omega), if_neg (by omega), Int.toNat_natCast]
    exact takeS_1 h k
  rw [e]
  rfl
theorem short_err {s : Int × List UInt8} (h : s.1 ≠ 0) : shortS s = ([], s) := by
  unfold shortS
  rw [show numS 1 s = (0, s) from numk_err 1 (by omega) h, countS_no (by rw [takeS_1 (s := s) h]; exact h), takeS_1 (s := s) h]
theorem short_idL (l : List UInt8) : shortS (0, l) = match idL l with | none => ([], 12, l) | some (a, r) => (a, 0, r) := by
  unfold shortS
  rcases l with _ | ⟨n, t⟩
  · rw [show numS 1 (0, []) = (0, 12, []) from numk_end 1 (by omega) [] (by simp)]
    rfl
  · rw [num1_ok]
    rw [show idL (n :: t) = if t.length < n.toNat then none else some (t.take n.toNat, t.drop n.toNat) from rfl]
    by_cases h : t.length < n.toNat
    · rw [if_pos h]
      rw [countS_no (by simp only; rw [takeS_end h]; exact (show (12 : Int) ≠ 0 by decide))]
      simp only
      rw [takeS_end h]
    · rw [if_neg h]
      rw [countS_ok (by simp only; rw [takeS_ok (by omega)])]
      simp only
      rw [takeS_ok (by omega)]
/-- What the four readings give. -/
theorem prs_chain (f : UInt8) (t : List UInt8) (hf : 128 ≤ f.toNat) : prs (f :: t) =
    if (shortS (shortS (numS 4 (0, t)).2).2).2.1 = 0 then ((f, (numS 4 (0, t)).1, (shortS (numS 4 (0, t)).2).1, (shortS (shortS (numS 4 (0, t)).2).2).1), (shortS (shortS (numS 4 (0, t)).2).2).2.2, 0)
    else (zeroP, [], (shortS (shortS (numS 4 (0, t)).2).2).2.1) := by
  rw [show prs (f :: t) = if f.toNat < 128 then (zeroP, [], 14) else if t.length < 4 then (zeroP, [], 12) else prs2 f (numL (t.take 4)) (t.drop 4) from rfl, if_neg (by omega)]
  by_cases h : t.length < 4
  · rw [if_pos h, show numS 4 (0, t) = (0, 12, t) from numk_end 4 (by omega) t h]
    simp only
    rw [short_err (s := (12, t)) (show (12 : Int) ≠ 0 by decide)]
    simp only
    rw [short_err (s := (12, t)) (show (12 : Int) ≠ 0 by decide)]
    rfl
  · rw [if_neg h, show numS 4 (0, t) = (numL (t.take 4), 0, t.drop 4) from numk_ok 4 (by omega) t (by omega)]
    simp only
    rw [short_idL]
    unfold prs2
    rcases idL (t.drop 4) with _ | ⟨a, r⟩
    · simp only
      rw [short_err (s := (12, t.drop 4)) (show (12 : Int) ≠ 0 by decide)]
      rfl
    · simp only
      rw [short_idL]
      rcases idL r with _ | ⟨b, q⟩
      · rfl
      · rfl
theorem num4_le (s : Int × List UInt8) : (numS 4 s).1 ≤ 4294967295 := by
  rw [numS_eq]
  have h : (bytesS 4 (numT 4 s)).1.length ≤ 4 := by
    unfold bytesS
    rw [if_neg (by decide)]
    exact takeS_len _ _
  have h1 := numL_lt _ (bytesS 4 (numT 4 s)).1 rfl
  have h3 : 256 ^ (bytesS 4 (numT 4 s)).1.length ≤ 256 ^ 4 := Nat.pow_le_pow_right (by omega) h
  have h4 : (256 : Nat) ^ 4 = 4294967296 := by decide
  simp only
  omega
theorem rest_0 (l : List UInt8) : restS (0, l) = (l, 0, []) := by
  unfold restS
  rw [takeS_ok (Nat.le_refl _)]
  simp

/-! isLong, Long, Id. -/
theorem islong_any (f : UInt8) (v : Bool) (hv : decide (128 ≤ f.toNat) = v) (w : World) :
    Calls Try.prog 25 #[.int .u8 (f.toNat : Int)] w fun e w' => e = .returned (.bool v) ∧ w = w' := by
  have hb := and_128 f
  rw [hv] at hb
  obtain ⟨b, HB⟩ : ∃ b, Hid (b = bits .and .u8 (f.toNat : Int) 128) := ⟨_, Lib.hid rfl⟩
  have hbb : bits .and .u8 (f.toNat : Int) 128 = b := HB.out.symm
  rw [hbb] at hb
  subst hb
  go_enter Try.func25, Try.ntmps25
  go_wp2_with fail
  go_ret
  exact ⟨rfl, rfl⟩
set_option maxRecDepth 100000 in
theorem hlong_any (A : Option Addr) (n c : Nat) (l : List UInt8) (w : World) (h : RB w w.heap.size A n l) (v : Bool) (hv : longL l = v) :
    Calls Try.prog 14 #[.slice A n c] w fun e w' => e = .returned (.bool v) ∧ w = w' := by
  have hl := h.len
  rcases l with _ | ⟨f, t⟩
  · subst hl
    subst hv
    go_enter Try.func14, Try.ntmps14
    go_wp2_with fail
    go_ret
    exact ⟨rfl, rfl⟩
  · obtain ⟨m, rfl⟩ : ∃ m, n = m + 1 := ⟨t.length, by rw [← hl]; rfl⟩
    obtain ⟨b, o, rfl, hb, x, hx, hc⟩ := h.at_ (k := 0) (by omega)
    obtain rfl : f = x := by simpa using hx
    rw [Nat.add_zero] at hc
    have hpos : decide ((0 : Int) < ((m + 1 : Nat) : Int)) = true := decide_eq_true (by omega)
    have hI := islong_any f v hv
    clear h hl hx hv
    go_enter Try.func14, Try.ntmps14
    go_wp2_with fail
    refine (hI _).mono ?_
    rintro e w1 ⟨rfl, rfl⟩
    go_wp2_with fail
    go_ret
    exact ⟨rfl, rfl⟩
set_option maxRecDepth 100000 in
theorem hid_any (A : Option Addr) (n c : Nat) (l : List UInt8) (z : Int) (w : World) (h : RB w w.heap.size A n l) (hc : n ≤ c ∧ c ≤ maxLen) (hn : n ≤ 1000000) :
    Calls Try.prog 15 #[.slice A n c, .int .i64 z] w (RetBE (idN l z).1.length (idN l z).1 (idN l z).2 w) := by
  have hl := h.len
  unfold idN
  by_cases h0 : z < 0
  · rw [if_pos (.inl h0)]
    have d0 : decide (z < 0) = true := decide_eq_true h0
    go_enter Try.func15, Try.ntmps15
    go_wp2_with fail
    go_ret2
    exact ⟨none, 0, rfl, OwnB.nil_ _ _, Below.refl _ _⟩
  have d0 : decide (z < 0) = false := decide_eq_false h0
  by_cases h1 : 255 < z
  · rw [if_pos (.inr h1)]
    have d1 : decide (255 < z) = true := decide_eq_true h1
    go_enter Try.func15, Try.ntmps15
    go_wp2_with fail
    go_ret2
    exact ⟨none, 0, rfl, OwnB.nil_ _ _, Below.refl _ _⟩
  have d1 : decide (255 < z) = false := decide_eq_false h1
  obtain ⟨k, rfl⟩ : ∃ k : Nat, z = (k : Int) := ⟨z.toNat, by omega⟩
  rw [if_neg (by omega), Int.toNat_natCast]
  by_cases h2 : n < k + 1
  · rw [if_pos (by omega)]
    have d2 : decide ((n : Int) < (k : Int) + 1) = true := decide_eq_true (by omega)
    have k255 : k ≤ 255 := by omega
    go_enter Try.func15, Try.ntmps15
    go_wp2_with fail
    go_ret2
    exact ⟨none, 0, rfl, OwnB.nil_ _ _, Below.refl _ _⟩
  · rw [if_neg (by omega)]
    have d2 : decide ((n : Int) < (k : Int) + 1) = false := decide_eq_false (by omega)
    have k255 : k ≤ 255 := by omega
    unfold maxLen at hc
    have hcut := cut_lh A n c 1 (k + 1) (by omega) (by omega)
    have hpart := h.part (i := 1) (j := k + 1) (c := c) (by omega) (by omega) hc.1
    have e : (l.take (k + 1)).drop 1 = (l.drop 1).take k := by rw [List.drop_take]; rfl
    rw [e, Nat.add_sub_cancel] at hpart
    rw [Nat.add_sub_cancel] at hcut
    have hcast : (((k + 1 : Nat) : Int)) = (k : Int) + 1 := by omega
    rw [hcast] at hcut
    have hcut1 : ∀ W : World, (Instr.slice 22 (.slice A n c) (some (.int .i64 1)) (some (.int .i64 ((k : Int) + 1))) none).run Try.prog W = .ok (.slice (cutA A c 1) k (c - 1)) W := hcut
    have hlen := hpart.len
    have HP := Lib.hid hpart
    obtain ⟨p, HPP⟩ : ∃ p, Hid (p = (l.drop 1).take k) := ⟨_, Lib.hid rfl⟩
    rw [← HPP.out] at HP hlen ⊢
    clear hpart hcut h hl e hcast
    go_enter Try.func15, Try.ntmps15
    go_wp2_with fail
    refine (sjoin1 w (cutA A c 1) k (c - 1) p (by exact HP.out) (by omega)).mono ?_
    rintro e w1 ⟨A1, c1, rfl, ho, hb⟩
    have HO := Lib.hid (And.intro ho hb)
    clear ho hb
    go_wp2_with fail
    go_ret2
    subst hlen
    exact ⟨A1, c1, rfl, HO.out⟩

/-! Parse. -/
/-- What Parse's walk carries: the reader x, the header g, the result's variable q. -/
structure PK (v : World) (x g q : Nat) (h : Hd) (s : Int × List UInt8) (w : World) : Prop where
  bel : Below v.heap.size v w
  lx : v.heap.size ≤ x
  lg : v.heap.size ≤ g
  lq : v.heap.size ≤ q
  gq : g ≠ q
  rd : RdR w x s
  hd : Hc 27 w g h
  hq : Hc 27 w q zeroH
  own : h.own w v.heap.size
section
variable {v w w' : World} {x g q n c : Nat} {h h' : Hd} {s s' : Int × List UInt8} {e : Ending} {A : Option Addr} {l : List UInt8}
theorem PK.gx (k : PK v x g q h s w) : g ≠ x := by
  obtain ⟨A, n, c, t, _⟩ := k.rd
  exact k.hd.ne t (by decide)
theorem PK.qx (k : PK v x g q h s w) : q ≠ x := by
  obtain ⟨A, n, c, t, _⟩ := k.rd
  exact k.hq.ne t (by decide)
theorem PK.call (k : PK v x g q h s w) (ho : Oth [x] w w') (hr : RdR w' x s') : PK v x g q h s' w' :=
  ⟨k.bel.trans (ho.below (fun j hj => by rw [List.mem_singleton.1 hj]; exact k.lx) k.bel.size), k.lx, k.lg, k.lq, k.gq, hr, k.hd.oth ho (by simpa using k.gx), k.hq.oth ho (by simpa using k.qx), k.own.off ho k.rd.nob⟩
theorem PK.step (k : PK v x g q h s w) (hb : Below w.heap.size w w') : PK v x g q h s w' :=
  ⟨bel_next k.bel hb, k.lx, k.lg, k.lq, k.gq, k.rd.step hb, k.hd.step hb, k.hq.step hb, k.own.step hb⟩
/-- A store into the header. -/
theorem PK.put (k : PK v x g q h s w) (j : Nat) (u : Value) (hh : Hc 27 (w.setCell ⟨g, j, none⟩ u) g h') (ho : Hd.own (w.setCell ⟨g, j, none⟩ u) v.heap.size h') : PK v x g q h' s (w.setCell ⟨g, j, none⟩ u) := by
  have hO : Oth [g] w (w.setCell ⟨g, j, none⟩ u) := (Oth.refl [g] w).set (x := g) (by simp) j u
  exact ⟨k.bel.trans (hO.below (fun j hj => by rw [List.mem_singleton.1 hj]; exact k.lg) k.bel.size), k.lx, k.lg, k.lq, k.gq, k.rd.off hO (by simpa using k.gx.symm) (k.hd.nob (by decide)), hh, k.hq.oth hO (by simpa using k.gq.symm), ho⟩
theorem PK.keep (k : PK v x g q h s w) (j : Nat) (u : Value) {base : Nat} (r : OwnB w base A n c l) : OwnB (w.setCell ⟨g, j, none⟩ u) base A n c l :=
  r.off ((Oth.refl [g] w).set (x := g) (by simp) j u) (k.hd.nob (by decide))
theorem PK.put0 (k : PK v x g q h s w) (f : UInt8) : PK v x g q { h with f := f } s (w.setCell ⟨g, 0, none⟩ (.int .u8 (f.toNat : Int))) := k.put 0 _ (k.hd.set0 f) ⟨k.keep _ _ k.own.a, k.keep _ _ k.own.b, k.own.v32⟩
theorem PK.put1 (k : PK v x g q h s w) (u : Nat) (hu : u ≤ 4294967295) : PK v x g q { h with v := u } s (w.setCell ⟨g, 1, none⟩ (.int .u32 (u : Int))) := k.put 1 _ (k.hd.set1 u) ⟨k.keep _ _ k.own.a, k.keep _ _ k.own.b, hu⟩
theorem PK.put2 (k : PK v x g q h s w) (r : OwnB w v.heap.size A n c l) : PK v x g q { h with A := A, c := c, a := l } s (w.setCell ⟨g, 2, none⟩ (.slice A n c)) := by
  have hl := r.len
  subst hl
  exact k.put 2 _ (k.hd.set2 A c l) ⟨k.keep _ _ r, k.keep _ _ k.own.b, k.own.v32⟩
theorem PK.put3 (k : PK v x g q h s w) (r : OwnB w v.heap.size A n c l) : PK v x g q { h with B := A, d := c, b := l } s (w.setCell ⟨g, 3, none⟩ (.slice A n c)) := by
  have hl := r.len
  subst hl
  exact k.put 3 _ (k.hd.set3 A c l) ⟨k.keep _ _ k.own.a, k.keep _ _ r, k.own.v32⟩
end
end Go.Proofs.Ytpkombfiejdflaa
