/- Layer 10, plainly: what is parsed is written as it was, what is written is parsed, of fewer bytes the end is told. Nothing is claimed of the program here. -/
import Derived.Test.YtpkombfiejdflaaHeadK
namespace Go.Proofs.Ytpkombfiejdflaa
open Go.RowKit
set_option linter.unusedVariables false
set_option linter.unusedSimpArgs false

theorem numH_put : ∀ (k n : Nat), numL (putL n k) + 256 ^ k * downL n k = n
  | 0, n => by simp [putL, numL, downL]
  | k + 1, n => by
    have ih := numH_put k (n / 256)
    rw [putL, numL_snoc, ← downL_comm]
    have e : (UInt8.ofNat n).toNat = n % 256 := by simp
    rw [e, Nat.pow_succ]
    have h2 : 256 ^ k * 256 * downL (n / 256) k = 256 * (256 ^ k * downL (n / 256) k) := by rw [Nat.mul_comm (256 ^ k) 256, Nat.mul_assoc]
    rw [h2]
    omega
theorem numH_four (n : Nat) (hn : n < 2 ^ 32) : numL (putL n 4) = n := by
  have h := numH_put 4 n
  have hd : downL n 4 = 0 := by show n / 256 / 256 / 256 / 256 = 0; omega
  rw [hd] at h
  omega
theorem putH_num : ∀ (k : Nat) (l : List UInt8), l.length = k → putL (numL l) k = l
  | 0, l, h => by rw [List.eq_nil_of_length_eq_zero h]; rfl
  | k + 1, l, h => by
    obtain ⟨m, x, rfl⟩ : ∃ m x, l = m ++ [x] := by
      have hne : l ≠ [] := fun e => by rw [e] at h; cases h
      exact ⟨l.dropLast, l.getLast hne, (List.dropLast_concat_getLast hne).symm⟩
    have hm : m.length = k := by simpa using h
    have hx := x.toNat_lt
    rw [putL, numL_snoc, show (numL m * 256 + x.toNat) / 256 = numL m by omega, putH_num k m hm]
    have e : UInt8.ofNat (numL m * 256 + x.toNat) = x := by
      apply UInt8.toNat_inj.1
      simp
    rw [e]
theorem idL_app (a r : List UInt8) (h : a.length ≤ 255) : idL (UInt8.ofNat a.length :: a ++ r) = some (a, r) := by
  have e : (UInt8.ofNat a.length).toNat = a.length := by simp; omega
  rw [List.cons_append, show idL (UInt8.ofNat a.length :: (a ++ r)) = if (a ++ r).length < (UInt8.ofNat a.length).toNat then none else some ((a ++ r).take (UInt8.ofNat a.length).toNat, (a ++ r).drop (UInt8.ofNat a.length).toNat) from rfl, e, if_neg (by simp)]
  simp
theorem idL_back {l a r : List UInt8} (h : idL l = some (a, r)) : a.length ≤ 255 ∧ l = UInt8.ofNat a.length :: a ++ r := by
  obtain ⟨f, t, rfl, h1, rfl, rfl⟩ := idL_some h
  have hf := f.toNat_lt
  have hl : (t.take f.toNat).length = f.toNat := by rw [List.length_take]; omega
  refine ⟨by omega, ?_⟩
  rw [hl]
  simp
/-- A header that there is. -/
structure Pgood (p : Pl) : Prop where
  f : ¬ p.1.toNat < 128
  v : p.2.1 ≤ 4294967295
  a : p.2.2.1.length ≤ 255
  b : p.2.2.2.length ≤ 255
theorem byt_good {p : Pl} (h : Pgood p) : byt p = (rawP p, 0) := byt_ok p h.f (by have := h.a; have := h.b; omega)
theorem byt_cases (p : Pl) (hv : p.2.1 ≤ 4294967295) : (byt p = ([], 14) ∧ p.1.toNat < 128) ∨ (byt p = ([], 15) ∧ ¬ p.1.toNat < 128) ∨ (byt p = (rawP p, 0) ∧ Pgood p) := by
  by_cases hf : p.1.toNat < 128
  · exact .inl ⟨if_pos hf, hf⟩
  · by_cases h1 : 255 < p.2.2.1.length ∨ 255 < p.2.2.2.length
    · exact .inr (.inl ⟨byt_long p hf h1, hf⟩)
    · exact .inr (.inr ⟨byt_ok p hf h1, hf, hv, by omega, by omega⟩)
theorem raw_len (p : Pl) : (rawP p).length = 7 + p.2.2.1.length + p.2.2.2.length := by
  unfold rawP
  simp [putL_len]
  omega
theorem prs_raw (p : Pl) (h : Pgood p) (r : List UInt8) : prs (rawP p ++ r) = (p, r, 0) := by
  obtain ⟨f, v, a, b⟩ := p
  have hf := h.f
  have hv : v ≤ 4294967295 := h.v
  have h4 : (putL v 4).length = 4 := putL_len v 4
  have e : rawP (f, v, a, b) ++ r = f :: (putL v 4 ++ (UInt8.ofNat a.length :: a ++ (UInt8.ofNat b.length :: b ++ r))) := by
    unfold rawP
    simp
  rw [e, prs_more f _ hf (by simp [h4])]
  rw [List.take_append_of_le_length (by omega), List.take_of_length_le (by omega), List.drop_append_of_le_length (by omega), List.drop_of_length_le (by omega), List.nil_append, numH_four v (by omega)]
  unfold prs2
  rw [idL_app a _ h.a]
  simp only
  rw [idL_app b _ h.b]
theorem prs_back {l : List UInt8} (h : (prs l).2.2 = 0) : Pgood (prs l).1 ∧ rawP (prs l).1 ++ (prs l).2.1 = l := by
  rcases l with _ | ⟨f, t⟩
  · exact absurd h (by decide)
  · by_cases hf : f.toNat < 128
    · rw [prs_kind f t hf] at h; exact absurd h (by decide)
    by_cases h4 : t.length < 4
    · rw [prs_few f t hf h4] at h; exact absurd h (by decide)
    rw [prs_more f t hf h4] at h ⊢
    have h32 : numL (t.take 4) ≤ 4294967295 := by
      have h1 := numL_lt 4 (t.take 4) (by rw [List.length_take]; omega)
      have h2 : (256 : Nat) ^ 4 = 4294967296 := by decide
      omega
    have hp : putL (numL (t.take 4)) 4 = t.take 4 := putH_num 4 (t.take 4) (by rw [List.length_take]; omega)
    have hs : t = t.take 4 ++ t.drop 4 := (List.take_append_drop 4 t).symm
    unfold prs2 at h ⊢
    rcases h1 : idL (t.drop 4) with _ | ⟨a, r⟩
    · rw [h1] at h; exact absurd (show (12 : Int) = 0 from h) (by decide)
    · rw [h1] at h
      simp only at h ⊢
      rcases h2 : idL r with _ | ⟨b, q⟩
      · rw [h2] at h; exact absurd (show (12 : Int) = 0 from h) (by decide)
      · simp only
        obtain ⟨k1, e1⟩ := idL_back h1
        obtain ⟨k2, e2⟩ := idL_back h2
        refine ⟨⟨hf, h32, k1, k2⟩, ?_⟩
        unfold rawP
        simp only
        rw [hp]
        conv => rhs; rw [hs, e1, e2]
        simp
theorem prs_err {l : List UInt8} (h : (prs l).2.2 ≠ 0) : (prs l).1 = zeroP ∧ (prs l).2.1 = [] := by
  rcases l with _ | ⟨f, t⟩
  · exact ⟨rfl, rfl⟩
  · by_cases hf : f.toNat < 128
    · rw [prs_kind f t hf]; exact ⟨rfl, rfl⟩
    by_cases h4 : t.length < 4
    · rw [prs_few f t hf h4]; exact ⟨rfl, rfl⟩
    rw [prs_more f t hf h4] at h ⊢
    unfold prs2 at h ⊢
    rcases h1 : idL (t.drop 4) with _ | ⟨a, r⟩
    · exact ⟨rfl, rfl⟩
    · rw [h1] at h
      simp only at h ⊢
      rcases h2 : idL r with _ | ⟨b, q⟩
      · exact ⟨rfl, rfl⟩
      · rw [h2] at h; exact absurd rfl h
theorem prs_code (l : List UInt8) : (prs l).2.2 = 0 ∨ (prs l).2.2 = 12 ∨ (prs l).2.2 = 14 ∧ ∃ f t, l = f :: t ∧ f.toNat < 128 := by
  rcases l with _ | ⟨f, t⟩
  · exact .inr (.inl rfl)
  · by_cases hf : f.toNat < 128
    · rw [prs_kind f t hf]; exact .inr (.inr ⟨rfl, f, t, rfl, hf⟩)
    by_cases h4 : t.length < 4
    · rw [prs_few f t hf h4]; exact .inr (.inl rfl)
    rw [prs_more f t hf h4]
    unfold prs2
    rcases h1 : idL (t.drop 4) with _ | ⟨a, r⟩
    · exact .inr (.inl rfl)
    · simp only
      rcases h2 : idL r with _ | ⟨b, q⟩
      · exact .inr (.inl rfl)
      · exact .inl rfl
/-- Of fewer bytes the end is told. -/
theorem prs_cut (p : Pl) (h : Pgood p) (k : Nat) (hk : k < (rawP p).length) : (prs ((rawP p).take k)).2.2 = 12 := by
  rcases prs_code ((rawP p).take k) with h0 | h0 | ⟨_, f, t, e, hf⟩
  · exfalso
    obtain ⟨g, e⟩ := prs_back h0
    have e1 := prs_raw _ g ((prs ((rawP p).take k)).2.1 ++ (rawP p).drop k)
    rw [← List.append_assoc, e, List.take_append_drop] at e1
    have e2 := prs_raw p h []
    rw [List.append_nil, e1] at e2
    have e3 : (prs ((rawP p).take k)).2.1 ++ (rawP p).drop k = [] := congrArg (fun x => x.2.1) e2
    have e4 := congrArg List.length e3
    rw [List.length_append, List.length_drop] at e4
    simp only [List.length_nil] at e4
    omega
  · exact h0
  · exfalso
    rcases k with _ | k
    · simp at e
    · have : (rawP p).take (k + 1) = p.1 :: ((putL p.2.1 4 ++ (UInt8.ofNat p.2.2.1.length :: p.2.2.1) ++ (UInt8.ofNat p.2.2.2.length :: p.2.2.2)).take k) := rfl
      rw [this] at e
      injection e with e _
      rw [← e] at hf
      exact h.f hf
/-- Unlike headers have unlike bytes. -/
theorem raw_inj {p q : Pl} (h : Pgood p) (g : Pgood q) : (rawP p == rawP q) = decide (p = q) := by
  by_cases e : p = q
  · subst e; simp
  · rw [decide_eq_false e, beq_eq_false_iff_ne]
    intro k
    have e1 := prs_raw p h []
    rw [k, prs_raw q g []] at e1
    exact e (congrArg (fun x => x.1) e1).symm
theorem long_raw (p : Pl) (h : Pgood p) (r : List UInt8) : longL (rawP p ++ r) = true := decide_eq_true (by have := h.f; show 128 ≤ p.1.toNat; omega)
theorem raw_drop (p : Pl) (hv : p.2.1 ≤ 4294967295) : (rawP p).drop 5 = UInt8.ofNat p.2.2.1.length :: p.2.2.1 ++ (UInt8.ofNat p.2.2.2.length :: p.2.2.2) := by
  have h4 : (putL p.2.1 4).length = 4 := putL_len _ 4
  show (putL p.2.1 4 ++ (UInt8.ofNat p.2.2.1.length :: p.2.2.1) ++ (UInt8.ofNat p.2.2.2.length :: p.2.2.2)).drop 4 = _
  rw [List.append_assoc, List.drop_append_of_le_length (by omega), List.drop_of_length_le (by omega), List.nil_append]
end Go.Proofs.Ytpkombfiejdflaa
