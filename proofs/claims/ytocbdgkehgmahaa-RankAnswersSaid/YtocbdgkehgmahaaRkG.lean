/- Layer 23, plain: the first one for a key; what is often shown. Nothing is claimed of the program here. -/
import Derived.Test.YtocbdgkehgmahaaRkF
import Derived.Test.YtocbdgkehgmahaaRkC
namespace Go.Proofs.Ytocbdgkehgmahaa
open Go.RowKit Go.Maps
set_option linter.unusedVariables false
set_option linter.unusedSimpArgs false
/-- The first one for a key. -/
def fK (s : Nat) (es : List (Int × Int)) (k : List UInt8) : Option Nat := bestT (tabE (scE s k) es) 64
theorem fK_def (s : Nat) (es : List (Int × Int)) (k : List UInt8) : fstA (tabE (scE s k) es) = (fK s es k).getD 0 ∧ fstB (tabE (scE s k) es) = (fK s es k).isSome := ⟨rfl, rfl⟩
theorem fK_lt {s : Nat} {es : List (Int × Int)} {k : List UInt8} {i : Nat} (h : fK s es k = some i) : i < 64 := (best_is.1 i h).1
theorem cK_nil (F : List UInt8 → Option Nat) : cK F [] = fun _ => 0 := rfl
/-- An Id alone in the table is the first. -/
theorem best_alone {T : Nat → Option Nat} {i t : Nat} (hi : i < 64) (h : T i = some t) (ho : ∀ j u, T j = some u → j = i) : bestT T 64 = some i := by
  rw [best_iff]
  refine ⟨hi, t, h, fun j u _ hu => ?_⟩
  have e := ho j u hu
  subst e
  rw [h] at hu
  injection hu with hu
  exact .inr ⟨hu.symm, Nat.le_refl _⟩
theorem show_first (f : Int × Int → Nat) : bestT (tabE f [(5, 3), (64, 1), (6, 0)]) 64 = some 5 := by
  refine best_alone (t := f (5, 3)) (by decide) rfl fun j u hu => ?_
  obtain ⟨e, h1, h2, h3, _⟩ := tab_mem hu
  rw [okE_iff] at h2
  simp only [List.mem_cons, List.not_mem_nil, or_false] at h1
  rcases h1 with rfl | rfl | rfl <;> simp only at h2 h3 <;> omega
theorem show_one (f : Int × Int → Nat) : bestT (tabE f [(5, 3)]) 64 = some 5 := by
  refine best_alone (t := f (5, 3)) (by decide) rfl fun j u hu => ?_
  obtain ⟨e, h1, _, h3, _⟩ := tab_mem hu
  rw [List.mem_singleton] at h1
  subst h1
  simp only at h3
  omega
theorem show_none (f : Int × Int → Nat) : bestT (tabE f []) 64 = none := best_none.2 fun j _ => rfl
theorem show_two (f : Int × Int → Nat) : ∃ x y : Nat, ordA (tabE f [(5, 3), (6, 3)]) = [x, y] ∧ x + y = 11 := by
  have hu : unlP [(5, 3), (6, 3)] := by decide
  have hl := ordA_len (tabE f [(5, 3), (6, 3)])
  rw [tab_cnt hu] at hl
  have hm : ∀ k i, (ordA (tabE f [(5, 3), (6, 3)]))[k]? = some i → i = 5 ∨ i = 6 := fun k i h => by
    obtain ⟨_, ⟨t, ht⟩, _, _⟩ := ord_at h
    obtain ⟨e, h1, _, h3, _⟩ := tab_mem ht
    simp only [List.mem_cons, List.not_mem_nil, or_false] at h1
    rcases h1 with rfl | rfl <;> simp only at h3 <;> omega
  have hn : ∀ i, (ordA (tabE f [(5, 3), (6, 3)]))[1]? = some i → ¬ i ∈ (ordA (tabE f [(5, 3), (6, 3)])).take 1 := fun i h => (ord_at h).2.2.1
  generalize ordA (tabE f [(5, 3), (6, 3)]) = O at hl hm hn
  match O, hl with
  | [x, y], _ =>
    have h1 := hm 0 x rfl
    have h2 := hm 1 y rfl
    have h3 := hn y rfl
    have h4 : y ≠ x := fun e => h3 (by rw [e]; exact List.mem_singleton.2 rfl)
    exact ⟨x, y, rfl, by omega⟩
theorem show_count (F : List UInt8 → Option Nat) (h1 : F [1] = some 5) (h2 : F [2] = some 5) : cK F [[1], [2]] 5 = 2 ∧ nzN (cK F [[1], [2]]) 64 = 1 := by
  have e1 : cK F [[1]] = upC (fun _ => 0) 5 := cK_some (ks := []) h1
  have e2 : cK F [[1], [2]] = upC (upC (fun _ => 0) 5) 5 := by
    have := cK_some (F := F) (ks := [[1]]) h2
    rw [e1] at this
    exact this
  rw [e2]
  refine ⟨rfl, ?_⟩
  rw [nz_up (by decide), if_neg (by decide), nz_up (by decide), if_pos rfl, nz_zero fun j _ => rfl]
end Go.Proofs.Ytocbdgkehgmahaa
