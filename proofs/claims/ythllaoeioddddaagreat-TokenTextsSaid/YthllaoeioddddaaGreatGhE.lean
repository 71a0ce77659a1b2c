/- Products by nibbles (layer 5's table), and the folds' linearity. No conditions; nothing is claimed of the program here. -/
import Derived.Test.YthllaoeioddddaaGreatPolyMath
import Derived.Test.YthllaoeioddddaaGreatRowsNew
import Derived.Test.YthllaoeioddddaaGreatPolyElem
import Derived.Test.YthllaoeioddddaaGreatRefGhash
namespace Go.Proofs.YthllaoeioddddaaGreat
set_option linter.unusedVariables false

/-- Nibble k of a number; the product of a nibble, there. -/
def nib (e k : Nat) : Nat := e / 2 ^ (124 - 4 * k) % 16
def gTab (h k i : Nat) : Nat := gMul (i * 2 ^ (124 - 4 * k)) h
def nSum (h e : Nat) : Nat → Nat | 0 => 0 | k + 1 => nSum h e k ^^^ gTab h k (nib e k)
theorem nib_lt (e k : Nat) : nib e k < 16 := Nat.mod_lt _ (by omega)
theorem xor_join (n a b : Nat) (hb : b < 2 ^ n) : (a * 2 ^ n) ^^^ b = a * 2 ^ n + b := by
  rw [Nat.mul_comm]
  apply Nat.eq_of_testBit_eq
  intro j
  rw [Nat.testBit_xor, Nat.testBit_two_pow_mul_add _ hb, Nat.testBit_two_pow_mul]
  by_cases hj : j < n
  · rw [if_pos hj]
    have : ¬ n ≤ j := by omega
    simp [this]
  · rw [if_neg hj]
    have h1 : n ≤ j := by omega
    have h2 : b.testBit j = false := Nat.testBit_lt_two_pow (Nat.lt_of_lt_of_le hb (Nat.pow_le_pow_right (by omega) h1))
    simp [h1, h2]
theorem top_nib (e k : Nat) (hk : k < 32) : e / 2 ^ (124 - 4 * k) * 2 ^ (124 - 4 * k) = (e / 2 ^ (124 - 4 * k + 4) * 2 ^ (124 - 4 * k + 4)) ^^^ (nib e k * 2 ^ (124 - 4 * k)) := by
  unfold nib
  generalize 124 - 4 * k = m
  have hlt : e / 2 ^ m % 16 * 2 ^ m < 2 ^ (m + 4) := by
    rw [Nat.pow_add, Nat.mul_comm (2 ^ m)]
    exact Nat.mul_lt_mul_of_pos_right (Nat.mod_lt _ (by omega)) (Nat.pow_pos (by omega))
  rw [xor_join (m + 4) _ _ hlt, Nat.pow_add, ← Nat.div_div_eq_div_mul]
  generalize e / 2 ^ m = q
  rw [Nat.mul_comm (2 ^ m) (2 ^ 4), ← Nat.mul_assoc, ← Nat.add_mul]
  congr 1
  omega
theorem nSum_top (h e : Nat) (he : e < 2 ^ 128) : ∀ k, k ≤ 32 → nSum h e k = gMul (e / 2 ^ (128 - 4 * k) * 2 ^ (128 - 4 * k)) h
  | 0, _ => by
    rw [show e / 2 ^ (128 - 4 * 0) = 0 from Nat.div_eq_of_lt he, Nat.zero_mul, gMul_zero']
    rfl
  | k + 1, hk => by
    rw [nSum, nSum_top h e he k (by omega), gTab, ← gMul_left, show 128 - 4 * k = 124 - 4 * k + 4 by omega, ← top_nib e k (by omega), show 128 - 4 * (k + 1) = 124 - 4 * k by omega]
/-- A product is the sum of its nibbles' products. -/
theorem nSum_all (h e : Nat) (he : e < 2 ^ 128) : nSum h e 32 = gMul e h := by
  rw [nSum_top h e he 32 (by omega), show 128 - 4 * 32 = 0 from rfl, Nat.pow_zero, Nat.div_one, Nat.mul_one]
theorem gTab_zero (h k : Nat) : gTab h k 0 = 0 := by unfold gTab; rw [Nat.zero_mul, gMul_zero']
theorem gTab_lt (h k i : Nat) (hk : k < 32) (hi : i < 16) : gTab h k i < 2 ^ 128 := by
  refine gMul_lt _ _ ?_
  have h1 : i * 2 ^ (124 - 4 * k) < 16 * 2 ^ (124 - 4 * k) := Nat.mul_lt_mul_of_pos_right hi (Nat.pow_pos (by omega))
  have h2 : 16 * 2 ^ (124 - 4 * k) ≤ 2 ^ 128 := by
    rw [show (16 : Nat) = 2 ^ 4 from rfl, ← Nat.pow_add]
    exact Nat.pow_le_pow_right (by omega) (by omega)
  omega
theorem gTab_xor (h k i j : Nat) : gTab h k (i ^^^ j) = gTab h k i ^^^ gTab h k j := by
  unfold gTab
  have e : (i ^^^ j) * 2 ^ (124 - 4 * k) = (i * 2 ^ (124 - 4 * k)) ^^^ (j * 2 ^ (124 - 4 * k)) := by
    generalize 124 - 4 * k = m
    rw [← Nat.shiftLeft_eq, ← Nat.shiftLeft_eq, ← Nat.shiftLeft_eq, Nat.shiftLeft_xor_distrib]
  rw [e, gMul_left]
/-- One bit of a nibble: the key, moved. -/
theorem gTab_bit (h k b : Nat) (hh : h < 2 ^ 128) (hk : k < 32) (hb : b < 4) : gTab h k (2 ^ (3 - b)) = gIter h (4 * k + b) := by
  unfold gTab
  have e : 2 ^ (3 - b) * 2 ^ (124 - 4 * k) = gE (4 * k + b) := by
    unfold gE
    rw [← Nat.pow_add]
    congr 1
    omega
  rw [e, ← gE_iter (4 * k + b) (by omega), gMul_iter, gMul_one' h hh]
end Go.Proofs.YthllaoeioddddaaGreat

/- Slices of elements that a call makes itself. Conditions: lengths within the model's bounds. -/
namespace Go.Proofs.YthllaoeioddddaaGreat
open Go.RowKit
set_option linter.unusedVariables false

def eC (x : Nat) : List Value := es (x / 2 ^ 64) (x % 2 ^ 64)
theorem cells_pe : CellsOf 158 160 2 16 (.agg #[.int .u64 0, .int .u64 0]) eC :=
  ⟨Tryz.underlying160, by kernel_rfl, rfl, by omega, fun x => rfl, fun x u hu => by
    simp only [eC, es, List.mem_cons, List.not_mem_nil, or_false] at hu
    rcases hu with rfl | rfl <;> rfl⟩
abbrev OwnE (w : World) (base : Nat) (A : Option Addr) (n c : Nat) (xs : List Nat) : Prop := OwnX 158 2 eC w base A n c xs
theorem OwnX.form2 {T : TypeId} {k : Nat} {f : Nat → List Value} {w : World} {base n c : Nat} {A : Option Addr} {xs : List Nat} (h : OwnX T k f w base A n c xs) (hn : 0 < n) : ∃ g, A = some ⟨g, 0, none⟩ := by
  rcases h.1.2 with ⟨_, h0⟩ | ⟨g, cap, cur, hv, _⟩
  · omega
  · injection hv with hA
    exact ⟨g, hA⟩
theorem OwnE.xe {w : World} {base n c : Nat} {A : Option Addr} {xs : List Nat} (h : OwnE w base A n c xs) (hx : ∀ (i x : Nat), xs[i]? = some x → x < 2 ^ 128) : XE w w.heap.size A n xs := by
  refine ⟨h.2, hx, fun hn => ?_⟩
  obtain ⟨g, rfl⟩ := OwnX.form2 h hn
  have hg : g < w.heap.size := (World.ownsRow.lt h.1 g rfl).2
  refine ⟨g, 0, rfl, hg, fun i x hi => ?_⟩
  obtain ⟨g2, e, _, _, hr⟩ := OwnX.at_ h (fun x => rfl) hi
  injection e with e
  injection e with e
  subst e
  rw [Nat.zero_add]
  exact hr
theorem run_oneE (w : World) (h l : Nat) : (Instr.buildSlice 160 1 #[(0, EV h l)]).run Tryz.prog w = .ok (.slice (some ⟨w.heap.size, 0, none⟩) 1 1) (w.alloc (.cells (es h l).toArray 158)) := by unfold EV es; go_simp
theorem oneE_cells (w : World) (n : Nat) : ∀ j u, ([n].flatMap eC)[j]? = some u → (w.alloc (.cells (eC n).toArray 158)).cell? ⟨w.heap.size, j, none⟩ = some u := by
  intro j u hu
  rw [World.cell?_alloc_at _ _ _ _ rfl]
  simpa using hu
end Go.Proofs.YthllaoeioddddaaGreat

/- Layer 5's statements: rows of coefficients as the program has them. Condition: the slice's cells are readable, and not too many. -/
namespace Go.Proofs.YthllaoeioddddaaGreat
open Go.RowKit
set_option linter.unusedVariables false

attribute [local irreducible] co tvs bB PE bitsOf

end Go.Proofs.YthllaoeioddddaaGreat

