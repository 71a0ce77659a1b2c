/- Layer 14's place, trim, Trim, Cut, Block. Conditions: the slices' cells are readable, lengths are at most a million. -/
import Derived.Test.YtfipdaekfdbaeaaGreatHvE
import Derived.Test.YtfipdaekfdbaeaaGreatClone
import Derived.Laws.CopyOwn
namespace Go.Proofs.YtfipdaekfdbaeaaGreat
open Go.RowKit
set_option linter.unusedVariables false
set_option linter.unusedSimpArgs false
/-- copy of bytes to the beginning of a row of the call's own. -/
theorem wpList_cpB {w : World} {ops : Array Oper} {rest : List Oper} {o : Oper} {a : Act} {Q : Exit → Act → World → Prop} (hgd : o.guard = none) (d s : Operand)
    (ho : o.op = .call { callee := .builtin .copy, args := #[d, s], argTypes := #[25, 25] })
    (base g m c : Nat) (L : List UInt8) (hd : a.eval d = .slice (some ⟨g, 0, none⟩) m c) (hown : OwnB w base (some ⟨g, 0, none⟩) m c L)
    (B : Nat) (A : Option Addr) (n c' : Nat) (l : List UInt8) (hs : a.eval s = .slice A n c') (hr : RB w B A n l) (hnm : n ≤ m)
    (h : ∀ w', OwnB w' base (some ⟨g, 0, none⟩) m c (l ++ L.drop n) → Below base w w' → wpList Tryz.prog ops Q rest (a.put o.dst (.int .i64 (n : Int))) w') : wpList Tryz.prog ops Q (o :: rest) a w := by
  rcases hown.2 with ⟨hv, _⟩ | ⟨g', cap, cur, hv, hbg, hh, hnc, hcm, hsz, htk⟩
  · cases hv
  · injection hv with e1 e2 e3
    injection e1 with e1
    injection e1 with e1
    subst e1
    subst e3
    have hll := hr.len
    have hLL := hown.len
    have hcur : cur.toList.length = c := by rw [Array.length_toList, hsz, Nat.mul_one]
    rw [Nat.mul_one] at htk
    refine wpList_copy_splice hgd d s 25 25 ho 5 Tryz.underlying25 (by kernel_rfl) _ A m c n c' hd hs g 0 cur.toList 5 (by rw [Array.toArray_toList]; exact hh) (bvs l) (by rw [bvs_length, hll]; exact (Nat.min_eq_left hnm).symm) (fun h0 => ?_) (by rw [bvs_length, hll, hcur]; omega) (bvs_one l) base w (Below.refl _ _) hbg ?_
    · rw [bvs_length, hll] at h0
      obtain ⟨b, off, rfl, _, hcell⟩ := hr.2 h0
      refine ⟨rfl, _, rfl, fun j u hu => ?_⟩
      have hj : j < l.length := by
        have := (List.getElem?_eq_some_iff.1 hu).1
        rwa [bvs_length] at this
      rw [Addr.add_lit, hcell j hj, ← hu]
      simp [bvs, hj]
    · intro w' hg hb
      have e : goInt (bvs l).length = .int .i64 (n : Int) := by rw [bvs_length, hll]; rfl
      rw [e]
      refine h w' ⟨by rw [bvs_length, List.length_append, List.length_drop, hll, hLL]; omega, .inr ⟨g, c, _, rfl, hbg, hg.out, hnc, hcm, ?_, ?_⟩⟩ hb
      · rw [List.size_toArray, length_splice _ _ _ (by rw [bvs_length, hll, hcur]; omega), hcur, Nat.mul_one]
      · rw [Nat.mul_one]
        show List.take m (splice cur.toList 0 (bvs l)) = _
        unfold splice
        rw [List.take_zero, List.nil_append, Nat.zero_add, bvs_length, hll, bvs_append]
        rw [List.take_append, bvs_length, hll, List.take_of_length_le (by rw [bvs_length, hll]; exact hnm)]
        congr 1
        have : bvs (L.drop n) = (bvs L).drop n := by simp [bvs, List.map_drop]
        rw [this, ← htk, List.drop_take]
/-- A side: where its half lies; where the half begins in the text; where it has the byte that both halves contain; the bits that are its own. -/
def sdC (A : Option Addr) (n c a e : Nat) (m : UInt8) : List Value := [.slice A n c, .int .i64 (a : Int), .int .i64 (e : Int), .int .u8 (m.toNat : Int)]
theorem sd_ones (A : Option Addr) (n c a e : Nat) (m : UInt8) : ones (sdC A n c a e m) := by
  intro v hv
  simp only [sdC, List.mem_cons, List.not_mem_nil, or_false] at hv
  rcases hv with rfl | rfl | rfl | rfl <;> rfl
theorem rt_side : RT 144 [.slice none 0 0, .int .i64 0, .int .i64 0, .int .u8 0] := ⟨row_of (by kernel_rfl), by kernel_rfl⟩
theorem trimR_len (l : List UInt8) (N : Nat) (left : Bool) : (trimL l N left).length = l.length := trim_len l N left
attribute [local irreducible] foursL pairsL cutR trimL joinL blockL joinR

set_option maxRecDepth 100000 in
set_option maxHeartbeats 4000000 in
theorem hplace_any (A : Option Addr) (n c N : Nat) (left : Bool) (w : World) (h2 : 2 ≤ N) (h28 : N ≤ 28) (hn : n = szN N) :
    Calls Tryz.prog 103 #[.slice A n c, .int .i64 (N : Int), .bool left] w fun e w' => e = .returned (.agg (sdC A n c (if left then 0 else N - n) (edgeN n left) (maskB N left)).toArray) ∧ Below w.heap.size w w' := by
  have hs : szN N ≤ N ∧ 2 * szN N = N + N % 2 ∧ 0 < szN N := by unfold szN; omega
  obtain ⟨d, hd⟩ : ∃ d, d = N - n := ⟨_, rfl⟩
  have hsub : (N : Int) - (n : Int) = (d : Int) := by omega
  obtain ⟨f, hf⟩ : ∃ f, f = n - 1 := ⟨_, rfl⟩
  have hsub1 : (n : Int) - 1 = (f : Int) := by omega
  have hn14 : n ≤ 28 := by omega
  by_cases hodd : N % 2 = 0
  · cases left
    · skip
      have hmod : ((N : Int) % 2 == 0) = true := by rw [beq_iff_eq]; omega
      have HE : Hid (sdC A n c (if false = true then 0 else N - n) (edgeN n false) (maskB N false) = [.slice A n c, .int .i64 (d : Int), .int .i64 0, .int .u8 255]) := Lib.hid (by unfold sdC edgeN maskB; rw [← hd]; simp only [hodd, hf, if_true, if_false, Bool.false_eq_true]; rfl)
      rw [HE.out]
      clear hs hn hd hf hodd HE
      go_enter Tryz.func103, Tryz.ntmps103
      go_wp2_with (first
        | (with_reducible show wpList _ _ _ (⟨some 6, .alloc _, _, _, _, none⟩ :: _) _ _; refine wpList_newB rt_side rfl rfl ?_; intro w1 q6 hc1 hb1 hx1; have K1 := Lib.hid (And.intro hc1 (And.intro hb1 hx1)); clear hc1 hb1 hx1)
        | (with_reducible show wpList _ _ _ (⟨some 7, .alloc _, _, _, _, none⟩ :: _) _ _; refine wpList_newB rt_side rfl rfl ?_; intro w2 q7 hc1 hb1 hx1; have K2 := Lib.hid (And.intro hc1 (And.intro hb1 hx1)); clear hc1 hb1 hx1)
        | (refine wpList_stB rt_side rfl (.tmp 7) (.tmp 13) rfl q7 0 rfl _ (sdC A n c d 0 15) rfl (sd_ones _ _ _ _ _ _) rfl (by exact K2.out.1) (by decide) ?_; intro w3 hc1 ho1 hs1; have K3 : Hid (Blk 144 w3 q7 (sdC A n c d 0 15)) := Lib.hid hc1; have O3 : Hid (Oth [q7] w2 w3) := Lib.hid ho1; clear hc1 ho1 hs1)
        | (refine wpList_stC (ty := 5) (by kernel_rfl) rfl (.tmp 24) (.const (.int .u8 255)) rfl q7 3 rfl (.int .u8 255) rfl rfl _ (by exact K3.out) (by show _ < 4; decide) ?_; intro w4 hc1 ho1 hs1; have K4 : Hid (Blk 144 w4 q7 [.slice A n c, .int .i64 (d : Int), .int .i64 0, .int .u8 255]) := Lib.hid hc1; have O4 : Hid (Oth [q7] w2 w4) := Lib.hid (O3.out.trans ho1); clear hc1 ho1 hs1)
        | (refine wpList_ldB rt_side rfl (.tmp 7) rfl q7 0 rfl _ [.slice A n c, .int .i64 (d : Int), .int .i64 0, .int .u8 255] (by exact K4.out) rfl rfl ?_; have Q6 : Hid (Blk 144 w4 q6 [.slice none 0 0, .int .i64 0, .int .i64 0, .int .u8 0]) := Lib.hid ((K1.out.1.step K2.out.2.1).oth O4.out (by have := K1.out.1.lt; have := K2.out.2.2; simp; omega)))
        | (refine wpList_stB rt_side rfl (.tmp 6) (.tmp 25) rfl q6 0 rfl _ [.slice A n c, .int .i64 (d : Int), .int .i64 0, .int .u8 255] rfl (by intro v hv; simp only [List.mem_cons, List.not_mem_nil, or_false] at hv; rcases hv with rfl | rfl | rfl | rfl <;> rfl) rfl (by exact Q6.out) (by decide) ?_; intro w9 hc1 ho1 hs1))
      have B5 : Hid (Below w.heap.size w w9) := Lib.hid ((K1.out.2.1.trans ((K2.out.2.1.trans (O4.out.below (fun j hj => by rw [List.mem_singleton.1 hj]; exact K2.out.2.2) K2.out.2.1.size)).mono K1.out.2.1.size)).trans (ho1.below (fun j hj => by rw [List.mem_singleton.1 hj]; exact K1.out.2.2) (by have := K1.out.2.1.size; have := K2.out.2.1.size; have := O4.out.size; omega)))
      exact bodyPost_ret (v := .agg #[.slice A n c, .int .i64 (d : Int), .int .i64 0, .int .u8 255]) (res_rec rt_side rfl _ _ q6 [.slice A n c, .int .i64 (d : Int), .int .i64 0, .int .u8 255] rfl hc1 rfl) rfl ⟨rfl, B5.out⟩
    · skip
      have hmod : ((N : Int) % 2 == 0) = true := by rw [beq_iff_eq]; omega
      have HE : Hid (sdC A n c (if true = true then 0 else N - n) (edgeN n true) (maskB N true) = [.slice A n c, .int .i64 0, .int .i64 (f : Int), .int .u8 255]) := Lib.hid (by unfold sdC edgeN maskB; rw [← hd]; simp only [hodd, hf, if_true, if_false, Bool.false_eq_true]; rfl)
      rw [HE.out]
      clear hs hn hd hf hodd HE
      go_enter Tryz.func103, Tryz.ntmps103
      go_wp2_with (first
        | (with_reducible show wpList _ _ _ (⟨some 6, .alloc _, _, _, _, none⟩ :: _) _ _; refine wpList_newB rt_side rfl rfl ?_; intro w1 q6 hc1 hb1 hx1; have K1 := Lib.hid (And.intro hc1 (And.intro hb1 hx1)); clear hc1 hb1 hx1)
        | (with_reducible show wpList _ _ _ (⟨some 7, .alloc _, _, _, _, none⟩ :: _) _ _; refine wpList_newB rt_side rfl rfl ?_; intro w2 q7 hc1 hb1 hx1; have K2 := Lib.hid (And.intro hc1 (And.intro hb1 hx1)); clear hc1 hb1 hx1)
        | (refine wpList_stB rt_side rfl (.tmp 7) (.tmp 13) rfl q7 0 rfl _ (sdC A n c d 0 15) rfl (sd_ones _ _ _ _ _ _) rfl (by exact K2.out.1) (by decide) ?_; intro w3 hc1 ho1 hs1; have K3 : Hid (Blk 144 w3 q7 (sdC A n c d 0 15)) := Lib.hid hc1; have O3 : Hid (Oth [q7] w2 w3) := Lib.hid ho1; clear hc1 ho1 hs1)
        | (refine wpList_stC (ty := 3) (by kernel_rfl) rfl (.tmp 18) (.const (.int .i64 0)) rfl q7 1 rfl (.int .i64 0) rfl rfl _ (by exact K3.out) (by show _ < 4; decide) ?_; intro w4 hc1 ho1 hs1; have K4 : Hid (Blk 144 w4 q7 [.slice A n c, .int .i64 0, .int .i64 0, .int .u8 15]) := Lib.hid hc1; have O4 : Hid (Oth [q7] w2 w4) := Lib.hid (O3.out.trans ho1); clear hc1 ho1 hs1)
        | (refine wpList_stC (ty := 3) (by kernel_rfl) rfl (.tmp 19) (.tmp 17) rfl q7 2 rfl (.int .i64 (f : Int)) rfl rfl _ (by exact K4.out) (by show _ < 4; decide) ?_; intro w5 hc1 ho1 hs1; have K5 : Hid (Blk 144 w5 q7 [.slice A n c, .int .i64 0, .int .i64 (f : Int), .int .u8 15]) := Lib.hid hc1; have O5 : Hid (Oth [q7] w2 w5) := Lib.hid (O4.out.trans ho1); clear hc1 ho1 hs1)
        | (refine wpList_stC (ty := 5) (by kernel_rfl) rfl (.tmp 20) (.const (.int .u8 240)) rfl q7 3 rfl (.int .u8 240) rfl rfl _ (by exact K5.out) (by show _ < 4; decide) ?_; intro w6 hc1 ho1 hs1; have K6 : Hid (Blk 144 w6 q7 [.slice A n c, .int .i64 0, .int .i64 (f : Int), .int .u8 240]) := Lib.hid hc1; have O6 : Hid (Oth [q7] w2 w6) := Lib.hid (O5.out.trans ho1); clear hc1 ho1 hs1)
        | (refine wpList_stC (ty := 5) (by kernel_rfl) rfl (.tmp 24) (.const (.int .u8 255)) rfl q7 3 rfl (.int .u8 255) rfl rfl _ (by exact K6.out) (by show _ < 4; decide) ?_; intro w7 hc1 ho1 hs1; have K7 : Hid (Blk 144 w7 q7 [.slice A n c, .int .i64 0, .int .i64 (f : Int), .int .u8 255]) := Lib.hid hc1; have O7 : Hid (Oth [q7] w2 w7) := Lib.hid (O6.out.trans ho1); clear hc1 ho1 hs1)
        | (refine wpList_ldB rt_side rfl (.tmp 7) rfl q7 0 rfl _ [.slice A n c, .int .i64 0, .int .i64 (f : Int), .int .u8 255] (by exact K7.out) rfl rfl ?_; have Q6 : Hid (Blk 144 w7 q6 [.slice none 0 0, .int .i64 0, .int .i64 0, .int .u8 0]) := Lib.hid ((K1.out.1.step K2.out.2.1).oth O7.out (by have := K1.out.1.lt; have := K2.out.2.2; simp; omega)))
        | (refine wpList_stB rt_side rfl (.tmp 6) (.tmp 25) rfl q6 0 rfl _ [.slice A n c, .int .i64 0, .int .i64 (f : Int), .int .u8 255] rfl (by intro v hv; simp only [List.mem_cons, List.not_mem_nil, or_false] at hv; rcases hv with rfl | rfl | rfl | rfl <;> rfl) rfl (by exact Q6.out) (by decide) ?_; intro w9 hc1 ho1 hs1))
      have B5 : Hid (Below w.heap.size w w9) := Lib.hid ((K1.out.2.1.trans ((K2.out.2.1.trans (O7.out.below (fun j hj => by rw [List.mem_singleton.1 hj]; exact K2.out.2.2) K2.out.2.1.size)).mono K1.out.2.1.size)).trans (ho1.below (fun j hj => by rw [List.mem_singleton.1 hj]; exact K1.out.2.2) (by have := K1.out.2.1.size; have := K2.out.2.1.size; have := O7.out.size; omega)))
      exact bodyPost_ret (v := .agg #[.slice A n c, .int .i64 0, .int .i64 (f : Int), .int .u8 255]) (res_rec rt_side rfl _ _ q6 [.slice A n c, .int .i64 0, .int .i64 (f : Int), .int .u8 255] rfl hc1 rfl) rfl ⟨rfl, B5.out⟩
  · cases left
    · skip
      have hmod : ((N : Int) % 2 == 0) = false := by rw [beq_eq_false_iff_ne]; omega
      have HE : Hid (sdC A n c (if false = true then 0 else N - n) (edgeN n false) (maskB N false) = [.slice A n c, .int .i64 (d : Int), .int .i64 0, .int .u8 15]) := Lib.hid (by unfold sdC edgeN maskB; rw [← hd]; simp only [hodd, hf, if_true, if_false, Bool.false_eq_true]; rfl)
      rw [HE.out]
      clear hs hn hd hf hodd HE
      go_enter Tryz.func103, Tryz.ntmps103
      go_wp2_with (first
        | (with_reducible show wpList _ _ _ (⟨some 6, .alloc _, _, _, _, none⟩ :: _) _ _; refine wpList_newB rt_side rfl rfl ?_; intro w1 q6 hc1 hb1 hx1; have K1 := Lib.hid (And.intro hc1 (And.intro hb1 hx1)); clear hc1 hb1 hx1)
        | (with_reducible show wpList _ _ _ (⟨some 7, .alloc _, _, _, _, none⟩ :: _) _ _; refine wpList_newB rt_side rfl rfl ?_; intro w2 q7 hc1 hb1 hx1; have K2 := Lib.hid (And.intro hc1 (And.intro hb1 hx1)); clear hc1 hb1 hx1)
        | (refine wpList_stB rt_side rfl (.tmp 7) (.tmp 13) rfl q7 0 rfl _ (sdC A n c d 0 15) rfl (sd_ones _ _ _ _ _ _) rfl (by exact K2.out.1) (by decide) ?_; intro w3 hc1 ho1 hs1; have K3 : Hid (Blk 144 w3 q7 (sdC A n c d 0 15)) := Lib.hid hc1; have O3 : Hid (Oth [q7] w2 w3) := Lib.hid ho1; clear hc1 ho1 hs1)
        | (refine wpList_ldB rt_side rfl (.tmp 7) rfl q7 0 rfl _ [.slice A n c, .int .i64 (d : Int), .int .i64 0, .int .u8 15] (by exact K3.out) rfl rfl ?_; have Q6 : Hid (Blk 144 w3 q6 [.slice none 0 0, .int .i64 0, .int .i64 0, .int .u8 0]) := Lib.hid ((K1.out.1.step K2.out.2.1).oth O3.out (by have := K1.out.1.lt; have := K2.out.2.2; simp; omega)))
        | (refine wpList_stB rt_side rfl (.tmp 6) (.tmp 25) rfl q6 0 rfl _ [.slice A n c, .int .i64 (d : Int), .int .i64 0, .int .u8 15] rfl (by intro v hv; simp only [List.mem_cons, List.not_mem_nil, or_false] at hv; rcases hv with rfl | rfl | rfl | rfl <;> rfl) rfl (by exact Q6.out) (by decide) ?_; intro w9 hc1 ho1 hs1))
      have B5 : Hid (Below w.heap.size w w9) := Lib.hid ((K1.out.2.1.trans ((K2.out.2.1.trans (O3.out.below (fun j hj => by rw [List.mem_singleton.1 hj]; exact K2.out.2.2) K2.out.2.1.size)).mono K1.out.2.1.size)).trans (ho1.below (fun j hj => by rw [List.mem_singleton.1 hj]; exact K1.out.2.2) (by have := K1.out.2.1.size; have := K2.out.2.1.size; have := O3.out.size; omega)))
      exact bodyPost_ret (v := .agg #[.slice A n c, .int .i64 (d : Int), .int .i64 0, .int .u8 15]) (res_rec rt_side rfl _ _ q6 [.slice A n c, .int .i64 (d : Int), .int .i64 0, .int .u8 15] rfl hc1 rfl) rfl ⟨rfl, B5.out⟩
    · skip
      have hmod : ((N : Int) % 2 == 0) = false := by rw [beq_eq_false_iff_ne]; omega
      have HE : Hid (sdC A n c (if true = true then 0 else N - n) (edgeN n true) (maskB N true) = [.slice A n c, .int .i64 0, .int .i64 (f : Int), .int .u8 240]) := Lib.hid (by unfold sdC edgeN maskB; rw [← hd]; simp only [hodd, hf, if_true, if_false, Bool.false_eq_true]; rfl)
      rw [HE.out]
      clear hs hn hd hf hodd HE
      go_enter Tryz.func103, Tryz.ntmps103
      go_wp2_with (first
        | (with_reducible show wpList _ _ _ (⟨some 6, .alloc _, _, _, _, none⟩ :: _) _ _; refine wpList_newB rt_side rfl rfl ?_; intro w1 q6 hc1 hb1 hx1; have K1 := Lib.hid (And.intro hc1 (And.intro hb1 hx1)); clear hc1 hb1 hx1)
        | (with_reducible show wpList _ _ _ (⟨some 7, .alloc _, _, _, _, none⟩ :: _) _ _; refine wpList_newB rt_side rfl rfl ?_; intro w2 q7 hc1 hb1 hx1; have K2 := Lib.hid (And.intro hc1 (And.intro hb1 hx1)); clear hc1 hb1 hx1)
        | (refine wpList_stB rt_side rfl (.tmp 7) (.tmp 13) rfl q7 0 rfl _ (sdC A n c d 0 15) rfl (sd_ones _ _ _ _ _ _) rfl (by exact K2.out.1) (by decide) ?_; intro w3 hc1 ho1 hs1; have K3 : Hid (Blk 144 w3 q7 (sdC A n c d 0 15)) := Lib.hid hc1; have O3 : Hid (Oth [q7] w2 w3) := Lib.hid ho1; clear hc1 ho1 hs1)
        | (refine wpList_stC (ty := 3) (by kernel_rfl) rfl (.tmp 18) (.const (.int .i64 0)) rfl q7 1 rfl (.int .i64 0) rfl rfl _ (by exact K3.out) (by show _ < 4; decide) ?_; intro w4 hc1 ho1 hs1; have K4 : Hid (Blk 144 w4 q7 [.slice A n c, .int .i64 0, .int .i64 0, .int .u8 15]) := Lib.hid hc1; have O4 : Hid (Oth [q7] w2 w4) := Lib.hid (O3.out.trans ho1); clear hc1 ho1 hs1)
        | (refine wpList_stC (ty := 3) (by kernel_rfl) rfl (.tmp 19) (.tmp 17) rfl q7 2 rfl (.int .i64 (f : Int)) rfl rfl _ (by exact K4.out) (by show _ < 4; decide) ?_; intro w5 hc1 ho1 hs1; have K5 : Hid (Blk 144 w5 q7 [.slice A n c, .int .i64 0, .int .i64 (f : Int), .int .u8 15]) := Lib.hid hc1; have O5 : Hid (Oth [q7] w2 w5) := Lib.hid (O4.out.trans ho1); clear hc1 ho1 hs1)
        | (refine wpList_stC (ty := 5) (by kernel_rfl) rfl (.tmp 20) (.const (.int .u8 240)) rfl q7 3 rfl (.int .u8 240) rfl rfl _ (by exact K5.out) (by show _ < 4; decide) ?_; intro w6 hc1 ho1 hs1; have K6 : Hid (Blk 144 w6 q7 [.slice A n c, .int .i64 0, .int .i64 (f : Int), .int .u8 240]) := Lib.hid hc1; have O6 : Hid (Oth [q7] w2 w6) := Lib.hid (O5.out.trans ho1); clear hc1 ho1 hs1)
        | (refine wpList_ldB rt_side rfl (.tmp 7) rfl q7 0 rfl _ [.slice A n c, .int .i64 0, .int .i64 (f : Int), .int .u8 240] (by exact K6.out) rfl rfl ?_; have Q6 : Hid (Blk 144 w6 q6 [.slice none 0 0, .int .i64 0, .int .i64 0, .int .u8 0]) := Lib.hid ((K1.out.1.step K2.out.2.1).oth O6.out (by have := K1.out.1.lt; have := K2.out.2.2; simp; omega)))
        | (refine wpList_stB rt_side rfl (.tmp 6) (.tmp 25) rfl q6 0 rfl _ [.slice A n c, .int .i64 0, .int .i64 (f : Int), .int .u8 240] rfl (by intro v hv; simp only [List.mem_cons, List.not_mem_nil, or_false] at hv; rcases hv with rfl | rfl | rfl | rfl <;> rfl) rfl (by exact Q6.out) (by decide) ?_; intro w9 hc1 ho1 hs1))
      have B5 : Hid (Below w.heap.size w w9) := Lib.hid ((K1.out.2.1.trans ((K2.out.2.1.trans (O6.out.below (fun j hj => by rw [List.mem_singleton.1 hj]; exact K2.out.2.2) K2.out.2.1.size)).mono K1.out.2.1.size)).trans (ho1.below (fun j hj => by rw [List.mem_singleton.1 hj]; exact K1.out.2.2) (by have := K1.out.2.1.size; have := K2.out.2.1.size; have := O6.out.size; omega)))
      exact bodyPost_ret (v := .agg #[.slice A n c, .int .i64 0, .int .i64 (f : Int), .int .u8 240]) (res_rec rt_side rfl _ _ q6 [.slice A n c, .int .i64 0, .int .i64 (f : Int), .int .u8 240] rfl hc1 rfl) rfl ⟨rfl, B5.out⟩
end Go.Proofs.YtfipdaekfdbaeaaGreat
