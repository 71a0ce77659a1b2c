/- Layer 17: Point, Told, lead, Plain. Condition: the slice's cells are readable. -/
import Derived.Test.YtfipdaekfdbaeaaGreatCdP
import Derived.Test.YtfipdaekfdbaeaaGreatOctAll
import Derived.Test.YtfipdaekfdbaeaaGreatHvV
namespace Go.Proofs.YtfipdaekfdbaeaaGreat
open Go.RowKit
set_option linter.unusedVariables false
set_option linter.unusedSimpArgs false
theorem pnt_nat (x : UInt8) : pntB x = (x.toNat : Int) / 64 := hv_byte (p := fun x => pntB x = (x.toNat : Int) / 64) (by decide +kernel) x
theorem tld_nat (x : UInt8) : tldB x = (x.toNat : Int) % 64 + 1 := hv_byte (p := fun x => tldB x = (x.toNat : Int) % 64 + 1) (by decide +kernel) x
theorem and_63 (x : UInt8) : bits .and .u8 (x.toNat : Int) 63 = (x.toNat : Int) % 64 := hv_byte (p := fun x => bits .and .u8 (x.toNat : Int) 63 = (x.toNat : Int) % 64) (by decide +kernel) x
set_option maxRecDepth 100000 in
theorem cpoint_any (x : UInt8) (w : World) :
    Calls Tryz.prog 16 #[.int .u8 (x.toNat : Int)] w fun e w' => e = .returned (.int .i64 (pntB x)) ∧ w = w' := by
  have hx := x.toNat_lt
  rw [pnt_nat]
  go_enter Tryz.func16, Tryz.ntmps16
  go_wp2_with fail
  go_ret
  exact ⟨rfl, rfl⟩
set_option maxRecDepth 100000 in
theorem ctold_any (x : UInt8) (w : World) :
    Calls Tryz.prog 18 #[.int .u8 (x.toNat : Int)] w fun e w' => e = .returned (.int .i64 (tldB x)) ∧ w = w' := by
  have hx := x.toNat_lt
  have h := and_63 x
  obtain ⟨z, hz⟩ : ∃ z, (x.toNat : Int) % 64 = z := ⟨_, rfl⟩
  have hz0 : 0 ≤ z ∧ z < 64 := by omega
  rw [tld_nat, hz, Int.add_comm z 1]
  rw [hz] at h
  have HQ := Lib.hid hz
  clear hz
  go_enter Tryz.func18, Tryz.ntmps18
  go_wp2_with fail
  go_ret
  exact ⟨rfl, rfl⟩
theorem or_0 {n : Nat} (h : n ≤ 63) : bits .or .i64 0 (n : Int) = ((b8 (64 * 0 + (n : Int))).toNat : Int) := by
  rw [b8_nat (by omega) (by omega)]
  exact (by decide +kernel : ∀ m : Fin 64, bits .or .i64 0 (m.val : Int) = 64 * 0 + (m.val : Int)) ⟨n, by omega⟩
theorem or_1 {n : Nat} (h : n ≤ 63) : bits .or .i64 64 (n : Int) = ((b8 (64 * 1 + (n : Int))).toNat : Int) := by
  rw [b8_nat (by omega) (by omega)]
  exact (by decide +kernel : ∀ m : Fin 64, bits .or .i64 64 (m.val : Int) = 64 * 1 + (m.val : Int)) ⟨n, by omega⟩
theorem or_2 {n : Nat} (h : n ≤ 63) : bits .or .i64 128 (n : Int) = ((b8 (64 * 2 + (n : Int))).toNat : Int) := by
  rw [b8_nat (by omega) (by omega)]
  exact (by decide +kernel : ∀ m : Fin 64, bits .or .i64 128 (m.val : Int) = 64 * 2 + (m.val : Int)) ⟨n, by omega⟩
theorem or_3 {n : Nat} (h : n ≤ 63) : bits .or .i64 192 (n : Int) = ((b8 (64 * 3 + (n : Int))).toNat : Int) := by
  rw [b8_nat (by omega) (by omega)]
  exact (by decide +kernel : ∀ m : Fin 64, bits .or .i64 192 (m.val : Int) = 64 * 3 + (m.val : Int)) ⟨n, by omega⟩
set_option maxRecDepth 100000 in
set_option maxHeartbeats 2000000 in
theorem lead_0 (A : Option Addr) (n c : Nat) (l : List UInt8) (w : World) (h : RB w w.heap.size A n l) (hn : n ≤ 63) :
    Calls Tryz.prog 27 #[.int .i64 0, .slice A n c] w (RetB (n + 1) (idB 0 l) w) := by
  have hor := or_0 hn
  obtain ⟨y, hy⟩ : ∃ y, b8 (64 * 0 + (n : Int)) = y := ⟨_, rfl⟩
  have HI : Hid (idB 0 l = [y] ++ l) := Lib.hid (by unfold idB; rw [h.len, hy]; rfl)
  rw [hy] at hor
  clear hy
  have hyl := byte_lt y
  have HL := Lib.hid h.len
  have H := Lib.hid h
  clear h
  go_enter Tryz.func27, Tryz.ntmps27
  go_wp2_with fail
  have B1 := Lib.hid (below_alloc w (.cells #[.int .u8 (y.toNat : Int)] 5))
  have R1 := Lib.hid (RB.lit w [y] #[.int .u8 (y.toNat : Int)] 1 _ rfl rfl rfl)
  obtain ⟨w1, hw1⟩ : ∃ w1, w.alloc (.cells #[.int .u8 (y.toNat : Int)] 5) = w1 := ⟨_, rfl⟩
  rw [hw1] at B1 R1 ⊢
  have hRR := RR.lit w1 [(some ⟨w.heap.size, 0, none⟩, 1, [y]), (A, c, l)] #[.slice (some ⟨w.heap.size, 0, none⟩) 1 1, .slice A n c] 25 2 w1.heap.size (by simp [HL.out]) rfl rfl (fun r hr => by
    simp only [List.mem_cons, List.not_mem_nil, or_false] at hr
    rcases hr with rfl | rfl
    · exact R1.out
    · simp only [HL.out]; exact H.out.step B1.out)
  have B2 := Lib.hid (B1.out.trans ((below_alloc w1 (.cells #[.slice (some ⟨w.heap.size, 0, none⟩) 1 1, .slice A n c] 25)).mono B1.out.size))
  have HRR := Lib.hid hRR
  have HS : Hid (w1.heap.size = w.heap.size + 1) := Lib.hid (by rw [← hw1]; simp)
  rw [HS.out] at HRR
  clear hRR hw1
  refine (join_any _ 2 2 _ _ (by exact HRR.out) (by decide) (by simp [totL, HL.out]; omega)).mono ?_
  rintro e w4 ⟨A6, c6, rfl, ho, hb2⟩
  have hto : totL (List.map (fun r : Option Addr × Nat × List UInt8 => r.2.2) [(some ⟨w.heap.size, 0, none⟩, 1, [y]), (A, c, l)]) = n + 1 := by simp [totL, HL.out]; omega
  have hfl : (List.map (fun r : Option Addr × Nat × List UInt8 => r.2.2) [(some ⟨w.heap.size, 0, none⟩, 1, [y]), (A, c, l)]).flatten = idB 0 l := by rw [HI.out]; simp
  rw [hto, hfl] at ho
  rw [hto]
  have K2 := Lib.hid (And.intro (ho.base_le B2.out.size) (bel_next B2.out hb2))
  clear ho hb2 hto hfl HRR
  go_wp2_with fail
  go_ret
  exact ⟨A6, c6, rfl, K2.out.1, K2.out.2⟩
set_option maxRecDepth 100000 in
set_option maxHeartbeats 2000000 in
theorem lead_1 (A : Option Addr) (n c : Nat) (l : List UInt8) (w : World) (h : RB w w.heap.size A n l) (hn : n ≤ 63) :
    Calls Tryz.prog 27 #[.int .i64 1, .slice A n c] w (RetB (n + 1) (idB 1 l) w) := by
  have hor := or_1 hn
  obtain ⟨y, hy⟩ : ∃ y, b8 (64 * 1 + (n : Int)) = y := ⟨_, rfl⟩
  have HI : Hid (idB 1 l = [y] ++ l) := Lib.hid (by unfold idB; rw [h.len, hy]; rfl)
  rw [hy] at hor
  clear hy
  have hyl := byte_lt y
  have HL := Lib.hid h.len
  have H := Lib.hid h
  clear h
  go_enter Tryz.func27, Tryz.ntmps27
  go_wp2_with fail
  have B1 := Lib.hid (below_alloc w (.cells #[.int .u8 (y.toNat : Int)] 5))
  have R1 := Lib.hid (RB.lit w [y] #[.int .u8 (y.toNat : Int)] 1 _ rfl rfl rfl)
  obtain ⟨w1, hw1⟩ : ∃ w1, w.alloc (.cells #[.int .u8 (y.toNat : Int)] 5) = w1 := ⟨_, rfl⟩
  rw [hw1] at B1 R1 ⊢
  have hRR := RR.lit w1 [(some ⟨w.heap.size, 0, none⟩, 1, [y]), (A, c, l)] #[.slice (some ⟨w.heap.size, 0, none⟩) 1 1, .slice A n c] 25 2 w1.heap.size (by simp [HL.out]) rfl rfl (fun r hr => by
    simp only [List.mem_cons, List.not_mem_nil, or_false] at hr
    rcases hr with rfl | rfl
    · exact R1.out
    · simp only [HL.out]; exact H.out.step B1.out)
  have B2 := Lib.hid (B1.out.trans ((below_alloc w1 (.cells #[.slice (some ⟨w.heap.size, 0, none⟩) 1 1, .slice A n c] 25)).mono B1.out.size))
  have HRR := Lib.hid hRR
  have HS : Hid (w1.heap.size = w.heap.size + 1) := Lib.hid (by rw [← hw1]; simp)
  rw [HS.out] at HRR
  clear hRR hw1
  refine (join_any _ 2 2 _ _ (by exact HRR.out) (by decide) (by simp [totL, HL.out]; omega)).mono ?_
  rintro e w4 ⟨A6, c6, rfl, ho, hb2⟩
  have hto : totL (List.map (fun r : Option Addr × Nat × List UInt8 => r.2.2) [(some ⟨w.heap.size, 0, none⟩, 1, [y]), (A, c, l)]) = n + 1 := by simp [totL, HL.out]; omega
  have hfl : (List.map (fun r : Option Addr × Nat × List UInt8 => r.2.2) [(some ⟨w.heap.size, 0, none⟩, 1, [y]), (A, c, l)]).flatten = idB 1 l := by rw [HI.out]; simp
  rw [hto, hfl] at ho
  rw [hto]
  have K2 := Lib.hid (And.intro (ho.base_le B2.out.size) (bel_next B2.out hb2))
  clear ho hb2 hto hfl HRR
  go_wp2_with fail
  go_ret
  exact ⟨A6, c6, rfl, K2.out.1, K2.out.2⟩
set_option maxRecDepth 100000 in
set_option maxHeartbeats 2000000 in
theorem lead_2 (A : Option Addr) (n c : Nat) (l : List UInt8) (w : World) (h : RB w w.heap.size A n l) (hn : n ≤ 63) :
    Calls Tryz.prog 27 #[.int .i64 2, .slice A n c] w (RetB (n + 1) (idB 2 l) w) := by
  have hor := or_2 hn
  obtain ⟨y, hy⟩ : ∃ y, b8 (64 * 2 + (n : Int)) = y := ⟨_, rfl⟩
  have HI : Hid (idB 2 l = [y] ++ l) := Lib.hid (by unfold idB; rw [h.len, hy]; rfl)
  rw [hy] at hor
  clear hy
  have hyl := byte_lt y
  have HL := Lib.hid h.len
  have H := Lib.hid h
  clear h
  go_enter Tryz.func27, Tryz.ntmps27
  go_wp2_with fail
  have B1 := Lib.hid (below_alloc w (.cells #[.int .u8 (y.toNat : Int)] 5))
  have R1 := Lib.hid (RB.lit w [y] #[.int .u8 (y.toNat : Int)] 1 _ rfl rfl rfl)
  obtain ⟨w1, hw1⟩ : ∃ w1, w.alloc (.cells #[.int .u8 (y.toNat : Int)] 5) = w1 := ⟨_, rfl⟩
  rw [hw1] at B1 R1 ⊢
  have hRR := RR.lit w1 [(some ⟨w.heap.size, 0, none⟩, 1, [y]), (A, c, l)] #[.slice (some ⟨w.heap.size, 0, none⟩) 1 1, .slice A n c] 25 2 w1.heap.size (by simp [HL.out]) rfl rfl (fun r hr => by
    simp only [List.mem_cons, List.not_mem_nil, or_false] at hr
    rcases hr with rfl | rfl
    · exact R1.out
    · simp only [HL.out]; exact H.out.step B1.out)
  have B2 := Lib.hid (B1.out.trans ((below_alloc w1 (.cells #[.slice (some ⟨w.heap.size, 0, none⟩) 1 1, .slice A n c] 25)).mono B1.out.size))
  have HRR := Lib.hid hRR
  have HS : Hid (w1.heap.size = w.heap.size + 1) := Lib.hid (by rw [← hw1]; simp)
  rw [HS.out] at HRR
  clear hRR hw1
  refine (join_any _ 2 2 _ _ (by exact HRR.out) (by decide) (by simp [totL, HL.out]; omega)).mono ?_
  rintro e w4 ⟨A6, c6, rfl, ho, hb2⟩
  have hto : totL (List.map (fun r : Option Addr × Nat × List UInt8 => r.2.2) [(some ⟨w.heap.size, 0, none⟩, 1, [y]), (A, c, l)]) = n + 1 := by simp [totL, HL.out]; omega
  have hfl : (List.map (fun r : Option Addr × Nat × List UInt8 => r.2.2) [(some ⟨w.heap.size, 0, none⟩, 1, [y]), (A, c, l)]).flatten = idB 2 l := by rw [HI.out]; simp
  rw [hto, hfl] at ho
  rw [hto]
  have K2 := Lib.hid (And.intro (ho.base_le B2.out.size) (bel_next B2.out hb2))
  clear ho hb2 hto hfl HRR
  go_wp2_with fail
  go_ret
  exact ⟨A6, c6, rfl, K2.out.1, K2.out.2⟩
set_option maxRecDepth 100000 in
set_option maxHeartbeats 2000000 in
theorem lead_3 (A : Option Addr) (n c : Nat) (l : List UInt8) (w : World) (h : RB w w.heap.size A n l) (hn : n ≤ 63) :
    Calls Tryz.prog 27 #[.int .i64 3, .slice A n c] w (RetB (n + 1) (idB 3 l) w) := by
  have hor := or_3 hn
  obtain ⟨y, hy⟩ : ∃ y, b8 (64 * 3 + (n : Int)) = y := ⟨_, rfl⟩
  have HI : Hid (idB 3 l = [y] ++ l) := Lib.hid (by unfold idB; rw [h.len, hy]; rfl)
  rw [hy] at hor
  clear hy
  have hyl := byte_lt y
  have HL := Lib.hid h.len
  have H := Lib.hid h
  clear h
  go_enter Tryz.func27, Tryz.ntmps27
  go_wp2_with fail
  have B1 := Lib.hid (below_alloc w (.cells #[.int .u8 (y.toNat : Int)] 5))
  have R1 := Lib.hid (RB.lit w [y] #[.int .u8 (y.toNat : Int)] 1 _ rfl rfl rfl)
  obtain ⟨w1, hw1⟩ : ∃ w1, w.alloc (.cells #[.int .u8 (y.toNat : Int)] 5) = w1 := ⟨_, rfl⟩
  rw [hw1] at B1 R1 ⊢
  have hRR := RR.lit w1 [(some ⟨w.heap.size, 0, none⟩, 1, [y]), (A, c, l)] #[.slice (some ⟨w.heap.size, 0, none⟩) 1 1, .slice A n c] 25 2 w1.heap.size (by simp [HL.out]) rfl rfl (fun r hr => by
    simp only [List.mem_cons, List.not_mem_nil, or_false] at hr
    rcases hr with rfl | rfl
    · exact R1.out
    · simp only [HL.out]; exact H.out.step B1.out)
  have B2 := Lib.hid (B1.out.trans ((below_alloc w1 (.cells #[.slice (some ⟨w.heap.size, 0, none⟩) 1 1, .slice A n c] 25)).mono B1.out.size))
  have HRR := Lib.hid hRR
  have HS : Hid (w1.heap.size = w.heap.size + 1) := Lib.hid (by rw [← hw1]; simp)
  rw [HS.out] at HRR
  clear hRR hw1
  refine (join_any _ 2 2 _ _ (by exact HRR.out) (by decide) (by simp [totL, HL.out]; omega)).mono ?_
  rintro e w4 ⟨A6, c6, rfl, ho, hb2⟩
  have hto : totL (List.map (fun r : Option Addr × Nat × List UInt8 => r.2.2) [(some ⟨w.heap.size, 0, none⟩, 1, [y]), (A, c, l)]) = n + 1 := by simp [totL, HL.out]; omega
  have hfl : (List.map (fun r : Option Addr × Nat × List UInt8 => r.2.2) [(some ⟨w.heap.size, 0, none⟩, 1, [y]), (A, c, l)]).flatten = idB 3 l := by rw [HI.out]; simp
  rw [hto, hfl] at ho
  rw [hto]
  have K2 := Lib.hid (And.intro (ho.base_le B2.out.size) (bel_next B2.out hb2))
  clear ho hb2 hto hfl HRR
  go_wp2_with fail
  go_ret
  exact ⟨A6, c6, rfl, K2.out.1, K2.out.2⟩
theorem lead_any (p : Int) (h0 : 0 ≤ p) (h3 : p ≤ 3) (A : Option Addr) (n c : Nat) (l : List UInt8) (w : World) (h : RB w w.heap.size A n l) (hn : n ≤ 63) :
    Calls Tryz.prog 27 #[.int .i64 p, .slice A n c] w (RetB (n + 1) (idB p l) w) := by
  rcases (show p = 0 ∨ p = 1 ∨ p = 2 ∨ p = 3 by omega) with rfl | rfl | rfl | rfl
  · exact lead_0 A n c l w h hn
  · exact lead_1 A n c l w h hn
  · exact lead_2 A n c l w h hn
  · exact lead_3 A n c l w h hn
set_option maxRecDepth 100000 in
set_option maxHeartbeats 2000000 in
theorem cplain_any (p : Int) (A : Option Addr) (n c : Nat) (l : List UInt8) (w : World) (h : RB w w.heap.size A n l) :
    Calls Tryz.prog 13 #[.int .i64 p, .slice A n c] w (RetBE (plnL p l).1.length (plnL p l).1 (plnL p l).2 w) := by
  have HL := Lib.hid h.len
  have H := Lib.hid h
  clear h
  by_cases h0 : p < 0
  · have d0 : decide (p < 0) = true := decide_eq_true h0
    have HE := Lib.hid (pln_no (p := p) (n := l) (by rw [HL.out]; omega))
    go_enter Tryz.func13, Tryz.ntmps13
    go_wp2_with fail
    rw [HE.out]
    go_ret2
    exact ⟨none, 0, rfl, OwnB.nil_ _ _, Below.refl _ _⟩
  have d0 : decide (p < 0) = false := decide_eq_false h0
  by_cases h3 : 3 < p
  · have d3 : decide (3 < p) = true := decide_eq_true h3
    have HE := Lib.hid (pln_no (p := p) (n := l) (by rw [HL.out]; omega))
    go_enter Tryz.func13, Tryz.ntmps13
    go_wp2_with fail
    rw [HE.out]
    go_ret2
    exact ⟨none, 0, rfl, OwnB.nil_ _ _, Below.refl _ _⟩
  have d3 : decide (3 < p) = false := decide_eq_false h3
  by_cases h19 : 19 < n
  · have d1 : decide ((19 : Int) < (n : Int)) = true := decide_eq_true (by omega)
    have HE := Lib.hid (pln_no (p := p) (n := l) (by rw [HL.out]; omega))
    go_enter Tryz.func13, Tryz.ntmps13
    go_wp2_with fail
    rw [HE.out]
    go_ret2
    exact ⟨none, 0, rfl, OwnB.nil_ _ _, Below.refl _ _⟩
  have d1 : decide ((19 : Int) < (n : Int)) = false := decide_eq_false (by omega)
  have HE := Lib.hid (pln_ok (p := p) (n := l) ⟨⟨by omega, by omega⟩, by rw [HL.out]; omega⟩)
  have HLD := Lib.hid (fun u (hu : RB u u.heap.size A n l) => lead_any p (by omega) (by omega) A n c l u hu (by omega))
  clear h0 h3 h19
  go_enter Tryz.func13, Tryz.ntmps13
  go_wp2_with fail
  refine (HLD.out _ (by exact H.out)).mono ?_
  rintro e w1 ⟨A6, c6, rfl, ho, hb⟩
  have K2 := Lib.hid (And.intro ho hb)
  clear ho hb
  go_wp2_with fail
  rw [HE.out, idB_len, HL.out]
  go_ret2
  exact ⟨A6, c6, rfl, K2.out.1, K2.out.2⟩
end Go.Proofs.YtfipdaekfdbaeaaGreat
