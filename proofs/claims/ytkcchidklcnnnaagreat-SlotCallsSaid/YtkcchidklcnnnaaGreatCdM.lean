/- Layer 17: Point, Told, lead, Plain. Condition: the slice's cells are readable. -/
import Derived.Test.YtkcchidklcnnnaaGreatCdP
import Derived.Test.YtkcchidklcnnnaaGreatOctAll
import Derived.Test.YtkcchidklcnnnaaGreatHvV
import Derived.Test.YtkcchidklcnnnaaGreatMdL
namespace Go.Proofs.YtkcchidklcnnnaaGreat
open Go.RowKit
set_option linter.unusedVariables false
set_option linter.unusedSimpArgs false
theorem pnt_nat (x : UInt8) : pntB x = (x.toNat : Int) / 64 := hv_byte (p := fun x => pntB x = (x.toNat : Int) / 64) (by decide +kernel) x
theorem tld_nat (x : UInt8) : tldB x = (x.toNat : Int) % 64 + 1 := hv_byte (p := fun x => tldB x = (x.toNat : Int) % 64 + 1) (by decide +kernel) x
theorem and_63 (x : UInt8) : bits .and .u8 (x.toNat : Int) 63 = (x.toNat : Int) % 64 := hv_byte (p := fun x => bits .and .u8 (x.toNat : Int) 63 = (x.toNat : Int) % 64) (by decide +kernel) x
set_option maxRecDepth 100000 in
theorem cpoint_any (x : UInt8) (w : World) :
    Calls Tryz.prog 31 #[.int .u8 (x.toNat : Int)] w fun e w' => e = .returned (.int .i64 (pntB x)) ∧ w = w' := by
  have hx := x.toNat_lt
  rw [pnt_nat]
  go_enter Tryz.func31, Tryz.ntmps31
  go_wp2_with fail
  go_ret
  exact ⟨rfl, rfl⟩
set_option maxRecDepth 100000 in
theorem ctold_any (x : UInt8) (w : World) :
    Calls Tryz.prog 45 #[.int .u8 (x.toNat : Int)] w fun e w' => e = .returned (.int .i64 (tldB x)) ∧ w = w' := by
  have hx := x.toNat_lt
  have h := and_63 x
  obtain ⟨z, hz⟩ : ∃ z, (x.toNat : Int) % 64 = z := ⟨_, rfl⟩
  have hz0 : 0 ≤ z ∧ z < 64 := by omega
  rw [tld_nat, hz, Int.add_comm z 1]
  rw [hz] at h
  have HQ := Lib.hid hz
  clear hz
  go_enter Tryz.func45, Tryz.ntmps45
  go_wp2_with fail
  go_ret
  exact ⟨rfl, rfl⟩
theorem or_0 {n : Nat} (h : n ≤ 63) : bits .or .i64 0 (n : Int) = ((b8 (64 * 0 + (n : Int))).toNat : Int) := by
  rw [b8_nat (by omega) (by omega)]
  exact (by decide +kernel : ∀ m : Fin 64, bits .or .i64 0 (m.val : Int) = 64 * 0 + (m.val : Int)) ⟨n, by omega⟩
theorem or_1 {n : Nat} (h : n ≤ 63) : bits .or .i64 64 (n : Int) = ((b8 (64 * 1 + (n : Int))).toNat : Int) := by
  rw [b8_nat (by omega) (by omega)]
  exact (by decide +kernel : ∀ m : Fin 64, bits .or .i64 64 (m.val : Int) = 64 * 1 + (m.val : Int)) ⟨n, by omega⟩
theorem or_2 {n : Nat} (h : n ≤ 63) : bits .or .i64 128 (n : Int) = ((b8 (64 * 2 + (n : Int))).toNat : Int) := by
  rw [b8_nat (by omega) (by omega)]
  exact (by decide +kernel : ∀ m : Fin 64, bits .or .i64 128 (m.val : Int) = 64 * 2 + (m.val : Int)) ⟨n, by omega⟩
theorem or_3 {n : Nat} (h : n ≤ 63) : bits .or .i64 192 (n : Int) = ((b8 (64 * 3 + (n : Int))).toNat : Int) := by
  rw [b8_nat (by omega) (by omega)]
  exact (by decide +kernel : ∀ m : Fin 64, bits .or .i64 192 (m.val : Int) = 64 * 3 + (m.val : Int)) ⟨n, by omega⟩
set_option maxRecDepth 100000 in
set_option maxHeartbeats 2000000 in
theorem lead_0 (A : Option Addr) (n c : Nat) (l : List UInt8) (w : World) (h : RB w w.heap.size A n l) (hn : n ≤ 63) :
    Calls Tryz.prog 40 #[.int .i64 0, .slice A n c] w (RetB (n + 1) (idB 0 l) w) := by
  have hor := or_0 hn
  obtain ⟨y, hy⟩ : ∃ y, b8 (64 * 0 + (n : Int)) = y := ⟨_, rfl⟩
  have HI : Hid (idB 0 l = [y] ++ l) := Lib.hid (by unfold idB; rw [h.len, hy]; rfl)
  rw [hy] at hor
  clear hy
  have hyl := byte_lt y
  have HL := Lib.hid h.len
  have H := Lib.hid h
  clear h
  go_enter Tryz.func40, Tryz.ntmps40
  go_wp2_with fail
  have B1 := Lib.hid (below_alloc w (.cells #[.int .u8 (y.toNat : Int)] 5))
  have R1 := Lib.hid (RB.lit w [y] #[.int .u8 (y.toNat : Int)] 1 _ rfl rfl rfl)
  obtain ⟨w1, hw1⟩ : ∃ w1, w.alloc (.cells #[.int .u8 (y.toNat : Int)] 5) = w1 := ⟨_, rfl⟩
  rw [hw1] at B1 R1 ⊢
  have hRR := RR.lit w1 [(some ⟨w.heap.size, 0, none⟩, 1, [y]), (A, c, l)] #[.slice (some ⟨w.heap.size, 0, none⟩) 1 1, .slice A n c] 40 2 w1.heap.size (by simp [HL.out]) rfl rfl (fun r hr => by
    simp only [List.mem_cons, List.not_mem_nil, or_false] at hr
    rcases hr with rfl | rfl
    · exact R1.out
    · simp only [HL.out]; exact H.out.step B1.out)
  have B2 := Lib.hid (B1.out.trans ((below_alloc w1 (.cells #[.slice (some ⟨w.heap.size, 0, none⟩) 1 1, .slice A n c] 40)).mono B1.out.size))
  have HRR := Lib.hid hRR
  have HS : Hid (w1.heap.size = w.heap.size + 1) := Lib.hid (by rw [← hw1]; simp)
  rw [HS.out] at HRR
  clear hRR hw1
  refine (join_any _ 2 2 _ _ (by exact HRR.out) (by decide) (by simp [totL, HL.out]; omega)).mono ?_
  rintro e w4 ⟨A6, c6, rfl, ho, hb2⟩
  have hto : totL (List.map (fun r : Option Addr × Nat × List UInt8 => r.2.2) [(some ⟨w.heap.size, 0, none⟩, 1, [y]), (A, c, l)]) = n + 1 := by simp [totL, HL.out]; omega
  have hfl : (List.map (fun r : Option Addr × Nat × List UInt8 => r.2.2) [(some ⟨w.heap.size, 0, none⟩, 1, [y]), (A, c, l)]).flatten = idB 0 l := by rw [HI.out]; simp
  rw [hto, hfl] at ho
  rw [hto]
  have K2 := Lib.hid (And.intro (ho.base_le B2.out.size) (bel_next B2.out hb2))
  clear ho hb2 hto hfl HRR
  go_wp2_with fail
  go_ret
  exact ⟨A6, c6, rfl, K2.out.1, K2.out.2⟩
set_option maxRecDepth 100000 in
set_option maxHeartbeats 2000000 in
theorem lead_1 (A : Option Addr) (n c : Nat) (l : List UInt8) (w : World) (h : RB w w.heap.size A n l) (hn : n ≤ 63) :
    Calls Tryz.prog 40 #[.int .i64 1, .slice A n c] w (RetB (n + 1) (idB 1 l) w) := by
  have hor := or_1 hn
  obtain ⟨y, hy⟩ : ∃ y, b8 (64 * 1 + (n : Int)) = y := ⟨_, rfl⟩
  have HI : Hid (idB 1 l = [y] ++ l) := Lib.hid (by unfold idB; rw [h.len, hy]; rfl)
  rw [hy] at hor
  clear hy
  have hyl := byte_lt y
  have HL := Lib.hid h.len
  have H := Lib.hid h
  clear h
  go_enter Tryz.func40, Tryz.ntmps40
  go_wp2_with fail
  have B1 := Lib.hid (below_alloc w (.cells #[.int .u8 (y.toNat : Int)] 5))
  have R1 := Lib.hid (RB.lit w [y] #[.int .u8 (y.toNat : Int)] 1 _ rfl rfl rfl)
  obtain ⟨w1, hw1⟩ : ∃ w1, w.alloc (.cells #[.int .u8 (y.toNat : Int)] 5) = w1 := ⟨_, rfl⟩
  rw [hw1] at B1 R1 ⊢
  have hRR := RR.lit w1 [(some ⟨w.heap.size, 0, none⟩, 1, [y]), (A, c, l)] #[.slice (some ⟨w.heap.size, 0, none⟩) 1 1, .slice A n c] 40 2 w1.heap.size (by simp [HL.out]) rfl rfl (fun r hr => by
    simp only [List.mem_cons, List.not_mem_nil, or_false] at hr
    rcases hr with rfl | rfl
    · exact R1.out
    · simp only [HL.out]; exact H.out.step B1.out)
  have B2 := Lib.hid (B1.out.trans ((below_alloc w1 (.cells #[.slice (some ⟨w.heap.size, 0, none⟩) 1 1, .slice A n c] 40)).mono B1.out.size))
  have HRR := Lib.hid hRR
  have HS : Hid (w1.heap.size = w.heap.size + 1) := Lib.hid (by rw [← hw1]; simp)
  rw [HS.out] at HRR
  clear hRR hw1
  refine (join_any _ 2 2 _ _ (by exact HRR.out) (by decide) (by simp [totL, HL.out]; omega)).mono ?_
  rintro e w4 ⟨A6, c6, rfl, ho, hb2⟩
  have hto : totL (List.map (fun r : Option Addr × Nat × List UInt8 => r.2.2) [(some ⟨w.heap.size, 0, none⟩, 1, [y]), (A, c, l)]) = n + 1 := by simp [totL, HL.out]; omega
  have hfl : (List.map (fun r : Option Addr × Nat × List UInt8 => r.2.2) [(some ⟨w.heap.size, 0, none⟩, 1, [y]), (A, c, l)]).flatten = idB 1 l := by rw [HI.out]; simp
  rw [hto, hfl] at ho
  rw [hto]
  have K2 := Lib.hid (And.intro (ho.base_le B2.out.size) (bel_next B2.out hb2))
  clear ho hb2 hto hfl HRR
  go_wp2_with fail
  go_ret
  exact ⟨A6, c6, rfl, K2.out.1, K2.out.2⟩
set_option maxRecDepth 100000 in
set_option maxHeartbeats 2000000 in
theorem lead_2 (A : Option Addr) (n c : Nat) (l : List UInt8) (w : World) (h : RB w w.heap.size A n l) (hn : n ≤ 63) :
    Calls Tryz.prog 40 #[.int .i64 2, .slice A n c] w (RetB (n + 1) (idB 2 l) w) := by
  have hor := or_2 hn
  obtain ⟨y, hy⟩ : ∃ y, b8 (64 * 2 + (n : Int)) = y := ⟨_, rfl⟩
  have HI : Hid (idB 2 l = [y] ++ l) := Lib.hid (by unfold idB; rw [h.len, hy]; rfl)
  rw [hy] at hor
  clear hy
  have hyl := byte_lt y
  have HL := Lib.hid h.len
  have H := Lib.hid h
  clear h
  go_enter Tryz.func40, Tryz.ntmps40
  go_wp2_with fail
  have B1 := Lib.hid (below_alloc w (.cells #[.int .u8 (y.toNat : Int)] 5))
  have R1 := Lib.hid (RB.lit w [y] #[.int .u8 (y.toNat : Int)] 1 _ rfl rfl rfl)
  obtain ⟨w1, hw1⟩ : ∃ w1, w.alloc (.cells #[.int .u8 (y.toNat : Int)] 5) = w1 := ⟨_, rfl⟩
  rw [hw1] at B1 R1 ⊢
  have hRR := RR.lit w1 [(some ⟨w.heap.size, 0, none⟩, 1, [y]), (A, c, l)] #[.slice (some ⟨w.heap.size, 0, none⟩) 1 1, .slice A n c] 40 2 w1.heap.size (by simp [HL.out]) rfl rfl (fun r hr => by
    simp only [List.mem_cons, List.not_mem_nil, or_false] at hr
    rcases hr with rfl | rfl
    · exact R1.out
    · simp only [HL.out]; exact H.out.step B1.out)
  have B2 := Lib.hid (B1.out.trans ((below_alloc w1 (.cells #[.slice (some ⟨w.heap.size, 0, none⟩) 1 1, .slice A n c] 40)).mono B1.out.size))
  have HRR := Lib.hid hRR
  have HS : Hid (w1.heap.size = w.heap.size + 1) := Lib.hid (by rw [← hw1]; simp)
  rw [HS.out] at HRR
  clear hRR hw1
  refine (join_any _ 2 2 _ _ (by exact HRR.out) (by decide) (by simp [totL, HL.out]; omega)).mono ?_
  rintro e w4 ⟨A6, c6, rfl, ho, hb2⟩
  have hto : totL (List.map (fun r : Option Addr × Nat × List UInt8 => r.2.2) [(some ⟨w.heap.size, 0, none⟩, 1, [y]), (A, c, l)]) = n + 1 := by simp [totL, HL.out]; omega
  have hfl : (List.map (fun r : Option Addr × Nat × List UInt8 => r.2.2) [(some ⟨w.heap.size, 0, none⟩, 1, [y]), (A, c, l)]).flatten = idB 2 l := by rw [HI.out]; simp
  rw [hto, hfl] at ho
  rw [hto]
  have K2 := Lib.hid (And.intro (ho.base_le B2.out.size) (bel_next B2.out hb2))
  clear ho hb2 hto hfl HRR
  go_wp2_with fail
  go_ret
  exact ⟨A6, c6, rfl, K2.out.1, K2.out.2⟩
set_option maxRecDepth 100000 in
set_option maxHeartbeats 2000000 in
theorem lead_3 (A : Option Addr) (n c : Nat) (l : List UInt8) (w : World) (h : RB w w.heap.size A n l) (hn : n ≤ 63) :
    Calls Tryz.prog 40 #[.int .i64 3, .slice A n c] w (RetB (n + 1) (idB 3 l) w) := by
  have hor := or_3 hn
  obtain ⟨y, hy⟩ : ∃ y, b8 (64 * 3 + (n : Int)) = y := ⟨_, rfl⟩
  have HI : Hid (idB 3 l = [y] ++ l) := Lib.hid (by unfold idB; rw [h.len, hy]; rfl)
  rw [hy] at hor
  clear hy
  have hyl := byte_lt y
  have HL := Lib.hid h.len
  have H := Lib.hid h
  clear h
  go_enter Tryz.func40, Tryz.ntmps40
  go_wp2_with fail
  have B1 := Lib.hid (below_alloc w (.cells #[.int .u8 (y.toNat : Int)] 5))
  have R1 := Lib.hid (RB.lit w [y] #[.int .u8 (y.toNat : Int)] 1 _ rfl rfl rfl)
  obtain ⟨w1, hw1⟩ : ∃ w1, w.alloc (.cells #[.int .u8 (y.toNat : Int)] 5) = w1 := ⟨_, rfl⟩
  rw [hw1] at B1 R1 ⊢
  have hRR := RR.lit w1 [(some ⟨w.heap.size, 0, none⟩, 1, [y]), (A, c, l)] #[.slice (some ⟨w.heap.size, 0, none⟩) 1 1, .slice A n c] 40 2 w1.heap.size (by simp [HL.out]) rfl rfl (fun r hr => by
    simp only [List.mem_cons, List.not_mem_nil, or_false] at hr
    rcases hr with rfl | rfl
    · exact R1.out
    · simp only [HL.out]; exact H.out.step B1.out)
  have B2 := Lib.hid (B1.out.trans ((below_alloc w1 (.cells #[.slice (some ⟨w.heap.size, 0, none⟩) 1 1, .slice A n c] 40)).mono B1.out.size))
  have HRR := Lib.hid hRR
  have HS : Hid (w1.heap.size = w.heap.size + 1) := Lib.hid (by rw [← hw1]; simp)
  rw [HS.out] at HRR
  clear hRR hw1
  refine (join_any _ 2 2 _ _ (by exact HRR.out) (by decide) (by simp [totL, HL.out]; omega)).mono ?_
  rintro e w4 ⟨A6, c6, rfl, ho, hb2⟩
  have hto : totL (List.map (fun r : Option Addr × Nat × List UInt8 => r.2.2) [(some ⟨w.heap.size, 0, none⟩, 1, [y]), (A, c, l)]) = n + 1 := by simp [totL, HL.out]; omega
  have hfl : (List.map (fun r : Option Addr × Nat × List UInt8 => r.2.2) [(some ⟨w.heap.size, 0, none⟩, 1, [y]), (A, c, l)]).flatten = idB 3 l := by rw [HI.out]; simp
  rw [hto, hfl] at ho
  rw [hto]
  have K2 := Lib.hid (And.intro (ho.base_le B2.out.size) (bel_next B2.out hb2))
  clear ho hb2 hto hfl HRR
  go_wp2_with fail
  go_ret
  exact ⟨A6, c6, rfl, K2.out.1, K2.out.2⟩
theorem lead_any (p : Int) (h0 : 0 ≤ p) (h3 : p ≤ 3) (A : Option Addr) (n c : Nat) (l : List UInt8) (w : World) (h : RB w w.heap.size A n l) (hn : n ≤ 63) :
    Calls Tryz.prog 40 #[.int .i64 p, .slice A n c] w (RetB (n + 1) (idB p l) w) := by
  rcases (show p = 0 ∨ p = 1 ∨ p = 2 ∨ p = 3 by omega) with rfl | rfl | rfl | rfl
  · exact lead_0 A n c l w h hn
  · exact lead_1 A n c l w h hn
  · exact lead_2 A n c l w h hn
  · exact lead_3 A n c l w h hn
end Go.Proofs.YtkcchidklcnnnaaGreat

/- Layer 17: an id's parts in memory; what a region carries. Nothing is claimed of the program here. -/
namespace Go.Proofs.YtkcchidklcnnnaaGreat
open Go.RowKit
set_option linter.unusedVariables false
set_option linter.unusedSimpArgs false
/-- Parts as cells. -/
def pcel (p : Int) (A : Option Addr) (n c : Nat) (B : Option Addr) (m d : Nat) : List Value := [.int .i64 p, .slice A n c, .slice B m d]
def zcel : List Value := pcel 0 none 0 0 none 0 0
theorem rt_prt : RT 43 zcel := ⟨row_of (by kernel_rfl), by kernel_rfl⟩
theorem rt_rprt : RT 47 zcel := ⟨row_of (by kernel_rfl), by kernel_rfl⟩
theorem zcel_lit : (Value.agg #[.int .i64 0, .slice none 0 0, .slice none 0 0]) = .agg zcel.toArray := rfl
section
variable {p : Int} {A B : Option Addr} {n c m d : Nat} {T : TypeId} {w : World} {q : Nat}
theorem pcel_len : (pcel p A n c B m d).length = zcel.length := rfl
theorem pcel_one : ones (pcel p A n c B m d) := fun v hv => by
  simp only [pcel, List.mem_cons, List.not_mem_nil, or_false] at hv
  rcases hv with rfl | rfl | rfl <;> rfl
theorem pc0 (k : Blk T w q (pcel p A n c B m d)) : w.cell? ⟨q, 0, none⟩ = some (.int .i64 p) := k.cell 0
theorem pc1 (k : Blk T w q (pcel p A n c B m d)) : w.cell? ⟨q, 1, none⟩ = some (.slice A n c) := k.cell 1
theorem pc2 (k : Blk T w q (pcel p A n c B m d)) : w.cell? ⟨q, 2, none⟩ = some (.slice B m d) := k.cell 2
end
/-- Calls that give parts and an error's number: all new; to be read. -/
def RetPE (r : Prt × Int) (w : World) (e : Ending) (w' : World) : Prop :=
  ∃ A c B d, e = .returned (.tuple #[.agg (pcel r.1.p A r.1.s.length c B r.1.n.length d).toArray, .int .i64 r.2]) ∧ OwnB w' w.heap.size A r.1.s.length c r.1.s ∧ OwnB w' w.heap.size B r.1.n.length d r.1.n ∧ Below w.heap.size w w'
def RetPR (r : Prt × Int) (w : World) (e : Ending) (w' : World) : Prop :=
  ∃ A c B d, e = .returned (.tuple #[.agg (pcel r.1.p A r.1.s.length c B r.1.n.length d).toArray, .int .i64 r.2]) ∧ (RB w' w'.heap.size A r.1.s.length r.1.s ∧ r.1.s.length ≤ c ∧ c ≤ maxLen) ∧ (RB w' w'.heap.size B r.1.n.length r.1.n ∧ r.1.n.length ≤ d ∧ d ≤ maxLen) ∧ Below w.heap.size w w'
theorem RetPE.rd {r : Prt × Int} {w w' : World} {e : Ending} (h : RetPE r w e w') : RetPR r w e w' := by
  obtain ⟨A, c, B, d, e, h1, h2, h3⟩ := h
  exact ⟨A, c, B, d, e, ⟨h1.rb, h1.cap⟩, ⟨h2.rb, h2.cap⟩, h3⟩
theorem zcel_one : ones zcel := pcel_one
theorem zcel_len : zcel.length = 3 := rfl
theorem ret_zero {w w' : World} (z : Int) (h : Below w.heap.size w w') : RetPE (zPrt, z) w (.returned (.tuple #[.agg zcel.toArray, .int .i64 z])) w' := ⟨none, 0, none, 0, rfl, OwnB.nil_ _ _, OwnB.nil_ _ _, h⟩
theorem ret_pe {w w' : World} {p : Int} {A B : Option Addr} {n c m d : Nat} {s t : List UInt8} {z : Int} (hs : s.length = n) (ht : t.length = m) (h1 : OwnB w' w.heap.size A n c s) (h2 : OwnB w' w.heap.size B m d t) (hb : Below w.heap.size w w') :
    RetPE (⟨p, s, t⟩, z) w (.returned (.tuple #[.agg (pcel p A n c B m d).toArray, .int .i64 z])) w' := by subst hs; subst ht; exact ⟨A, c, B, d, rfl, h1, h2, hb⟩
theorem ret_pr {w w' : World} {p : Int} {A B : Option Addr} {n c m d : Nat} {s t : List UInt8} {z : Int} (hs : s.length = n) (ht : t.length = m) (h1 : RB w' w'.heap.size A n s ∧ n ≤ c ∧ c ≤ maxLen) (h2 : RB w' w'.heap.size B m t ∧ m ≤ d ∧ d ≤ maxLen) (hb : Below w.heap.size w w') :
    RetPR (⟨p, s, t⟩, z) w (.returned (.tuple #[.agg (pcel p A n c B m d).toArray, .int .i64 z])) w' := by subst hs; subst ht; exact ⟨A, c, B, d, rfl, h1, h2, hb⟩
theorem ex_ldPt (ev : Operand → Value) (x : Operand) (d : Option Tmp) (ty : TypeId) (ps : String) (af : Array Edge) (g : Option (Nat × Bool)) (w : World) : (execOp ev ⟨d, .load 43 x, ty, ps, af, g⟩).run Tryz.prog w = ldHd 43 (ev x) w := rfl
theorem ex_ldPr (ev : Operand → Value) (x : Operand) (d : Option Tmp) (ty : TypeId) (ps : String) (af : Array Edge) (g : Option (Nat × Bool)) (w : World) : (execOp ev ⟨d, .load 47 x, ty, ps, af, g⟩).run Tryz.prog w = ldHd 47 (ev x) w := rfl
theorem ex_stPt (ev : Operand → Value) (x y : Operand) (d : Option Tmp) (ty : TypeId) (ps : String) (af : Array Edge) (g : Option (Nat × Bool)) (w : World) : (execOp ev ⟨d, .store 43 x y, ty, ps, af, g⟩).run Tryz.prog w = stHd 43 (ev x) (ev y) w := rfl
theorem ex_stPr (ev : Operand → Value) (x y : Operand) (d : Option Tmp) (ty : TypeId) (ps : String) (af : Array Edge) (g : Option (Nat × Bool)) (w : World) : (execOp ev ⟨d, .store 47 x y, ty, ps, af, g⟩).run Tryz.prog w = stHd 47 (ev x) (ev y) w := rfl
theorem ld_prt {T T' : TypeId} {w : World} {q : Nat} {p : Int} {A B : Option Addr} {n c m d : Nat} (rt : RT T zcel) (k : Blk T' w q (pcel p A n c B m d)) : ldHd T (.pointer (some ⟨q, 0, none⟩)) w = .ok (.value (.agg (pcel p A n c B m d).toArray)) w := ldB_m rt k rfl rfl
theorem st_prt {T T' : TypeId} {w : World} {q : Nat} {p : Int} {A B : Option Addr} {n c m d : Nat} (rt : RT T zcel) (k : Blk T' w q zcel) : stHd T (.pointer (some ⟨q, 0, none⟩)) (.agg #[.int .i64 p, .slice A n c, .slice B m d]) w = .ok .skip (w.setCells q 0 (pcel p A n c B m d)) := stB_m (vs := pcel p A n c B m d) rt k pcel_one pcel_len (Nat.le_refl 3)
/-! What a region carries: blocks that are known, rows of the call's own. -/
structure GK (v : World) (bs : List (TypeId × Nat × List Value)) (os : List (Option Addr × Nat × Nat × List UInt8)) (w : World) : Prop where
  bel : Below v.heap.size v w
  blk : ∀ b ∈ bs, Blk b.1 w b.2.1 b.2.2
  own : ∀ r ∈ os, OwnB w v.heap.size r.1 r.2.1 r.2.2.1 r.2.2.2
section
variable {v w w1 w' : World} {bs : List (TypeId × Nat × List Value)} {os : List (Option Addr × Nat × Nat × List UInt8)} {A : Option Addr} {n c q base : Nat} {l : List UInt8} {T : TypeId} {cs : List Value}
theorem GK.start (w : World) : GK w [] [] w := ⟨Below.refl _ _, fun r hr => (by cases hr), fun r hr => (by cases hr)⟩
theorem GK.step (k : GK v bs os w) (hb : Below w.heap.size w w') : GK v bs os w' := ⟨bel_next k.bel hb, fun r hr => (k.blk r hr).step hb, fun r hr => (k.own r hr).below hb⟩
theorem GK.draw (k : GK v bs os w) : GK v bs os w.drew := k.step (Below.refl _ _).drew
theorem GK.add (k : GK v bs os w) (hb : Below w.heap.size w w') (h : Blk T w' q cs) : GK v ((T, q, cs) :: bs) os w' := ⟨bel_next k.bel hb, fun r hr => by
  rcases List.mem_cons.1 hr with rfl | hr
  · exact h
  · exact (k.blk r hr).step hb, fun r hr => (k.own r hr).below hb⟩
theorem GK.ret (k : GK v bs os w) (hb : Below w.heap.size w w') (ho : OwnB w' w.heap.size A n c l) : GK v bs ((A, n, c, l) :: os) w' := ⟨bel_next k.bel hb, fun r hr => (k.blk r hr).step hb, fun r hr => by
  rcases List.mem_cons.1 hr with rfl | hr
  · exact ho.base_le k.bel.size
  · exact (k.own r hr).below hb⟩
/-- A record that is stored anew. -/
theorem GK.put {cs0 : List Value} (k : GK v bs os w) (hq : v.heap.size ≤ q) (hb : Blk T w q cs0) (hT : T ≠ 5) (hl : cs.length = cs0.length) : GK v [(T, q, cs)] os (w.setCells q 0 cs) := by
  have ho := oth_setCells q cs 0 w w (Oth.refl _ _)
  refine ⟨k.bel.trans (ho.below (fun j hj => by rw [List.mem_singleton.1 hj]; exact hq) k.bel.size), fun r hr => ?_, fun r hr => (k.own r hr).offS ho (hb.nob hT)⟩
  rcases List.mem_cons.1 hr with rfl | hr
  · have := hb.puts cs 0
    rwa [puts_whole _ _ hl] at this
  · cases hr
/-- A literal row of rows, at an address that is named. -/
theorem GK.litA (k : GK v bs os w) (u : Value) (g : Nat) (hg : w.heap.size = g) : GK v ((40, g, [u]) :: bs) os (w.alloc (.cells #[u] 40)) := by
  subst hg
  exact k.add (below_alloc w _) (Blk.new w _ [u] _ rfl)
/-- A literal row of rows. -/
theorem GK.lit (k : GK v bs os w) (u : Value) : GK v ((40, w.heap.size, [u]) :: bs) os (w.alloc (.cells #[u] 40)) := k.add (below_alloc w _) (Blk.new w _ [u] _ rfl)
theorem GK.lit2 (k : GK v bs os w) (u1 u2 : Value) : GK v ((40, w.heap.size, [u1, u2]) :: bs) os (w.alloc (.cells #[u1, u2] 40)) := k.add (below_alloc w _) (Blk.new w _ [u1, u2] _ rfl)
end
theorem rr_blk {T : TypeId} {w : World} {g m k : Nat} {B : Option Addr} {p : List UInt8} (h : Blk T w g [.slice B m k]) (hp : RB w w.heap.size B m p) : RR w w.heap.size (some ⟨g, 0, none⟩) 1 [p] := by
  refine ⟨rfl, fun _ => ⟨g, 0, rfl, h.lt, fun j p' hj => ?_⟩⟩
  obtain ⟨rfl, rfl⟩ : j = 0 ∧ p = p' := by
    rcases j with _ | j
    · exact ⟨rfl, by simpa using hj⟩
    · simp at hj
  have e := hp.len
  exact ⟨B, k, by rw [h.cell]; simp [e], by rw [e]; exact hp⟩
theorem rr_blk2 {T : TypeId} {w : World} {g m k m2 k2 : Nat} {B B2 : Option Addr} {p p2 : List UInt8} (h : Blk T w g [.slice B m k, .slice B2 m2 k2]) (hp : RB w w.heap.size B m p) (hp2 : RB w w.heap.size B2 m2 p2) : RR w w.heap.size (some ⟨g, 0, none⟩) 2 [p, p2] := by
  refine ⟨rfl, fun _ => ⟨g, 0, rfl, h.lt, fun j p' hj => ?_⟩⟩
  have e := hp.len
  have e2 := hp2.len
  rcases j with _ | _ | j
  · obtain rfl : p = p' := by simpa using hj
    exact ⟨B, k, by rw [h.cell]; simp [e], by rw [e]; exact hp⟩
  · obtain rfl : p2 = p' := by simpa using hj
    exact ⟨B2, k2, by rw [h.cell]; simp [e2], by rw [e2]; exact hp2⟩
  · simp at hj
/-- Rows joined, wherever they lie. -/
theorem join1 (w : World) (g : Nat) (l : List UInt8) (h : RR w w.heap.size (some ⟨g, 0, none⟩) 1 [l]) (hn : l.length ≤ 1000000) :
    Calls Tryz.prog 39 #[.slice (some ⟨g, 0, none⟩) 1 1] w (RetB l.length l w) := by
  have ht : totL [l] = l.length := by simp [totL]
  have hf : [l].flatten = l := by simp
  have := join_any _ 1 1 [l] _ h (by decide) (by rw [ht]; omega)
  rwa [ht, hf] at this
theorem join2 (w : World) (g : Nat) (l r : List UInt8) (h : RR w w.heap.size (some ⟨g, 0, none⟩) 2 [l, r]) (hn : l.length + r.length ≤ 1000000) :
    Calls Tryz.prog 39 #[.slice (some ⟨g, 0, none⟩) 2 2] w (RetB (l ++ r).length (l ++ r) w) := by
  have ht : totL [l, r] = (l ++ r).length := by simp [totL]
  have hf : [l, r].flatten = l ++ r := by simp
  have := join_any _ 2 2 [l, r] _ h (by decide) (by rw [ht, List.length_append]; omega)
  rwa [ht, hf] at this
theorem cut_1 (A : Option Addr) (n c : Nat) (h1 : 1 ≤ n) : ∀ W : World, (Instr.slice 40 (.slice A n c) (some (.int .i64 1)) none none).run Tryz.prog W = .ok (.slice (cutA A c 1) (n - 1) (c - 1)) W := cut_l A n c 1 h1
/-- A byte string's first byte. -/
theorem first_cell {w : World} {g o n : Nat} {l : List UInt8} (h : RB w w.heap.size (some ⟨g, o, none⟩) n l) (hn : 0 < n) : w.cell? ⟨g, o, none⟩ = some (.int .u8 ((l.getD 0 0).toNat : Int)) := by
  obtain ⟨g', o', e, _, hc⟩ := h.2 hn
  injection e with e
  injection e with e1 e2
  subst e1
  subst e2
  have hl := h.1
  have := hc 0 (by omega)
  rw [Nat.add_zero] at this
  rw [this]
  match l, hl with
  | [], hl => simp at hl; omega
  | x :: r, hl => rfl
theorem RB.some_ {w : World} {B n : Nat} {A : Option Addr} {l : List UInt8} (h : RB w B A n l) (hn : 0 < n) : ∃ g o, A = some ⟨g, o, none⟩ := by
  obtain ⟨g, o, e, _⟩ := h.2 hn
  exact ⟨g, o, e⟩
/-- What lies behind the first byte. -/
theorem RB.rest {w : World} {B n c : Nat} {A : Option Addr} {l : List UInt8} (h : RB w B A n l) (hn : 0 < n) (hc : n ≤ c) : RB w B (cutA A c 1) (n - 1) (l.drop 1) := by
  have := h.part (i := 1) (j := n) (by omega) (Nat.le_refl _) hc
  rwa [List.take_of_length_le (by rw [h.len]; exact Nat.le_refl _)] at this
end Go.Proofs.YtkcchidklcnnnaaGreat

