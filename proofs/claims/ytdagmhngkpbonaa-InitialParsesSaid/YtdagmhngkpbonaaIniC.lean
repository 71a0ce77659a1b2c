/- Layer 11's Type and check, and the reference's Type and wrong. No condition. -/
import Derived.Test.YtdagmhngkpbonaaIniA
namespace Go.Proofs.Ytdagmhngkpbonaa
open Go.RowKit
set_option linter.unusedVariables false
set_option linter.unusedSimpArgs false
theorem bld_ini3 (h : Hd) (A B : Option Addr) (n c m d : Nat) (W : World) : (Instr.build 29 #[(0, h.val), (1, .slice A n c), (2, .slice B m d)]).run Try.prog W = .ok (.agg #[.int .u8 (h.f.toNat : Int), .int .u32 (h.v : Int), .slice h.A h.a.length h.c, .slice h.B h.b.length h.d, .slice A n c, .slice B m d]) W := by
  unfold Hd.val Hd.cells
  go_simp <;> rfl
theorem bld_ini1 (h : Hd) (W : World) : (Instr.build 29 #[(0, h.val)]).run Try.prog W = .ok (In.val ⟨h, none, 0, [], none, 0, []⟩) W := by
  unfold Hd.val Hd.cells
  go_simp <;> rfl
theorem bld_inr3 (h : Hd) (A B : Option Addr) (n c m d : Nat) (W : World) : (Instr.build 35 #[(0, h.val), (1, .slice A n c), (2, .slice B m d)]).run Try.prog W = .ok (.agg #[.int .u8 (h.f.toNat : Int), .int .u32 (h.v : Int), .slice h.A h.a.length h.c, .slice h.B h.b.length h.d, .slice A n c, .slice B m d]) W := by
  unfold Hd.val Hd.cells
  go_simp <;> rfl
theorem shr_and (x : UInt8) : bits .and .u8 ((x.toNat : Int) / 16) 3 = ((typ x : Nat) : Int) := each_b (fun x => bits .and .u8 ((x.toNat : Int) / 16) 3 = ((typ x : Nat) : Int)) (by decide +kernel) x
set_option maxRecDepth 100000 in
theorem typ_any (f : UInt8) (w : World) :
    Calls Try.prog 12 #[.int .u8 (f.toNat : Int)] w fun e w' => e = .returned (.int .i64 (typ f : Int)) ∧ w = w' := by
  have h := shr_and f
  have ht : typ f < 4 := Nat.mod_lt _ (by decide)
  have hf := f.toNat_lt
  go_enter Try.func12, Try.ntmps12
  go_wp2_with fail
  go_ret
  exact ⟨rfl, rfl⟩
set_option maxRecDepth 100000 in
theorem rtyp_any (f : UInt8) (w : World) :
    Calls Try.prog 13 #[.int .u8 (f.toNat : Int)] w fun e w' => e = .returned (.int .i64 (typ f : Int)) ∧ w = w' := by
  have hf := f.toNat_lt
  have h : ((f.toNat : Int).tdiv 16).tmod 4 = (typ f : Int) := by unfold typ; rw [Int.tdiv_eq_ediv_of_nonneg (by omega), Int.tmod_eq_emod_of_nonneg (by omega)]; omega
  have h2 : (f.toNat : Int) / 16 % 4 = (typ f : Int) := by unfold typ; omega
  go_enter Try.func13, Try.ntmps13
  go_wp2_with fail
  go_ret
  exact ⟨rfl, rfl⟩
set_option maxRecDepth 100000 in
theorem chk_any (i : In) (w : World) :
    Calls Try.prog 19 #[i.val] w fun e w' => e = .returned (.int .i64 (chk i.h.pl)) ∧ Below w.heap.size w w' := by
  have ht : typ i.h.f < 4 := Nat.mod_lt _ (by decide)
  have hf8 := i.h.f.toNat_lt
  by_cases k0 : i.h.f.toNat < 128
  · have e : chk i.h.pl = 14 := if_pos (.inl k0)
    have u0 : decide ((i.h.f.toNat : Int) < 128) = true := decide_eq_true (by omega)
    rw [e]
    go_enter Try.func19, Try.ntmps19
    go_wp2_with (first
      | (with_reducible show wpList _ _ _ (⟨_, .box _ (.tmp 0), _, _, _, none⟩ :: _) _ _; refine wpList_boxI rfl _ (.tmp 0) rfl i rfl ?_; intro w1 q hc1 hb1 hx1; have B1 := Lib.hid hb1; have C1 := Lib.hid hc1; have c0 := hc1.c0; have c1 := hc1.c1; have c2 := hc1.c2; have c3 := hc1.c3; clear hc1 hb1 hx1))
    refine (hlong_any _ 1 1 [i.h.f] _ (by exact RB.lit w1 [i.h.f] #[.int .u8 (i.h.f.toNat : Int)] 1 _ rfl rfl rfl) false (by first | exact decide_eq_true (by omega) | exact decide_eq_false (by omega))).mono ?_
    rintro e w2 ⟨rfl, rfl⟩
    have C2 := Lib.hid (C1.out.step (below_alloc w1 (.cells #[.int .u8 (i.h.f.toNat : Int)] 5)))
    have d0 := C2.out.c0
    have d1 := C2.out.c1
    have d2 := C2.out.c2
    have d3 := C2.out.c3
    go_wp2_with fail
    go_ret
    exact ⟨rfl, bel_next B1.out (below_alloc _ _)⟩
  have u0 : decide ((i.h.f.toNat : Int) < 128) = false := decide_eq_false (by omega)
  by_cases k1 : i.h.v = 1
  rotate_left
  · have e : chk i.h.pl = 14 := if_pos (.inr (.inl k1))
    have u1 : ((i.h.v : Int) == 1) = false := by rw [beq_eq_false_iff_ne]; omega
    have u1' : ((i.h.v : Int) != 1) = true := by rw [bne, u1]; rfl
    rw [e]
    go_enter Try.func19, Try.ntmps19
    go_wp2_with (first
      | (with_reducible show wpList _ _ _ (⟨_, .box _ (.tmp 0), _, _, _, none⟩ :: _) _ _; refine wpList_boxI rfl _ (.tmp 0) rfl i rfl ?_; intro w1 q hc1 hb1 hx1; have B1 := Lib.hid hb1; have C1 := Lib.hid hc1; have c0 := hc1.c0; have c1 := hc1.c1; have c2 := hc1.c2; have c3 := hc1.c3; clear hc1 hb1 hx1))
    refine (hlong_any _ 1 1 [i.h.f] _ (by exact RB.lit w1 [i.h.f] #[.int .u8 (i.h.f.toNat : Int)] 1 _ rfl rfl rfl) true (by first | exact decide_eq_true (by omega) | exact decide_eq_false (by omega))).mono ?_
    rintro e w2 ⟨rfl, rfl⟩
    have C2 := Lib.hid (C1.out.step (below_alloc w1 (.cells #[.int .u8 (i.h.f.toNat : Int)] 5)))
    have d0 := C2.out.c0
    have d1 := C2.out.c1
    have d2 := C2.out.c2
    have d3 := C2.out.c3
    go_wp2_with fail
    go_ret
    exact ⟨rfl, bel_next B1.out (below_alloc _ _)⟩
  have u1 : ((i.h.v : Int) == 1) = true := by rw [beq_iff_eq]; omega
  have u1' : ((i.h.v : Int) != 1) = false := by rw [bne, u1]; rfl
  by_cases k2 : typ i.h.f = 0
  rotate_left
  · have e : chk i.h.pl = 14 := if_pos (.inr (.inr k2))
    have u2 : ((typ i.h.f : Int) == 0) = false := by rw [beq_eq_false_iff_ne]; omega
    have u2' : ((typ i.h.f : Int) != 0) = true := by rw [bne, u2]; rfl
    rw [e]
    clear k1
    go_enter Try.func19, Try.ntmps19
    go_wp2_with (first
      | (with_reducible show wpList _ _ _ (⟨_, .box _ (.tmp 0), _, _, _, none⟩ :: _) _ _; refine wpList_boxI rfl _ (.tmp 0) rfl i rfl ?_; intro w1 q hc1 hb1 hx1; have B1 := Lib.hid hb1; have C1 := Lib.hid hc1; have c0 := hc1.c0; have c1 := hc1.c1; have c2 := hc1.c2; have c3 := hc1.c3; clear hc1 hb1 hx1))
    refine (hlong_any _ 1 1 [i.h.f] _ (by exact RB.lit w1 [i.h.f] #[.int .u8 (i.h.f.toNat : Int)] 1 _ rfl rfl rfl) true (by first | exact decide_eq_true (by omega) | exact decide_eq_false (by omega))).mono ?_
    rintro e w2 ⟨rfl, rfl⟩
    have C2 := Lib.hid (C1.out.step (below_alloc w1 (.cells #[.int .u8 (i.h.f.toNat : Int)] 5)))
    have d0 := C2.out.c0
    have d1 := C2.out.c1
    have d2 := C2.out.c2
    have d3 := C2.out.c3
    go_wp2_with fail
    refine (typ_any i.h.f _).mono ?_
    rintro e w3 ⟨rfl, rfl⟩
    go_wp2_with fail
    go_ret
    exact ⟨rfl, bel_next B1.out (below_alloc _ _)⟩
  have u2 : ((typ i.h.f : Int) == 0) = true := by rw [beq_iff_eq]; omega
  have u2' : ((typ i.h.f : Int) != 0) = false := by rw [bne, u2]; rfl
  have HN : Hid (¬ (i.h.pl.1.toNat < 128 ∨ i.h.pl.2.1 ≠ 1 ∨ typ i.h.pl.1 ≠ 0)) := Lib.hid (fun k => by rcases k with k | k | k; exact k0 k; exact k k1; exact k k2)
  clear k1 k2
  by_cases k3 : 20 < i.h.a.length
  · have e : chk i.h.pl = 15 := (if_neg HN.out).trans (if_pos (.inl k3))
    have u3 : decide (20 < (i.h.a.length : Int)) = true := decide_eq_true (by omega)
    rw [e]
    go_enter Try.func19, Try.ntmps19
    go_wp2_with (first
      | (with_reducible show wpList _ _ _ (⟨_, .box _ (.tmp 0), _, _, _, none⟩ :: _) _ _; refine wpList_boxI rfl _ (.tmp 0) rfl i rfl ?_; intro w1 q hc1 hb1 hx1; have B1 := Lib.hid hb1; have C1 := Lib.hid hc1; have c0 := hc1.c0; have c1 := hc1.c1; have c2 := hc1.c2; have c3 := hc1.c3; clear hc1 hb1 hx1))
    refine (hlong_any _ 1 1 [i.h.f] _ (by exact RB.lit w1 [i.h.f] #[.int .u8 (i.h.f.toNat : Int)] 1 _ rfl rfl rfl) true (by first | exact decide_eq_true (by omega) | exact decide_eq_false (by omega))).mono ?_
    rintro e w2 ⟨rfl, rfl⟩
    have C2 := Lib.hid (C1.out.step (below_alloc w1 (.cells #[.int .u8 (i.h.f.toNat : Int)] 5)))
    have d0 := C2.out.c0
    have d1 := C2.out.c1
    have d2 := C2.out.c2
    have d3 := C2.out.c3
    go_wp2_with fail
    refine (typ_any i.h.f _).mono ?_
    rintro e w3 ⟨rfl, rfl⟩
    go_wp2_with fail
    go_ret
    exact ⟨rfl, bel_next B1.out (below_alloc _ _)⟩
  have u3 : decide (20 < (i.h.a.length : Int)) = false := decide_eq_false (by omega)
  by_cases k4 : 20 < i.h.b.length
  · have e : chk i.h.pl = 15 := (if_neg HN.out).trans (if_pos (.inr k4))
    have u4 : decide (20 < (i.h.b.length : Int)) = true := decide_eq_true (by omega)
    rw [e]
    go_enter Try.func19, Try.ntmps19
    go_wp2_with (first
      | (with_reducible show wpList _ _ _ (⟨_, .box _ (.tmp 0), _, _, _, none⟩ :: _) _ _; refine wpList_boxI rfl _ (.tmp 0) rfl i rfl ?_; intro w1 q hc1 hb1 hx1; have B1 := Lib.hid hb1; have C1 := Lib.hid hc1; have c0 := hc1.c0; have c1 := hc1.c1; have c2 := hc1.c2; have c3 := hc1.c3; clear hc1 hb1 hx1))
    refine (hlong_any _ 1 1 [i.h.f] _ (by exact RB.lit w1 [i.h.f] #[.int .u8 (i.h.f.toNat : Int)] 1 _ rfl rfl rfl) true (by first | exact decide_eq_true (by omega) | exact decide_eq_false (by omega))).mono ?_
    rintro e w2 ⟨rfl, rfl⟩
    have C2 := Lib.hid (C1.out.step (below_alloc w1 (.cells #[.int .u8 (i.h.f.toNat : Int)] 5)))
    have d0 := C2.out.c0
    have d1 := C2.out.c1
    have d2 := C2.out.c2
    have d3 := C2.out.c3
    go_wp2_with fail
    refine (typ_any i.h.f _).mono ?_
    rintro e w3 ⟨rfl, rfl⟩
    go_wp2_with fail
    go_ret
    exact ⟨rfl, bel_next B1.out (below_alloc _ _)⟩
  · have e : chk i.h.pl = 0 := (if_neg HN.out).trans (if_neg (fun k => by rcases k with k | k; exact k3 k; exact k4 k))
    have u4 : decide (20 < (i.h.b.length : Int)) = false := decide_eq_false (by omega)
    rw [e]
    go_enter Try.func19, Try.ntmps19
    go_wp2_with (first
      | (with_reducible show wpList _ _ _ (⟨_, .box _ (.tmp 0), _, _, _, none⟩ :: _) _ _; refine wpList_boxI rfl _ (.tmp 0) rfl i rfl ?_; intro w1 q hc1 hb1 hx1; have B1 := Lib.hid hb1; have C1 := Lib.hid hc1; have c0 := hc1.c0; have c1 := hc1.c1; have c2 := hc1.c2; have c3 := hc1.c3; clear hc1 hb1 hx1))
    refine (hlong_any _ 1 1 [i.h.f] _ (by exact RB.lit w1 [i.h.f] #[.int .u8 (i.h.f.toNat : Int)] 1 _ rfl rfl rfl) true (by first | exact decide_eq_true (by omega) | exact decide_eq_false (by omega))).mono ?_
    rintro e w2 ⟨rfl, rfl⟩
    have C2 := Lib.hid (C1.out.step (below_alloc w1 (.cells #[.int .u8 (i.h.f.toNat : Int)] 5)))
    have d0 := C2.out.c0
    have d1 := C2.out.c1
    have d2 := C2.out.c2
    have d3 := C2.out.c3
    go_wp2_with fail
    refine (typ_any i.h.f _).mono ?_
    rintro e w3 ⟨rfl, rfl⟩
    go_wp2_with fail
    go_ret
    exact ⟨rfl, bel_next B1.out (below_alloc _ _)⟩
set_option maxRecDepth 100000 in
theorem rwrong_any (h : Hd) (w : World) :
    Calls Try.prog 25 #[h.val] w fun e w' => e = .returned (.int .i64 (chk h.pl)) ∧ Below w.heap.size w w' := by
  have ht : typ h.f < 4 := Nat.mod_lt _ (by decide)
  have hf8 := h.f.toNat_lt
  by_cases k0 : h.f.toNat < 128
  · have e : chk h.pl = 14 := if_pos (.inl k0)
    have u0 : decide ((h.f.toNat : Int) < 128) = true := decide_eq_true (by omega)
    rw [e]
    go_enter Try.func25, Try.ntmps25
    go_wp2_with (first
      | (with_reducible show wpList _ _ _ (⟨_, .box _ (.tmp 0), _, _, _, none⟩ :: _) _ _; refine wpList_boxN rfl _ (.tmp 0) rfl h rfl ?_; intro w1 q hc1 hb1 hx1; have B1 := Lib.hid hb1; have C1 := Lib.hid hc1; have c0 := hc1.c0; have c1 := hc1.c1; have c2 := hc1.c2; have c3 := hc1.c3; clear hc1 hb1 hx1))
    go_ret
    exact ⟨rfl, B1.out⟩
  have u0 : decide ((h.f.toNat : Int) < 128) = false := decide_eq_false (by omega)
  by_cases k1 : h.v = 1
  rotate_left
  · have e : chk h.pl = 14 := if_pos (.inr (.inl k1))
    have u1 : ((h.v : Int) == 1) = false := by rw [beq_eq_false_iff_ne]; omega
    have u1' : ((h.v : Int) != 1) = true := by rw [bne, u1]; rfl
    rw [e]
    go_enter Try.func25, Try.ntmps25
    go_wp2_with (first
      | (with_reducible show wpList _ _ _ (⟨_, .box _ (.tmp 0), _, _, _, none⟩ :: _) _ _; refine wpList_boxN rfl _ (.tmp 0) rfl h rfl ?_; intro w1 q hc1 hb1 hx1; have B1 := Lib.hid hb1; have C1 := Lib.hid hc1; have c0 := hc1.c0; have c1 := hc1.c1; have c2 := hc1.c2; have c3 := hc1.c3; clear hc1 hb1 hx1))
    go_ret
    exact ⟨rfl, B1.out⟩
  have u1 : ((h.v : Int) == 1) = true := by rw [beq_iff_eq]; omega
  have u1' : ((h.v : Int) != 1) = false := by rw [bne, u1]; rfl
  by_cases k2 : typ h.f = 0
  rotate_left
  · have e : chk h.pl = 14 := if_pos (.inr (.inr k2))
    have u2 : ((typ h.f : Int) == 0) = false := by rw [beq_eq_false_iff_ne]; omega
    have u2' : ((typ h.f : Int) != 0) = true := by rw [bne, u2]; rfl
    rw [e]
    clear k1
    go_enter Try.func25, Try.ntmps25
    go_wp2_with (first
      | (with_reducible show wpList _ _ _ (⟨_, .box _ (.tmp 0), _, _, _, none⟩ :: _) _ _; refine wpList_boxN rfl _ (.tmp 0) rfl h rfl ?_; intro w1 q hc1 hb1 hx1; have B1 := Lib.hid hb1; have C1 := Lib.hid hc1; have c0 := hc1.c0; have c1 := hc1.c1; have c2 := hc1.c2; have c3 := hc1.c3; clear hc1 hb1 hx1))
    refine (rtyp_any h.f _).mono ?_
    rintro e w3 ⟨rfl, rfl⟩
    go_wp2_with fail
    go_ret
    exact ⟨rfl, B1.out⟩
  have u2 : ((typ h.f : Int) == 0) = true := by rw [beq_iff_eq]; omega
  have u2' : ((typ h.f : Int) != 0) = false := by rw [bne, u2]; rfl
  have HN : Hid (¬ (h.pl.1.toNat < 128 ∨ h.pl.2.1 ≠ 1 ∨ typ h.pl.1 ≠ 0)) := Lib.hid (fun k => by rcases k with k | k | k; exact k0 k; exact k k1; exact k k2)
  clear k1 k2
  by_cases k3 : 20 < h.a.length
  · have e : chk h.pl = 15 := (if_neg HN.out).trans (if_pos (.inl k3))
    have u3 : decide (20 < (h.a.length : Int)) = true := decide_eq_true (by omega)
    rw [e]
    go_enter Try.func25, Try.ntmps25
    go_wp2_with (first
      | (with_reducible show wpList _ _ _ (⟨_, .box _ (.tmp 0), _, _, _, none⟩ :: _) _ _; refine wpList_boxN rfl _ (.tmp 0) rfl h rfl ?_; intro w1 q hc1 hb1 hx1; have B1 := Lib.hid hb1; have C1 := Lib.hid hc1; have c0 := hc1.c0; have c1 := hc1.c1; have c2 := hc1.c2; have c3 := hc1.c3; clear hc1 hb1 hx1))
    refine (rtyp_any h.f _).mono ?_
    rintro e w3 ⟨rfl, rfl⟩
    go_wp2_with fail
    go_ret
    exact ⟨rfl, B1.out⟩
  have u3 : decide (20 < (h.a.length : Int)) = false := decide_eq_false (by omega)
  by_cases k4 : 20 < h.b.length
  · have e : chk h.pl = 15 := (if_neg HN.out).trans (if_pos (.inr k4))
    have u4 : decide (20 < (h.b.length : Int)) = true := decide_eq_true (by omega)
    rw [e]
    go_enter Try.func25, Try.ntmps25
    go_wp2_with (first
      | (with_reducible show wpList _ _ _ (⟨_, .box _ (.tmp 0), _, _, _, none⟩ :: _) _ _; refine wpList_boxN rfl _ (.tmp 0) rfl h rfl ?_; intro w1 q hc1 hb1 hx1; have B1 := Lib.hid hb1; have C1 := Lib.hid hc1; have c0 := hc1.c0; have c1 := hc1.c1; have c2 := hc1.c2; have c3 := hc1.c3; clear hc1 hb1 hx1))
    refine (rtyp_any h.f _).mono ?_
    rintro e w3 ⟨rfl, rfl⟩
    go_wp2_with fail
    go_ret
    exact ⟨rfl, B1.out⟩
  · have e : chk h.pl = 0 := (if_neg HN.out).trans (if_neg (fun k => by rcases k with k | k; exact k3 k; exact k4 k))
    have u4 : decide (20 < (h.b.length : Int)) = false := decide_eq_false (by omega)
    rw [e]
    go_enter Try.func25, Try.ntmps25
    go_wp2_with (first
      | (with_reducible show wpList _ _ _ (⟨_, .box _ (.tmp 0), _, _, _, none⟩ :: _) _ _; refine wpList_boxN rfl _ (.tmp 0) rfl h rfl ?_; intro w1 q hc1 hb1 hx1; have B1 := Lib.hid hb1; have C1 := Lib.hid hc1; have c0 := hc1.c0; have c1 := hc1.c1; have c2 := hc1.c2; have c3 := hc1.c3; clear hc1 hb1 hx1))
    refine (rtyp_any h.f _).mono ?_
    rintro e w3 ⟨rfl, rfl⟩
    go_wp2_with fail
    go_ret
    exact ⟨rfl, B1.out⟩
end Go.Proofs.Ytdagmhngkpbonaa
