/- Layer 16: ways, run, Turn and Back. Condition: the slice's cells are readable, it has at most a million bytes; the key has sixteen bytes, the numbers are words. -/
import Derived.Test.YtkcchidklcnnnaaGreatMdL
import Derived.Test.YtkcchidklcnnnaaGreatFsCD
namespace Go.Proofs.YtkcchidklcnnnaaGreat
open Go.RowKit
set_option linter.unusedVariables false
set_option linter.unusedSimpArgs false
def fnV (f : Nat) : Value := .func (.func f) #[] #[]
/-- How a mode turns bytes. -/
def stepV (m : Int) (back : Bool) : Value :=
  if m = 1 then (if back then fnV 55 else fnV 54)
  else if m = 2 then (if back then fnV 57 else fnV 56) else .nilFunc
theorem rt_way : RT 89 [.nilFunc, .nilFunc] := ⟨row_of (by kernel_rfl), by kernel_rfl⟩
attribute [local irreducible] Cfg.val Cfg.cells rtB Rt zK sizeC AV bytC rawC zeroC turnC wayC encL decL tableL backL passesR cntP
attribute [local go_sem ↓] ex_ldC
set_option maxRecDepth 100000 in
set_option maxHeartbeats 2000000 in
theorem mways_1 (m : Int) (h : m = 1) (w : World) :
    Calls Tryz.prog 50 #[.int .i64 m] w fun e w' => e = .returned (.agg #[fnV 54, fnV 55]) ∧ Below w.heap.size w w' := by
  subst h
  go_enter Tryz.func50, Tryz.ntmps50
  go_wp2_with (first
    | (refine wpList_newB rt_way rfl rfl ?_; intro w1 q hc1 hb1 hx1; have K1 := Lib.hid (And.intro hc1 (And.intro hb1 hx1)); clear hc1 hb1 hx1)
    | (refine wpList_stB rt_way rfl (.tmp 2) (.tmp 6) rfl q 0 rfl [.nilFunc, .nilFunc] [fnV 54, fnV 55] rfl (by intro v hv; simp at hv; first | (subst hv; rfl) | (rcases hv with rfl | rfl <;> rfl)) rfl (by exact K1.out.1) (by decide) ?_; intro w2 hc2 ho2 hs2; have K2 := Lib.hid (And.intro hc2 (K1.out.2.1.trans (ho2.below (fun k hk => by rw [List.mem_singleton.1 hk]; exact K1.out.2.2) K1.out.2.1.size))); clear hc2 ho2 hs2))
  refine bodyPost_ret (res_rec rt_way rfl _ _ q [fnV 54, fnV 55] rfl (by exact K2.out.1) rfl) rfl ⟨rfl, K2.out.2⟩
set_option maxRecDepth 100000 in
set_option maxHeartbeats 2000000 in
theorem mways_2 (m : Int) (h : m = 2) (w : World) :
    Calls Tryz.prog 50 #[.int .i64 m] w fun e w' => e = .returned (.agg #[fnV 56, fnV 57]) ∧ Below w.heap.size w w' := by
  subst h
  go_enter Tryz.func50, Tryz.ntmps50
  go_wp2_with (first
    | (refine wpList_newB rt_way rfl rfl ?_; intro w1 q hc1 hb1 hx1; have K1 := Lib.hid (And.intro hc1 (And.intro hb1 hx1)); clear hc1 hb1 hx1)
    | (refine wpList_stB rt_way rfl (.tmp 2) (.tmp 9) rfl q 0 rfl [.nilFunc, .nilFunc] [fnV 56, fnV 57] rfl (by intro v hv; simp at hv; first | (subst hv; rfl) | (rcases hv with rfl | rfl <;> rfl)) rfl (by exact K1.out.1) (by decide) ?_; intro w2 hc2 ho2 hs2; have K2 := Lib.hid (And.intro hc2 (K1.out.2.1.trans (ho2.below (fun k hk => by rw [List.mem_singleton.1 hk]; exact K1.out.2.2) K1.out.2.1.size))); clear hc2 ho2 hs2))
  refine bodyPost_ret (res_rec rt_way rfl _ _ q [fnV 56, fnV 57] rfl (by exact K2.out.1) rfl) rfl ⟨rfl, K2.out.2⟩
set_option maxRecDepth 100000 in
set_option maxHeartbeats 2000000 in
theorem mways_0 (m : Int) (h1 : m ≠ 1) (h2 : m ≠ 2) (w : World) :
    Calls Tryz.prog 50 #[.int .i64 m] w fun e w' => e = .returned (.agg #[.nilFunc, .nilFunc]) ∧ Below w.heap.size w w' := by
  have d1 : (m == 1) = false := by rw [beq_eq_false_iff_ne]; exact h1
  have d2 : (m == 2) = false := by rw [beq_eq_false_iff_ne]; exact h2
  clear h1 h2
  go_enter Tryz.func50, Tryz.ntmps50
  go_wp2_with (first
    | (refine wpList_newB rt_way rfl rfl ?_; intro w1 q hc1 hb1 hx1; have K1 := Lib.hid (And.intro hc1 (And.intro hb1 hx1)); clear hc1 hb1 hx1)
    | (refine wpList_stB rt_way rfl (.tmp 2) (.tmp 10) rfl q 0 rfl [.nilFunc, .nilFunc] [.nilFunc, .nilFunc] rfl (by intro v hv; simp at hv; first | (subst hv; rfl) | (rcases hv with rfl | rfl <;> rfl)) rfl (by exact K1.out.1) (by decide) ?_; intro w2 hc2 ho2 hs2; have K2 := Lib.hid (And.intro hc2 (K1.out.2.1.trans (ho2.below (fun k hk => by rw [List.mem_singleton.1 hk]; exact K1.out.2.2) K1.out.2.1.size))); clear hc2 ho2 hs2))
  refine bodyPost_ret (res_rec rt_way rfl _ _ q [.nilFunc, .nilFunc] rfl (by exact K2.out.1) rfl) rfl ⟨rfl, K2.out.2⟩
theorem mways_any (m : Int) (w : World) :
    Calls Tryz.prog 50 #[.int .i64 m] w fun e w' => e = .returned (.agg #[stepV m false, stepV m true]) ∧ Below w.heap.size w w' := by
  by_cases h1 : m = 1
  · have h := mways_1 m h1 w
    unfold stepV
    rw [if_pos h1, if_pos h1]
    exact h
  by_cases h2 : m = 2
  · have h := mways_2 m h2 w
    unfold stepV
    rw [if_neg h1, if_neg h1, if_pos h2, if_pos h2]
    exact h
  · have h := mways_0 m h1 h2 w
    unfold stepV
    rw [if_neg h1, if_neg h1, if_neg h2, if_neg h2]
    exact h
end Go.Proofs.YtkcchidklcnnnaaGreat

/- Layer 16: run, Turn and Back. Condition: the slice's cells are readable, it has at most a million bytes; the key has sixteen bytes, the numbers are words. -/
namespace Go.Proofs.YtkcchidklcnnnaaGreat
open Go.RowKit
set_option linter.unusedVariables false
set_option linter.unusedSimpArgs false
theorem way_one {c : Cfg} {l : List UInt8} (h : c.m = 1) (back : Bool) : wayC c back l = if back then decL c.k tableL backL l else encL c.k tableL l := by unfold wayC; rw [if_neg (by omega), if_pos h]
theorem way_fourP {c : Cfg} {l : List UInt8} (h : Rt c) (hm : c.m = 2) (hl : (l.length : Int) = c.s + c.n) (back : Bool) : passesR (encL c.k tableL) l (if back then [4, 3, 2, 1] else [1, 2, 3, 4]) = (wayC c back l, 0) := by
  rw [way_four hm]
  exact Prod.ext rfl (four_ok h hl back)
set_option maxRecDepth 100000 in
theorem fld_0 (a b : Value) (W : World) : (Instr.field 89 (.agg #[a, b]) 0).run Tryz.prog W = .ok a W := by kernel_rfl
set_option maxRecDepth 100000 in
theorem fld_1 (a b : Value) (W : World) : (Instr.field 89 (.agg #[a, b]) 1).run Tryz.prog W = .ok b W := by kernel_rfl
theorem fn_nil (f : Nat) (W : World) : (binOp .eql 87 (.func (.func f) #[] #[]) .nilFunc).run Tryz.prog W = .ok (.bool false) W := by kernel_rfl
theorem nil_nil (W : World) : (binOp .eql 87 .nilFunc .nilFunc).run Tryz.prog W = .ok (.bool true) W := by kernel_rfl
attribute [local irreducible] Cfg.val Cfg.cells rtB Rt zK sizeC AV bytC rawC zeroC turnC wayC encL decL tableL backL passesR cntP
attribute [local go_sem ↓] ex_ldC
theorem below_draw1 (w : World) : Below w.heap.size w w.drew := (Below.refl _ _).drew
set_option maxRecDepth 100000 in
set_option maxHeartbeats 4000000 in
theorem mrun_no (c : Cfg) (h : c.ok) (back : Bool) (A : Option Addr) (n d : Nat) (l : List UInt8) (f : Value) (hf : f = stepV c.m back) (hr : rtB c = false) (w : World) (hA : RB w w.heap.size A n l) (hd : n ≤ d) (hn : n ≤ 1000000) :
    Calls Tryz.prog 49 #[c.val, .slice A n d, f] w (RetBE (turnC c back l).1.length (turnC c back l).1 (turnC c back l).2 w) := by
  have HC := Lib.hid h
  have HA := Lib.hid hA
  have HE : Hid (turnC c back l = ([], 19)) := Lib.hid (turn_state hr)
  have HR := Lib.hid (fun u => mright_any c h false hr u)
  clear h hr hf hA
  go_enter Tryz.func49, Tryz.ntmps49
  go_wp2_with (first | (refine wpList_boxB rfl 35 (.tmp 0) rfl c.cells (val_agg c) ?_; intro w1 q hc1 hb1 hx1; have K1 := Lib.hid (And.intro hc1 (And.intro hb1 hx1)); have ql := ld_cfg rt_cfg K1.out.1 HC.out; clear hc1 hb1 hx1))
  refine (HR.out _).mono ?_
  rintro e w2 ⟨rfl, hb⟩
  have K2 := Lib.hid (And.intro (K1.out.1.step hb) (bel_next K1.out.2.1 hb))
  have KA := Lib.hid (HA.out.step K2.out.2)
  clear hb ql
  have ql := ld_cfg rt_cfg K2.out.1 HC.out
  go_wp2_with fail
  go_ret2
  rw [HE.out]
  exact ⟨none, 0, rfl, OwnB.nil_ _ _, K2.out.2⟩
set_option maxRecDepth 100000 in
set_option maxHeartbeats 4000000 in
theorem mrun_len (c : Cfg) (h : c.ok) (back : Bool) (A : Option Addr) (n d : Nat) (l : List UInt8) (f : Value) (hf : f = stepV c.m back) (hr : rtB c = true) (hl : ¬ (l.length : Int) = c.s + c.n) (w : World) (hA : RB w w.heap.size A n l) (hd : n ≤ d) (hn : n ≤ 1000000) :
    Calls Tryz.prog 49 #[c.val, .slice A n d, f] w (RetBE (turnC c back l).1.length (turnC c back l).1 (turnC c back l).2 w) := by
  have HC := Lib.hid h
  have HA := Lib.hid hA
  have HL := Lib.hid hA.len
  have HD := Lib.hid hd
  obtain ⟨r1, r2, r3, r4, r5, _⟩ := rt_unf (rt_of hr)
  have HR := Lib.hid (fun u => mright_any c h true hr u)
  have HB := Lib.hid (fun u => mboth_any c h r2 r3 u)
  have HE : Hid (turnC c back l = ([], 11)) := Lib.hid (turn_range hr hl)
  have hne : ((n : Int) != c.s + c.n) = true := by rw [bne_iff_ne, ← HL.out]; exact hl
  clear h hr hf hA hl r1 r2 r3 r4 r5
  go_enter Tryz.func49, Tryz.ntmps49
  go_wp2_with (first | (refine wpList_boxB rfl 35 (.tmp 0) rfl c.cells (val_agg c) ?_; intro w1 q hc1 hb1 hx1; have K1 := Lib.hid (And.intro hc1 (And.intro hb1 hx1)); have ql := ld_cfg rt_cfg K1.out.1 HC.out; clear hc1 hb1 hx1))
  refine (HR.out _).mono ?_
  rintro e w2 ⟨rfl, hb⟩
  have K2 := Lib.hid (And.intro (K1.out.1.step hb) (bel_next K1.out.2.1 hb))
  have KA := Lib.hid (HA.out.step K2.out.2)
  clear hb ql
  have ql := ld_cfg rt_cfg K2.out.1 HC.out
  go_wp2_with fail
  refine (HB.out _).mono ?_
  rintro e w3 ⟨rfl, hb⟩
  have K3 := Lib.hid (And.intro (K2.out.1.step hb) (bel_next K2.out.2 hb))
  have KB := Lib.hid (HA.out.step K3.out.2)
  clear hb ql
  go_wp2_with fail
  go_ret2
  rw [HE.out]
  exact ⟨none, 0, rfl, OwnB.nil_ _ _, K3.out.2⟩
set_option maxRecDepth 100000 in
set_option maxHeartbeats 4000000 in
theorem mrun_0 (c : Cfg) (h : c.ok) (back : Bool) (A : Option Addr) (n d : Nat) (l : List UInt8) (f : Value) (hf : f = .nilFunc) (hr : rtB c = true) (hl : (l.length : Int) = c.s + c.n) (hm : c.m = 0) (w : World) (hA : RB w w.heap.size A n l) (hd : n ≤ d) (hn : n ≤ 1000000) :
    Calls Tryz.prog 49 #[c.val, .slice A n d, f] w (RetBE (turnC c back l).1.length (turnC c back l).1 (turnC c back l).2 w) := by
  have HC := Lib.hid h
  have HA := Lib.hid hA
  have HL := Lib.hid hA.len
  have HD := Lib.hid hd
  obtain ⟨r1, r2, r3, r4, r5, _⟩ := rt_unf (rt_of hr)
  have HR := Lib.hid (fun u => mright_any c h true hr u)
  have HB := Lib.hid (fun u => mboth_any c h r2 r3 u)
  have hne : ((n : Int) != c.s + c.n) = false := by rw [bne_eq_false_iff_eq, ← HL.out]; exact hl
  have HWL : Hid ((wayC c back l).length = n) := Lib.hid (by rw [way_len (rt_of hr) h.k hl, HL.out])
  have HE : Hid (turnC c back l = (wayC c back l, 0)) := Lib.hid (turn_ok hr hl)
  have HW : Hid (wayC c back l = l) := Lib.hid (way_plain hm)
  have kn := nil_nil
  subst hf
  clear h hr hA hl r1 r2 r3 r4 r5
  go_enter Tryz.func49, Tryz.ntmps49
  go_wp2_with (first | (refine wpList_boxB rfl 35 (.tmp 0) rfl c.cells (val_agg c) ?_; intro w1 q hc1 hb1 hx1; have K1 := Lib.hid (And.intro hc1 (And.intro hb1 hx1)); have ql := ld_cfg rt_cfg K1.out.1 HC.out; clear hc1 hb1 hx1))
  refine (HR.out _).mono ?_
  rintro e w2 ⟨rfl, hb⟩
  have K2 := Lib.hid (And.intro (K1.out.1.step hb) (bel_next K1.out.2.1 hb))
  have KA := Lib.hid (HA.out.step K2.out.2)
  clear hb ql
  have ql := ld_cfg rt_cfg K2.out.1 HC.out
  go_wp2_with fail
  refine (HB.out _).mono ?_
  rintro e w3 ⟨rfl, hb⟩
  have K3 := Lib.hid (And.intro (K2.out.1.step hb) (bel_next K2.out.2 hb))
  have KB := Lib.hid (HA.out.step K3.out.2)
  clear hb ql
  go_wp2_with fail
  refine (clone_any A n d _ l _ (by exact KB.out) (Nat.le_refl _) (by omega)).mono ?_
  rintro e w4 ⟨A4, c4, rfl, ho, hb⟩
  have K4 := Lib.hid (And.intro (ho.base_le K3.out.2.size) (bel_next K3.out.2 hb))
  clear ho hb
  go_wp2_with fail
  go_ret2
  rw [HE.out]
  dsimp only
  rw [HWL.out, HW.out]
  exact ⟨A4, c4, rfl, K4.out.1, K4.out.2⟩
set_option maxRecDepth 100000 in
set_option maxHeartbeats 4000000 in
theorem mrun_1e (c : Cfg) (h : c.ok) (back : Bool) (A : Option Addr) (n d : Nat) (l : List UInt8) (f : Value) (hf : f = fnV 54) (hr : rtB c = true) (hl : (l.length : Int) = c.s + c.n) (hm : c.m = 1) (hbk : back = false) (w : World) (hA : RB w w.heap.size A n l) (hd : n ≤ d) (hn : n ≤ 1000000) :
    Calls Tryz.prog 49 #[c.val, .slice A n d, f] w (RetBE (turnC c back l).1.length (turnC c back l).1 (turnC c back l).2 w) := by
  have HC := Lib.hid h
  have HA := Lib.hid hA
  have HL := Lib.hid hA.len
  have HD := Lib.hid hd
  obtain ⟨r1, r2, r3, r4, r5, _⟩ := rt_unf (rt_of hr)
  have HR := Lib.hid (fun u => mright_any c h true hr u)
  have HB := Lib.hid (fun u => mboth_any c h r2 r3 u)
  have hne : ((n : Int) != c.s + c.n) = false := by rw [bne_eq_false_iff_eq, ← HL.out]; exact hl
  have HWL : Hid ((wayC c back l).length = n) := Lib.hid (by rw [way_len (rt_of hr) h.k hl, HL.out])
  have HE : Hid (turnC c back l = (wayC c back l, 0)) := Lib.hid (turn_ok hr hl)
  have HW := Lib.hid (way_one (l := l) hm back)
  obtain rfl : n = 16 := by have e := r5 hm; rw [← hl, HL.out] at e; omega
  subst hf
  subst hbk
  rw [if_neg (by decide)] at HW
  have ks := key_slice
  have kn := fn_nil
  unfold fnV
  clear h hr hA hl r1 r2 r3 r4 r5
  go_enter Tryz.func49, Tryz.ntmps49
  go_wp2_with (first | (refine wpList_boxB rfl 35 (.tmp 0) rfl c.cells (val_agg c) ?_; intro w1 q hc1 hb1 hx1; have K1 := Lib.hid (And.intro hc1 (And.intro hb1 hx1)); have ql := ld_cfg rt_cfg K1.out.1 HC.out; clear hc1 hb1 hx1))
  refine (HR.out _).mono ?_
  rintro e w2 ⟨rfl, hb⟩
  have K2 := Lib.hid (And.intro (K1.out.1.step hb) (bel_next K1.out.2.1 hb))
  have KA := Lib.hid (HA.out.step K2.out.2)
  clear hb ql
  have ql := ld_cfg rt_cfg K2.out.1 HC.out
  go_wp2_with fail
  refine (HB.out _).mono ?_
  rintro e w3 ⟨rfl, hb⟩
  have K3 := Lib.hid (And.intro (K2.out.1.step hb) (bel_next K2.out.2 hb))
  have KB := Lib.hid (HA.out.step K3.out.2)
  clear hb ql
  go_wp2_with fail
  refine (anew_any 16 (some ⟨q, 3, none⟩) c.k _ (by exact cf_rb K3.out.1 HC.out.k) (by decide)).mono ?_
  rintro e w4 ⟨cb, b0, lo, rfl, hb, hcb, _, hob⟩
  have K4 := Lib.hid (And.intro (bel_next K3.out.2 hb) (And.intro (Nat.le_trans K3.out.2.size hcb) hob))
  have KC : Hid (RB w4 w4.heap.size A 16 l ∧ (0 < 16 → Away A cb)) := Lib.hid ⟨KB.out.step hb, fun hp => KB.out.far hp hcb⟩
  clear hb hcb hob
  go_wp2_with fail
  refine (encrypt_any cb b0 lo 0 d c.k l A _ (by exact K4.out.2.2) (by decide) (by exact KC.out.1) HD.out (KC.out.2 (by decide))).mono ?_
  rintro e w5 ⟨A5, c5, rfl, ho, hbu, _⟩
  have K5 := Lib.hid (And.intro (ho.base_le K4.out.1.size) (K4.out.1.trans (hbu.below K4.out.2.1 K4.out.2.2.lt)))
  clear ho hbu
  go_wp2_with fail
  go_ret2
  rw [HE.out]
  dsimp only
  rw [HWL.out, HW.out]
  exact ⟨A5, c5, rfl, K5.out.1, K5.out.2⟩
set_option maxRecDepth 100000 in
set_option maxHeartbeats 4000000 in
theorem mrun_1d (c : Cfg) (h : c.ok) (back : Bool) (A : Option Addr) (n d : Nat) (l : List UInt8) (f : Value) (hf : f = fnV 55) (hr : rtB c = true) (hl : (l.length : Int) = c.s + c.n) (hm : c.m = 1) (hbk : back = true) (w : World) (hA : RB w w.heap.size A n l) (hd : n ≤ d) (hn : n ≤ 1000000) :
    Calls Tryz.prog 49 #[c.val, .slice A n d, f] w (RetBE (turnC c back l).1.length (turnC c back l).1 (turnC c back l).2 w) := by
  have HC := Lib.hid h
  have HA := Lib.hid hA
  have HL := Lib.hid hA.len
  have HD := Lib.hid hd
  obtain ⟨r1, r2, r3, r4, r5, _⟩ := rt_unf (rt_of hr)
  have HR := Lib.hid (fun u => mright_any c h true hr u)
  have HB := Lib.hid (fun u => mboth_any c h r2 r3 u)
  have hne : ((n : Int) != c.s + c.n) = false := by rw [bne_eq_false_iff_eq, ← HL.out]; exact hl
  have HWL : Hid ((wayC c back l).length = n) := Lib.hid (by rw [way_len (rt_of hr) h.k hl, HL.out])
  have HE : Hid (turnC c back l = (wayC c back l, 0)) := Lib.hid (turn_ok hr hl)
  have HW := Lib.hid (way_one (l := l) hm back)
  obtain rfl : n = 16 := by have e := r5 hm; rw [← hl, HL.out] at e; omega
  subst hf
  subst hbk
  rw [if_pos rfl] at HW
  have ks := key_slice
  have kn := fn_nil
  unfold fnV
  clear h hr hA hl r1 r2 r3 r4 r5
  go_enter Tryz.func49, Tryz.ntmps49
  go_wp2_with (first | (refine wpList_boxB rfl 35 (.tmp 0) rfl c.cells (val_agg c) ?_; intro w1 q hc1 hb1 hx1; have K1 := Lib.hid (And.intro hc1 (And.intro hb1 hx1)); have ql := ld_cfg rt_cfg K1.out.1 HC.out; clear hc1 hb1 hx1))
  refine (HR.out _).mono ?_
  rintro e w2 ⟨rfl, hb⟩
  have K2 := Lib.hid (And.intro (K1.out.1.step hb) (bel_next K1.out.2.1 hb))
  have KA := Lib.hid (HA.out.step K2.out.2)
  clear hb ql
  have ql := ld_cfg rt_cfg K2.out.1 HC.out
  go_wp2_with fail
  refine (HB.out _).mono ?_
  rintro e w3 ⟨rfl, hb⟩
  have K3 := Lib.hid (And.intro (K2.out.1.step hb) (bel_next K2.out.2 hb))
  have KB := Lib.hid (HA.out.step K3.out.2)
  clear hb ql
  go_wp2_with fail
  refine (anew_any 16 (some ⟨q, 3, none⟩) c.k _ (by exact cf_rb K3.out.1 HC.out.k) (by decide)).mono ?_
  rintro e w4 ⟨cb, b0, lo, rfl, hb, hcb, _, hob⟩
  have K4 := Lib.hid (And.intro (bel_next K3.out.2 hb) (And.intro (Nat.le_trans K3.out.2.size hcb) hob))
  have KC : Hid (RB w4 w4.heap.size A 16 l ∧ (0 < 16 → Away A cb)) := Lib.hid ⟨KB.out.step hb, fun hp => KB.out.far hp hcb⟩
  clear hb hcb hob
  go_wp2_with fail
  refine (decrypt_any cb b0 lo 0 d c.k l A _ (by exact K4.out.2.2) (by decide) (by exact KC.out.1) HD.out (KC.out.2 (by decide))).mono ?_
  rintro e w5 ⟨A5, c5, rfl, ho, hbu, _⟩
  have K5 := Lib.hid (And.intro (ho.base_le K4.out.1.size) (K4.out.1.trans (hbu.below K4.out.2.1 K4.out.2.2.lt)))
  clear ho hbu
  go_wp2_with fail
  go_ret2
  rw [HE.out]
  dsimp only
  rw [HWL.out, HW.out]
  exact ⟨A5, c5, rfl, K5.out.1, K5.out.2⟩
set_option maxRecDepth 100000 in
set_option maxHeartbeats 4000000 in
theorem mrun_2m (c : Cfg) (h : c.ok) (back : Bool) (A : Option Addr) (n d : Nat) (l : List UInt8) (f : Value) (hf : f = fnV 56) (hr : rtB c = true) (hl : (l.length : Int) = c.s + c.n) (hm : c.m = 2) (hbk : back = false) (w : World) (hA : RB w w.heap.size A n l) (hd : n ≤ d) (hn : n ≤ 1000000) :
    Calls Tryz.prog 49 #[c.val, .slice A n d, f] w (RetBE (turnC c back l).1.length (turnC c back l).1 (turnC c back l).2 w) := by
  have HC := Lib.hid h
  have HA := Lib.hid hA
  have HL := Lib.hid hA.len
  have HD := Lib.hid hd
  obtain ⟨r1, r2, r3, r4, r5, _⟩ := rt_unf (rt_of hr)
  have HR := Lib.hid (fun u => mright_any c h true hr u)
  have HB := Lib.hid (fun u => mboth_any c h r2 r3 u)
  have hne : ((n : Int) != c.s + c.n) = false := by rw [bne_eq_false_iff_eq, ← HL.out]; exact hl
  have HWL : Hid ((wayC c back l).length = n) := Lib.hid (by rw [way_len (rt_of hr) h.k hl, HL.out])
  have HE : Hid (turnC c back l = (wayC c back l, 0)) := Lib.hid (turn_ok hr hl)
  have HW := Lib.hid (way_fourP (l := l) (rt_of hr) hm hl back)
  subst hf
  subst hbk
  rw [if_neg (by decide)] at HW
  have ks := key_slice
  have kn := fn_nil
  unfold fnV
  clear h hr hA hl r1 r2 r3 r4 r5
  go_enter Tryz.func49, Tryz.ntmps49
  go_wp2_with (first | (refine wpList_boxB rfl 35 (.tmp 0) rfl c.cells (val_agg c) ?_; intro w1 q hc1 hb1 hx1; have K1 := Lib.hid (And.intro hc1 (And.intro hb1 hx1)); have ql := ld_cfg rt_cfg K1.out.1 HC.out; clear hc1 hb1 hx1))
  refine (HR.out _).mono ?_
  rintro e w2 ⟨rfl, hb⟩
  have K2 := Lib.hid (And.intro (K1.out.1.step hb) (bel_next K1.out.2.1 hb))
  have KA := Lib.hid (HA.out.step K2.out.2)
  clear hb ql
  have ql := ld_cfg rt_cfg K2.out.1 HC.out
  go_wp2_with fail
  refine (HB.out _).mono ?_
  rintro e w3 ⟨rfl, hb⟩
  have K3 := Lib.hid (And.intro (K2.out.1.step hb) (bel_next K2.out.2 hb))
  have KB := Lib.hid (HA.out.step K3.out.2)
  clear hb ql
  go_wp2_with fail
  refine (anew_any 16 (some ⟨q, 3, none⟩) c.k _ (by exact cf_rb K3.out.1 HC.out.k) (by decide)).mono ?_
  rintro e w4 ⟨cb, b0, lo, rfl, hb, hcb, _, hob⟩
  have K4 := Lib.hid (And.intro (bel_next K3.out.2 hb) (And.intro (Nat.le_trans K3.out.2.size hcb) hob))
  have KC : Hid (RB w4 w4.heap.size A n l ∧ (0 < n → Away A cb)) := Lib.hid ⟨KB.out.step hb, fun hp => KB.out.far hp hcb⟩
  clear hb hcb hob
  go_wp2_with fail
  refine (fmix_any cb b0 lo 0 n d c.k l A _ (by exact K4.out.2.2) (by decide) (by exact KC.out.1) KC.out.2 hn HD.out).mono ?_
  rw [HW.out]
  dsimp only
  rw [HWL.out]
  rintro e w5 ⟨A5, c5, rfl, ho, hbu, _⟩
  have K5 := Lib.hid (And.intro (ho.base_le K4.out.1.size) (K4.out.1.trans (hbu.below K4.out.2.1 K4.out.2.2.lt)))
  clear ho hbu
  go_wp2_with fail
  go_ret2
  rw [HE.out]
  dsimp only
  rw [HWL.out]
  exact ⟨A5, c5, rfl, K5.out.1, K5.out.2⟩
set_option maxRecDepth 100000 in
set_option maxHeartbeats 4000000 in
theorem mrun_2u (c : Cfg) (h : c.ok) (back : Bool) (A : Option Addr) (n d : Nat) (l : List UInt8) (f : Value) (hf : f = fnV 57) (hr : rtB c = true) (hl : (l.length : Int) = c.s + c.n) (hm : c.m = 2) (hbk : back = true) (w : World) (hA : RB w w.heap.size A n l) (hd : n ≤ d) (hn : n ≤ 1000000) :
    Calls Tryz.prog 49 #[c.val, .slice A n d, f] w (RetBE (turnC c back l).1.length (turnC c back l).1 (turnC c back l).2 w) := by
  have HC := Lib.hid h
  have HA := Lib.hid hA
  have HL := Lib.hid hA.len
  have HD := Lib.hid hd
  obtain ⟨r1, r2, r3, r4, r5, _⟩ := rt_unf (rt_of hr)
  have HR := Lib.hid (fun u => mright_any c h true hr u)
  have HB := Lib.hid (fun u => mboth_any c h r2 r3 u)
  have hne : ((n : Int) != c.s + c.n) = false := by rw [bne_eq_false_iff_eq, ← HL.out]; exact hl
  have HWL : Hid ((wayC c back l).length = n) := Lib.hid (by rw [way_len (rt_of hr) h.k hl, HL.out])
  have HE : Hid (turnC c back l = (wayC c back l, 0)) := Lib.hid (turn_ok hr hl)
  have HW := Lib.hid (way_fourP (l := l) (rt_of hr) hm hl back)
  subst hf
  subst hbk
  rw [if_pos rfl] at HW
  have ks := key_slice
  have kn := fn_nil
  unfold fnV
  clear h hr hA hl r1 r2 r3 r4 r5
  go_enter Tryz.func49, Tryz.ntmps49
  go_wp2_with (first | (refine wpList_boxB rfl 35 (.tmp 0) rfl c.cells (val_agg c) ?_; intro w1 q hc1 hb1 hx1; have K1 := Lib.hid (And.intro hc1 (And.intro hb1 hx1)); have ql := ld_cfg rt_cfg K1.out.1 HC.out; clear hc1 hb1 hx1))
  refine (HR.out _).mono ?_
  rintro e w2 ⟨rfl, hb⟩
  have K2 := Lib.hid (And.intro (K1.out.1.step hb) (bel_next K1.out.2.1 hb))
  have KA := Lib.hid (HA.out.step K2.out.2)
  clear hb ql
  have ql := ld_cfg rt_cfg K2.out.1 HC.out
  go_wp2_with fail
  refine (HB.out _).mono ?_
  rintro e w3 ⟨rfl, hb⟩
  have K3 := Lib.hid (And.intro (K2.out.1.step hb) (bel_next K2.out.2 hb))
  have KB := Lib.hid (HA.out.step K3.out.2)
  clear hb ql
  go_wp2_with fail
  refine (anew_any 16 (some ⟨q, 3, none⟩) c.k _ (by exact cf_rb K3.out.1 HC.out.k) (by decide)).mono ?_
  rintro e w4 ⟨cb, b0, lo, rfl, hb, hcb, _, hob⟩
  have K4 := Lib.hid (And.intro (bel_next K3.out.2 hb) (And.intro (Nat.le_trans K3.out.2.size hcb) hob))
  have KC : Hid (RB w4 w4.heap.size A n l ∧ (0 < n → Away A cb)) := Lib.hid ⟨KB.out.step hb, fun hp => KB.out.far hp hcb⟩
  clear hb hcb hob
  go_wp2_with fail
  refine (funmix_any cb b0 lo 0 n d c.k l A _ (by exact K4.out.2.2) (by decide) (by exact KC.out.1) KC.out.2 hn HD.out).mono ?_
  rw [HW.out]
  dsimp only
  rw [HWL.out]
  rintro e w5 ⟨A5, c5, rfl, ho, hbu, _⟩
  have K5 := Lib.hid (And.intro (ho.base_le K4.out.1.size) (K4.out.1.trans (hbu.below K4.out.2.1 K4.out.2.2.lt)))
  clear ho hbu
  go_wp2_with fail
  go_ret2
  rw [HE.out]
  dsimp only
  rw [HWL.out]
  exact ⟨A5, c5, rfl, K5.out.1, K5.out.2⟩
theorem mrun_any (c : Cfg) (h : c.ok) (back : Bool) (A : Option Addr) (n d : Nat) (l : List UInt8) (w : World) (hA : RB w w.heap.size A n l) (hd : n ≤ d) (hn : n ≤ 1000000) :
    Calls Tryz.prog 49 #[c.val, .slice A n d, stepV c.m back] w (RetBE (turnC c back l).1.length (turnC c back l).1 (turnC c back l).2 w) := by
  cases hr : rtB c
  · exact mrun_no c h back A n d l _ rfl hr w hA hd hn
  by_cases hl : (l.length : Int) = c.s + c.n
  · obtain ⟨r1, _⟩ := rt_unf (rt_of hr)
    by_cases h1 : c.m = 1
    · cases back
      · exact mrun_1e c h false A n d l _ (by unfold stepV; rw [if_pos h1, if_neg (by decide)]) hr hl h1 rfl w hA hd hn
      · exact mrun_1d c h true A n d l _ (by unfold stepV; rw [if_pos h1, if_pos rfl]) hr hl h1 rfl w hA hd hn
    by_cases h2 : c.m = 2
    · cases back
      · exact mrun_2m c h false A n d l _ (by unfold stepV; rw [if_neg h1, if_pos h2, if_neg (by decide)]) hr hl h2 rfl w hA hd hn
      · exact mrun_2u c h true A n d l _ (by unfold stepV; rw [if_neg h1, if_pos h2, if_pos rfl]) hr hl h2 rfl w hA hd hn
    · exact mrun_0 c h back A n d l _ (by unfold stepV; rw [if_neg h1, if_neg h2]) hr hl (by omega) w hA hd hn
  · exact mrun_len c h back A n d l _ rfl hr hl w hA hd hn
set_option maxRecDepth 100000 in
set_option maxHeartbeats 4000000 in
theorem mturn_any (c : Cfg) (h : c.ok) (A : Option Addr) (n d : Nat) (l : List UInt8) (w : World) (hA : RB w w.heap.size A n l) (hd : n ≤ d) (hn : n ≤ 1000000) :
    Calls Tryz.prog 38 #[c.val, .slice A n d] w (RetBE (turnC c false l).1.length (turnC c false l).1 (turnC c false l).2 w) := by
  have HC := Lib.hid h
  have HA := Lib.hid hA
  have HRU := Lib.hid (fun (u : World) (hu : RB u u.heap.size A n l) => mrun_any c h false A n d l u hu hd hn)
  have HWY := Lib.hid (fun (u : World) => mways_any c.m u)
  obtain ⟨t, ht⟩ : ∃ t, turnC c false l = t := ⟨_, rfl⟩
  rw [ht] at HRU ⊢
  obtain ⟨f0, hf0⟩ : ∃ f, stepV c.m false = f := ⟨_, rfl⟩
  obtain ⟨f1, hf1⟩ : ∃ f, stepV c.m true = f := ⟨_, rfl⟩
  rw [hf0, hf1] at HWY
  rw [hf0] at HRU
  clear h hA ht hf0 hf1
  go_enter Tryz.func38, Tryz.ntmps38
  go_wp2_with (first | (refine wpList_boxB rfl 35 (.tmp 0) rfl c.cells (val_agg c) ?_; intro w1 q hc1 hb1 hx1; have K1 := Lib.hid (And.intro hc1 (And.intro hb1 hx1)); have ql := ld_cfg rt_cfg K1.out.1 HC.out; clear hc1 hb1 hx1))
  clear ql
  have HD : Blk 35 w1.drew q c.cells := K1.out.1
  refine wp_region_held_drew (S := fun w' => Blk 35 w' q c.cells) (by kernel_rfl) HD (fun hHeld => ?_)
  (try dsimp only at hHeld)
  refine wpAnyH_take (i := 0) (v := ?v0_1) rfl (by kernel_rfl) (by kernel_rfl) (by kernel_rfl) (fun _ _ _ h => h) (Or.inl ⟨by rfl, ?hy0_1⟩) hHeld ?_
  case hy0_1 => (intro w hSw; (try dsimp only at hSw); have q0 := cf0 hSw; have q1 := ld_cfg rt_cfg hSw HC.out; have q2 := fld_0; have q3 := fld_1; (try simp only [List.getElem_toArray, List.getElem_cons_zero, List.getElem_cons_succ]); go_simp <;> with_reducible rfl)
  (try simp only [Act.put, List.getElem_toArray, List.getElem_cons_zero, List.getElem_cons_succ, List.setIfInBounds_toArray, List.set_cons_zero, List.set_cons_succ])
  refine wpAnyH_take (i := 1) (v := ?v1_2) rfl (by kernel_rfl) (by kernel_rfl) (by kernel_rfl) (fun _ _ _ h => h) (Or.inl ⟨by rfl, ?hy1_2⟩) hHeld ?_
  case hy1_2 => (intro w hSw; (try dsimp only at hSw); have q0 := cf0 hSw; have q1 := ld_cfg rt_cfg hSw HC.out; have q2 := fld_0; have q3 := fld_1; (try simp only [List.getElem_toArray, List.getElem_cons_zero, List.getElem_cons_succ]); go_simp <;> with_reducible rfl)
  (try simp only [Act.put, List.getElem_toArray, List.getElem_cons_zero, List.getElem_cons_succ, List.setIfInBounds_toArray, List.set_cons_zero, List.set_cons_succ])
  refine wpAnyH_take (i := 2) (v := ?v2_3) rfl (by kernel_rfl) (by kernel_rfl) (by kernel_rfl) (fun _ _ _ h => h) (Or.inl ⟨by rfl, ?hy2_3⟩) hHeld ?_
  case hy2_3 => (intro w hSw; (try dsimp only at hSw); have q0 := cf0 hSw; have q1 := ld_cfg rt_cfg hSw HC.out; have q2 := fld_0; have q3 := fld_1; (try simp only [List.getElem_toArray, List.getElem_cons_zero, List.getElem_cons_succ]); go_simp <;> with_reducible rfl)
  (try simp only [Act.put, List.getElem_toArray, List.getElem_cons_zero, List.getElem_cons_succ, List.setIfInBounds_toArray, List.set_cons_zero, List.set_cons_succ])
  refine wpAnyH_take (i := 3) (v := ?v3_4) rfl (by kernel_rfl) (by kernel_rfl) (by kernel_rfl) (fun _ _ _ h => h) (Or.inl ⟨by rfl, ?hy3_4⟩) hHeld ?_
  case hy3_4 => (intro w hSw; (try dsimp only at hSw); have q0 := cf0 hSw; have q1 := ld_cfg rt_cfg hSw HC.out; have q2 := fld_0; have q3 := fld_1; (try simp only [List.getElem_toArray, List.getElem_cons_zero, List.getElem_cons_succ]); go_simp <;> with_reducible rfl)
  (try simp only [Act.put, List.getElem_toArray, List.getElem_cons_zero, List.getElem_cons_succ, List.setIfInBounds_toArray, List.set_cons_zero, List.set_cons_succ])
  refine wpAnyH_ready (rs := [4]) (by kernel_rfl) (by simp) ?_
  refine AllReadyH.cons rfl (fun K hK => ?_) AllReadyH.nil
  (try simp only [List.getElem_toArray, List.getElem_cons_zero, List.getElem_cons_succ])
  go_simp
  refine (HWY.out _).mono ?_
  rintro e w2 ⟨rfl, hb⟩
  have K2 := Lib.hid (And.intro (K1.out.1.step ((below_draw1 w1).trans hb)) (bel_next K1.out.2.1 ((below_draw1 w1).trans hb)))
  clear hb
  (try go_wp2_with fail)
  refine hK.out _ _ K2.out.1 (fun hHeld => ?_)
  clear hK K
  (try simp only [Act.put, List.getElem_toArray, List.getElem_cons_zero, List.getElem_cons_succ, List.setIfInBounds_toArray, List.set_cons_zero, List.set_cons_succ])
  refine wpAnyH_take (i := 5) (v := ?v5_5) rfl (by kernel_rfl) (by kernel_rfl) (by kernel_rfl) (fun _ _ _ h => h) (Or.inl ⟨by rfl, ?hy5_5⟩) hHeld ?_
  case hy5_5 => (intro w hSw; (try dsimp only at hSw); have q0 := cf0 hSw; have q1 := ld_cfg rt_cfg hSw HC.out; have q2 := fld_0; have q3 := fld_1; (try simp only [List.getElem_toArray, List.getElem_cons_zero, List.getElem_cons_succ]); go_simp <;> with_reducible rfl)
  (try simp only [Act.put, List.getElem_toArray, List.getElem_cons_zero, List.getElem_cons_succ, List.setIfInBounds_toArray, List.set_cons_zero, List.set_cons_succ])
  refine wpAnyH_ready (rs := [6]) (by kernel_rfl) (by simp) ?_
  refine AllReadyH.cons rfl (fun K hK => ?_) AllReadyH.nil
  (try simp only [List.getElem_toArray, List.getElem_cons_zero, List.getElem_cons_succ])
  go_simp
  refine (HRU.out _ (by exact HA.out.step K2.out.2)).mono ?_
  rintro e w3 ⟨A3, c3, rfl, ho, hb⟩
  have K3 := Lib.hid (And.intro (ho.base_le K2.out.2.size) (bel_next K2.out.2 hb))
  have K4 := Lib.hid (K2.out.1.step hb)
  clear ho hb
  (try go_wp2_with fail)
  refine hK.out _ _ K4.out (fun hHeld => ?_)
  clear hK K
  (try simp only [Act.put, List.getElem_toArray, List.getElem_cons_zero, List.getElem_cons_succ, List.setIfInBounds_toArray, List.set_cons_zero, List.set_cons_succ])
  refine wpAnyH_take (i := 7) (v := ?v7_6) rfl (by kernel_rfl) (by kernel_rfl) (by kernel_rfl) (fun _ _ _ h => h) (Or.inl ⟨by rfl, ?hy7_6⟩) hHeld ?_
  case hy7_6 => (intro w hSw; (try dsimp only at hSw); have q0 := cf0 hSw; have q1 := ld_cfg rt_cfg hSw HC.out; have q2 := fld_0; have q3 := fld_1; (try simp only [List.getElem_toArray, List.getElem_cons_zero, List.getElem_cons_succ]); go_simp <;> with_reducible rfl)
  (try simp only [Act.put, List.getElem_toArray, List.getElem_cons_zero, List.getElem_cons_succ, List.setIfInBounds_toArray, List.set_cons_zero, List.set_cons_succ])
  refine wpAnyH_take (i := 8) (v := ?v8_7) rfl (by kernel_rfl) (by kernel_rfl) (by kernel_rfl) (fun _ _ _ h => h) (Or.inl ⟨by rfl, ?hy8_7⟩) hHeld ?_
  case hy8_7 => (intro w hSw; (try dsimp only at hSw); have q0 := cf0 hSw; have q1 := ld_cfg rt_cfg hSw HC.out; have q2 := fld_0; have q3 := fld_1; (try simp only [List.getElem_toArray, List.getElem_cons_zero, List.getElem_cons_succ]); go_simp <;> with_reducible rfl)
  (try simp only [Act.put, List.getElem_toArray, List.getElem_cons_zero, List.getElem_cons_succ, List.setIfInBounds_toArray, List.set_cons_zero, List.set_cons_succ])
  refine wpAnyH_take (i := 9) (v := ?v9_8) rfl (by kernel_rfl) (by kernel_rfl) (by kernel_rfl) (fun _ _ _ h => h) (Or.inl ⟨by rfl, ?hy9_8⟩) hHeld ?_
  case hy9_8 => (intro w hSw; (try dsimp only at hSw); have q0 := cf0 hSw; have q1 := ld_cfg rt_cfg hSw HC.out; have q2 := fld_0; have q3 := fld_1; (try simp only [List.getElem_toArray, List.getElem_cons_zero, List.getElem_cons_succ]); go_simp <;> with_reducible rfl)
  (try simp only [Act.put, List.getElem_toArray, List.getElem_cons_zero, List.getElem_cons_succ, List.setIfInBounds_toArray, List.set_cons_zero, List.set_cons_succ])
  refine wpAnyH_take (i := 10) (v := ?v10_9) rfl (by kernel_rfl) (by kernel_rfl) (by kernel_rfl) (fun _ _ _ h => h) (Or.inl ⟨by rfl, ?hy10_9⟩) hHeld ?_
  case hy10_9 => (intro w hSw; (try dsimp only at hSw); have q0 := cf0 hSw; have q1 := ld_cfg rt_cfg hSw HC.out; have q2 := fld_0; have q3 := fld_1; (try simp only [List.getElem_toArray, List.getElem_cons_zero, List.getElem_cons_succ]); go_simp <;> with_reducible rfl)
  (try simp only [Act.put, List.getElem_toArray, List.getElem_cons_zero, List.getElem_cons_succ, List.setIfInBounds_toArray, List.set_cons_zero, List.set_cons_succ])
  refine wpAnyH_done (by kernel_rfl) ?_ _
  go_wp2_with fail
  go_ret2
  exact ⟨A3, c3, rfl, K3.out.1, K3.out.2⟩
set_option maxRecDepth 100000 in
set_option maxHeartbeats 4000000 in
theorem mback_any (c : Cfg) (h : c.ok) (A : Option Addr) (n d : Nat) (l : List UInt8) (w : World) (hA : RB w w.heap.size A n l) (hd : n ≤ d) (hn : n ≤ 1000000) :
    Calls Tryz.prog 46 #[c.val, .slice A n d] w (RetBE (turnC c true l).1.length (turnC c true l).1 (turnC c true l).2 w) := by
  have HC := Lib.hid h
  have HA := Lib.hid hA
  have HRU := Lib.hid (fun (u : World) (hu : RB u u.heap.size A n l) => mrun_any c h true A n d l u hu hd hn)
  have HWY := Lib.hid (fun (u : World) => mways_any c.m u)
  obtain ⟨t, ht⟩ : ∃ t, turnC c true l = t := ⟨_, rfl⟩
  rw [ht] at HRU ⊢
  obtain ⟨f0, hf0⟩ : ∃ f, stepV c.m false = f := ⟨_, rfl⟩
  obtain ⟨f1, hf1⟩ : ∃ f, stepV c.m true = f := ⟨_, rfl⟩
  rw [hf0, hf1] at HWY
  rw [hf1] at HRU
  clear h hA ht hf0 hf1
  go_enter Tryz.func46, Tryz.ntmps46
  go_wp2_with (first | (refine wpList_boxB rfl 35 (.tmp 0) rfl c.cells (val_agg c) ?_; intro w1 q hc1 hb1 hx1; have K1 := Lib.hid (And.intro hc1 (And.intro hb1 hx1)); have ql := ld_cfg rt_cfg K1.out.1 HC.out; clear hc1 hb1 hx1))
  clear ql
  have HD : Blk 35 w1.drew q c.cells := K1.out.1
  refine wp_region_held_drew (S := fun w' => Blk 35 w' q c.cells) (by kernel_rfl) HD (fun hHeld => ?_)
  (try dsimp only at hHeld)
  refine wpAnyH_take (i := 0) (v := ?v0_10) rfl (by kernel_rfl) (by kernel_rfl) (by kernel_rfl) (fun _ _ _ h => h) (Or.inl ⟨by rfl, ?hy0_10⟩) hHeld ?_
  case hy0_10 => (intro w hSw; (try dsimp only at hSw); have q0 := cf0 hSw; have q1 := ld_cfg rt_cfg hSw HC.out; have q2 := fld_0; have q3 := fld_1; (try simp only [List.getElem_toArray, List.getElem_cons_zero, List.getElem_cons_succ]); go_simp <;> with_reducible rfl)
  (try simp only [Act.put, List.getElem_toArray, List.getElem_cons_zero, List.getElem_cons_succ, List.setIfInBounds_toArray, List.set_cons_zero, List.set_cons_succ])
  refine wpAnyH_take (i := 1) (v := ?v1_11) rfl (by kernel_rfl) (by kernel_rfl) (by kernel_rfl) (fun _ _ _ h => h) (Or.inl ⟨by rfl, ?hy1_11⟩) hHeld ?_
  case hy1_11 => (intro w hSw; (try dsimp only at hSw); have q0 := cf0 hSw; have q1 := ld_cfg rt_cfg hSw HC.out; have q2 := fld_0; have q3 := fld_1; (try simp only [List.getElem_toArray, List.getElem_cons_zero, List.getElem_cons_succ]); go_simp <;> with_reducible rfl)
  (try simp only [Act.put, List.getElem_toArray, List.getElem_cons_zero, List.getElem_cons_succ, List.setIfInBounds_toArray, List.set_cons_zero, List.set_cons_succ])
  refine wpAnyH_take (i := 2) (v := ?v2_12) rfl (by kernel_rfl) (by kernel_rfl) (by kernel_rfl) (fun _ _ _ h => h) (Or.inl ⟨by rfl, ?hy2_12⟩) hHeld ?_
  case hy2_12 => (intro w hSw; (try dsimp only at hSw); have q0 := cf0 hSw; have q1 := ld_cfg rt_cfg hSw HC.out; have q2 := fld_0; have q3 := fld_1; (try simp only [List.getElem_toArray, List.getElem_cons_zero, List.getElem_cons_succ]); go_simp <;> with_reducible rfl)
  (try simp only [Act.put, List.getElem_toArray, List.getElem_cons_zero, List.getElem_cons_succ, List.setIfInBounds_toArray, List.set_cons_zero, List.set_cons_succ])
  refine wpAnyH_take (i := 3) (v := ?v3_13) rfl (by kernel_rfl) (by kernel_rfl) (by kernel_rfl) (fun _ _ _ h => h) (Or.inl ⟨by rfl, ?hy3_13⟩) hHeld ?_
  case hy3_13 => (intro w hSw; (try dsimp only at hSw); have q0 := cf0 hSw; have q1 := ld_cfg rt_cfg hSw HC.out; have q2 := fld_0; have q3 := fld_1; (try simp only [List.getElem_toArray, List.getElem_cons_zero, List.getElem_cons_succ]); go_simp <;> with_reducible rfl)
  (try simp only [Act.put, List.getElem_toArray, List.getElem_cons_zero, List.getElem_cons_succ, List.setIfInBounds_toArray, List.set_cons_zero, List.set_cons_succ])
  refine wpAnyH_ready (rs := [4]) (by kernel_rfl) (by simp) ?_
  refine AllReadyH.cons rfl (fun K hK => ?_) AllReadyH.nil
  (try simp only [List.getElem_toArray, List.getElem_cons_zero, List.getElem_cons_succ])
  go_simp
  refine (HWY.out _).mono ?_
  rintro e w2 ⟨rfl, hb⟩
  have K2 := Lib.hid (And.intro (K1.out.1.step ((below_draw1 w1).trans hb)) (bel_next K1.out.2.1 ((below_draw1 w1).trans hb)))
  clear hb
  (try go_wp2_with fail)
  refine hK.out _ _ K2.out.1 (fun hHeld => ?_)
  clear hK K
  (try simp only [Act.put, List.getElem_toArray, List.getElem_cons_zero, List.getElem_cons_succ, List.setIfInBounds_toArray, List.set_cons_zero, List.set_cons_succ])
  refine wpAnyH_take (i := 5) (v := ?v5_14) rfl (by kernel_rfl) (by kernel_rfl) (by kernel_rfl) (fun _ _ _ h => h) (Or.inl ⟨by rfl, ?hy5_14⟩) hHeld ?_
  case hy5_14 => (intro w hSw; (try dsimp only at hSw); have q0 := cf0 hSw; have q1 := ld_cfg rt_cfg hSw HC.out; have q2 := fld_0; have q3 := fld_1; (try simp only [List.getElem_toArray, List.getElem_cons_zero, List.getElem_cons_succ]); go_simp <;> with_reducible rfl)
  (try simp only [Act.put, List.getElem_toArray, List.getElem_cons_zero, List.getElem_cons_succ, List.setIfInBounds_toArray, List.set_cons_zero, List.set_cons_succ])
  refine wpAnyH_ready (rs := [6]) (by kernel_rfl) (by simp) ?_
  refine AllReadyH.cons rfl (fun K hK => ?_) AllReadyH.nil
  (try simp only [List.getElem_toArray, List.getElem_cons_zero, List.getElem_cons_succ])
  go_simp
  refine (HRU.out _ (by exact HA.out.step K2.out.2)).mono ?_
  rintro e w3 ⟨A3, c3, rfl, ho, hb⟩
  have K3 := Lib.hid (And.intro (ho.base_le K2.out.2.size) (bel_next K2.out.2 hb))
  have K4 := Lib.hid (K2.out.1.step hb)
  clear ho hb
  (try go_wp2_with fail)
  refine hK.out _ _ K4.out (fun hHeld => ?_)
  clear hK K
  (try simp only [Act.put, List.getElem_toArray, List.getElem_cons_zero, List.getElem_cons_succ, List.setIfInBounds_toArray, List.set_cons_zero, List.set_cons_succ])
  refine wpAnyH_take (i := 7) (v := ?v7_15) rfl (by kernel_rfl) (by kernel_rfl) (by kernel_rfl) (fun _ _ _ h => h) (Or.inl ⟨by rfl, ?hy7_15⟩) hHeld ?_
  case hy7_15 => (intro w hSw; (try dsimp only at hSw); have q0 := cf0 hSw; have q1 := ld_cfg rt_cfg hSw HC.out; have q2 := fld_0; have q3 := fld_1; (try simp only [List.getElem_toArray, List.getElem_cons_zero, List.getElem_cons_succ]); go_simp <;> with_reducible rfl)
  (try simp only [Act.put, List.getElem_toArray, List.getElem_cons_zero, List.getElem_cons_succ, List.setIfInBounds_toArray, List.set_cons_zero, List.set_cons_succ])
  refine wpAnyH_take (i := 8) (v := ?v8_16) rfl (by kernel_rfl) (by kernel_rfl) (by kernel_rfl) (fun _ _ _ h => h) (Or.inl ⟨by rfl, ?hy8_16⟩) hHeld ?_
  case hy8_16 => (intro w hSw; (try dsimp only at hSw); have q0 := cf0 hSw; have q1 := ld_cfg rt_cfg hSw HC.out; have q2 := fld_0; have q3 := fld_1; (try simp only [List.getElem_toArray, List.getElem_cons_zero, List.getElem_cons_succ]); go_simp <;> with_reducible rfl)
  (try simp only [Act.put, List.getElem_toArray, List.getElem_cons_zero, List.getElem_cons_succ, List.setIfInBounds_toArray, List.set_cons_zero, List.set_cons_succ])
  refine wpAnyH_take (i := 9) (v := ?v9_17) rfl (by kernel_rfl) (by kernel_rfl) (by kernel_rfl) (fun _ _ _ h => h) (Or.inl ⟨by rfl, ?hy9_17⟩) hHeld ?_
  case hy9_17 => (intro w hSw; (try dsimp only at hSw); have q0 := cf0 hSw; have q1 := ld_cfg rt_cfg hSw HC.out; have q2 := fld_0; have q3 := fld_1; (try simp only [List.getElem_toArray, List.getElem_cons_zero, List.getElem_cons_succ]); go_simp <;> with_reducible rfl)
  (try simp only [Act.put, List.getElem_toArray, List.getElem_cons_zero, List.getElem_cons_succ, List.setIfInBounds_toArray, List.set_cons_zero, List.set_cons_succ])
  refine wpAnyH_take (i := 10) (v := ?v10_18) rfl (by kernel_rfl) (by kernel_rfl) (by kernel_rfl) (fun _ _ _ h => h) (Or.inl ⟨by rfl, ?hy10_18⟩) hHeld ?_
  case hy10_18 => (intro w hSw; (try dsimp only at hSw); have q0 := cf0 hSw; have q1 := ld_cfg rt_cfg hSw HC.out; have q2 := fld_0; have q3 := fld_1; (try simp only [List.getElem_toArray, List.getElem_cons_zero, List.getElem_cons_succ]); go_simp <;> with_reducible rfl)
  (try simp only [Act.put, List.getElem_toArray, List.getElem_cons_zero, List.getElem_cons_succ, List.setIfInBounds_toArray, List.set_cons_zero, List.set_cons_succ])
  refine wpAnyH_done (by kernel_rfl) ?_ _
  go_wp2_with fail
  go_ret2
  exact ⟨A3, c3, rfl, K3.out.1, K3.out.2⟩
end Go.Proofs.YtkcchidklcnnnaaGreat

