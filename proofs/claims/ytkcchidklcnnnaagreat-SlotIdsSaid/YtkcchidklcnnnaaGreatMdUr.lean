/- Layer 16: the reference's turn, Turn and Back, and Of. Condition: the slice's cells are readable, it has at most a million bytes; the key has sixteen bytes, the numbers are words. -/
import Derived.Test.YtkcchidklcnnnaaGreatMdU
import Derived.Test.YtkcchidklcnnnaaGreatMdAr
import Derived.Test.YtkcchidklcnnnaaGreatMdL
import Derived.Test.YtkcchidklcnnnaaGreatFsAB
namespace Go.Proofs.YtkcchidklcnnnaaGreat
open Go.RowKit
set_option linter.unusedVariables false
set_option linter.unusedSimpArgs false
def ordC (back : Bool) : List Int := if back then [4, 3, 2, 1] else [1, 2, 3, 4]
set_option maxRecDepth 100000 in
theorem of_built (m s n : Int) (k : List UInt8) (h : k.length = 16) : Tryz.prog.built 29 [(0, .int .i64 m), (1, .int .i64 s), (2, .int .i64 n), (3, AV k)] = some (Cfg.cells ⟨m, s, n, k⟩).toArray := by
  obtain ⟨a0, a1, a2, a3, a4, a5, a6, a7, a8, a9, a10, a11, a12, a13, a14, a15, rfl⟩ := list16s k h
  kernel_rfl
attribute [local irreducible] Cfg.val Cfg.cells rtB Rt zK sizeC AV bytC rawC zeroC turnC wayC encL decL tableL backL passesR cntP
attribute [local go_sem ↓] ex_ldC ex_ldR ex_ldK
set_option maxRecDepth 100000 in
set_option maxHeartbeats 4000000 in
theorem rturn_no (c : Cfg) (h : c.ok) (back : Bool) (A C : Option Addr) (n d m : Nat) (l : List UInt8) (hr : rtB c = false) (w : World) (hA : RB w w.heap.size A n l) (ho : ZL w w.heap.size C 4 (ordC back)) (hd : n ≤ d) (hn : n ≤ 1000000) :
    Calls Tryz.prog 51 #[c.val, .slice A n d, .slice C 4 m] w (RetBE (turnC c back l).1.length (turnC c back l).1 (turnC c back l).2 w) := by
  have HC := Lib.hid h
  have HA := Lib.hid hA
  have HE : Hid (turnC c back l = ([], 19)) := Lib.hid (turn_state hr)
  have HR := Lib.hid (fun u => rmright_any c h false hr u)
  clear h hr hA ho
  go_enter Tryz.func51, Tryz.ntmps51
  go_wp2_with (first | (refine wpList_boxB rfl 29 (.tmp 0) rfl c.cells (val_agg c) ?_; intro w1 q hc1 hb1 hx1; have K1 := Lib.hid (And.intro hc1 (And.intro hb1 hx1)); have c0 := cf0 (K1.out.1); have c1 := cf1 (K1.out.1); have c2 := cf2 (K1.out.1); have ql := ld_cfg rt_rcfg (K1.out.1) HC.out; clear hc1 hb1 hx1))
  refine (HR.out _).mono ?_
  rintro e w2 ⟨rfl, hb⟩
  have K2 := Lib.hid (And.intro (K1.out.1.step hb) (bel_next K1.out.2.1 hb))
  have KA := Lib.hid (HA.out.step K2.out.2)
  clear hb ql c0 c1 c2
  have c0 := cf0 (K2.out.1)
  have c1 := cf1 (K2.out.1)
  have c2 := cf2 (K2.out.1)
  have ql := ld_cfg rt_rcfg (K2.out.1) HC.out
  go_wp2_with fail
  go_ret2
  rw [HE.out]
  exact ⟨none, 0, rfl, OwnB.nil_ _ _, K2.out.2⟩
set_option maxRecDepth 100000 in
set_option maxHeartbeats 4000000 in
theorem rturn_len (c : Cfg) (h : c.ok) (back : Bool) (A C : Option Addr) (n d m : Nat) (l : List UInt8) (hr : rtB c = true) (hl : ¬ (l.length : Int) = c.s + c.n) (w : World) (hA : RB w w.heap.size A n l) (ho : ZL w w.heap.size C 4 (ordC back)) (hd : n ≤ d) (hn : n ≤ 1000000) :
    Calls Tryz.prog 51 #[c.val, .slice A n d, .slice C 4 m] w (RetBE (turnC c back l).1.length (turnC c back l).1 (turnC c back l).2 w) := by
  have HC := Lib.hid h
  have HA := Lib.hid hA
  have HO := Lib.hid ho
  have HL := Lib.hid hA.len
  have HD := Lib.hid hd
  obtain ⟨r1, r2, r3, r4, r5, _⟩ := rt_unf (rt_of hr)
  have HR := Lib.hid (fun u => rmright_any c h true hr u)
  have HE : Hid (turnC c back l = ([], 11)) := Lib.hid (turn_range hr hl)
  have hne : ((n : Int) != c.s + c.n) = true := by rw [bne_iff_ne, ← HL.out]; exact hl
  clear h hr hA ho hl r1 r4 r5
  go_enter Tryz.func51, Tryz.ntmps51
  go_wp2_with (first | (refine wpList_boxB rfl 29 (.tmp 0) rfl c.cells (val_agg c) ?_; intro w1 q hc1 hb1 hx1; have K1 := Lib.hid (And.intro hc1 (And.intro hb1 hx1)); have c0 := cf0 (K1.out.1); have c1 := cf1 (K1.out.1); have c2 := cf2 (K1.out.1); have ql := ld_cfg rt_rcfg (K1.out.1) HC.out; clear hc1 hb1 hx1))
  refine (HR.out _).mono ?_
  rintro e w2 ⟨rfl, hb⟩
  have K2 := Lib.hid (And.intro (K1.out.1.step hb) (bel_next K1.out.2.1 hb))
  have KA := Lib.hid (HA.out.step K2.out.2)
  clear hb ql c0 c1 c2
  have c0 := cf0 (K2.out.1)
  have c1 := cf1 (K2.out.1)
  have c2 := cf2 (K2.out.1)
  have ql := ld_cfg rt_rcfg (K2.out.1) HC.out
  go_wp2_with fail
  go_ret2
  rw [HE.out]
  exact ⟨none, 0, rfl, OwnB.nil_ _ _, K2.out.2⟩
set_option maxRecDepth 100000 in
set_option maxHeartbeats 4000000 in
theorem rturn_0 (c : Cfg) (h : c.ok) (back : Bool) (A C : Option Addr) (n d m : Nat) (l : List UInt8) (hr : rtB c = true) (hl : (l.length : Int) = c.s + c.n) (hm : c.m = 0) (w : World) (hA : RB w w.heap.size A n l) (ho : ZL w w.heap.size C 4 (ordC back)) (hd : n ≤ d) (hn : n ≤ 1000000) :
    Calls Tryz.prog 51 #[c.val, .slice A n d, .slice C 4 m] w (RetBE (turnC c back l).1.length (turnC c back l).1 (turnC c back l).2 w) := by
  have HC := Lib.hid h
  have HA := Lib.hid hA
  have HO := Lib.hid ho
  have HL := Lib.hid hA.len
  have HD := Lib.hid hd
  obtain ⟨r1, r2, r3, r4, r5, _⟩ := rt_unf (rt_of hr)
  have HR := Lib.hid (fun u => rmright_any c h true hr u)
  have hne : ((n : Int) != c.s + c.n) = false := by rw [bne_eq_false_iff_eq, ← HL.out]; exact hl
  have HWL : Hid ((wayC c back l).length = n) := Lib.hid (by rw [way_len (rt_of hr) h.k hl, HL.out])
  have HE : Hid (turnC c back l = (wayC c back l, 0)) := Lib.hid (turn_ok hr hl)
  have HW : Hid (wayC c back l = l) := Lib.hid (way_plain hm)
  have f0 : (c.m == 0) = true := by rw [hm]; rfl
  clear h hr hA ho hl hm r1 r4 r5
  go_enter Tryz.func51, Tryz.ntmps51
  go_wp2_with (first | (refine wpList_boxB rfl 29 (.tmp 0) rfl c.cells (val_agg c) ?_; intro w1 q hc1 hb1 hx1; have K1 := Lib.hid (And.intro hc1 (And.intro hb1 hx1)); have c0 := cf0 (K1.out.1); have c1 := cf1 (K1.out.1); have c2 := cf2 (K1.out.1); have ql := ld_cfg rt_rcfg (K1.out.1) HC.out; clear hc1 hb1 hx1))
  refine (HR.out _).mono ?_
  rintro e w2 ⟨rfl, hb⟩
  have K2 := Lib.hid (And.intro (K1.out.1.step hb) (bel_next K1.out.2.1 hb))
  have KA := Lib.hid (HA.out.step K2.out.2)
  clear hb ql c0 c1 c2
  have c0 := cf0 (K2.out.1)
  have c1 := cf1 (K2.out.1)
  have c2 := cf2 (K2.out.1)
  have ql := ld_cfg rt_rcfg (K2.out.1) HC.out
  go_wp2_with (at_builtin; refine wpList_app rfl (.tmp 22) (.tmp 23) rfl w2.heap.size _ _ _ [] rfl (by exact OwnB.lit w2 _ [] #[] 0 rfl rfl (by unfold maxLen; omega) (Nat.le_refl _)) _ A n d l rfl (by exact KA.out.step (below_alloc _ _)) (by omega) (by simp) ?_; intro A4 c4 w4 ho2 hg2 hb2; have K4 := Lib.hid (And.intro (ho2.base_le K2.out.2.size) (K2.out.2.trans (((below_alloc w2 _).trans hb2).mono K2.out.2.size))); clear ho2 hg2 hb2)
  go_ret2
  rw [HE.out]
  dsimp only
  rw [HWL.out, HW.out]
  exact ⟨A4, c4, by simp, by simpa using K4.out.1, K4.out.2⟩
set_option maxRecDepth 100000 in
set_option maxHeartbeats 4000000 in
theorem rturn_2 (c : Cfg) (h : c.ok) (back : Bool) (A C : Option Addr) (n d m : Nat) (l : List UInt8) (hr : rtB c = true) (hl : (l.length : Int) = c.s + c.n) (hm : c.m = 2) (w : World) (hA : RB w w.heap.size A n l) (ho : ZL w w.heap.size C 4 (ordC back)) (hd : n ≤ d) (hn : n ≤ 1000000) :
    Calls Tryz.prog 51 #[c.val, .slice A n d, .slice C 4 m] w (RetBE (turnC c back l).1.length (turnC c back l).1 (turnC c back l).2 w) := by
  have HC := Lib.hid h
  have HA := Lib.hid hA
  have HO := Lib.hid ho
  have HL := Lib.hid hA.len
  have HD := Lib.hid hd
  obtain ⟨r1, r2, r3, r4, r5, _⟩ := rt_unf (rt_of hr)
  have HR := Lib.hid (fun u => rmright_any c h true hr u)
  have hne : ((n : Int) != c.s + c.n) = false := by rw [bne_eq_false_iff_eq, ← HL.out]; exact hl
  have HWL : Hid ((wayC c back l).length = n) := Lib.hid (by rw [way_len (rt_of hr) h.k hl, HL.out])
  have HE : Hid (turnC c back l = (wayC c back l, 0)) := Lib.hid (turn_ok hr hl)
  have HW : Hid (passesR (encL c.k tableL) l (ordC back) = (wayC c back l, 0)) := Lib.hid (way_fourP (rt_of hr) hm hl back)
  have f0 : (c.m == 0) = false := by rw [hm]; rfl
  have f2 : (c.m == 2) = true := by rw [hm]; rfl
  have ks := key_slice
  clear h hr hA ho hl hm r1 r4 r5
  go_enter Tryz.func51, Tryz.ntmps51
  go_wp2_with (first | (refine wpList_boxB rfl 29 (.tmp 0) rfl c.cells (val_agg c) ?_; intro w1 q hc1 hb1 hx1; have K1 := Lib.hid (And.intro hc1 (And.intro hb1 hx1)); have c0 := cf0 (K1.out.1); have c1 := cf1 (K1.out.1); have c2 := cf2 (K1.out.1); have ql := ld_cfg rt_rcfg (K1.out.1) HC.out; clear hc1 hb1 hx1))
  refine (HR.out _).mono ?_
  rintro e w2 ⟨rfl, hb⟩
  have K2 := Lib.hid (And.intro (K1.out.1.step hb) (bel_next K1.out.2.1 hb))
  have KA := Lib.hid (HA.out.step K2.out.2)
  clear hb ql c0 c1 c2
  have c0 := cf0 (K2.out.1)
  have c1 := cf1 (K2.out.1)
  have c2 := cf2 (K2.out.1)
  have ql := ld_cfg rt_rcfg (K2.out.1) HC.out
  go_wp2_with fail
  refine (rfpasses_any (some ⟨q, 3, none⟩) A C 16 n d 4 m c.k l (ordC back) _ (by exact cf_rb K2.out.1 HC.out.k) (by decide) (by exact KA.out) (by exact HO.out.step K2.out.2) hn (by decide)).mono ?_
  rw [HW.out]
  dsimp only
  rw [HWL.out]
  rintro e w4 ⟨A4, c4, rfl, ho, hb⟩
  have K4 := Lib.hid (And.intro (ho.base_le K2.out.2.size) (bel_next K2.out.2 hb))
  clear ho hb
  go_wp2_with fail
  go_ret2
  rw [HE.out]
  dsimp only
  rw [HWL.out]
  exact ⟨A4, c4, rfl, K4.out.1, K4.out.2⟩
set_option maxRecDepth 100000 in
set_option maxHeartbeats 4000000 in
theorem rturn_1e (c : Cfg) (h : c.ok) (back : Bool) (A C : Option Addr) (n d m : Nat) (l : List UInt8) (hr : rtB c = true) (hl : (l.length : Int) = c.s + c.n) (hm : c.m = 1) (hbk : back = false) (w : World) (hA : RB w w.heap.size A n l) (ho : ZL w w.heap.size C 4 (ordC back)) (hd : n ≤ d) (hn : n ≤ 1000000) :
    Calls Tryz.prog 51 #[c.val, .slice A n d, .slice C 4 m] w (RetBE (turnC c back l).1.length (turnC c back l).1 (turnC c back l).2 w) := by
  have HC := Lib.hid h
  have HA := Lib.hid hA
  have HO := Lib.hid ho
  have HL := Lib.hid hA.len
  have HD := Lib.hid hd
  obtain ⟨r1, r2, r3, r4, r5, _⟩ := rt_unf (rt_of hr)
  have HR := Lib.hid (fun u => rmright_any c h true hr u)
  have hne : ((n : Int) != c.s + c.n) = false := by rw [bne_eq_false_iff_eq, ← HL.out]; exact hl
  have HWL : Hid ((wayC c back l).length = n) := Lib.hid (by rw [way_len (rt_of hr) h.k hl, HL.out])
  have HE : Hid (turnC c back l = (wayC c back l, 0)) := Lib.hid (turn_ok hr hl)
  have HW := Lib.hid (way_one (l := l) hm back)
  obtain rfl : n = 16 := by have e := r5 hm; rw [← hl, HL.out] at e; omega
  subst hbk
  rw [if_neg (by decide)] at HW
  have f0 : (c.m == 0) = false := by rw [hm]; rfl
  have f2 : (c.m == 2) = false := by rw [hm]; rfl
  have ks := key_slice
  clear h hr hA ho hl hm r1 r4 r5
  go_enter Tryz.func51, Tryz.ntmps51
  go_wp2_with (first | (refine wpList_boxB rfl 29 (.tmp 0) rfl c.cells (val_agg c) ?_; intro w1 q hc1 hb1 hx1; have K1 := Lib.hid (And.intro hc1 (And.intro hb1 hx1)); have c0 := cf0 (K1.out.1); have c1 := cf1 (K1.out.1); have c2 := cf2 (K1.out.1); have ql := ld_cfg rt_rcfg (K1.out.1) HC.out; clear hc1 hb1 hx1))
  refine (HR.out _).mono ?_
  rintro e w2 ⟨rfl, hb⟩
  have K2 := Lib.hid (And.intro (K1.out.1.step hb) (bel_next K1.out.2.1 hb))
  have KA := Lib.hid (HA.out.step K2.out.2)
  clear hb ql c0 c1 c2
  have c0 := cf0 (K2.out.1)
  have c1 := cf1 (K2.out.1)
  have c2 := cf2 (K2.out.1)
  have ql := ld_cfg rt_rcfg (K2.out.1) HC.out
  obtain ⟨g2, o2, rfl, _, p, hp, _, hcp⟩ := (HO.out.step K2.out.2).at_ (show 0 < 4 by decide)
  obtain rfl : p = 1 := by unfold ordC at hp; simpa using hp.symm
  rw [Nat.add_zero] at hcp
  clear hp
  go_wp2_with fail
  refine (renc_any (some ⟨q, 3, none⟩) A 16 d c.k l _ (by exact cf_rb K2.out.1 HC.out.k) (by decide) (by exact KA.out)).mono ?_
  rintro e w4 ⟨A4, c4, rfl, ho, hb⟩
  have K4 := Lib.hid (And.intro (ho.base_le K2.out.2.size) (bel_next K2.out.2 hb))
  clear ho hb
  go_wp2_with fail
  go_ret2
  rw [HE.out]
  dsimp only
  rw [HWL.out, HW.out]
  exact ⟨A4, c4, rfl, K4.out.1, K4.out.2⟩
set_option maxRecDepth 100000 in
set_option maxHeartbeats 4000000 in
theorem rturn_1d (c : Cfg) (h : c.ok) (back : Bool) (A C : Option Addr) (n d m : Nat) (l : List UInt8) (hr : rtB c = true) (hl : (l.length : Int) = c.s + c.n) (hm : c.m = 1) (hbk : back = true) (w : World) (hA : RB w w.heap.size A n l) (ho : ZL w w.heap.size C 4 (ordC back)) (hd : n ≤ d) (hn : n ≤ 1000000) :
    Calls Tryz.prog 51 #[c.val, .slice A n d, .slice C 4 m] w (RetBE (turnC c back l).1.length (turnC c back l).1 (turnC c back l).2 w) := by
  have HC := Lib.hid h
  have HA := Lib.hid hA
  have HO := Lib.hid ho
  have HL := Lib.hid hA.len
  have HD := Lib.hid hd
  obtain ⟨r1, r2, r3, r4, r5, _⟩ := rt_unf (rt_of hr)
  have HR := Lib.hid (fun u => rmright_any c h true hr u)
  have hne : ((n : Int) != c.s + c.n) = false := by rw [bne_eq_false_iff_eq, ← HL.out]; exact hl
  have HWL : Hid ((wayC c back l).length = n) := Lib.hid (by rw [way_len (rt_of hr) h.k hl, HL.out])
  have HE : Hid (turnC c back l = (wayC c back l, 0)) := Lib.hid (turn_ok hr hl)
  have HW := Lib.hid (way_one (l := l) hm back)
  obtain rfl : n = 16 := by have e := r5 hm; rw [← hl, HL.out] at e; omega
  subst hbk
  rw [if_pos rfl] at HW
  have f0 : (c.m == 0) = false := by rw [hm]; rfl
  have f2 : (c.m == 2) = false := by rw [hm]; rfl
  have ks := key_slice
  clear h hr hA ho hl hm r1 r4 r5
  go_enter Tryz.func51, Tryz.ntmps51
  go_wp2_with (first | (refine wpList_boxB rfl 29 (.tmp 0) rfl c.cells (val_agg c) ?_; intro w1 q hc1 hb1 hx1; have K1 := Lib.hid (And.intro hc1 (And.intro hb1 hx1)); have c0 := cf0 (K1.out.1); have c1 := cf1 (K1.out.1); have c2 := cf2 (K1.out.1); have ql := ld_cfg rt_rcfg (K1.out.1) HC.out; clear hc1 hb1 hx1))
  refine (HR.out _).mono ?_
  rintro e w2 ⟨rfl, hb⟩
  have K2 := Lib.hid (And.intro (K1.out.1.step hb) (bel_next K1.out.2.1 hb))
  have KA := Lib.hid (HA.out.step K2.out.2)
  clear hb ql c0 c1 c2
  have c0 := cf0 (K2.out.1)
  have c1 := cf1 (K2.out.1)
  have c2 := cf2 (K2.out.1)
  have ql := ld_cfg rt_rcfg (K2.out.1) HC.out
  obtain ⟨g2, o2, rfl, _, p, hp, _, hcp⟩ := (HO.out.step K2.out.2).at_ (show 0 < 4 by decide)
  obtain rfl : p = 4 := by unfold ordC at hp; simpa using hp.symm
  rw [Nat.add_zero] at hcp
  clear hp
  go_wp2_with fail
  refine (rdecrypt_any A (some ⟨q, 3, none⟩) d 16 c.k l _ (by exact cf_rb K2.out.1 HC.out.k) (by decide) (by exact KA.out)).mono ?_
  rintro e w4 ⟨A4, c4, rfl, ho, hb⟩
  have K4 := Lib.hid (And.intro (ho.base_le K2.out.2.size) (bel_next K2.out.2 hb))
  clear ho hb
  go_wp2_with fail
  go_ret2
  rw [HE.out]
  dsimp only
  rw [HWL.out, HW.out]
  exact ⟨A4, c4, rfl, K4.out.1, K4.out.2⟩
theorem rturn_any (c : Cfg) (h : c.ok) (back : Bool) (A C : Option Addr) (n d m : Nat) (l : List UInt8) (w : World) (hA : RB w w.heap.size A n l) (ho : ZL w w.heap.size C 4 (ordC back)) (hd : n ≤ d) (hn : n ≤ 1000000) :
    Calls Tryz.prog 51 #[c.val, .slice A n d, .slice C 4 m] w (RetBE (turnC c back l).1.length (turnC c back l).1 (turnC c back l).2 w) := by
  cases hr : rtB c
  · exact rturn_no c h back A C n d m l hr w hA ho hd hn
  by_cases hl : (l.length : Int) = c.s + c.n
  · obtain ⟨r1, _⟩ := rt_unf (rt_of hr)
    by_cases h1 : c.m = 1
    · cases back
      · exact rturn_1e c h false A C n d m l hr hl h1 rfl w hA ho hd hn
      · exact rturn_1d c h true A C n d m l hr hl h1 rfl w hA ho hd hn
    by_cases h2 : c.m = 2
    · exact rturn_2 c h back A C n d m l hr hl h2 w hA ho hd hn
    · exact rturn_0 c h back A C n d m l hr hl (by omega) w hA ho hd hn
  · exact rturn_len c h back A C n d m l hr hl w hA ho hd hn
set_option maxRecDepth 100000 in
set_option maxHeartbeats 4000000 in
theorem rmback_any (c : Cfg) (h : c.ok) (A : Option Addr) (n d : Nat) (l : List UInt8) (w : World) (hA : RB w w.heap.size A n l) (hd : n ≤ d) (hn : n ≤ 1000000) :
    Calls Tryz.prog 48 #[c.val, .slice A n d] w (RetBE (turnC c true l).1.length (turnC c true l).1 (turnC c true l).2 w) := by
  have HC := Lib.hid h
  have HA := Lib.hid hA
  have HRU := Lib.hid (fun (u : World) (C : Option Addr) (hu : RB u u.heap.size A n l) (ho : ZL u u.heap.size C 4 (ordC true)) => rturn_any c h true A C n d 4 l u hu ho hd hn)
  obtain ⟨t, ht⟩ : ∃ t, turnC c true l = t := ⟨_, rfl⟩
  rw [ht] at HRU ⊢
  clear h hA ht
  go_enter Tryz.func48, Tryz.ntmps48
  go_wp2_with (first | (refine wpList_boxB rfl 29 (.tmp 0) rfl c.cells (val_agg c) ?_; intro w1 q hc1 hb1 hx1; have K1 := Lib.hid (And.intro hc1 (And.intro hb1 hx1)); have c0 := cf0 (K1.out.1); have c1 := cf1 (K1.out.1); have c2 := cf2 (K1.out.1); have ql := ld_cfg rt_rcfg (K1.out.1) HC.out; clear hc1 hb1 hx1))
  have HB := Lib.hid (below_alloc w1 (.cells #[.int .i64 4, .int .i64 3, .int .i64 2, .int .i64 1] 3))
  refine (HRU.out _ _ (by exact HA.out.step (bel_next K1.out.2.1 HB.out)) (by exact ZL.lit w1 [4, 3, 2, 1] #[.int .i64 4, .int .i64 3, .int .i64 2, .int .i64 1] 4 w1.heap.size 3 rfl rfl rfl (by decide))).mono ?_
  rintro e w3 ⟨A3, c3, rfl, ho, hb⟩
  have K3 := Lib.hid (And.intro (ho.base_le (bel_next K1.out.2.1 HB.out).size) (bel_next (bel_next K1.out.2.1 HB.out) hb))
  clear ho hb
  go_wp2_with fail
  go_ret2
  exact ⟨A3, c3, rfl, K3.out.1, K3.out.2⟩
set_option maxRecDepth 100000 in
set_option maxHeartbeats 4000000 in
theorem mof_any (c : Cfg) (h : c.ok) (w : World) :
    Calls Tryz.prog 27 #[c.val] w fun e w' => e = .returned c.val ∧ Below w.heap.size w w' := by
  have HC := Lib.hid h
  have HBU := Lib.hid (of_built c.m c.s c.n c.k h.k)
  clear h
  go_enter Tryz.func27, Tryz.ntmps27
  go_wp2_with (first
    | (refine wpList_boxB rfl 35 (.tmp 0) rfl c.cells (val_agg c) ?_; intro w1 q hc1 hb1 hx1; have K1 := Lib.hid (And.intro hc1 (And.intro hb1 hx1)); clear hc1 hb1 hx1)
    | (refine wpList_newB rt_rcfg rfl rfl ?_; intro w2 q2 hc2 hb2 hx2; have K2 := Lib.hid (And.intro (K1.out.1.step hb2) (And.intro (bel_next K1.out.2.1 hb2) (And.intro hc2 (Nat.le_trans K1.out.2.1.size hx2)))); have c0 := cf0 K2.out.1; have c1 := cf1 K2.out.1; have c2 := cf2 K2.out.1; have qk := ld_key K2.out.1 HC.out; clear hc2 hb2 hx2)
    | (refine wpList_bld rfl 29 [(0, .tmp 4), (1, .tmp 6), (2, .tmp 8), (3, .tmp 10)] rfl [(0, .int .i64 c.m), (1, .int .i64 c.s), (2, .int .i64 c.n), (3, AV c.k)] rfl c.cells.toArray (by exact HBU.out) ?_)
    | (refine wpList_stB rt_rcfg rfl (.tmp 2) (.tmp 11) rfl q2 0 rfl zeroC.cells c.cells rfl (cells_one c) (by exact (Cfg.cells_len HC.out).trans zeroC_len.symm) (by exact K2.out.2.2.1) (by rw [zeroC_len]; decide) ?_; intro w3 hc3 ho3 hs3; have K3 := Lib.hid (And.intro hc3 (K2.out.2.1.trans (ho3.below (fun k hk => by rw [List.mem_singleton.1 hk]; exact K2.out.2.2.2) K2.out.2.1.size))); clear hc3 ho3 hs3))
  refine bodyPost_ret (res_rec rt_rcfg rfl _ _ q2 c.cells rfl (by have := K3.out.1; rwa [puts_whole _ _ ((Cfg.cells_len HC.out).trans zeroC_len.symm)] at this) ((Cfg.cells_len HC.out).trans zeroC_len.symm)) rfl ⟨by rw [val_agg], K3.out.2⟩
end Go.Proofs.YtkcchidklcnnnaaGreat
