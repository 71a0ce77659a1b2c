/- aes's Encrypt and Decrypt. Condition: the cipher is as New, or an earlier call, left it; the block's cells are readable and not the cipher's own. (Written by wip/tools/gen_use.py.) -/
import Derived.Test.YtmpidjadpcpbfaaGreatAesCrypt
import Derived.Test.YtmpidjadpcpbfaaGreatAesBytes
import Derived.Test.YtmpidjadpcpbfaaGreatAesInv
import Derived.Laws.Tables
namespace Go.Proofs.YtmpidjadpcpbfaaGreat
attribute [local irreducible] wsW keyUpTo keyF lastW turn0 encUp decUp
open Go.RowKit
set_option linter.unusedVariables false

/-- A cipher in memory: its key, how many blocks. -/
structure Ob (cb b lo : Nat) (key : List UInt8) (n : Nat) (w : World) : Prop where
  cf : Cf cb b (.int .i64 (n : Int)) w (keysF key tableL)
  tab : Tab w lo b bys true
  len : key.length = 16
  few : n ≤ 1000000000
theorem Ob.below {cb b lo n : Nat} {key : List UInt8} {w w' : World} (h : Ob cb b lo key n w) (hb : Below w.heap.size w w') : Ob cb b lo key n w' := ⟨h.cf.below hb, h.tab.below hb, h.len, h.few⟩
theorem Ob.lt {cb b lo n : Nat} {key : List UInt8} {w : World} (h : Ob cb b lo key n w) : cb < w.heap.size := h.cf.lt
/-- One block more. -/
theorem Ob.more {cb b lo n : Nat} {key : List UInt8} {w : World} (h : Ob cb b lo key n w) (hn : n + 1 ≤ 1000000000) : Ob cb b lo key (n + 1) (w.setCell ⟨cb, 177, none⟩ (.int .i64 ((n : Int) + 1))) :=
  ⟨h.cf.count _, h.tab.apartJ (by decide) 0 (by omega) h.cf.nob h.cf.ne (fun q _ hq => Below.heap_setCell w _ _ q hq), h.len, hn⟩
/-- What was done to another cipher. -/
theorem Ob.but {cb b lo n c2 : Nat} {key : List UInt8} {w w' : World} (h : Ob cb b lo key n w) (hb : But c2 w w') (h2 : ¬ ∃ x : UInt8, w.cell? ⟨c2, 0, none⟩ = some (bv x)) (hc : c2 ≠ cb) (hcb : c2 ≠ b) : Ob cb b lo key n w' :=
  ⟨h.cf.block (hb.block cb h.lt (fun e => hc e.symm)), h.tab.apartJ (by decide) 0 (by omega) h2 hcb (fun q hl hq => hb.block q hl hq), h.len, h.few⟩
/-- What was done to a block that stood ahead of the cipher. -/
theorem Ob.under {cb b lo n g : Nat} {key : List UInt8} {w w' : World} (h : Ob cb b lo key n w) (hb : But g w w') (hg : g < lo) (hc : g < cb) : Ob cb b lo key n w' :=
  ⟨h.cf.block (hb.block cb h.lt (by omega)), h.tab.keep (fun q m f hq hm hcl => by
      have hl := hcl.lt hm
      exact fun j hj => ⟨(hb.cell (p := ⟨q, j, none⟩) hl (by show q ≠ g; omega)).trans (hcl j hj).1, (hb.frozen (p := ⟨q, j, none⟩) hl (by show q ≠ g; omega)).trans (hcl j hj).2⟩), h.len, h.few⟩
/-- The slice's block is not c. -/
def Away (A : Option Addr) (c : Nat) : Prop := ∀ g o, A = some ⟨g, o, none⟩ → g ≠ c
/-- A call that gives a block's bytes, new, and counts one more. -/
def RetC (l key : List UInt8) (cb b lo n : Nat) (w : World) (e : Ending) (w' : World) : Prop :=
  ∃ A c, e = .returned (.tuple #[.slice A 16 c, .int .i64 0]) ∧ OwnB w' w.heap.size A 16 c l ∧ But cb w w' ∧ Ob cb b lo key (n + 1) w'
theorem add_one (n : Nat) (hn : n ≤ 1000000000) (W : World) : (Op.intArith .add .i64 (n : Int) 1).run Tryz.prog W = .ok (.int .i64 ((n : Int) + 1)) W := by
  have h := IntWalk.i64_in ((n : Int) + 1) (by omega)
  simp [go_sem, h]
theorem RB.count {w : World} {B n cb : Nat} {A : Option Addr} {l : List UInt8} (h : RB w B A n l) (ha : Away A cb) (k : Nat) (v : Value) : RB (w.setCell ⟨cb, k, none⟩ v) B A n l :=
  ⟨h.1, fun hn => by
    obtain ⟨g, o, e, hg, hc⟩ := h.2 hn
    refine ⟨g, o, e, hg, fun i hi => ?_⟩
    rw [World.cell?_setCell_other _ _ _ _ (fun e2 => ha g o e (by injection e2 with e3 _; exact e3.symm))]
    exact hc i hi⟩

set_option maxRecDepth 100000 in
set_option maxHeartbeats 1000000 in
theorem run_enc (cb b lo n c0 : Nat) (key l : List UInt8) (A : Option Addr) (w : World) (h : Ob cb b lo key n w) (hn : n + 1 ≤ 1000000000) (hb : RB w w.heap.size A 16 l) (hc0 : 16 ≤ c0) (ha : Away A cb) :
    Calls Tryz.prog 38 #[.pointer (some ⟨cb, 0, none⟩), .slice A 16 c0, .func (.func 39) #[.pointer (some ⟨cb, 0, none⟩)] #[]] w (RetC (encL key tableL l) key cb b lo n w) := by
  have HO := Lib.hid h
  have HN := Lib.hid hn
  have HB := Lib.hid hb
  have HA := Lib.hid ha
  have HC := Lib.hid hc0
  have hl := hb.len
  obtain ⟨R, HR⟩ : ∃ R, Hid (R = encL key tableL l) := ⟨_, Lib.hid rfl⟩
  have HL16 : Hid (R.length = 16) := Lib.hid (by rw [HR.out]; exact encL_len key tableL l h.len hl)
  rw [← HR.out]
  have HL := Lib.hid hl
  clear h hn hb ha hc0 hl
  go_enter Tryz.func38, Tryz.ntmps38
  go_wp2_with fail
  refine (sy_add64 ⟨cb, 177, none⟩ (n : Int) 1 ((n : Int) + 1) _ (by exact HO.out.cf.cnt) (by exact HO.out.cf.free) (add_one n HO.out.few _)).mono ?_
  rintro e w1 ⟨rfl, rfl⟩
  have HO1 := Lib.hid (HO.out.more HN.out)
  obtain ⟨w1, HW1⟩ : ∃ w1, Hid (w1 = w.setCell ⟨cb, 177, none⟩ (.int .i64 ((n : Int) + 1))) := ⟨_, Lib.hid rfl⟩
  rw [← HW1.out] at HO1 ⊢
  have hs1 : w1.heap.size = w.heap.size := by rw [HW1.out]; simp
  have HB1 : Hid (RB w1 w1.heap.size A 16 l) := Lib.hid (by rw [hs1, HW1.out]; exact HB.out.count HA.out 177 _)
  have HBU : Hid (But cb w w1) := Lib.hid (by rw [HW1.out]; exact (But.refl cb w).self 177 _)
  have HS1 := Lib.hid hs1
  clear hs1
  go_wp2_with fail
  refine (fill_any A c0 l _ (by exact HB1.out) HC.out).mono ?_
  rintro e w2 ⟨rfl, hb2⟩
  have HB2 := Lib.hid hb2
  clear hb2
  go_wp2_with fail
  refine (enc_any cb lo b _ key l _ HO1.out.len HL.out (by exact (HO1.out.below HB2.out).tab) (by exact (HO1.out.below HB2.out).cf)).mono ?_
  rw [← HR.out]
  rintro e w3 ⟨rfl, hb3⟩
  have HB3 : Hid (Below w1.heap.size w1 w3) := Lib.hid (HB2.out.trans (hb3.mono HB2.out.size))
  clear hb3
  go_wp2_with fail
  refine (sbytes_any R _ HL16.out).mono ?_
  rintro e w4 ⟨A4, c4, rfl, ho4, hb4⟩
  have HB4 : Hid (Below w1.heap.size w1 w4) := Lib.hid (HB3.out.trans (hb4.mono HB3.out.size))
  have HO4 : Hid (OwnB w4 w.heap.size A4 16 c4 R) := Lib.hid (ho4.base_le (by rw [← HS1.out]; exact HB3.out.size))
  clear ho4 hb4
  go_wp2_with fail
  go_ret2
  exact ⟨A4, c4, rfl, HO4.out, HBU.out.trans (But.of_below HB4.out), HO1.out.below HB4.out⟩
set_option maxRecDepth 100000 in
set_option maxHeartbeats 1000000 in
theorem run_enc_bad (cb n c0 : Nat) (l : List UInt8) (A : Option Addr) (w : World) (hn : n ≠ 16) :
    Calls Tryz.prog 38 #[.pointer (some ⟨cb, 0, none⟩), .slice A n c0, .func (.func 39) #[.pointer (some ⟨cb, 0, none⟩)] #[]] w fun e w' => e = .returned (.tuple #[.slice none 0 0, .int .i64 11]) ∧ w = w' := by
  have hd : ((n : Int) == 16) = false := by rw [beq_eq_false_iff_ne]; omega
  go_enter Tryz.func38, Tryz.ntmps38
  go_wp2_with fail
  go_ret2
  exact ⟨rfl, rfl⟩
set_option maxRecDepth 100000 in
set_option maxHeartbeats 1000000 in
theorem encrypt_any (cb b lo n c0 : Nat) (key l : List UInt8) (A : Option Addr) (w : World) (h : Ob cb b lo key n w) (hn : n + 1 ≤ 1000000000) (hb : RB w w.heap.size A 16 l) (hc0 : 16 ≤ c0) (ha : Away A cb) :
    Calls Tryz.prog 19 #[.pointer (some ⟨cb, 0, none⟩), .slice A 16 c0] w (RetC (encL key tableL l) key cb b lo n w) := by
  have HR := Lib.hid (run_enc cb b lo n c0 key l A w h hn hb hc0 ha)
  have hmf : ∀ (fn : Fn) (first cap : Array Value) (w : World), (Instr.makeFunc fn first cap).run Tryz.prog w = .ok (.func fn first cap) w := fun _ _ _ _ => rfl
  clear h hn hb hc0 ha
  go_enter Tryz.func19, Tryz.ntmps19
  go_wp2_with fail
  refine HR.out.mono ?_
  rintro e w1 ⟨A1, c1, rfl, ho, hbu, hob⟩
  have HO := Lib.hid ho
  have HBU := Lib.hid hbu
  have HOB := Lib.hid hob
  clear ho hbu hob
  go_wp2_with fail
  go_ret2
  exact ⟨A1, c1, rfl, HO.out, HBU.out, HOB.out⟩
set_option maxRecDepth 100000 in
set_option maxHeartbeats 1000000 in
theorem encrypt_bad (cb n c0 : Nat) (A : Option Addr) (w : World) (hn : n ≠ 16) :
    Calls Tryz.prog 19 #[.pointer (some ⟨cb, 0, none⟩), .slice A n c0] w fun e w' => e = .returned (.tuple #[.slice none 0 0, .int .i64 11]) ∧ w = w' := by
  have hmf : ∀ (fn : Fn) (first cap : Array Value) (w : World), (Instr.makeFunc fn first cap).run Tryz.prog w = .ok (.func fn first cap) w := fun _ _ _ _ => rfl
  have HN := Lib.hid hn
  clear hn
  go_enter Tryz.func19, Tryz.ntmps19
  go_wp2_with fail
  refine (run_enc_bad cb n c0 [] A _ HN.out).mono ?_
  rintro e w1 ⟨rfl, rfl⟩
  go_wp2_with fail
  go_ret2
  exact ⟨rfl, rfl⟩
end Go.Proofs.YtmpidjadpcpbfaaGreat

/- aes's New and Keys. Condition: the key's cells are readable. -/
namespace Go.Proofs.YtmpidjadpcpbfaaGreat
attribute [local irreducible] wsW keyUpTo keyF lastW turn0 encUp decUp
open Go.RowKit
set_option linter.unusedVariables false

/-- The cells of a cipher as New builds it, its tables at v. -/
def cipCells (v : Value) : Array Value := #[v] ++ (Array.replicate 176 (.int .u8 0) ++ #[.int .i64 0])
theorem cip_built (p : Nat) : Tryz.prog.built 69 [(0, .pointer (some ⟨p, 0, none⟩))] = some (cipCells (.pointer (some ⟨p, 0, none⟩))) := by kernel_rfl
theorem wpList_cip {w : World} {ops : Array Oper} {rest : List Oper} {o : Oper} {a : Act} {Q : Exit → Act → World → Prop} (hgd : o.guard = none) (x : Operand) (hop : o.op = .build 69 #[(0, x)])
    (p : Nat) (hx : a.eval x = .pointer (some ⟨p, 0, none⟩)) (h : wpList Tryz.prog ops Q rest (a.put o.dst (.agg (cipCells (.pointer (some ⟨p, 0, none⟩))))) w) : wpList Tryz.prog ops Q (o :: rest) a w := by
  refine wpList_plain hgd fun K hK => ?_
  unfold Oper.wp execOp
  simp only [hop, List.map_toArray, List.map_cons, List.map_nil, hx, Sem.run_bind, run_build w _ #[(0, .pointer (some ⟨p, 0, none⟩))] _ (cip_built p), Result.andThen_ok]
  exact hK _ _ h
set_option maxRecDepth 100000 in
theorem cip_at (v : Value) (j : Nat) (hj : j < 178) : (cipCells v)[j]? = some (if j = 0 then v else if j < 177 then .int .u8 0 else .int .i64 0) := by
  unfold cipCells
  by_cases h0 : j = 0
  · rw [if_pos h0, h0, Array.getElem?_append_left (by show 0 < 1; omega)]; rfl
  · rw [if_neg h0, Array.getElem?_append_right (by show 1 ≤ j; omega)]
    have hs : (#[v] : Array Value).size = 1 := rfl
    have hr : (Array.replicate 176 (Value.int .u8 0)).size = 176 := Array.size_replicate
    by_cases h1 : j < 177
    · rw [if_pos h1, Array.getElem?_append_left (by omega), Array.getElem?_replicate, if_pos (by omega)]
    · rw [if_neg h1, Array.getElem?_append_right (by omega)]
      rw [show j - (#[v] : Array Value).size - (Array.replicate 176 (Value.int .u8 0)).size = 0 by rw [hs, hr]; omega]; rfl
set_option maxRecDepth 100000 in
theorem cip_cf (w : World) (p : Nat) (hp : p < w.heap.size) : Cf w.heap.size p (.int .i64 0) (w.alloc (.cells (cipCells (.pointer (some ⟨p, 0, none⟩))) 69)) (List.replicate 176 0) where
  ptr := by rw [World.cell?_alloc_at _ _ _ _ rfl, cip_at _ 0 (by omega)]; rfl
  ar := Ar.mk (fun j x hx => by
      have hj : j < 176 := by have := (List.getElem?_eq_some_iff.1 hx).1; rw [List.length_replicate] at this; exact this
      have hx0 : x = 0 := by
        rw [List.getElem?_replicate, if_pos hj] at hx
        injection hx with hx; exact hx.symm
      rw [World.cell?_alloc_at _ _ _ _ rfl, cip_at _ _ (by omega), if_neg (by omega), if_pos (by omega), hx0]; rfl) (fun j hj => World.frozen?_alloc_at _ _ _ _ rfl)
  cnt := by rw [World.cell?_alloc_at _ _ _ _ rfl, cip_at _ 177 (by omega)]; rfl
  free := World.frozen?_alloc_at _ _ _ _ rfl
  ne := by omega
  len := List.length_replicate
/-- A call that gives a new cipher. -/
def RetN (key : List UInt8) (w : World) (e : Ending) (w' : World) : Prop :=
  ∃ cb b lo, e = .returned (.tuple #[.pointer (some ⟨cb, 0, none⟩), .int .i64 0]) ∧ Below w.heap.size w w' ∧ w.heap.size ≤ cb ∧ (w.heap.size ≤ b ∧ w.heap.size ≤ lo) ∧ Ob cb b lo key 0 w'

set_option maxRecDepth 100000 in
set_option maxHeartbeats 1000000 in
theorem anew_bad (n c0 : Nat) (A : Option Addr) (w : World) (hn : n ≠ 16) :
    Calls Tryz.prog 18 #[.slice A n c0] w fun e w' => e = .returned (.tuple #[.pointer none, .int .i64 11]) ∧ w = w' := by
  have hd : ((n : Int) == 16) = false := by rw [beq_eq_false_iff_ne]; omega
  go_enter Tryz.func18, Tryz.ntmps18
  go_wp2_with fail
  go_ret2
  exact ⟨rfl, rfl⟩
set_option maxRecDepth 100000 in
set_option maxHeartbeats 1000000 in
theorem anew_any (c0 : Nat) (A : Option Addr) (key : List UInt8) (w : World) (h : RB w w.heap.size A 16 key) (hc0 : 16 ≤ c0) :
    Calls Tryz.prog 18 #[.slice A 16 c0] w (RetN key w) := by
  have HB := Lib.hid h
  have HC := Lib.hid hc0
  have HK := Lib.hid h.len
  clear h hc0
  go_enter Tryz.func18, Tryz.ntmps18
  go_wp2_with fail
  refine (new_any _ 7 7 _ [1, 2, 3, 9, 11, 13, 14] _ (by exact RB.lit w [1, 2, 3, 9, 11, 13, 14] _ 7 _ rfl rfl rfl) (by simp) (by omega)).mono ?_
  rintro e w1 ⟨b, rfl, hb1, ht1⟩
  have hlo : w.heap.size ≤ b := by
    obtain ⟨f, h1, _⟩ := ht1
    simp at h1; omega
  have HLO := Lib.hid hlo
  have HB1 : Hid (Below w.heap.size w w1) := Lib.hid ((below_alloc w _).trans (hb1.mono (by simp)))
  obtain ⟨lo, HLOE⟩ : ∃ lo, Hid (lo = (w.alloc (.cells #[.int .u8 1, .int .u8 2, .int .u8 3, .int .u8 9, .int .u8 11, .int .u8 13, .int .u8 14] 5)).heap.size) := ⟨_, Lib.hid rfl⟩
  have HT1 : Hid (Tab w1 lo b bys false) := Lib.hid (by rw [HLOE.out]; exact ht1)
  have HCF := Lib.hid (cip_cf w1 b HT1.out.lt)
  have HT2 : Hid (Tab (w1.alloc (.cells (cipCells (.pointer (some ⟨b, 0, none⟩))) 69)) lo b bys false) := Lib.hid (HT1.out.below (below_alloc w1 _))
  have HB2 : Hid (Below w.heap.size w (w1.alloc (.cells (cipCells (.pointer (some ⟨b, 0, none⟩))) 69))) := Lib.hid (HB1.out.alloc HB1.out.size _)
  clear hlo hb1 ht1
  go_wp2_with (refine wpList_cip rfl (.tmp 9) rfl b rfl ?_)
  refine (fill_any A c0 key _ (by exact (HB.out.below HB2.out).more HB2.out.size) HC.out).mono ?_
  rintro e w2 ⟨rfl, hb3⟩
  have HB3 := Lib.hid hb3
  clear hb3
  go_wp2_with fail
  refine (expand_any w.heap.size w1.heap.size lo b (.int .i64 0) key false _ HK.out ⟨HB1.out.size, HLO.out⟩ (by exact HT2.out.below HB3.out) (by exact HCF.out.below HB3.out)).mono ?_
  rintro e w3 ⟨rfl, hb4, ht4, hc4⟩
  have HB4 := Lib.hid hb4
  have HT4 := Lib.hid ht4
  have HC4 := Lib.hid hc4
  clear hb4 ht4 hc4
  go_wp2_with fail
  go_ret2
  exact ⟨_, b, lo, rfl, (HB2.out.trans (HB3.out.mono HB2.out.size)).trans HB4.out, HB1.out.size, ⟨HLO.out, by rw [HLOE.out]; simp⟩, ⟨HC4.out, HT4.out, HK.out, by omega⟩⟩
end Go.Proofs.YtmpidjadpcpbfaaGreat

