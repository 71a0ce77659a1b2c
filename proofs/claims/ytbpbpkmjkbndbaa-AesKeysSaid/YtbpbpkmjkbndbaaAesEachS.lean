/- aes's each over a word, by an object's Sub. Condition: the object of tables is as New, or an earlier call, left it. -/
import Derived.Test.YtbpbpkmjkbndbaaAesWord
import Derived.Test.YtbpbpkmjkbndbaaFieldAt
import Derived.Test.YtbpbpkmjkbndbaaFieldAlive
import Derived.Test.YtbpbpkmjkbndbaaAesFn
namespace Go.Proofs.Ytbpbpkmjkbndbaa
open Go.RowKit
set_option linter.unusedVariables false

/-- The first k bytes replaced. -/
def eachUp (f : UInt8 → UInt8) (l : List UInt8) (k : Nat) : List UInt8 := (l.take k).map f ++ l.drop k
theorem eachUp_len (f : UInt8 → UInt8) (l : List UInt8) (k : Nat) : (eachUp f l k).length = l.length := by simp [eachUp]; omega
theorem eachUp_set (f : UInt8 → UInt8) (l : List UInt8) (k : Nat) (x : UInt8) (hx : l[k]? = some x) : (eachUp f l k).set k (f x) = eachUp f l (k + 1) := by
  have hk := (List.getElem?_eq_some_iff.1 hx).1
  apply List.ext_getElem?
  intro j
  unfold eachUp
  rw [List.getElem?_set, List.getElem?_append, List.getElem?_append]
  simp only [List.length_append, List.length_map, List.length_take, List.length_drop, List.getElem?_map, List.getElem?_take, List.getElem?_drop]
  by_cases e : k = j
  · subst e
    rw [if_pos rfl, if_pos (by omega), if_pos (by omega), if_pos (by omega), hx]; rfl
  · rw [if_neg e]
    by_cases h : j < k
    · rw [if_pos (by omega), if_pos h, if_pos (by omega), if_pos (by omega)]
    · rw [if_neg (by omega), if_neg (by omega)]
      congr 1; omega
theorem eachUp_all (f : UInt8 → UInt8) (l : List UInt8) : eachUp f l l.length = l.map f := by simp [eachUp]
theorem getX (l : List UInt8) (n k : Nat) (hl : l.length = n) (hk : k < n) : ∃ x, l[k]? = some x := ⟨l[k]'(by omega), List.getElem?_eq_getElem (by omega)⟩

set_option maxRecDepth 100000 in
set_option maxHeartbeats 2000000 in
theorem weachS (lo b : Nat) (t l : List UInt8) (d : Bool) (w : World) (hl : l.length = 4) (ht : 5 ≤ t.length) (h : Tab w lo b t d) :
    Calls Try.prog 53 #[AV l, .func (.func 44) #[.pointer (some ⟨b, 0, none⟩)] #[]] w (UseAt (AV (l.map subB)) lo b t d w) := by
  obtain ⟨a0, a1, a2, a3, rfl⟩ := list4 l hl
  obtain ⟨R, HR⟩ : ∃ R, Hid (R = AV ([a0, a1, a2, a3].map subB)) := ⟨_, Lib.hid rfl⟩
  obtain ⟨L, HL⟩ : ∃ L, Hid (L = [a0, a1, a2, a3]) := ⟨_, Lib.hid rfl⟩
  have HAT := Lib.hid (word_at [a0, a1, a2, a3] hl)
  have HT := Lib.hid ht
  have hbw := h.lt
  have HBW := Lib.hid hbw
  obtain ⟨G, HG⟩ : ∃ G, Hid (G = w.heap.size) := ⟨_, Lib.hid rfl⟩
  obtain ⟨W0, HW0⟩ : ∃ W0, Hid (W0 = (w.alloc (.cells #[.int .u8 (a0.toNat : Int), .int .u8 (a1.toNat : Int), .int .u8 (a2.toNat : Int), .int .u8 (a3.toNat : Int)] 47)).alloc (.cells #[.int .u8 0, .int .u8 0, .int .u8 0, .int .u8 0] 47)) := ⟨_, Lib.hid rfl⟩
  have hbel : Below w.heap.size w W0 := by rw [HW0.out]; exact (below_alloc w _).alloc (by simp) _
  have HBEL := Lib.hid hbel
  have HTB : Hid (Tab W0 lo b t d) := Lib.hid (h.below hbel)
  have HA0 : Hid (Ar W0 G 0 (eachUp subB L 0)) := Lib.hid (by
    rw [HW0.out, HG.out, HL.out]; exact (Ar.new w [a0, a1, a2, a3] _).alloc (by simp) _)
  have HA1 : Hid (Ar W0 (G + 1) 0 [0, 0, 0, 0]) := Lib.hid (by
    rw [HW0.out, HG.out]
    have := Ar.new (w.alloc (.cells #[.int .u8 (a0.toNat : Int), .int .u8 (a1.toNat : Int), .int .u8 (a2.toNat : Int), .int .u8 (a3.toNat : Int)] 47)) [0, 0, 0, 0] 47
    simpa [bvs, bv] using this)
  have HNO : Hid (¬ ∃ x : UInt8, W0.cell? ⟨G, 4, none⟩ = some (bv x)) := Lib.hid (by
    rw [HW0.out, HG.out, World.cell?_alloc_past _ _ _ (by simp), World.cell?_alloc_at _ _ _ _ rfl]
    simp)
  have HNO1 : Hid (¬ ∃ x : UInt8, W0.cell? ⟨G + 1, 4, none⟩ = some (bv x)) := Lib.hid (by
    rw [HW0.out, HG.out, World.cell?_alloc_at _ _ _ _ (by simp)]
    simp)
  clear h hl ht hbw hbel
  rw [← HR.out]
  show Calls _ _ #[.agg #[.int .u8 (a0.toNat : Int), .int .u8 (a1.toNat : Int), .int .u8 (a2.toNat : Int), .int .u8 (a3.toNat : Int)], _] _ _
  go_enter Try.func53, Try.ntmps53
  go_wp2_with fail
  rw [← HW0.out, ← HG.out]
  go_loopw [8] (fun i wr => ∃ (k : Nat) (d' : Bool), k ≤ 4 ∧ i = .int .i64 k ∧ Hid (Tab wr lo b t d') ∧ Hid (But b w wr) ∧ Hid (d = true → d' = true ∧ Below w.heap.size w wr) ∧ Hid (0 < k → d' = true) ∧ Hid (Ar wr G 0 (eachUp subB L k)) ∧ Hid (Ar wr (G + 1) 0 [0, 0, 0, 0]) ∧ Hid (¬ ∃ x : UInt8, wr.cell? ⟨G, 4, none⟩ = some (bv x)) ∧ Hid (¬ ∃ x : UInt8, wr.cell? ⟨G + 1, 4, none⟩ = some (bv x))) (fun i _ => 4 - (intOf i).toNat)
  case atStart => exact ⟨0, d, by omega, rfl, HTB, Lib.hid (But.of_below HBEL.out), Lib.hid (fun hd => ⟨hd, HBEL.out⟩), Lib.hid (fun h => absurd h (by omega)), HA0, HA1, HNO, HNO1⟩
  case round =>
    obtain ⟨k, d', hk, rfl, htb, hbut, hbl, hk0, ha, hth, hno, hnp⟩ := hrel
    clear HTB HBEL HA0 HA1 HNO HNO1
    by_cases hlt : k < 4
    · obtain ⟨x, hx⟩ := getX [a0, a1, a2, a3] 4 k rfl hlt
      have hat : ∀ W : World, (Instr.index 47 (.agg #[.int .u8 (a0.toNat : Int), .int .u8 (a1.toNat : Int), .int .u8 (a2.toNat : Int), .int .u8 (a3.toNat : Int)]) (.int .i64 (k : Int))).run Try.prog W = .ok (.int .u8 (x.toNat : Int)) W := HAT.out k hlt x hx
      have HX := Lib.hid hx
      have hGb : G ≠ b := by have := HBW.out; have := HG.out; omega
      clear hx
      go_wp2_with fail
      refine (at_sub lo b t d' x _ (by exact htb.out)).mono ?_
      rintro e w1 ⟨rfl, hb1, ht1, hp1⟩
      have hGw : G < wr.heap.size := ha.out.lt (by rw [eachUp_len, HL.out]; exact Nat.succ_pos _)
      have ha1 : Ar w1 G 0 (eachUp subB L k) := ha.out.block (hb1.block G hGw hGb)
      obtain ⟨y, hy⟩ : ∃ y, (eachUp subB L k)[k]? = some y := getX _ 4 k (by rw [eachUp_len, HL.out]; rfl) hlt
      have hc := ha1.cell hy
      have hf := ha1.free (j := k) (by rw [eachUp_len, HL.out]; exact hlt)
      rw [Nat.zero_add] at hc hf
      have HA := Lib.hid ha1
      have HB1 := Lib.hid hb1
      have HT1 := Lib.hid ht1
      have HP1 := Lib.hid hp1
      clear ha1 hb1 ht1 hp1 hy
      unfold bv at hc
      go_wp2_with fail
      go_roundw
      case rel =>
        have hs := HA.out.set (k := k) (by rw [eachUp_len, HL.out]; exact hlt) (subB x)
        rw [eachUp_set subB L k x (by rw [HL.out]; exact HX.out), Nat.zero_add] at hs
        have hno1 : ¬ ∃ x : UInt8, w1.cell? ⟨G, 4, none⟩ = some (bv x) := by rw [HB1.out.cell (p := ⟨G, 4, none⟩) hGw hGb]; exact hno.out
        refine ⟨k + 1, true, by omega, by go_num, Lib.hid (HT1.out.apart HT.out hno1 hGb (fun q hq => Below.heap_setCell w1 _ _ q hq)), Lib.hid ((hbut.out.trans HB1.out).setCell (.inr (by rw [HG.out]; exact Nat.le_refl _)) _), Lib.hid (fun hd => ⟨rfl, ?_⟩), Lib.hid (fun _ => rfl), Lib.hid hs, Lib.hid ?_, Lib.hid ?_, Lib.hid ?_⟩
        · have h1 := hbl.out hd
          exact (h1.2.trans ((HP1.out h1.1).mono h1.2.size)).setCell (by rw [HG.out]; exact Nat.le_refl _) _
        · have hne : G + 1 ≠ b := by have := HBW.out; have := HG.out; omega
          exact (hth.out.block (HB1.out.block (G + 1) (hth.out.lt (by simp)) hne)).setCell (by show G ≠ G + 1; omega) _
        · rw [World.cell?_setCell_other _ _ _ _ (by intro e; injection e with _ e3; omega)]
          exact hno1
        · have hne : G + 1 ≠ b := by have := HBW.out; have := HG.out; omega
          rw [World.cell?_setCell_other _ _ _ _ (by intro e; injection e with e3 _; omega), HB1.out.cell (p := ⟨G + 1, 4, none⟩) (hth.out.lt (by simp)) hne]
          exact hnp.out
      case measure => simp [intOf]; omega
    · obtain rfl : k = 4 := by omega
      have hal := ha.out
      rw [show eachUp subB L 4 = [subB a0, subB a1, subB a2, subB a3] by rw [HL.out]; rfl] at hal
      obtain ⟨c0, c1, c2, c3⟩ := hal.four0
      obtain ⟨u0, u1, u2, u3⟩ := hth.out.four0
      obtain ⟨s0, s1, s2, s3⟩ := hth.out.fours0 rfl
      clear hal
      go_wp2_with fail
      have hfin := hth.out.whole [subB a0, subB a1, subB a2, subB a3] rfl
      have hne : G ≠ b := by have := HBW.out; have := HG.out; omega
      have hne1 : G + 1 ≠ b := by have := HBW.out; have := HG.out; omega
      refine bodyPost_ret (v := R) (by rw [HR.out]; exact res_cell rfl _ _ (G + 1) 4 _ [subB a0, subB a1, subB a2, subB a3] rfl hfin up_word sz_word) rfl ⟨rfl, ?_, ?_, ?_⟩
      · exact (((hbut.out.setCell (p := ⟨G + 1, 0, none⟩) (.inr (by rw [HG.out]; exact Nat.le_succ _)) _).setCell (p := ⟨G + 1, 1, none⟩) (.inr (by rw [HG.out]; exact Nat.le_succ _)) _).setCell (p := ⟨G + 1, 2, none⟩) (.inr (by rw [HG.out]; exact Nat.le_succ _)) _).setCell (p := ⟨G + 1, 3, none⟩) (.inr (by rw [HG.out]; exact Nat.le_succ _)) _
      · have h := htb.out
        rw [hk0.out (by omega)] at h
        exact h.apart HT.out hnp.out hne1 (fun q hq => heap_setCells (G + 1) q hq (bvs [subB a0, subB a1, subB a2, subB a3]) 0 wr)
      · intro hd
        have h := (hbl.out hd).2
        exact below_setCells h (b := G + 1) (by rw [HG.out]; exact Nat.le_succ _) 0 (bvs [subB a0, subB a1, subB a2, subB a3])
end Go.Proofs.Ytbpbpkmjkbndbaa
