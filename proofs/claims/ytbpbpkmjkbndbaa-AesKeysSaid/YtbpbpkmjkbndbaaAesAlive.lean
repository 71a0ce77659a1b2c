/- The check that stands at the head of each of layer 3's statements answers true. No condition. -/
import Derived.Test.YtbpbpkmjkbndbaaAesNew
import Derived.Test.YtbpbpkmjkbndbaaAesKeys
import Derived.Test.YtbpbpkmjkbndbaaUseBytes
namespace Go.Proofs.Ytbpbpkmjkbndbaa
open Go.RowKit
set_option linter.unusedVariables false

theorem RB.away {w : World} {B n cb : Nat} {A : Option Addr} {l : List UInt8} (h : RB w B A n l) (hn : 0 < n) (hB : B ≤ cb) : Away A cb := fun g o e => by
  obtain ⟨g2, o2, e2, hg, _⟩ := h.2 hn
  rw [e] at e2
  injection e2 with e2
  injection e2 with e3
  omega
theorem RB.over {w w' : World} {B n cb : Nat} {A : Option Addr} {l : List UInt8} (h : RB w B A n l) (hb : But cb w w') (hB : B ≤ w.heap.size) (hc : B ≤ cb) : RB w' B A n l :=
  h.but hb hB fun g o hn e => by
    obtain ⟨g2, o2, e2, hg, _⟩ := h.2 hn
    rw [e] at e2
    injection e2 with e2
    injection e2 with e3
    omega
theorem OwnB.away {w : World} {base n c cb : Nat} {A : Option Addr} {l : List UInt8} (h : OwnB w base A n c l) (hb : cb < base) : Away A cb := fun g o e => by
  subst e
  have := World.ownsRow.lt h g rfl
  omega
theorem RB.aside {w w' : World} {n cb : Nat} {A : Option Addr} {l : List UInt8} (h : RB w w.heap.size A n l) (hb : But cb w w') (ha : Away A cb) : RB w' w'.heap.size A n l :=
  (h.but hb (Nat.le_refl _) fun g o _ e => ha g o e).more hb.size

def aliveK : List UInt8 := [0, 1, 2, 3, 4, 5, 6, 7, 8, 9, 10, 11, 12, 13, 14, 15]
def aliveT : List UInt8 := [0x00, 0x11, 0x22, 0x33, 0x44, 0x55, 0x66, 0x77, 0x88, 0x99, 0xaa, 0xbb, 0xcc, 0xdd, 0xee, 0xff]
def aliveE : List UInt8 := [0x69, 0xc4, 0xe0, 0xd8, 0x6a, 0x7b, 0x04, 0x30, 0xd8, 0xcd, 0xb7, 0x80, 0x70, 0xb4, 0xc5, 0x5a]
set_option maxRecDepth 100000 in
theorem alive_enc : encL aliveK tableL aliveT = aliveE := by decide +kernel
theorem alive_dec : decL aliveK tableL backL aliveE = aliveT := by rw [← alive_enc]; exact dec_enc aliveK aliveT rfl rfl

attribute [local irreducible] wsW keyUpTo keyF lastW turn0 encUp decUp encL decL
set_option maxRecDepth 100000 in
set_option maxHeartbeats 4000000 in
theorem alive_any (w : World) :
    Calls Try.prog 8 #[] w fun e w' => e = .returned (.bool true) ∧ Below w.heap.size w w' := by
  obtain ⟨W0, HW0⟩ : ∃ W0, Hid (W0 = ((w.alloc (.cells (bvs aliveK).toArray 5)).alloc (.cells (bvs aliveT).toArray 5)).alloc (.cells (bvs aliveE).toArray 5)) := ⟨_, Lib.hid rfl⟩
  obtain ⟨G, HG⟩ : ∃ G, Hid (G = w.heap.size) := ⟨_, Lib.hid rfl⟩
  have HS : Hid (W0.heap.size = G + 3) := Lib.hid (by rw [HW0.out, HG.out]; simp)
  have HB0 : Hid (Below w.heap.size w W0) := Lib.hid (by rw [HW0.out]; exact ((below_alloc w _).alloc (by simp) _).alloc (by simp; omega) _)
  have HK : Hid (RB W0 W0.heap.size (some ⟨G, 0, none⟩) 16 aliveK) := Lib.hid (by
    have h : Ar W0 G 0 aliveK := by rw [HW0.out, HG.out]; exact ((Ar.new w aliveK _).alloc (by simp) _).alloc (by simp; omega) _
    exact h.rb (by rw [HS.out]; omega))
  have HT : Hid (RB W0 W0.heap.size (some ⟨G + 1, 0, none⟩) 16 aliveT) := Lib.hid (by
    have h : Ar W0 (G + 1) 0 aliveT := by rw [HW0.out, HG.out]; exact (Ar.new1 _ _ (by simp) aliveT _).alloc (by simp) _
    exact h.rb (by rw [HS.out]; omega))
  have HE : Hid (RB W0 W0.heap.size (some ⟨G + 1 + 1, 0, none⟩) 16 aliveE) := Lib.hid (by
    have h : Ar W0 (G + 1 + 1) 0 aliveE := by rw [HW0.out, HG.out]; exact Ar.new1 _ _ (by simp) aliveE _
    exact h.rb (by rw [HS.out]; omega))
  go_enter Try.func8, Try.ntmps8
  go_wp2_with fail
  show Calls _ _ #[.slice (some ⟨w.heap.size, 0, none⟩) 16 16] (((w.alloc (.cells (bvs aliveK).toArray 5)).alloc (.cells (bvs aliveT).toArray 5)).alloc (.cells (bvs aliveE).toArray 5)) _
  rw [← HW0.out, ← HG.out]
  refine (anew_any 16 _ aliveK _ HK.out (by omega)).mono ?_
  rintro e w1 ⟨cb, b, lo, rfl, hb1, hcb, hbb, hob⟩
  have HB1 := Lib.hid hb1
  have HCB := Lib.hid hcb
  have HO := Lib.hid hob
  clear hb1 hcb hbb hob
  go_wp2_with fail
  refine (anew_bad 15 16 _ _ (by omega)).mono ?_
  rintro e w2 ⟨rfl, rfl⟩
  go_wp2_with fail
  refine (encrypt_any cb b lo 0 16 aliveK aliveT _ _ (by exact HO.out) (by omega) (by exact (HT.out.below HB1.out).more HB1.out.size) (by omega) (by exact HT.out.away (by omega) HCB.out)).mono ?_
  rw [alive_enc]
  rintro e w2 ⟨A2, c2, rfl, ho2, hb2, hob2⟩
  have HO2 := Lib.hid ho2
  have HB2 := Lib.hid hb2
  have HO1 := Lib.hid hob2
  have HA2 : Hid (Away A2 cb) := Lib.hid (ho2.away HO.out.lt)
  have HC2 : Hid (16 ≤ c2 ∧ c2 ≤ maxLen) := Lib.hid ho2.cap
  clear ho2 hb2 hob2
  go_wp2_with fail
  refine (decrypt_any cb b lo 1 c2 aliveK aliveE _ _ (by exact HO1.out) (by omega) (by exact HO2.out.rb) HC2.out.1 HA2.out).mono ?_
  rw [alive_dec]
  rintro e w3 ⟨A3, c3, rfl, ho3, hb3, hob3⟩
  have HO3 := Lib.hid ho3
  have HB3 := Lib.hid hb3
  have HOB3 := Lib.hid hob3
  clear ho3 hb3 hob3
  go_wp2_with fail
  refine (encrypt_bad cb 15 16 _ _ (by omega)).mono ?_
  rintro e w4 ⟨rfl, rfl⟩
  have HBT : Hid (But cb w1 w3) := Lib.hid (HB2.out.trans HB3.out)
  have HT3 : Hid (RB w3 w3.heap.size (some ⟨G + 1, 0, none⟩) 16 aliveT) := Lib.hid (((HT.out.below HB1.out).over HBT.out HB1.out.size HCB.out).more (Nat.le_trans HB1.out.size HBT.out.size))
  have HE3 : Hid (RB w3 w3.heap.size (some ⟨G + 1 + 1, 0, none⟩) 16 aliveE) := Lib.hid (((HE.out.below HB1.out).over HBT.out HB1.out.size HCB.out).more (Nat.le_trans HB1.out.size HBT.out.size))
  have HA3 : Hid (RB w3 w3.heap.size A2 16 aliveE) := Lib.hid (HO2.out.rb.aside HB3.out HA2.out)
  have HC3 : Hid (16 ≤ c3 ∧ c3 ≤ maxLen) := Lib.hid HO3.out.cap
  go_wp2_with fail
  refine (al_same A2 (some ⟨G + 1 + 1, 0, none⟩) 16 c2 16 16 aliveE aliveE _ (by exact HA3.out) (by exact HE3.out) (by unfold maxLen; omega) (by unfold maxLen; omega) true (by simp)).mono ?_
  rintro e w4 ⟨rfl, hb4⟩
  have HB4 := Lib.hid hb4
  clear hb4
  go_wp2_with fail
  refine (al_same A3 (some ⟨G + 1, 0, none⟩) 16 c3 16 16 aliveT aliveT _ (by exact (HO3.out.rb.below HB4.out).more HB4.out.size) (by exact (HT3.out.below HB4.out).more HB4.out.size) (by unfold maxLen; omega) (by unfold maxLen; omega) true (by simp)).mono ?_
  rintro e w5 ⟨rfl, hb5⟩
  have HB5 : Hid (Below w3.heap.size w3 w5) := Lib.hid (HB4.out.trans (hb5.mono HB4.out.size))
  clear hb5
  go_wp2_with fail
  refine (keysr_any cb b lo 2 aliveK _ (by exact HOB3.out.below HB5.out)).mono ?_
  rintro e w6 ⟨A6, c6, vs, rb, cp, rfl, _, _, hb6⟩
  have HB6 : Hid (Below w3.heap.size w3 w6) := Lib.hid (HB5.out.trans (hb6.mono HB5.out.size))
  clear hb6
  go_wp2_with fail
  refine (done_any cb b lo 2 aliveK _ (by exact HOB3.out.below HB6.out)).mono ?_
  rintro e w7 ⟨rfl, rfl⟩
  go_wp2_with fail
  go_ret
  refine ⟨rfl, ?_⟩
  have h0 := HB0.out
  have h1 := h0.trans (HB1.out.mono h0.size)
  have hle : w.heap.size ≤ cb := Nat.le_trans h0.size HCB.out
  exact (h1.trans (HBT.out.below hle HO.out.lt)).trans (HB6.out.mono (Nat.le_trans h1.size HBT.out.size))
end Go.Proofs.Ytbpbpkmjkbndbaa
