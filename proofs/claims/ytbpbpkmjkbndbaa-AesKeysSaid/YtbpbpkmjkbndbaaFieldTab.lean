/- field's tables: what an object of tables holds in memory, and how compute fills it. Conditions: the object is as New left it, its lock is held. -/
import Derived.Test.YtbpbpkmjkbndbaaFieldRow
import Derived.Test.YtbpbpkmjkbndbaaFieldSub
import Derived.Test.YtbpbpkmjkbndbaaBut
import Derived.Deep.RegionWith
namespace Go.Proofs.Ytbpbpkmjkbndbaa
open Go.RowKit
set_option linter.unusedVariables false

/-- The slice (A, n, _) holds the bytes l in a block of its own, not below lo, not b. -/
def By (w : World) (lo b : Nat) (A : Option Addr) (n : Nat) (l : List UInt8) : Prop :=
  l.length = n ∧ (0 < n → ∃ g, A = some ⟨g, 0, none⟩ ∧ lo ≤ g ∧ g ≠ b ∧ Cells w g n (fun j => bv (l.getD j 0)))
/-- A cell of the row of products: nothing yet, or the address of the row of byte y's. -/
def RowOk (w : World) (lo b : Nat) (y : UInt8) (v : Value) : Prop :=
  v = .pointer none ∨ ∃ p, v = .pointer (some ⟨p, 0, none⟩) ∧ lo ≤ p ∧ p ≠ b ∧ Cells w p 256 (prodAt y 256)
/-- What an object's cells lead to. -/
def Rest (w : World) (lo b : Nat) (f : Nat → Value) (l : List UInt8) : Prop :=
  ∃ A n c, f 0 = .slice A n c ∧ n ≤ 140737488355328 ∧ By w lo b A n l ∧ ∀ y, y < 256 → RowOk w lo b (UInt8.ofNat y) (f (517 + y))
/-- Other memory than block b, from lo on, is as it was. -/
def Held (lo b : Nat) (w w' : World) : Prop := ∀ g n f, lo ≤ g → g ≠ b → 0 < n → Cells w g n f → Cells w' g n f
section
variable {w w' : World} {lo b : Nat} {f f' : Nat → Value} {l : List UInt8}
theorem held_set (w : World) (lo b k : Nat) (v : Value) : Held lo b w (w.setCell ⟨b, k, none⟩ v) := fun g n f _ hg _ h => h.other (fun e => hg e.symm) v
theorem held_below (h : Below w.heap.size w w') : Held lo b w w' := fun g n f _ _ hn hc => hc.below h (hc.lt hn)
theorem held_drew (w : World) (lo b q : Nat) : Held lo b w (w.drewN q) := fun g n f _ _ _ h => h
theorem Held.trans {w1 : World} (h : Held lo b w w1) (h' : Held lo b w1 w') : Held lo b w w' := fun g n f h1 h2 h3 hc => h' g n f h1 h2 h3 (h g n f h1 h2 h3 hc)
theorem RowOk.keep {y : UInt8} {v : Value} (h : RowOk w lo b y v) (hk : Held lo b w w') : RowOk w' lo b y v := by
  rcases h with h | ⟨p, h1, h2, h3, h4⟩
  · exact .inl h
  · exact .inr ⟨p, h1, h2, h3, hk p 256 _ h2 h3 (by omega) h4⟩
theorem Rest.keep (h : Rest w lo b f l) (hk : Held lo b w w') (e0 : f' 0 = f 0) (e1 : ∀ y, y < 256 → f' (517 + y) = f (517 + y)) : Rest w' lo b f' l := by
  obtain ⟨A, n, c, h1, h2, ⟨h3, h4⟩, h5⟩ := h
  refine ⟨A, n, c, e0.trans h1, h2, ⟨h3, fun hn => ?_⟩, fun y hy => ?_⟩
  · obtain ⟨g, g1, g2, g3, g4⟩ := h4 hn
    exact ⟨g, g1, g2, g3, hk g n _ g2 g3 hn g4⟩
  · rw [e1 y hy]
    exact (h5 y hy).keep hk
theorem Rest.step (h : Rest w lo b f l) (hk : Held lo b w w') (x : Nat) (hx : x < 256) (v : Value) (hv : RowOk w' lo b (UInt8.ofNat x) v) : Rest w' lo b (upd f (517 + x) v) l := by
  obtain ⟨A, n, c, h1, h2, ⟨h3, h4⟩, h5⟩ := h
  refine ⟨A, n, c, (upd_other _ _ _ _ (by omega)).trans h1, h2, ⟨h3, fun hn => ?_⟩, fun y hy => ?_⟩
  · obtain ⟨g, g1, g2, g3, g4⟩ := h4 hn
    exact ⟨g, g1, g2, g3, hk g n _ g2 g3 hn g4⟩
  · by_cases e : y = x
    · subst e; rw [upd_same]; exact hv
    · rw [upd_other _ _ _ _ (by omega)]
      exact (h5 y hy).keep hk
end
/-- What the sub and unsub cells hold behind k rounds; the others are as f had them. -/
def Signs (f f1 : Nat → Value) (k : Nat) : Prop :=
  (∀ j, j < 5 → f1 j = f j) ∧ (∀ j, 517 ≤ j → f1 j = f j) ∧ (∀ a, a < k → f1 (5 + a) = bv (subB (UInt8.ofNat a))) ∧ (∀ a, a < k → f1 (261 + (subB (UInt8.ofNat a)).toNat) = bv (UInt8.ofNat a))
theorem ofNat_inj (a b : Nat) (ha : a < 256) (hb : b < 256) (h : UInt8.ofNat a = UInt8.ofNat b) : a = b := by
  have := congrArg UInt8.toNat h
  simp at this
  omega
theorem Signs.zero (f : Nat → Value) : Signs f f 0 := ⟨fun _ _ => rfl, fun _ _ => rfl, fun a h => by omega, fun a h => by omega⟩
theorem Signs.next {f f1 : Nat → Value} {k : Nat} (h : Signs f f1 k) (hk : k < 256) :
    Signs f (upd (upd f1 (5 + k) (bv (subB (UInt8.ofNat k)))) (261 + (subB (UInt8.ofNat k)).toNat) (bv (UInt8.ofNat k))) (k + 1) := by
  have hs := (subB (UInt8.ofNat k)).toNat_lt
  refine ⟨fun j hj => ?_, fun j hj => ?_, fun a ha => ?_, fun a ha => ?_⟩
  · rw [upd_other _ _ _ _ (by omega), upd_other _ _ _ _ (by omega)]; exact h.1 j hj
  · rw [upd_other _ _ _ _ (by omega), upd_other _ _ _ _ (by omega)]; exact h.2.1 j hj
  · rw [upd_other _ _ _ _ (by omega)]
    by_cases e : a = k
    · subst e; rw [upd_same]
    · rw [upd_other _ _ _ _ (by omega)]; exact h.2.2.1 a (by omega)
  · by_cases e : a = k
    · subst e; rw [upd_same]
    · have ha2 := (subB (UInt8.ofNat a)).toNat_lt
      have hne : (subB (UInt8.ofNat a)).toNat ≠ (subB (UInt8.ofNat k)).toNat := fun e2 => by
        have := subB_inj _ _ (UInt8.toNat_inj.1 e2)
        exact e (ofNat_inj a k (by omega) (by omega) this)
      rw [upd_other _ _ _ _ (by omega), upd_other _ _ _ _ (by omega)]
      exact h.2.2.2 a (by omega)

/-- The tables are filled, and the rows of l's bytes are there. -/
def Full (f : Nat → Value) (l : List UInt8) : Prop :=
  (∀ a : UInt8, f (5 + a.toNat) = bv (subB a)) ∧ (∀ a : UInt8, f (261 + a.toNat) = bv (unsubB a)) ∧ ∀ x, x ∈ l → f (517 + x.toNat) ≠ .pointer none
theorem full_of {f f1 f2 : Nat → Value} {l : List UInt8} (h : Signs f f1 256) (h2 : ∀ j, j < 517 → f2 j = f1 j) (h3 : ∀ x, x ∈ l → f2 (517 + x.toNat) ≠ .pointer none) : Full f2 l := by
  refine ⟨fun a => ?_, fun a => ?_, h3⟩
  · have ha := a.toNat_lt
    rw [h2 _ (by omega), h.2.2.1 a.toNat (by omega)]
    simp
  · have ha := a.toNat_lt
    have hu := (unsubB a).toNat_lt
    have := h.2.2.2 (unsubB a).toNat (by omega)
    rw [show UInt8.ofNat (unsubB a).toNat = unsubB a by simp, sub_unsub] at this
    rw [h2 _ (by omega), this]
theorem Full.upd4 {f : Nat → Value} {l : List UInt8} {k : Nat} {v : Value} (h : Full f l) (hk : k < 5 := by omega) : Full (upd f k v) l :=
  ⟨fun a => (upd_other _ _ _ _ (by omega)).trans (h.1 a), fun a => (upd_other _ _ _ _ (by omega)).trans (h.2.1 a), fun x hx => by rw [upd_other _ _ _ _ (by omega)]; exact h.2.2 x hx⟩
/-- What compute leaves. -/
def Computed (w : World) (lo b : Nat) (f : Nat → Value) (l : List UInt8) (w' : World) : Prop :=
  But b w w' ∧ ∃ f', Cells w' b 773 f' ∧ Rest w' lo b f' l ∧ Full f' l ∧ f' 1 = f 1 ∧ f' 2 = f 2 ∧ f' 4 = .int .i64 1

set_option maxRecDepth 100000 in
set_option maxHeartbeats 2000000 in
theorem compute_any (b lo : Nat) (l : List UInt8) (f : Nat → Value) (w : World) (hlo : lo ≤ b) (hc : Cells w b 773 f) (hr : Rest w lo b f l) (hm : f 4 = .int .i64 0) :
    Calls Try.prog 58 #[.pointer (some ⟨b, 0, none⟩)] w (RetR (Computed w lo b f l)) := by
  have HC := Lib.hid hc
  have HR := Lib.hid hr
  have HM := Lib.hid hm
  clear hc hr hm
  go_enter Try.func58, Try.ntmps58
  go_wp2_with fail
  go_loopw [2, 3, 6] (fun _ _ i wr => ∃ (k : Nat) (f1 : Nat → Value), k ≤ 256 ∧ i = .int .i64 k ∧ Hid (Cells wr b 773 f1) ∧ Hid (Rest wr lo b f1 l) ∧ Hid (Signs f f1 k) ∧ Hid (But b w wr)) (fun _ _ i _ => 256 - (intOf i).toNat)
  case atStart => exact ⟨0, f, by omega, rfl, HC, HR, Lib.hid (Signs.zero f), Lib.hid (But.refl _ _)⟩
  case round =>
    obtain ⟨k, f1, hk, rfl, hc1, hr1, hs1, hb1⟩ := hrel
    by_cases hlt : k < 256
    · obtain ⟨s, HS⟩ : ∃ s, Hid (s = subB (UInt8.ofNat k)) := ⟨_, Lib.hid rfl⟩
      have hsl := s.toNat_lt
      have hsi := byte_lt s
      have e : (k : Int) = ((UInt8.ofNat k).toNat : Int) := by simp; omega
      have HE := Lib.hid e
      clear e
      go_wp2_with fail
      rw [HE.out]
      refine (sign_any _ _).mono ?_
      rintro e w1 ⟨rfl, hb2⟩
      rw [← HS.out, ← HE.out]
      have hc2 := hc1.out.below hb2 (hc1.out.lt (by omega))
      have h1 := hc2.cell (show 5 + k < 773 by omega)
      have h2 := hc2.free (show 5 + k < 773 by omega)
      have h3 := hc2.cell (show 261 + s.toNat < 773 by omega)
      have h4 := hc2.free (show 261 + s.toNat < 773 by omega)
      have HC2 := Lib.hid hc2
      clear hc2
      go_wp2
      go_roundw
      case rel =>
        have c1 := (HC2.out.set (show 5 + k < 773 by omega) (bv s)).set (show 261 + s.toNat < 773 by omega) (bv (UInt8.ofNat k))
        have hn := hs1.out.next hlt
        have r1 := (hr1.out.keep (held_below hb2) rfl (fun _ _ => rfl))
        have r2 := r1.keep (held_set w1 lo b (5 + k) (bv s)) (f' := upd f1 (5 + k) (bv s)) (upd_other _ _ _ _ (by omega)) (fun y hy => upd_other _ _ _ _ (by omega))
        have r3 := r2.keep (held_set _ lo b (261 + s.toNat) (bv (UInt8.ofNat k))) (f' := upd (upd f1 (5 + k) (bv s)) (261 + s.toNat) (bv (UInt8.ofNat k))) (upd_other _ _ _ _ (by omega)) (fun y hy => upd_other _ _ _ _ (by omega))
        have hbl := hb1.out.trans (But.of_below hb2)
        rw [← HS.out] at hn
        have ek : (Value.int .u8 (k : Int)) = bv (UInt8.ofNat k) := by unfold bv; rw [← HE.out]
        rw [ek]
        exact ⟨k + 1, _, by omega, by go_num, Lib.hid c1, Lib.hid r3, Lib.hid hn, Lib.hid ((hbl.self _ _).self _ _)⟩
      case measure => simp [intOf]; omega
    · obtain rfl : k = 256 := by omega
      obtain ⟨A, n, c, e0, hn, hby, htm⟩ := hr1.out
      have h0 := hc1.out.cell (show 0 < 773 by omega)
      rw [e0] at h0
      have HE0 := Lib.hid e0
      have HBY := Lib.hid hby
      clear e0 hby htm hlt
      have e256 : ((256 : Nat) : Int) = 256 := rfl
      rw [e256]
      clear e256
      go_wp2
      go_loopw [5, 31] (fun _ i wr2 => ∃ (k : Nat) (f2 : Nat → Value), k ≤ n ∧ i = .int .i64 k ∧ Hid (Cells wr2 b 773 f2) ∧ Hid (Rest wr2 lo b f2 l) ∧ Hid (∀ j, j < 517 → f2 j = f1 j) ∧ Hid (∀ x, x ∈ l.take k → f2 (517 + x.toNat) ≠ .pointer none) ∧ Hid (But b w wr2)) (fun _ i _ => n - (intOf i).toNat)
      case atStart => exact ⟨0, f1, by omega, rfl, hc1, hr1, Lib.hid (fun _ _ => rfl), Lib.hid (by simp), hb1⟩
      case round =>
        obtain ⟨k, f2, hk2, rfl, hc2, hr2, hs2, hx2, hb2⟩ := hrel
        by_cases hlt : k < n
        · obtain ⟨A', n', c', e0, hn', ⟨hll, hby2⟩, htm⟩ := hr2.out
          have e1 := (hs2.out 0 (by omega)).symm.trans e0
          rw [HE0.out] at e1
          injection e1 with ea en ec
          subst ea
          subst en
          subst ec
          obtain ⟨g, rfl, hg1, hg2, hcl⟩ := hby2 (by omega)
          have hcx := hcl.cell hlt
          obtain ⟨x, hx⟩ : ∃ x, l[k]? = some x := ⟨l[k]'(by omega), List.getElem?_eq_getElem (by omega)⟩
          have egd : l.getD k 0 = x := by simp [List.getD, hx]
          rw [egd] at hcx
          have hxi := byte_lt x
          have hxl := x.toNat_lt
          have hrow := htm x.toNat hxl
          rw [show UInt8.ofNat x.toNat = x by simp] at hrow
          have hq := hc2.out.cell (show 517 + x.toNat < 773 by omega)
          have hqf := hc2.out.free (show 517 + x.toNat < 773 by omega)
          have HX := Lib.hid hx
          have HROW := Lib.hid hrow
          unfold bv at hcx
          clear hx hrow hby2 htm e0 egd hcl hll
          have hrow := HROW.out
          rcases hrow with h | ⟨p, h, h1, h2, h3⟩
          · rw [h] at hq
            have HH := Lib.hid h
            clear h
            go_wp2_with fail
            have hbl : b < wr.heap.size := hc2.out.lt (by omega)
            go_region_with (go_at_call 64; refine (products_any x _).mono ?_; rintro e w1 ⟨rfl, hbp, hsp, hcp⟩; have hq1 : w1.cell? ⟨b, 517 + x.toNat, none⟩ = some (.pointer none) := (hbp.cell (p := ⟨b, 517 + x.toNat, none⟩) hbl).trans hq; have hqf1 : w1.frozen? ⟨b, 517 + x.toNat, none⟩ = false := (hbp.frozen (p := ⟨b, 517 + x.toNat, none⟩) hbl).trans hqf; have HSP := Lib.hid hsp; clear hsp)
            go_wp2
            go_roundw
            case rel =>
              have hbl2 : b < w1.heap.size := by rw [HSP.out]; exact Nat.lt_succ_of_lt hbl
              have k1 : Held lo b wr w1 := Held.trans (w1 := wr.drew) (fun _ _ _ _ _ _ hh => hh.drew) (held_below hbp)
              have k2 := k1.trans (held_set w1 lo b (517 + x.toNat) (.pointer (some ⟨wr.heap.size, 0, none⟩)))
              have c1 := (hc2.out.drew.below hbp hbl).set (show 517 + x.toNat < 773 by omega) (.pointer (some ⟨wr.heap.size, 0, none⟩))
              have hlo2 : lo ≤ wr.heap.size := by omega
              have cp := hcp.other (a := ⟨b, 517 + x.toNat, none⟩) (show b ≠ wr.heap.size by omega) (.pointer (some ⟨wr.heap.size, 0, none⟩))
              refine ⟨k + 1, _, by omega, by go_num, Lib.hid c1, Lib.hid (hr2.out.step k2 x.toNat hxl _ (.inr ⟨wr.heap.size, rfl, hlo2, by omega, ?_⟩)), Lib.hid (fun j hj => (upd_other _ _ _ _ (by omega)).trans (hs2.out j hj)), Lib.hid (fun y hy => ?_), Lib.hid ((hb2.out.drew.trans (But.of_below hbp)).self _ _)⟩
              · simpa using cp
              · rw [take_snoc HX.out] at hy
                by_cases e : y = x
                · subst e; rw [upd_same]; simp
                · rw [upd_other _ _ _ _ (fun e2 => e (UInt8.toNat_inj.1 (by omega)))]
                  refine hx2.out y ?_
                  simpa [e] using hy
            case measure => simp [intOf]; omega
          · rw [h] at hq
            have HH := Lib.hid h
            have HC3 := Lib.hid h3
            clear h h3
            go_wp2
            go_roundw
            case rel =>
              refine ⟨k + 1, f2, by omega, by go_num, hc2, hr2, hs2, Lib.hid (fun y hy => ?_), hb2⟩
              rw [take_snoc HX.out] at hy
              by_cases e : y = x
              · subst e; rw [HH.out]; simp
              · refine hx2.out y ?_
                simpa [e] using hy
            case measure => simp [intOf]; omega
        · obtain rfl : k = n := by omega
          have hm4 := hc2.out.cell (show 4 < 773 by omega)
          have hz4 := hc2.out.free (show 4 < 773 by omega)
          rw [hs2.out 4 (by omega), hs1.out.1 4 (by omega), HM.out] at hm4
          have hfull := full_of hs1.out hs2.out (l := l) (fun x hx => hx2.out x (by rw [List.take_of_length_le (by have := HBY.out.1; omega)]; exact hx))
          have HF := Lib.hid hfull
          have e1 := (hs2.out 1 (by omega)).trans (hs1.out.1 1 (by omega))
          have e2 := (hs2.out 2 (by omega)).trans (hs1.out.1 2 (by omega))
          have HE1 := Lib.hid e1
          have HE2 := Lib.hid e2
          clear hfull e1 e2
          have hadd : ∀ W : World, (Op.intArith .add .i64 0 1).run Try.prog W = .ok (.int .i64 1) W := fun W => by simp [go_sem]; rfl
          go_wp2_with fail
          refine (sy_add64 ⟨b, 4, none⟩ 0 1 1 _ hm4 hz4 (hadd _)).mono ?_
          rintro e w1 ⟨rfl, rfl⟩
          go_wp2_with fail
          go_end0
          exact ⟨rfl, (hb2.out.self _ _), _, hc2.out.set (show 4 < 773 by omega) _, (hr2.out.keep (held_set wr lo b 4 (.int .i64 1)) (upd_other _ _ _ _ (by omega)) (fun y hy => upd_other _ _ _ _ (by omega))), HF.out.upd4, (upd_other _ _ _ _ (by omega)).trans HE1.out, (upd_other _ _ _ _ (by omega)).trans HE2.out, upd_same _ _ _⟩
end Go.Proofs.Ytbpbpkmjkbndbaa
