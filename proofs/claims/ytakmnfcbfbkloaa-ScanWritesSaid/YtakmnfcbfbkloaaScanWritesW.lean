/- ScanWrites' walk: every row of parts is put as the document says. No condition. -/
import Derived.Test.YtakmnfcbfbkloaaScanPutW
namespace Go.Proofs.Ytakmnfcbfbkloaa
open Go.RowKit
set_option linter.unusedVariables false
set_option linter.unusedSimpArgs false

/-- What the walk carries: both writers. -/
structure MW (v : World) (x y : Nat) (A D : Option Addr) (s t : Int × List UInt8) (w : World) : Prop where
  bel : Below v.heap.size v w
  lx : v.heap.size ≤ x
  ly : v.heap.size ≤ y
  wr : WrR w x v.heap.size A s
  wq : WrQ w y v.heap.size D t
  dis : ∀ g ∈ blkO A, g ∉ blkO D
section
variable {v w w' : World} {x y : Nat} {A D : Option Addr} {s t s' t' : Int × List UInt8} {e : Ending}
theorem MW.step (h : MW v x y A D s t w) (hb : Below w.heap.size w w') : MW v x y A D s t w' :=
  ⟨bel_next h.bel hb, h.lx, h.ly, h.wr.step hb, h.wq.step hb, h.dis⟩
theorem MW.ret (h : MW v x y A D s t w) (k : RetPut x y v.heap.size v.heap.size A D s' t' w e w') : e = .returned (.bool true) ∧ ∃ A' D', MW v x y A' D' s' t' w' := by
  obtain ⟨he, A', D', h1, h2, h3, h4, h5, h6⟩ := k
  refine ⟨he, A', D', h.bel.trans (h1.below (fun k hk => ?_) h.bel.size), h.lx, h.ly, h5, h6, h4⟩
  rcases List.mem_cons.1 hk with rfl | hk
  · exact h.lx
  rcases List.mem_cons.1 hk with rfl | hk
  · exact h.ly
  rcases List.mem_append.1 hk with hk | hk
  · exact (h.wr.own k hk).2.1
  · exact (h.wq.own k hk).2.1
/-- What came in lies in no writer. -/
theorem MW.awayA (h : MW v x y A D s t w) {B : Option Addr} {n : Nat} {l : List UInt8} (r : RB v v.heap.size B n l) : 0 < n → ∀ g o, B = some ⟨g, o, none⟩ → g ∉ blkO A := fun hn g o e hg => by
  have h1 := r.lt hn e
  have h2 := (h.wr.own g hg).2.1
  omega
theorem MW.awayD (h : MW v x y A D s t w) {B : Option Addr} {n : Nat} {l : List UInt8} (r : RB v v.heap.size B n l) : 0 < n → ∀ g o, B = some ⟨g, o, none⟩ → g ∉ blkO D := fun hn g o e hg => by
  have h1 := r.lt hn e
  have h2 := (h.wq.own g hg).2.1
  omega
end
theorem doneS_len (s : Int × List UInt8) : (doneS s).1.length ≤ s.2.length := by
  unfold doneS
  split
  · exact Nat.le_refl _
  · simp
attribute [local irreducible] putP doneS encP

set_option maxRecDepth 100000 in
set_option maxHeartbeats 4000000 in
theorem ScanWrites_walk (A0 : Option Addr) (n0 c0 : Nat) (l0 : List Pt) (w : World) (h0 : PL w w.heap.size A0 n0 l0) (m0 : n0 ≤ c0 ∧ c0 ≤ maxLen) :
    Calls Try.prog 4 #[.slice A0 n0 c0] w fun e w' => e = .returned (.bool true) ∧ Below w.heap.size w w' := by
  have H0 := Lib.hid (And.intro h0 m0)
  have b0 : n0 ≤ 9223372036854775807 := by have := m0; unfold maxLen at this; omega
  clear h0 m0
  go_enter Try.func4, Try.ntmps4
  go_wp2_with fail
  refine (alive_any _).mono ?_
  rintro e w1 ⟨rfl, hb1⟩
  have HB1 := Lib.hid hb1
  clear hb1
  go_wp2_with fail
  refine (great_any A0 n0 c0 l0 _ (by exact (H0.out.1.below HB1.out).more HB1.out.size) (Nat.le_trans H0.out.2.1 H0.out.2.2)).mono ?_
  rintro e w2 ⟨v, rfl, rfl, hv⟩
  rcases v with _ | _
  case true =>
    clear hv
    go_wp2_with fail
    go_ret
    exact ⟨rfl, HB1.out⟩
  case false =>
    have HG := Lib.hid (hv rfl)
    have h60 := (hv rfl).1
    clear hv
    go_wp2_with fail
    refine (write_any _ w.heap.size HB1.out.size).mono ?_
    rintro e w2 ⟨x, rfl, hx, hb, hw⟩
    have HW := Lib.hid (And.intro (Nat.le_trans HB1.out.size hx) hw)
    have HB2 := Lib.hid (bel_next HB1.out hb)
    clear hx hb hw HB1
    go_wp2_with fail
    have K0 : Hid (MW w x w2.heap.size none none (0, []) (0, []) (w2.alloc (.cells #[.slice none 0 0, .int .i64 0] 44))) := Lib.hid
      ⟨bel_next HB2.out (below_alloc _ _), HW.out.1, HB2.out.size, HW.out.2.step (below_alloc _ _), ⟨0, 0, Two.new _ _ _ _, OwnB.nil_ _ _⟩, fun g hg => by simp [blkO] at hg⟩
    obtain ⟨y, HY⟩ : ∃ y, Hid (w2.heap.size = y) := ⟨_, Lib.hid rfl⟩
    rw [HY.out] at K0 ⊢
    go_loopw [5, 6, 7, 8, 9] (fun i _ _ _ _ wr => ∃ (k : Nat) (A D : Option Addr) (s : Int × List UInt8), k ≤ n0 ∧ i = .int .i64 k ∧ s.2.length ≤ 400 * k ∧ Hid (MW w x y A D s s wr)) (fun i _ _ _ _ _ => n0 - (intOf i).toNat)
    case atStart => exact ⟨0, _, _, _, by omega, rfl, by simp, K0⟩
    case round =>
      obtain ⟨k, A, D, s, hk, rfl, hs, K⟩ := hrel
      clear K0 HB2 HW
      by_cases hlt : k < n0
      · obtain ⟨b, o, p, rfl, hb, hp, hok, hc⟩ := (H0.out.1.below K.out.bel).at_ hlt
        have h300 : p.b.length ≤ 300 := HG.out.2 p (List.mem_of_getElem? hp)
        have HOK := Lib.hid (H0.out.1.2.1 p (List.mem_of_getElem? hp))
        have HC := Lib.hid hc
        have hlen := putP_len p h300 s
        obtain ⟨t, HT⟩ : ∃ t, Hid (t = putP p s) := ⟨_, Lib.hid rfl⟩
        rw [← HT.out] at hlen
        clear hp hok hc hb
        go_wp2_with (first | (refine wpList_ldPt rfl (.tmp 29) rfl b (o + k * 4) rfl p (by exact HC.out) ?_))
        refine (put_any x y w.heap.size w.heap.size A D s s p _ K.out.wr K.out.wq K.out.dis ((HOK.out.below K.out.bel).more K.out.bel.size) (K.out.awayA HOK.out.rb) (K.out.awayD HOK.out.rb) K.out.bel.size K.out.bel.size (by omega) (by omega) h300).mono ?_
        rw [← HT.out]
        intro e w3 kk
        obtain ⟨rfl, A3, D3, k3⟩ := K.out.ret kk
        have K3 := Lib.hid k3
        clear kk k3
        go_wp2_with fail
        refine (wdone_any x w.heap.size A3 t _ K3.out.wr (by omega)).mono ?_
        have hdl := doneS_len t
        obtain ⟨r, HR⟩ : ∃ r, Hid (r = doneS t) := ⟨_, Lib.hid rfl⟩
        rw [← HR.out] at hdl ⊢
        rintro e w4 ⟨A5, c5, rfl, ho, hb⟩
        have K4 := Lib.hid (K3.out.step hb)
        have R4 := Lib.hid ho.rb
        clear ho hb K3
        go_wp2_with fail
        refine (ydone_any y w.heap.size D3 t _ K4.out.wq (by omega)).mono ?_
        rw [← HR.out]
        rintro e w5 ⟨A6, c6, rfl, ho, hb⟩
        have K5 := Lib.hid (K4.out.step hb)
        have R5 := Lib.hid (And.intro (R4.out.step hb) ho.rb)
        clear ho hb K4 R4
        go_wp2_with fail
        refine (same_any A5 A6 r.1.length c5 r.1.length c6 _ _ r.1 r.1 _ R5.out.1 R5.out.2 (by unfold maxLen; omega) (by unfold maxLen; omega)).mono ?_
        rw [beq_self_eq_true]
        rintro e w6 ⟨rfl, d, rfl⟩
        have K6 := Lib.hid (K5.out.step (below_drewN (Below.refl _ _) d))
        go_wp2_with fail
        go_roundw
        case rel => exact ⟨k + 1, A3, D3, t, by omega, by go_num, by omega, K6⟩
        case measure => simp [intOf]; omega
      · have hkn : k = n0 := by omega
        subst hkn
        go_wp2_with fail
        go_ret
        exact ⟨rfl, K.out.bel⟩
end Go.Proofs.Ytakmnfcbfbkloaa
