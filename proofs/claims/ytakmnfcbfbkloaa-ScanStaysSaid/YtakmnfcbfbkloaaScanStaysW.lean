/- ScanStays' walk: a reader with an error keeps it, reads nought and stays; a writer with one puts nothing more. No condition. -/
import Derived.Test.YtakmnfcbfbkloaaScanAsk
import Derived.Test.YtakmnfcbfbkloaaScanPutW
import Derived.Test.YtakmnfcbfbkloaaScanPure
namespace Go.Proofs.Ytakmnfcbfbkloaa
open Go.RowKit
set_option linter.unusedVariables false
set_option linter.unusedSimpArgs false

theorem RdR.self {w : World} {x : Nat} {s : Int × List UInt8} (h : RdR w x s) : ∃ cs, w.heap[x]? = some (.cells cs 66 (0, 0)) := by
  obtain ⟨A, n, c, h1, _⟩ := h
  exact ⟨_, h1⟩
theorem RdQ.self {w : World} {x : Nat} {s : Int × List UInt8} (h : RdQ w x s) : ∃ cs, w.heap[x]? = some (.cells cs 31 (0, 0)) := by
  obtain ⟨A, n, c, h1, _⟩ := h
  exact ⟨_, h1⟩
/-- What the walk carries in its first half: the reader, the writer that waits. -/
structure SC (v : World) (x z : Nat) (s : Int × List UInt8) (w : World) : Prop where
  bel : Below v.heap.size v w
  lx : v.heap.size ≤ x
  lz : v.heap.size ≤ z
  r : RdR w x s
  wr : WrR w z v.heap.size none (0, [])
section
variable {v w w' : World} {x y z : Nat} {s s' : Int × List UInt8}
theorem SC.step (h : SC v x z s w) (hb : Below w.heap.size w w') : SC v x z s w' :=
  ⟨bel_next h.bel hb, h.lx, h.lz, h.r.step hb, h.wr.step hb⟩
theorem SC.off {t : Int × List UInt8} (h : SC v x z s w) (hq : RdQ w y t) (ly : v.heap.size ≤ y) (ho : Oth [x, y] w w') (hr : RdR w' x s') : SC v x z s' w' :=
  ⟨h.bel.trans (ho.below (fun k hk => by
    simp only [List.mem_cons, List.not_mem_nil, or_false] at hk
    rcases hk with rfl | rfl
    · exact h.lx
    · exact ly) h.bel.size), h.lx, h.lz, hr, h.wr.oth ho (fun hm => by
    simp only [List.mem_cons, List.not_mem_nil, or_false] at hm
    rcases hm with hm | hm
    · exact typ_ne h.wr.self h.r.self (by decide) hm
    · exact typ_ne h.wr.self hq.self (by decide) hm) (fun g hg => by simp [blkO] at hg)⟩
theorem SC.one (h : SC v x z s w) (ho : Oth [x] w w') (hr : RdR w' x s') : SC v x z s' w' :=
  ⟨h.bel.trans (ho.below (fun k hk => by
    simp only [List.mem_cons, List.not_mem_nil, or_false] at hk
    rw [hk]; exact h.lx) h.bel.size), h.lx, h.lz, hr, h.wr.oth ho (fun hm => by
    simp only [List.mem_cons, List.not_mem_nil, or_false] at hm
    exact typ_ne h.wr.self h.r.self (by decide) hm) (fun g hg => by simp [blkO] at hg)⟩
end
attribute [local irreducible] putP doneS encP askS numS bytesS variS shortS longS restS endS

set_option maxRecDepth 100000 in
set_option maxHeartbeats 4000000 in
theorem ScanStays_walk (A0 : Option Addr) (n0 c0 : Nat) (l0 : List UInt8) (A1 : Option Addr) (n1 c1 : Nat) (l1 : List (Int × Int)) (A2 : Option Addr) (n2 c2 : Nat) (l2 : List Pt) (w : World) (h0 : RB w w.heap.size A0 n0 l0) (m0 : n0 ≤ c0 ∧ c0 ≤ maxLen) (h1 : AL w w.heap.size A1 n1 l1) (m1 : n1 ≤ c1 ∧ c1 ≤ maxLen) (h2 : PL w w.heap.size A2 n2 l2) (m2 : n2 ≤ c2 ∧ c2 ≤ maxLen) :
    Calls Try.prog 6 #[.slice A0 n0 c0, .slice A1 n1 c1, .slice A2 n2 c2] w fun e w' => e = .returned (.bool true) ∧ Below w.heap.size w w' := by
  have H0 := Lib.hid (And.intro h0 m0)
  have H1 := Lib.hid (And.intro h1 m1)
  have H2 := Lib.hid (And.intro h2 m2)
  have b0 : n0 ≤ 9223372036854775807 := by have := m0; unfold maxLen at this; omega
  have b1 : n1 ≤ 9223372036854775807 := by have := m1; unfold maxLen at this; omega
  have b2 : n2 ≤ 9223372036854775807 := by have := m2; unfold maxLen at this; omega
  clear h0 h1 h2 m0 m1 m2
  by_cases g0 : 3000 < n0
  · have d0 : decide (3000 < (n0 : Int)) = true := decide_eq_true (by omega)
    go_enter Try.func6, Try.ntmps6
    go_wp2_with fail
    refine (alive_any _).mono ?_
    rintro e w1 ⟨rfl, hb1⟩
    go_wp2_with fail
    go_ret
    exact ⟨rfl, hb1⟩
  have d0 : decide (3000 < (n0 : Int)) = false := decide_eq_false (by omega)
  by_cases g1 : 100 < n1
  · have d1 : decide (100 < (n1 : Int)) = true := decide_eq_true (by omega)
    go_enter Try.func6, Try.ntmps6
    go_wp2_with fail
    refine (alive_any _).mono ?_
    rintro e w1 ⟨rfl, hb1⟩
    go_wp2_with fail
    go_ret
    exact ⟨rfl, hb1⟩
  have d1 : decide (100 < (n1 : Int)) = false := decide_eq_false (by omega)
  go_enter Try.func6, Try.ntmps6
  go_wp2_with fail
  refine (alive_any _).mono ?_
  rintro e w1 ⟨rfl, hb1⟩
  have HB1 := Lib.hid hb1
  clear hb1
  go_wp2_with fail
  refine (great_any A2 n2 c2 l2 _ (by exact (H2.out.1.below HB1.out).more HB1.out.size) (Nat.le_trans H2.out.2.1 H2.out.2.2)).mono ?_
  rintro e w2 ⟨v, rfl, rfl, hv⟩
  rcases v with _ | _
  case true =>
    clear hv
    go_wp2_with fail
    go_ret
    exact ⟨rfl, HB1.out⟩
  case false =>
    have HG := Lib.hid (hv rfl)
    have h60 := (hv rfl).1
    clear hv
    go_wp2_with fail
    refine (copy_any A0 n0 c0 w1.heap.size l0 _ (by exact H0.out.1.step HB1.out) (by omega)).mono ?_
    rintro e w2 ⟨A3, c3, rfl, ho2, hb2⟩
    have HB2 := Lib.hid (bel_next HB1.out hb2)
    have R2 := Lib.hid ho2.rb
    clear ho2 hb2 HB1
    go_wp2_with fail
    refine (read_any A3 n0 c3 l0 _ (by exact R2.out) (by omega)).mono ?_
    rintro e w3 ⟨x, rfl, hx, hb3, hr⟩
    have HB3 := Lib.hid (bel_next HB2.out hb3)
    have HX := Lib.hid (And.intro (Nat.le_trans HB2.out.size hx) hr)
    clear hx hb3 hr R2 HB2
    go_wp2_with fail
    refine (write_any _ w.heap.size HB3.out.size).mono ?_
    rintro e w4 ⟨z, rfl, hz, hb, hw⟩
    have K0 : Hid (SC w x z (0, l0) w4) := Lib.hid ⟨bel_next HB3.out hb, HX.out.1, Nat.le_trans HB3.out.size hz, HX.out.2.step hb, hw⟩
    clear hz hb hw HB3 HX
    go_wp2_with fail
    go_loopw [9, 10, 11, 12] (fun i _ _ _ wr => ∃ (k : Nat) (s : Int × List UInt8), k ≤ n1 ∧ i = .int .i64 k ∧ Hid (SC w x z s wr)) (fun i _ _ _ _ => n1 - (intOf i).toNat)
    case atStart => exact ⟨0, _, by omega, rfl, K0⟩
    case round =>
      obtain ⟨k, s, hk, rfl, K⟩ := hrel
      clear K0
      by_cases hlt : k < n1
      · obtain ⟨b, o, p, rfl, hb, hp, hi1, hi2, hc⟩ := (H1.out.1.below K.out.bel).at_ hlt
        have HI := Lib.hid hi2
        have hal := below_alloc wr (.cells #[.slice A0 n0 c0, .int .i64 0] 31)
        have HC := Lib.hid (show (wr.alloc (.cells #[.slice A0 n0 c0, .int .i64 0] 31)).rangeAt b (o + k * 2) [.int .i64 p.1, .int .i64 p.2] from fun j v hv => (hal.cell (p := ⟨b, o + k * 2 + j, none⟩) (Nat.lt_of_lt_of_le hb K.out.bel.size)).trans (hc j v hv))
        have hl := askS_le p.1 p.2 s
        have hno := fun he => askS_no (s := s) he p.1 p.2
        obtain ⟨t, HT⟩ : ∃ t, Hid (t = askS p.1 p.2 s) := ⟨_, Lib.hid rfl⟩
        rw [← HT.out] at hl hno
        have K1 := Lib.hid (K.out.step hal)
        have HQ : Hid (RdQ (wr.alloc (.cells #[.slice A0 n0 c0, .int .i64 0] 31)) wr.heap.size (0, l0)) := Lib.hid ⟨A0, n0, c0, Two.new _ _ _ _, (H0.out.1.step K.out.bel).step hal, H0.out.2.1, H0.out.2.2, by omega⟩
        have HNO := Lib.hid hno
        clear hb hp hc hi1 hi2 hal hno
        go_wp2_with fail
        refine (err_any x s _ K.out.r).mono ?_
        rintro e w5 ⟨rfl, rfl⟩
        go_wp2_with fail
        refine (left_any x s _ K.out.r).mono ?_
        rintro e w5 ⟨rfl, rfl⟩
        go_wp2_with (first | (refine wpList_ldQ rfl (.tmp 59) rfl b (o + k * 2) rfl p (by exact HC.out) ?_))
        refine (ask_any x wr.heap.size p.1 p.2 HI.out s (0, l0) _ K1.out.r HQ.out).mono ?_
        rintro e w6 ⟨v, rfl, _, ho, hr, _⟩
        rw [← HT.out] at hr
        have K2 := Lib.hid (K1.out.off HQ.out K.out.bel.size ho hr)
        clear ho hr HQ
        have hn1 := K.out.r.few
        have hn2 := K2.out.r.few
        have hlt2 : decide ((s.2.length : Int) < (t.2.length : Int)) = false := decide_eq_false (by omega)
        by_cases he : s.1 = 0
        · have hb : (s.1 != 0) = false := by simpa using he
          go_wp2_with fail
          refine (left_any x t _ K2.out.r).mono ?_
          rintro e w7 ⟨rfl, rfl⟩
          go_wp2_with fail
          go_roundw
          case rel => exact ⟨k + 1, t, by omega, by go_num, K2⟩
          case measure => simp [intOf]; omega
        · have hb : (s.1 != 0) = true := by simpa using he
          obtain rfl : t = s := HNO.out he
          have hs1 : (t.1 != t.1) = false := by simp
          have hs2 : ((t.2.length : Int) != (t.2.length : Int)) = false := by simp
          go_wp2_with fail
          refine (err_any x t _ K2.out.r).mono ?_
          rintro e w7 ⟨rfl, rfl⟩
          go_wp2_with fail
          refine (left_any x t _ K2.out.r).mono ?_
          rintro e w7 ⟨rfl, rfl⟩
          go_wp2_with fail
          refine (left_any x t _ K2.out.r).mono ?_
          rintro e w7 ⟨rfl, rfl⟩
          go_wp2_with fail
          go_roundw
          case rel => exact ⟨k + 1, t, by omega, by go_num, K2⟩
          case measure => simp [intOf]; omega
      · have hkn : k = n1 := by omega
        subst hkn
        have HEND : Hid (∀ wz, SC w x z s wz → SW w z none (0, []) wz) := Lib.hid (fun wz h => ⟨h.bel, h.lz, h.wr⟩)
        by_cases he : s.1 = 0
        · have hb : (s.1 != 0) = false := by simpa using he
          go_wp2_with fail
          refine (err_any x s _ K.out.r).mono ?_
          rintro e w7 ⟨rfl, rfl⟩
          have KW := Lib.hid (HEND.out _ K.out)
          go_wp2_with fail
          go_loopw [13, 14, 15, 16, 17] (fun i _ _ _ _ wr => ∃ (k : Nat) (A : Option Addr) (s : Int × List UInt8), k ≤ n2 ∧ i = .int .i64 k ∧ s.2.length ≤ 400 * k ∧ Hid (SW w z A s wr)) (fun i _ _ _ _ _ => n2 - (intOf i).toNat)
          case atStart => exact ⟨0, _, _, by omega, rfl, by simp, KW⟩
          case round =>
            obtain ⟨k, A, s, hk, rfl, hs, K⟩ := hrel
            clear KW HEND
            by_cases hlt : k < n2
            · obtain ⟨b, o, p, rfl, hb, hp, hok, hc⟩ := (H2.out.1.below K.out.bel).at_ hlt
              have h300 : p.b.length ≤ 300 := HG.out.2 p (List.mem_of_getElem? hp)
              have HOK := Lib.hid (H2.out.1.2.1 p (List.mem_of_getElem? hp))
              have HC := Lib.hid hc
              have HB := Lib.hid hb
              have hlen := putP_len p h300 s
              have hno := fun he => putP_no (s := s) he p
              obtain ⟨t, HT⟩ : ∃ t, Hid (t = putP p s) := ⟨_, Lib.hid rfl⟩
              rw [← HT.out] at hlen hno
              have HNO := Lib.hid hno
              obtain ⟨r, HR⟩ : ∃ r, Hid (r = doneS s) := ⟨_, Lib.hid rfl⟩
              obtain ⟨q, HQ⟩ : ∃ r, Hid (r = doneS t) := ⟨_, Lib.hid rfl⟩
              clear hp hok hc hb hno
              go_wp2_with fail
              refine (wdone_any z w.heap.size A s _ K.out.wr (by omega)).mono ?_
              rw [← HR.out]
              rintro e w3 ⟨A5, c5, rfl, ho, hb⟩
              have K3 := Lib.hid (K.out.step hb)
              have hal := below_alloc w3 (.cells #[.slice none 0 0, .int .i64 0] 44)
              have K4 := Lib.hid (K3.out.step hal)
              have HC3 := Lib.hid (show (w3.alloc (.cells #[.slice none 0 0, .int .i64 0] 44)).rangeAt b (o + k * 4) p.cells from fun j v hv => ((hb.trans (hal.mono hb.size)).cell (p := ⟨b, o + k * 4 + j, none⟩) (Nat.lt_of_lt_of_le HB.out K.out.bel.size)).trans (HC.out j v hv))
              clear ho hb hal
              go_wp2_with (first | (refine wpList_ldPt rfl (.tmp 135) rfl b (o + k * 4) rfl p (by exact HC3.out) ?_))
              refine (put_any z w3.heap.size w.heap.size w.heap.size A none s (0, []) p _ K4.out.wr (yW_new _ _) (fun g _ hg => by simp [blkO] at hg) ((HOK.out.below K4.out.bel).more K4.out.bel.size) (K4.out.away HOK.out.rb) (fun _ _ _ _ hg => by simp [blkO] at hg) K4.out.bel.size K4.out.bel.size (by omega) (by simp) h300).mono ?_
              rw [← HT.out]
              intro e w5 kk
              obtain ⟨rfl, A6, k6⟩ := K4.out.ret K3.out.bel.size kk
              have K6 := Lib.hid k6
              clear kk k6 K4 K3
              go_wp2_with fail
              refine (wdone_any z w.heap.size A6 t _ K6.out.wr (by omega)).mono ?_
              rw [← HQ.out]
              rintro e w7 ⟨A7, c7, rfl, ho, hb⟩
              have K7 := Lib.hid (K6.out.step hb)
              clear ho hb K6
              by_cases he : s.1 = 0
              · have hr0 : r.2 = 0 := by rw [HR.out]; unfold doneS; rw [if_pos he]
                have hb : (r.2 != 0) = false := by rw [hr0]; rfl
                go_wp2_with fail
                go_roundw
                case rel => exact ⟨k + 1, A6, t, by omega, by go_num, by omega, K7⟩
                case measure => simp [intOf]; omega
              · have ht : t = s := HNO.out he
                have hr1 : r = ([], s.1) := by rw [HR.out]; exact doneS_1 he
                have hq1 : q = ([], s.1) := by rw [HQ.out, ht]; exact doneS_1 he
                subst hr1
                subst hq1
                have hb : (s.1 != 0) = true := by simpa using he
                have hb2 : (s.1 != s.1) = false := by simp
                go_wp2_with fail
                go_roundw
                case rel => exact ⟨k + 1, A6, t, by omega, by go_num, by omega, K7⟩
                case measure => simp [intOf]; omega
            · have hkn : k = n2 := by omega
              subst hkn
              go_wp2_with fail
              go_ret
              exact ⟨rfl, K.out.bel⟩
        · have hb : (s.1 != 0) = true := by simpa using he
          have N1 := Lib.hid (numS_no he 1)
          have N2 := Lib.hid (bytesS_no he 1)
          have N3 := Lib.hid (variS_no he)
          have N4 := Lib.hid (shortS_no he)
          have N5 := Lib.hid (longS_no he)
          have N6 := Lib.hid (restS_no he)
          go_wp2_with fail
          refine (err_any x s _ K.out.r).mono ?_
          rintro e w7 ⟨rfl, rfl⟩
          go_wp2_with fail
          refine (rnum_any x 1 s _ K.out.r (by omega)).mono ?_
          rw [N1.out]
          rintro e w7 ⟨rfl, ho, hr⟩
          have K7 := Lib.hid (K.out.one ho hr)
          clear ho hr
          go_wp2_with fail
          refine (rbytes_any x 1 s _ K7.out.r (by omega)).mono ?_
          rw [N2.out]
          rintro e w8 ⟨A8, n8, c8, rfl, hw, ho, hr⟩
          have K8 := Lib.hid (K7.out.one ho hr)
          obtain rfl : n8 = 0 := hw.len.symm
          clear ho hr hw
          go_wp2_with fail
          refine (rvari_any x s _ K8.out.r).mono ?_
          rw [N3.out]
          rintro e w9 ⟨rfl, ho, hr⟩
          have K9 := Lib.hid (K8.out.one ho hr)
          clear ho hr
          go_wp2_with fail
          refine (rshort_any x s _ K9.out.r).mono ?_
          rw [N4.out]
          rintro e w10 ⟨A10, n10, c10, rfl, hw, ho, hr⟩
          have K10 := Lib.hid (K9.out.one ho hr)
          obtain rfl : n10 = 0 := hw.len.symm
          clear ho hr hw
          go_wp2_with fail
          refine (rlong_any x s _ K10.out.r).mono ?_
          rw [N5.out]
          rintro e w11 ⟨A11, n11, c11, rfl, hw, ho, hr⟩
          have K11 := Lib.hid (K10.out.one ho hr)
          obtain rfl : n11 = 0 := hw.len.symm
          clear ho hr hw
          go_wp2_with fail
          refine (rrest_any x s _ K11.out.r).mono ?_
          rw [N6.out]
          rintro e w12 ⟨A12, n12, c12, rfl, hw, ho, hr⟩
          have K12 := Lib.hid (K11.out.one ho hr)
          obtain rfl : n12 = 0 := hw.len.symm
          clear ho hr hw
          have KW := Lib.hid (HEND.out _ K12.out)
          go_wp2_with fail
          go_loopw [13, 14, 15, 16, 17] (fun i _ _ _ _ wr => ∃ (k : Nat) (A : Option Addr) (s : Int × List UInt8), k ≤ n2 ∧ i = .int .i64 k ∧ s.2.length ≤ 400 * k ∧ Hid (SW w z A s wr)) (fun i _ _ _ _ _ => n2 - (intOf i).toNat)
          case atStart => exact ⟨0, _, _, by omega, rfl, by simp, KW⟩
          case round =>
            obtain ⟨k, A, s, hk, rfl, hs, K⟩ := hrel
            clear KW HEND
            by_cases hlt : k < n2
            · obtain ⟨b, o, p, rfl, hb, hp, hok, hc⟩ := (H2.out.1.below K.out.bel).at_ hlt
              have h300 : p.b.length ≤ 300 := HG.out.2 p (List.mem_of_getElem? hp)
              have HOK := Lib.hid (H2.out.1.2.1 p (List.mem_of_getElem? hp))
              have HC := Lib.hid hc
              have HB := Lib.hid hb
              have hlen := putP_len p h300 s
              have hno := fun he => putP_no (s := s) he p
              obtain ⟨t, HT⟩ : ∃ t, Hid (t = putP p s) := ⟨_, Lib.hid rfl⟩
              rw [← HT.out] at hlen hno
              have HNO := Lib.hid hno
              obtain ⟨r, HR⟩ : ∃ r, Hid (r = doneS s) := ⟨_, Lib.hid rfl⟩
              obtain ⟨q, HQ⟩ : ∃ r, Hid (r = doneS t) := ⟨_, Lib.hid rfl⟩
              clear hp hok hc hb hno
              go_wp2_with fail
              refine (wdone_any z w.heap.size A s _ K.out.wr (by omega)).mono ?_
              rw [← HR.out]
              rintro e w3 ⟨A5, c5, rfl, ho, hb⟩
              have K3 := Lib.hid (K.out.step hb)
              have hal := below_alloc w3 (.cells #[.slice none 0 0, .int .i64 0] 44)
              have K4 := Lib.hid (K3.out.step hal)
              have HC3 := Lib.hid (show (w3.alloc (.cells #[.slice none 0 0, .int .i64 0] 44)).rangeAt b (o + k * 4) p.cells from fun j v hv => ((hb.trans (hal.mono hb.size)).cell (p := ⟨b, o + k * 4 + j, none⟩) (Nat.lt_of_lt_of_le HB.out K.out.bel.size)).trans (HC.out j v hv))
              clear ho hb hal
              go_wp2_with (first | (refine wpList_ldPt rfl (.tmp 135) rfl b (o + k * 4) rfl p (by exact HC3.out) ?_))
              refine (put_any z w3.heap.size w.heap.size w.heap.size A none s (0, []) p _ K4.out.wr (yW_new _ _) (fun g _ hg => by simp [blkO] at hg) ((HOK.out.below K4.out.bel).more K4.out.bel.size) (K4.out.away HOK.out.rb) (fun _ _ _ _ hg => by simp [blkO] at hg) K4.out.bel.size K4.out.bel.size (by omega) (by simp) h300).mono ?_
              rw [← HT.out]
              intro e w5 kk
              obtain ⟨rfl, A6, k6⟩ := K4.out.ret K3.out.bel.size kk
              have K6 := Lib.hid k6
              clear kk k6 K4 K3
              go_wp2_with fail
              refine (wdone_any z w.heap.size A6 t _ K6.out.wr (by omega)).mono ?_
              rw [← HQ.out]
              rintro e w7 ⟨A7, c7, rfl, ho, hb⟩
              have K7 := Lib.hid (K6.out.step hb)
              clear ho hb K6
              by_cases he : s.1 = 0
              · have hr0 : r.2 = 0 := by rw [HR.out]; unfold doneS; rw [if_pos he]
                have hb : (r.2 != 0) = false := by rw [hr0]; rfl
                go_wp2_with fail
                go_roundw
                case rel => exact ⟨k + 1, A6, t, by omega, by go_num, by omega, K7⟩
                case measure => simp [intOf]; omega
              · have ht : t = s := HNO.out he
                have hr1 : r = ([], s.1) := by rw [HR.out]; exact doneS_1 he
                have hq1 : q = ([], s.1) := by rw [HQ.out, ht]; exact doneS_1 he
                subst hr1
                subst hq1
                have hb : (s.1 != 0) = true := by simpa using he
                have hb2 : (s.1 != s.1) = false := by simp
                go_wp2_with fail
                go_roundw
                case rel => exact ⟨k + 1, A6, t, by omega, by go_num, by omega, K7⟩
                case measure => simp [intOf]; omega
            · have hkn : k = n2 := by omega
              subst hkn
              go_wp2_with fail
              go_ret
              exact ⟨rfl, K.out.bel⟩
end Go.Proofs.Ytakmnfcbfbkloaa
