/- AesCounts' walk: blocks of sixteen bytes are counted, others aren't, and the order of the calls makes no difference to their answers. No condition. -/
import Derived.Test.YtbpbpkmjkbndbaaAesAlive
import Derived.Test.YtbpbpkmjkbndbaaUseLong
import Derived.Test.YtbpbpkmjkbndbaaOpenRows
namespace Go.Proofs.Ytbpbpkmjkbndbaa
open Go.RowKit
set_option linter.unusedVariables false
attribute [local irreducible] wsW keyUpTo keyF lastW turn0 encUp decUp encL decL

def codeOf (l : List UInt8) : Int := if l.length = 16 then 0 else 11
def oneOf (l : List UInt8) : Nat := if l.length = 16 then 1 else 0
def encX (key l : List UInt8) : List UInt8 := if l.length = 16 then encL key tableL l else []
def decX (key l : List UInt8) : List UInt8 := if l.length = 16 then decL key tableL backL l else []
/-- A call on a block of whatever length. -/
def RetX (res l key : List UInt8) (cb b lo n : Nat) (w : World) (e : Ending) (w' : World) : Prop :=
  ∃ A c, e = .returned (.tuple #[.slice A res.length c, .int .i64 (codeOf l)]) ∧ RB w' w'.heap.size A res.length res ∧ (∀ c2, c2 < w.heap.size → Away A c2) ∧ But cb w w' ∧ Ob cb b lo key (n + oneOf l) w'
theorem enc_each (cb b lo n m c0 : Nat) (key l : List UInt8) (A : Option Addr) (w : World) (h : Ob cb b lo key n w) (hn : n + 1 ≤ 1000000000) (hb : RB w w.heap.size A m l) (hc0 : m ≤ c0) (ha : 0 < m → Away A cb) :
    Calls Try.prog 15 #[.pointer (some ⟨cb, 0, none⟩), .slice A m c0] w (RetX (encX key l) l key cb b lo n w) := by
  have hl := hb.len
  by_cases h16 : m = 16
  · subst h16
    refine (encrypt_any cb b lo n c0 key l A w h hn hb hc0 (ha (by omega))).mono ?_
    rintro e w' ⟨A', c', rfl, ho, hbu, hob⟩
    have hx : encX key l = encL key tableL l := if_pos hl
    have hx16 : (encL key tableL l).length = 16 := encL_len key tableL l h.len hl
    unfold RetX codeOf oneOf
    rw [if_pos hl, if_pos hl, hx, hx16]
    exact ⟨A', c', rfl, ho.rb, fun c2 h2 => ho.away h2, hbu, hob⟩
  · refine (encrypt_bad cb m c0 A w h16).mono ?_
    rintro e w' ⟨rfl, rfl⟩
    have hl' : ¬ l.length = 16 := by omega
    have hx : encX key l = [] := if_neg hl'
    unfold RetX codeOf oneOf
    rw [if_neg hl', if_neg hl', hx]
    exact ⟨none, 0, rfl, RB.nil_, fun c2 _ g o e => (by cases e), But.refl _ _, h⟩
theorem dec_each (cb b lo n m c0 : Nat) (key l : List UInt8) (A : Option Addr) (w : World) (h : Ob cb b lo key n w) (hn : n + 1 ≤ 1000000000) (hb : RB w w.heap.size A m l) (hc0 : m ≤ c0) (ha : 0 < m → Away A cb) :
    Calls Try.prog 19 #[.pointer (some ⟨cb, 0, none⟩), .slice A m c0] w (RetX (decX key l) l key cb b lo n w) := by
  have hl := hb.len
  by_cases h16 : m = 16
  · subst h16
    refine (decrypt_any cb b lo n c0 key l A w h hn hb hc0 (ha (by omega))).mono ?_
    rintro e w' ⟨A', c', rfl, ho, hbu, hob⟩
    have hx : decX key l = decL key tableL backL l := if_pos hl
    have hx16 : (decL key tableL backL l).length = 16 := decL_len key l h.len hl
    unfold RetX codeOf oneOf
    rw [if_pos hl, if_pos hl, hx, hx16]
    exact ⟨A', c', rfl, ho.rb, fun c2 h2 => ho.away h2, hbu, hob⟩
  · refine (decrypt_bad cb m c0 A w h16).mono ?_
    rintro e w' ⟨rfl, rfl⟩
    have hl' : ¬ l.length = 16 := by omega
    have hx : decX key l = [] := if_neg hl'
    unfold RetX codeOf oneOf
    rw [if_neg hl', if_neg hl', hx]
    exact ⟨none, 0, rfl, RB.nil_, fun c2 _ g o e => (by cases e), But.refl _ _, h⟩
/-- How many of the first k rows have sixteen bytes; how many of the last k. -/
def cntL (ps : List (List UInt8)) (k : Nat) : Nat := ((ps.take k).map oneOf).sum
def cntR (ps : List (List UInt8)) (k : Nat) : Nat := cntL ps.reverse k
theorem cntL_next {ps : List (List UInt8)} {k : Nat} {p : List UInt8} (h : ps[k]? = some p) : cntL ps (k + 1) = cntL ps k + oneOf p := by
  unfold cntL
  rw [take_row h]; simp
theorem one_le (p : List UInt8) : oneOf p ≤ 1 := by unfold oneOf; split <;> omega
theorem cntL_le (ps : List (List UInt8)) : ∀ k, cntL ps k ≤ k
  | 0 => by simp [cntL]
  | k + 1 => by
    have ih := cntL_le ps k
    rcases hp : ps[k]? with _ | p
    · have hl : ps.length ≤ k := by simpa using hp
      unfold cntL at ih ⊢
      rw [List.take_of_length_le (by omega)] at ih ⊢
      omega
    · rw [cntL_next hp]
      have := one_le p
      omega
theorem cntR_all (ps : List (List UInt8)) : cntR ps ps.length = cntL ps ps.length := by
  unfold cntR cntL
  rw [List.take_of_length_le (by simp), List.take_of_length_le (Nat.le_refl _), List.map_reverse, List.sum_reverse]
theorem rev_at {ps : List (List UInt8)} {k : Nat} {p : List UInt8} (hk : k < ps.length) (h : ps[ps.length - 1 - k]? = some p) : ps.reverse[k]? = some p := by
  rw [List.getElem?_reverse hk]; exact h
theorem long400 (A : Option Addr) (n c : Nat) (ps : List (List UInt8)) (w : World) (h : RR w w.heap.size A n ps) (hp : ∀ p ∈ ps, p.length ≤ maxLen) (hn : n ≤ maxLen) (v : Bool) (hv : longB ps 400 = v) :
    Calls Try.prog 21 #[.slice A n c, .int .i64 400] w fun e w' => e = .returned (.bool v) ∧ w = w' := by
  subst hv
  exact long_any A n c 400 ps w h hn (by omega) hp
theorem RR.nextC {w w' : World} {n : Nat} {A : Option Addr} {ps : List (List UInt8)} (h : RR w w.heap.size A n ps) (hb : Below w.heap.size w w') : RR w' w'.heap.size A n ps := by
  refine ⟨h.1, fun hn => ?_⟩
  obtain ⟨b, o, e, hbb, hc⟩ := (h.below hb).2 hn
  exact ⟨b, o, e, Nat.lt_of_lt_of_le hbb hb.size, fun i p hp => by
    obtain ⟨Ai, ci, h1, h2⟩ := hc i p hp
    exact ⟨Ai, ci, h1, h2.more hb.size⟩⟩
theorem code_ok (l : List UInt8) : (codeOf l == 0) = decide (l.length = 16) := by
  unfold codeOf
  by_cases h : l.length = 16
  · rw [if_pos h, decide_eq_true h]; rfl
  · rw [if_neg h, decide_eq_false h]; rfl
theorem len_ok (l : List UInt8) : ((l.length : Int) == 16) = decide (l.length = 16) := by
  by_cases h : l.length = 16
  · rw [h]; rfl
  · rw [decide_eq_false h, beq_eq_false_iff_ne]; omega
theorem decX_ok (key l : List UInt8) (hk : key.length = 16) : (((decX key l).length : Int) == 16) = decide (l.length = 16) := by
  unfold decX
  by_cases h : l.length = 16
  · rw [if_pos h, decL_len key l hk h, decide_eq_true h]; rfl
  · rw [if_neg h, decide_eq_false h]; rfl
theorem encX_le (key l : List UInt8) (hk : key.length = 16) : (encX key l).length ≤ maxLen := by
  unfold encX maxLen
  split
  · rename_i h; rw [encL_len key tableL l hk h]; omega
  · simp
set_option maxRecDepth 100000 in
set_option maxHeartbeats 4000000 in
theorem AesCounts_skip (A0 : Option Addr) (n0 c0 : Nat) (A1 : Option Addr) (n1 c1 : Nat) (l1 : List (List UInt8)) (w : World) (h1 : RPC w w.heap.size A1 n1 l1) (m1 : n1 ≤ c1 ∧ c1 ≤ maxLen)
    (h : n0 ≠ 16 ∨ longB l1 400 = true ∨ 20 < n1) :
    Calls Try.prog 7 #[.slice A0 n0 c0, .slice A1 n1 c1] w fun e w' => e = .returned (.bool true) ∧ Below w.heap.size w w' := by
  have H1 := Lib.hid h1.1
  have M1 := Lib.hid m1
  clear h1 m1
  by_cases h16 : n0 = 16
  · obtain ⟨v, HV⟩ : ∃ v, Hid (longB l1 400 = v) := ⟨_, Lib.hid rfl⟩
    rw [HV.out] at h
    have hd : ((n0 : Int) == 16) = true := by rw [beq_iff_eq]; omega
    have hn : ((n0 : Int) != 16) = false := by simp [bne, hd]
    rcases v with _ | _
    · have h20 : 20 < n1 := by
        rcases h with h | h | h
        · exact absurd h16 h
        · cases h
        · exact h
      have hg : decide ((20 : Int) < (n1 : Int)) = true := decide_eq_true (by omega)
      clear h
      go_enter Try.func7, Try.ntmps7
      go_wp2_with fail
      refine (alive_any _).mono ?_
      rintro e w1 ⟨rfl, hb1⟩
      have HB1 := Lib.hid hb1
      clear hb1
      go_wp2_with fail
      refine (long400 A1 n1 c1 l1 _ (by exact H1.out.1.nextC HB1.out) H1.out.2 (by have := M1.out; omega) _ HV.out).mono ?_
      rintro e w2 ⟨rfl, rfl⟩
      go_wp2_with fail
      go_ret
      exact ⟨rfl, HB1.out⟩
    · clear h
      go_enter Try.func7, Try.ntmps7
      go_wp2_with fail
      refine (alive_any _).mono ?_
      rintro e w1 ⟨rfl, hb1⟩
      have HB1 := Lib.hid hb1
      clear hb1
      go_wp2_with fail
      refine (long400 A1 n1 c1 l1 _ (by exact H1.out.1.nextC HB1.out) H1.out.2 (by have := M1.out; omega) _ HV.out).mono ?_
      rintro e w2 ⟨rfl, rfl⟩
      go_wp2_with fail
      go_ret
      exact ⟨rfl, HB1.out⟩
  · have hd : ((n0 : Int) == 16) = false := by rw [beq_eq_false_iff_ne]; omega
    have hn : ((n0 : Int) != 16) = true := by simp [bne, hd]
    clear h
    go_enter Try.func7, Try.ntmps7
    go_wp2_with fail
    refine (alive_any _).mono ?_
    rintro e w1 ⟨rfl, hb1⟩
    have HB1 := Lib.hid hb1
    clear hb1
    go_wp2_with fail
    go_ret
    exact ⟨rfl, HB1.out⟩
set_option maxRecDepth 100000 in
set_option maxHeartbeats 4000000 in
theorem AesCounts_in (A0 : Option Addr) (c0 : Nat) (l0 : List UInt8) (A1 : Option Addr) (n1 c1 : Nat) (l1 : List (List UInt8)) (w : World) (h0 : RB w w.heap.size A0 16 l0) (m0 : 16 ≤ c0 ∧ c0 ≤ maxLen) (h1 : RPC w w.heap.size A1 n1 l1) (m1 : n1 ≤ c1 ∧ c1 ≤ maxLen) (hl : longB l1 400 = false) (h20 : n1 ≤ 20) :
    Calls Try.prog 7 #[.slice A0 16 c0, .slice A1 n1 c1] w fun e w' => e = .returned (.bool true) ∧ Below w.heap.size w w' := by
  have H0 := Lib.hid h0
  have H1 := Lib.hid h1
  have M0 := Lib.hid m0
  have M1 := Lib.hid m1
  have HLN := Lib.hid hl
  have HLEN : Hid (l1.length = n1) := Lib.hid h1.1.1.len
  have hp : ∀ (g : Nat) (W : World), (binOp .eql 25 (.pointer (some ⟨g, 0, none⟩)) (.pointer none)).run Try.prog W = .ok (.bool false) W := fun _ _ => by kernel_rfl
  clear h0 h1 m0 m1 hl
  go_enter Try.func7, Try.ntmps7
  go_wp2_with fail
  refine (alive_any _).mono ?_
  rintro e w1 ⟨rfl, hb1⟩
  have HB1 := Lib.hid hb1
  clear hb1
  go_wp2_with fail
  refine (long400 A1 n1 c1 l1 _ (by exact H1.out.1.1.nextC HB1.out) H1.out.1.2 (by have := M1.out; omega) _ HLN.out).mono ?_
  rintro e w2 ⟨rfl, rfl⟩
  go_wp2_with fail
  refine (anew_any c0 A0 l0 _ (by exact (H0.out.below HB1.out).more HB1.out.size) M0.out.1).mono ?_
  rintro e w2 ⟨cb, b, lo, rfl, hb2, hcb, _, hob⟩
  have HB2 : Hid (Below w.heap.size w w2) := Lib.hid (bel_next HB1.out hb2)
  have HWB : Hid (w.heap.size ≤ cb) := Lib.hid (Nat.le_trans HB1.out.size hcb)
  have HO := Lib.hid hob
  clear hb2 hcb hob
  go_wp2_with fail
  refine (anew_any c0 A0 l0 _ (by exact (H0.out.below HB2.out).more HB2.out.size) M0.out.1).mono ?_
  rintro e w3 ⟨cd, bd, ld, rfl, hb3, hcd, hbd, hod⟩
  have HB3 : Hid (Below w.heap.size w w3) := Lib.hid (bel_next HB2.out hb3)
  have HWD : Hid (w.heap.size ≤ cd) := Lib.hid (Nat.le_trans HB2.out.size hcd)
  have HNE : Hid (cb ≠ cd ∧ cb ≠ bd ∧ cd ≠ b) := Lib.hid (by have h1 := HO.out.lt; have h2 := HO.out.tab.lt; omega)
  have HO3 := Lib.hid (HO.out.below hb3)
  have HD3 := Lib.hid hod
  clear hb3 hcd hbd hod HO HB2
  go_wp2_with fail
  go_loopw [9, 10] (fun c i wr => ∃ k : Nat, k ≤ n1 ∧ c = .int .i64 ((cntL l1 k : Nat) : Int) ∧ i = .int .i64 k ∧ Hid (Below w.heap.size w wr) ∧ Hid (Ob cb b lo l0 (cntL l1 k) wr) ∧ Hid (Ob cd bd ld l0 (cntR l1 k + cntL l1 k) wr)) (fun _ i _ => n1 - (intOf i).toNat)
  case atStart => exact ⟨0, by omega, rfl, rfl, HB3, HO3, HD3⟩
  case round =>
    obtain ⟨k, hk, rfl, rfl, hb, ho, hd⟩ := hrel
    clear HB3 HO3 HD3
    by_cases hlt : k < n1
    · obtain ⟨b0, o0, rfl, hb0, p, hpk, Ai, ci, hcell, hrb⟩ := H1.out.1.1.at_ hlt
      obtain ⟨j, HJ, hjn⟩ : ∃ j : Nat, Hid (j = n1 - 1 - k) ∧ j < n1 := ⟨_, Lib.hid rfl, by omega⟩
      obtain ⟨b0', o0', eA, _, q, hqj, Aj, cj, hcellj, hrbj⟩ := H1.out.1.1.at_ hjn
      injection eA with eA
      injection eA with e1 e2
      subst e1
      subst e2
      have hcap := H1.out.2 b0 o0 k Ai p.length ci rfl hlt hcell
      have hcapj := H1.out.2 b0 o0 j Aj q.length cj rfl hjn hcellj
      have cw : ∀ W : World, Below w.heap.size w W → W.cell? ⟨b0, o0 + k, none⟩ = some (.slice Ai p.length ci) ∧ W.cell? ⟨b0, o0 + j, none⟩ = some (.slice Aj q.length cj) := fun W hW =>
        ⟨(hW.cell (p := ⟨b0, o0 + k, none⟩) hb0).trans hcell, (hW.cell (p := ⟨b0, o0 + j, none⟩) hb0).trans hcellj⟩
      have HCW := Lib.hid cw
      have hpl := H1.out.1.2 p (List.mem_of_getElem? hpk)
      have hql := H1.out.1.2 q (List.mem_of_getElem? hqj)
      have HPL := Lib.hid hpl
      have HP := Lib.hid hrb
      have HQ := Lib.hid hrbj
      have HCP := Lib.hid hcap
      have HCQ := Lib.hid hcapj
      have HPK := Lib.hid hpk
      have HQJ := Lib.hid hqj
      unfold maxLen at hpl hql
      have hx1 : IntKind.i64.wrap ((n1 : Int) - 1) = (n1 : Int) - 1 := IntWalk.i64_in _ (by omega)
      have hx2 : (n1 : Int) - 1 - (k : Int) = (j : Int) := by rw [HJ.out]; omega
      have hx3 : IntKind.i64.wrap (j : Int) = (j : Int) := IntWalk.i64_in _ (by omega)
      have hcn := cntL_le l1 k
      have hcr : cntR l1 k ≤ k := cntL_le l1.reverse k
      obtain ⟨n, HNK⟩ : ∃ n, Hid (n = cntL l1 k) := ⟨_, Lib.hid rfl⟩
      obtain ⟨m, HMK⟩ : ∃ m, Hid (m = cntR l1 k) := ⟨_, Lib.hid rfl⟩
      rw [← HNK.out] at ho hd hcn ⊢
      rw [← HMK.out] at hd hcr
      have hk1 := (cw wr hb.out).1
      clear cw hcell hrb hcellj hrbj hcap hcapj hpk hqj
      obtain ⟨X, HX⟩ : ∃ X, Hid (X = encX l0 p) := ⟨_, Lib.hid rfl⟩
      obtain ⟨Y, HY⟩ : ∃ X, Hid (X = decX l0 q) := ⟨_, Lib.hid rfl⟩
      obtain ⟨cp, HC⟩ : ∃ c, Hid (c = codeOf p) := ⟨_, Lib.hid rfl⟩
      obtain ⟨cq, HCD⟩ : ∃ c, Hid (c = codeOf q) := ⟨_, Lib.hid rfl⟩
      go_wp2_with fail
      refine (enc_each cb b lo n p.length ci l0 p Ai _ (by exact ho.out) (by omega) (by exact (HP.out.below hb.out).more hb.out.size) HCP.out (fun h => HP.out.away h HWB.out)).mono ?_
      unfold RetX
      rw [← HX.out, ← HC.out]
      rintro e w4 ⟨A4, c4, rfl, hr4, ha4, hb4, hob4⟩
      have HR4 := Lib.hid hr4
      have HA4 : Hid (Away A4 cd) := Lib.hid (ha4 cd hd.out.lt)
      have HW4 : Hid (Below w.heap.size w w4) := Lib.hid (hb.out.trans (hb4.below HWB.out ho.out.lt))
      have HO4 := Lib.hid hob4
      have HD4 : Hid (Ob cd bd ld l0 (m + n) w4) := Lib.hid (hd.out.but hb4 ho.out.cf.nob HNE.out.1 HNE.out.2.1)
      clear hr4 ha4 hb4 hob4
      have hk2 := (HCW.out w4 HW4.out).2
      have hk3 := (HCW.out w4 HW4.out).1
      go_wp2_with fail
      refine (dec_each cd bd ld (m + n) q.length cj l0 q Aj _ (by exact HD4.out) (by omega) (by exact (HQ.out.below HW4.out).more HW4.out.size) HCQ.out (fun h => HQ.out.away h HWD.out)).mono ?_
      unfold RetX
      rw [← HY.out, ← HCD.out]
      rintro e w5 ⟨A5, c5, rfl, _, _, hb5, hob5⟩
      have HR5 : Hid (RB w5 w5.heap.size A4 X.length X) := Lib.hid (HR4.out.aside hb5 HA4.out)
      have HW5 : Hid (Below w.heap.size w w5) := Lib.hid (HW4.out.trans (hb5.below HWD.out HD4.out.lt))
      have HO5 : Hid (Ob cb b lo l0 (n + oneOf p) w5) := Lib.hid (HO4.out.but hb5 HD4.out.cf.nob (fun e => HNE.out.1 e.symm) HNE.out.2.2)
      have HD5 := Lib.hid hob5
      clear hb5 hob5
      have hk4 := (HCW.out w5 HW5.out).1
      have h1q := one_le q
      go_wp2_with fail
      refine (enc_each cd bd ld (m + n + oneOf q) p.length ci l0 p Ai _ (by exact HD5.out) (by omega) (by exact (HP.out.below HW5.out).more HW5.out.size) HCP.out (fun h => HP.out.away h HWD.out)).mono ?_
      unfold RetX
      rw [← HX.out, ← HC.out]
      rintro e w6 ⟨A6, c6, rfl, hr6, _, hb6, hob6⟩
      have HR6 : Hid (RB w6 w6.heap.size A4 X.length X) := Lib.hid (HR5.out.aside hb6 HA4.out)
      have HS6 := Lib.hid hr6
      have HW6 : Hid (Below w.heap.size w w6) := Lib.hid (HW5.out.trans (hb6.below HWD.out HD5.out.lt))
      have HO6 : Hid (Ob cb b lo l0 (n + oneOf p) w6) := Lib.hid (HO5.out.but hb6 HD5.out.cf.nob (fun e => HNE.out.1 e.symm) HNE.out.2.2)
      have HD6 := Lib.hid hob6
      clear hr6 hb6 hob6
      have hk5 := (HCW.out w6 HW6.out).1
      obtain ⟨s, HS⟩ : ∃ s, Hid (decide (p.length = 16) = s) := ⟨_, Lib.hid rfl⟩
      obtain ⟨t, HT⟩ : ∃ s, Hid (decide (q.length = 16) = s) := ⟨_, Lib.hid rfl⟩
      have e1 : (cp == 0) = s := by rw [HC.out, code_ok, HS.out]
      have e2 : ((p.length : Int) == 16) = s := by rw [len_ok, HS.out]
      have e3 : (cq == 0) = t := by rw [HCD.out, code_ok, HT.out]
      have e4 : ((Y.length : Int) == 16) = t := by rw [HY.out, decX_ok l0 q H0.out.len, HT.out]
      have e5 : (s != s) = false := by cases s <;> rfl
      have e6 : (t != t) = false := by cases t <;> rfl
      have e7 : (cp != cp) = false := by simp
      go_wp2_with fail
      refine (al_same A4 A6 X.length c4 X.length c6 X X _ (by exact HR6.out) (by exact HS6.out) (by rw [HX.out]; exact encX_le l0 p H0.out.len) (by rw [HX.out]; exact encX_le l0 p H0.out.len) true (by simp)).mono ?_
      rintro e w7 ⟨rfl, hb7⟩
      have HW7 : Hid (Below w.heap.size w w7) := Lib.hid (bel_next HW6.out hb7)
      have HO7 := Lib.hid (HO6.out.below hb7)
      have HD7 := Lib.hid (HD6.out.below hb7)
      clear hb7
      have HCN : Hid (cntL l1 (k + 1) = n + oneOf p) := Lib.hid (by rw [cntL_next HPK.out, HNK.out])
      have HCR : Hid (cntR l1 (k + 1) = m + oneOf q) := Lib.hid (by
        unfold cntR
        rw [cntL_next (rev_at (by rw [HLEN.out]; exact hlt) (by rw [HLEN.out, ← HJ.out]; exact HQJ.out)), HMK.out]; rfl)
      have HREL : Hid (Ob cb b lo l0 (cntL l1 (k + 1)) w7 ∧ Ob cd bd ld l0 (cntR l1 (k + 1) + cntL l1 (k + 1)) w7) := Lib.hid (by
        rw [HCN.out, HCR.out]
        refine ⟨HO7.out, ?_⟩
        have h := HD7.out
        rw [show m + n + oneOf q + oneOf p = m + oneOf q + (n + oneOf p) by omega] at h
        exact h)
      rcases s with _ | _
      · have h1p : oneOf p = 0 := by unfold oneOf; rw [if_neg (of_decide_eq_false HS.out)]
        go_wp2_with fail
        go_roundw
        case rel => exact ⟨k + 1, by omega, by rw [HCN.out, h1p]; rfl, by go_num, HW7, Lib.hid HREL.out.1, Lib.hid HREL.out.2⟩
        case measure => simp [intOf]; omega
      · have h1p : oneOf p = 1 := by unfold oneOf; rw [if_pos (of_decide_eq_true HS.out)]
        go_wp2_with fail
        go_roundw
        case rel => exact ⟨k + 1, by omega, by rw [HCN.out, h1p]; go_num, by go_num, HW7, Lib.hid HREL.out.1, Lib.hid HREL.out.2⟩
        case measure => simp [intOf]; omega
    · obtain rfl : k = n1 := by omega
      have HEQ : Hid (cntR l1 k = cntL l1 k) := Lib.hid (by have := cntR_all l1; rw [HLEN.out] at this; exact this)
      have hcn := cntL_le l1 k
      obtain ⟨n, HNK⟩ : ∃ n, Hid (n = cntL l1 k) := ⟨_, Lib.hid rfl⟩
      rw [HEQ.out, ← HNK.out] at hd
      rw [← HNK.out] at ho hcn ⊢
      have e1 : (((n + n : Nat) : Int) == 2 * (n : Int)) = true := by rw [beq_iff_eq]; omega
      have e2 : IntKind.i64.wrap (2 * (n : Int)) = 2 * (n : Int) := IntWalk.i64_in _ (by omega)
      obtain ⟨d, HDD⟩ : ∃ d : Nat, Hid (d = n + n) := ⟨_, Lib.hid rfl⟩
      rw [← HDD.out] at hd e1
      go_wp2_with fail
      refine (done_any cb b lo n l0 _ (by exact ho.out)).mono ?_
      rintro e w4 ⟨rfl, rfl⟩
      go_wp2_with fail
      refine (done_any cd bd ld d l0 _ (by exact hd.out)).mono ?_
      rintro e w4 ⟨rfl, rfl⟩
      go_wp2_with fail
      go_ret
      exact ⟨rfl, hb.out⟩
theorem AesCounts_walk (A0 : Option Addr) (n0 c0 : Nat) (l0 : List UInt8) (A1 : Option Addr) (n1 c1 : Nat) (l1 : List (List UInt8)) (w : World) (h0 : RB w w.heap.size A0 n0 l0) (m0 : n0 ≤ c0 ∧ c0 ≤ maxLen) (h1 : RPC w w.heap.size A1 n1 l1) (m1 : n1 ≤ c1 ∧ c1 ≤ maxLen) :
    Calls Try.prog 7 #[.slice A0 n0 c0, .slice A1 n1 c1] w fun e w' => e = .returned (.bool true) ∧ Below w.heap.size w w' := by
  by_cases h : n0 ≠ 16 ∨ longB l1 400 = true ∨ 20 < n1
  · exact AesCounts_skip A0 n0 c0 A1 n1 c1 l1 w h1 m1 h
  · have e1 : n0 = 16 := Decidable.byContradiction fun e => h (.inl e)
    subst e1
    exact AesCounts_in A0 c0 l0 A1 n1 c1 l1 w h0 m0 h1 m1 (by
      cases hl : longB l1 400 with
      | false => rfl
      | true => exact absurd (.inr (.inl hl)) h) (by
      rcases Nat.lt_or_ge 20 n1 with h2 | h2
      · exact absurd (.inr (.inr h2)) h
      · exact h2)
end Go.Proofs.Ytbpbpkmjkbndbaa
