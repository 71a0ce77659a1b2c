/- Layer 14's Size and fit, and the references' Size and fit. Conditions: the slices' cells are readable. -/
import Derived.Test.YtkcchidklcnnnaaGreatHvP
import Derived.Test.YtkcchidklcnnnaaGreatRowsIn
import Derived.ArgAppend
import Derived.Test.YtkcchidklcnnnaaGreatRec
namespace Go.Proofs.YtkcchidklcnnnaaGreat
open Go.RowKit
set_option linter.unusedVariables false
set_option linter.unusedSimpArgs false
theorem szI_lt {z : Int} (h : z < 1) : szI z = 0 := by unfold szI; rw [if_pos h]
theorem szI_ge {z : Int} (h : ¬ z < 1) : z / 2 + z % 2 = szI z := by unfold szI szN; rw [if_neg h]; omega
set_option maxRecDepth 100000 in
theorem hsize_any (z : Int) (hz : z ≤ 9223372036854775807) (w : World) :
    Calls Tryz.prog 112 #[.int .i64 z] w fun e w' => e = .returned (.int .i64 (szI z)) ∧ w = w' := by
  by_cases h : z < 1
  · rw [szI_lt h]
    go_enter Tryz.func112, Tryz.ntmps112
    go_wp2_with fail
    go_ret
    exact ⟨rfl, rfl⟩
  · have e := szI_ge h
    go_enter Tryz.func112, Tryz.ntmps112
    go_wp2_with fail
    go_ret
    exact ⟨rfl, rfl⟩
set_option maxRecDepth 100000 in
theorem rhsize_any (z : Int) (hz : z ≤ 9223372036854775807) (w : World) :
    Calls Tryz.prog 123 #[.int .i64 z] w fun e w' => e = .returned (.int .i64 (szI z)) ∧ w = w' := by
  by_cases h : z < 1
  · rw [szI_lt h]
    go_enter Tryz.func123, Tryz.ntmps123
    go_wp2_with fail
    go_ret
    exact ⟨rfl, rfl⟩
  · have e := szI_ge h
    go_enter Tryz.func123, Tryz.ntmps123
    go_wp2_with fail
    go_ret
    exact ⟨rfl, rfl⟩
set_option maxRecDepth 100000 in
set_option maxHeartbeats 2000000 in
theorem rhfit_any (A : Option Addr) (n c : Nat) (z : Int) (w : World) (v : Bool) (hv : fitB z n = v) :
    Calls Tryz.prog 100 #[.slice A n c, .int .i64 z] w fun e w' => e = .returned (.bool v) ∧ w = w' := by
  unfold fitB at hv
  by_cases h2 : 2 ≤ z
  · by_cases h28 : z ≤ 28
    · have HS := Lib.hid (rhsize_any z (by omega))
      obtain ⟨q, hq⟩ : ∃ q, szI z = q := ⟨_, rfl⟩
      rw [hq] at HS hv
      have hv2 : ((n : Int) == q) = v := by
        rw [← hv, Bool.eq_iff_iff, beq_iff_eq, decide_eq_true_eq]
        exact ⟨fun e => ⟨h2, h28, e⟩, fun e => e.2.2⟩
      clear hv hq
      go_enter Tryz.func100, Tryz.ntmps100
      go_wp2_with fail
      refine (HS.out _).mono ?_
      rintro e w1 ⟨rfl, rfl⟩
      go_wp2_with fail
      go_ret
      exact ⟨rfl, rfl⟩
    · have e : v = false := by rw [← hv]; exact decide_eq_false (fun e => h28 e.2.1)
      subst e
      clear hv
      go_enter Tryz.func100, Tryz.ntmps100
      go_wp2_with fail
      go_ret
      exact ⟨rfl, rfl⟩
  · have e : v = false := by rw [← hv]; exact decide_eq_false (fun e => h2 e.1)
    subst e
    clear hv
    go_enter Tryz.func100, Tryz.ntmps100
    go_wp2_with fail
    go_ret
    exact ⟨rfl, rfl⟩

set_option maxRecDepth 100000 in
set_option maxHeartbeats 2000000 in
theorem hfit1_any (A : Option Addr) (n c g : Nat) (z q : Int) (w : World) (hg : w.cell? ⟨g, 0, none⟩ = some (.int .i64 z)) (hz : z ≤ 9223372036854775807) (hq : szI z = q) (v : Bool) (hv : ((n : Int) != q) = v) :
    Calls Tryz.prog 134 #[.slice A n c, .pointer (some ⟨g, 0, none⟩)] w fun e w' => e = .returned (.bool v) ∧ w = w' := by
  have HS := Lib.hid (hsize_any z hz)
  rw [hq] at HS
  clear hq
  go_enter Tryz.func134, Tryz.ntmps134
  go_wp2_with fail
  refine (HS.out _).mono ?_
  rintro e w1 ⟨rfl, rfl⟩
  go_wp2_with fail
  go_ret
  exact ⟨rfl, rfl⟩
set_option maxRecDepth 100000 in
set_option maxHeartbeats 2000000 in
theorem hindexf_any (A : Option Addr) (n c g : Nat) (z q : Int) (ps : List (List UInt8)) (w : World) (h : RR w w.heap.size A n ps) (hn : n ≤ 1000) (hg : w.cell? ⟨g, 0, none⟩ = some (.int .i64 z)) (hz : z ≤ 9223372036854775807) (hq : szI z = q) :
    Calls Tryz.prog 144 #[.slice A n c, .func (.func 134) #[] #[.pointer (some ⟨g, 0, none⟩)]] w fun e w' => ∃ i : Int, e = .returned (.int .i64 i) ∧ w = w' ∧ decide (0 ≤ i) = ps.any (fun p => ((p.length : Int) != q)) := by
  have H := Lib.hid h
  have HL := Lib.hid h.len
  have HG := Lib.hid hg
  have HQ := Lib.hid hq
  clear h hg hq
  go_enter Tryz.func144, Tryz.ntmps144
  go_wp2_with fail
  go_loopw [8] (fun i wr => ∃ k : Nat, k ≤ n ∧ i = .int .i64 k ∧ w = wr ∧ Hid (∀ j p, j < k → ps[j]? = some p → ((p.length : Int) != q) = false)) (fun i _ => n - (intOf i).toNat)
  case atStart => exact ⟨0, by omega, rfl, rfl, Lib.hid (fun j p hj => absurd hj (Nat.not_lt_zero _))⟩
  case round =>
    obtain ⟨k, hk, rfl, rfl, HA⟩ := hrel
    by_cases hlt : k < n
    · obtain ⟨b, o, rfl, hb, p, hp, Ai, ci, hc, hr⟩ := H.out.at_ hlt
      have HP := Lib.hid hp
      cases h20 : ((p.length : Int) != q)
      · have HC := Lib.hid (hfit1_any Ai p.length ci g z q w HG.out hz HQ.out false h20)
        have H20 := Lib.hid h20
        clear hp h20
        go_wp2_with fail
        refine HC.out.mono ?_
        rintro e w1 ⟨rfl, rfl⟩
        go_wp2_with fail
        go_roundw
        case rel => exact ⟨k + 1, by omega, by go_num, trivial, Lib.hid (fun j q hj hq => by
          rcases Nat.lt_or_eq_of_le (Nat.le_of_lt_succ hj) with h1 | h1
          · exact HA.out j q h1 hq
          · subst h1
            rw [HP.out] at hq
            rw [← Option.some.inj hq]
            exact H20.out)⟩
        case measure => simp [intOf]; omega
      · have HC := Lib.hid (hfit1_any Ai p.length ci g z q w HG.out hz HQ.out true h20)
        have H20 := Lib.hid h20
        clear hp h20
        go_wp2_with fail
        refine HC.out.mono ?_
        rintro e w1 ⟨rfl, rfl⟩
        go_wp2_with fail
        go_ret
        exact ⟨_, rfl, rfl, by
          rw [decide_eq_true (by omega : (0 : Int) ≤ (k : Int))]
          exact (List.any_eq_true.2 ⟨p, List.mem_of_getElem? HP.out, H20.out⟩).symm⟩
    · have hkn : k = n := by omega
      subst hkn
      go_wp2_with fail
      go_ret
      exact ⟨_, rfl, rfl, by
        symm
        rw [show decide ((0 : Int) ≤ -1) = false by decide, List.any_eq_false]
        intro p hp
        obtain ⟨j, hj, hpj⟩ := List.mem_iff_getElem.1 hp
        have := HA.out j p (by rw [HL.out] at hj; exact hj) (by rw [← hpj]; exact List.getElem?_eq_getElem hj)
        rw [this]; decide⟩
set_option maxRecDepth 100000 in
set_option maxHeartbeats 2000000 in
theorem hcontf_any (A : Option Addr) (n c g : Nat) (z q : Int) (ps : List (List UInt8)) (w : World) (h : RR w w.heap.size A n ps) (hn : n ≤ 1000) (hg : w.cell? ⟨g, 0, none⟩ = some (.int .i64 z)) (hz : z ≤ 9223372036854775807) (hq : szI z = q) (v : Bool) (hv : ps.any (fun p => ((p.length : Int) != q)) = v) :
    Calls Tryz.prog 133 #[.slice A n c, .func (.func 134) #[] #[.pointer (some ⟨g, 0, none⟩)]] w fun e w' => e = .returned (.bool v) ∧ w = w' := by
  have HI := Lib.hid (hindexf_any A n c g z q ps w h hn hg hz hq)
  have HV := Lib.hid hv
  clear h hv hn hg hq
  go_enter Tryz.func133, Tryz.ntmps133
  go_wp2_with fail
  refine HI.out.mono ?_
  rintro e w1 ⟨i, rfl, rfl, hi⟩
  rw [HV.out] at hi
  go_wp2_with fail
  go_ret
  exact ⟨rfl, rfl⟩
theorem RR.more2 {w : World} {B B' n : Nat} {A : Option Addr} {ps : List (List UInt8)} (h : RR w B A n ps) (hB : B ≤ B') : RR w B' A n ps :=
  ⟨h.1, fun h0 => by
    obtain ⟨b, o, e, hbb, hc⟩ := h.2 h0
    exact ⟨b, o, e, Nat.lt_of_lt_of_le hbb hB, fun i p hp => by
      obtain ⟨Ai, ci, h1, h2⟩ := hc i p hp
      exact ⟨Ai, ci, h1, h2.more hB⟩⟩⟩
set_option maxRecDepth 100000 in
set_option maxHeartbeats 2000000 in
theorem hfit_any (B : Option Addr) (n c : Nat) (z : Int) (ps : List (List UInt8)) (w : World) (h : RR w w.heap.size B n ps) (hn : n ≤ 1000) (hz : z ≤ 9223372036854775807) (v : Bool) (hv : (decide (2 ≤ z ∧ z ≤ 28) && ps.all (fun p => ((p.length : Int) == szI z))) = v) :
    Calls Tryz.prog 117 #[.int .i64 z, .slice B n c] w fun e w' => e = .returned (.bool v) ∧ Below w.heap.size w w' := by
  have hmf : ∀ (fn : Fn) (first cap : Array Value) (w : World), (Instr.makeFunc fn first cap).run Tryz.prog w = .ok (.func fn first cap) w := fun _ _ _ _ => rfl
  by_cases h2 : 2 ≤ z
  · by_cases h28 : z ≤ 28
    · have e1 : ps.any (fun p => ((p.length : Int) != szI z)) = !v := by
        rw [← hv, decide_eq_true ⟨h2, h28⟩, Bool.true_and, List.any_eq_not_all_not]
        simp only [bne, Bool.not_not]
      have HC := Lib.hid (hcontf_any B n c w.heap.size z _ ps (w.alloc (.cells #[.int .i64 z] 3)) ((h.below (below_alloc w _)).more2 (below_alloc w _).size) hn (World.cell?_alloc_at _ _ _ _ rfl) hz rfl _ e1)
      clear h hv e1
      go_enter Tryz.func117, Tryz.ntmps117
      go_wp2_with fail
      refine HC.out.mono ?_
      rintro e w1 ⟨rfl, rfl⟩
      cases v
      · go_wp2_with fail
        go_ret
        exact ⟨rfl, below_alloc _ _⟩
      · go_wp2_with fail
        go_ret
        exact ⟨rfl, below_alloc _ _⟩
    · have e : v = false := by rw [← hv, decide_eq_false (fun e => h28 e.2), Bool.false_and]
      subst e
      clear hv h
      go_enter Tryz.func117, Tryz.ntmps117
      go_wp2_with fail
      go_ret
      exact ⟨rfl, below_alloc _ _⟩
  · have e : v = false := by rw [← hv, decide_eq_false (fun e => h2 e.1), Bool.false_and]
    subst e
    clear hv h
    go_enter Tryz.func117, Tryz.ntmps117
    go_wp2_with fail
    go_ret
    exact ⟨rfl, below_alloc _ _⟩
theorem fit_eq (z : Int) (k : Nat) : fitB z k = (decide (2 ≤ z ∧ z ≤ 28) && ((k : Int) == szI z)) := by
  unfold fitB
  rw [Bool.eq_iff_iff, Bool.and_eq_true, decide_eq_true_eq, decide_eq_true_eq, beq_iff_eq, and_assoc]
/-- One part, two parts. -/
theorem hfit_1 (w : World) (A : Option Addr) (n c : Nat) (z : Int) (l : List UInt8) (h : RB w w.heap.size A n l) (hz : z ≤ 9223372036854775807) (v : Bool) (hv : fitB z l.length = v) :
    Calls Tryz.prog 117 #[.int .i64 z, .slice (some ⟨w.heap.size, 0, none⟩) 1 1] (w.alloc (.cells #[.slice A n c] 40)) (fun e w' => e = .returned (.bool v) ∧ Below w.heap.size w w') := by
  have e1 := h.len
  have hrr := RR.lit w [(A, c, l)] #[.slice A n c] 40 1 w.heap.size (by simp [e1]) rfl rfl (fun r hr => by
    simp only [List.mem_cons, List.not_mem_nil, or_false] at hr
    subst hr
    rw [e1]; exact h)
  refine (hfit_any _ 1 1 z [l] _ hrr (by omega) hz v (by rw [← hv, fit_eq]; simp only [List.all_cons, List.all_nil, Bool.and_true])).mono ?_
  rintro e w' ⟨rfl, hb⟩
  exact ⟨rfl, (below_alloc w _).trans (hb.mono (by simp))⟩
theorem hfit_2 (w : World) (A1 A2 : Option Addr) (n1 n2 c1 c2 : Nat) (z : Int) (l1 l2 : List UInt8) (h1 : RB w w.heap.size A1 n1 l1) (h2 : RB w w.heap.size A2 n2 l2) (hz : z ≤ 9223372036854775807) (v : Bool) (hv : (fitB z l1.length && fitB z l2.length) = v) :
    Calls Tryz.prog 117 #[.int .i64 z, .slice (some ⟨w.heap.size, 0, none⟩) 2 2] (w.alloc (.cells #[.slice A1 n1 c1, .slice A2 n2 c2] 40)) (fun e w' => e = .returned (.bool v) ∧ Below w.heap.size w w') := by
  have e1 := h1.len
  have e2 := h2.len
  have hrr := RR.lit w [(A1, c1, l1), (A2, c2, l2)] #[.slice A1 n1 c1, .slice A2 n2 c2] 40 2 w.heap.size (by simp [e1, e2]) rfl rfl (fun r hr => by
    simp only [List.mem_cons, List.not_mem_nil, or_false] at hr
    rcases hr with rfl | rfl
    · rw [e1]; exact h1
    · rw [e2]; exact h2)
  refine (hfit_any _ 2 2 z [l1, l2] _ hrr (by omega) hz v (by
    rw [← hv, fit_eq, fit_eq]
    simp only [List.all_cons, List.all_nil, Bool.and_true]
    cases decide (2 ≤ z ∧ z ≤ 28) <;> simp)).mono ?_
  rintro e w' ⟨rfl, hb⟩
  exact ⟨rfl, (below_alloc w _).trans (hb.mono (by simp))⟩
end Go.Proofs.YtkcchidklcnnnaaGreat

/- Layer 14's references Fours and Bytes, and append to a row that is full. Conditions: the slices' cells are readable, lengths are at most a million. -/
namespace Go.Proofs.YtkcchidklcnnnaaGreat
open Go.RowKit
set_option linter.unusedVariables false
set_option linter.unusedSimpArgs false
/-- append of bytes to a row of bytes that is full, whoever made it: a new row. -/
theorem wpList_appFull {w : World} {ops : Array Oper} {rest : List Oper} {o : Oper} {a : Act} {Q : Exit → Act → World → Prop} (hgd : o.guard = none) (s x : Operand)
    (ho : o.op = .call { callee := .builtin .append, args := #[s, x], argTypes := #[40, 40] })
    (base B : Nat) (A : Option Addr) (n : Nat) (l : List UInt8) (hs : a.eval s = .slice A n n) (hr0 : RB w B A n l) (hn : 0 < n)
    (A' : Option Addr) (m c' : Nat) (l' : List UInt8) (hx : a.eval x = .slice A' m c') (hr : RB w B A' m l') (hm : 0 < m)
    (hsum : n + m ≤ 140737488355328) (hbase : base ≤ w.heap.size)
    (h : ∀ A'' c'' w', OwnB w' base A'' (n + m) c'' (l ++ l') → Below w.heap.size w w' → wpList Tryz.prog ops Q rest (a.put o.dst (.slice A'' (n + m) c'')) w') : wpList Tryz.prog ops Q (o :: rest) a w := by
  obtain ⟨i0, hi0, hz0, hz1, hz2⟩ := info_parts u8_info
  obtain ⟨b, off, rfl, hb, hcell⟩ := hr0.2 hn
  obtain ⟨b2, off2, rfl, hb2, hcell2⟩ := hr.2 hm
  obtain ⟨v', w', hrun, h2, h3⟩ := run_append_arg_grows (P := Tryz.prog) w 40 o.type 5 i0 (.int .u8 0) 1 1 Tryz.underlying40 hi0 hz0 hz1 hz2 rfl (by omega)
    ⟨b, off, none⟩ n n (bvs l) (by rw [bvs_length, hr0.len]; omega) (fun j u hu => by
      have hj : j < l.length := by
        have := (List.getElem?_eq_some_iff.1 hu).1
        simpa [bvs] using this
      rw [Addr.add_lit, hcell j hj, ← hu]
      simp [bvs, hj])
    ⟨b2, off2, none⟩ m c' (bvs l') (by rw [bvs_length, hr.len]; omega) (fun j u hu => by
      have hj : j < l'.length := by
        have := (List.getElem?_eq_some_iff.1 hu).1
        simpa [bvs] using this
      rw [Addr.add_lit, hcell2 j hj, ← hu]
      simp [bvs, hj]) (by omega) (by unfold maxLen; omega) (by omega)
  obtain ⟨A'', c'', rfl⟩ : ∃ A'' c'', v' = .slice A'' (n + m) c'' := by
    rcases h2.2 with ⟨rfl, h0⟩ | ⟨g, cap, cur, rfl, _⟩
    · exact ⟨none, 0, by rw [h0]⟩
    · exact ⟨_, _, rfl⟩
  refine wpList_plain hgd fun K hK => ?_
  have hrun' := hrun
  unfold Oper.wp execOp
  simp only [ho, resolve, invoke, builtin, Sem.run_bind, Sem.run_pure, Result.andThen_ok, List.map_toArray, List.map_cons, List.map_nil, hs, hx, hrun']
  refine hK _ _ (h A'' c'' w' ?_ ((Below.refl _ _).grown h3 (Nat.le_refl _) (by simp)))
  have : OwnB w' w.heap.size A'' (n + m) c'' (l ++ l') := by unfold OwnB; rw [bvs_append]; exact h2
  exact this.base_le hbase
theorem by_div (x : UInt8) : (x.toNat : Int) / 16 = ((x / 16).toNat : Int) := hv_byte (p := fun x => (x.toNat : Int) / 16 = ((x / 16).toNat : Int)) (by decide +kernel) x
theorem by_wrap (x : UInt8) : IntKind.u8.wrap (x.toNat : Int) = (x.toNat : Int) := by have := x.toNat_lt; rw [IntKind.wrap_u8]; omega
theorem by_tmod (x : UInt8) : ((x.toNat : Int)).tmod 16 = ((x % 16).toNat : Int) := hv_byte (p := fun x => ((x.toNat : Int)).tmod 16 = ((x % 16).toNat : Int)) (by decide +kernel) x
theorem by_mul (x : UInt8) : IntKind.u8.wrap ((x.toNat : Int) * 16) = ((x * 16).toNat : Int) := by
  rw [IntKind.wrap_u8]
  exact hv_byte (p := fun x => (x.toNat : Int) * 16 % 256 = ((x * 16).toNat : Int)) (by decide +kernel) x
theorem by_add (x y : UInt8) : IntKind.u8.wrap ((x.toNat : Int) + (y.toNat : Int)) = ((x + y).toNat : Int) := by
  rw [IntKind.wrap_u8, UInt8.toNat_add]
  omega
set_option maxRecDepth 100000 in
set_option maxHeartbeats 1000000 in
theorem rfours_any (A : Option Addr) (n c : Nat) (l : List UInt8) (w : World) (h : RB w w.heap.size A n l) (hm : n ≤ 1000000) :
    Calls Tryz.prog 97 #[.slice A n c] w (RetB (2 * n) (foursL l) w) := by
  have HL := Lib.hid h.len
  go_enter Tryz.func97, Tryz.ntmps97
  go_wp2
  go_loopw [3, 4] (fun v i wr => ∃ (k c1 : Nat) (A1 : Option Addr), k ≤ n ∧ i = .int .i64 k ∧ v = .slice A1 (2 * k) c1 ∧ OwnB wr w.heap.size A1 (2 * k) c1 (foursL (l.take k)) ∧ Below w.heap.size w wr) (fun _ i _ => n - (intOf i).toNat)
  case atStart => exact ⟨0, 0, _, Nat.zero_le _, rfl, rfl, OwnB.lit w _ [] #[] 0 rfl rfl (by unfold maxLen; omega) (Nat.le_refl _), (Below.refl _ _).alloc (Nat.le_refl _) _⟩
  case round =>
    obtain ⟨k, c1, A1, hk, rfl, rfl, hown, hbel⟩ := hrel
    have hsz := hbel.size
    by_cases hlt : k < n
    · obtain ⟨b, o, rfl, hb, x, hx, hc⟩ := (h.below hbel).at_ hlt
      have HX := Lib.hid hx
      clear hx
      have hd1 := by_div x
      have hd2 := by_tmod x
      obtain ⟨y, hy⟩ : ∃ y, x / 16 = y := ⟨_, rfl⟩
      obtain ⟨z, hz⟩ : ∃ z, x % 16 = z := ⟨_, rfl⟩
      have HS : Hid (foursL (l.take (k + 1)) = foursL (l.take k) ++ [y, z]) := Lib.hid (by rw [← hy, ← hz]; exact fours_snoc HX.out)
      rw [hy] at hd1
      rw [hz] at hd2
      have hd3 := by_wrap y
      clear hy hz
      go_wp2
      go_region_law (refine step_app rfl (.tmp 12) (.tmp 23) rfl w.heap.size _ _ _ _ rfl (hown.alloc _).drew (wr.heap.size + 1) (some ⟨wr.heap.size, 0, none⟩) 2 2 [y, z] rfl (RB.new _ [y, z] _ _ (by rfl)).drew (by omega) (by simp; omega) ?_; intro A2 c2 w2 hown2 _ hb2)
      all_goals
        go_wp2
        go_roundw
        case rel => exact ⟨k + 1, c2, A2, by omega, by go_num, rfl, by rw [HS.out]; exact hown2, (hbel.alloc hsz _).drew.trans hb2⟩
        case measure => simp [intOf]; omega
    · obtain rfl : k = n := by omega
      rw [List.take_of_length_le (by have := HL.out; omega)] at hown
      go_wp2
      go_ret
      exact ⟨_, _, rfl, hown, hbel⟩
set_option maxRecDepth 100000 in
set_option maxHeartbeats 1000000 in
theorem rhvbytes_any (A : Option Addr) (n m c : Nat) (l : List UInt8) (w : World) (h : RB w w.heap.size A n l) (hnm : n = 2 * m) (hm : n ≤ 1000000) :
    Calls Tryz.prog 98 #[.slice A n c] w (RetB m (pairsL l) w) := by
  have HL := Lib.hid h.len
  have HNM := Lib.hid hnm
  have HM : Hid (m ≤ 1000000) := Lib.hid (by omega)
  clear hnm
  go_enter Tryz.func98, Tryz.ntmps98
  go_wp2
  go_loopw [3, 4] (fun v i wr => ∃ (k I c1 : Nat) (A1 : Option Addr), k ≤ m ∧ Hid (I = 2 * k) ∧ i = .int .i64 I ∧ v = .slice A1 k c1 ∧ OwnB wr w.heap.size A1 k c1 (pairsL (l.take (2 * k))) ∧ Below w.heap.size w wr) (fun _ i _ => n - (intOf i).toNat)
  case atStart => exact ⟨0, 0, 0, _, Nat.zero_le _, Lib.hid rfl, rfl, rfl, by simpa [pairsL] using OwnB.lit w w.heap.size [] #[] 0 rfl rfl (by unfold maxLen; omega) (Nat.le_refl _), (Below.refl _ _).alloc (Nat.le_refl _) _⟩
  case round =>
    obtain ⟨k, I, c1, A1, hk, hI, rfl, rfl, hown, hbel⟩ := hrel
    have hsz := hbel.size
    by_cases hlt : I < n
    · obtain ⟨b, o, rfl, hb, x, hx, hc⟩ := (h.below hbel).at_ hlt
      have hJ : I + 1 < n := by have := HNM.out; have := hI.out; omega
      obtain ⟨J, hJ1⟩ : ∃ J, J = I + 1 := ⟨_, rfl⟩
      rw [← hJ1] at hJ
      have hIJ : (I : Int) + 1 = (J : Int) := by omega
      obtain ⟨b', o', e', _, y, hy, hc'⟩ := (h.below hbel).at_ hJ
      injection e' with e'
      injection e' with e1 e2
      subst e1
      subst e2
      have HS : Hid (pairsL (l.take (2 * (k + 1))) = pairsL (l.take (2 * k)) ++ [x * 16 + y]) := Lib.hid (pairs_snoc (by rw [← hI.out]; exact hx) (by rw [← hI.out, ← hJ1]; exact hy))
      clear hx hy
      have hw1 := by_mul x
      obtain ⟨u, hu⟩ : ∃ u, x * 16 = u := ⟨_, rfl⟩
      have hw2 := by_add u y
      obtain ⟨z, hz⟩ : ∃ z, u + y = z := ⟨_, rfl⟩
      rw [hu, hz] at HS
      rw [hu] at hw1
      rw [hz] at hw2
      have HJ1 := Lib.hid hJ1
      have hkm : k < m := by have := HNM.out; have := hI.out; omega
      have HBEL := Lib.hid hbel
      have hJw : IntKind.i64.wrap (J : Int) = (J : Int) := by rw [IntKind.wrap_i64]; omega
      clear hu hz hJ1 hbel
      go_wp2
      go_region_law (refine step_app rfl (.tmp 12) (.tmp 24) rfl w.heap.size _ _ _ _ rfl (hown.alloc _).drew (wr.heap.size + 1) (some ⟨wr.heap.size, 0, none⟩) 1 1 [z] rfl (RB.new _ [z] _ _ (by rfl)).drew (by have := HM.out; omega) (by simp; omega) ?_; intro A2 c2 w2 hown2 _ hb2)
      all_goals
        go_wp2
        go_roundw
        case rel => exact ⟨k + 1, I + 2, c2, A2, by omega, Lib.hid (by have := hI.out; omega), by go_num, rfl, by rw [HS.out]; exact hown2, (HBEL.out.alloc hsz _).drew.trans hb2⟩
        case measure => simp [intOf]; omega
    · obtain rfl : k = m := by have := HNM.out; have := hI.out; omega
      rw [List.take_of_length_le (by have := HL.out; have := HNM.out; omega)] at hown
      go_wp2
      go_ret
      exact ⟨_, _, rfl, hown, hbel⟩
end Go.Proofs.YtkcchidklcnnnaaGreat

/- Layer 14's references Cut, Trim, Block. Conditions: the slices' cells are readable, lengths are at most a million. -/
namespace Go.Proofs.YtkcchidklcnnnaaGreat
open Go.RowKit
set_option linter.unusedVariables false
set_option linter.unusedSimpArgs false
/-- Two new rows and an error's number. -/
def RetBBE (a b : List UInt8) (code : Int) (w : World) (e : Ending) (w' : World) : Prop :=
  ∃ A n c A' n' c', e = .returned (.tuple #[.slice A n c, .slice A' n' c', .int .i64 code]) ∧ OwnB w' w.heap.size A n c a ∧ OwnB w' w.heap.size A' n' c' b ∧ Below w.heap.size w w'
theorem OwnB.apart {w w' : World} {B base2 n c n2 c2 : Nat} {A A2 : Option Addr} {l2 : List UInt8} (h2 : OwnB w base2 A2 n2 c2 l2) (h : ∀ a, A = some a → a.block < B) (hB : B ≤ base2) (hg : w.grownBy w' (Value.ownBlock (.slice A n c))) : OwnB w' base2 A2 n2 c2 l2 :=
  h2.oth (Oth.of_grown hg) (fun g o e hm => by
    obtain ⟨a, ea, hk⟩ := mem_blkO hm
    have h3 := (h2.spot _ e).2.1
    have h4 := h a ea
    simp only at h3
    omega)
attribute [local irreducible] foursL pairsL cutR trimL joinL blockL szN

set_option maxRecDepth 100000 in
set_option maxHeartbeats 4000000 in
theorem rcut_any (A : Option Addr) (n c : Nat) (l : List UInt8) (w : World) (h : RB w w.heap.size A n l) (hm : n ≤ 1000000) :
    Calls Tryz.prog 68 #[.slice A n c] w (RetBBE (cutR l).1 (cutR l).2.1 (cutR l).2.2 w) := by
  have HL := Lib.hid h.len
  by_cases hr : 2 ≤ n ∧ n ≤ 28
  · obtain ⟨h2, h28⟩ := hr
    have d1 : decide ((n : Int) < 2) = false := decide_eq_false (by omega)
    have d2 : decide (28 < (n : Int)) = false := decide_eq_false (by omega)
    by_cases hodd : n % 2 = 1
    · have HE := Lib.hid (cut_fours l (by have := HL.out; omega) (by have := HL.out; omega))
      rw [HL.out] at HE
      have hmod : ((n : Int) % 2 == 1) = true := by first | (rw [beq_iff_eq]; omega) | (rw [beq_eq_false_iff_ne]; omega)
      have HO : Hid (n % 2 = 1) := Lib.hid (by omega)
      obtain ⟨N, hN⟩ : ∃ N, N = 2 * n := ⟨_, rfl⟩
      have HN := Lib.hid hN
      have HC := Lib.hid (rfours_any A n c l w h hm)
      rw [← hN] at HC
      clear h
      go_enter Tryz.func68, Tryz.ntmps68
      go_wp2_with fail
      refine HC.out.mono ?_
      rintro e w1 ⟨A1, c1, rfl, ho1, hb1⟩
      have hcc := ho1.cap
      have R1 := Lib.hid (ho1.rb.part (i := 0) (j := n) (c := c1) (Nat.zero_le _) (by omega) hcc.1)
      have R2 := Lib.hid (ho1.rb.part (i := n) (j := N) (c := c1) (by omega) (Nat.le_refl _) hcc.1)
      have k1 := cut_h A1 N c1 n (by omega)
      have k2 := cut_l A1 N c1 n (by omega)
      have e2 : N - n = n := by omega
      rw [e2] at k2 R2
      rw [List.drop_zero, Nat.sub_zero] at R1
      rw [List.take_of_length_le (by rw [fours_len]; have := HL.out; have := HN.out; omega)] at R2
      have B1 := Lib.hid hb1
      obtain ⟨CA, HCA⟩ : ∃ CA, Hid (CA = cutA A1 c1 0) := ⟨_, Lib.hid rfl⟩
      obtain ⟨CB, HCB⟩ : ∃ CB, Hid (CB = cutA A1 c1 n) := ⟨_, Lib.hid rfl⟩
      rw [← HCA.out] at k1 R1
      rw [← HCB.out] at k2 R2
      clear HCA HCB ho1 hb1 hcc e2 hN
      go_wp2_with (first
        | (at_builtin; refine wpList_app rfl (.tmp 19) (.tmp 22) rfl w.heap.size _ _ _ [] rfl (by exact OwnB.lit w1 _ [] #[] 0 rfl rfl (by unfold maxLen; omega) B1.out.size) _ CA n c1 ((foursL l).take n) rfl (by exact R1.out.step (below_alloc _ _)) (by omega) (by have := B1.out.size; simp; omega) ?_; intro A2 c2 w2 ho2 hg2 hb2; have B2 : Hid (Below w.heap.size w w2 ∧ Below w1.heap.size w1 w2) := Lib.hid ⟨(B1.out.trans ((below_alloc w1 _).mono B1.out.size)).trans hb2, (below_alloc w1 _).trans (Below.grown (Below.refl _ _) hg2 (by simp) (fun k hk => by simp [Value.ownBlock] at hk; omega))⟩; have O2 : Hid (OwnB w2 w.heap.size A2 n c2 ((foursL l).take n)) := Lib.hid (by simpa using ho2); have R3 := Lib.hid (R2.out.step B2.out.2); clear ho2 hg2 hb2)
        | (at_builtin; refine wpList_app rfl (.tmp 24) (.tmp 27) rfl w2.heap.size _ _ _ [] rfl (by exact OwnB.lit w2 _ [] #[] 0 rfl rfl (by unfold maxLen; omega) (Nat.le_refl _)) _ CB n (c1 - n) ((foursL l).drop n) rfl (by exact R3.out.step (below_alloc _ _)) (by omega) (by simp) ?_; intro A3 c3 w3 ho3 hg3 hb3; have B3 : Hid (Below w2.heap.size w2 w3) := Lib.hid ((below_alloc w2 _).trans hb3); have O3 : Hid (OwnB w3 w2.heap.size A3 n c3 ((foursL l).drop n)) := Lib.hid (by simpa using ho3); clear ho3 hg3 hb3)
        | (at_builtin; refine wpList_app rfl (.tmp 32) (.tmp 33) rfl w.heap.size A2 n c2 ((foursL l).take n) rfl (by exact (O2.out.below B3.out).alloc _) _ _ 1 1 [0] rfl (by exact RB.new w3 [0] _ _ rfl) (by omega) (by exact Nat.le_trans (Nat.le_trans B2.out.1.size B3.out.size) (below_alloc w3 _).size) ?_; intro A4 c4 w4 ho4 hg4 hb4; have B4 : Hid (Below w.heap.size w w4) := Lib.hid (((B2.out.1.trans (B3.out.mono B2.out.1.size)).trans ((below_alloc w3 _).mono (Nat.le_trans B2.out.1.size B3.out.size))).trans hb4); have O4 := Lib.hid ho4; have O5 : Hid (OwnB w4 w2.heap.size A3 n c3 ((foursL l).drop n)) := Lib.hid ((O3.out.alloc _).apart (fun a ea => (O2.out.spot a ea).2.2) (Nat.le_refl _) hg4); have B24 : Hid (w2.heap.size ≤ w4.heap.size) := Lib.hid (Nat.le_trans B3.out.size (Nat.le_trans (below_alloc w3 _).size hg4.size)); clear ho4 hg4 hb4)
        | (at_builtin; refine wpList_app rfl (.tmp 35) (.tmp 36) rfl w4.heap.size _ _ _ [0] rfl (by exact OwnB.lit w4 _ [0] _ 1 rfl rfl (by unfold maxLen; omega) (Nat.le_refl _)) _ A3 n c3 ((foursL l).drop n) rfl (by exact (O5.out.rb).step (below_alloc _ _)) (by omega) (by simp) ?_; intro A6 c6 w6 ho6 hg6 hb6; have B6 : Hid (Below w4.heap.size w4 w6) := Lib.hid ((below_alloc w4 _).trans hb6); have O6 := Lib.hid ho6; clear ho6 hg6 hb6)
        | fail)
      have Q1 := Lib.hid (rhvbytes_any A4 (n + 1) (szN n) c4 _ w6 ((O4.out.below B6.out).rb) (by unfold szN; have := HO.out; omega) (by omega))
      refine Q1.out.mono ?_
      rintro e w7 ⟨A7, c7, rfl, ho7, hb7⟩
      have K7 := Lib.hid (And.intro ho7 hb7)
      have Q2 := Lib.hid (rhvbytes_any A6 (1 + n) (szN n) c6 _ w7 ((O6.out.below hb7).rb) (by unfold szN; have := HO.out; omega) (by omega))
      have HB : Hid (Below w.heap.size w w6 ∧ w.heap.size ≤ w6.heap.size) := Lib.hid (And.intro (B4.out.trans (B6.out.mono B4.out.size)) (Nat.le_trans B4.out.size B6.out.size))
      clear ho7 hb7 Q1
      go_wp2_with fail
      refine Q2.out.mono ?_
      rintro e w8 ⟨A8, c8, rfl, ho8, hb8⟩
      have K8 := Lib.hid (And.intro ho8 hb8)
      clear ho8 hb8 Q2
      go_wp2_with fail
      go_ret3
      rw [HE.out]
      rw [if_pos HO.out]
      exact ⟨A7, szN n, c7, A8, szN n, c8, rfl, (K7.out.1.below K8.out.2).base_le HB.out.2, K8.out.1.base_le (Nat.le_trans HB.out.2 K7.out.2.size), HB.out.1.trans ((K7.out.2.mono HB.out.2).trans (K8.out.2.mono (Nat.le_trans HB.out.2 K7.out.2.size)))⟩
    · have HE := Lib.hid (cut_fours l (by have := HL.out; omega) (by have := HL.out; omega))
      rw [HL.out] at HE
      have hmod : ((n : Int) % 2 == 1) = false := by first | (rw [beq_iff_eq]; omega) | (rw [beq_eq_false_iff_ne]; omega)
      have HO : Hid (¬ n % 2 = 1) := Lib.hid (by omega)
      obtain ⟨N, hN⟩ : ∃ N, N = 2 * n := ⟨_, rfl⟩
      have HN := Lib.hid hN
      have HC := Lib.hid (rfours_any A n c l w h hm)
      rw [← hN] at HC
      clear h
      go_enter Tryz.func68, Tryz.ntmps68
      go_wp2_with fail
      refine HC.out.mono ?_
      rintro e w1 ⟨A1, c1, rfl, ho1, hb1⟩
      have hcc := ho1.cap
      have R1 := Lib.hid (ho1.rb.part (i := 0) (j := n) (c := c1) (Nat.zero_le _) (by omega) hcc.1)
      have R2 := Lib.hid (ho1.rb.part (i := n) (j := N) (c := c1) (by omega) (Nat.le_refl _) hcc.1)
      have k1 := cut_h A1 N c1 n (by omega)
      have k2 := cut_l A1 N c1 n (by omega)
      have e2 : N - n = n := by omega
      rw [e2] at k2 R2
      rw [List.drop_zero, Nat.sub_zero] at R1
      rw [List.take_of_length_le (by rw [fours_len]; have := HL.out; have := HN.out; omega)] at R2
      have B1 := Lib.hid hb1
      obtain ⟨CA, HCA⟩ : ∃ CA, Hid (CA = cutA A1 c1 0) := ⟨_, Lib.hid rfl⟩
      obtain ⟨CB, HCB⟩ : ∃ CB, Hid (CB = cutA A1 c1 n) := ⟨_, Lib.hid rfl⟩
      rw [← HCA.out] at k1 R1
      rw [← HCB.out] at k2 R2
      clear HCA HCB ho1 hb1 hcc e2 hN
      go_wp2_with (first
        | (at_builtin; refine wpList_app rfl (.tmp 19) (.tmp 22) rfl w.heap.size _ _ _ [] rfl (by exact OwnB.lit w1 _ [] #[] 0 rfl rfl (by unfold maxLen; omega) B1.out.size) _ CA n c1 ((foursL l).take n) rfl (by exact R1.out.step (below_alloc _ _)) (by omega) (by have := B1.out.size; simp; omega) ?_; intro A2 c2 w2 ho2 hg2 hb2; have B2 : Hid (Below w.heap.size w w2 ∧ Below w1.heap.size w1 w2) := Lib.hid ⟨(B1.out.trans ((below_alloc w1 _).mono B1.out.size)).trans hb2, (below_alloc w1 _).trans (Below.grown (Below.refl _ _) hg2 (by simp) (fun k hk => by simp [Value.ownBlock] at hk; omega))⟩; have O2 : Hid (OwnB w2 w.heap.size A2 n c2 ((foursL l).take n)) := Lib.hid (by simpa using ho2); have R3 := Lib.hid (R2.out.step B2.out.2); clear ho2 hg2 hb2)
        | (at_builtin; refine wpList_app rfl (.tmp 24) (.tmp 27) rfl w2.heap.size _ _ _ [] rfl (by exact OwnB.lit w2 _ [] #[] 0 rfl rfl (by unfold maxLen; omega) (Nat.le_refl _)) _ CB n (c1 - n) ((foursL l).drop n) rfl (by exact R3.out.step (below_alloc _ _)) (by omega) (by simp) ?_; intro A3 c3 w3 ho3 hg3 hb3; have B3 : Hid (Below w2.heap.size w2 w3) := Lib.hid ((below_alloc w2 _).trans hb3); have O3 : Hid (OwnB w3 w2.heap.size A3 n c3 ((foursL l).drop n)) := Lib.hid (by simpa using ho3); clear ho3 hg3 hb3)
        | fail)
      have Q1 := Lib.hid (rhvbytes_any A2 n (szN n) c2 _ w3 ((O2.out.below B3.out).rb) (by unfold szN; have := HO.out; omega) (by omega))
      refine Q1.out.mono ?_
      rintro e w7 ⟨A7, c7, rfl, ho7, hb7⟩
      have K7 := Lib.hid (And.intro ho7 hb7)
      have Q2 := Lib.hid (rhvbytes_any A3 n (szN n) c3 _ w7 ((O3.out.below hb7).rb) (by unfold szN; have := HO.out; omega) (by omega))
      have HB : Hid (Below w.heap.size w w3 ∧ w.heap.size ≤ w3.heap.size) := Lib.hid (And.intro (B2.out.1.trans (B3.out.mono B2.out.1.size)) (Nat.le_trans B2.out.1.size B3.out.size))
      clear ho7 hb7 Q1
      go_wp2_with fail
      refine Q2.out.mono ?_
      rintro e w8 ⟨A8, c8, rfl, ho8, hb8⟩
      have K8 := Lib.hid (And.intro ho8 hb8)
      clear ho8 hb8 Q2
      go_wp2_with fail
      go_ret3
      rw [HE.out]
      rw [if_neg HO.out, List.append_nil, List.nil_append]
      exact ⟨A7, szN n, c7, A8, szN n, c8, rfl, (K7.out.1.below K8.out.2).base_le HB.out.2, K8.out.1.base_le (Nat.le_trans HB.out.2 K7.out.2.size), HB.out.1.trans ((K7.out.2.mono HB.out.2).trans (K8.out.2.mono (Nat.le_trans HB.out.2 K7.out.2.size)))⟩
  · have HE : Hid (cutR l = ([], [], 11)) := Lib.hid (by unfold cutR; rw [if_neg (by rw [HL.out]; exact hr)])
    by_cases h2 : n < 2
    · have d1 : decide ((n : Int) < 2) = true := decide_eq_true (by omega)
      clear h hr
      go_enter Tryz.func68, Tryz.ntmps68
      go_wp2_with fail
      go_ret3
      rw [HE.out]
      exact ⟨none, 0, 0, none, 0, 0, rfl, OwnB.nil_ _ _, OwnB.nil_ _ _, Below.refl _ _⟩
    · have d1 : decide ((n : Int) < 2) = false := decide_eq_false (by omega)
      have d2 : decide (28 < (n : Int)) = true := decide_eq_true (by omega)
      clear h hr
      go_enter Tryz.func68, Tryz.ntmps68
      go_wp2_with fail
      go_ret3
      rw [HE.out]
      exact ⟨none, 0, 0, none, 0, 0, rfl, OwnB.nil_ _ _, OwnB.nil_ _ _, Below.refl _ _⟩
end Go.Proofs.YtkcchidklcnnnaaGreat

/- Layer 14's references Trim and Block. Conditions: the slices' cells are readable, lengths are at most a million. -/
namespace Go.Proofs.YtkcchidklcnnnaaGreat
open Go.RowKit
set_option linter.unusedVariables false
set_option linter.unusedSimpArgs false
theorem trimR_no {l : List UInt8} {z : Int} {left : Bool} (h : fitB z l.length = false) : trimR l z left = ([], 11) := by unfold trimR; rw [h]; rfl
theorem blockR_no {l : List UInt8} {z p : Int} (h : (fitB z l.length && decide (0 ≤ p ∧ p ≤ 255)) = false) : blockR l z p = ([], 11) := by unfold blockR; rw [h]; rfl
theorem rep_snoc (k : Nat) : List.replicate (k + 1) (0 : UInt8) = List.replicate k 0 ++ [0] := List.replicate_succ'
theorem by_of (k : Nat) (h : k ≤ 255) : bv (UInt8.ofNat k) = .int .u8 (k : Int) := by
  unfold bv
  rw [UInt8.toNat_ofNat']
  congr 1
  omega
attribute [local irreducible] foursL pairsL cutR trimL joinL blockL
set_option maxRecDepth 100000 in
set_option maxHeartbeats 4000000 in
theorem rtrim_any (A : Option Addr) (n c : Nat) (l : List UInt8) (z : Int) (left : Bool) (w : World) (h : RB w w.heap.size A n l) (hm : n ≤ 1000000) :
    Calls Tryz.prog 122 #[.slice A n c, .int .i64 z, .bool left] w (RetBE (trimR l z left).1.length (trimR l z left).1 (trimR l z left).2 w) := by
  have HL := Lib.hid h.len
  cases hv : fitB z n
  · have HE : Hid (trimR l z left = ([], 11)) := Lib.hid (trimR_no (by rw [HL.out]; exact hv))
    have HF := Lib.hid (rhfit_any A n c z w false hv)
    clear h hv
    go_enter Tryz.func122, Tryz.ntmps122
    go_wp2_with fail
    refine HF.out.mono ?_
    rintro e w1 ⟨rfl, rfl⟩
    go_wp2_with fail
    go_ret2
    rw [HE.out]
    exact ⟨none, 0, rfl, OwnB.nil_ _ _, Below.refl _ _⟩
  · obtain ⟨N, rfl, h2, h28, hn⟩ := fitB_nat hv
    have HF := Lib.hid (rhfit_any A n c N w true hv)
    have HE := Lib.hid (trim_ok l N left h2 h28 (by rw [HL.out]; exact hn))
    have HT := Lib.hid (trim_fours l N left (by rw [HL.out]; exact hn) h2)
    have hs : szN N ≤ N ∧ 2 * szN N = N + N % 2 ∧ 0 < szN N := by unfold szN; omega
    obtain ⟨M, hM⟩ : ∃ M, M = 2 * n := ⟨_, rfl⟩
    have HC := Lib.hid (rfours_any A n c l w h hm)
    rw [← hM] at HC
    have HM := Lib.hid (show M = 2 * n from hM)
    have HLE : Hid ((trimL l N left).length = n) := Lib.hid (by rw [trim_len]; exact HL.out)
    have HN := Lib.hid (show n = szN N from hn)
    have hMN : N ≤ M := by omega
    have hM0 : 0 < M := by omega
    have hM28 : M ≤ 28 := by have := szN_le N h28; omega
    by_cases hodd : N % 2 = 1
    · have HO := Lib.hid hodd
      clear hodd
      cases left
      · skip
        have hodd := HO.out
        have hmod : ((N : Int) % 2 == 1) = true := by rw [beq_iff_eq]; omega
        have hNM : N < M := by omega
        clear hs hM hn hv
        go_enter Tryz.func122, Tryz.ntmps122
        go_wp2_with fail
        refine HF.out.mono ?_
        rintro e w0 ⟨rfl, rfl⟩
        go_wp2_with fail
        refine HC.out.mono ?_
        rintro e w1 ⟨A1, c1, rfl, ho, hb⟩
        obtain ⟨g, rfl, hg1, hg2⟩ := ho.form hM0
        have hc1 : w1.cell? ⟨g, 0, none⟩ = some (.int .u8 ((gd (foursL l) 0).toNat : Int)) := ho.cellAt (gd_lt (by rw [ho.len]; omega))
        have hf1 : w1.frozen? ⟨g, 0, none⟩ = false := ho.freeAt 0
        have S1 := Lib.hid (ho.stored 0 0 (.int .u8 0) rfl)
        have B1 := Lib.hid (hb.setCell (p := ⟨g, 0, none⟩) hg1 (.int .u8 0))
        have HQ := Lib.hid (rhvbytes_any (some ⟨g, 0, none⟩) M n c1 _ _ S1.out.rb HM.out (by omega))
        clear ho hb
        go_wp2_with fail
        refine HQ.out.mono ?_
        rintro e w2 ⟨A2, c2, rfl, ho2, hb2⟩
        have K2 := Lib.hid (And.intro (ho2.base_le B1.out.size) (bel_next B1.out hb2))
        clear ho2 hb2 hc1 hf1
        go_wp2_with fail
        go_ret2
        rw [HE.out]
        simp only
        rw [HLE.out, HT.out, if_pos HO.out]
        exact ⟨A2, c2, rfl, K2.out.1, K2.out.2⟩
      · skip
        have hodd := HO.out
        have hmod : ((N : Int) % 2 == 1) = true := by rw [beq_iff_eq]; omega
        have hNM : N < M := by omega
        clear hs hM hn hv
        go_enter Tryz.func122, Tryz.ntmps122
        go_wp2_with fail
        refine HF.out.mono ?_
        rintro e w0 ⟨rfl, rfl⟩
        go_wp2_with fail
        refine HC.out.mono ?_
        rintro e w1 ⟨A1, c1, rfl, ho, hb⟩
        obtain ⟨g, rfl, hg1, hg2⟩ := ho.form hM0
        have hc1 : w1.cell? ⟨g, N, none⟩ = some (.int .u8 ((gd (foursL l) N).toNat : Int)) := ho.cellAt (gd_lt (by rw [ho.len]; omega))
        have hf1 : w1.frozen? ⟨g, N, none⟩ = false := ho.freeAt N
        have S1 := Lib.hid (ho.stored N 0 (.int .u8 0) rfl)
        have B1 := Lib.hid (hb.setCell (p := ⟨g, N, none⟩) hg1 (.int .u8 0))
        have HQ := Lib.hid (rhvbytes_any (some ⟨g, 0, none⟩) M n c1 _ _ S1.out.rb HM.out (by omega))
        clear ho hb
        go_wp2_with fail
        refine HQ.out.mono ?_
        rintro e w2 ⟨A2, c2, rfl, ho2, hb2⟩
        have K2 := Lib.hid (And.intro (ho2.base_le B1.out.size) (bel_next B1.out hb2))
        clear ho2 hb2 hc1 hf1
        go_wp2_with fail
        go_ret2
        rw [HE.out]
        simp only
        rw [HLE.out, HT.out, if_pos HO.out]
        exact ⟨A2, c2, rfl, K2.out.1, K2.out.2⟩
    · have HO := Lib.hid hodd
      have hmod : ((N : Int) % 2 == 1) = false := by rw [beq_eq_false_iff_ne]; omega
      clear hs hM hn hv
      go_enter Tryz.func122, Tryz.ntmps122
      go_wp2_with fail
      refine HF.out.mono ?_
      rintro e w0 ⟨rfl, rfl⟩
      go_wp2_with fail
      refine HC.out.mono ?_
      rintro e w1 ⟨A1, c1, rfl, ho, hb⟩
      have B1 := Lib.hid hb
      have HQ := Lib.hid (rhvbytes_any A1 M n c1 _ w1 ho.rb HM.out (by omega))
      clear ho hb
      go_wp2_with fail
      refine HQ.out.mono ?_
      rintro e w2 ⟨A2, c2, rfl, ho2, hb2⟩
      have K2 := Lib.hid (And.intro (ho2.base_le B1.out.size) (bel_next B1.out hb2))
      clear ho2 hb2
      go_wp2_with fail
      go_ret2
      rw [HE.out]
      simp only
      rw [HLE.out, HT.out, if_neg HO.out]
      exact ⟨A2, c2, rfl, K2.out.1, K2.out.2⟩
set_option maxRecDepth 100000 in
set_option maxHeartbeats 4000000 in
theorem rblock_any (A : Option Addr) (n c : Nat) (l : List UInt8) (z p : Int) (w : World) (h : RB w w.heap.size A n l) (hm : n ≤ 1000000) :
    Calls Tryz.prog 121 #[.slice A n c, .int .i64 z, .int .i64 p] w (RetBE (blockR l z p).1.length (blockR l z p).1 (blockR l z p).2 w) := by
  have HL := Lib.hid h.len
  cases hv : fitB z n
  · have HE : Hid (blockR l z p = ([], 11)) := Lib.hid (blockR_no (by rw [HL.out, hv]; rfl))
    have HF := Lib.hid (rhfit_any A n c z w false hv)
    clear h hv
    go_enter Tryz.func121, Tryz.ntmps121
    go_wp2_with fail
    refine HF.out.mono ?_
    rintro e w1 ⟨rfl, rfl⟩
    go_wp2_with fail
    go_ret2
    rw [HE.out]
    exact ⟨none, 0, rfl, OwnB.nil_ _ _, Below.refl _ _⟩
  have HF := Lib.hid (rhfit_any A n c z w true hv)
  by_cases p0 : p < 0
  · have HE : Hid (blockR l z p = ([], 11)) := Lib.hid (blockR_no (by rw [HL.out, hv, decide_eq_false (by omega)]; rfl))
    have d1 : decide (p < 0) = true := decide_eq_true p0
    clear h hv p0
    go_enter Tryz.func121, Tryz.ntmps121
    go_wp2_with fail
    refine HF.out.mono ?_
    rintro e w1 ⟨rfl, rfl⟩
    go_wp2_with fail
    go_ret2
    rw [HE.out]
    exact ⟨none, 0, rfl, OwnB.nil_ _ _, Below.refl _ _⟩
  have d1 : decide (p < 0) = false := decide_eq_false p0
  by_cases p1 : 255 < p
  · have HE : Hid (blockR l z p = ([], 11)) := Lib.hid (blockR_no (by rw [HL.out, hv, decide_eq_false (by omega)]; rfl))
    have d2 : decide (255 < p) = true := decide_eq_true p1
    clear h hv p0 p1
    go_enter Tryz.func121, Tryz.ntmps121
    go_wp2_with fail
    refine HF.out.mono ?_
    rintro e w1 ⟨rfl, rfl⟩
    go_wp2_with fail
    go_ret2
    rw [HE.out]
    exact ⟨none, 0, rfl, OwnB.nil_ _ _, Below.refl _ _⟩
  have d2 : decide (255 < p) = false := decide_eq_false p1
  obtain ⟨N, rfl, h2, h28, hn⟩ := fitB_nat hv
  obtain ⟨P, rfl⟩ : ∃ P : Nat, p = (P : Int) := ⟨p.toNat, by omega⟩
  have hP : P ≤ 255 := by omega
  have HE := Lib.hid (block_ok l N P h2 h28 (by rw [HL.out]; exact hn) hP)
  have hn14 : n ≤ 14 := by have := szN_le N h28; omega
  have HBL : Hid (l ++ List.replicate (14 - n) 0 ++ [UInt8.ofNat N, UInt8.ofNat P] = blockL l N P) := Lib.hid (by rw [← HL.out]; unfold blockL; rfl)
  have HB16 : Hid ((blockL l N P).length = 16) := Lib.hid (block_len l N P (by rw [HL.out]; exact hn14))
  have H := Lib.hid h
  clear hv p0 p1 hn h
  go_enter Tryz.func121, Tryz.ntmps121
  go_wp2_with fail
  refine HF.out.mono ?_
  rintro e w1 ⟨rfl, rfl⟩
  go_wp2_with (first
    | (at_builtin; refine wpList_app rfl (.tmp 21) (.tmp 22) rfl w.heap.size _ _ _ [] rfl (by exact OwnB.lit w _ [] #[] 0 rfl rfl (by unfold maxLen; omega) (Nat.le_refl _)) _ A n c l rfl (by exact H.out.step (below_alloc _ _)) (by omega) (by simp) ?_; intro A2 c2 w2 ho2 hg2 hb2; have K2 : Hid (Below w.heap.size w w2 ∧ OwnB w2 w.heap.size A2 n c2 l) := Lib.hid ⟨(below_alloc w _).trans hb2, by simpa using ho2⟩; clear ho2 hg2 hb2))
  go_loopw [8] (fun o wr => ∃ (k c3 : Nat) (A3 : Option Addr), n ≤ k ∧ k ≤ 14 ∧ o = .slice A3 k c3 ∧ Hid (Below w.heap.size w wr ∧ OwnB wr w.heap.size A3 k c3 (l ++ List.replicate (k - n) 0))) (fun o _ => match o with | .slice _ k _ => 14 - k | _ => 0)
  case atStart => exact ⟨n, c2, A2, Nat.le_refl _, hn14, by simp, Lib.hid ⟨K2.out.1, by rw [Nat.sub_self, List.replicate_zero, List.append_nil]; exact K2.out.2⟩⟩
  case round =>
    obtain ⟨k, c3, A3, hk, hk14, rfl, HK⟩ := hrel
    by_cases hlt : k < 14
    · go_wp2_with (first
        | (at_builtin; refine wpList_app rfl (.tmp 27) (.tmp 28) rfl w.heap.size A3 k c3 _ rfl (by exact HK.out.2.alloc _) _ _ 1 1 [0] rfl (by exact RB.new wr [0] _ _ rfl) (by omega) (by exact Nat.le_trans HK.out.1.size (below_alloc wr _).size) ?_; intro A4 c4 w4 ho4 hg4 hb4; have K4 : Hid (Below w.heap.size w w4 ∧ OwnB w4 w.heap.size A4 (k + 1) c4 (l ++ List.replicate (k + 1 - n) 0)) := Lib.hid ⟨(HK.out.1.trans ((below_alloc wr _).mono HK.out.1.size)).trans hb4, by rw [show k + 1 - n = (k - n) + 1 by omega, rep_snoc, ← List.append_assoc]; exact ho4⟩; clear ho4 hg4 hb4))
      go_roundw
      case rel => exact ⟨k + 1, c4, A4, by omega, by omega, rfl, K4⟩
      case measure => simp; omega
    · obtain rfl : k = 14 := by omega
      have hw1 : IntKind.u8.wrap (N : Int) = (N : Int) := by rw [IntKind.wrap_u8]; omega
      have hw2 : IntKind.u8.wrap (P : Int) = (P : Int) := by rw [IntKind.wrap_u8]; omega
      go_wp2_with (first
        | (at_builtin; refine wpList_app rfl (.tmp 30) (.tmp 35) rfl w.heap.size A3 14 c3 _ rfl (by exact HK.out.2.alloc _) _ _ 2 2 [UInt8.ofNat N, UInt8.ofNat P] rfl (by exact RB.new wr _ _ _ (by unfold bvs; rw [List.map_cons, List.map_cons, List.map_nil, by_of N (by omega), by_of P hP])) (by omega) (by exact Nat.le_trans HK.out.1.size (below_alloc wr _).size) ?_; intro A4 c4 w4 ho4 hg4 hb4; have K4 := Lib.hid (And.intro ((HK.out.1.trans ((below_alloc wr _).mono HK.out.1.size)).trans hb4) ho4); clear ho4 hg4 hb4))
      go_ret2
      rw [HE.out]
      simp only
      rw [HB16.out, ← HBL.out]
      exact ⟨A4, c4, rfl, K4.out.2, K4.out.1⟩
end Go.Proofs.YtkcchidklcnnnaaGreat

