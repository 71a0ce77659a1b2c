/- Layer 14's references Fours and Bytes, and append to a row that is full. Conditions: the slices' cells are readable, lengths are at most a million. -/
import Derived.Test.YtfipdaekfdbaeaaGreatHvA
import Derived.ArgAppend
namespace Go.Proofs.YtfipdaekfdbaeaaGreat
open Go.RowKit
set_option linter.unusedVariables false
set_option linter.unusedSimpArgs false
/-- append of bytes to a row of bytes that is full, whoever made it: a new row. -/
theorem wpList_appFull {w : World} {ops : Array Oper} {rest : List Oper} {o : Oper} {a : Act} {Q : Exit → Act → World → Prop} (hgd : o.guard = none) (s x : Operand)
    (ho : o.op = .call { callee := .builtin .append, args := #[s, x], argTypes := #[25, 25] })
    (base B : Nat) (A : Option Addr) (n : Nat) (l : List UInt8) (hs : a.eval s = .slice A n n) (hr0 : RB w B A n l) (hn : 0 < n)
    (A' : Option Addr) (m c' : Nat) (l' : List UInt8) (hx : a.eval x = .slice A' m c') (hr : RB w B A' m l') (hm : 0 < m)
    (hsum : n + m ≤ 140737488355328) (hbase : base ≤ w.heap.size)
    (h : ∀ A'' c'' w', OwnB w' base A'' (n + m) c'' (l ++ l') → Below w.heap.size w w' → wpList Tryz.prog ops Q rest (a.put o.dst (.slice A'' (n + m) c'')) w') : wpList Tryz.prog ops Q (o :: rest) a w := by
  obtain ⟨i0, hi0, hz0, hz1, hz2⟩ := info_parts u8_info
  obtain ⟨b, off, rfl, hb, hcell⟩ := hr0.2 hn
  obtain ⟨b2, off2, rfl, hb2, hcell2⟩ := hr.2 hm
  obtain ⟨v', w', hrun, h2, h3⟩ := run_append_arg_grows (P := Tryz.prog) w 25 o.type 5 i0 (.int .u8 0) 1 1 Tryz.underlying25 hi0 hz0 hz1 hz2 rfl (by omega)
    ⟨b, off, none⟩ n n (bvs l) (by rw [bvs_length, hr0.len]; omega) (fun j u hu => by
      have hj : j < l.length := by
        have := (List.getElem?_eq_some_iff.1 hu).1
        simpa [bvs] using this
      rw [Addr.add_lit, hcell j hj, ← hu]
      simp [bvs, hj])
    ⟨b2, off2, none⟩ m c' (bvs l') (by rw [bvs_length, hr.len]; omega) (fun j u hu => by
      have hj : j < l'.length := by
        have := (List.getElem?_eq_some_iff.1 hu).1
        simpa [bvs] using this
      rw [Addr.add_lit, hcell2 j hj, ← hu]
      simp [bvs, hj]) (by omega) (by unfold maxLen; omega) (by omega)
  obtain ⟨A'', c'', rfl⟩ : ∃ A'' c'', v' = .slice A'' (n + m) c'' := by
    rcases h2.2 with ⟨rfl, h0⟩ | ⟨g, cap, cur, rfl, _⟩
    · exact ⟨none, 0, by rw [h0]⟩
    · exact ⟨_, _, rfl⟩
  refine wpList_plain hgd fun K hK => ?_
  have hrun' := hrun
  unfold Oper.wp execOp
  simp only [ho, resolve, invoke, builtin, Sem.run_bind, Sem.run_pure, Result.andThen_ok, List.map_toArray, List.map_cons, List.map_nil, hs, hx, hrun']
  refine hK _ _ (h A'' c'' w' ?_ ((Below.refl _ _).grown h3 (Nat.le_refl _) (by simp)))
  have : OwnB w' w.heap.size A'' (n + m) c'' (l ++ l') := by unfold OwnB; rw [bvs_append]; exact h2
  exact this.base_le hbase
theorem by_div (x : UInt8) : (x.toNat : Int) / 16 = ((x / 16).toNat : Int) := hv_byte (p := fun x => (x.toNat : Int) / 16 = ((x / 16).toNat : Int)) (by decide +kernel) x
theorem by_mod (x : UInt8) : (x.toNat : Int) % 16 = ((x % 16).toNat : Int) := hv_byte (p := fun x => (x.toNat : Int) % 16 = ((x % 16).toNat : Int)) (by decide +kernel) x
theorem by_wrap (x : UInt8) : IntKind.u8.wrap (x.toNat : Int) = (x.toNat : Int) := by have := x.toNat_lt; rw [IntKind.wrap_u8]; omega
theorem by_tmod (x : UInt8) : ((x.toNat : Int)).tmod 16 = ((x % 16).toNat : Int) := hv_byte (p := fun x => ((x.toNat : Int)).tmod 16 = ((x % 16).toNat : Int)) (by decide +kernel) x
theorem cells2 {y z : UInt8} {a b : Int} (h1 : a = (y.toNat : Int)) (h2 : b = (z.toNat : Int)) : #[Value.int .u8 a, Value.int .u8 b] = (bvs [y, z]).toArray := by subst h1; subst h2; rfl
theorem by_mul (x : UInt8) : IntKind.u8.wrap ((x.toNat : Int) * 16) = ((x * 16).toNat : Int) := by
  rw [IntKind.wrap_u8]
  exact hv_byte (p := fun x => (x.toNat : Int) * 16 % 256 = ((x * 16).toNat : Int)) (by decide +kernel) x
theorem by_add (x y : UInt8) : IntKind.u8.wrap ((x.toNat : Int) + (y.toNat : Int)) = ((x + y).toNat : Int) := by
  rw [IntKind.wrap_u8, UInt8.toNat_add]
  omega
set_option maxRecDepth 100000 in
set_option maxHeartbeats 1000000 in
theorem rfours_any (A : Option Addr) (n c : Nat) (l : List UInt8) (w : World) (h : RB w w.heap.size A n l) (hm : n ≤ 1000000) :
    Calls Tryz.prog 82 #[.slice A n c] w (RetB (2 * n) (foursL l) w) := by
  have HL := Lib.hid h.len
  go_enter Tryz.func82, Tryz.ntmps82
  go_wp2
  go_loopw [3, 4] (fun v i wr => ∃ (k c1 : Nat) (A1 : Option Addr), k ≤ n ∧ i = .int .i64 k ∧ v = .slice A1 (2 * k) c1 ∧ OwnB wr w.heap.size A1 (2 * k) c1 (foursL (l.take k)) ∧ Below w.heap.size w wr) (fun _ i _ => n - (intOf i).toNat)
  case atStart => exact ⟨0, 0, _, Nat.zero_le _, rfl, rfl, OwnB.lit w _ [] #[] 0 rfl rfl (by unfold maxLen; omega) (Nat.le_refl _), (Below.refl _ _).alloc (Nat.le_refl _) _⟩
  case round =>
    obtain ⟨k, c1, A1, hk, rfl, rfl, hown, hbel⟩ := hrel
    have hsz := hbel.size
    by_cases hlt : k < n
    · obtain ⟨b, o, rfl, hb, x, hx, hc⟩ := (h.below hbel).at_ hlt
      have HX := Lib.hid hx
      clear hx
      have hd1 := by_div x
      have hd2 := by_tmod x
      obtain ⟨y, hy⟩ : ∃ y, x / 16 = y := ⟨_, rfl⟩
      obtain ⟨z, hz⟩ : ∃ z, x % 16 = z := ⟨_, rfl⟩
      have HS : Hid (foursL (l.take (k + 1)) = foursL (l.take k) ++ [y, z]) := Lib.hid (by rw [← hy, ← hz]; exact fours_snoc HX.out)
      rw [hy] at hd1
      rw [hz] at hd2
      have hd3 := by_wrap y
      clear hy hz
      go_wp2
      go_region_law (refine step_app rfl (.tmp 12) (.tmp 23) rfl w.heap.size _ _ _ _ rfl (hown.alloc _).drew (wr.heap.size + 1) (some ⟨wr.heap.size, 0, none⟩) 2 2 [y, z] rfl (RB.new _ [y, z] _ _ (by rfl)).drew (by omega) (by simp; omega) ?_; intro A2 c2 w2 hown2 _ hb2)
      all_goals
        go_wp2
        go_roundw
        case rel => exact ⟨k + 1, c2, A2, by omega, by go_num, rfl, by rw [HS.out]; exact hown2, (hbel.alloc hsz _).drew.trans hb2⟩
        case measure => simp [intOf]; omega
    · obtain rfl : k = n := by omega
      rw [List.take_of_length_le (by have := HL.out; omega)] at hown
      go_wp2
      go_ret
      exact ⟨_, _, rfl, hown, hbel⟩
set_option maxRecDepth 100000 in
set_option maxHeartbeats 1000000 in
theorem rhvbytes_any (A : Option Addr) (n m c : Nat) (l : List UInt8) (w : World) (h : RB w w.heap.size A n l) (hnm : n = 2 * m) (hm : n ≤ 1000000) :
    Calls Tryz.prog 83 #[.slice A n c] w (RetB m (pairsL l) w) := by
  have HL := Lib.hid h.len
  have HNM := Lib.hid hnm
  have HM : Hid (m ≤ 1000000) := Lib.hid (by omega)
  clear hnm
  go_enter Tryz.func83, Tryz.ntmps83
  go_wp2
  go_loopw [3, 4] (fun v i wr => ∃ (k I c1 : Nat) (A1 : Option Addr), k ≤ m ∧ Hid (I = 2 * k) ∧ i = .int .i64 I ∧ v = .slice A1 k c1 ∧ OwnB wr w.heap.size A1 k c1 (pairsL (l.take (2 * k))) ∧ Below w.heap.size w wr) (fun _ i _ => n - (intOf i).toNat)
  case atStart => exact ⟨0, 0, 0, _, Nat.zero_le _, Lib.hid rfl, rfl, rfl, by simpa [pairsL] using OwnB.lit w w.heap.size [] #[] 0 rfl rfl (by unfold maxLen; omega) (Nat.le_refl _), (Below.refl _ _).alloc (Nat.le_refl _) _⟩
  case round =>
    obtain ⟨k, I, c1, A1, hk, hI, rfl, rfl, hown, hbel⟩ := hrel
    have hsz := hbel.size
    by_cases hlt : I < n
    · obtain ⟨b, o, rfl, hb, x, hx, hc⟩ := (h.below hbel).at_ hlt
      have hJ : I + 1 < n := by have := HNM.out; have := hI.out; omega
      obtain ⟨J, hJ1⟩ : ∃ J, J = I + 1 := ⟨_, rfl⟩
      rw [← hJ1] at hJ
      have hIJ : (I : Int) + 1 = (J : Int) := by omega
      obtain ⟨b', o', e', _, y, hy, hc'⟩ := (h.below hbel).at_ hJ
      injection e' with e'
      injection e' with e1 e2
      subst e1
      subst e2
      have HS : Hid (pairsL (l.take (2 * (k + 1))) = pairsL (l.take (2 * k)) ++ [x * 16 + y]) := Lib.hid (pairs_snoc (by rw [← hI.out]; exact hx) (by rw [← hI.out, ← hJ1]; exact hy))
      clear hx hy
      have hw1 := by_mul x
      obtain ⟨u, hu⟩ : ∃ u, x * 16 = u := ⟨_, rfl⟩
      have hw2 := by_add u y
      obtain ⟨z, hz⟩ : ∃ z, u + y = z := ⟨_, rfl⟩
      rw [hu, hz] at HS
      rw [hu] at hw1
      rw [hz] at hw2
      have HJ1 := Lib.hid hJ1
      have hkm : k < m := by have := HNM.out; have := hI.out; omega
      have HBEL := Lib.hid hbel
      have hJw : IntKind.i64.wrap (J : Int) = (J : Int) := by rw [IntKind.wrap_i64]; omega
      clear hu hz hJ1 hbel
      go_wp2
      go_region_law (refine step_app rfl (.tmp 12) (.tmp 24) rfl w.heap.size _ _ _ _ rfl (hown.alloc _).drew (wr.heap.size + 1) (some ⟨wr.heap.size, 0, none⟩) 1 1 [z] rfl (RB.new _ [z] _ _ (by rfl)).drew (by have := HM.out; omega) (by simp; omega) ?_; intro A2 c2 w2 hown2 _ hb2)
      all_goals
        go_wp2
        go_roundw
        case rel => exact ⟨k + 1, I + 2, c2, A2, by omega, Lib.hid (by have := hI.out; omega), by go_num, rfl, by rw [HS.out]; exact hown2, (HBEL.out.alloc hsz _).drew.trans hb2⟩
        case measure => simp [intOf]; omega
    · obtain rfl : k = m := by have := HNM.out; have := hI.out; omega
      rw [List.take_of_length_le (by have := HL.out; have := HNM.out; omega)] at hown
      go_wp2
      go_ret
      exact ⟨_, _, rfl, hown, hbel⟩
end Go.Proofs.YtfipdaekfdbaeaaGreat
