/- Layer 14's references Fours and Bytes, and append to a row that is full. Conditions: the slices' cells are readable, lengths are at most a million. -/
import Derived.Test.YtgmedeldjlmlmaaHvA
import Derived.ArgAppend
namespace Go.Proofs.Ytgmedeldjlmlmaa
open Go.RowKit
set_option linter.unusedVariables false
set_option linter.unusedSimpArgs false
/-- append of bytes to a row of bytes that is full, whoever made it: a new row. -/
theorem wpList_appFull {w : World} {ops : Array Oper} {rest : List Oper} {o : Oper} {a : Act} {Q : Exit → Act → World → Prop} (hgd : o.guard = none) (s x : Operand)
    (ho : o.op = .call { callee := .builtin .append, args := #[s, x], argTypes := #[22, 22] })
    (base B : Nat) (A : Option Addr) (n : Nat) (l : List UInt8) (hs : a.eval s = .slice A n n) (hr0 : RB w B A n l) (hn : 0 < n)
    (A' : Option Addr) (m c' : Nat) (l' : List UInt8) (hx : a.eval x = .slice A' m c') (hr : RB w B A' m l') (hm : 0 < m)
    (hsum : n + m ≤ 140737488355328) (hbase : base ≤ w.heap.size)
    (h : ∀ A'' c'' w', OwnB w' base A'' (n + m) c'' (l ++ l') → Below w.heap.size w w' → wpList Try.prog ops Q rest (a.put o.dst (.slice A'' (n + m) c'')) w') : wpList Try.prog ops Q (o :: rest) a w := by
  obtain ⟨i0, hi0, hz0, hz1, hz2⟩ := info_parts u8_info
  obtain ⟨b, off, rfl, hb, hcell⟩ := hr0.2 hn
  obtain ⟨b2, off2, rfl, hb2, hcell2⟩ := hr.2 hm
  obtain ⟨v', w', hrun, h2, h3⟩ := run_append_arg_grows (P := Try.prog) w 22 o.type 5 i0 (.int .u8 0) 1 1 Try.underlying22 hi0 hz0 hz1 hz2 rfl (by omega)
    ⟨b, off, none⟩ n n (bvs l) (by rw [bvs_length, hr0.len]; omega) (fun j u hu => by
      have hj : j < l.length := by
        have := (List.getElem?_eq_some_iff.1 hu).1
        simpa [bvs] using this
      rw [Addr.add_lit, hcell j hj, ← hu]
      simp [bvs, hj])
    ⟨b2, off2, none⟩ m c' (bvs l') (by rw [bvs_length, hr.len]; omega) (fun j u hu => by
      have hj : j < l'.length := by
        have := (List.getElem?_eq_some_iff.1 hu).1
        simpa [bvs] using this
      rw [Addr.add_lit, hcell2 j hj, ← hu]
      simp [bvs, hj]) (by omega) (by unfold maxLen; omega) (by omega)
  obtain ⟨A'', c'', rfl⟩ : ∃ A'' c'', v' = .slice A'' (n + m) c'' := by
    rcases h2.2 with ⟨rfl, h0⟩ | ⟨g, cap, cur, rfl, _⟩
    · exact ⟨none, 0, by rw [h0]⟩
    · exact ⟨_, _, rfl⟩
  refine wpList_plain hgd fun K hK => ?_
  have hrun' := hrun
  unfold Oper.wp execOp
  simp only [ho, resolve, invoke, builtin, Sem.run_bind, Sem.run_pure, Result.andThen_ok, List.map_toArray, List.map_cons, List.map_nil, hs, hx, hrun']
  refine hK _ _ (h A'' c'' w' ?_ ((Below.refl _ _).grown h3 (Nat.le_refl _) (by simp)))
  have : OwnB w' w.heap.size A'' (n + m) c'' (l ++ l') := by unfold OwnB; rw [bvs_append]; exact h2
  exact this.base_le hbase
theorem by_div (x : UInt8) : (x.toNat : Int) / 16 = ((x / 16).toNat : Int) := hv_byte (p := fun x => (x.toNat : Int) / 16 = ((x / 16).toNat : Int)) (by decide +kernel) x
theorem by_mod (x : UInt8) : (x.toNat : Int) % 16 = ((x % 16).toNat : Int) := hv_byte (p := fun x => (x.toNat : Int) % 16 = ((x % 16).toNat : Int)) (by decide +kernel) x
theorem by_wrap (x : UInt8) : IntKind.u8.wrap (x.toNat : Int) = (x.toNat : Int) := by have := x.toNat_lt; rw [IntKind.wrap_u8]; omega
theorem by_tmod (x : UInt8) : ((x.toNat : Int)).tmod 16 = ((x % 16).toNat : Int) := hv_byte (p := fun x => ((x.toNat : Int)).tmod 16 = ((x % 16).toNat : Int)) (by decide +kernel) x
theorem cells2 {y z : UInt8} {a b : Int} (h1 : a = (y.toNat : Int)) (h2 : b = (z.toNat : Int)) : #[Value.int .u8 a, Value.int .u8 b] = (bvs [y, z]).toArray := by subst h1; subst h2; rfl
theorem by_mul (x : UInt8) : IntKind.u8.wrap ((x.toNat : Int) * 16) = ((x * 16).toNat : Int) := by
  rw [IntKind.wrap_u8]
  exact hv_byte (p := fun x => (x.toNat : Int) * 16 % 256 = ((x * 16).toNat : Int)) (by decide +kernel) x
theorem by_add (x y : UInt8) : IntKind.u8.wrap ((x.toNat : Int) + (y.toNat : Int)) = ((x + y).toNat : Int) := by
  rw [IntKind.wrap_u8, UInt8.toNat_add]
  omega
end Go.Proofs.Ytgmedeldjlmlmaa
