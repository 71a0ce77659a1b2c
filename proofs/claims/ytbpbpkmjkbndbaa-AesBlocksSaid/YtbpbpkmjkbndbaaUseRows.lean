/- What the references share on rows of bytes: SameRows compares them. Condition: the rows' cells are readable. -/
import Derived.Test.YtbpbpkmjkbndbaaRR
import Derived.Test.YtbpbpkmjkbndbaaUseBytes
namespace Go.Proofs.Ytbpbpkmjkbndbaa
open Go.RowKit
set_option linter.unusedVariables false

/-- A call that only draws, inside a region that draws its order. -/
theorem quiet_left2 {P : Program} {f : FuncId} {args : Array Value} {w : World} {n : Nat} {v : Value} (h : Calls P f args (w.drewN n) fun e w' => e = .returned v ∧ ∃ q, w' = (w.drewN n).drewN q) :
    Calls P f args (w.drewN n) fun e w'' => e = .returned v ∧ ∃ m, w'' = w.drewN m :=
  h.mono fun _ _ ⟨he, q, hq⟩ => ⟨he, n + q, by rw [hq]; exact World.drewN_drewN _ _ _⟩
/-- The same where draws came ahead of the region. -/
theorem quiet_left3 {P : Program} {f : FuncId} {args : Array Value} {w : World} {q x : Nat} {v : Value} (h : Calls P f args (w.drewN (q + x)) fun e w' => e = .returned v ∧ ∃ m, w' = (w.drewN (q + x)).drewN m) :
    Calls P f args (w.drewN (q + x)) fun e w'' => e = .returned v ∧ ∃ n, w'' = w.drewN (q + n) :=
  h.mono fun _ _ ⟨he, m, hq⟩ => ⟨he, x + m, by rw [hq, World.drewN_drewN, Nat.add_assoc]⟩
theorem take_row_eq {a b : List (List UInt8)} {k : Nat} {p q : List UInt8} (h : a.take k = b.take k) (hp : a[k]? = some p) (hq : b[k]? = some q) (e : p = q) : a.take (k + 1) = b.take (k + 1) := by
  rw [take_row hp, take_row hq, h, e]

set_option maxRecDepth 100000 in
set_option maxHeartbeats 1000000 in
/-- The references' comparison of rows. -/
theorem rows_same (A A' : Option Addr) (n c n' c' B B' : Nat) (ps ps' : List (List UInt8)) (w : World) (h : RR w B A n ps) (h' : RR w B' A' n' ps') (hm : n ≤ maxLen) (hm' : n' ≤ maxLen) (hp0 : ∀ p ∈ ps, p.length ≤ maxLen) (hp0' : ∀ p ∈ ps', p.length ≤ maxLen) :
    Calls Try.prog 12 #[.slice A n c, .slice A' n' c'] w fun e w' => e = .returned (.bool (ps == ps')) ∧ ∃ q, w' = w.drewN q := by
  unfold maxLen at hm hm'
  by_cases hne : n = n'
  · subst hne
    go_enter Try.func12, Try.ntmps12
    go_wp2
    go_loopw [5] (fun i wr => ∃ k q : Nat, k ≤ n ∧ i = .int .i64 k ∧ wr = w.drewN q ∧ Hid (ps.take k = ps'.take k)) (fun i _ => n - (intOf i).toNat)
    case atStart => exact ⟨0, 0, Nat.zero_le _, rfl, rfl, rfl⟩
    case round =>
      obtain ⟨k, q, hk, rfl, rfl, he⟩ := hrel
      by_cases hlt : k < n
      · obtain ⟨b, o, rfl, hb, p, hp, Ai, ci, hc, hr⟩ := h.at_ hlt
        obtain ⟨b', o', rfl, hb', p', hp', Ai', ci', hc', hr'⟩ := h'.at_ hlt
        have hpl := hp0 p (List.mem_of_getElem? hp)
        have hpl' := hp0' p' (List.mem_of_getElem? hp')
        have HX := Lib.hid hp
        have HX' := Lib.hid hp'
        obtain ⟨v, HV⟩ : ∃ v, Hid ((p == p') = v) := ⟨_, Lib.hid rfl⟩
        have hnot : ∀ (x : Bool) (w : World), (Op.unary .not (.bool x)).run Try.prog w = .ok (.bool (!x)) w := fun _ _ => rfl
        have HS : Hid (∀ W : World, RB W B Ai p.length p → RB W B' Ai' p'.length p' → Calls Try.prog 17 #[.slice Ai p.length ci, .slice Ai' p'.length ci'] W fun e w' => e = .returned (.bool v) ∧ ∃ q, w' = W.drewN q) := Lib.hid (fun W h1 h2 => by rw [← HV.out]; exact same_any Ai Ai' _ ci _ ci' B B' p p' W h1 h2 hpl hpl')
        have HR := Lib.hid hr
        have HR' := Lib.hid hr'
        clear hp hp' hr hr' hpl hpl'
        rcases v with _ | _
        · go_wp2
          go_quiet ((go_at_call 17; exact quiet_left3 (HS.out _ (by exact HR.out.drewN _) (by exact HR'.out.drewN _))))
          go_wp2
          go_ret
          exact ⟨ret1b (by
            symm
            rw [Bool.eq_false_iff]
            intro e
            have e' := eq_of_beq e
            have h1 := HX.out
            rw [e', HX'.out] at h1
            have h2 := HV.out
            rw [(Option.some.inj h1).symm] at h2
            simp at h2), q + nq, World.drewN_drewN _ _ _⟩
        · go_wp2
          go_quiet ((go_at_call 17; exact quiet_left3 (HS.out _ (by exact HR.out.drewN _) (by exact HR'.out.drewN _))))
          go_wp2
          go_roundw
          case rel => exact ⟨k + 1, _, by omega, by go_num, rfl, Lib.hid (take_row_eq he.out HX.out HX'.out (eq_of_beq HV.out))⟩
          case measure => simp [intOf]; omega
      · go_wp2
        go_ret
        exact ⟨ret1b (by
          have e : ps = ps' := by
            have := he.out
            rwa [List.take_of_length_le (by have := h.len; omega), List.take_of_length_le (by have := h'.len; omega)] at this
          rw [e]
          simp), _, rfl⟩
  · have hne2 : ((n : Int) != (n' : Int)) = true := by rw [bne_iff_ne]; omega
    go_enter Try.func12, Try.ntmps12
    go_wp2
    go_ret
    exact ⟨ret1b (by symm; rw [Bool.eq_false_iff]; intro e; exact hne (by rw [← h.len, ← h'.len, eq_of_beq e])), 0, rfl⟩
end Go.Proofs.Ytbpbpkmjkbndbaa
