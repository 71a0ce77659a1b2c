/- Layer 17: what a walk of a statement carries: rows of bytes, configurations and parts in variables; the statements' Same. No condition; nothing is claimed of the program here. -/
import Derived.Test.YtkcchidklcnnnaaGreatCdM
import Derived.Test.YtkcchidklcnnnaaGreatMdC
import Derived.Test.YtkcchidklcnnnaaGreatCdB
import Derived.Test.YtkcchidklcnnnaaGreatUseBytes
namespace Go.Proofs.YtkcchidklcnnnaaGreat
open Go.RowKit
set_option linter.unusedVariables false
set_option linter.unusedSimpArgs false
structure DK (v : World) (rows : List (Option Addr × Nat × Nat × List UInt8)) (cs : List (TypeId × Nat × Cfg)) (ps : List (TypeId × Nat × List Value)) (w : World) : Prop where
  ck : MK v rows cs w
  pt : ∀ r ∈ ps, Blk r.1 w r.2.1 r.2.2
section
variable {v w w1 w' : World} {rows : List (Option Addr × Nat × Nat × List UInt8)} {cs : List (TypeId × Nat × Cfg)} {ps : List (TypeId × Nat × List Value)} {A B : Option Addr} {n c m d q : Nat} {l r : List UInt8} {T : TypeId} {g : Cfg} {vs : List Value}
theorem DK.hw (k : DK v rows cs ps w) : HW v rows w := k.ck.hw
theorem DK.cf (k : DK v rows cs ps w) : ∀ r ∈ cs, Blk r.1 w r.2.1 r.2.2.cells ∧ r.2.2.ok := k.ck.cf
theorem DK.start (w : World) : DK w [] [] [] w := ⟨MK.start w, fun r hr => by cases hr⟩
theorem DK.step (k : DK v rows cs ps w) (hb : Below w.heap.size w w') : DK v rows cs ps w' := ⟨k.ck.step hb, fun r hr => (k.pt r hr).step hb⟩
theorem DK.add (k : DK v rows cs ps w) (h : RB w w.heap.size A n l) (h1 : n ≤ c) (h2 : c ≤ maxLen) : DK v ((A, n, c, l) :: rows) cs ps w := ⟨k.ck.add h h1 h2, k.pt⟩
theorem DK.own (k : DK v rows cs ps w) (hb : Below w.heap.size w w') (ho : OwnB w' w.heap.size A n c l) : DK v ((A, n, c, l) :: rows) cs ps w' := ⟨k.ck.own hb ho, (k.step hb).pt⟩
theorem DK.lit (k : DK v rows cs ps w) (ls : List UInt8) (ds : Array Value) (n : Nat) (hc : ds = (bvs ls).toArray) (hn : ls.length = n) (hm : n ≤ maxLen) : DK v ((some ⟨w.heap.size, 0, none⟩, n, n, ls) :: rows) cs ps (w.alloc (.cells ds 5)) :=
  ⟨k.ck.lit ls ds n hc hn hm, (k.step (below_alloc w _)).pt⟩
theorem DK.litA (k : DK v rows cs ps w) (ls : List UInt8) (ds : Array Value) (n : Nat) (hc : ds = (bvs ls).toArray) (hn : ls.length = n) (hm : n ≤ maxLen) (a : Nat) (ha : w.heap.size = a) : DK v ((some ⟨a, 0, none⟩, n, n, ls) :: rows) cs ps (w.alloc (.cells ds 5)) := by
  subst ha
  exact k.lit ls ds n hc hn hm
theorem DK.boxed (k : DK v rows cs ps w) (hb : Below w.heap.size w w') (hc : Blk T w' q g.cells) (h : g.ok) : DK v rows ((T, q, g) :: cs) ps w' := ⟨k.ck.boxed hb hc h, (k.step hb).pt⟩
theorem DK.var (k : DK v rows cs ps w) (hb : Below w.heap.size w w1) (hq : w.heap.size ≤ q) (ho : Oth [q] w1 w') (hc : Blk T w' q (putsL zeroC.cells 0 g.cells)) (h : g.ok) : DK v rows ((T, q, g) :: cs) ps w' :=
  ⟨k.ck.var hb hq ho hc h, (k.step (hb.trans (ho.below (fun j hj => by rw [List.mem_singleton.1 hj]; exact hq) hb.size))).pt⟩
/-- Two rows that a call gives, to be read. -/
theorem DK.two (k : DK v rows cs ps w) (hb : Below w.heap.size w w') (h1 : RB w' w'.heap.size A n l ∧ n ≤ c ∧ c ≤ maxLen) (h2 : RB w' w'.heap.size B m r ∧ m ≤ d ∧ d ≤ maxLen) : DK v ((B, m, d, r) :: (A, n, c, l) :: rows) cs ps w' :=
  ((k.step hb).add h1.1 h1.2.1 h1.2.2).add h2.1 h2.2.1 h2.2.2
/-- Fewer rows, fewer variables. -/
theorem DK.over {rows2 : List (Option Addr × Nat × Nat × List UInt8)} {cs2 : List (TypeId × Nat × Cfg)} {ps2 : List (TypeId × Nat × List Value)} (k : DK v rows cs ps w) (h1 : ∀ r ∈ rows2, r ∈ rows) (h2 : ∀ r ∈ cs2, r ∈ cs) (h3 : ∀ r ∈ ps2, r ∈ ps) : DK v rows2 cs2 ps2 w :=
  ⟨⟨⟨k.hw.bel, fun r hr => k.hw.row r (h1 r hr)⟩, fun r hr => k.cf r (h2 r hr)⟩, fun r hr => k.pt r (h3 r hr)⟩
end
attribute [local irreducible] pcel zcel
set_option maxRecDepth 100000 in
set_option maxHeartbeats 2000000 in
theorem csame_any (p : Int) (A B A' B' : Option Addr) (n m n' m' c d c' d' : Nat) (l r : List UInt8) (w : World) (h1 : RB w w.heap.size A n l) (h2 : RB w w.heap.size B m r) (h3 : RB w w.heap.size A' n' l) (h4 : RB w w.heap.size B' m' r) (e1 : n ≤ maxLen) (e2 : m ≤ maxLen) (e3 : n' ≤ maxLen) (e4 : m' ≤ maxLen) :
    Calls Tryz.prog 17 #[.agg (pcel p A n c B m d).toArray, .agg (pcel p A' n' c' B' m' d').toArray] w fun e w' => e = .returned (.bool true) ∧ Below w.heap.size w w' := by
  have H := Lib.hid (And.intro h1 (And.intro h2 (And.intro h3 h4)))
  have E := Lib.hid (And.intro e1 (And.intro e2 (And.intro e3 e4)))
  have pp : (p == p) = true := beq_self_eq_true _
  clear h1 h2 h3 h4 e1 e2 e3 e4
  go_enter Tryz.func17, Tryz.ntmps17
  go_wp2_with (first
    | (refine wpList_boxB rfl 43 (.tmp 0) rfl (pcel p A n c B m d) rfl ?_; intro w1 q1 hc1 hb1 hx1; have K1 := Lib.hid (And.intro hc1 hb1); clear hc1 hb1 hx1)
    | (refine wpList_boxB rfl 47 (.tmp 1) rfl (pcel p A' n' c' B' m' d') rfl ?_; intro w2 q2 hc2 hb2 hx2; have K2 := Lib.hid (And.intro (K1.out.1.step hb2) (And.intro hc2 (bel_next K1.out.2 hb2))); clear hc2 hb2 hx2; have a0 := pc0 K2.out.1; have a1 := pc1 K2.out.1; have a2 := pc2 K2.out.1; have b0 := pc0 K2.out.2.1; have b1 := pc1 K2.out.2.1; have b2 := pc2 K2.out.2.1))
  refine (al_same _ _ _ _ _ _ l l _ (by exact H.out.1.step K2.out.2.2) (by exact H.out.2.2.1.step K2.out.2.2) (by exact E.out.1) (by exact E.out.2.2.1) true (beq_self_eq_true _)).mono ?_
  rintro e w3 ⟨rfl, hb⟩
  clear a0 a1 a2 b0 b1 b2
  have K3 := Lib.hid (And.intro (K2.out.1.step hb) (And.intro (K2.out.2.1.step hb) (bel_next K2.out.2.2 hb)))
  have a2 := pc2 K3.out.1
  have b2 := pc2 K3.out.2.1
  clear hb
  go_wp2_with fail
  refine (al_same _ _ _ _ _ _ r r _ (by exact H.out.2.1.step K3.out.2.2) (by exact H.out.2.2.2.step K3.out.2.2) (by exact E.out.2.1) (by exact E.out.2.2.2) true (beq_self_eq_true _)).mono ?_
  rintro e w4 ⟨rfl, hb⟩
  have K4 := Lib.hid (bel_next K3.out.2.2 hb)
  clear hb a2 b2
  go_wp2_with fail
  go_ret
  exact ⟨rfl, K4.out⟩
end Go.Proofs.YtkcchidklcnnnaaGreat

/- Layer 17: the statements' own first step. No condition. -/
namespace Go.Proofs.YtkcchidklcnnnaaGreat
open Go.RowKit
set_option linter.unusedVariables false
set_option linter.unusedSimpArgs false
def cU17 : Cfg := ⟨0, 3, 4, zK⟩
theorem cU17_ok : cU17.ok := ⟨rfl, by decide, by decide, by decide⟩
theorem cU17_rt : rtB cU17 = true := rt_iff.2 ⟨by decide, by decide, by decide, by decide, by decide, fun _ => rfl⟩
theorem zeroC_no : rtB zeroC = false := decide_eq_false (fun e => absurd ((rt_unf e).2.1.1) (by decide))
theorem cU17_lit : (Value.agg #[.int .i64 0, .int .i64 3, .int .i64 4, .int .u8 0, .int .u8 0, .int .u8 0, .int .u8 0, .int .u8 0, .int .u8 0, .int .u8 0, .int .u8 0, .int .u8 0, .int .u8 0, .int .u8 0, .int .u8 0, .int .u8 0, .int .u8 0, .int .u8 0, .int .u8 0]) = .agg cU17.cells.toArray := rfl
theorem ca_2 : codB cU17 [71, 1, 2, 3, 4, 5, 6, 7] = (⟨1, [1, 2, 3], [4, 5, 6, 7]⟩, 0) := by
  rw [codB_ok cU17_rt (by decide) (by decide +kernel)]
  unfold prtC
  rw [way_plain rfl]
  decide +kernel
attribute [local irreducible] Cfg.val Cfg.cells rtB Rt zK sizeC AV bytC rawC zeroC turnC wayC encL decL tableL backL passesR cntP idB codM codB prtC plnL pcel zcel cU17 pntB tldB
attribute [local go_sem ↓] ex_ldC ex_ldPt
end Go.Proofs.YtkcchidklcnnnaaGreat

