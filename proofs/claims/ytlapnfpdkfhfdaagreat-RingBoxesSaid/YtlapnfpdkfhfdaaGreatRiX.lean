/- Layer 19: a ring's boxes in use: what a box's call answers and leaves of the ring, of the other boxes, of other rows. Condition: what is said of the ring; lengths are at most 65535 (65551). -/
import Derived.Test.YtlapnfpdkfhfdaaGreatRiW
import Derived.Test.YtlapnfpdkfhfdaaGreatGcmShow
namespace Go.Proofs.YtlapnfpdkfhfdaaGreat
attribute [local irreducible] wsW keyUpTo keyF lastW turn0 encUp decUp aftL encL tableL blksL blkL strmL putL numL xorL turnAt fstL hkL tagL trnL bB sumG nB sealR openR tagR
open Go.RowKit
set_option linter.unusedVariables false
set_option linter.unusedSimpArgs false
/-- A box's call: bytes, an error's number; the box is as it was but for its counts. -/
def RetEB (e : EB) (N F M : Nat) (L : List UInt8) (E : Int) (w : World) (r : Ending) (w' : World) : Prop :=
  ∃ A c, r = .returned (.tuple #[.slice A M c, .int .i64 E]) ∧ OwnB w' w.heap.size A M c L ∧ Oth e.S w w' ∧ e.Ok N F w'
theorem away_of {e : EB} {A : Option Addr} (h : ∀ g ∈ blkO A, g ∉ e.S) : AwayS A e.S := fun x hx g o ea he => by
  subst he
  exact h g (by rw [ea]; simp [blkO]) hx
theorem eb_seal (e : EB) (N F : Nat) (w : World) (h : e.Ok N F w) (hn : N + 1 ≤ 1000000000) (A1 A2 A3 : Option Addr) (n1 c1 n2 c2 n3 c3 : Nat) (l t a : List UInt8) (h1 : RB w w.heap.size A1 n1 l) (h2 : RB w w.heap.size A2 n2 t) (h3 : RB w w.heap.size A3 n3 a) (m3 : n3 ≤ c3) (a3 : 0 < n3 → ∀ g ∈ blkO A3, g ∉ e.S) (hn2 : n2 ≤ 65535) (hn3 : n3 ≤ 65535) (M : Nat) (L : List UInt8) (E : Int) (hR : sealR e.key l t a = (L, E)) (hM : L.length = M) :
    Calls Tryz.prog 10 #[.pointer (some ⟨e.x, 0, none⟩), .slice A1 n1 c1, .slice A2 n2 c2, .slice A3 n3 c3] w (RetEB e (N + 1) F M L E w) := by
  obtain ⟨p, f, hi, hf, hz⟩ := h
  rw [← hi.x]
  refine (gseal_r p N f A1 A2 A3 n1 c1 n2 c2 n3 c3 l t a w hz hn h1 h2 h3 m3 (fun h0 => by rw [hi.same]; exact away_of (a3 h0)) hn2 hn3).mono fun r w' hr => ?_
  obtain ⟨A, c, he, ho, hoff, hz'⟩ := hr.to f M L E rfl (by rw [hi.key]; exact hR) hM
  exact ⟨A, c, he, ho, by rw [← hi.same]; exact ⟨hoff.os, hoff.tape, hoff.output, hoff.size, hoff.block⟩, p, f, hi, hf, hz'⟩
theorem eb_open (e : EB) (N F : Nat) (w : World) (h : e.Ok N F w) (hn : N + 1 ≤ 1000000000) (hF : F ≤ 1000000000) (A1 A2 A3 : Option Addr) (n1 c1 n2 c2 n3 c3 : Nat) (l s a : List UInt8) (h1 : RB w w.heap.size A1 n1 l) (h2 : RB w w.heap.size A2 n2 s) (h3 : RB w w.heap.size A3 n3 a) (m2 : n2 ≤ c2) (m3 : n3 ≤ c3) (a1 : 0 < n1 → ∀ g ∈ blkO A1, g ∉ e.S) (a2 : 0 < n2 → ∀ g ∈ blkO A2, g ∉ e.S) (a3 : 0 < n3 → ∀ g ∈ blkO A3, g ∉ e.S) (hn2 : n2 ≤ 65551) (hn3 : n3 ≤ 65535) (M : Nat) (L : List UInt8) (E : Int) (hR : openR e.key l s a = (L, E)) (hM : L.length = M) :
    Calls Tryz.prog 13 #[.pointer (some ⟨e.x, 0, none⟩), .slice A1 n1 c1, .slice A2 n2 c2, .slice A3 n3 c3] w (RetEB e (N + 1) (F + 1) M L E w) := by
  obtain ⟨p, f, hi, hf, hz⟩ := h
  rw [← hi.x]
  refine (gopen_r p N f A1 A2 A3 n1 c1 n2 c2 n3 c3 l s a w hz hn (by omega) h1 h2 h3 m2 m3 (fun h0 => by rw [hi.same]; exact away_of (a1 h0)) (fun h0 => by rw [hi.same]; exact away_of (a2 h0)) (fun h0 => by rw [hi.same]; exact away_of (a3 h0)) hn2 hn3).mono fun r w' hr => ?_
  obtain ⟨A, c, he, ho, hoff, hz'⟩ := hr.to _ M L E rfl (by rw [hi.key]; exact hR) hM
  exact ⟨A, c, he, ho, by rw [← hi.same]; exact ⟨hoff.os, hoff.tape, hoff.output, hoff.size, hoff.block⟩, p, _, hi, by split <;> omega, hz'⟩
section
variable {v w w' : World} {base x c N F N' F' n d M : Nat} {A B : Option Addr} {es : Ens} {e0 : EB × Int} {l L : List UInt8} {E : Int} {r : Ending} {S : List Nat}
/-- Two of a ring's boxes are one, or lie apart. -/
theorem Rn.parted (h : Rn base w x A c es N F) : ∀ a ∈ es, ∀ b ∈ es, a = b ∨ a.1.H ≤ b.1.L ∨ b.1.H ≤ a.1.L := fun a ha b hb => by
  obtain ⟨i, hi, rfl⟩ := List.getElem_of_mem ha
  obtain ⟨j, hj, rfl⟩ := List.getElem_of_mem hb
  have hp := List.pairwise_iff_getElem.1 h.pw
  rcases Nat.lt_trichotomy i j with hl | hl | hl
  · exact .inr (.inl (hp i j hi hj hl))
  · subst hl; exact .inl rfl
  · exact .inr (.inr (hp j i hj hi hl))
theorem EB.Ok.not_in {e : EB} {g : Nat} (h : e.Ok N F w) (ho : e.out g) : g ∉ e.S := fun hm => by
  have := h.in_ g hm
  unfold EB.out at ho
  omega
/-- A box of the ring has been called. -/
theorem Rn.call (h : Rn base w x A c es N F) (h0 : e0 ∈ es) (ho : Oth e0.1.S w w') (hk : e0.1.Ok N' F' w') (hn : N ≤ N') (hf : F ≤ F') : Rn base w' x A c es N' F' := by
  obtain ⟨k1, k2, k3, k4, k5⟩ := h.ok e0 h0
  refine ⟨h.blk.oth ho (k1.not_in k4), h.grd.oth ho (fun g hg => k1.not_in (k5 g hg)), fun e he => ⟨?_, (h.ok e he).2⟩, h.pw, h.low⟩
  rcases h.parted e he e0 h0 with rfl | hd
  · exact hk
  · exact ((h.ok e he).1.off ho (fun g hg => by
      have := k1.in_ g hg
      unfold EB.out
      omega)).up hn hf
/-- What a walk carries: a ring whose boxes are called, and rows of bytes that are none of theirs. -/
structure BX (v : World) (x : Nat) (A : Option Addr) (c : Nat) (es : Ens) (N F : Nat) (rows : List (Option Addr × Nat × Nat × List UInt8)) (w : World) : Prop where
  bel : Below v.heap.size v w
  rn : Rn v.heap.size w x A c es N F
  row : ∀ r ∈ rows, RB w w.heap.size r.1 r.2.1 r.2.2.2 ∧ r.2.1 ≤ r.2.2.1 ∧ (0 < r.2.1 → ∀ g ∈ blkO r.1, ∀ e ∈ es, e.1.out g)
variable {rows : List (Option Addr × Nat × Nat × List UInt8)}
theorem BX.step (h : BX v x A c es N F rows w) (hb : Below w.heap.size w w') : BX v x A c es N F rows w' :=
  ⟨bel_next h.bel hb, h.rn.step hb, fun r hr => ⟨(h.row r hr).1.step hb, (h.row r hr).2⟩⟩
theorem BX.arg (h : BX v x A c es N F rows w) (hr : RB v v.heap.size B n l) (hc : n ≤ d) : BX v x A c es N F ((B, n, d, l) :: rows) w :=
  ⟨h.bel, h.rn, fun r hm => by
    rcases List.mem_cons.1 hm with rfl | hm
    · refine ⟨hr.step h.bel, hc, fun h0 g hg e he => .inl ?_⟩
      obtain ⟨b, o, eb, hlt, _⟩ := hr.2 h0
      rw [show B = some ⟨b, o, none⟩ from eb] at hg
      obtain rfl : g = b := by simpa [blkO] using hg
      exact Nat.lt_of_lt_of_le hlt (h.rn.ok e he).2.2.1
    · exact h.row r hm⟩
/-- New bytes. -/
theorem BX.own (h : BX v x A c es N F rows w) (hb : Below w.heap.size w w') (ho : OwnB w' w.heap.size B n d l) : BX v x A c es N F ((B, n, d, l) :: rows) w' :=
  ⟨bel_next h.bel hb, h.rn.step hb, fun r hm => by
    rcases List.mem_cons.1 hm with rfl | hm
    · exact ⟨ho.rb, ho.cap.1, fun _ g hg e he => .inr (Nat.le_trans (h.rn.ok e he).1.le (own_lt ho g hg).1)⟩
    · exact ⟨(h.row r hm).1.step hb, (h.row r hm).2⟩⟩
/-- A box's call. -/
theorem BX.call (h : BX v x A c es N F rows w) (h0 : e0 ∈ es) (hr : RetEB e0.1 N' F' M L E w r w') (hn : N ≤ N') (hf : F ≤ F') : ∃ B d, r = .returned (.tuple #[.slice B M d, .int .i64 E]) ∧ BX v x A c es N' F' ((B, M, d, L) :: rows) w' := by
  obtain ⟨B, d, he, ho, hoth, hok⟩ := hr
  obtain ⟨k1, k2, k3, k4, k5⟩ := h.rn.ok e0 h0
  have hlo : ∀ g ∈ e0.1.S, v.heap.size ≤ g := fun g hg => Nat.le_trans k3 (k1.in_ g hg).1
  refine ⟨B, d, he, h.bel.trans (hoth.below hlo h.bel.size), h.rn.call h0 hoth hok hn hf, fun q hm => ?_⟩
  rcases List.mem_cons.1 hm with rfl | hm
  · exact ⟨ho.rb, ho.cap.1, fun _ g hg e he => .inr (Nat.le_trans (h.rn.ok e he).1.le (own_lt ho g hg).1)⟩
  · obtain ⟨r1, r2, r3⟩ := h.row q hm
    exact ⟨r1.oth hoth (fun h0' g o eg => k1.not_in (r3 h0' g (by rw [eg]; simp [blkO]) e0 h0)), r2, r3⟩
theorem BX.not (h : BX v x A c es N F rows w) (h0 : e0 ∈ es) (hm : (B, n, d, l) ∈ rows) : 0 < n → ∀ g ∈ blkO B, g ∉ e0.1.S := fun hn g hg => (h.rn.ok e0 h0).1.not_in ((h.row _ hm).2.2 hn g hg e0 h0)
end
end Go.Proofs.YtlapnfpdkfhfdaaGreat
