/- Boxes of layer 7 that lie beside each other: what is done elsewhere leaves a box as it was. No conditions; nothing is claimed of the program here. -/
import Derived.Test.YtlapnfpdkfhfdaaGreatGcmAll
import Derived.Test.YtlapnfpdkfhfdaaGreatRec
namespace Go.Proofs.YtlapnfpdkfhfdaaGreat
open Go.RowKit
set_option linter.unusedVariables false
set_option linter.unusedSimpArgs false

/-- A box: its blocks that calls change, from where to where all of it lies, its key. -/
structure EB where
  x : Nat
  cb : Nat
  hb : Nat
  L : Nat
  H : Nat
  key : List UInt8
def EB.S (e : EB) : List Nat := [e.x, e.cb, e.hb]
structure EB.Is (e : EB) (p : BP) : Prop where
  x : p.x = e.x
  cb : p.cb = e.cb
  hb : p.hb = e.hb
  key : p.key = e.key
  H : p.w0.heap.size = e.H
  lo : e.L ≤ p.lo
  ls : ∀ y ∈ p.S, e.L ≤ y
  la : ∀ g o, p.A0 = some ⟨g, o, none⟩ → e.L ≤ g
/-- The box is there: at most N blocks encrypted, at most F tags wrong. -/
def EB.Ok (e : EB) (N F : Nat) (w : World) : Prop := ∃ (p : BP) (f : Nat), e.Is p ∧ f ≤ F ∧ Bz p N f w
/-- The block is none of the box's. -/
def EB.out (e : EB) (g : Nat) : Prop := g < e.L ∨ e.H ≤ g
section
variable {e e2 : EB} {p : BP} {N F N' F' n f g lo : Nat} {w w' : World} {S : List Nat}
theorem EB.Is.same (h : e.Is p) : p.S = e.S := by unfold BP.S EB.S; rw [h.x, h.cb, h.hb]
theorem EB.Ok.le (h : e.Ok N F w) : e.H ≤ w.heap.size := by
  obtain ⟨p, f, hi, _, hz⟩ := h
  rw [← hi.H]; exact hz.old
theorem EB.Ok.in_ (h : e.Ok N F w) : ∀ y ∈ e.S, e.L ≤ y ∧ y < e.H := by
  obtain ⟨p, f, hi, _, hz⟩ := h
  intro y hy
  rw [← hi.same] at hy
  exact ⟨hi.ls y hy, by rw [← hi.H]; exact hz.lt y hy⟩
theorem EB.Ok.up (h : e.Ok N F w) (hn : N ≤ N') (hf : F ≤ F') : e.Ok N' F' w := by
  obtain ⟨p, f, hi, hl, hz⟩ := h
  exact ⟨p, f, hi, Nat.le_trans hl hf, hz.up hn⟩
/-- What is done to other blocks. -/
theorem EB.Ok.off (h : e.Ok N F w) (ho : Oth S w w') (hs : ∀ g ∈ S, e.out g) : e.Ok N F w' := by
  obtain ⟨p, f, hi, hl, hz⟩ := h
  have hord := hz.ord
  have hlc := hz.ob0.lt
  have hold := hz.old
  have hH := hi.H
  have hno : ∀ k, e.L ≤ k → k < p.w0.heap.size → k ∉ S := fun k h1 h2 hm => by
    have := hs k hm
    unfold EB.out at this
    omega
  have hsame : ∀ k, e.L ≤ k → k < p.w0.heap.size → w'.heap[k]? = w.heap[k]? := fun k h1 h2 => ho.block k (Nat.lt_of_lt_of_le h2 hold) (hno k h1 h2)
  have hx := hi.ls p.x (by simp [BP.S])
  have hc := hi.ls p.cb (by simp [BP.S])
  have hh := hi.ls p.hb (by simp [BP.S])
  have ex := hsame p.x hx hord.2.2.1
  have ec := hsame p.cb hc (by omega)
  have eh := hsame p.hb hh hord.2.2.2.1
  obtain ⟨W, hW0, hWs, hWi, hWn⟩ : ∃ W : World, (W.os = p.wc.os ∧ W.tape = p.wc.tape ∧ W.output = p.wc.output) ∧ W.heap.size = p.wc.heap.size ∧ (∀ k, k < p.wc.heap.size → k ∈ S → W.heap[k]? = w'.heap[k]?) ∧ (∀ k, k < p.wc.heap.size → k ∉ S → W.heap[k]? = p.wc.heap[k]?) := by
    refine ⟨{ p.wc with heap := Array.ofFn (n := p.wc.heap.size) fun i => if i.val ∈ S then (w'.heap[i.val]?).getD p.wc.heap[i] else p.wc.heap[i] }, ⟨rfl, rfl, rfl⟩, by simp, fun k hk hm => ?_, fun k hk hm => ?_⟩
    · have h1 : k < w'.heap.size := by have := ho.size; omega
      simp [Array.getElem?_ofFn, hk, hm, Array.getElem?_eq_getElem h1]
    · simp [Array.getElem?_ofFn, hk, hm]
  have hbut : But p.cb W w' := by
    refine ⟨(ho.os.trans hz.but.os).trans hW0.1.symm, (ho.tape.trans hz.but.tape).trans hW0.2.1.symm, (ho.output.trans hz.but.output).trans hW0.2.2.symm, ?_, fun k hk hne => ?_⟩
    · have := ho.size; have := hz.but.size; omega
    · rw [hWs] at hk
      by_cases hm : k ∈ S
      · exact (hWi k hk hm).symm
      · rw [hWn k hk hm, ← hz.but.block k hk hne]
        exact ho.block k (Nat.lt_of_lt_of_le hk hz.but.size) hm
  have hob0 : Ob p.cb p.b p.lo p.key 0 W := ⟨hz.ob0.cf.block (hWn p.cb hlc (hno _ hc (by omega))), hz.ob0.tab.keep (fun q m fn hq hm hcl j hj => by
    have hql := hcl.lt hm
    have eq := hWn q hql (hno q (Nat.le_trans hi.lo hq) (by omega))
    exact ⟨(World.cell?_of_block (w := p.wc) (a := ⟨q, j, none⟩) eq).trans (hcl j hj).1, (World.frozen?_of_block (w := p.wc) (a := ⟨q, j, none⟩) eq).trans (hcl j hj).2⟩), hz.ob0.len, hz.ob0.few⟩
  refine ⟨{ p with wc := W }, f, ⟨hi.x, hi.cb, hi.hb, hi.key, hi.H, hi.lo, hi.ls, hi.la⟩, hl, ?_⟩
  exact {
    old := Nat.le_trans hold ho.size
    c0 := (World.cell?_of_block (w := w) (a := ⟨p.x, 0, none⟩) ex).trans hz.c0
    c1 := (World.cell?_of_block (w := w) (a := ⟨p.x, 1, none⟩) ex).trans hz.c1
    c2 := (World.cell?_of_block (w := w) (a := ⟨p.x, 2, none⟩) ex).trans hz.c2
    c3 := (World.cell?_of_block (w := w) (a := ⟨p.x, 3, none⟩) ex).trans hz.c3
    free := (World.frozen?_of_block (w := w) (a := ⟨p.x, 3, none⟩) ex).trans hz.free
    cap := hz.cap
    key := ⟨hz.key.1, fun hn => by
      obtain ⟨g, o, eA, hg, hcl⟩ := hz.key.2 hn
      exact ⟨g, o, eA, hg, fun i hi2 => by
        rw [← hcl i hi2]
        exact World.cell?_of_block (w := w) (a := ⟨g, o + i, none⟩) (hsame g (hi.la g o eA) hg)⟩⟩
    away := hz.away
    ob0 := hob0
    but := hbut
    ob := by
      obtain ⟨m, hm, hob⟩ := hz.ob
      exact ⟨m, hm, ⟨hob.cf.block ec, hob0.tab.apartJ (by decide) 0 (by omega) hob0.cf.nob hob0.cf.ne (fun q hlq hq => hbut.block q hlq hq), hob.len, hob.few⟩⟩
    ho := by
      obtain ⟨d, hd⟩ := hz.ho
      exact ⟨d, hd.same eh⟩
    ord := by
      show W.heap.size ≤ p.x ∧ W.heap.size ≤ p.hb ∧ p.x < p.w0.heap.size ∧ p.hb < p.w0.heap.size ∧ p.x ≠ p.hb ∧ W.heap.size ≤ p.w0.heap.size
      rw [hWs]; exact hord }
theorem EB.Ok.step (h : e.Ok N F w) (hb : Below w.heap.size w w') : e.Ok N F w' := h.off (Oth.of_below (S := []) hb) (fun g hg => by cases hg)
theorem EB.Ok.below (h : e.Ok N F w) (hl : e.H ≤ lo) (hb : Below lo w w') : e.Ok N F w' := by
  obtain ⟨p, f, hi, hf, hz⟩ := h
  exact ⟨p, f, hi, hf, hz.hold (hb.mono (by rw [hi.H]; exact hl))⟩
theorem EB.apart (h : e.Ok N F w) (hd : e.H ≤ e2.L ∨ e2.H ≤ e.L) : ∀ g ∈ e.S, e2.out g := fun g hg => by
  have := h.in_ g hg
  unfold EB.out
  omega
theorem EB.of_new {key : List UInt8} {r : Ending} (h : RetX2 key w r w') : ∃ e : EB, r = .returned (.tuple #[.pointer (some ⟨e.x, 0, none⟩), .int .i64 0]) ∧ e.key = key ∧ Below w.heap.size w w' ∧ e.L = w.heap.size ∧ e.H = w'.heap.size ∧ e.Ok 1 0 w' := by
  obtain ⟨p, hr, hk, hb, hs, ⟨h1, h2, h3⟩, hz⟩ := h
  exact ⟨⟨p.x, p.cb, p.hb, w.heap.size, w'.heap.size, p.key⟩, hr, hk, hb, rfl, rfl, p, 0, ⟨rfl, rfl, rfl, rfl, h3, h1, hs, h2⟩, Nat.le_refl _, hz⟩
end
end Go.Proofs.YtlapnfpdkfhfdaaGreat
