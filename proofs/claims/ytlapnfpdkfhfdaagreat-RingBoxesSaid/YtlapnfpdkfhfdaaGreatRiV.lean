/- Layer 19: the statements' Agree, and the check that stands at their head. Condition: what is said of the rings. -/
import Derived.Test.YtlapnfpdkfhfdaaGreatRiH
namespace Go.Proofs.YtlapnfpdkfhfdaaGreat
open Go.RowKit
set_option linter.unusedVariables false
set_option linter.unusedSimpArgs false
theorem at_facts {es : Ens} {ks : List KR} {k : Nat} {k0 : KR} (e : rgE es = rgK ks) (ok : okR (rgE es)) (he : ks[k]? = some k0) : hasR (rgE es) k0.q = true ∧ keyR (rgE es) k0.q = k0.key ∧ (seqsR (rgE es))[k]? = some k0.q ∧ (0 ≤ k0.q ∧ k0.q ≤ 127) ∧ k0.key.length = 16 := by
  have hs : (rgE es)[k]? = some (k0.q, k0.key) := by rw [e]; unfold rgK; rw [List.getElem?_map, he]; rfl
  obtain ⟨hl, hv⟩ := List.getElem?_eq_some_iff.1 hs
  have hm := List.mem_of_getElem? hs
  refine ⟨has_iffR.2 (List.mem_map.2 ⟨_, hm, rfl⟩), ?_, by unfold seqsR; rw [List.getElem?_map, hs]; rfl, (ok.g _ hm).1, (ok.g _ hm).2⟩
  have := key_oneR ok.u hl
  rw [hv] at this
  exact this
theorem rng_en {es : Ens} (ok : okR (rgE es)) : ∀ e ∈ es, 0 ≤ e.2 ∧ e.2 ≤ 127 := fun e he => (ok.g _ (rg_mem he)).1
theorem seqs_rng {s : Rg} (ok : okR s) : ∀ q ∈ seqsR s, 0 ≤ q ∧ q ≤ 127 := fun q hq => by
  obtain ⟨r, hr, rfl⟩ := List.mem_map.1 hq
  exact (ok.g r hr).1
/-! alive. -/
def zr19 : List UInt8 := List.replicate 16 0
def S1r : Rg := [(3, zr19)]
def S2r : Rg := [(3, zr19), (7, zr19)]
def S3r : Rg := [(3, zr19), (7, zr19), (5, zr19)]
theorem st_1 : instR [] 3 zr19 = (S1r, 0) := by decide
theorem st_2 : instR S1r 7 zr19 = (S2r, 0) := by decide
theorem st_3 : instR S2r 7 zr19 = (S2r, 16) := by decide
theorem st_4 : instR S2r 128 zr19 = (S2r, 11) := by decide
theorem st_5 : instR S2r 5 zr19 = (S3r, 0) := by decide
theorem st_6 : newR S3r = (5, true) := by decide
theorem st_7 : retR S3r 5 = (S2r, 0) := by decide
theorem st_8 : retR S2r 5 = (S2r, 17) := by decide
theorem st_9 : newR S2r = (7, true) := by decide
theorem st_a : hasR S2r 3 = true ∧ hasR S2r 5 = false ∧ hasR S2r 7 = true ∧ keyR S2r 7 = zr19 ∧ seqsR S2r = [3, 7] ∧ S2r.length = 2 ∧ S3r.length = 3 ∧ zr19.length = 16 := by decide
theorem st_ok : okR S2r := ⟨by decide, by decide, by decide⟩
/-- The ring, the same behind a clone. -/
def LR1 (v : World) (x : Nat) (s : Rg) (w : World) : Prop := Below v.heap.size v w ∧ ∃ A c es, Rn v.heap.size w x A c es 1 0 ∧ rgE es = s
def LR2 (v : World) (x : Nat) (s : Rg) (y : Nat) (u : Rg) (w : World) : Prop := Below v.heap.size v w ∧ ∃ A c es vc B d fs, Rn v.heap.size w x A c es 1 0 ∧ rgE es = s ∧ Rn vc w y B d fs 1 0 ∧ rgE fs = u ∧ ∀ g ∈ x :: blkO A, g < vc
section
variable {v w w' : World} {x y : Nat} {s u : Rg}
theorem LR1.step (h : LR1 v x s w) (hb : Below w.heap.size w w') : LR1 v x s w' := by
  obtain ⟨hv, A, c, es, h1, h2⟩ := h
  exact ⟨bel_next hv hb, A, c, es, h1.step hb, h2⟩
theorem LR2.step (h : LR2 v x s y u w) (hb : Below w.heap.size w w') : LR2 v x s y u w' := by
  obtain ⟨hv, A, c, es, vc, B, d, fs, h1, h2, h3, h4, h5⟩ := h
  exact ⟨bel_next hv hb, A, c, es, vc, B, d, fs, h1.step hb, h2, h3.step hb, h4, h5⟩
theorem LR2.one (h : LR2 v x s y u w) : LR1 v x s w := by
  obtain ⟨hv, A, c, es, vc, B, d, fs, h1, h2, h3, h4, h5⟩ := h
  exact ⟨hv, A, c, es, h1, h2⟩
theorem LR2.other (h : LR2 v x s y u w) : ∃ vc B d fs, Rn vc w y B d fs 1 0 ∧ rgE fs = u := by
  obtain ⟨hv, A, c, es, vc, B, d, fs, h1, h2, h3, h4, h5⟩ := h
  exact ⟨vc, B, d, fs, h3, h4⟩
end
theorem al_inst (v w : World) (x : Nat) (s : Rg) (h : LR1 v x s w) (hs : s.length ≤ 16) (q : Int) (b : Nat) (K : Option Addr) (d : Nat) (l : List UInt8) (ho : OwnB w b K 16 d l) :
    Calls Tryz.prog 15 #[.pointer (some ⟨x, 0, none⟩), .int .i64 q, .slice K 16 d] w fun e w' => e = .returned (.int .i64 (instR s q l).2) ∧ LR1 v x (instR s q l).1 w' ∧ OwnB w' b K 16 d l := by
  obtain ⟨hv, A, c, es, h1, h2⟩ := h
  subst h2
  refine (install_any _ x A c es 1 0 q K 16 d l w h1 (by rw [rg_len] at hs; exact hs) ho.rb ho.cap.1 (Nat.le_refl _) hv.size).mono fun e w' hr => ?_
  obtain ⟨he, A', c', es', r1, r2, r3, r4, r5⟩ := hr
  refine ⟨he, ⟨hv.trans (r3.below (fun g hg => by
    rcases List.mem_cons.1 hg with rfl | hg
    · exact h1.low
    · exact (h1.grd.lt g hg).1) hv.size), A', c', es', r1, r2⟩, ho.offS r3 (fun j hj cs fr e => by
    rcases List.mem_cons.1 hj with rfl | hj
    · exact h1.blk.nob (by decide) j (by simp) cs fr e
    · exact h1.grd.nob (by decide) j hj cs fr e)⟩
theorem al_new (v w : World) (x : Nat) (s : Rg) (h : LR1 v x s w) (hs : s.length ≤ 16) :
    Calls Tryz.prog 16 #[.pointer (some ⟨x, 0, none⟩)] w fun e w' => e = .returned (.tuple #[.int .i64 (newR s).1, .bool (newR s).2]) ∧ Below w.heap.size w w' := by
  obtain ⟨hv, A, c, es, h1, h2⟩ := h
  subst h2
  exact newest_any _ x A c es 1 0 w h1 (by rw [rg_len] at hs; omega)
theorem al_clone (v w : World) (x : Nat) (s : Rg) (h : LR1 v x s w) (hs : s.length ≤ 16) :
    Calls Tryz.prog 17 #[.pointer (some ⟨x, 0, none⟩)] w fun e w' => ∃ y, e = .returned (.pointer (some ⟨y, 0, none⟩)) ∧ LR2 v x s y s w' := by
  obtain ⟨hv, A, c, es, h1, h2⟩ := h
  subst h2
  refine (rclone_any _ x A c es 1 0 w h1 (by rw [rg_len] at hs; omega)).mono fun e w' hr => ?_
  obtain ⟨y, B, d, fs, he, hb, r1, r2⟩ := hr
  refine ⟨y, he, bel_next hv hb, A, c, es, w.heap.size, B, d, fs, h1.step hb, rfl, r1, r2, fun g hg => ?_⟩
  rcases List.mem_cons.1 hg with rfl | hg
  · exact h1.blk.lt
  · exact (h1.grd.lt g hg).2
theorem al_ret (v w : World) (x y : Nat) (s u : Rg) (h : LR2 v x s y u w) (hs : s.length ≤ 16) (q : Int) :
    Calls Tryz.prog 18 #[.pointer (some ⟨x, 0, none⟩), .int .i64 q] w fun e w' => e = .returned (.int .i64 (retR s q).2) ∧ LR2 v x (retR s q).1 y u w' := by
  obtain ⟨hv, A, c, es, vc, B, d, fs, h1, h2, h3, h4, h5⟩ := h
  subst h2
  refine (retire2_any _ x A c es 1 0 q w h1 (by rw [rg_len] at hs; exact hs)).mono fun e w' hr => ?_
  obtain ⟨he, c', es', r1, r2, r3, r4⟩ := hr
  exact ⟨he, hv.trans (r3.below (fun g hg => by
    rcases List.mem_cons.1 hg with rfl | hg
    · exact h1.low
    · exact (h1.grd.lt g hg).1) hv.size), A, c', es', vc, B, d, fs, r1, r2, h3.under r3 h5, h4, h5⟩
set_option maxRecDepth 100000 in
set_option maxHeartbeats 16000000 in
theorem alive19_any (w : World) : Calls Tryz.prog 4 #[] w fun e w' => e = .returned (.bool true) ∧ Below w.heap.size w w' := by
  go_enter Tryz.func4, Tryz.ntmps4
  go_wp2_with fail
  refine (rnew_any w).mono ?_
  rintro e w1 ⟨x, rfl, hb1, hr1⟩
  have L1 : Hid (LR1 w x [] w1) := Lib.hid ⟨hb1, none, 0, [], hr1, rfl⟩
  clear hb1 hr1
  go_wp2_with (first
    | (at_make; refine wpList_mk rfl _ _ rfl w1.heap.size .i64 .i64 _ _ 16 rfl rfl rfl rfl (by omega) (Nat.le_refl _) ?_; intro w2 ho2 hs2 hb2; have O2 : Hid (OwnB w2 w1.heap.size (some ⟨w1.heap.size, 0, none⟩) 16 16 zr19) := Lib.hid ho2; have L2 := Lib.hid (L1.out.step hb2); clear ho2 hs2 hb2 L1))
  have HC := al_inst w w2 x [] (by exact L2.out) (by decide) 3 _ _ _ zr19 (by exact O2.out)
  rw [st_1] at HC
  refine HC.mono ?_
  rintro e w3 ⟨rfl, hl, ho⟩
  have L3 := Lib.hid hl
  have O3 := Lib.hid ho
  clear hl ho HC L2 O2
  go_wp2_with fail
  have HC := al_inst w w3 x S1r (by exact L3.out) (by decide) 7 _ _ _ zr19 (by exact O3.out)
  rw [st_2] at HC
  refine HC.mono ?_
  rintro e w4 ⟨rfl, hl, ho⟩
  have L4 := Lib.hid hl
  have O4 := Lib.hid ho
  clear hl ho HC L3 O3
  go_wp2_with fail
  have HC := al_inst w w4 x S2r (by exact L4.out) (by decide) 7 _ _ _ zr19 (by exact O4.out)
  rw [st_3] at HC
  refine HC.mono ?_
  rintro e w5 ⟨rfl, hl, ho⟩
  have L5 := Lib.hid hl
  have O5 := Lib.hid ho
  clear hl ho HC L4 O4
  go_wp2_with fail
  have HC := al_inst w w5 x S2r (by exact L5.out) (by decide) 128 _ _ _ zr19 (by exact O5.out)
  rw [st_4] at HC
  refine HC.mono ?_
  rintro e w6 ⟨rfl, hl, ho⟩
  have L6 := Lib.hid hl
  have O6 := Lib.hid ho
  clear hl ho HC L5 O5
  go_wp2_with fail
  have HC := al_inst w w6 x S2r (by exact L6.out) (by decide) 5 _ _ _ zr19 (by exact O6.out)
  rw [st_5] at HC
  refine HC.mono ?_
  rintro e w7 ⟨rfl, hl, ho⟩
  have L7 := Lib.hid hl
  have O7 := Lib.hid ho
  clear hl ho HC L6 O6
  go_wp2_with fail
  have HC := al_new w w7 x S3r (by exact L7.out) (by decide)
  rw [st_6] at HC
  refine HC.mono ?_
  rintro e w8 ⟨rfl, hb⟩
  have L8 := Lib.hid (L7.out.step hb)
  clear hb HC L7
  go_wp2_with fail
  refine (al_clone w w8 x S3r (by exact L8.out) (by decide)).mono ?_
  rintro e w9 ⟨y, rfl, hl⟩
  have L9 := Lib.hid hl
  clear hl L8
  go_wp2_with fail
  have HC := al_ret w w9 x y S3r S3r (by exact L9.out) (by decide) 5
  rw [st_7] at HC
  refine HC.mono ?_
  rintro e w10 ⟨rfl, hl⟩
  have L10 := Lib.hid hl
  clear hl HC L9
  go_wp2_with fail
  have HC := al_ret w w10 x y S2r S3r (by exact L10.out) (by decide) 5
  rw [st_8] at HC
  refine HC.mono ?_
  rintro e w11 ⟨rfl, hl⟩
  have L11 := Lib.hid hl
  clear hl HC L10
  go_wp2_with fail
  have HC := al_new w w11 x S2r (by exact L11.out.one) (by decide)
  rw [st_9] at HC
  refine HC.mono ?_
  rintro e w12 ⟨rfl, hb⟩
  have L12 := Lib.hid (L11.out.step hb)
  clear hb HC L11
  go_wp2_with fail
  obtain ⟨hv, A, c, es, hr, he⟩ := L12.out.one
  have hlen : es.length = 2 := by rw [← rg_len, he]; rfl
  obtain ⟨i, e0, _, _, _, _, HC⟩ := box_has w.heap.size x A c es 1 0 3 w12 hr (by omega) (by rw [he]; exact st_a.1)
  have HE := Lib.hid (And.intro he hlen)
  have HR := Lib.hid hr
  clear hr he hlen hv
  refine HC.mono ?_
  rintro e w13 ⟨rfl, hb⟩
  have L13 := Lib.hid (L12.out.step hb)
  have HR1 := Lib.hid (HR.out.step hb)
  clear hb HC L12 HR
  go_wp2_with fail
  refine (box_no w.heap.size x A c es 1 0 5 w13 (by exact HR1.out) (by rw [HE.out.2]; omega) (by rw [HE.out.1]; exact st_a.2.1)).mono ?_
  rintro e w14 ⟨rfl, hb⟩
  have L14 := Lib.hid (L13.out.step hb)
  have HR2 := Lib.hid (HR1.out.step hb)
  clear hb L13 HR1
  go_wp2_with fail
  have HC := rkey_any w.heap.size x A c es 1 0 7 w14 HR2.out (by rw [HE.out.2]; omega)
  rw [HE.out.1, st_a.2.2.1, st_a.2.2.2.1] at HC
  refine HC.mono ?_
  intro e w15 hr
  obtain ⟨K7, k7, he, _, hb⟩ := hr
  rw [st_a.2.2.2.2.2.2.2] at he
  subst he
  have L15 := Lib.hid (L14.out.step hb)
  have HR3 := Lib.hid (HR2.out.step hb)
  clear hb L14 HR2 HC
  go_wp2_with fail
  obtain ⟨vc, B, d, fs, hr, he⟩ := L15.out.other
  have HC := newest_any vc y B d fs 1 0 w15 hr (by rw [← rg_len, he]; decide)
  rw [he, st_6] at HC
  clear hr he
  refine HC.mono ?_
  rintro e w16 ⟨rfl, hb⟩
  have L16 := Lib.hid (L15.out.step hb)
  have HR4 := Lib.hid (HR3.out.step hb)
  clear hb L15 HR3 HC
  go_wp2_with fail
  refine (seqs_any w.heap.size x A c es 1 0 w16 (by exact HR4.out) (by rw [HE.out.2]; omega) (rng_en (by rw [HE.out.1]; exact st_ok))).mono ?_
  intro e w17 hr
  obtain ⟨Q, qc, he, ho, hb⟩ := hr
  rw [HE.out.2] at he ho
  rw [HE.out.1, st_a.2.2.2.2.1] at ho
  subst he
  have HO := Lib.hid ho
  have HB := Lib.hid (bel_next L16.out.1 hb)
  clear ho hb
  go_wp2_with fail
  refine (al_ints Q _ 2 qc 2 2 [3, 7] [3, 7] _ (by exact HO.out.zl.step (below_alloc _ _)) (by exact ZL.lit w17 [3, 7] _ 2 w17.heap.size _ (by rfl) rfl rfl (by decide)) (by unfold maxLen; omega) (by unfold maxLen; omega) true (by rfl)).mono ?_
  rintro e w18 ⟨rfl, hb⟩
  have HB2 := Lib.hid (bel_next (bel_next HB.out (below_alloc _ _)) hb)
  clear hb
  go_wp2_with fail
  go_ret
  exact ⟨rfl, HB2.out⟩
end Go.Proofs.YtlapnfpdkfhfdaaGreat
