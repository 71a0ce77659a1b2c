/- Layer 20, plain: what a token tells, its text, what is sealed and opened. Nothing is claimed of the program here. -/
import Derived.Test.YthllaoeioddddaaGreatRiP
import Derived.Test.YthllaoeioddddaaGreatRefGcm
import Derived.Test.YthllaoeioddddaaGreatScanRd
import Derived.Test.YthllaoeioddddaaGreatGcmShow
import Derived.Test.YthllaoeioddddaaGreatRiU
import Derived.Test.YthllaoeioddddaaGreatRec
import Derived.Test.YthllaoeioddddaaGreatScanWr
import Derived.Test.YthllaoeioddddaaGreatOctAll
namespace Go.Proofs.YthllaoeioddddaaGreat
set_option linter.unusedVariables false
set_option linter.unusedSimpArgs false
/-- What a token tells: its time, two ids. -/
structure Tk where
  e : Nat
  o : List UInt8
  s : List UInt8
deriving DecidableEq
def zTk : Tk := ⟨0, [], []⟩
def Tk.few (f : Tk) : Prop := f.o.length ≤ 20 ∧ f.s.length ≤ 20
def lenL (l : List UInt8) : List UInt8 := UInt8.ofNat l.length :: l
def rawT (f : Tk) : List UInt8 := putL f.e 8 ++ (lenL f.o ++ lenL f.s)
def textR (f : Tk) : List UInt8 × Int := if 20 < f.o.length ∨ 20 < f.s.length then ([], 15) else (rawT f, 0)
def untextR (b : List UInt8) : Tk × Int :=
  let n := numS 8 (0, b)
  let o := shortS n.2
  let s := shortS o.2
  let e := endS s.2
  if e.1 = 0 then (if 20 < o.1.length ∨ 20 < s.1.length then (zTk, 10) else (⟨n.1, o.1, s.1⟩, 0)) else (zTk, e.1)
def noteT (q : Int) (c : List UInt8) : List UInt8 := UInt8.ofNat q.toNat :: c
def sealT (s : Rg) (q : Int) (n c : List UInt8) (f : Tk) : List UInt8 × Int :=
  if hasR s q = false then ([], 17) else if n.length ≠ 12 ∨ 64 < c.length then ([], 11) else if (textR f).2 ≠ 0 then ([], (textR f).2)
  else (UInt8.ofNat q.toNat :: (n ++ (sealR (keyR s q) n (textR f).1 (noteT q c)).1), 0)
/-- What is opened, the sequence number at hand. -/
def bodyT (k c : List UInt8) (q : Int) (t : List UInt8) (now : Nat) : Tk × Int :=
  let r := openR k ((t.drop 1).take 12) (t.drop 13) (noteT q c)
  if r.2 ≠ 0 then (zTk, 13) else if (untextR r.1).2 ≠ 0 then (zTk, (untextR r.1).2) else if (untextR r.1).1.e < now then (zTk, 20) else ((untextR r.1).1, 0)
def fstT (t : List UInt8) : Int := ((t.headD 0).toNat : Int)
def openT (s : Rg) (c t : List UInt8) (now : Nat) : Tk × Int :=
  if t.length < 29 then (zTk, 12) else if hasR s (fstT t) = false then (zTk, 17) else if 64 < c.length ∨ 4096 < t.length then (zTk, 13) else bodyT (keyR s (fstT t)) c (fstT t) t now
def seqT (t : List UInt8) : Int × Bool := if t ≠ [] ∧ fstT t < 128 then (fstT t, true) else (0, false)

section
variable {s : Rg} {q : Int} {n n' c t l : List UInt8} {f g : Tk}
theorem numS_8 (x : Nat) (hx : x < 2 ^ 64) (l : List UInt8) : numS 8 (0, putL x 8 ++ l) = (x, 0, l) := by
  have hl : (putL x 8).length = 8 := putL_len x 8
  unfold numS
  rw [if_neg (by omega)]
  unfold bytesS
  rw [if_neg (by omega), show ((8 : Int)).toNat = 8 from rfl, takeS_ok (by rw [List.length_append, hl]; omega)]
  rw [List.take_left' hl, List.drop_left' hl]
  have h := num_putV 8 x
  have hv : numL (putL x 8) = x := by
    have e : (256 : Nat) ^ 8 = 18446744073709551616 := by decide
    rw [e] at h
    omega
  show (numL (putL x 8), (0 : Int), l) = (x, 0, l)
  rw [hv]
theorem shortS_l (o l : List UInt8) (h : o.length ≤ 255) : shortS (0, lenL o ++ l) = (o, 0, l) := by
  have h1 : numS 1 (0, lenL o ++ l) = (o.length, 0, o ++ l) := by
    unfold numS
    rw [if_neg (by omega)]
    unfold bytesS lenL
    rw [if_neg (by omega), show ((1 : Int)).toNat = 1 from rfl, takeS_ok (by simp)]
    simp only [List.cons_append, List.take_succ_cons, List.take_zero, List.drop_succ_cons, List.drop_zero]
    unfold numL
    simp only [List.foldl_cons, List.foldl_nil]
    have : (UInt8.ofNat o.length).toNat = o.length := by simp; omega
    rw [this]; simp
  unfold shortS
  rw [h1]
  unfold countS
  rw [show takeS (o.length, (0 : Int), o ++ l).1 (o.length, (0 : Int), o ++ l).2 = (o, 0, l) from by
    show takeS o.length (0, o ++ l) = _
    rw [takeS_ok (by simp), List.take_left, List.drop_left]]
  rfl
theorem rawT_len (f : Tk) : (rawT f).length = 10 + f.o.length + f.s.length := by
  unfold rawT lenL
  rw [List.length_append, List.length_append, putL_len, List.length_cons, List.length_cons]; omega
theorem untext_raw (h : f.few) (he : f.e < 2 ^ 64) : untextR (rawT f) = (f, 0) := by
  unfold untextR rawT
  have h1 := numS_8 f.e he (lenL f.o ++ lenL f.s)
  have h2 := shortS_l f.o (lenL f.s) (by have := h.1; omega)
  have h3 := shortS_l f.s [] (by have := h.2; omega)
  rw [List.append_nil] at h3
  simp only [h1, h2, h3]
  have h4 : endS (0, []) = (0, []) := rfl
  simp only [h4, if_true]
  rw [if_neg (by have := h.1; have := h.2; omega)]
theorem text_few (h : f.few) : textR f = (rawT f, 0) := by unfold textR; rw [if_neg (by have := h.1; have := h.2; omega)]
theorem raw_inj (hf : f.few) (hg : g.few) (ef : f.e < 2 ^ 64) (eg : g.e < 2 ^ 64) (h : rawT f = rawT g) : f = g := by
  have h1 := untext_raw hf ef
  rw [h, untext_raw hg eg] at h1
  injection h1 with h1
  exact h1.symm
theorem seal_no (h : hasR s q = false) : sealT s q n c f = ([], 17) := by unfold sealT; rw [if_pos h]
theorem seal_yes (h : hasR s q = true) (hn : n.length = 12) (hc : c.length ≤ 64) (hf : f.few) : sealT s q n c f = (UInt8.ofNat q.toNat :: (n ++ (sealR (keyR s q) n (rawT f) (noteT q c)).1), 0) := by
  unfold sealT
  rw [if_neg (by rw [h]; decide), if_neg (by omega), text_few hf, if_neg (by simp)]
theorem sealR_12 (k t a : List UInt8) (hn : n.length = 12) : sealR k n t a = (trnL k n t ++ tagL k n (trnL k n t) a, 0) := by unfold sealR; rw [if_pos hn]
theorem seal_lenT (k t a : List UInt8) (hk : k.length = 16) (hn : n.length = 12) : (sealR k n t a).1.length = t.length + 16 := by
  rw [sealR_12 k t a hn, List.length_append, trnL_len k n t hk hn, tagL_len k n _ a hk hn]
/-- A token's parts. -/
theorem tok_parts (hn : n.length = 12) (b : UInt8) (x : List UInt8) : ((b :: (n ++ x)).drop 1).take 12 = n ∧ (b :: (n ++ x)).drop 13 = x := by
  constructor
  · rw [List.drop_succ_cons, List.drop_zero, List.take_left' hn]
  · rw [List.drop_succ_cons, List.drop_left' hn]
theorem fst_q (hq : 0 ≤ q ∧ q ≤ 127) (x : List UInt8) : fstT (UInt8.ofNat q.toNat :: x) = q := by
  unfold fstT
  rw [List.headD_cons]
  have : (UInt8.ofNat q.toNat).toNat = q.toNat := by simp; omega
  rw [this]; omega
theorem body_back (k : List UInt8) (hk : k.length = 16) (hn : n.length = 12) (hf : f.few) (he : f.e < 2 ^ 64) (b : UInt8) (now : Nat) :
    bodyT k c q (b :: (n ++ (sealR k n (rawT f) (noteT q c)).1)) now = if f.e < now then (zTk, 20) else (f, 0) := by
  unfold bodyT
  obtain ⟨p1, p2⟩ := tok_parts hn b (sealR k n (rawT f) (noteT q c)).1
  simp only [p1, p2, open_seal k n (rawT f) (noteT q c) hk hn, untext_raw hf he]
  rw [if_neg (by simp), if_neg (by simp)]
/-- What is sealed for a client is opened for it up to its time. -/
theorem open_back (ok : okR s) (h : hasR s q = true) (hn : n.length = 12) (hc : c.length ≤ 64) (hf : f.few) (he : f.e < 2 ^ 64) (now : Nat) : openT s c (sealT s q n c f).1 now = if f.e < now then (zTk, 20) else (f, 0) := by
  have hq : 0 ≤ q ∧ q ≤ 127 := by
    obtain ⟨r, hr, e⟩ := List.mem_map.1 (has_iffR.1 h)
    have := (ok.g r hr).1
    rw [← e]; exact this
  have hk := key_lenR ok h
  rw [seal_yes h hn hc hf]
  unfold openT
  have hl : (UInt8.ofNat q.toNat :: (n ++ (sealR (keyR s q) n (rawT f) (noteT q c)).1)).length = 39 + f.o.length + f.s.length := by
    rw [List.length_cons, List.length_append, seal_lenT _ _ _ hk hn, rawT_len, hn]; omega
  have hfew := hf
  unfold Tk.few at hfew
  rw [fst_q hq, if_neg (by rw [hl]; omega), if_neg (by rw [h]; decide), if_neg (by rw [hl]; omega)]
  exact body_back (keyR s q) hk hn hf he _ now
/-- Tokens of one key and client are alike just where nonce and fields are. -/
theorem seal_inj (ok : okR s) (h : hasR s q = true) (hn : n.length = 12) (hn' : n'.length = 12) (hc : c.length ≤ 64) (hf : f.few) (hg : g.few) (ef : f.e < 2 ^ 64) (eg : g.e < 2 ^ 64) :
    (sealT s q n c f).1 = (sealT s q n' c g).1 ↔ n = n' ∧ f = g := by
  refine ⟨fun e => ?_, fun ⟨e1, e2⟩ => by rw [e1, e2]⟩
  have hk := key_lenR ok h
  rw [seal_yes h hn hc hf, seal_yes h hn' hc hg] at e
  injection e with _ e
  obtain ⟨e1, e2⟩ := List.append_inj e (by rw [hn, hn'])
  subst e1
  refine ⟨rfl, raw_inj hf hg ef eg ?_⟩
  have o1 := open_seal (keyR s q) n (rawT f) (noteT q c) hk hn
  rw [e2, open_seal (keyR s q) n (rawT g) (noteT q c) hk hn] at o1
  injection o1 with o1
  exact o1.symm
end
end Go.Proofs.YthllaoeioddddaaGreat

/- Layer 20's token that is often shown, in numbers. No condition; nothing is claimed of the program here. -/
namespace Go.Proofs.YthllaoeioddddaaGreat
set_option linter.unusedVariables false
def tkF : Tk := ⟨100, [1, 2], [3]⟩
def tkR : Rg := [(5, zr16)]
def tkTxt : List UInt8 := [0, 0, 0, 0, 0, 0, 0, 100, 2, 1, 2, 1, 3]
def tkTrn : List UInt8 := [3, 136, 218, 206, 96, 182, 163, 246, 241, 41, 192, 184, 114]
def tkT1 : List UInt8 := [101, 65, 156, 116, 223, 146, 188, 107, 117, 14, 40, 86, 87, 26, 54, 59]
def tkT2 : List UInt8 := [95, 188, 240, 225, 56, 144, 127, 73, 143, 247, 29, 151, 247, 85, 189, 192]
def tkB : List UInt8 := [5, 0, 0, 0, 0, 0, 0, 0, 0, 0, 0, 0, 0, 3, 136, 218, 206, 96, 182, 163, 246, 241, 41, 192, 184, 114, 101, 65, 156, 116, 223, 146, 188, 107, 117, 14, 40, 86, 87, 26, 54, 59]
theorem tk_raw : rawT tkF = tkTxt := by decide +kernel
set_option maxRecDepth 100000 in
theorem tk_strm : strmL zr16 (aftL (fstL zr12) 1) 13 = textL.take 13 := by
  have h : strmL zr16 (aftL (fstL zr12) 1) 13 = (strmL zr16 (aftL (fstL zr12) 1) 16).take 13 := by
    unfold strmL
    rw [List.take_take]
    rfl
  rw [h, strm16_shown]
theorem tk_trn : trnL zr16 zr12 tkTxt = tkTrn := by
  rw [← trn_eq zr16 zr12 tkTxt 13 rfl, tk_strm]
  decide +kernel
theorem tk_nums1 : sumN [5, 9] tkTrn = [6692870650651392813175809768364703744, 4698274276341917921829904980149010432, 295147905179352825960] := by decide +kernel
theorem tk_nums2 : sumN [5, 8] tkTrn = [6687678353792857985547279272035483648, 4698274276341917921829904980149010432, 295147905179352825960] := by decide +kernel
set_option maxRecDepth 100000 in
theorem tk_fold1 : gFold 136792598789324718765670228683992083246 0 [6692870650651392813175809768364703744, 4698274276341917921829904980149010432, 295147905179352825960] = 81931213990318136541563779184949293921 := by decide +kernel
set_option maxRecDepth 100000 in
theorem tk_fold2 : gFold 136792598789324718765670228683992083246 0 [6687678353792857985547279272035483648, 4698274276341917921829904980149010432, 295147905179352825960] = 9792919048163756966477541386919016602 := by decide +kernel
theorem tk_tag1 : tagL zr16 zr12 tkTrn [5, 9] = tkT1 := by
  rw [← tag_eq, hk_shown, e1_shown]
  unfold sumG
  rw [tk_nums1, key_num, tk_fold1]
  decide +kernel
theorem tk_tag2 : tagL zr16 zr12 tkTrn [5, 8] = tkT2 := by
  rw [← tag_eq, hk_shown, e1_shown]
  unfold sumG
  rw [tk_nums2, key_num, tk_fold2]
  decide +kernel
theorem tk_seal : sealT tkR 5 zr12 [9] tkF = (tkB, 0) := by
  rw [seal_yes (by decide) (by decide) (by decide) ⟨by decide, by decide⟩, tk_raw, show keyR tkR 5 = zr16 by decide, show noteT 5 [9] = [5, 9] by decide, sealR_12 _ _ _ (by decide), tk_trn, tk_tag1]
  decide +kernel
theorem tk_okR : okR tkR := ⟨by decide, by decide, by decide⟩
theorem tk_open (now : Nat) : openT tkR [9] tkB now = if 100 < now then (zTk, 20) else (tkF, 0) := by
  have h := open_back (s := tkR) (q := 5) (n := zr12) (c := [9]) (f := tkF) tk_okR (by decide) (by decide) (by decide) ⟨by decide, by decide⟩ (by decide) now
  rw [tk_seal] at h
  exact h
theorem tk_spoilt : openT tkR [8] tkB 0 = (zTk, 13) := by
  unfold openT
  rw [if_neg (by decide), show fstT tkB = 5 by decide, if_neg (by decide), if_neg (by decide), show keyR tkR 5 = zr16 by decide]
  unfold bodyT
  have e : openR zr16 ((tkB.drop 1).take 12) (tkB.drop 13) (noteT 5 [8]) = ([], 13) := by
    rw [show (tkB.drop 1).take 12 = zr12 by decide, show tkB.drop 13 = tkTrn ++ tkT1 by decide, show noteT 5 [8] = [5, 8] by decide]
    unfold openR
    rw [if_pos (by decide), if_neg (by decide), show (tkTrn ++ tkT1).length - 16 = 13 by decide, show (tkTrn ++ tkT1).take 13 = tkTrn by decide, show (tkTrn ++ tkT1).drop 13 = tkT1 by decide, tk_tag2, if_neg (by decide)]
  simp only [e]
  rw [if_pos (by decide)]
theorem tk_lens : tkB.length = 42 ∧ tkTxt.length = 13 ∧ fstT tkB = 5 := by decide
theorem tk_text : textR tkF = (tkTxt, 0) ∧ untextR tkTxt = (tkF, 0) := by
  refine ⟨by rw [text_few ⟨by decide, by decide⟩, tk_raw], ?_⟩
  rw [← tk_raw]
  exact untext_raw ⟨by decide, by decide⟩ (by decide)
theorem tk_half : untextR (tkTxt.take 6) = (zTk, 12) := by decide +kernel
end Go.Proofs.YthllaoeioddddaaGreat

/- Layer 20, plain: a key that is there stays where other ones are installed or retired; what the walks ask of a token. Nothing is claimed of the program here. -/
namespace Go.Proofs.YthllaoeioddddaaGreat
set_option linter.unusedVariables false
section
variable {s : Rg} {q p : Int} {k K : List UInt8}
theorem mem_ofR (h : hasR s q = true) : (q, keyR s q) ∈ s := by
  obtain ⟨i, r, hf, hr, hq, hi⟩ := has_someR h
  rw [key_atR (p := r.1) (k := r.2) hf hr, ← hq]
  exact List.mem_of_getElem? hr
theorem of_memR (ok : okR s) (h : (q, K) ∈ s) : hasR s q = true ∧ keyR s q = K := by
  refine ⟨has_iffR.2 (List.mem_map.2 ⟨_, h, rfl⟩), ?_⟩
  obtain ⟨i, hi, e⟩ := List.getElem_of_mem h
  have := key_oneR ok.u hi
  rw [e] at this
  exact this
theorem inst_mem (h : (q, K) ∈ s) : (q, K) ∈ (instR s p k).1 := by
  unfold instR
  split
  · exact h
  · split
    · exact h
    · split
      · exact h
      · exact List.mem_append_left _ h
theorem ret_mem (hp : p ≠ q) (h : (q, K) ∈ s) : (q, K) ∈ (retR s p).1 := by
  unfold retR
  split
  · exact h
  · split
    · rename_i hv
      obtain ⟨i, r, hf, hr, hq, hi⟩ := has_someR hv
      rw [hf]
      show (q, K) ∈ s.eraseIdx i
      rw [List.mem_eraseIdx_iff_getElem]
      obtain ⟨j, hj, e⟩ := List.getElem_of_mem h
      refine ⟨j, hj, fun hji => ?_, e⟩
      subst hji
      rw [List.getElem?_eq_getElem hj, e] at hr
      injection hr with hr
      subst hr
      exact hp hq.symm
    · exact h
theorem do_memR {c : Cr} (hc : c.q ≠ q) (h : (q, K) ∈ s) : (q, K) ∈ (doR s c).1 := by
  unfold doR
  split
  · exact inst_mem h
  · split
    · exact ret_mem hc h
    · exact h
/-- A key that is retired is gone. -/
theorem ret_goneK (ok : okR s) (h : hasR s q = true) : (retR s q).2 = 0 ∧ hasR (retR s q).1 q = false := by
  have hq : 0 ≤ q ∧ q ≤ 127 := by
    obtain ⟨r, hr, e⟩ := List.mem_map.1 (has_iffR.1 h)
    have := (ok.g r hr).1
    rw [← e]; exact this
  unfold retR
  rw [if_neg (fun g => g hq), if_pos h]
  refine ⟨rfl, ?_⟩
  obtain ⟨i, r, hf, hr, hq', hi⟩ := has_someR h
  rw [hf]
  show hasR (s.eraseIdx i) q = false
  rw [has_noR]
  intro hm
  obtain ⟨r', hr', e⟩ := List.mem_map.1 hm
  rw [List.mem_eraseIdx_iff_getElem] at hr'
  obtain ⟨j, hj, hne, e2⟩ := hr'
  have h1 := find_oneR ok.u hj (q := q) (by rw [e2]; exact e)
  rw [h1] at hf
  injection hf with hf
  exact hne hf
theorem rng_q (ok : okR s) (h : hasR s q = true) : 0 ≤ q ∧ q ≤ 127 := by
  obtain ⟨r, hr, e⟩ := List.mem_map.1 (has_iffR.1 h)
  have := (ok.g r hr).1
  rw [← e]; exact this
end
end Go.Proofs.YthllaoeioddddaaGreat

/- Layer 20: what a token tells, in memory; what a walk over such carries. No condition; nothing is claimed of the program here. -/
namespace Go.Proofs.YthllaoeioddddaaGreat
open Go.RowKit
set_option linter.unusedVariables false
set_option linter.unusedSimpArgs false
structure Fd where
  e : Nat
  A : Option Addr
  c : Nat
  o : List UInt8
  B : Option Addr
  d : Nat
  s : List UInt8
def Fd.tk (f : Fd) : Tk := ⟨f.e, f.o, f.s⟩
def Fd.cells (f : Fd) : List Value := [.int .u64 (f.e : Int), .slice f.A f.o.length f.c, .slice f.B f.s.length f.d]
def Fd.val (f : Fd) : Value := .agg f.cells.toArray
def zeroF : Fd := ⟨0, none, 0, [], none, 0, []⟩
structure Fd.ok (w : World) (f : Fd) : Prop where
  e : f.e < 2 ^ 64
  o : RB w w.heap.size f.A f.o.length f.o
  s : RB w w.heap.size f.B f.s.length f.s
  co : f.o.length ≤ f.c ∧ f.c ≤ maxLen
  cs : f.s.length ≤ f.d ∧ f.d ≤ maxLen
structure Fd.own (w : World) (base : Nat) (f : Fd) : Prop where
  e : f.e < 2 ^ 64
  o : OwnB w base f.A f.o.length f.c f.o
  s : OwnB w base f.B f.s.length f.d f.s
section
variable {T T' : TypeId} {w w' : World} {x base base' : Nat} {f g : Fd} {S : List Nat}
theorem Fd.own.ok (k : f.own w base) : f.ok w := ⟨k.e, k.o.rb, k.s.rb, k.o.cap, k.s.cap⟩
theorem Fd.ok.step (k : f.ok w) (hb : Below w.heap.size w w') : f.ok w' := ⟨k.e, k.o.step hb, k.s.step hb, k.co, k.cs⟩
theorem Fd.own.step (k : f.own w base) (hb : Below w.heap.size w w') : f.own w' base := ⟨k.e, k.o.below hb, k.s.below hb⟩
theorem Fd.own.base_le (k : f.own w base) (hb : base' ≤ base) : f.own w base' := ⟨k.e, k.o.base_le hb, k.s.base_le hb⟩
theorem Fd.own.zero (w : World) (base : Nat) : zeroF.own w base := ⟨by decide, OwnB.nil_ _ _, OwnB.nil_ _ _⟩
theorem zeroF_ok (w : World) : zeroF.ok w := (Fd.own.zero w 0).ok
theorem fd_ones (f : Fd) : ones f.cells := fun v hv => by
  simp only [Fd.cells, List.mem_cons, List.not_mem_nil, or_false] at hv
  rcases hv with rfl | rfl | rfl <;> rfl
end
theorem rt_tk : RT 25 zeroF.cells := ⟨row_of (by kernel_rfl), by kernel_rfl⟩
theorem rt_rtk : RT 32 zeroF.cells := ⟨row_of (by kernel_rfl), by kernel_rfl⟩
theorem ex_ldF (ev : Operand → Value) (x : Operand) (d : Option Tmp) (ty : TypeId) (ps : String) (af : Array Edge) (g : Option (Nat × Bool)) (w : World) : (execOp ev ⟨d, .load 25 x, ty, ps, af, g⟩).run Tryz.prog w = ldHd 25 (ev x) w := rfl
theorem ex_ldFr (ev : Operand → Value) (x : Operand) (d : Option Tmp) (ty : TypeId) (ps : String) (af : Array Edge) (g : Option (Nat × Bool)) (w : World) : (execOp ev ⟨d, .load 32 x, ty, ps, af, g⟩).run Tryz.prog w = ldHd 32 (ev x) w := rfl
theorem ex_stF (ev : Operand → Value) (x y : Operand) (d : Option Tmp) (ty : TypeId) (ps : String) (af : Array Edge) (g : Option (Nat × Bool)) (w : World) : (execOp ev ⟨d, .store 25 x y, ty, ps, af, g⟩).run Tryz.prog w = stHd 25 (ev x) (ev y) w := rfl
theorem ex_stFr (ev : Operand → Value) (x y : Operand) (d : Option Tmp) (ty : TypeId) (ps : String) (af : Array Edge) (g : Option (Nat × Bool)) (w : World) : (execOp ev ⟨d, .store 32 x y, ty, ps, af, g⟩).run Tryz.prog w = stHd 32 (ev x) (ev y) w := rfl
/-- Block x is the fields f, of type T. -/
def Fc (T : TypeId) (w : World) (x : Nat) (f : Fd) : Prop := Blk T w x f.cells
section
variable {T T' : TypeId} {w w' : World} {x : Nat} {f : Fd} {S : List Nat}
theorem Fc.blk (k : Fc T w x f) : Blk T w x f.cells := k
theorem Fc.c0 (k : Fc T w x f) : w.cell? ⟨x, 0, none⟩ = some (.int .u64 (f.e : Int)) := k.blk.cell 0
theorem Fc.c1 (k : Fc T w x f) : w.cell? ⟨x, 1, none⟩ = some (.slice f.A f.o.length f.c) := k.blk.cell 1
theorem Fc.c2 (k : Fc T w x f) : w.cell? ⟨x, 2, none⟩ = some (.slice f.B f.s.length f.d) := k.blk.cell 2
theorem Fc.step (k : Fc T w x f) (hb : Below w.heap.size w w') : Fc T w' x f := k.blk.step hb
theorem Fc.oth (k : Fc T w x f) (ho : Oth S w w') (hx : x ∉ S) : Fc T w' x f := k.blk.oth ho hx
theorem Fc.ld (k : Fc T w x f) (rt : RT T' zeroF.cells) : ldHd T' (.pointer (some ⟨x, 0, none⟩)) w = .ok (.value (.agg #[.int .u64 (f.e : Int), .slice f.A f.o.length f.c, .slice f.B f.s.length f.d])) w := ldB_m rt k.blk rfl rfl
theorem Fc.set0 (k : Fc T w x f) (e : Nat) : Fc T (w.setCell ⟨x, 0, none⟩ (.int .u64 (e : Int))) x { f with e := e } := k.blk.set 0 _
theorem Fc.set1 (k : Fc T w x f) (A : Option Addr) (c : Nat) (l : List UInt8) : Fc T (w.setCell ⟨x, 1, none⟩ (.slice A l.length c)) x { f with A := A, c := c, o := l } := k.blk.set 1 _
theorem Fc.whole (k : Fc T w x f) (g : Fd) : Fc T (w.setCells x 0 g.cells) x g := k.blk.puts g.cells 0 _ _
theorem Fc.st (k : Fc T w x f) (rt : RT T' zeroF.cells) (j : Fd) : stHd T' (.pointer (some ⟨x, 0, none⟩)) j.val w = .ok .skip (w.setCells x 0 j.cells) := stB_m rt k.blk (fd_ones j) rfl (Nat.le_refl 3)
theorem Fc.nex {y : Nat} {a b : Value} (k : Fc T w x f) (t : Two T' w y a b) (hT : T ≠ T') : x ≠ y := fun e => by
  subst e
  have e := (show w.heap[x]? = _ from k).symm.trans t
  injection e with e
  injection e with _ e
  exact hT e
theorem Fd.own.off (k : f.own w x) (ho : Oth S w w') (hS : NoB S w) : f.own w' x := ⟨k.e, k.o.offS ho hS, k.s.offS ho hS⟩
end
section
variable {w : World} {ops : Array Oper} {rest : List Oper} {o : Oper} {a : Act} {Q : Exit → Act → World → Prop} {T T' : TypeId}
theorem wpList_ldF (rt : RT T zeroF.cells) (hgd : o.guard = none) (x : Operand) (hop : o.op = .load T x) (g : Nat) (hx : a.eval x = .pointer (some ⟨g, 0, none⟩)) (i : Fd) (hc : Fc T' w g i)
    (hk : wpList Tryz.prog ops Q rest (a.put o.dst i.val) w) : wpList Tryz.prog ops Q (o :: rest) a w := wpList_ldB rt hgd x hop g 0 hx _ i.cells hc.blk rfl rfl hk
theorem wpList_stF (rt : RT T zeroF.cells) (hgd : o.guard = none) (x y : Operand) (hop : o.op = .store T x y) (g : Nat) (hx : a.eval x = .pointer (some ⟨g, 0, none⟩)) (i i0 : Fd) (hy : a.eval y = i.val) (hc : Fc T' w g i0)
    (hk : ∀ w', Fc T' w' g i → Oth [g] w w' → w'.heap.size = w.heap.size → wpList Tryz.prog ops Q rest (a.put o.dst undef) w') : wpList Tryz.prog ops Q (o :: rest) a w :=
  wpList_stB rt hgd x y hop g 0 hx i0.cells i.cells hy (fd_ones i) rfl hc.blk (Nat.le_refl 3) hk
theorem wpList_boxF (hgd : o.guard = none) (T : TypeId) (x : Operand) (hop : o.op = .box T x) (i : Fd) (hx : a.eval x = i.val)
    (hk : ∀ w' q, Fc T w' q i → Below w.heap.size w w' → w.heap.size ≤ q → wpList Tryz.prog ops Q rest (a.put o.dst (.pointer (some ⟨q, 0, none⟩))) w') : wpList Tryz.prog ops Q (o :: rest) a w := wpList_boxB hgd T x hop i.cells hx hk
theorem wpList_newF (rt : RT T zeroF.cells) (hgd : o.guard = none) (hop : o.op = .alloc T)
    (hk : ∀ w' q, Fc T w' q zeroF → Below w.heap.size w w' → w.heap.size ≤ q → wpList Tryz.prog ops Q rest (a.put o.dst (.pointer (some ⟨q, 0, none⟩))) w') : wpList Tryz.prog ops Q (o :: rest) a w := wpList_newB rt hgd hop hk
end
/-- A call that gives fields and an error's number. -/
def RetTk (r : Tk × Int) (w : World) (e : Ending) (w' : World) : Prop :=
  ∃ f : Fd, e = .returned (.tuple #[f.val, .int .i64 r.2]) ∧ f.tk = r.1 ∧ f.own w' w.heap.size ∧ Below w.heap.size w w'
/-- The same, where other blocks are as the call left them. -/
theorem numS_lt (z : Int) (s : Int × List UInt8) : (numS z s).1 < 2 ^ 64 := by
  rw [numS_eq]
  have h1 := numT_len z s
  have h2 := numL_lt _ (bytesS z (numT z s)).1 rfl
  refine Nat.lt_of_lt_of_le h2 ?_
  rw [show (2 : Nat) ^ 64 = 256 ^ 8 by decide]
  exact Nat.pow_le_pow_right (by decide) h1
/-- Join of two rows, of three. -/
theorem jn2 (w : World) (A1 A2 : Option Addr) (n1 n2 c1 c2 : Nat) (l1 l2 : List UInt8) (h1 : RB w w.heap.size A1 n1 l1) (h2 : RB w w.heap.size A2 n2 l2) (b1 : n1 ≤ 1000000) (b2 : n2 ≤ 1000000) (g : Nat) (hg : g = w.heap.size) (M : Nat) (hM : M = n1 + n2) (L : List UInt8) (hL : L = l1 ++ l2) :
    Calls Tryz.prog 49 #[.slice (some ⟨g, 0, none⟩) 2 2] (w.alloc (.cells #[.slice A1 n1 c1, .slice A2 n2 c2] 23)) fun e w' => ∃ A c, e = .returned (.slice A M c) ∧ OwnB w' w.heap.size A M c L ∧ Below w.heap.size w w' := by
  subst hg hM hL
  have e1 := h1.len
  have e2 := h2.len
  have hrr := RR.lit w [(A1, c1, l1), (A2, c2, l2)] #[.slice A1 n1 c1, .slice A2 n2 c2] 23 2 w.heap.size (by simp [e1, e2]) rfl rfl (fun r hr => by
    simp only [List.mem_cons, List.not_mem_nil, or_false] at hr
    rcases hr with rfl | rfl
    · rw [e1]; exact h1
    · rw [e2]; exact h2)
  have hto : totL (List.map (fun r : Option Addr × Nat × List UInt8 => r.2.2) [(A1, c1, l1), (A2, c2, l2)]) = n1 + n2 := by simp [totL, e1, e2]
  have hfl : (List.map (fun r : Option Addr × Nat × List UInt8 => r.2.2) [(A1, c1, l1), (A2, c2, l2)]).flatten = l1 ++ l2 := by simp
  refine (join_any _ 2 2 _ _ hrr (by decide) (by rw [hto]; omega)).mono ?_
  rintro e w' ⟨A, c, he, ho, hb⟩
  rw [hto, hfl] at ho
  rw [hto] at he
  exact ⟨A, c, he, ho.base_le (by simp), (below_alloc w _).trans (hb.mono (by simp))⟩
theorem jn3 (w : World) (A1 A2 A3 : Option Addr) (n1 n2 n3 c1 c2 c3 : Nat) (l1 l2 l3 : List UInt8) (h1 : RB w w.heap.size A1 n1 l1) (h2 : RB w w.heap.size A2 n2 l2) (h3 : RB w w.heap.size A3 n3 l3) (b1 : n1 ≤ 1000000) (b2 : n2 ≤ 1000000) (b3 : n3 ≤ 1000000) (g : Nat) (hg : g = w.heap.size) (M : Nat) (hM : M = n1 + (n2 + n3)) (L : List UInt8) (hL : L = l1 ++ (l2 ++ l3)) :
    Calls Tryz.prog 49 #[.slice (some ⟨g, 0, none⟩) 3 3] (w.alloc (.cells #[.slice A1 n1 c1, .slice A2 n2 c2, .slice A3 n3 c3] 23)) fun e w' => ∃ A c, e = .returned (.slice A M c) ∧ OwnB w' w.heap.size A M c L ∧ Below w.heap.size w w' := by
  subst hg hM hL
  have e1 := h1.len
  have e2 := h2.len
  have e3 := h3.len
  have hrr := RR.lit w [(A1, c1, l1), (A2, c2, l2), (A3, c3, l3)] #[.slice A1 n1 c1, .slice A2 n2 c2, .slice A3 n3 c3] 23 3 w.heap.size (by simp [e1, e2, e3]) rfl rfl (fun r hr => by
    simp only [List.mem_cons, List.not_mem_nil, or_false] at hr
    rcases hr with rfl | rfl | rfl
    · rw [e1]; exact h1
    · rw [e2]; exact h2
    · rw [e3]; exact h3)
  have hto : totL (List.map (fun r : Option Addr × Nat × List UInt8 => r.2.2) [(A1, c1, l1), (A2, c2, l2), (A3, c3, l3)]) = n1 + (n2 + n3) := by simp [totL, e1, e2, e3]
  have hfl : (List.map (fun r : Option Addr × Nat × List UInt8 => r.2.2) [(A1, c1, l1), (A2, c2, l2), (A3, c3, l3)]).flatten = l1 ++ (l2 ++ l3) := by simp
  refine (join_any _ 3 3 _ _ hrr (by decide) (by rw [hto]; omega)).mono ?_
  rintro e w' ⟨A, c, he, ho, hb⟩
  rw [hto, hfl] at ho
  rw [hto] at he
  exact ⟨A, c, he, ho.base_le (by simp), (below_alloc w _).trans (hb.mono (by simp))⟩
end Go.Proofs.YthllaoeioddddaaGreat

/- Layer 20: calls of a ring's box that give fields, as the carries take them. No condition; nothing is claimed of the program here. -/
namespace Go.Proofs.YthllaoeioddddaaGreat
open Go.RowKit
set_option linter.unusedVariables false
set_option linter.unusedSimpArgs false
abbrev Rw := Option Addr × Nat × Nat × List UInt8
def Fd.rows (f : Fd) : List Rw := [(f.A, f.o.length, f.c, f.o), (f.B, f.s.length, f.d, f.s)]
/-- What a walk knows of fields wherever they lie. -/
def Fd.fit (f : Fd) : Prop := f.e < 2 ^ 64 ∧ f.c ≤ maxLen ∧ f.d ≤ maxLen
/-- A box's call: fields, an error's number; the box is as it was but for its counts. -/
def RetEF (e : EB) (N F : Nat) (T : Tk) (E : Int) (w : World) (r : Ending) (w' : World) : Prop :=
  ∃ f : Fd, r = .returned (.tuple #[f.val, .int .i64 E]) ∧ f.tk = T ∧ f.own w' w.heap.size ∧ Oth e.S w w' ∧ e.Ok N F w'
theorem Fd.own.fit {f : Fd} {w : World} {b : Nat} (h : f.own w b) : f.fit := ⟨h.e, h.o.cap.2, h.s.cap.2⟩
theorem Fd.ok.fit {f : Fd} {w : World} (h : f.ok w) : f.fit := ⟨h.e, h.co.2, h.cs.2⟩
section
variable {N F N' F' : Nat} {v w w' : World} {x y n c d M : Nat} {s t : Rg} {D : XD} {G : List Nat} {A B : Option Addr} {es : Ens} {rows rows' : List Rw} {l L : List UInt8} {E : Int} {r : Ending} {e0 : EB × Int} {T : Tk} {f : Fd}
theorem TX.sub (h : TX N F v x y s t D G rows w) (hr : ∀ r ∈ rows', r ∈ rows) : TX N F v x y s t D G rows' w := ⟨h.pr, fun q hq => h.row q (hr q hq)⟩
theorem BX.sub (h : BX v x A c es N F rows w) (hr : ∀ r ∈ rows', r ∈ rows) : BX v x A c es N F rows' w := ⟨h.bel, h.rn, fun q hq => h.row q (hr q hq)⟩
theorem TX.fd (h : TX N F v x y s t D G rows w) (hf : f.fit) (hr : ∀ r ∈ f.rows, r ∈ rows) : f.ok w := by
  have h1 := h.row _ (hr _ (show (f.A, f.o.length, f.c, f.o) ∈ f.rows by simp [Fd.rows]))
  have h2 := h.row _ (hr _ (show (f.B, f.s.length, f.d, f.s) ∈ f.rows by simp [Fd.rows]))
  exact ⟨hf.1, h1.1, h2.1, ⟨h1.2.1, hf.2.1⟩, ⟨h2.2.1, hf.2.2⟩⟩
theorem BX.fd (h : BX v x A c es N F rows w) (hf : f.fit) (hr : ∀ r ∈ f.rows, r ∈ rows) : f.ok w := by
  have h1 := h.row _ (hr _ (show (f.A, f.o.length, f.c, f.o) ∈ f.rows by simp [Fd.rows]))
  have h2 := h.row _ (hr _ (show (f.B, f.s.length, f.d, f.s) ∈ f.rows by simp [Fd.rows]))
  exact ⟨hf.1, h1.1, h2.1, ⟨h1.2.1, hf.2.1⟩, ⟨h2.2.1, hf.2.2⟩⟩
/-- A box's call that gives fields. -/
theorem TX.boxF (h : TX N F v x y s t D G rows w) (h0 : e0 ∈ D.es) (hr : RetEF e0.1 N' F' T E w r w') (hn : N ≤ N') (hf : F ≤ F') : ∃ f : Fd, r = .returned (.tuple #[f.val, .int .i64 E]) ∧ f.tk = T ∧ f.fit ∧ TX N' F' v x y s t D (blkO f.A ++ blkO f.B ++ G) (f.rows ++ rows) w' := by
  obtain ⟨f, he, ht, ho, hoth, hok⟩ := hr
  obtain ⟨hp, hk⟩ := h.pr.call h0 hoth hok hn hf
  refine ⟨f, he, ht, ho.fit, h.pr.add hp (blkO f.A ++ blkO f.B) (fun g hg => (List.mem_append.1 hg).elim (own_lt ho.o g) (own_lt ho.s g)), fun q hq => ?_⟩
  rcases List.mem_append.1 hq with hq | hq
  · simp only [Fd.rows, List.mem_cons, List.not_mem_nil, or_false] at hq
    rcases hq with rfl | rfl
    · exact ⟨ho.o.rb, ho.o.cap.1, fun _ g hg => .inl (List.mem_append_left _ (List.mem_append_left _ hg))⟩
    · exact ⟨ho.s.rb, ho.s.cap.1, fun _ g hg => .inl (List.mem_append_left _ (List.mem_append_right _ hg))⟩
  · have z := (h.row q hq).keep hk (fun k hlt => (hp.bel.block k hlt).trans (h.pr.bel.block k hlt).symm) (fun g hg => (hp.gs g hg).1) hp.bel.size
    exact ⟨z.1, z.2.1, fun h0 g hg => (z.2.2 h0 g hg).imp (List.mem_append_right _) id⟩
theorem BX.callF (h : BX v x A c es N F rows w) (h0 : e0 ∈ es) (hr : RetEF e0.1 N' F' T E w r w') (hn : N ≤ N') (hf : F ≤ F') : ∃ f : Fd, r = .returned (.tuple #[f.val, .int .i64 E]) ∧ f.tk = T ∧ f.fit ∧ BX v x A c es N' F' (f.rows ++ rows) w' := by
  obtain ⟨f, he, ht, ho, hoth, hok⟩ := hr
  obtain ⟨k1, k2, k3, k4, k5⟩ := h.rn.ok e0 h0
  have hlo : ∀ g ∈ e0.1.S, v.heap.size ≤ g := fun g hg => Nat.le_trans k3 (k1.in_ g hg).1
  refine ⟨f, he, ht, ho.fit, h.bel.trans (hoth.below hlo h.bel.size), h.rn.call h0 hoth hok hn hf, fun q hm => ?_⟩
  rcases List.mem_append.1 hm with hm | hm
  · simp only [Fd.rows, List.mem_cons, List.not_mem_nil, or_false] at hm
    rcases hm with rfl | rfl
    · exact ⟨ho.o.rb, ho.o.cap.1, fun _ g hg e he => .inr (Nat.le_trans (h.rn.ok e he).1.le (own_lt ho.o g hg).1)⟩
    · exact ⟨ho.s.rb, ho.s.cap.1, fun _ g hg e he => .inr (Nat.le_trans (h.rn.ok e he).1.le (own_lt ho.s g hg).1)⟩
  · obtain ⟨r1, r2, r3⟩ := h.row q hm
    exact ⟨r1.oth hoth (fun h0' g o eg => k1.not_in (r3 h0' g (by rw [eg]; simp [blkO]) e0 h0)), r2, r3⟩
/-- New fields that no box's call gave. -/
theorem TX.ownF (h : TX N F v x y s t D G rows w) (hb : Below w.heap.size w w') (ho : f.own w' w.heap.size) : TX N F v x y s t D (blkO f.A ++ (blkO f.B ++ G)) (f.rows ++ rows) w' := by
  have h1 := h.own hb ho.s
  refine ⟨h.pr.add (h.step hb).pr (blkO f.A ++ blkO f.B) (fun g hg => (List.mem_append.1 hg).elim (own_lt ho.o g) (own_lt ho.s g)) |> fun k => (by rw [List.append_assoc] at k; exact k), fun q hq => ?_⟩
  rcases List.mem_append.1 hq with hq | hq
  · simp only [Fd.rows, List.mem_cons, List.not_mem_nil, or_false] at hq
    rcases hq with rfl | rfl
    · exact ⟨ho.o.rb, ho.o.cap.1, fun _ g hg => .inl (List.mem_append_left _ hg)⟩
    · exact ⟨ho.s.rb, ho.s.cap.1, fun _ g hg => .inl (List.mem_append_right _ (List.mem_append_left _ hg))⟩
  · exact ⟨(h.row q hq).1.step hb, (h.row q hq).2.1, fun h0 g hg => ((h.row q hq).2.2 h0 g hg).imp (fun z => List.mem_append_right _ (List.mem_append_right _ z)) id⟩
theorem BX.ownF (h : BX v x A c es N F rows w) (hb : Below w.heap.size w w') (ho : f.own w' w.heap.size) : BX v x A c es N F (f.rows ++ rows) w' :=
  ⟨bel_next h.bel hb, h.rn.step hb, fun r hm => by
    rcases List.mem_append.1 hm with hm | hm
    · simp only [Fd.rows, List.mem_cons, List.not_mem_nil, or_false] at hm
      rcases hm with rfl | rfl
      · exact ⟨ho.o.rb, ho.o.cap.1, fun _ g hg e he => .inr (Nat.le_trans (h.rn.ok e he).1.le (own_lt ho.o g hg).1)⟩
      · exact ⟨ho.s.rb, ho.s.cap.1, fun _ g hg e he => .inr (Nat.le_trans (h.rn.ok e he).1.le (own_lt ho.s g hg).1)⟩
    · exact ⟨(h.row r hm).1.step hb, (h.row r hm).2⟩⟩
/-- A ring alone, as the carry has it. -/
theorem RG.bx (h : RG v x s [] w) : ∃ A c es, BX v x A c es 1 0 [] w ∧ rgE es = s ∧ okR s ∧ es.length ≤ 16 := by
  obtain ⟨hv, os, A, c, es, h1, h2, h3⟩ := h
  exact ⟨A, c, es, ⟨hv, h1, fun r hr => (by cases hr)⟩, h2, os, by have := os.n; rw [← h2, rg_len] at this; exact this⟩
end
end Go.Proofs.YthllaoeioddddaaGreat

