/- Layer 20's Seal and Open over a ring, ours. Conditions: what is said of the ring; what they read can be read and lies in no box. -/
import Derived.Test.YthppjgdnibfefaaGreatTkU
import Derived.Test.YthppjgdnibfefaaGreatTkL
import Derived.Test.YthppjgdnibfefaaGreatRiU
set_option linter.unusedVariables false
set_option linter.unusedSimpArgs false
set_option maxRecDepth 100000
set_option maxHeartbeats 32000000
namespace Go.Proofs.YthppjgdnibfefaaGreat
attribute [local irreducible] wsW keyUpTo keyF lastW turn0 encUp decUp aftL encL tableL blksL blkL strmL putL numL xorL turnAt fstL hkL tagL trnL bB sumG nB sealR openR tagR numS shortS endS untextR
open Go.RowKit
attribute [local go_sem ↓] ex_ldF ex_stF ex_ldFr ex_stFr
theorem openR_code (k n s a:List UInt8) (hn:n.length=12) (hs:16≤s.length):(openR k n s a).2=0∨(openR k n s a).2=13:=by
 unfold openR
 rw [if_pos hn,if_neg (by omega)]
 split
 ·exact .inl rfl
 ·exact .inr rfl
def unsealT (s:Rg) (c t:List UInt8):List UInt8×Int:=if 64<c.length∨4096<t.length then ([],13) else openR (keyR s (fstT t)) ((t.drop 1).take 12) (t.drop 13) (noteT (fstT t) c)
theorem open_unseal {s:Rg} {c t:List UInt8} (now:Nat) (h29:29≤t.length) (hv:hasR s (fstT t)=true) :
  openT s c t now=if (unsealT s c t).2≠0 then (zTk,(unsealT s c t).2) else if (untextR (unsealT s c t).1).2≠0 then (zTk,(untextR (unsealT s c t).1).2) else if (untextR (unsealT s c t).1).1.e<now then (zTk,20) else ((untextR (unsealT s c t).1).1,0):=by
 unfold openT unsealT
 rw [if_neg (by omega),if_neg (by rw [hv];decide)]
 by_cases hb:64<c.length∨4096<t.length
 ·rw [if_pos hb,if_pos hb,if_pos (by simp)]
 ·rw [if_neg hb,if_neg hb]
  unfold bodyT
  have hc:=openR_code (keyR s (fstT t)) ((t.drop 1).take 12) (t.drop 13) (noteT (fstT t) c) (by rw [List.length_take,List.length_drop];omega) (by rw [List.length_drop];omega)
  generalize openR (keyR s (fstT t)) ((t.drop 1).take 12) (t.drop 13) (noteT (fstT t) c)=R at hc ⊢
  by_cases he:R.2=0
  ·simp only [he,ne_eq,not_true_eq_false,if_false]
  ·rcases hc with hc | hc
   ·exact absurd hc he
   ·rw [if_pos he,if_pos he,hc]
theorem blk_cut {A:Option Addr} {c i:Nat} {S:List Nat} (h:∀ g∈blkO A,g∉S):∀ g∈blkO (cutA A c i),g∉S:=by
 unfold cutA
 split
 ·exact h
 ·intro g hg
  cases A with
  | none=>simp [blkO] at hg
  | some a =>
   have e:(a.add i).block=a.block:=by unfold Addr.add;split <;> rfl
   exact h g (by simpa [blkO,e] using hg)
theorem fst_at {w:World} {B n:Nat} {A:Option Addr} {l:List UInt8} (h:RB w B A n l) (hn:0<n):∃ g o x,A=some ⟨g,o,none⟩∧w.cell? ⟨g,o,none⟩=some (.int .u8 (x.toNat:Int))∧fstT l=(x.toNat:Int)∧l.take 1=[x]∧(x.toNat:Int)≤255:=by
 obtain ⟨g,o,rfl,hg,x,hx,hc⟩:=h.at_ hn
 have hx8:=x.toNat_lt
 refine ⟨g,o,x,rfl,hc,?_,?_,by omega⟩
 ·unfold fstT
  rw [List.headD_eq_head?_getD,List.head?_eq_getElem?,hx];rfl
 ·cases l with
  | nil=>simp at hx
  | cons y l=>simp at hx;subst hx;rfl
theorem tnote_any (A1 A2:Option Addr) (n1 n2 c1 c2:Nat) (l1 l2:List UInt8) (w:World) (h1:RB w w.heap.size A1 n1 l1) (h2:RB w w.heap.size A2 n2 l2) (b1:n1≤1000000) (b2:n2≤1000000) :
  Calls Tryz.prog 83 #[.slice A1 n1 c1,.slice A2 n2 c2] w fun e w'=>∃ A c,e=.returned (.slice A (n1+n2) c)∧OwnB w' w.heap.size A (n1+n2) c (l1++l2)∧Below w.heap.size w w':=by
 have HJ:=η (jn2 w A1 A2 n1 n2 c1 c2 l1 l2 h1 h2 b1 b2 _ rfl _ rfl _ rfl)
 clear h1 h2
 go_enter Tryz.func83,Tryz.ntmps83
 go_wp2_with fail
 refine HJ.out.mono ?_
 rintro e w' ⟨A,c,rfl,ho,hb⟩
 have HO:=η (And.intro ho hb)
 clear ho hb
 go_wp2_with fail
 go_ret
 exact ⟨A,c,rfl,HO.out⟩
theorem RetEB.wrap {e:EB} {N F M:Nat} {L:List UInt8} {E:Int} {w w':World} {r:Ending} (hb:Below w.heap.size w w') (hk:e.Ok N F w') {A:Option Addr} {c:Nat} (he:r=.returned (.tuple #[.slice A M c,.int .i64 E])) (ho:OwnB w' w.heap.size A M c L):RetEB e N F M L E w r w':=⟨A,c,he,ho,Oth.of_below hb,hk⟩
theorem tseal_no (base x:Nat) (A:Option Addr) (c:Nat) (es:Ens) (N F:Nat) (q:Int) (w:World) (h:Rn base w x A c es N F) (hn:es.length≤1000) (hv:hasR (rgE es) q=false) (A1 A2:Option Addr) (n1 c1 n2 c2:Nat) (f:Fd) :
  Calls Tryz.prog 147 #[.pointer (some ⟨x,0,none⟩),.int .i64 q,.slice A1 n1 c1,.slice A2 n2 c2,f.val] w fun e w'=>e=.returned (.tuple #[.slice none 0 0,.int .i64 17])∧Below w.heap.size w w':=by
 have H:=η h
 have HV:=η hv
 clear h hv
 go_enter Tryz.func147,Tryz.ntmps147
 go_wp2_with (first
  | (with_reducible show wpList _ _ _ (⟨_,.box _ (.tmp 4),_,_,_,none⟩::_) _ _;refine wpList_boxF rfl _ (.tmp 4) rfl f rfl ?_;intro w1 qf hc1 hb1 hx1;have H1:=η (And.intro hc1 hb1);clear hc1 hb1 hx1))
 refine (box_no base x A c es N F q w1 (by exact H.out.step H1.out.2) hn HV.out).mono ?_
 rintro e w2 ⟨rfl,hb⟩
 have B2:=η (bel_next H1.out.2 hb)
 clear hb
 go_wp2_with fail
 go_ret2
 exact ⟨rfl,B2.out⟩
theorem tseal_nonce (base x:Nat) (A:Option Addr) (c:Nat) (es:Ens) (N F:Nat) (q:Int) (w:World) (h:Rn base w x A c es N F) (hn:es.length≤1000) (hv:hasR (rgE es) q=true) (A1 A2:Option Addr) (n1 c1 n2 c2:Nat) (l1 l2:List UInt8) (h1:RB w w.heap.size A1 n1 l1) (h2:RB w w.heap.size A2 n2 l2) (f:Fd) (hf:f.ok w) (hb1:n1≠12) (bn1:n1≤1000) :
  Calls Tryz.prog 147 #[.pointer (some ⟨x,0,none⟩),.int .i64 q,.slice A1 n1 c1,.slice A2 n2 c2,f.val] w fun e w'=>∃ e0∈es,RetEB e0.1 (N+1) F 0 [] 11 w e w':=by
 have H:=η h
 have HV:=η hv
 clear h hv h1 h2 hf
 have d1:((n1:Int) != 12)=true:=by rw [bne_iff_ne];omega
 clear hb1
 go_enter Tryz.func147,Tryz.ntmps147
 go_wp2_with (first
  | (with_reducible show wpList _ _ _ (⟨_,.box _ (.tmp 4),_,_,_,none⟩::_) _ _;refine wpList_boxF rfl _ (.tmp 4) rfl f rfl ?_;intro w1 qf hc1 hb1 hx1;have H1:=η (And.intro hc1 hb1);clear hc1 hb1 hx1))
 obtain ⟨i,e0,hm,_,_,hkey,hbx⟩:=box_has base x A c es N F q w1 (by exact H.out.step H1.out.2) hn HV.out
 have HE:=η (And.intro (List.mem_of_getElem? hm) hkey)
 clear hm hkey
 refine hbx.mono ?_
 rintro e w2 ⟨rfl,hb⟩
 have B2:=η (bel_next H1.out.2 hb)
 have C2:=η (H1.out.1.step hb)
 clear hb H1 hbx
 go_wp2_with fail
 go_ret2
 exact ⟨e0,HE.out.1,.wrap B2.out (((H.out.step B2.out).ok e0 HE.out.1).1.up (Nat.le_succ N) (Nat.le_refl F)) rfl (OwnB.nil_ _ _)⟩
theorem tseal_client (base x:Nat) (A:Option Addr) (c:Nat) (es:Ens) (N F:Nat) (q:Int) (w:World) (h:Rn base w x A c es N F) (hn:es.length≤1000) (hv:hasR (rgE es) q=true) (A1 A2:Option Addr) (n1 c1 n2 c2:Nat) (l1 l2:List UInt8) (h1:RB w w.heap.size A1 n1 l1) (h2:RB w w.heap.size A2 n2 l2) (f:Fd) (hf:f.ok w) (hb1:n1=12) (hb2:64<n2) (bn2:n2≤1000) :
  Calls Tryz.prog 147 #[.pointer (some ⟨x,0,none⟩),.int .i64 q,.slice A1 n1 c1,.slice A2 n2 c2,f.val] w fun e w'=>∃ e0∈es,RetEB e0.1 (N+1) F 0 [] 11 w e w':=by
 have H:=η h
 have HV:=η hv
 clear h hv h1 h2 hf
 subst hb1
 have d2:decide ((n2:Int)>64)=true:=decide_eq_true (by omega)
 clear hb2
 go_enter Tryz.func147,Tryz.ntmps147
 go_wp2_with (first
  | (with_reducible show wpList _ _ _ (⟨_,.box _ (.tmp 4),_,_,_,none⟩::_) _ _;refine wpList_boxF rfl _ (.tmp 4) rfl f rfl ?_;intro w1 qf hc1 hb1 hx1;have H1:=η (And.intro hc1 hb1);clear hc1 hb1 hx1))
 obtain ⟨i,e0,hm,_,_,hkey,hbx⟩:=box_has base x A c es N F q w1 (by exact H.out.step H1.out.2) hn HV.out
 have HE:=η (And.intro (List.mem_of_getElem? hm) hkey)
 clear hm hkey
 refine hbx.mono ?_
 rintro e w2 ⟨rfl,hb⟩
 have B2:=η (bel_next H1.out.2 hb)
 have C2:=η (H1.out.1.step hb)
 clear hb H1 hbx
 go_wp2_with fail
 go_ret2
 exact ⟨e0,HE.out.1,.wrap B2.out (((H.out.step B2.out).ok e0 HE.out.1).1.up (Nat.le_succ N) (Nat.le_refl F)) rfl (OwnB.nil_ _ _)⟩
theorem tseal_long (base x:Nat) (A:Option Addr) (c:Nat) (es:Ens) (N F:Nat) (q:Int) (w:World) (h:Rn base w x A c es N F) (hn:es.length≤1000) (hv:hasR (rgE es) q=true) (A1 A2:Option Addr) (n1 c1 n2 c2:Nat) (l1 l2:List UInt8) (h1:RB w w.heap.size A1 n1 l1) (h2:RB w w.heap.size A2 n2 l2) (f:Fd) (hf:f.ok w) (hb1:n1=12) (hb2:n2≤64) (hl:20<f.o.length∨20<f.s.length) :
  Calls Tryz.prog 147 #[.pointer (some ⟨x,0,none⟩),.int .i64 q,.slice A1 n1 c1,.slice A2 n2 c2,f.val] w fun e w'=>∃ e0∈es,RetEB e0.1 (N+1) F 0 [] 15 w e w':=by
 subst hb1
 have H:=η h
 have HV:=η hv
 have HF:=η (And.intro hf hl)
 have d2:decide ((n2:Int)>64)=false:=decide_eq_false (by omega)
 clear h hv h1 h2 hf hb2 hl
 go_enter Tryz.func147,Tryz.ntmps147
 go_wp2_with (first
  | (with_reducible show wpList _ _ _ (⟨_,.box _ (.tmp 4),_,_,_,none⟩::_) _ _;refine wpList_boxF rfl _ (.tmp 4) rfl f rfl ?_;intro w1 qf hc1 hb1 hx1;have H1:=η (And.intro hc1 hb1);clear hc1 hb1 hx1))
 obtain ⟨i,e0,hm,_,_,hkey,hbx⟩:=box_has base x A c es N F q w1 (by exact H.out.step H1.out.2) hn HV.out
 have HE:=η (And.intro (List.mem_of_getElem? hm) hkey)
 clear hm hkey
 refine hbx.mono ?_
 rintro e w2 ⟨rfl,hb⟩
 have B2:=η (bel_next H1.out.2 hb)
 have C2:=η (H1.out.1.step hb)
 clear hb H1 hbx
 go_wp2_with (first
  | (with_reducible show wpList _ _ _ (⟨_,.load _ (.tmp 9),_,_,_,none⟩::_) _ _;refine wpList_ldF rt_tk rfl (.tmp 9) rfl qf rfl f (by exact C2.out) ?_))
 refine (text_long f w2 (by exact HF.out.1.step B2.out) HF.out.2).mono ?_
 rintro e w3 ⟨A3,c3,rfl,ho,hb⟩
 have B3:=η (bel_next B2.out hb)
 clear ho hb
 go_wp2_with fail
 go_ret2
 exact ⟨e0,HE.out.1,.wrap B3.out (((H.out.step B3.out).ok e0 HE.out.1).1.up (Nat.le_succ N) (Nat.le_refl F)) rfl (OwnB.nil_ _ _)⟩
theorem tseal_few (base x:Nat) (A:Option Addr) (c:Nat) (es:Ens) (N F:Nat) (q:Int) (w:World) (h:Rn base w x A c es N F) (hn:es.length≤1000) (hv:hasR (rgE es) q=true) (A1 A2:Option Addr) (n1 c1 n2 c2:Nat) (l1 l2:List UInt8) (h1:RB w w.heap.size A1 n1 l1) (h2:RB w w.heap.size A2 n2 l2) (f:Fd) (hf:f.ok w) (hN:N+1≤1000000000) (hb1:n1=12) (hb2:n2≤64) (hl:f.tk.few) (hq:0≤q∧q≤127) (hk16:(keyR (rgE es) q).length=16) (ha:0<n1→∀ g∈blkO A1,∀ e∈es,g∉e.1.S) :
  Calls Tryz.prog 147 #[.pointer (some ⟨x,0,none⟩),.int .i64 q,.slice A1 n1 c1,.slice A2 n2 c2,f.val] w fun e w'=>∃ e0∈es,RetEB e0.1 (N+1) F (1+(12+(10+f.o.length+f.s.length+16))) (UInt8.ofNat q.toNat::(l1++(sealR (keyR (rgE es) q) l1 (rawT f.tk) (noteT q l2)).1)) 0 w e w':=by
 subst hb1
 obtain ⟨Q,rfl⟩:∃ Q:Nat,q=(Q:Int):=⟨q.toNat,by omega⟩
 rw [Int.toNat_natCast]
 have hQ:Q≤127:=by omega
 have H:=η h
 have HV:=η hv
 have HF:=η hf
 have HL:=η hl
 have R1:=η h1
 have R2:=η h2
 have HA:=η ha
 have e1:=h1.len
 have d2:decide ((n2:Int)>64)=false:=decide_eq_false (by omega)
 have hw8:IntKind.u8.wrap (Q:Int)=(Q:Int):=by rw [IntKind.wrap_u8];omega
 have HL1:=η (lit1T Q (by omega))
 obtain ⟨T,HT⟩:∃ T,Hid (rawT f.tk=T):=⟨_,η rfl⟩
 obtain ⟨t,ht⟩:∃ t,t=10+f.o.length+f.s.length:=⟨_,rfl⟩
 have HTL:Hid (T.length=t):=η (by rw [←HT.out,rawT_len,ht];rfl)
 have bt:t≤50:=by have h1:=hl.1;have h2:=hl.2;simp only [Fd.tk] at h1 h2;omega
 rw [HT.out,←ht]
 obtain ⟨K,HK⟩:∃ K,Hid (keyR (rgE es) (Q:Int)=K):=⟨_,η rfl⟩
 rw [HK.out] at hk16 ⊢
 obtain ⟨SB,hSB⟩:∃ SB,sealR K l1 T (noteT (Q:Int) l2)=(SB,0):=⟨_,sealR_12 _ _ _ e1⟩
 have hSL:SB.length=t+16:=by have:=seal_lenT (n:=l1) K T (noteT (Q:Int) l2) hk16 e1;rw [hSB] at this;rw [this,HTL.out]
 have HSB:=η (And.intro hSB hSL)
 rw [hSB]
 clear h hv hf hl h1 h2 ha hq e1 ht hk16 hSB hSL
 go_enter Tryz.func147,Tryz.ntmps147
 go_wp2_with (first
  | (with_reducible show wpList _ _ _ (⟨_,.box _ (.tmp 4),_,_,_,none⟩::_) _ _;refine wpList_boxF rfl _ (.tmp 4) rfl f rfl ?_;intro w1 qf hc1 hb1 hx1;have H1:=η (And.intro hc1 hb1);clear hc1 hb1 hx1))
 obtain ⟨i,e0,hm,_,_,hkey,hbx⟩:=box_has base x A c es N F (Q:Int) w1 (by exact H.out.step H1.out.2) hn HV.out
 have HE:=η (And.intro (List.mem_of_getElem? hm) hkey)
 clear hm hkey
 refine hbx.mono ?_
 rintro e w2 ⟨rfl,hb⟩
 have B2:=η (bel_next H1.out.2 hb)
 have C2:=η (H1.out.1.step hb)
 clear hb H1 hbx
 have HOK:=η ((H.out.step B2.out).ok e0 HE.out.1).1
 have HK0:Hid (e0.1.key=K):=η (by rw [HE.out.2,HK.out])
 go_wp2_with (first
  | (with_reducible show wpList _ _ _ (⟨_,.load _ (.tmp 9),_,_,_,none⟩::_) _ _;refine wpList_ldF rt_tk rfl (.tmp 9) rfl qf rfl f (by exact C2.out) ?_))
 refine (text_few20 f w2 (by exact HF.out.step B2.out) HL.out).mono ?_
 rw [HT.out]
 rintro e w3 ⟨A3,c3,rfl,ho,hb⟩
 have hln:=ho.len
 rw [HTL.out] at hln
 rw [←hln] at ho ⊢
 have O3:=η ho
 have B23:=η hb
 clear ho hb hln
 have hb4:=below_alloc w3 (.cells #[.int .u8 (Q:Int)] 5)
 have L4:=η (RB.lit w3 [UInt8.ofNat Q] #[.int .u8 (Q:Int)] 1 _ HL1.out rfl rfl)
 obtain ⟨w4,hw4⟩:∃ w4,w3.alloc (.cells #[.int .u8 (Q:Int)] 5)=w4:=⟨_,rfl⟩
 rw [hw4] at hb4 L4
 have B4:=η (bel_next B23.out hb4)
 have O4:=η (O3.out.rb.step hb4)
 have HW4:=η (And.intro hw4 (Nat.le_trans B2.out.size B23.out.size))
 clear hb4 hw4
 go_wp2_with fail
 rw [HW4.out.1]
 refine (tnote_any (some ⟨w3.heap.size,0,none⟩) A2 1 n2 1 c2 [UInt8.ofNat Q] l2 w4 (by exact L4.out) (by exact (R2.out.step B2.out).step B4.out) (by omega) (by omega)).mono ?_
 rintro e w5 ⟨A5,c5,rfl,ho,hb⟩
 have O5:=η ho
 have B5:=η (bel_next B4.out hb)
 have L5:=η (L4.out.step hb)
 have T5:=η (O4.out.step hb)
 clear ho hb L4 O4
 go_wp2_with fail
 have hdis:0<1+n2→∀ g∈blkO A5,g∉e0.1.S:=fun _ g hg hm=>by
  have h1:=(own_lt O5.out g hg).1
  have h2:=HOK.out.in_ g hm
  have h3:=HOK.out.le
  have h4:=B4.out.size
  omega
 refine (eb_seal e0.1 N F w5 (by exact HOK.out.step B5.out) (by exact hN) A1 A3 A5 12 c1 t c3 (1+n2) c5 l1 T ([UInt8.ofNat Q]++l2) (by exact (R1.out.step B2.out).step B5.out) (by exact T5.out) (by exact O5.out.rb) (by exact O5.out.cap.1) (by exact hdis) (by omega) (by omega) (t+16) SB 0 (by rw [HK0.out];exact HSB.out.1) HSB.out.2).mono ?_
 rintro e w6 ⟨A6,c6,rfl,ho,hoth,hok⟩
 have O6:=η (And.intro ho hok)
 have X6:=η hoth
 have hlow:∀ g,w3.heap.size≤g→g∉e0.1.S:=fun g hg hm=>by
  have h2:=HOK.out.in_ g hm
  have h3:=HOK.out.le
  have h4:=B23.out.size
  omega
 have L6:Hid (RB w6 w6.heap.size (some ⟨w3.heap.size,0,none⟩) 1 [UInt8.ofNat Q]):=η (L5.out.oth hoth (fun _ g o e=>by injection e with e;injection e with e;subst e;exact hlow _ (Nat.le_refl _)))
 have N6:Hid (RB w6 w6.heap.size A1 12 l1):=η (((R1.out.step B2.out).step B5.out).oth hoth (fun h0 g o e=>HA.out h0 g (by rw [e];simp [blkO]) e0 HE.out.1))
 clear ho hoth hok hlow
 go_wp2_with fail
 refine (jn3 w6 (some ⟨w3.heap.size,0,none⟩) A1 A6 1 12 (t+16) 1 c1 c6 [UInt8.ofNat Q] l1 SB (by exact L6.out) (by exact N6.out) (by exact O6.out.1.rb) (by omega) (by omega) (by omega) _ (by rfl) _ rfl _ rfl).mono ?_
 rintro e w7 ⟨A7,c7,rfl,ho,hb⟩
 have B25:=B5.out
 have X7:=η ((Oth.of_below (S:=e0.1.S) (bel_next B2.out B25)).trans (X6.out.trans (Oth.of_below hb)))
 have K7:=η (O6.out.2.step hb)
 have O7:=η (ho.base_le (Nat.le_trans (bel_next B2.out B25).size X6.out.size))
 clear ho hb B25
 go_wp2_with fail
 go_ret2
 exact ⟨e0,HE.out.1,A7,c7,rfl,O7.out,X7.out,K7.out⟩
theorem tseal_has (base x:Nat) (A:Option Addr) (c:Nat) (es:Ens) (N F:Nat) (q:Int) (w:World) (h:Rn base w x A c es N F) (hn:es.length≤1000) (ok:okR (rgE es)) (hv:hasR (rgE es) q=true) (A1 A2:Option Addr) (n1 c1 n2 c2:Nat) (l1 l2:List UInt8) (h1:RB w w.heap.size A1 n1 l1) (h2:RB w w.heap.size A2 n2 l2) (f:Fd) (hf:f.ok w) (hN:N+1≤1000000000) (bn1:n1≤1000) (bn2:n2≤1000) (ha:0<n1→∀ g∈blkO A1,∀ e∈es,g∉e.1.S) (M:Nat) (L:List UInt8) (E:Int) (hR:sealT (rgE es) q l1 l2 f.tk=(L,E)) (hM:L.length=M) :
  Calls Tryz.prog 147 #[.pointer (some ⟨x,0,none⟩),.int .i64 q,.slice A1 n1 c1,.slice A2 n2 c2,f.val] w fun e w'=>∃ e0∈es,RetEB e0.1 (N+1) F M L E w e w':=by
 have e1:=h1.len
 have e2:=h2.len
 by_cases hb1:n1=12
 ·by_cases hb2:n2≤64
  ·by_cases hl:20<f.o.length∨20<f.s.length
   ·have e:sealT (rgE es) q l1 l2 f.tk=([],15):=by
     unfold sealT
     rw [if_neg (by rw [hv];decide),if_neg (by omega)]
     have:textR f.tk=([],15):=by unfold textR;exact if_pos hl
     rw [this,if_pos (by decide)]
    rw [e] at hR
    injection hR with r1 r2
    subst r1 r2 hM
    exact tseal_long base x A c es N F q w h hn hv A1 A2 n1 c1 n2 c2 l1 l2 h1 h2 f hf hb1 hb2 hl
   ·have hfew:f.tk.few:=by unfold Tk.few Fd.tk;simp only;omega
    have hk:=key_lenR ok hv
    have:=tseal_few base x A c es N F q w h hn hv A1 A2 n1 c1 n2 c2 l1 l2 h1 h2 f hf hN hb1 hb2 hfew (rng_q ok hv) hk ha
    rw [seal_yes hv (by omega) (by omega) hfew] at hR
    injection hR with r1 r2
    subst r1 r2
    rw [List.length_cons,List.length_append,seal_lenT _ _ _ hk (by omega),rawT_len,e1,hb1] at hM
    simp only [Fd.tk] at hM
    rw [show M=1+(12+(10+f.o.length+f.s.length+16)) by omega]
    exact this
  ·have e:sealT (rgE es) q l1 l2 f.tk=([],11):=by
    unfold sealT
    rw [if_neg (by rw [hv];decide),if_pos (by omega)]
   rw [e] at hR
   injection hR with r1 r2
   subst r1 r2 hM
   exact tseal_client base x A c es N F q w h hn hv A1 A2 n1 c1 n2 c2 l1 l2 h1 h2 f hf hb1 (by omega) bn2
 ·have e:sealT (rgE es) q l1 l2 f.tk=([],11):=by
   unfold sealT
   rw [if_neg (by rw [hv];decide),if_pos (by omega)]
  rw [e] at hR
  injection hR with r1 r2
  subst r1 r2 hM
  exact tseal_nonce base x A c es N F q w h hn hv A1 A2 n1 c1 n2 c2 l1 l2 h1 h2 f hf hb1 bn1
theorem unseal_few (base x:Nat) (A:Option Addr) (c:Nat) (es:Ens) (N F:Nat) (w:World) (h:Rn base w x A c es N F) (hn:es.length≤1000) (A1 A2:Option Addr) (n1 c1 n2 c2:Nat) (l1 l2:List UInt8) (h1:RB w w.heap.size A1 n1 l1) (h2:RB w w.heap.size A2 n2 l2) (m2:n2≤c2) (bn1:n1≤65000) (bn2:n2≤65000) (hs:n2<29) :
  Calls Tryz.prog 54 #[.pointer (some ⟨x,0,none⟩),.slice A1 n1 c1,.slice A2 n2 c2] w fun e w'=>e=.returned (.tuple #[.slice none 0 0,.int .i64 12])∧Below w.heap.size w w':=by
 have d1:decide ((n2:Int)<29)=true:=decide_eq_true (by omega)
 clear h h1 h2
 go_enter Tryz.func54,Tryz.ntmps54
 go_wp2_with fail
 go_ret2
 exact ⟨rfl,Below.refl _ _⟩
theorem unseal_no (base x:Nat) (A:Option Addr) (c:Nat) (es:Ens) (N F:Nat) (w:World) (h:Rn base w x A c es N F) (hn:es.length≤1000) (A1 A2:Option Addr) (n1 c1 n2 c2:Nat) (l1 l2:List UInt8) (h1:RB w w.heap.size A1 n1 l1) (h2:RB w w.heap.size A2 n2 l2) (m2:n2≤c2) (bn1:n1≤65000) (bn2:n2≤65000) (hs:29≤n2) (hv:hasR (rgE es) (fstT l2)=false) :
  Calls Tryz.prog 54 #[.pointer (some ⟨x,0,none⟩),.slice A1 n1 c1,.slice A2 n2 c2] w fun e w'=>e=.returned (.tuple #[.slice none 0 0,.int .i64 17])∧Below w.heap.size w w':=by
 have H:=η h
 have HV:=η hv
 obtain ⟨g,oo,xb,rfl,hcx,hfx,htk,hx255⟩:=fst_at h2 (by omega)
 have d1:decide ((n2:Int)<29)=false:=decide_eq_false (by omega)
 have HX:=η (And.intro hfx htk)
 have R1:=η h1
 have R2:=η h2
 have HLN:=η (And.intro h1.len h2.len)
 rw [hfx] at HV
 clear h hv h1 h2 hfx htk
 go_enter Tryz.func54,Tryz.ntmps54
 go_wp2_with fail
 refine (box_no base x A c es N F (xb.toNat:Int) w (by exact H.out) hn HV.out).mono ?_
 rintro e w2 ⟨rfl,hb⟩
 have B2:=η hb
 clear hb
 go_wp2_with fail
 go_ret2
 exact ⟨rfl,B2.out⟩
theorem unseal_client (base x:Nat) (A:Option Addr) (c:Nat) (es:Ens) (N F:Nat) (w:World) (h:Rn base w x A c es N F) (hn:es.length≤1000) (A1 A2:Option Addr) (n1 c1 n2 c2:Nat) (l1 l2:List UInt8) (h1:RB w w.heap.size A1 n1 l1) (h2:RB w w.heap.size A2 n2 l2) (m2:n2≤c2) (bn1:n1≤65000) (bn2:n2≤65000) (hs:29≤n2) (hv:hasR (rgE es) (fstT l2)=true) (hb:64<n1) :
  Calls Tryz.prog 54 #[.pointer (some ⟨x,0,none⟩),.slice A1 n1 c1,.slice A2 n2 c2] w fun e w'=>∃ e0∈es,RetEB e0.1 (N+1) (F+1) 0 [] 13 w e w':=by
 have H:=η h
 have HV:=η hv
 obtain ⟨g,oo,xb,rfl,hcx,hfx,htk,hx255⟩:=fst_at h2 (by omega)
 have d1:decide ((n2:Int)<29)=false:=decide_eq_false (by omega)
 have HX:=η (And.intro hfx htk)
 have R1:=η h1
 have R2:=η h2
 have HLN:=η (And.intro h1.len h2.len)
 rw [hfx] at HV
 clear h hv h1 h2 hfx htk
 have d2:decide ((n1:Int)>64)=true:=decide_eq_true (by omega)
 go_enter Tryz.func54,Tryz.ntmps54
 obtain ⟨i,e0,hm,_,_,hkey,hbx⟩:=box_has base x A c es N F (xb.toNat:Int) w H.out hn HV.out
 have HE:=η (And.intro (List.mem_of_getElem? hm) hkey)
 clear hm hkey
 go_wp2_with fail
 refine hbx.mono ?_
 rintro e w2 ⟨rfl,hb⟩
 have B2:=η hb
 clear hb hbx hcx
 go_wp2_with fail
 go_ret2
 exact ⟨e0,HE.out.1,.wrap B2.out (((H.out.step B2.out).ok e0 HE.out.1).1.up (Nat.le_succ N) (Nat.le_succ F)) rfl (OwnB.nil_ _ _)⟩
theorem unseal_token (base x:Nat) (A:Option Addr) (c:Nat) (es:Ens) (N F:Nat) (w:World) (h:Rn base w x A c es N F) (hn:es.length≤1000) (A1 A2:Option Addr) (n1 c1 n2 c2:Nat) (l1 l2:List UInt8) (h1:RB w w.heap.size A1 n1 l1) (h2:RB w w.heap.size A2 n2 l2) (m2:n2≤c2) (bn1:n1≤65000) (bn2:n2≤65000) (hs:29≤n2) (hv:hasR (rgE es) (fstT l2)=true) (hb:n1≤64) (hb2:4096<n2) :
  Calls Tryz.prog 54 #[.pointer (some ⟨x,0,none⟩),.slice A1 n1 c1,.slice A2 n2 c2] w fun e w'=>∃ e0∈es,RetEB e0.1 (N+1) (F+1) 0 [] 13 w e w':=by
 have H:=η h
 have HV:=η hv
 obtain ⟨g,oo,xb,rfl,hcx,hfx,htk,hx255⟩:=fst_at h2 (by omega)
 have d1:decide ((n2:Int)<29)=false:=decide_eq_false (by omega)
 have HX:=η (And.intro hfx htk)
 have R1:=η h1
 have R2:=η h2
 have HLN:=η (And.intro h1.len h2.len)
 rw [hfx] at HV
 clear h hv h1 h2 hfx htk
 have d2:decide ((n1:Int)>64)=false:=decide_eq_false (by omega)
 have d3:decide ((n2:Int)>4096)=true:=decide_eq_true (by omega)
 go_enter Tryz.func54,Tryz.ntmps54
 obtain ⟨i,e0,hm,_,_,hkey,hbx⟩:=box_has base x A c es N F (xb.toNat:Int) w H.out hn HV.out
 have HE:=η (And.intro (List.mem_of_getElem? hm) hkey)
 clear hm hkey
 go_wp2_with fail
 refine hbx.mono ?_
 rintro e w2 ⟨rfl,hb⟩
 have B2:=η hb
 clear hb hbx hcx
 go_wp2_with fail
 go_ret2
 exact ⟨e0,HE.out.1,.wrap B2.out (((H.out.step B2.out).ok e0 HE.out.1).1.up (Nat.le_succ N) (Nat.le_succ F)) rfl (OwnB.nil_ _ _)⟩
theorem unseal_box (base x:Nat) (A:Option Addr) (c:Nat) (es:Ens) (N F:Nat) (w:World) (h:Rn base w x A c es N F) (hn:es.length≤1000) (A1 A2:Option Addr) (n1 c1 n2 c2:Nat) (l1 l2:List UInt8) (h1:RB w w.heap.size A1 n1 l1) (h2:RB w w.heap.size A2 n2 l2) (m2:n2≤c2) (bn1:n1≤65000) (bn2:n2≤65000) (hs:29≤n2) (hv:hasR (rgE es) (fstT l2)=true) (hN:N+1≤1000000000) (hF:F≤1000000000) (hb:n1≤64) (hb2:n2≤4096) (ha:∀ g∈blkO A2,∀ e∈es,g∉e.1.S) (M:Nat) (L:List UInt8) (E:Int) (hR:openR (keyR (rgE es) (fstT l2)) ((l2.drop 1).take 12) (l2.drop 13) (noteT (fstT l2) l1)=(L,E)) (hM:L.length=M) :
  Calls Tryz.prog 54 #[.pointer (some ⟨x,0,none⟩),.slice A1 n1 c1,.slice A2 n2 c2] w fun e w'=>∃ e0∈es,RetEB e0.1 (N+1) (F+1) M L E w e w':=by
 have HA:=η ha
 have HR:=η (And.intro hR hM)
 clear ha hR hM
 have H:=η h
 have HV:=η hv
 obtain ⟨g,oo,xb,rfl,hcx,hfx,htk,hx255⟩:=fst_at h2 (by omega)
 have d1:decide ((n2:Int)<29)=false:=decide_eq_false (by omega)
 have HX:=η (And.intro hfx htk)
 have R1:=η h1
 have R2:=η h2
 have HLN:=η (And.intro h1.len h2.len)
 rw [hfx] at HV
 clear h hv h1 h2 hfx htk
 have d2:decide ((n1:Int)>64)=false:=decide_eq_false (by omega)
 have d3:decide ((n2:Int)>4096)=false:=decide_eq_false (by omega)
 have HP1:Hid (∀ W,Below w.heap.size w W→RB W W.heap.size (cutA (some ⟨g,oo,none⟩) c2 1) 12 ((l2.drop 1).take 12)):=η (fun W hb=>by
  have k:=RB.part (R2.out.step hb) (i:=1) (j:=13) (c:=c2) (by omega) (by omega) (by omega)
  rw [List.drop_take] at k
  exact k)
 have HP2:Hid (∀ W,Below w.heap.size w W→RB W W.heap.size (cutA (some ⟨g,oo,none⟩) c2 13) (n2 - 13) (l2.drop 13)):=η (fun W hb=>by
  have k:=RB.part (R2.out.step hb) (i:=13) (j:=n2) (c:=c2) (by omega) (by omega) (by omega)
  rw [List.take_of_length_le (by have:=HLN.out.2;omega)] at k
  exact k)
 have HC1:Hid (∀ W:World,(Instr.slice 41 (.slice (some ⟨g,oo,none⟩) n2 c2) (some (.int .i64 1)) (some (.int .i64 13)) none).run Tryz.prog W=.ok (.slice (cutA (some ⟨g,oo,none⟩) c2 1) 12 (c2 - 1)) W):=η (cut_lh (some ⟨g,oo,none⟩) n2 c2 1 13 (by omega) (by omega))
 have HC2:Hid (∀ W:World,(Instr.slice 41 (.slice (some ⟨g,oo,none⟩) n2 c2) (some (.int .i64 13)) none none).run Tryz.prog W=.ok (.slice (cutA (some ⟨g,oo,none⟩) c2 13) (n2 - 13) (c2 - 13)) W):=η (cut_l (some ⟨g,oo,none⟩) n2 c2 13 (by omega))
 have HC3:Hid (∀ W:World,(Instr.slice 41 (.slice (some ⟨g,oo,none⟩) n2 c2) none (some (.int .i64 1)) none).run Tryz.prog W=.ok (.slice (cutA (some ⟨g,oo,none⟩) c2 0) 1 c2) W):=η (cut_h (some ⟨g,oo,none⟩) n2 c2 1 (by omega))
 rw [HX.out.1] at HR
 have HN:Hid (openR (keyR (rgE es) (xb.toNat:Int)) ((l2.drop 1).take 12) (l2.drop 13) ([xb]++l1)=(L,E)):=η (by have h:=HR.out.1;unfold noteT at h;rw [Int.toNat_natCast,UInt8.ofNat_toNat] at h;exact h)
 go_enter Tryz.func54,Tryz.ntmps54
 obtain ⟨i,e0,hm,_,_,hkey,hbx⟩:=box_has base x A c es N F (xb.toNat:Int) w H.out hn HV.out
 have HE:=η (And.intro (List.mem_of_getElem? hm) hkey)
 clear hm hkey
 go_wp2_with fail
 refine hbx.mono ?_
 rintro e w2 ⟨rfl,hb⟩
 have B2:=η hb
 clear hb hbx hcx
 have HOK:=η ((H.out.step B2.out).ok e0 HE.out.1).1
 go_wp2_with fail
 refine wp_region_held_drew (S:=fun w'=>True) (by kernel_rfl) trivial (fun hHeld=>?_)
 (try dsimp only at hHeld)
 refine tkI 0 (v:=?v0_1) rfl ⟨by rfl,?h0_1⟩ hHeld ?_
 case h0_1=>intro w hSw;(try dsimp only at hSw);have q0:=HC1.out w;have q1:=HC2.out w;have q2:=HC3.out w;(try simp only [rxT]);go_simp <;> with_reducible rfl
 (try simp only [Act.put,rxT,sxT])
 refine tkI 1 (v:=?v1_2) rfl ⟨by rfl,?h1_2⟩ hHeld ?_
 case h1_2=>intro w hSw;(try dsimp only at hSw);have q0:=HC1.out w;have q1:=HC2.out w;have q2:=HC3.out w;(try simp only [rxT]);go_simp <;> with_reducible rfl
 (try simp only [Act.put,rxT,sxT])
 refine tkI 2 (v:=?v2_3) rfl ⟨by rfl,?h2_3⟩ hHeld ?_
 case h2_3=>intro w hSw;(try dsimp only at hSw);have q0:=HC1.out w;have q1:=HC2.out w;have q2:=HC3.out w;(try simp only [rxT]);go_simp <;> with_reducible rfl
 (try simp only [Act.put,rxT,sxT])
 refine tkI 3 (v:=?v3_4) rfl ⟨by rfl,?h3_4⟩ hHeld ?_
 case h3_4=>intro w hSw;(try dsimp only at hSw);have q0:=HC1.out w;have q1:=HC2.out w;have q2:=HC3.out w;(try simp only [rxT]);go_simp <;> with_reducible rfl
 (try simp only [Act.put,rxT,sxT])
 refine tkI 4 (v:=?v4_5) rfl ⟨by rfl,?h4_5⟩ hHeld ?_
 case h4_5=>intro w hSw;(try dsimp only at hSw);have q0:=HC1.out w;have q1:=HC2.out w;have q2:=HC3.out w;(try simp only [rxT]);go_simp <;> with_reducible rfl
 (try simp only [Act.put,rxT,sxT])
 refine tkI 5 (v:=?v5_6) rfl ⟨by rfl,?h5_6⟩ hHeld ?_
 case h5_6=>intro w hSw;(try dsimp only at hSw);have q0:=HC1.out w;have q1:=HC2.out w;have q2:=HC3.out w;(try simp only [rxT]);go_simp <;> with_reducible rfl
 (try simp only [Act.put,rxT,sxT])
 refine tkI 6 (v:=?v6_7) rfl ⟨by rfl,?h6_7⟩ hHeld ?_
 case h6_7=>intro w hSw;(try dsimp only at hSw);have q0:=HC1.out w;have q1:=HC2.out w;have q2:=HC3.out w;(try simp only [rxT]);go_simp <;> with_reducible rfl
 (try simp only [Act.put,rxT,sxT])
 refine tkI 7 (v:=?v7_8) rfl ⟨by rfl,?h7_8⟩ hHeld ?_
 case h7_8=>intro w hSw;(try dsimp only at hSw);have q0:=HC1.out w;have q1:=HC2.out w;have q2:=HC3.out w;(try simp only [rxT]);go_simp <;> with_reducible rfl
 (try simp only [Act.put,rxT,sxT])
 refine rdI 8 rfl (fun K hK=>?_)
 (try simp only [rxT])
 go_simp
 refine (tnote_any (cutA (some ⟨g,oo,none⟩) c2 0) A1 1 n1 c2 c1 (l2.take 1) l1 w2.drew (by exact (RB.part (R2.out.step B2.out.drew) (i:=0) (j:=1) (c:=c2) (by omega) (by omega) (by omega))) (by exact R1.out.step B2.out.drew) (by omega) (by omega)).mono ?_
 rintro e w3 ⟨A3,c3,rfl,ho,hb3⟩
 have O3:=η ho
 have B3:=η (bel_next B2.out.drew hb3)
 have B23:=η hb3
 have HD:Hid (0<1+n1→∀ g∈blkO A3,g∉e0.1.S):=η (fun _ g hg hm=>by
  have h1:=(own_lt ho g hg).1
  have h2:=HOK.out.in_ g hm
  have h3:=HOK.out.le
  have h4:w2.heap.size=w2.drew.heap.size:=rfl
  omega)
 clear ho hb3
 (try go_wp2_with fail)
 refine hK.out _ _ trivial (fun hHeld=>?_)
 clear hK K
 (try simp only [Act.put,rxT,sxT])
 refine rdI 9 rfl (fun K hK=>?_)
 (try simp only [rxT])
 go_simp
 refine (eb_open e0.1 N F w3 (by exact (HOK.out.step ((Below.refl _ _).drew)).step B23.out) (by exact hN) (by exact hF) (cutA (some ⟨g,oo,none⟩) c2 1) (cutA (some ⟨g,oo,none⟩) c2 13) A3 12 (c2 - 1) (n2 - 13) (c2 - 13) (1+n1) c3 ((l2.drop 1).take 12) (l2.drop 13) (l2.take 1++l1) (by exact HP1.out w3 (B3.out)) (by exact HP2.out w3 (B3.out)) (by exact O3.out.rb) (by omega) (by exact O3.out.cap.1) (by exact fun _=>blk_cut (fun g hg=>HA.out g hg e0 HE.out.1)) (by exact fun _=>blk_cut (fun g hg=>HA.out g hg e0 HE.out.1)) HD.out (by omega) (by omega) M L E (by rw [HE.out.2,HX.out.2];exact HN.out) HR.out.2).mono ?_
 rintro e w4 ⟨A4,c4,rfl,ho,hoth,hok⟩
 have O4:=η (And.intro (ho.base_le B3.out.size) hok)
 have X4:=η ((Oth.of_below (S:=e0.1.S) B3.out).trans hoth)
 clear ho hoth hok
 (try go_wp2_with fail)
 refine hK.out _ _ trivial (fun hHeld=>?_)
 clear hK K
 (try simp only [Act.put,rxT,sxT])
 refine tkI 10 (v:=?v10_9) rfl ⟨by rfl,?h10_9⟩ hHeld ?_
 case h10_9=>intro w _;(try simp only [rxT]);go_simp <;> with_reducible rfl
 (try simp only [Act.put,rxT,sxT])
 refine tkI 11 (v:=?v11_10) rfl ⟨by rfl,?h11_10⟩ hHeld ?_
 case h11_10=>intro w _;(try simp only [rxT]);go_simp <;> with_reducible rfl
 (try simp only [Act.put,rxT,sxT])
 refine tkI 12 (v:=?v12_11) rfl ⟨by rfl,?h12_11⟩ hHeld ?_
 case h12_11=>intro w _;(try simp only [rxT]);go_simp <;> with_reducible rfl
 (try simp only [Act.put,rxT,sxT])
 refine tkI 13 (v:=?v13_12) rfl ⟨by rfl,?h13_12⟩ hHeld ?_
 case h13_12=>intro w _;(try simp only [rxT]);go_simp <;> with_reducible rfl
 (try simp only [Act.put,rxT,sxT])
 refine wpAnyH_done (by kernel_rfl) ?_ _
 go_wp2_with fail
 go_ret2
 exact ⟨e0,HE.out.1,A4,c4,rfl,O4.out.1,X4.out,O4.out.2⟩
theorem unseal_has (base x:Nat) (A:Option Addr) (c:Nat) (es:Ens) (N F:Nat) (w:World) (h:Rn base w x A c es N F) (hn:es.length≤1000) (A1 A2:Option Addr) (n1 c1 n2 c2:Nat) (l1 l2:List UInt8) (h1:RB w w.heap.size A1 n1 l1) (h2:RB w w.heap.size A2 n2 l2) (m2:n2≤c2) (bn1:n1≤65000) (bn2:n2≤65000) (hs:29≤n2) (hv:hasR (rgE es) (fstT l2)=true) (hN:N+1≤1000000000) (hF:F≤1000000000) (ha:∀ g∈blkO A2,∀ e∈es,g∉e.1.S) (M:Nat) (L:List UInt8) (E:Int) (hR:unsealT (rgE es) l1 l2=(L,E)) (hM:L.length=M) :
  Calls Tryz.prog 54 #[.pointer (some ⟨x,0,none⟩),.slice A1 n1 c1,.slice A2 n2 c2] w fun e w'=>∃ e0∈es,RetEB e0.1 (N+1) (F+1) M L E w e w':=by
 have e1:=h1.len
 have e2:=h2.len
 unfold unsealT at hR
 by_cases hb:64<n1
 ·rw [if_pos (.inl (by omega))] at hR
  injection hR with r1 r2
  subst r1 r2 hM
  exact unseal_client base x A c es N F w h hn A1 A2 n1 c1 n2 c2 l1 l2 h1 h2 m2 bn1 bn2 hs hv hb
 ·by_cases hb2:4096<n2
  ·rw [if_pos (.inr (by omega))] at hR
   injection hR with r1 r2
   subst r1 r2 hM
   exact unseal_token base x A c es N F w h hn A1 A2 n1 c1 n2 c2 l1 l2 h1 h2 m2 bn1 bn2 hs hv (by omega) hb2
  ·rw [if_neg (by omega)] at hR
   exact unseal_box base x A c es N F w h hn A1 A2 n1 c1 n2 c2 l1 l2 h1 h2 m2 bn1 bn2 hs hv hN hF (by omega) (by omega) ha M L E hR hM
theorem topen_no (base x:Nat) (A:Option Addr) (c:Nat) (es:Ens) (N F:Nat) (w:World) (h:Rn base w x A c es N F) (hn:es.length≤1000) (A1 A2:Option Addr) (n1 c1 n2 c2:Nat) (l1 l2:List UInt8) (h1:RB w w.heap.size A1 n1 l1) (h2:RB w w.heap.size A2 n2 l2) (m2:n2≤c2) (bn1:n1≤65000) (bn2:n2≤65000) (now:Nat) (E:Int) (hE:E≠0) (hs:(n2<29∧E=12)∨(29≤n2∧hasR (rgE es) (fstT l2)=false∧E=17)) :
  Calls Tryz.prog 26 #[.pointer (some ⟨x,0,none⟩),.slice A1 n1 c1,.slice A2 n2 c2,.int .u64 (now:Int)] w fun e w'=>e=.returned (.tuple #[zeroF.val,.int .i64 E])∧Below w.heap.size w w':=by
 have HU:Hid (∀ W,Below w.heap.size w W→Calls Tryz.prog 54 #[.pointer (some ⟨x,0,none⟩),.slice A1 n1 c1,.slice A2 n2 c2] W fun e w'=>e=.returned (.tuple #[.slice none 0 0,.int .i64 E])∧Below W.heap.size W w'):=η (fun W hb=>by
  rcases hs with ⟨hs,rfl⟩ | ⟨hs,hv,rfl⟩
  ·exact unseal_few base x A c es N F W (h.step hb) hn A1 A2 n1 c1 n2 c2 l1 l2 (h1.step hb) (h2.step hb) m2 bn1 bn2 hs
  ·exact unseal_no base x A c es N F W (h.step hb) hn A1 A2 n1 c1 n2 c2 l1 l2 (h1.step hb) (h2.step hb) m2 bn1 bn2 hs hv)
 have d1:(E != 0)=true:=by simpa using hE
 clear h h1 h2 hs hE
 go_enter Tryz.func26,Tryz.ntmps26
 go_wp2_with (first
  | (with_reducible show wpList _ _ _ (⟨some 8,.alloc _,_,_,_,none⟩::_) _ _;refine wpList_newF rt_tk rfl rfl ?_;intro w1 rc hc1 hb1 hx1;have H1:=η (And.intro hc1 (And.intro hb1 hx1));clear hc1 hb1 hx1))
 refine (HU.out w1 (by exact H1.out.2.1)).mono ?_
 rintro e w2 ⟨rfl,hb⟩
 have B2:=η (bel_next H1.out.2.1 hb)
 have C2:=η (H1.out.1.step hb)
 have LR:=η H1.out.2.2
 clear hb H1
 go_wp2_with (first
  | (with_reducible show wpList _ _ _ (⟨none,.store _ _ _,_,_,_,none⟩::_) _ _;refine wpList_stF rt_tk rfl (.tmp 8) (.tmp 22) rfl rc rfl zeroF zeroF rfl (by exact C2.out) ?_;intro w3 hcz hoz hsz;have HZ:=η (And.intro hcz hoz);clear hcz hoz hsz))
 exact bodyPost_ret (v:=.tuple #[zeroF.val,.int .i64 E]) (res_rec2 rt_tk rfl _ _ rc zeroF.cells _ rfl rfl HZ.out.1 rfl) rfl ⟨rfl,B2.out.trans (HZ.out.2.below (fun j hj=>by rw [List.mem_singleton.1 hj];exact LR.out) B2.out.size)⟩
theorem Oth.newer {S:List Nat} {w w2 w3:World} {rc:Nat} (h:Oth S w w2) (k:Oth [rc] w2 w3) (hr:w.heap.size≤rc):Oth S w w3 :=
 ⟨k.os.trans h.os,k.tape.trans h.tape,k.output.trans h.output,Nat.le_trans h.size k.size,fun i hi hn=>(k.block i (Nat.lt_of_lt_of_le hi h.size) (fun hm=>by rw [List.mem_singleton.1 hm] at hi;omega)).trans (h.block i hi hn)⟩
theorem EB.Ok.newer {e:EB} {N F rc:Nat} {w w2 w3:World} (h0:e.H≤w.heap.size) (h:e.Ok N F w2) (k:Oth [rc] w2 w3) (hr:w.heap.size≤rc):e.Ok N F w3:=h.off k (fun g hg=>by rw [List.mem_singleton.1 hg];exact .inr (Nat.le_trans h0 hr))
theorem new_notin {e:EB} {N F rc:Nat} {w w1:World} (h:e.Ok N F w) (hb:Below w.heap.size w w1) (hr:w.heap.size≤rc):rc∉e.S:=fun hm=>by
 have h2:=h.in_ rc hm
 have h3:=h.le
 omega
theorem topen_has (base x:Nat) (A:Option Addr) (c:Nat) (es:Ens) (N F:Nat) (w:World) (h:Rn base w x A c es N F) (hn:es.length≤1000) (A1 A2:Option Addr) (n1 c1 n2 c2:Nat) (l1 l2:List UInt8) (h1:RB w w.heap.size A1 n1 l1) (h2:RB w w.heap.size A2 n2 l2) (m2:n2≤c2) (bn1:n1≤65000) (bn2:n2≤65000) (ok:okR (rgE es)) (hs:29≤n2) (hv:hasR (rgE es) (fstT l2)=true) (hN:N+1≤1000000000) (hF:F≤1000000000) (ha:∀ g∈blkO A2,∀ e∈es,g∉e.1.S) (now:Nat) (T:Tk) (E:Int) (hR:openT (rgE es) l1 l2 now=(T,E)) :
  Calls Tryz.prog 26 #[.pointer (some ⟨x,0,none⟩),.slice A1 n1 c1,.slice A2 n2 c2,.int .u64 (now:Int)] w fun e w'=>∃ e0∈es,RetEF e0.1 (N+1) (F+1) T E w e w':=by
 obtain ⟨⟨L,V⟩,hL⟩:∃ r,unsealT (rgE es) l1 l2=r:=⟨_,rfl⟩
 obtain ⟨M,hM⟩:∃ M,L.length=M:=⟨_,rfl⟩
 have HU:Hid (∀ W,Below w.heap.size w W→Calls Tryz.prog 54 #[.pointer (some ⟨x,0,none⟩),.slice A1 n1 c1,.slice A2 n2 c2] W fun e w'=>∃ e0∈es,RetEB e0.1 (N+1) (F+1) M L V W e w'):=η (fun W hb=>unseal_has base x A c es N F W (h.step hb) hn A1 A2 n1 c1 n2 c2 l1 l2 (h1.step hb) (h2.step hb) m2 bn1 bn2 hs hv hN hF ha M L V hL hM)
 rw [open_unseal now (by rw [h2.len];exact hs) hv,hL] at hR
 simp only at hR
 have bM:M≤65000:=by
  rw [←hM]
  have hl:=congrArg (fun r=>r.1.length) hL
  simp only at hl
  rw [←hl]
  unfold unsealT
  split
  ·simp
  ·rename_i hbn
   unfold openR
   have e2:=h2.len
   have hk:=key_lenR ok hv
   have h12:((l2.drop 1).take 12).length=12:=by rw [List.length_take,List.length_drop];omega
   rw [if_pos h12]
   split
   ·simp
   ·split
    ·rw [trnL_len _ _ _ hk h12,List.length_take,List.length_drop];omega
    ·simp
 have H:=η h
 obtain ⟨⟨U,D⟩,hU⟩:∃ r,untextR L=r:=⟨_,rfl⟩
 rw [hU] at hR
 have HUU:=η hU
 have HR:=η hR
 clear h h1 h2 hL hM hR hU ha hv
 go_enter Tryz.func26,Tryz.ntmps26
 go_wp2_with (first
  | (with_reducible show wpList _ _ _ (⟨some 8,.alloc _,_,_,_,none⟩::_) _ _;refine wpList_newF rt_tk rfl rfl ?_;intro w1 rc hc1 hb1 hx1;have H1:=η (And.intro hc1 (And.intro hb1 hx1));clear hc1 hb1 hx1))
 refine (HU.out w1 (by exact H1.out.2.1)).mono ?_
 rintro e w2 ⟨e0,hm,A2',c2',rfl,ho,hoth,hok⟩
 have hok0:=(H.out.ok e0 hm).1
 have hrc:rc∉e0.1.S:=new_notin hok0 H1.out.2.1 H1.out.2.2
 have C2:=η (H1.out.1.oth hoth hrc)
 have O2:=η ho
 have X2:=η ((Oth.of_below (S:=e0.1.S) H1.out.2.1).trans hoth)
 have K2:=η hok
 have LR:=η (And.intro H1.out.2.2 (And.intro hrc hm))
 clear ho hoth hok hok0 hrc hm H1 HU
 by_cases hV:V=0
 rotate_left
 ·have d1:(V != 0)=true:=by simpa using hV
  have HE:Hid (T=zTk∧E=V):=η (by have h:=HR.out;rw [if_pos hV] at h;injection h with h1 h2;exact ⟨h1.symm,h2.symm⟩)
  clear hV
  go_wp2_with (first
   | (with_reducible show wpList _ _ _ (⟨none,.store _ _ _,_,_,_,none⟩::_) _ _;refine wpList_stF rt_tk rfl (.tmp 8) (.tmp 22) rfl rc rfl zeroF zeroF rfl (by exact C2.out) ?_;intro w3 hcz hoz hsz;have HZ:=η (And.intro hcz hoz);clear hcz hoz hsz))
  rw [HE.out.1,HE.out.2]
  exact bodyPost_ret (v:=.tuple #[zeroF.val,.int .i64 V]) (res_rec2 rt_tk rfl _ _ rc zeroF.cells _ rfl rfl HZ.out.1 rfl) rfl ⟨e0,LR.out.2.2,zeroF,rfl,rfl,Fd.own.zero _ _,X2.out.newer HZ.out.2 LR.out.1,K2.out.newer (H.out.ok e0 LR.out.2.2).1.le HZ.out.2 LR.out.1⟩
 have d1:(V != 0)=false:=by rw [hV];rfl
 have hV0:=η hV
 clear hV
 go_wp2_with fail
 refine (untext20_any A2' M c2' L w2 (by exact O2.out.rb) (by omega)).mono ?_
 rw [HUU.out]
 rintro e w3 ⟨f,rfl,hft,hfo,hb⟩
 simp only at hft ⊢
 have C3:=η (C2.out.step hb)
 have X3:=η (X2.out.trans (Oth.of_below hb))
 have K3:=η (K2.out.step hb)
 have F3:=η (hfo.base_le X2.out.size)
 have HFT:=η hft
 have hfe:f.e=U.e:=by rw [←hft];rfl
 have HFE:=η hfe
 clear hfo hb C2 X2 K2 O2 hft hfe
 by_cases hD:D=0
 rotate_left
 ·have d2:(D != 0)=true:=by simpa using hD
  have HE:Hid (T=zTk∧E=D):=η (by have h:=HR.out;rw [if_neg (by rw [hV0.out];decide),if_pos hD] at h;injection h with h1 h2;exact ⟨h1.symm,h2.symm⟩)
  clear hD
  go_wp2_with (first
   | (with_reducible show wpList _ _ _ (⟨some 12,.alloc _,_,_,_,none⟩::_) _ _;refine wpList_newF rt_tk rfl rfl ?_;intro w4 p hc4 hb4 hx4;have H4:=η (And.intro hc4 (And.intro hb4 hx4));clear hc4 hb4 hx4)
   | (with_reducible show wpList _ _ _ (⟨none,.store _ (.tmp 12) (.tmp 27),_,_,_,none⟩::_) _ _;refine wpList_stF rt_tk rfl (.tmp 12) (.tmp 27) rfl p rfl f zeroF rfl (by exact H4.out.1) ?_;intro w5 hc5 ho5 hs5;have hb5:=H4.out.2.1.trans (ho5.below (fun j hj=>by rw [List.mem_singleton.1 hj];exact H4.out.2.2) H4.out.2.1.size);have c0:=hc5.c0;have C5:=η hc5;have R5:=η (C3.out.step hb5);have X5:=η (X3.out.trans (Oth.of_below hb5));have K5:=η (K3.out.step hb5);have F5:=η (F3.out.step hb5);have LP:Hid (rc<p):=η (Nat.lt_of_lt_of_le C3.out.blk.lt H4.out.2.2);clear hc5 ho5 hs5 hb5 H4)
    | (with_reducible show wpList _ _ _ (⟨none,.store _ (.tmp 8) (.tmp 31),_,_,_,none⟩::_) _ _;refine wpList_stF rt_tk rfl (.tmp 8) (.tmp 31) rfl rc rfl zeroF zeroF rfl (by exact R5.out) ?_;intro w6 hcz hoz hsz;have HZ:=η (And.intro hcz hoz);clear hcz hoz hsz))
  rw [HE.out.1,HE.out.2]
  exact bodyPost_ret (v:=.tuple #[zeroF.val,.int .i64 D]) (res_rec2 rt_tk rfl _ _ rc zeroF.cells _ rfl rfl HZ.out.1 rfl) rfl ⟨e0,LR.out.2.2,zeroF,rfl,rfl,Fd.own.zero _ _,X5.out.newer HZ.out.2 LR.out.1,K5.out.newer (H.out.ok e0 LR.out.2.2).1.le HZ.out.2 LR.out.1⟩
 have d2:(D != 0)=false:=by rw [hD];rfl
 have hD0:=η hD
 clear hD
 by_cases hlt:f.e<now
 ·have d3:decide (f.e<now)=true:=decide_eq_true hlt
  have HE:Hid (T=zTk∧E=20):=η (by have h:=HR.out;rw [if_neg (by rw [hV0.out];decide),if_neg (by rw [hD0.out];decide),if_pos (by have:=HFE.out;omega)] at h;injection h with h1 h2;exact ⟨h1.symm,h2.symm⟩)
  clear hlt
  go_wp2_with (first
   | (with_reducible show wpList _ _ _ (⟨some 12,.alloc _,_,_,_,none⟩::_) _ _;refine wpList_newF rt_tk rfl rfl ?_;intro w4 p hc4 hb4 hx4;have H4:=η (And.intro hc4 (And.intro hb4 hx4));clear hc4 hb4 hx4)
   | (with_reducible show wpList _ _ _ (⟨none,.store _ (.tmp 12) (.tmp 27),_,_,_,none⟩::_) _ _;refine wpList_stF rt_tk rfl (.tmp 12) (.tmp 27) rfl p rfl f zeroF rfl (by exact H4.out.1) ?_;intro w5 hc5 ho5 hs5;have hb5:=H4.out.2.1.trans (ho5.below (fun j hj=>by rw [List.mem_singleton.1 hj];exact H4.out.2.2) H4.out.2.1.size);have c0:=hc5.c0;have C5:=η hc5;have R5:=η (C3.out.step hb5);have X5:=η (X3.out.trans (Oth.of_below hb5));have K5:=η (K3.out.step hb5);have F5:=η (F3.out.step hb5);have LP:Hid (rc<p):=η (Nat.lt_of_lt_of_le C3.out.blk.lt H4.out.2.2);clear hc5 ho5 hs5 hb5 H4)
    | (with_reducible show wpList _ _ _ (⟨none,.store _ (.tmp 8) (.tmp 37),_,_,_,none⟩::_) _ _;refine wpList_stF rt_tk rfl (.tmp 8) (.tmp 37) rfl rc rfl zeroF zeroF rfl (by exact R5.out) ?_;intro w6 hcz hoz hsz;have HZ:=η (And.intro hcz hoz);clear hcz hoz hsz))
  rw [HE.out.1,HE.out.2]
  exact bodyPost_ret (v:=.tuple #[zeroF.val,.int .i64 20]) (res_rec2 rt_tk rfl _ _ rc zeroF.cells _ rfl rfl HZ.out.1 rfl) rfl ⟨e0,LR.out.2.2,zeroF,rfl,rfl,Fd.own.zero _ _,X5.out.newer HZ.out.2 LR.out.1,K5.out.newer (H.out.ok e0 LR.out.2.2).1.le HZ.out.2 LR.out.1⟩
 have d3:decide (f.e<now)=false:=decide_eq_false hlt
 have HE:Hid (T=U∧E=0):=η (by have h:=HR.out;rw [if_neg (by rw [hV0.out];decide),if_neg (by rw [hD0.out];decide),if_neg (by have:=HFE.out;omega)] at h;injection h with h1 h2;exact ⟨h1.symm,h2.symm⟩)
 clear hlt
 go_wp2_with (first
  | (with_reducible show wpList _ _ _ (⟨some 12,.alloc _,_,_,_,none⟩::_) _ _;refine wpList_newF rt_tk rfl rfl ?_;intro w4 p hc4 hb4 hx4;have H4:=η (And.intro hc4 (And.intro hb4 hx4));clear hc4 hb4 hx4)
  | (with_reducible show wpList _ _ _ (⟨none,.store _ (.tmp 12) (.tmp 27),_,_,_,none⟩::_) _ _;refine wpList_stF rt_tk rfl (.tmp 12) (.tmp 27) rfl p rfl f zeroF rfl (by exact H4.out.1) ?_;intro w5 hc5 ho5 hs5;have hb5:=H4.out.2.1.trans (ho5.below (fun j hj=>by rw [List.mem_singleton.1 hj];exact H4.out.2.2) H4.out.2.1.size);have c0:=hc5.c0;have C5:=η hc5;have R5:=η (C3.out.step hb5);have X5:=η (X3.out.trans (Oth.of_below hb5));have K5:=η (K3.out.step hb5);have F5:=η (F3.out.step hb5);have LP:Hid (rc<p):=η (Nat.lt_of_lt_of_le C3.out.blk.lt H4.out.2.2);clear hc5 ho5 hs5 hb5 H4)
  | (with_reducible show wpList _ _ _ (⟨_,.load _ (.tmp 12),_,_,_,none⟩::_) _ _;refine wpList_ldF rt_tk rfl (.tmp 12) rfl p rfl f (by exact C5.out) ?_)
  | (with_reducible show wpList _ _ _ (⟨none,.store _ (.tmp 8) (.tmp 38),_,_,_,none⟩::_) _ _;refine wpList_stF rt_tk rfl (.tmp 8) (.tmp 38) rfl rc rfl f zeroF rfl (by exact R5.out) ?_;intro w6 hcz hoz hsz;have HZ:=η (And.intro hcz hoz);clear hcz hoz hsz))
 rw [HE.out.1,HE.out.2]
 exact bodyPost_ret (v:=.tuple #[f.val,.int .i64 0]) (res_rec2 rt_tk rfl _ _ rc f.cells _ rfl rfl HZ.out.1 rfl) rfl ⟨e0,LR.out.2.2,f,rfl,HFT.out,F5.out.off HZ.out.2 (R5.out.blk.nob (by decide)),X5.out.newer HZ.out.2 LR.out.1,K5.out.newer (H.out.ok e0 LR.out.2.2).1.le HZ.out.2 LR.out.1⟩
end Go.Proofs.YthppjgdnibfefaaGreat
namespace Go.Proofs.YthppjgdnibfefaaGreat
attribute [local irreducible] wsW keyUpTo keyF lastW turn0 encUp decUp aftL encL tableL blksL blkL strmL putL numL xorL turnAt fstL hkL tagL trnL bB sumG nB sealR openR tagR numS shortS endS untextR
open Go.RowKit
attribute [local go_sem ↓] ex_ldF ex_stF ex_ldFr ex_stFr
end Go.Proofs.YthppjgdnibfefaaGreat
namespace Go.Proofs.YthppjgdnibfefaaGreat
attribute [local irreducible] wsW keyUpTo keyF lastW turn0 encUp decUp aftL encL tableL blksL blkL strmL putL numL xorL turnAt fstL hkL tagL trnL bB sumG nB sealR openR tagR numS shortS endS untextR textR sealT openT seqT tkB tkTxt zr12 zr16
open Go.RowKit
attribute [local go_sem ↓] ex_ldF
structure AX (v:World) (x:Nat) (A:Option Addr) (c:Nat) (es:Ens) (N F:Nat) (rows:List Rw) (vars:List (Nat×Fd)) (w:World):Prop where
 bx:BX v x A c es N F rows w
 var:∀ b∈vars,Fc 77 w b.1 b.2∧∀ e∈es,e.1.out b.1
section
variable {v w w' w2 w3:World} {x N F N' F' n c d p M:Nat} {A B:Option Addr} {es:Ens} {rows rows':List Rw} {vars vars':List (Nat×Fd)} {l L:List UInt8} {E:Int} {r:Ending} {e0:EB×Int} {T:Tk} {f:Fd}
theorem AX.step (h:AX v x A c es N F rows vars w) (hb:Below w.heap.size w w'):AX v x A c es N F rows vars w':=⟨h.bx.step hb,fun b hm=>⟨(h.var b hm).1.step hb,(h.var b hm).2⟩⟩
theorem AX.own (h:AX v x A c es N F rows vars w) (hb:Below w.heap.size w w') (ho:OwnB w' w.heap.size B n d l):AX v x A c es N F ((B,n,d,l)::rows) vars w':=⟨h.bx.own hb ho,(h.step hb).var⟩
theorem AX.lit (h:AX v x A c es N F rows vars w) (l:List UInt8) (cs:Array Value) (n:Nat) (hc:cs=(bvs l).toArray) (hn:l.length=n) (hm:n≤maxLen):AX v x A c es N F ((some ⟨w.heap.size,0,none⟩,n,n,l)::rows) vars (w.alloc (.cells cs 5)) :=
 h.own (below_alloc _ _) (OwnB.lit w w.heap.size l cs n hc hn hm (Nat.le_refl _))
theorem AX.sub (h:AX v x A c es N F rows vars w) (hr:∀ r∈rows',r∈rows) (hv:∀ b∈vars',b∈vars):AX v x A c es N F rows' vars' w:=⟨h.bx.sub hr,fun b hb=>h.var b (hv b hb)⟩
theorem AX.vars_ (h:AX v x A c es N F rows vars w) (h0:e0∈es) (hk:e0.1.Ok N F w) (ho:Oth e0.1.S w w'):∀ b∈vars,Fc 77 w' b.1 b.2∧∀ e∈es,e.1.out b.1:=fun b hm =>
 ⟨(h.var b hm).1.oth ho (hk.not_in ((h.var b hm).2 e0 h0)),(h.var b hm).2⟩
theorem AX.call (h:AX v x A c es N F rows vars w) (h0:e0∈es) (hr:RetEB e0.1 N' F' M L E w r w') (hn:N≤N') (hf:F≤F'):∃ B d,r=.returned (.tuple #[.slice B M d,.int .i64 E])∧AX v x A c es N' F' ((B,M,d,L)::rows) vars w':=by
 have hq:=hr
 obtain ⟨_,_,_,_,ho,_⟩:=hq
 obtain ⟨B,d,he,hb⟩:=h.bx.call h0 hr hn hf
 exact ⟨B,d,he,hb,h.vars_ h0 (h.bx.rn.ok e0 h0).1 ho⟩
theorem AX.fd (h:AX v x A c es N F rows vars w) (hf:f.fit) (hr:∀ r∈f.rows,r∈rows):f.ok w:=h.bx.fd hf hr
theorem AX.ld (h:AX v x A c es N F rows vars w) (hm:(p,f)∈vars):ldHd 77 (.pointer (some ⟨p,0,none⟩)) w=.ok (.value (.agg #[.int .u64 (f.e:Int),.slice f.A f.o.length f.c,.slice f.B f.s.length f.d])) w:=(h.var _ hm).1.ld rt_tk
theorem AX.not (h:AX v x A c es N F rows vars w) (hm:(B,n,d,l)∈rows) (hn:0<n):∀ g∈blkO B,∀ e∈es,g∉e.1.S:=fun g hg e he=>(h.bx.rn.ok e he).1.not_in ((h.bx.row _ hm).2.2 hn g hg e he)
end
end Go.Proofs.YthppjgdnibfefaaGreat
namespace Go.Proofs.YthppjgdnibfefaaGreat
attribute [local irreducible] wsW keyUpTo keyF lastW turn0 encUp decUp aftL encL tableL blksL blkL strmL putL numL xorL turnAt fstL hkL tagL trnL bB sumG nB sealR openR tagR numS shortS endS untextR textR sealT openT zr12 zr16
open Go.RowKit
attribute [local go_sem ↓] ex_ldCr
theorem TX.up {N F N' F':Nat} {v w:World} {x y:Nat} {s t:Rg} {D:XD} {G:List Nat} {rows:List Rw} (h:TX N F v x y s t D G rows w) (hn:N≤N') (hf:F≤F'):TX N' F' v x y s t D G rows w :=
 ⟨⟨h.pr.bel,h.pr.rn.up hn hf,h.pr.rs,h.pr.ee,h.pr.kk,h.pr.yo,h.pr.gs,h.pr.os,h.pr.ot,Nat.le_trans h.pr.n1 hn,h.pr.ko⟩,h.row⟩
end Go.Proofs.YthppjgdnibfefaaGreat
