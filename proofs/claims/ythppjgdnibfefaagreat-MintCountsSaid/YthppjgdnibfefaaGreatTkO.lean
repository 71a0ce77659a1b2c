import Derived.Test.YthppjgdnibfefaaGreatTkU
set_option linter.all false
set_option maxRecDepth 100000
set_option maxHeartbeats 32000000
namespace Go.Proofs.YthppjgdnibfefaaGreat
open Tryz
attribute [local irreducible] wsW AeW keyF ArX AvQ AiY BoJ aftL encL tableL AoQ blkL ApQ putL numL xorL AlZ fstL hkL tagL trnL bB sumG nB ApW AmK tagR numS AfY endS AhY
open Tryz
open Go.RowKit
attribute [local go_sem ↓] CkQ DcZ CeK CeJ
theorem EcW (k n s a:YB) (hn:n.length=12) (hs:16≤s.length):(AmK k n s a).2=0∨(AmK k n s a).2=13:=by
 unfold AmK
 rw [if_pos hn,if_neg (by omega)]
 split
 ·exact .inl rfl
 ·exact .inr rfl
def AuJ (s:Rg) (c t:YB):List UInt8×Int:=if 64<c.length∨4096<t.length then ([],13) else AmK (keyR s (fstT t)) ((t.drop 1).take 12) (t.drop 13) (AnX (fstT t) c)
theorem DiY {s:Rg} {c t:YB} (now:Nat) (h29:29≤t.length) (hv:hasR s (fstT t)=true) :
  AdQ s c t now=if (AuJ s c t).2≠0 then (zTk,(AuJ s c t).2) else if (AhY (AuJ s c t).1).2≠0 then (zTk,(AhY (AuJ s c t).1).2) else if (AhY (AuJ s c t).1).1.e<now then (zTk,20) else ((AhY (AuJ s c t).1).1,0):=by
 unfold AdQ AuJ
 rw [if_neg (by omega),if_neg (by rw [hv];decide)]
 by_cases hb:64<c.length∨4096<t.length
 ·rw [if_pos hb,if_pos hb,if_pos (by simp)]
 ·rw [if_neg hb,if_neg hb]
  unfold DlZ;have hc:=EcW (keyR s (fstT t)) ((t.drop 1).take 12) (t.drop 13) (AnX (fstT t) c) (by rw [List.length_take,List.length_drop];omega) (by rw [List.length_drop];omega);generalize AmK (keyR s (fstT t)) ((t.drop 1).take 12) (t.drop 13) (AnX (fstT t) c)=R at hc ⊢;by_cases he:R.2=0
  ·simp only [he,ne_eq,not_true_eq_false,if_false]
  ·rcases hc with hc | hc
   ·exact absurd hc he
   ·rw [if_pos he,if_pos he,hc]
theorem DmJ {A:YA} {c i:Nat} {S:List Nat} (h:∀ g∈blkO A,g∉S):∀ g∈blkO (cutA A c i),g∉S:=by
 unfold cutA
 split
 ·exact h
 ·intro g hg
  cases A with
  | none=>simp [blkO] at hg
  | some a =>
   have e:(a.add i).block=a.block:=by unfold Addr.add;split <;> rfl
   exact h g (by simpa [blkO,e] using hg)
theorem AuY {w:World} {B n:Nat} {A:YA} {l:YB} (h:RB w B A n l) (hn:0<n):∃ g o x,A=some ⟨g,o,none⟩∧w.cell? ⟨g,o,none⟩=some (.int .u8 (x.toNat:Int))∧fstT l=(x.toNat:Int)∧l.take 1=[x]∧(x.toNat:Int)≤255:=by
 obtain ⟨g,o,rfl,hg,x,hx,hc⟩:=h.at_ hn
 have hx8:=x.toNat_lt
 refine ⟨g,o,x,rfl,hc,?_,?_,by omega⟩
 ·unfold fstT
  rw [List.headD_eq_head?_getD,List.head?_eq_getElem?,hx];rfl
 ·cases l with
  | nil=>simp at hx
  | cons y l=>simp at hx;subst hx;rfl
theorem CuK (A1 A2:YA) (n1 n2 c1 c2:Nat) (l1 l2:YB) (w:World) (h1:RB w w.heap.size A1 n1 l1) (h2:RB w w.heap.size A2 n2 l2) (b1:n1≤1000000) (b2:n2≤1000000) :
  Calls prog 83 #[.slice A1 n1 c1,.slice A2 n2 c2] w fun e w'=>∃ A c,e=.returned (.slice A (n1+n2) c)∧OwnB w' w.heap.size A (n1+n2) c (l1++l2)∧Below w.heap.size w w':=by
 have HJ:=η (jn2 w A1 A2 n1 n2 c1 c2 l1 l2 h1 h2 b1 b2 _ rfl _ rfl _ rfl)
 clear h1 h2
 go_enter func83,ntmps83
 go_wp2_with fail
 refine HJ.o.mono ?_
 rintro e w' ⟨A,c,rfl,ho,hb⟩
 have HO:=η (And.intro ho hb)
 clear ho hb
 go_wp2_with fail
 go_ret
 exact ⟨A,c,rfl,HO.o⟩
theorem RetEB.wrap {e:EB} {N F M:Nat} {L:YB} {E:Int} {w w':World} {r:Ending} (hb:Below w.heap.size w w') (hk:e.Ok N F w') {A:YA} {c:Nat} (he:r=.returned (.tuple #[.slice A M c,.int .i64 E])) (ho:OwnB w' w.heap.size A M c L):RetEB e N F M L E w r w':=⟨A,c,he,ho,Oth.of_below hb,hk⟩
theorem tseal_no (base x:Nat) (A:YA) (c:Nat) (es:Ens) (N F:Nat) (q:Int) (w:World) (h:Rn base w x A c es N F) (hn:es.length≤1000) (hv:hasR (rgE es) q=false) (A1 A2:YA) (n1 c1 n2 c2:Nat) (f:Fd) :
  Calls prog 147 #[.pointer (some ⟨x,0,none⟩),.int .i64 q,.slice A1 n1 c1,.slice A2 n2 c2,f.val] w fun e w'=>e=.returned (.tuple #[.slice none 0 0,.int .i64 17])∧Below w.heap.size w w':=by
 have H:=η h
 have HV:=η hv
 clear h hv
 go_enter func147,ntmps147
 go_wp2_with (first
  | (refine AdK rfl _ (.tmp 4) rfl f rfl ?_;intro w1 qf hc1 hb1 hx1;have H1:=η (And.intro hc1 hb1);clear hc1 hb1 hx1))
 refine (box_no base x A c es N F q w1 (by exact H.o.step H1.o.2) hn HV.o).mono ?_
 rintro e w2 ⟨rfl,hb⟩
 have B2:=η (AaJ H1.o.2 hb)
 clear hb
 go_wp2_with fail
 go_ret2
 exact ⟨rfl,B2.o⟩
theorem DfY (base x:Nat) (A:YA) (c:Nat) (es:Ens) (N F:Nat) (q:Int) (w:World) (h:Rn base w x A c es N F) (hn:es.length≤1000) (hv:hasR (rgE es) q=true) (A1 A2:YA) (n1 c1 n2 c2:Nat) (l1 l2:YB) (h1:RB w w.heap.size A1 n1 l1) (h2:RB w w.heap.size A2 n2 l2) (f:Fd) (hf:f.ok w) (hb1:n1≠12) (bn1:n1≤1000) :
  Calls prog 147 #[.pointer (some ⟨x,0,none⟩),.int .i64 q,.slice A1 n1 c1,.slice A2 n2 c2,f.val] w fun e w'=>∃ e0∈es,RetEB e0.1 (N+1) F 0 [] 11 w e w':=by
 have H:=η h
 have HV:=η hv
 clear h hv h1 h2 hf
 have d1:((n1:Int) != 12)=true:=by rw [bne_iff_ne];omega
 clear hb1
 go_enter func147,ntmps147
 go_wp2_with (first
  | (refine AdK rfl _ (.tmp 4) rfl f rfl ?_;intro w1 qf hc1 hb1 hx1;have H1:=η (And.intro hc1 hb1);clear hc1 hb1 hx1))
 obtain ⟨i,e0,hm,_,_,hkey,hbx⟩:=BkQ base x A c es N F q w1 (by exact H.o.step H1.o.2) hn HV.o
 have HE:=η (And.intro (List.mem_of_getElem? hm) hkey)
 clear hm hkey
 refine hbx.mono ?_
 rintro e w2 ⟨rfl,hb⟩
 have B2:=η (AaJ H1.o.2 hb)
 have C2:=η (H1.o.1.step hb)
 clear hb H1 hbx
 go_wp2_with fail
 go_ret2
 exact ⟨e0,HE.o.1,.wrap B2.o (((H.o.step B2.o).ok e0 HE.o.1).1.up (Nat.le_succ N) (Nat.le_refl F)) rfl (OwnB.nil_ _ _)⟩
theorem CtY (base x:Nat) (A:YA) (c:Nat) (es:Ens) (N F:Nat) (q:Int) (w:World) (h:Rn base w x A c es N F) (hn:es.length≤1000) (hv:hasR (rgE es) q=true) (A1 A2:YA) (n1 c1 n2 c2:Nat) (l1 l2:YB) (h1:RB w w.heap.size A1 n1 l1) (h2:RB w w.heap.size A2 n2 l2) (f:Fd) (hf:f.ok w) (hb1:n1=12) (hb2:64<n2) (bn2:n2≤1000) :
  Calls prog 147 #[.pointer (some ⟨x,0,none⟩),.int .i64 q,.slice A1 n1 c1,.slice A2 n2 c2,f.val] w fun e w'=>∃ e0∈es,RetEB e0.1 (N+1) F 0 [] 11 w e w':=by
 have H:=η h
 have HV:=η hv
 clear h hv h1 h2 hf
 subst hb1
 have d2:decide ((n2:Int)>64)=true:=decide_eq_true (by omega)
 clear hb2
 go_enter func147,ntmps147
 go_wp2_with (first
  | (refine AdK rfl _ (.tmp 4) rfl f rfl ?_;intro w1 qf hc1 hb1 hx1;have H1:=η (And.intro hc1 hb1);clear hc1 hb1 hx1))
 obtain ⟨i,e0,hm,_,_,hkey,hbx⟩:=BkQ base x A c es N F q w1 (by exact H.o.step H1.o.2) hn HV.o
 have HE:=η (And.intro (List.mem_of_getElem? hm) hkey)
 clear hm hkey
 refine hbx.mono ?_
 rintro e w2 ⟨rfl,hb⟩
 have B2:=η (AaJ H1.o.2 hb)
 have C2:=η (H1.o.1.step hb)
 clear hb H1 hbx
 go_wp2_with fail
 go_ret2
 exact ⟨e0,HE.o.1,.wrap B2.o (((H.o.step B2.o).ok e0 HE.o.1).1.up (Nat.le_succ N) (Nat.le_refl F)) rfl (OwnB.nil_ _ _)⟩
theorem DyX (base x:Nat) (A:YA) (c:Nat) (es:Ens) (N F:Nat) (q:Int) (w:World) (h:Rn base w x A c es N F) (hn:es.length≤1000) (hv:hasR (rgE es) q=true) (A1 A2:YA) (n1 c1 n2 c2:Nat) (l1 l2:YB) (h1:RB w w.heap.size A1 n1 l1) (h2:RB w w.heap.size A2 n2 l2) (f:Fd) (hf:f.ok w) (hb1:n1=12) (hb2:n2≤64) (hl:20<f.o.length∨20<f.s.length) :
  Calls prog 147 #[.pointer (some ⟨x,0,none⟩),.int .i64 q,.slice A1 n1 c1,.slice A2 n2 c2,f.val] w fun e w'=>∃ e0∈es,RetEB e0.1 (N+1) F 0 [] 15 w e w':=by
 subst hb1
 have H:=η h
 have HV:=η hv
 have HF:=η (And.intro hf hl)
 have d2:decide ((n2:Int)>64)=false:=decide_eq_false (by omega)
 clear h hv h1 h2 hf hb2 hl
 go_enter func147,ntmps147
 go_wp2_with (first
  | (refine AdK rfl _ (.tmp 4) rfl f rfl ?_;intro w1 qf hc1 hb1 hx1;have H1:=η (And.intro hc1 hb1);clear hc1 hb1 hx1))
 obtain ⟨i,e0,hm,_,_,hkey,hbx⟩:=BkQ base x A c es N F q w1 (by exact H.o.step H1.o.2) hn HV.o
 have HE:=η (And.intro (List.mem_of_getElem? hm) hkey)
 clear hm hkey
 refine hbx.mono ?_
 rintro e w2 ⟨rfl,hb⟩
 have B2:=η (AaJ H1.o.2 hb)
 have C2:=η (H1.o.1.step hb)
 clear hb H1 hbx
 go_wp2_with (first
  | (with_reducible show wpList _ _ _ (⟨_,.load _ (.tmp 9),_,_,_,none⟩::_) _ _;refine AjJ AfX rfl (.tmp 9) rfl qf rfl f (by exact C2.o) ?_))
 refine (EjQ f w2 (by exact HF.o.1.step B2.o) HF.o.2).mono ?_
 rintro e w3 ⟨A3,c3,rfl,ho,hb⟩
 have B3:=η (AaJ B2.o hb)
 clear ho hb
 go_wp2_with fail
 go_ret2
 exact ⟨e0,HE.o.1,.wrap B3.o (((H.o.step B3.o).ok e0 HE.o.1).1.up (Nat.le_succ N) (Nat.le_refl F)) rfl (OwnB.nil_ _ _)⟩
theorem EiW (base x:Nat) (A:YA) (c:Nat) (es:Ens) (N F:Nat) (q:Int) (w:World) (h:Rn base w x A c es N F) (hn:es.length≤1000) (hv:hasR (rgE es) q=true) (A1 A2:YA) (n1 c1 n2 c2:Nat) (l1 l2:YB) (h1:RB w w.heap.size A1 n1 l1) (h2:RB w w.heap.size A2 n2 l2) (f:Fd) (hf:f.ok w) (hN:N+1≤1000000000) (hb1:n1=12) (hb2:n2≤64) (hl:f.tk.few) (hq:0≤q∧q≤127) (hk16:(keyR (rgE es) q).length=16) (ha:0<n1→∀ g∈blkO A1,∀ e∈es,g∉e.1.S) :
  Calls prog 147 #[.pointer (some ⟨x,0,none⟩),.int .i64 q,.slice A1 n1 c1,.slice A2 n2 c2,f.val] w fun e w'=>∃ e0∈es,RetEB e0.1 (N+1) F (1+(12+(10+f.o.length+f.s.length+16))) (UInt8.ofNat q.toNat::(l1++(ApW (keyR (rgE es) q) l1 (rawT f.tk) (AnX q l2)).1)) 0 w e w':=by
 subst hb1
 obtain ⟨Q,rfl⟩:∃ Q:Nat,q=(Q:Int):=⟨q.toNat,by omega⟩
 rw [Int.toNat_natCast]
 have hQ:Q≤127:=by omega
 have H:=η h
 have HV:=η hv
 have HF:=η hf
 have HL:=η hl
 have R1:=η h1
 have R2:=η h2
 have HA:=η ha
 have e1:=h1.len
 have d2:decide ((n2:Int)>64)=false:=decide_eq_false (by omega)
 have hw8:IntKind.u8.wrap (Q:Int)=(Q:Int):=by rw [IntKind.wrap_u8];omega
 have HL1:=η (EuX Q (by omega))
 obtain ⟨T,HT⟩:∃ T,Hid (rawT f.tk=T):=⟨_,η rfl⟩
 obtain ⟨t,ht⟩:∃ t,t=10+f.o.length+f.s.length:=⟨_,rfl⟩
 have HTL:Hid (T.length=t):=η (by rw [←HT.o,AqJ,ht];rfl)
 have bt:t≤50:=by have h1:=hl.1;have h2:=hl.2;simp only [Fd.tk] at h1 h2;omega
 rw [HT.o,←ht]
 obtain ⟨K,HK⟩:∃ K,Hid (keyR (rgE es) (Q:Int)=K):=⟨_,η rfl⟩
 rw [HK.o] at hk16 ⊢
 obtain ⟨SB,hSB⟩:∃ SB,ApW K l1 T (AnX (Q:Int) l2)=(SB,0):=⟨_,BvW _ _ _ e1⟩
 have hSL:SB.length=t+16:=by have:=AuW (n:=l1) K T (AnX (Q:Int) l2) hk16 e1;rw [hSB] at this;rw [this,HTL.o]
 have HSB:=η (And.intro hSB hSL)
 rw [hSB]
 clear h hv hf hl h1 h2 ha hq e1 ht hk16 hSB hSL
 go_enter func147,ntmps147
 go_wp2_with (first
  | (refine AdK rfl _ (.tmp 4) rfl f rfl ?_;intro w1 qf hc1 hb1 hx1;have H1:=η (And.intro hc1 hb1);clear hc1 hb1 hx1))
 obtain ⟨i,e0,hm,_,_,hkey,hbx⟩:=BkQ base x A c es N F (Q:Int) w1 (by exact H.o.step H1.o.2) hn HV.o
 have HE:=η (And.intro (List.mem_of_getElem? hm) hkey)
 clear hm hkey
 refine hbx.mono ?_
 rintro e w2 ⟨rfl,hb⟩
 have B2:=η (AaJ H1.o.2 hb)
 have C2:=η (H1.o.1.step hb)
 clear hb H1 hbx
 have HOK:=η ((H.o.step B2.o).ok e0 HE.o.1).1
 have HK0:Hid (e0.1.key=K):=η (by rw [HE.o.2,HK.o])
 go_wp2_with (first
  | (with_reducible show wpList _ _ _ (⟨_,.load _ (.tmp 9),_,_,_,none⟩::_) _ _;refine AjJ AfX rfl (.tmp 9) rfl qf rfl f (by exact C2.o) ?_))
 refine (DyZ f w2 (by exact HF.o.step B2.o) HL.o).mono ?_
 rw [HT.o]
 rintro e w3 ⟨A3,c3,rfl,ho,hb⟩
 have hln:=ho.len
 rw [HTL.o] at hln
 rw [←hln] at ho ⊢
 have O3:=η ho
 have B23:=η hb
 clear ho hb hln
 have hb4:=AaK w3 (.cells #[.int .u8 (Q:Int)] 5)
 have L4:=η (RB.lit w3 [UInt8.ofNat Q] #[.int .u8 (Q:Int)] 1 _ HL1.o rfl rfl)
 obtain ⟨w4,hw4⟩:∃ w4,w3.alloc (.cells #[.int .u8 (Q:Int)] 5)=w4:=⟨_,rfl⟩
 rw [hw4] at hb4 L4
 have B4:=η (AaJ B23.o hb4)
 have O4:=η (O3.o.rb.step hb4)
 have HW4:=η (And.intro hw4 (Nat.le_trans B2.o.size B23.o.size))
 clear hb4 hw4
 go_wp2_with fail
 rw [HW4.o.1]
 refine (CuK (some ⟨w3.heap.size,0,none⟩) A2 1 n2 1 c2 [UInt8.ofNat Q] l2 w4 (by exact L4.o) (by exact (R2.o.step B2.o).step B4.o) (by omega) (by omega)).mono ?_
 rintro e w5 ⟨A5,c5,rfl,ho,hb⟩
 have O5:=η ho
 have B5:=η (AaJ B4.o hb)
 have L5:=η (L4.o.step hb)
 have T5:=η (O4.o.step hb)
 clear ho hb L4 O4
 go_wp2_with fail
 have hdis:0<1+n2→∀ g∈blkO A5,g∉e0.1.S:=fun _ g hg hm=>by
  have h1:=(BbV O5.o g hg).1;have h2:=HOK.o.in_ g hm;have h3:=HOK.o.le;have h4:=B4.o.size;omega
 refine (eb_seal e0.1 N F w5 (by exact HOK.o.step B5.o) (by exact hN) A1 A3 A5 12 c1 t c3 (1+n2) c5 l1 T ([UInt8.ofNat Q]++l2) (by exact (R1.o.step B2.o).step B5.o) (by exact T5.o) (by exact O5.o.rb) (by exact O5.o.cap.1) (by exact hdis) (by omega) (by omega) (t+16) SB 0 (by rw [HK0.o];exact HSB.o.1) HSB.o.2).mono ?_
 rintro e w6 ⟨A6,c6,rfl,ho,hoth,hok⟩
 have O6:=η (And.intro ho hok)
 have X6:=η hoth
 have hlow:∀ g,w3.heap.size≤g→g∉e0.1.S:=fun g hg hm=>by
  have h2:=HOK.o.in_ g hm;have h3:=HOK.o.le;have h4:=B23.o.size;omega
 have L6:Hid (RB w6 w6.heap.size (some ⟨w3.heap.size,0,none⟩) 1 [UInt8.ofNat Q]):=η (L5.o.oth hoth (fun _ g o e=>by injection e with e;injection e with e;subst e;exact hlow _ (Nat.le_refl _)))
 have N6:Hid (RB w6 w6.heap.size A1 12 l1):=η (((R1.o.step B2.o).step B5.o).oth hoth (fun h0 g o e=>HA.o h0 g (by rw [e];simp [blkO]) e0 HE.o.1))
 clear ho hoth hok hlow
 go_wp2_with fail
 refine (jn3 w6 (some ⟨w3.heap.size,0,none⟩) A1 A6 1 12 (t+16) 1 c1 c6 [UInt8.ofNat Q] l1 SB (by exact L6.o) (by exact N6.o) (by exact O6.o.1.rb) (by omega) (by omega) (by omega) _ (by rfl) _ rfl _ rfl).mono ?_
 rintro e w7 ⟨A7,c7,rfl,ho,hb⟩
 have B25:=B5.o
 have X7:=η ((Oth.of_below (S:=e0.1.S) (AaJ B2.o B25)).trans (X6.o.trans (Oth.of_below hb)))
 have K7:=η (O6.o.2.step hb)
 have O7:=η (ho.base_le (Nat.le_trans (AaJ B2.o B25).size X6.o.size))
 clear ho hb B25
 go_wp2_with fail
 go_ret2
 exact ⟨e0,HE.o.1,A7,c7,rfl,O7.o,X7.o,K7.o⟩
theorem EiV (base x:Nat) (A:YA) (c:Nat) (es:Ens) (N F:Nat) (q:Int) (w:World) (h:Rn base w x A c es N F) (hn:es.length≤1000) (ok:okR (rgE es)) (hv:hasR (rgE es) q=true) (A1 A2:YA) (n1 c1 n2 c2:Nat) (l1 l2:YB) (h1:RB w w.heap.size A1 n1 l1) (h2:RB w w.heap.size A2 n2 l2) (f:Fd) (hf:f.ok w) (hN:N+1≤1000000000) (bn1:n1≤1000) (bn2:n2≤1000) (ha:0<n1→∀ g∈blkO A1,∀ e∈es,g∉e.1.S) (M:Nat) (L:YB) (E:Int) (hR:AjZ (rgE es) q l1 l2 f.tk=(L,E)) (hM:L.length=M) :
  Calls prog 147 #[.pointer (some ⟨x,0,none⟩),.int .i64 q,.slice A1 n1 c1,.slice A2 n2 c2,f.val] w fun e w'=>∃ e0∈es,RetEB e0.1 (N+1) F M L E w e w':=by
 have e1:=h1.len
 have e2:=h2.len
 by_cases hb1:n1=12
 ·by_cases hb2:n2≤64
  ·by_cases hl:20<f.o.length∨20<f.s.length
   ·have e:AjZ (rgE es) q l1 l2 f.tk=([],15):=by
     unfold AjZ;rw [if_neg (by rw [hv];decide),if_neg (by omega)];have:BcX f.tk=([],15):=by unfold BcX;exact if_pos hl
     rw [this,if_pos (by decide)]
    rw [e] at hR;injection hR with r1 r2;subst r1 r2 hM;exact DyX base x A c es N F q w h hn hv A1 A2 n1 c1 n2 c2 l1 l2 h1 h2 f hf hb1 hb2 hl
   ·have hfew:f.tk.few:=by unfold Tk.few Fd.tk;simp only;omega
    have hk:=AwV ok hv;have:=EiW base x A c es N F q w h hn hv A1 A2 n1 c1 n2 c2 l1 l2 h1 h2 f hf hN hb1 hb2 hfew (EaZ ok hv) hk ha;rw [BfZ hv (by omega) (by omega) hfew] at hR;injection hR with r1 r2;subst r1 r2;rw [List.length_cons,List.length_append,AuW _ _ _ hk (by omega),AqJ,e1,hb1] at hM;simp only [Fd.tk] at hM;rw [show M=1+(12+(10+f.o.length+f.s.length+16)) by omega];exact this
  ·have e:AjZ (rgE es) q l1 l2 f.tk=([],11):=by
    unfold AjZ;rw [if_neg (by rw [hv];decide),if_pos (by omega)]
   rw [e] at hR;injection hR with r1 r2;subst r1 r2 hM;exact CtY base x A c es N F q w h hn hv A1 A2 n1 c1 n2 c2 l1 l2 h1 h2 f hf hb1 (by omega) bn2
 ·have e:AjZ (rgE es) q l1 l2 f.tk=([],11):=by
   unfold AjZ;rw [if_neg (by rw [hv];decide),if_pos (by omega)]
  rw [e] at hR;injection hR with r1 r2;subst r1 r2 hM;exact DfY base x A c es N F q w h hn hv A1 A2 n1 c1 n2 c2 l1 l2 h1 h2 f hf hb1 bn1
theorem DyV (base x:Nat) (A:YA) (c:Nat) (es:Ens) (N F:Nat) (w:World) (h:Rn base w x A c es N F) (hn:es.length≤1000) (A1 A2:YA) (n1 c1 n2 c2:Nat) (l1 l2:YB) (h1:RB w w.heap.size A1 n1 l1) (h2:RB w w.heap.size A2 n2 l2) (m2:n2≤c2) (bn1:n1≤65000) (bn2:n2≤65000) (hs:n2<29) :
  Calls prog 54 #[.pointer (some ⟨x,0,none⟩),.slice A1 n1 c1,.slice A2 n2 c2] w fun e w'=>e=.returned (.tuple #[.slice none 0 0,.int .i64 12])∧Below w.heap.size w w':=by
 have d1:decide ((n2:Int)<29)=true:=decide_eq_true (by omega)
 clear h h1 h2
 go_enter func54,ntmps54
 go_wp2_with fail
 go_ret2
 exact ⟨rfl,Below.refl _ _⟩
theorem EiK (base x:Nat) (A:YA) (c:Nat) (es:Ens) (N F:Nat) (w:World) (h:Rn base w x A c es N F) (hn:es.length≤1000) (A1 A2:YA) (n1 c1 n2 c2:Nat) (l1 l2:YB) (h1:RB w w.heap.size A1 n1 l1) (h2:RB w w.heap.size A2 n2 l2) (m2:n2≤c2) (bn1:n1≤65000) (bn2:n2≤65000) (hs:29≤n2) (hv:hasR (rgE es) (fstT l2)=false) :
  Calls prog 54 #[.pointer (some ⟨x,0,none⟩),.slice A1 n1 c1,.slice A2 n2 c2] w fun e w'=>e=.returned (.tuple #[.slice none 0 0,.int .i64 17])∧Below w.heap.size w w':=by
 have H:=η h
 have HV:=η hv
 obtain ⟨g,oo,xb,rfl,hcx,hfx,htk,hx255⟩:=AuY h2 (by omega)
 have d1:decide ((n2:Int)<29)=false:=decide_eq_false (by omega)
 have HX:=η (And.intro hfx htk)
 have R1:=η h1
 have R2:=η h2
 have HLN:=η (And.intro h1.len h2.len)
 rw [hfx] at HV
 clear h hv h1 h2 hfx htk
 go_enter func54,ntmps54
 go_wp2_with fail
 refine (box_no base x A c es N F (xb.toNat:Int) w (by exact H.o) hn HV.o).mono ?_
 rintro e w2 ⟨rfl,hb⟩
 have B2:=η hb
 clear hb
 go_wp2_with fail
 go_ret2
 exact ⟨rfl,B2.o⟩
theorem CmW (base x:Nat) (A:YA) (c:Nat) (es:Ens) (N F:Nat) (w:World) (h:Rn base w x A c es N F) (hn:es.length≤1000) (A1 A2:YA) (n1 c1 n2 c2:Nat) (l1 l2:YB) (h1:RB w w.heap.size A1 n1 l1) (h2:RB w w.heap.size A2 n2 l2) (m2:n2≤c2) (bn1:n1≤65000) (bn2:n2≤65000) (hs:29≤n2) (hv:hasR (rgE es) (fstT l2)=true) (hb:64<n1) :
  Calls prog 54 #[.pointer (some ⟨x,0,none⟩),.slice A1 n1 c1,.slice A2 n2 c2] w fun e w'=>∃ e0∈es,RetEB e0.1 (N+1) (F+1) 0 [] 13 w e w':=by
 have H:=η h
 have HV:=η hv
 obtain ⟨g,oo,xb,rfl,hcx,hfx,htk,hx255⟩:=AuY h2 (by omega)
 have d1:decide ((n2:Int)<29)=false:=decide_eq_false (by omega)
 have HX:=η (And.intro hfx htk)
 have R1:=η h1
 have R2:=η h2
 have HLN:=η (And.intro h1.len h2.len)
 rw [hfx] at HV
 clear h hv h1 h2 hfx htk
 have d2:decide ((n1:Int)>64)=true:=decide_eq_true (by omega)
 go_enter func54,ntmps54
 obtain ⟨i,e0,hm,_,_,hkey,hbx⟩:=BkQ base x A c es N F (xb.toNat:Int) w H.o hn HV.o
 have HE:=η (And.intro (List.mem_of_getElem? hm) hkey)
 clear hm hkey
 go_wp2_with fail
 refine hbx.mono ?_
 rintro e w2 ⟨rfl,hb⟩
 have B2:=η hb
 clear hb hbx hcx
 go_wp2_with fail
 go_ret2
 exact ⟨e0,HE.o.1,.wrap B2.o (((H.o.step B2.o).ok e0 HE.o.1).1.up (Nat.le_succ N) (Nat.le_succ F)) rfl (OwnB.nil_ _ _)⟩
theorem CtW (base x:Nat) (A:YA) (c:Nat) (es:Ens) (N F:Nat) (w:World) (h:Rn base w x A c es N F) (hn:es.length≤1000) (A1 A2:YA) (n1 c1 n2 c2:Nat) (l1 l2:YB) (h1:RB w w.heap.size A1 n1 l1) (h2:RB w w.heap.size A2 n2 l2) (m2:n2≤c2) (bn1:n1≤65000) (bn2:n2≤65000) (hs:29≤n2) (hv:hasR (rgE es) (fstT l2)=true) (hb:n1≤64) (hb2:4096<n2) :
  Calls prog 54 #[.pointer (some ⟨x,0,none⟩),.slice A1 n1 c1,.slice A2 n2 c2] w fun e w'=>∃ e0∈es,RetEB e0.1 (N+1) (F+1) 0 [] 13 w e w':=by
 have H:=η h
 have HV:=η hv
 obtain ⟨g,oo,xb,rfl,hcx,hfx,htk,hx255⟩:=AuY h2 (by omega)
 have d1:decide ((n2:Int)<29)=false:=decide_eq_false (by omega)
 have HX:=η (And.intro hfx htk)
 have R1:=η h1
 have R2:=η h2
 have HLN:=η (And.intro h1.len h2.len)
 rw [hfx] at HV
 clear h hv h1 h2 hfx htk
 have d2:decide ((n1:Int)>64)=false:=decide_eq_false (by omega)
 have d3:decide ((n2:Int)>4096)=true:=decide_eq_true (by omega)
 go_enter func54,ntmps54
 obtain ⟨i,e0,hm,_,_,hkey,hbx⟩:=BkQ base x A c es N F (xb.toNat:Int) w H.o hn HV.o
 have HE:=η (And.intro (List.mem_of_getElem? hm) hkey)
 clear hm hkey
 go_wp2_with fail
 refine hbx.mono ?_
 rintro e w2 ⟨rfl,hb⟩
 have B2:=η hb
 clear hb hbx hcx
 go_wp2_with fail
 go_ret2
 exact ⟨e0,HE.o.1,.wrap B2.o (((H.o.step B2.o).ok e0 HE.o.1).1.up (Nat.le_succ N) (Nat.le_succ F)) rfl (OwnB.nil_ _ _)⟩
theorem DyW (base x:Nat) (A:YA) (c:Nat) (es:Ens) (N F:Nat) (w:World) (h:Rn base w x A c es N F) (hn:es.length≤1000) (A1 A2:YA) (n1 c1 n2 c2:Nat) (l1 l2:YB) (h1:RB w w.heap.size A1 n1 l1) (h2:RB w w.heap.size A2 n2 l2) (m2:n2≤c2) (bn1:n1≤65000) (bn2:n2≤65000) (hs:29≤n2) (hv:hasR (rgE es) (fstT l2)=true) (hN:N+1≤1000000000) (hF:F≤1000000000) (hb:n1≤64) (hb2:n2≤4096) (ha:∀ g∈blkO A2,∀ e∈es,g∉e.1.S) (M:Nat) (L:YB) (E:Int) (hR:AmK (keyR (rgE es) (fstT l2)) ((l2.drop 1).take 12) (l2.drop 13) (AnX (fstT l2) l1)=(L,E)) (hM:L.length=M) :
  Calls prog 54 #[.pointer (some ⟨x,0,none⟩),.slice A1 n1 c1,.slice A2 n2 c2] w fun e w'=>∃ e0∈es,RetEB e0.1 (N+1) (F+1) M L E w e w':=by
 have HA:=η ha
 have HR:=η (And.intro hR hM)
 clear ha hR hM
 have H:=η h
 have HV:=η hv
 obtain ⟨g,oo,xb,rfl,hcx,hfx,htk,hx255⟩:=AuY h2 (by omega)
 have d1:decide ((n2:Int)<29)=false:=decide_eq_false (by omega)
 have HX:=η (And.intro hfx htk)
 have R1:=η h1
 have R2:=η h2
 have HLN:=η (And.intro h1.len h2.len)
 rw [hfx] at HV
 clear h hv h1 h2 hfx htk
 have d2:decide ((n1:Int)>64)=false:=decide_eq_false (by omega)
 have d3:decide ((n2:Int)>4096)=false:=decide_eq_false (by omega)
 have HP1:Hid (∀ W,Below w.heap.size w W→RB W W.heap.size (cutA (some ⟨g,oo,none⟩) c2 1) 12 ((l2.drop 1).take 12)):=η (fun W hb=>by
  have k:=RB.part (R2.o.step hb) (i:=1) (j:=13) (c:=c2) (by omega) (by omega) (by omega)
  rw [List.drop_take] at k
  exact k)
 have HP2:Hid (∀ W,Below w.heap.size w W→RB W W.heap.size (cutA (some ⟨g,oo,none⟩) c2 13) (n2 - 13) (l2.drop 13)):=η (fun W hb=>by
  have k:=RB.part (R2.o.step hb) (i:=13) (j:=n2) (c:=c2) (by omega) (by omega) (by omega)
  rw [List.take_of_length_le (by have:=HLN.o.2;omega)] at k
  exact k)
 have HC1:Hid (∀ W:World,(Instr.slice 41 (.slice (some ⟨g,oo,none⟩) n2 c2) (some (.int .i64 1)) (some (.int .i64 13)) none).run prog W=.ok (.slice (cutA (some ⟨g,oo,none⟩) c2 1) 12 (c2 - 1)) W):=η (DdV (some ⟨g,oo,none⟩) n2 c2 1 13 (by omega) (by omega))
 have HC2:Hid (∀ W:World,(Instr.slice 41 (.slice (some ⟨g,oo,none⟩) n2 c2) (some (.int .i64 13)) none none).run prog W=.ok (.slice (cutA (some ⟨g,oo,none⟩) c2 13) (n2 - 13) (c2 - 13)) W):=η (BvJ (some ⟨g,oo,none⟩) n2 c2 13 (by omega))
 have HC3:Hid (∀ W:World,(Instr.slice 41 (.slice (some ⟨g,oo,none⟩) n2 c2) none (some (.int .i64 1)) none).run prog W=.ok (.slice (cutA (some ⟨g,oo,none⟩) c2 0) 1 c2) W):=η (BsZ (some ⟨g,oo,none⟩) n2 c2 1 (by omega))
 rw [HX.o.1] at HR
 have HN:Hid (AmK (keyR (rgE es) (xb.toNat:Int)) ((l2.drop 1).take 12) (l2.drop 13) ([xb]++l1)=(L,E)):=η (by have h:=HR.o.1;unfold AnX at h;rw [Int.toNat_natCast,UInt8.ofNat_toNat] at h;exact h)
 go_enter func54,ntmps54
 obtain ⟨i,e0,hm,_,_,hkey,hbx⟩:=BkQ base x A c es N F (xb.toNat:Int) w H.o hn HV.o
 have HE:=η (And.intro (List.mem_of_getElem? hm) hkey)
 clear hm hkey
 go_wp2_with fail
 refine hbx.mono ?_
 rintro e w2 ⟨rfl,hb⟩
 have B2:=η hb
 clear hb hbx hcx
 have HOK:=η ((H.o.step B2.o).ok e0 HE.o.1).1
 go_wp2_with fail
 refine wp_region_held_drew (S:=fun w'=>True) (by kernel_rfl) trivial (fun hHeld=>?_)
 (try dsimp only at hHeld)
 have Ω:=η (fun (w:World) (hSw:True)=>an (HC1.o w) (an (HC2.o w) (HC3.o w)))
 refine tkJ 0 rfl hHeld ?_
 refine tkJ 1 rfl hHeld ?_
 refine tkJ 2 rfl hHeld ?_
 refine tkJ 3 rfl hHeld ?_
 refine tkJ 4 rfl hHeld ?_
 refine tkJ 5 rfl hHeld ?_
 refine tkJ 6 rfl hHeld ?_
 refine tkJ 7 rfl hHeld ?_
 refine rdI 8 rfl (fun K hK=>?_)
 (try simp only [Act.put,rxT,sxT])
 go_simp
 refine (CuK (cutA (some ⟨g,oo,none⟩) c2 0) A1 1 n1 c2 c1 (l2.take 1) l1 w2.drew (by exact (RB.part (R2.o.step B2.o.drew) (i:=0) (j:=1) (c:=c2) (by omega) (by omega) (by omega))) (by exact R1.o.step B2.o.drew) (by omega) (by omega)).mono ?_
 rintro e w3 ⟨A3,c3,rfl,ho,hb3⟩
 have O3:=η ho
 have B3:=η (AaJ B2.o.drew hb3)
 have B23:=η hb3
 have HD:Hid (0<1+n1→∀ g∈blkO A3,g∉e0.1.S):=η (fun _ g hg hm=>by
  have h1:=(BbV ho g hg).1
  have h2:=HOK.o.in_ g hm
  have h3:=HOK.o.le
  have h4:w2.heap.size=w2.drew.heap.size:=rfl
  omega)
 clear ho hb3
 (try go_wp2_with fail)
 refine hK.o _ _ trivial (fun hHeld=>?_)
 clear hK K
 refine rdI 9 rfl (fun K hK=>?_)
 (try simp only [Act.put,rxT,sxT])
 go_simp
 refine (eb_open e0.1 N F w3 (by exact (HOK.o.step ((Below.refl _ _).drew)).step B23.o) (by exact hN) (by exact hF) (cutA (some ⟨g,oo,none⟩) c2 1) (cutA (some ⟨g,oo,none⟩) c2 13) A3 12 (c2 - 1) (n2 - 13) (c2 - 13) (1+n1) c3 ((l2.drop 1).take 12) (l2.drop 13) (l2.take 1++l1) (by exact HP1.o w3 (B3.o)) (by exact HP2.o w3 (B3.o)) (by exact O3.o.rb) (by omega) (by exact O3.o.cap.1) (by exact fun _=>DmJ (fun g hg=>HA.o g hg e0 HE.o.1)) (by exact fun _=>DmJ (fun g hg=>HA.o g hg e0 HE.o.1)) HD.o (by omega) (by omega) M L E (by rw [HE.o.2,HX.o.2];exact HN.o) HR.o.2).mono ?_
 rintro e w4 ⟨A4,c4,rfl,ho,hoth,hok⟩
 have O4:=η (And.intro (ho.base_le B3.o.size) hok)
 have X4:=η ((Oth.of_below (S:=e0.1.S) B3.o).trans hoth)
 clear ho hoth hok
 (try go_wp2_with fail)
 refine hK.o _ _ trivial (fun hHeld=>?_)
 clear hK K
 refine tkJ 10 rfl hHeld ?_
 refine tkJ 11 rfl hHeld ?_
 refine tkJ 12 rfl hHeld ?_
 refine tkJ 13 rfl hHeld ?_
 (try simp only [Act.put,rxT,sxT])
 refine wpAnyH_done (by kernel_rfl) ?_ _
 go_wp2_with fail
 go_ret2
 exact ⟨e0,HE.o.1,A4,c4,rfl,O4.o.1,X4.o,O4.o.2⟩
theorem DyQ (base x:Nat) (A:YA) (c:Nat) (es:Ens) (N F:Nat) (w:World) (h:Rn base w x A c es N F) (hn:es.length≤1000) (A1 A2:YA) (n1 c1 n2 c2:Nat) (l1 l2:YB) (h1:RB w w.heap.size A1 n1 l1) (h2:RB w w.heap.size A2 n2 l2) (m2:n2≤c2) (bn1:n1≤65000) (bn2:n2≤65000) (hs:29≤n2) (hv:hasR (rgE es) (fstT l2)=true) (hN:N+1≤1000000000) (hF:F≤1000000000) (ha:∀ g∈blkO A2,∀ e∈es,g∉e.1.S) (M:Nat) (L:YB) (E:Int) (hR:AuJ (rgE es) l1 l2=(L,E)) (hM:L.length=M) :
  Calls prog 54 #[.pointer (some ⟨x,0,none⟩),.slice A1 n1 c1,.slice A2 n2 c2] w fun e w'=>∃ e0∈es,RetEB e0.1 (N+1) (F+1) M L E w e w':=by
 have e1:=h1.len
 have e2:=h2.len
 unfold AuJ at hR
 by_cases hb:64<n1
 ·rw [if_pos (.inl (by omega))] at hR
  injection hR with r1 r2;subst r1 r2 hM;exact CmW base x A c es N F w h hn A1 A2 n1 c1 n2 c2 l1 l2 h1 h2 m2 bn1 bn2 hs hv hb
 ·by_cases hb2:4096<n2
  ·rw [if_pos (.inr (by omega))] at hR
   injection hR with r1 r2;subst r1 r2 hM;exact CtW base x A c es N F w h hn A1 A2 n1 c1 n2 c2 l1 l2 h1 h2 m2 bn1 bn2 hs hv (by omega) hb2
  ·rw [if_neg (by omega)] at hR
   exact DyW base x A c es N F w h hn A1 A2 n1 c1 n2 c2 l1 l2 h1 h2 m2 bn1 bn2 hs hv hN hF (by omega) (by omega) ha M L E hR hM
theorem topen_no (base x:Nat) (A:YA) (c:Nat) (es:Ens) (N F:Nat) (w:World) (h:Rn base w x A c es N F) (hn:es.length≤1000) (A1 A2:YA) (n1 c1 n2 c2:Nat) (l1 l2:YB) (h1:RB w w.heap.size A1 n1 l1) (h2:RB w w.heap.size A2 n2 l2) (m2:n2≤c2) (bn1:n1≤65000) (bn2:n2≤65000) (now:Nat) (E:Int) (hE:E≠0) (hs:(n2<29∧E=12)∨(29≤n2∧hasR (rgE es) (fstT l2)=false∧E=17)) :
  Calls prog 26 #[.pointer (some ⟨x,0,none⟩),.slice A1 n1 c1,.slice A2 n2 c2,.int .u64 (now:Int)] w fun e w'=>e=.returned (.tuple #[zeroF.val,.int .i64 E])∧Below w.heap.size w w':=by
 have HU:Hid (∀ W,Below w.heap.size w W→Calls prog 54 #[.pointer (some ⟨x,0,none⟩),.slice A1 n1 c1,.slice A2 n2 c2] W fun e w'=>e=.returned (.tuple #[.slice none 0 0,.int .i64 E])∧Below W.heap.size W w'):=η (fun W hb=>by
  rcases hs with ⟨hs,rfl⟩ | ⟨hs,hv,rfl⟩
  ·exact DyV base x A c es N F W (h.step hb) hn A1 A2 n1 c1 n2 c2 l1 l2 (h1.step hb) (h2.step hb) m2 bn1 bn2 hs
  ·exact EiK base x A c es N F W (h.step hb) hn A1 A2 n1 c1 n2 c2 l1 l2 (h1.step hb) (h2.step hb) m2 bn1 bn2 hs hv)
 have d1:(E != 0)=true:=by simpa using hE
 clear h h1 h2 hs hE
 go_enter func26,ntmps26
 go_wp2_with (first
  | (refine atd 8 rfl ?_;refine AcZ AfX rfl rfl ?_;intro w1 rc hc1 hb1 hx1;have H1:=η (And.intro hc1 (And.intro hb1 hx1));clear hc1 hb1 hx1))
 refine (HU.o w1 (by exact H1.o.2.1)).mono ?_
 rintro e w2 ⟨rfl,hb⟩
 have B2:=η (AaJ H1.o.2.1 hb)
 have C2:=η (H1.o.1.step hb)
 have LR:=η H1.o.2.2
 clear hb H1
 go_wp2_with (first
  | (with_reducible show wpList _ _ _ (⟨none,.store _ _ _,_,_,_,none⟩::_) _ _;refine AbV AfX rfl (.tmp 8) (.tmp 22) rfl rc rfl zeroF zeroF rfl (by exact C2.o) ?_;intro w3 hcz hoz hsz;have HZ:=η (And.intro hcz hoz);clear hcz hoz hsz))
 exact bodyPost_ret (v:=.tuple #[zeroF.val,.int .i64 E]) (AeK AfX rfl _ _ rc zeroF.cells _ rfl rfl HZ.o.1 rfl) rfl ⟨rfl,B2.o.trans (HZ.o.2.below (fun j hj=>by rw [List.mem_singleton.1 hj];exact LR.o) B2.o.size)⟩
theorem Oth.newer {S:List Nat} {w w2 w3:World} {rc:Nat} (h:Oth S w w2) (k:Oth [rc] w2 w3) (hr:w.heap.size≤rc):Oth S w w3 :=
 ⟨k.os.trans h.os,k.tape.trans h.tape,k.output.trans h.output,Nat.le_trans h.size k.size,fun i hi hn=>(k.block i (Nat.lt_of_lt_of_le hi h.size) (fun hm=>by rw [List.mem_singleton.1 hm] at hi;omega)).trans (h.block i hi hn)⟩
theorem EB.Ok.newer {e:EB} {N F rc:Nat} {w w2 w3:World} (h0:e.H≤w.heap.size) (h:e.Ok N F w2) (k:Oth [rc] w2 w3) (hr:w.heap.size≤rc):e.Ok N F w3:=h.off k (fun g hg=>by rw [List.mem_singleton.1 hg];exact .inr (Nat.le_trans h0 hr))
theorem EtY {e:EB} {N F rc:Nat} {w w1:World} (h:e.Ok N F w) (hb:Below w.heap.size w w1) (hr:w.heap.size≤rc):rc∉e.S:=fun hm=>by
 have h2:=h.in_ rc hm
 have h3:=h.le
 omega
theorem EjJ (base x:Nat) (A:YA) (c:Nat) (es:Ens) (N F:Nat) (w:World) (h:Rn base w x A c es N F) (hn:es.length≤1000) (A1 A2:YA) (n1 c1 n2 c2:Nat) (l1 l2:YB) (h1:RB w w.heap.size A1 n1 l1) (h2:RB w w.heap.size A2 n2 l2) (m2:n2≤c2) (bn1:n1≤65000) (bn2:n2≤65000) (ok:okR (rgE es)) (hs:29≤n2) (hv:hasR (rgE es) (fstT l2)=true) (hN:N+1≤1000000000) (hF:F≤1000000000) (ha:∀ g∈blkO A2,∀ e∈es,g∉e.1.S) (now:Nat) (T:Tk) (E:Int) (hR:AdQ (rgE es) l1 l2 now=(T,E)) :
  Calls prog 26 #[.pointer (some ⟨x,0,none⟩),.slice A1 n1 c1,.slice A2 n2 c2,.int .u64 (now:Int)] w fun e w'=>∃ e0∈es,RetEF e0.1 (N+1) (F+1) T E w e w':=by
 obtain ⟨⟨L,V⟩,hL⟩:∃ r,AuJ (rgE es) l1 l2=r:=⟨_,rfl⟩
 obtain ⟨M,hM⟩:∃ M,L.length=M:=⟨_,rfl⟩
 have HU:Hid (∀ W,Below w.heap.size w W→Calls prog 54 #[.pointer (some ⟨x,0,none⟩),.slice A1 n1 c1,.slice A2 n2 c2] W fun e w'=>∃ e0∈es,RetEB e0.1 (N+1) (F+1) M L V W e w'):=η (fun W hb=>DyQ base x A c es N F W (h.step hb) hn A1 A2 n1 c1 n2 c2 l1 l2 (h1.step hb) (h2.step hb) m2 bn1 bn2 hs hv hN hF ha M L V hL hM)
 rw [DiY now (by rw [h2.len];exact hs) hv,hL] at hR
 simp only at hR
 have bM:M≤65000:=by
  rw [←hM];have hl:=congrArg (fun r=>r.1.length) hL;simp only at hl;rw [←hl];unfold AuJ;split
  ·simp
  ·rename_i hbn
   unfold AmK;have e2:=h2.len;have hk:=AwV ok hv;have h12:((l2.drop 1).take 12).length=12:=by rw [List.length_take,List.length_drop];omega
   rw [if_pos h12];split
   ·simp
   ·split
    ·rw [AnZ _ _ _ hk h12,List.length_take,List.length_drop];omega
    ·simp
 have H:=η h
 obtain ⟨⟨U,D⟩,hU⟩:∃ r,AhY L=r:=⟨_,rfl⟩
 rw [hU] at hR
 have HUU:=η hU
 have HR:=η hR
 clear h h1 h2 hL hM hR hU ha hv
 go_enter func26,ntmps26
 go_wp2_with (first
  | (refine atd 8 rfl ?_;refine AcZ AfX rfl rfl ?_;intro w1 rc hc1 hb1 hx1;have H1:=η (And.intro hc1 (And.intro hb1 hx1));clear hc1 hb1 hx1))
 refine (HU.o w1 (by exact H1.o.2.1)).mono ?_
 rintro e w2 ⟨e0,hm,A2',c2',rfl,ho,hoth,hok⟩
 have hok0:=(H.o.ok e0 hm).1
 have hrc:rc∉e0.1.S:=EtY hok0 H1.o.2.1 H1.o.2.2
 have C2:=η (H1.o.1.oth hoth hrc)
 have O2:=η ho
 have X2:=η ((Oth.of_below (S:=e0.1.S) H1.o.2.1).trans hoth)
 have K2:=η hok
 have LR:=η (And.intro H1.o.2.2 (And.intro hrc hm))
 clear ho hoth hok hok0 hrc hm H1 HU
 by_cases hV:V=0
 rotate_left
 ·have d1:(V != 0)=true:=by simpa using hV
  have HE:Hid (T=zTk∧E=V):=η (by have h:=HR.o;rw [if_pos hV] at h;injection h with h1 h2;exact ⟨h1.symm,h2.symm⟩);clear hV
  go_wp2_with (first
   | (with_reducible show wpList _ _ _ (⟨none,.store _ _ _,_,_,_,none⟩::_) _ _;refine AbV AfX rfl (.tmp 8) (.tmp 22) rfl rc rfl zeroF zeroF rfl (by exact C2.o) ?_;intro w3 hcz hoz hsz;have HZ:=η (And.intro hcz hoz);clear hcz hoz hsz))
  rw [HE.o.1,HE.o.2];exact bodyPost_ret (v:=.tuple #[zeroF.val,.int .i64 V]) (AeK AfX rfl _ _ rc zeroF.cells _ rfl rfl HZ.o.1 rfl) rfl ⟨e0,LR.o.2.2,zeroF,rfl,rfl,Fd.own.zero _ _,X2.o.newer HZ.o.2 LR.o.1,K2.o.newer (H.o.ok e0 LR.o.2.2).1.le HZ.o.2 LR.o.1⟩
 have d1:(V != 0)=false:=by rw [hV];rfl
 have hV0:=η hV
 clear hV
 go_wp2_with fail
 refine (CtV A2' M c2' L w2 (by exact O2.o.rb) (by omega)).mono ?_
 rw [HUU.o]
 rintro e w3 ⟨f,rfl,hft,hfo,hb⟩
 simp only at hft ⊢
 have C3:=η (C2.o.step hb)
 have X3:=η (X2.o.trans (Oth.of_below hb))
 have K3:=η (K2.o.step hb)
 have F3:=η (hfo.base_le X2.o.size)
 have HFT:=η hft
 have hfe:f.e=U.e:=by rw [←hft];rfl
 have HFE:=η hfe
 clear hfo hb C2 X2 K2 O2 hft hfe
 by_cases hD:D=0
 rotate_left
 ·have d2:(D != 0)=true:=by simpa using hD
  have HE:Hid (T=zTk∧E=D):=η (by have h:=HR.o;rw [if_neg (by rw [hV0.o];decide),if_pos hD] at h;injection h with h1 h2;exact ⟨h1.symm,h2.symm⟩);clear hD
  go_wp2_with (first
   | (refine atd 12 rfl ?_;refine AcZ AfX rfl rfl ?_;intro w4 p hc4 hb4 hx4;have H4:=η (And.intro hc4 (And.intro hb4 hx4));clear hc4 hb4 hx4)
   | (refine AbV AfX rfl (.tmp 12) (.tmp 27) rfl p rfl f zeroF rfl (by exact H4.o.1) ?_;intro w5 hc5 ho5 hs5;have hb5:=H4.o.2.1.trans (ho5.below (fun j hj=>by rw [List.mem_singleton.1 hj];exact H4.o.2.2) H4.o.2.1.size);have c0:=hc5.c0;have C5:=η hc5;have R5:=η (C3.o.step hb5);have X5:=η (X3.o.trans (Oth.of_below hb5));have K5:=η (K3.o.step hb5);have F5:=η (F3.o.step hb5);have LP:Hid (rc<p):=η (Nat.lt_of_lt_of_le C3.o.blk.lt H4.o.2.2);clear hc5 ho5 hs5 hb5 H4)
    | (refine AbV AfX rfl (.tmp 8) (.tmp 31) rfl rc rfl zeroF zeroF rfl (by exact R5.o) ?_;intro w6 hcz hoz hsz;have HZ:=η (And.intro hcz hoz);clear hcz hoz hsz))
  rw [HE.o.1,HE.o.2];exact bodyPost_ret (v:=.tuple #[zeroF.val,.int .i64 D]) (AeK AfX rfl _ _ rc zeroF.cells _ rfl rfl HZ.o.1 rfl) rfl ⟨e0,LR.o.2.2,zeroF,rfl,rfl,Fd.own.zero _ _,X5.o.newer HZ.o.2 LR.o.1,K5.o.newer (H.o.ok e0 LR.o.2.2).1.le HZ.o.2 LR.o.1⟩
 have d2:(D != 0)=false:=by rw [hD];rfl
 have hD0:=η hD
 clear hD
 by_cases hlt:f.e<now
 ·have d3:decide (f.e<now)=true:=decide_eq_true hlt
  have HE:Hid (T=zTk∧E=20):=η (by have h:=HR.o;rw [if_neg (by rw [hV0.o];decide),if_neg (by rw [hD0.o];decide),if_pos (by have:=HFE.o;omega)] at h;injection h with h1 h2;exact ⟨h1.symm,h2.symm⟩);clear hlt
  go_wp2_with (first
   | (refine atd 12 rfl ?_;refine AcZ AfX rfl rfl ?_;intro w4 p hc4 hb4 hx4;have H4:=η (And.intro hc4 (And.intro hb4 hx4));clear hc4 hb4 hx4)
   | (refine AbV AfX rfl (.tmp 12) (.tmp 27) rfl p rfl f zeroF rfl (by exact H4.o.1) ?_;intro w5 hc5 ho5 hs5;have hb5:=H4.o.2.1.trans (ho5.below (fun j hj=>by rw [List.mem_singleton.1 hj];exact H4.o.2.2) H4.o.2.1.size);have c0:=hc5.c0;have C5:=η hc5;have R5:=η (C3.o.step hb5);have X5:=η (X3.o.trans (Oth.of_below hb5));have K5:=η (K3.o.step hb5);have F5:=η (F3.o.step hb5);have LP:Hid (rc<p):=η (Nat.lt_of_lt_of_le C3.o.blk.lt H4.o.2.2);clear hc5 ho5 hs5 hb5 H4)
    | (refine AbV AfX rfl (.tmp 8) (.tmp 37) rfl rc rfl zeroF zeroF rfl (by exact R5.o) ?_;intro w6 hcz hoz hsz;have HZ:=η (And.intro hcz hoz);clear hcz hoz hsz))
  rw [HE.o.1,HE.o.2];exact bodyPost_ret (v:=.tuple #[zeroF.val,.int .i64 20]) (AeK AfX rfl _ _ rc zeroF.cells _ rfl rfl HZ.o.1 rfl) rfl ⟨e0,LR.o.2.2,zeroF,rfl,rfl,Fd.own.zero _ _,X5.o.newer HZ.o.2 LR.o.1,K5.o.newer (H.o.ok e0 LR.o.2.2).1.le HZ.o.2 LR.o.1⟩
 have d3:decide (f.e<now)=false:=decide_eq_false hlt
 have HE:Hid (T=U∧E=0):=η (by have h:=HR.o;rw [if_neg (by rw [hV0.o];decide),if_neg (by rw [hD0.o];decide),if_neg (by have:=HFE.o;omega)] at h;injection h with h1 h2;exact ⟨h1.symm,h2.symm⟩)
 clear hlt
 go_wp2_with (first
  | (refine atd 12 rfl ?_;refine AcZ AfX rfl rfl ?_;intro w4 p hc4 hb4 hx4;have H4:=η (And.intro hc4 (And.intro hb4 hx4));clear hc4 hb4 hx4)
  | (refine AbV AfX rfl (.tmp 12) (.tmp 27) rfl p rfl f zeroF rfl (by exact H4.o.1) ?_;intro w5 hc5 ho5 hs5;have hb5:=H4.o.2.1.trans (ho5.below (fun j hj=>by rw [List.mem_singleton.1 hj];exact H4.o.2.2) H4.o.2.1.size);have c0:=hc5.c0;have C5:=η hc5;have R5:=η (C3.o.step hb5);have X5:=η (X3.o.trans (Oth.of_below hb5));have K5:=η (K3.o.step hb5);have F5:=η (F3.o.step hb5);have LP:Hid (rc<p):=η (Nat.lt_of_lt_of_le C3.o.blk.lt H4.o.2.2);clear hc5 ho5 hs5 hb5 H4)
  | (with_reducible show wpList _ _ _ (⟨_,.load _ (.tmp 12),_,_,_,none⟩::_) _ _;refine AjJ AfX rfl (.tmp 12) rfl p rfl f (by exact C5.o) ?_)
  | (refine AbV AfX rfl (.tmp 8) (.tmp 38) rfl rc rfl f zeroF rfl (by exact R5.o) ?_;intro w6 hcz hoz hsz;have HZ:=η (And.intro hcz hoz);clear hcz hoz hsz))
 rw [HE.o.1,HE.o.2]
 exact bodyPost_ret (v:=.tuple #[f.val,.int .i64 0]) (AeK AfX rfl _ _ rc f.cells _ rfl rfl HZ.o.1 rfl) rfl ⟨e0,LR.o.2.2,f,rfl,HFT.o,F5.o.off HZ.o.2 (R5.o.blk.nob (by decide)),X5.o.newer HZ.o.2 LR.o.1,K5.o.newer (H.o.ok e0 LR.o.2.2).1.le HZ.o.2 LR.o.1⟩
end Go.Proofs.YthppjgdnibfefaaGreat
namespace Go.Proofs.YthppjgdnibfefaaGreat
open Tryz
attribute [local irreducible] wsW AeW keyF ArX AvQ AiY BoJ aftL encL tableL AoQ blkL ApQ putL numL xorL AlZ fstL hkL tagL trnL bB sumG nB ApW AmK tagR numS AfY endS AhY
open Go.RowKit
attribute [local go_sem ↓] CkQ DcZ CeK CeJ
theorem CaY {base y d:Nat} {B:YA} {ks:List KR} {q:Int} {w:World} (h:Rs base w y B d ks) (hv:hasR (rgK ks) q=true):∃ (i g:Nat) (k:KR),idxR (rgK ks) q=(i:Int)∧i<ks.length∧k.key=keyR (rgK ks) q ∧
  ∀ W,Below w.heap.size w W→W.cell? ⟨y,0,none⟩=some (.slice (some ⟨g,0,none⟩) ks.length d)∧W.cell? ⟨g,i*2+1,none⟩=some (.slice k.A 16 k.c)∧OwnB W 0 k.A 16 k.c k.key:=by
 obtain ⟨i,hi,hf,hl⟩:=CcW hv
 rw [BaQ] at hl
 obtain ⟨g,k,e,_,hk,hm,_,_⟩:=h.at_ hl
 refine ⟨i,g,k,hi,hl,?_,fun W hb=>?_⟩
 ·have hs:(rgK ks)[i]?=some (k.q,k.key):=by unfold rgK;rw [List.getElem?_map,hk];rfl
  exact (DjX hf hs).symm
 ·have hW:=h.step hb
  obtain ⟨g1,k1,e1,_,hk1,hm1,a1,a2⟩:=hW.at_ hl;rw [hk] at hk1;injection hk1 with hk1;subst hk1;rw [e] at e1;injection e1 with e1;injection e1 with e1;subst e1;have a0:=hW.c0;rw [e] at a0;exact ⟨a0,a2,hW.key k hm1⟩
theorem EaX (base y:Nat) (B:YA) (d:Nat) (ks:List KR) (q:Int) (w:World) (h:Rs base w y B d ks) (hn:ks.length≤1000) (A1 A2:YA) (n1 c1 n2 c2:Nat) (l1 l2:YB) (h1:RB w w.heap.size A1 n1 l1) (h2:RB w w.heap.size A2 n2 l2) (f:Fd) (hf:f.ok w) (hv:hasR (rgK ks) q=false) :
  Calls prog 142 #[.pointer (some ⟨y,0,none⟩),.int .i64 q,.slice A1 n1 c1,.slice A2 n2 c2,f.val] w (AhW 0 [] 17 w):=by
 have H:=η h
 have HI:=η (AxV hv)
 clear h hv h1 h2 hf
 go_enter func142,ntmps142
 go_wp2_with (first
  | (refine AdK rfl _ (.tmp 4) rfl f rfl ?_;intro w1 qf hc1 hb1 hx1;have H1:=η (And.intro hc1 hb1);clear hc1 hb1 hx1))
 refine (AkY base y B d ks _ w1 (by exact H.o.step H1.o.2) hn).mono ?_
 rw [HI.o]
 rintro e w2 ⟨rfl,rfl⟩
 go_wp2_with fail
 go_ret2
 exact ⟨none,0,rfl,OwnB.nil_ _ _,H1.o.2⟩
theorem CnQ (base y:Nat) (B:YA) (d:Nat) (ks:List KR) (q:Int) (w:World) (h:Rs base w y B d ks) (hn:ks.length≤1000) (A1 A2:YA) (n1 c1 n2 c2:Nat) (l1 l2:YB) (h1:RB w w.heap.size A1 n1 l1) (h2:RB w w.heap.size A2 n2 l2) (f:Fd) (hf:f.ok w) (hv:hasR (rgK ks) q=true) (hb1:n1≠12) (bn1:n1≤1000) :
  Calls prog 142 #[.pointer (some ⟨y,0,none⟩),.int .i64 q,.slice A1 n1 c1,.slice A2 n2 c2,f.val] w (AhW 0 [] 11 w):=by
 have H:=η h
 obtain ⟨i,g,k,hi,hil,hkey,hrow⟩:=CaY h hv
 have HI:=η hi
 have d0:decide ((i:Int)<0)=false:=decide_eq_false (by omega)
 have d1:((n1:Int) != 12)=true:=by rw [bne_iff_ne];omega
 clear h hv h1 h2 hf hi hil hkey hrow hb1
 go_enter func142,ntmps142
 go_wp2_with (first
  | (refine AdK rfl _ (.tmp 4) rfl f rfl ?_;intro w1 qf hc1 hb1 hx1;have H1:=η (And.intro hc1 hb1);clear hc1 hb1 hx1))
 refine (AkY base y B d ks _ w1 (by exact H.o.step H1.o.2) hn).mono ?_
 rw [HI.o]
 rintro e w2 ⟨rfl,rfl⟩
 go_wp2_with fail
 go_ret2
 exact ⟨none,0,rfl,OwnB.nil_ _ _,H1.o.2⟩
theorem CfZ (base y:Nat) (B:YA) (d:Nat) (ks:List KR) (q:Int) (w:World) (h:Rs base w y B d ks) (hn:ks.length≤1000) (A1 A2:YA) (n1 c1 n2 c2:Nat) (l1 l2:YB) (h1:RB w w.heap.size A1 n1 l1) (h2:RB w w.heap.size A2 n2 l2) (f:Fd) (hf:f.ok w) (hv:hasR (rgK ks) q=true) (hb1:n1=12) (hb2:64<n2) (bn2:n2≤1000) :
  Calls prog 142 #[.pointer (some ⟨y,0,none⟩),.int .i64 q,.slice A1 n1 c1,.slice A2 n2 c2,f.val] w (AhW 0 [] 11 w):=by
 subst hb1
 have H:=η h
 obtain ⟨i,g,k,hi,hil,hkey,hrow⟩:=CaY h hv
 have HI:=η hi
 have d0:decide ((i:Int)<0)=false:=decide_eq_false (by omega)
 have d2:decide ((n2:Int)>64)=true:=decide_eq_true (by omega)
 clear h hv h1 h2 hf hi hil hkey hrow hb2
 go_enter func142,ntmps142
 go_wp2_with (first
  | (refine AdK rfl _ (.tmp 4) rfl f rfl ?_;intro w1 qf hc1 hb1 hx1;have H1:=η (And.intro hc1 hb1);clear hc1 hb1 hx1))
 refine (AkY base y B d ks _ w1 (by exact H.o.step H1.o.2) hn).mono ?_
 rw [HI.o]
 rintro e w2 ⟨rfl,rfl⟩
 go_wp2_with fail
 go_ret2
 exact ⟨none,0,rfl,OwnB.nil_ _ _,H1.o.2⟩
theorem CwZ (base y:Nat) (B:YA) (d:Nat) (ks:List KR) (q:Int) (w:World) (h:Rs base w y B d ks) (hn:ks.length≤1000) (A1 A2:YA) (n1 c1 n2 c2:Nat) (l1 l2:YB) (h1:RB w w.heap.size A1 n1 l1) (h2:RB w w.heap.size A2 n2 l2) (f:Fd) (hf:f.ok w) (hv:hasR (rgK ks) q=true) (hb1:n1=12) (hb2:n2≤64) (hl:20<f.o.length∨20<f.s.length) :
  Calls prog 142 #[.pointer (some ⟨y,0,none⟩),.int .i64 q,.slice A1 n1 c1,.slice A2 n2 c2,f.val] w (AhW 0 [] 15 w):=by
 subst hb1
 have H:=η h
 obtain ⟨i,g,k,hi,hil,hkey,hrow⟩:=CaY h hv
 have HI:=η hi
 have d0:decide ((i:Int)<0)=false:=decide_eq_false (by omega)
 have d2:decide ((n2:Int)>64)=false:=decide_eq_false (by omega)
 have HT:Hid (∀ W,Below w.heap.size w W→Calls prog 173 #[f.val] W (AhW 0 [] 15 W)):=η (fun W hb=>DhK f W (hf.step hb) 0 [] 15 (by unfold BcX;exact if_pos hl) rfl)
 clear h hv h1 h2 hf hi hil hkey hrow hb2 hl
 go_enter func142,ntmps142
 go_wp2_with (first
  | (refine AdK rfl _ (.tmp 4) rfl f rfl ?_;intro w1 qf hc1 hb1 hx1;have H1:=η (And.intro hc1 hb1);clear hc1 hb1 hx1))
 refine (AkY base y B d ks _ w1 (by exact H.o.step H1.o.2) hn).mono ?_
 rw [HI.o]
 rintro e w2 ⟨rfl,rfl⟩
 go_wp2_with (first
  | (with_reducible show wpList _ _ _ (⟨_,.load _ (.tmp 9),_,_,_,none⟩::_) _ _;refine AjJ AcW rfl (.tmp 9) rfl qf rfl f (by exact H1.o.1) ?_))
 refine (HT.o w1 (by exact H1.o.2)).mono ?_
 rintro e w3 ⟨A3,c3,rfl,ho,hb⟩
 have B3:=η (AaJ H1.o.2 hb)
 clear ho hb
 go_wp2_with fail
 go_ret2
 exact ⟨none,0,rfl,OwnB.nil_ _ _,B3.o⟩
theorem DhW (base y:Nat) (B:YA) (d:Nat) (ks:List KR) (q:Int) (w:World) (h:Rs base w y B d ks) (hn:ks.length≤1000) (A1 A2:YA) (n1 c1 n2 c2:Nat) (l1 l2:YB) (h1:RB w w.heap.size A1 n1 l1) (h2:RB w w.heap.size A2 n2 l2) (f:Fd) (hf:f.ok w) (hv:hasR (rgK ks) q=true) (hb1:n1=12) (hb2:n2≤64) (hl:f.tk.few) (hq:0≤q∧q≤127) (hk16:(keyR (rgK ks) q).length=16) :
  Calls prog 142 #[.pointer (some ⟨y,0,none⟩),.int .i64 q,.slice A1 n1 c1,.slice A2 n2 c2,f.val] w (AhW (1+12+(10+f.o.length+f.s.length+16)) (UInt8.ofNat q.toNat::(l1++(ApW (keyR (rgK ks) q) l1 (rawT f.tk) (AnX q l2)).1)) 0 w):=by
 subst hb1
 obtain ⟨Q,rfl⟩:∃ Q:Nat,q=(Q:Int):=⟨q.toNat,by omega⟩
 rw [Int.toNat_natCast]
 have hQ:Q≤127:=by omega
 have H:=η h
 obtain ⟨i,g,k,hi,hil,hkey,hrow⟩:=CaY h hv
 have HI:=η hi
 have d0:decide ((i:Int)<0)=false:=decide_eq_false (by omega)
 obtain ⟨n,hnn⟩:∃ n,ks.length=n:=⟨_,rfl⟩
 rw [hnn] at hil hrow
 have HROW:=η hrow
 have HNN:=η hnn
 have HF:=η hf
 have HL:=η hl
 have R1:=η h1
 have R2:=η h2
 have e1:=h1.len
 have d2:decide ((n2:Int)>64)=false:=decide_eq_false (by omega)
 have hw8:IntKind.u8.wrap (Q:Int)=(Q:Int):=by rw [IntKind.wrap_u8];omega
 have HL1:=η (EuX Q (by omega))
 obtain ⟨T,HT⟩:∃ T,Hid (rawT f.tk=T):=⟨_,η rfl⟩
 obtain ⟨t,ht⟩:∃ t,t=10+f.o.length+f.s.length:=⟨_,rfl⟩
 have HTL:Hid (T.length=t):=η (by rw [←HT.o,AqJ,ht];rfl)
 have bt:t≤50:=by have h1:=hl.1;have h2:=hl.2;simp only [Fd.tk] at h1 h2;omega
 rw [HT.o,←ht]
 obtain ⟨KY,HK⟩:∃ KY,Hid (keyR (rgK ks) (Q:Int)=KY):=⟨_,η rfl⟩
 rw [HK.o] at hk16 hkey ⊢
 obtain ⟨KA,HKA⟩:∃ KA,Hid (k.A=KA):=⟨_,η rfl⟩
 obtain ⟨kc,HKC⟩:∃ kc,Hid (k.c=kc):=⟨_,η rfl⟩
 rw [HKA.o,HKC.o,hkey] at HROW
 obtain ⟨SB,hSB⟩:∃ SB,ApW KY l1 T (AnX (Q:Int) l2)=(SB,0):=⟨_,BvW _ _ _ e1⟩
 have hSL:SB.length=t+16:=by have:=AuW (n:=l1) KY T (AnX (Q:Int) l2) hk16 e1;rw [hSB] at this;rw [this,HTL.o]
 have HSB:=η (And.intro hSB hSL)
 rw [hSB]
 clear h hv hf hl h1 h2 hq e1 ht hk16 hSB hSL hi hrow hkey hnn
 go_enter func142,ntmps142
 go_wp2_with (first
  | (refine AdK rfl _ (.tmp 4) rfl f rfl ?_;intro w1 qf hc1 hb1 hx1;have H1:=η (And.intro hc1 hb1);clear hc1 hb1 hx1))
 refine (AkY base y B d ks _ w1 (by exact H.o.step H1.o.2) hn).mono ?_
 rw [HI.o]
 rintro e w2 ⟨rfl,rfl⟩
 go_wp2_with (first
  | (with_reducible show wpList _ _ _ (⟨_,.load _ (.tmp 9),_,_,_,none⟩::_) _ _;refine AjJ AcW rfl (.tmp 9) rfl qf rfl f (by exact H1.o.1) ?_))
 refine (CwV f w1 (by exact HF.o.step H1.o.2) HL.o).mono ?_
 rw [HT.o]
 rintro e w3 ⟨A3,c3,rfl,ho,hb⟩
 have hln:=ho.len
 rw [HTL.o] at hln
 rw [←hln] at ho ⊢
 have O3:=η ho
 have B3:=η (AaJ H1.o.2 hb)
 clear ho hb hln
 go_wp2_with fail
 have hrw:=HROW.o w3.drew B3.o.drew
 refine wp_region_held_drew (S:=fun w'=>w'.cell? ⟨y,0,none⟩=some (.slice (some ⟨g,0,none⟩) n d)∧w'.cell? ⟨g,i*2+1,none⟩=some (.slice KA 16 kc)) (by kernel_rfl) ⟨hrw.1,hrw.2.1⟩ (fun hHeld=>?_)
 (try dsimp only at hHeld)
 have Ω:=η (fun (w:World) (hSw:w.cell? ⟨y,0,none⟩=some (.slice (some ⟨g,0,none⟩) n d)∧w.cell? ⟨g,i*2+1,none⟩=some (.slice KA 16 kc))=>hSw)
 refine tkJ 0 rfl hHeld ?_
 refine tkJ 1 rfl hHeld ?_
 refine tkJ 2 rfl hHeld ?_
 refine tkJ 3 rfl hHeld ?_
 refine tkJ 4 rfl hHeld ?_
 refine tkJ 5 rfl hHeld ?_
 refine tkJ 6 rfl hHeld ?_
 refine tkJ 7 rfl hHeld ?_
 refine tkJ 8 rfl hHeld ?_
 refine tkJ 9 rfl hHeld ?_
 refine tkJ 10 rfl hHeld ?_
 refine tkJ 11 rfl hHeld ?_
 refine rdI 12 rfl (fun K hK=>?_)
 (try simp only [Act.put,rxT,sxT])
 go_simp
 refine (CxK Q (by omega) A2 n2 c2 l2 _ (by exact (R2.o.step B3.o.drew)) (by omega)).mono ?_
 rintro e w5 ⟨A5,c5,rfl,ho,hb⟩
 have O5:=η ho
 have B5:=η (AaJ B3.o.drew hb)
 have T5:=η ((O3.o.rb.step ((Below.refl _ _).drew)).step hb)
 have hr5:=HROW.o w5 (AaJ B3.o.drew hb)
 have K5:=η hr5.2.2
 clear ho hb
 (try go_wp2_with fail)
 refine hK.o _ _ ⟨hr5.1,hr5.2.1⟩ (fun hHeld=>?_)
 clear hK K
 refine rdI 13 rfl (fun K hK=>?_)
 (try simp only [Act.put,rxT,sxT])
 go_simp
 refine (rseal_r KA A1 A3 A5 kc 12 c1 t c3 (1+n2) c5 KY l1 T (AnX (Q:Int) l2) w5 (by exact K5.o.rb) (by exact K5.o.cap.1) (by exact R1.o.step B5.o) (by exact T5.o) (by exact O5.o.rb) (by omega) (by omega)).mono ?_
 intro e w6 hr
 obtain ⟨A6,c6,rfl,ho,hb⟩:=hr.to (t+16) SB 0 HSB.o.1 HSB.o.2
 have O6:=η ho
 have B6:=η (AaJ B5.o hb)
 have hr6:=HROW.o w6 B6.o
 clear hr ho hb
 (try go_wp2_with fail)
 refine hK.o _ _ ⟨hr6.1,hr6.2.1⟩ (fun hHeld=>?_)
 clear hK K
 refine tkJ 14 rfl hHeld ?_
 refine tkJ 15 rfl hHeld ?_
 refine tkJ 16 rfl hHeld ?_
 refine tkJ 17 rfl hHeld ?_
 refine tkJ 18 rfl hHeld ?_
 (try simp only [Act.put,rxT,sxT])
 refine wpAnyH_done (by kernel_rfl) ?_ _
 go_wp2_with (first
  | (at_builtin;refine AcQ rfl (.tmp 57) (.tmp 58) rfl w6.heap.size _ 1 1 [UInt8.ofNat Q] rfl (by exact OwnB.lit w6 _ [UInt8.ofNat Q] _ 1 HL1.o rfl (by unfold maxLen;omega) (Nat.le_refl _)) (w6.alloc (.cells #[.int .u8 (Q:Int)] 5)).heap.size A1 12 c1 l1 rfl (by exact (R1.o.step B6.o).step (AaK _ _)) (by omega) (by simp) ?_;intro A7 c7 w7 ho _ hb;have O7:=η ho;have B67:=η ((AaK w6 (.cells #[.int .u8 (Q:Int)] 5)).trans hb);have B7:=η (AaJ B6.o B67.o);have L7:=η (O6.o.rb.step B67.o);clear ho hb)
  | (at_builtin;refine AcQ rfl (.tmp 59) (.tmp 60) rfl w6.heap.size _ _ _ _ rfl (by exact O7.o) w7.heap.size A6 (t+16) c6 SB rfl (by exact L7.o) (by omega) (by exact B67.o.size) ?_;intro A8 c8 w8 ho _ hb;have O8:=η (ho.base_le B6.o.size);have B8:=η (B7.o.trans (hb.mono B6.o.size));clear ho hb))
 go_ret2
 exact ⟨A8,c8,rfl,by have h:=O8.o;rw [List.append_assoc] at h;exact h,B8.o⟩
theorem CaX (base y:Nat) (B:YA) (d:Nat) (ks:List KR) (q:Int) (w:World) (h:Rs base w y B d ks) (hn:ks.length≤1000) (ok:okR (rgK ks)) (A1 A2:YA) (n1 c1 n2 c2:Nat) (l1 l2:YB) (h1:RB w w.heap.size A1 n1 l1) (h2:RB w w.heap.size A2 n2 l2) (f:Fd) (hf:f.ok w) (bn1:n1≤1000) (bn2:n2≤1000) (M:Nat) (L:YB) (E:Int) (hR:AjZ (rgK ks) q l1 l2 f.tk=(L,E)) (hM:L.length=M) :
  Calls prog 142 #[.pointer (some ⟨y,0,none⟩),.int .i64 q,.slice A1 n1 c1,.slice A2 n2 c2,f.val] w (AhW M L E w):=by
 have e1:=h1.len
 have e2:=h2.len
 cases hv:hasR (rgK ks) q
 ·rw [EnJ hv] at hR
  injection hR with r1 r2;subst r1 r2 hM;exact EaX base y B d ks q w h hn A1 A2 n1 c1 n2 c2 l1 l2 h1 h2 f hf hv
 by_cases hb1:n1=12
 ·by_cases hb2:n2≤64
  ·by_cases hl:20<f.o.length∨20<f.s.length
   ·have e:AjZ (rgK ks) q l1 l2 f.tk=([],15):=by
     unfold AjZ;rw [if_neg (by rw [hv];decide),if_neg (by omega)];have:BcX f.tk=([],15):=by unfold BcX;exact if_pos hl
     rw [this,if_pos (by decide)]
    rw [e] at hR;injection hR with r1 r2;subst r1 r2 hM;exact CwZ base y B d ks q w h hn A1 A2 n1 c1 n2 c2 l1 l2 h1 h2 f hf hv hb1 hb2 hl
   ·have hfew:f.tk.few:=by unfold Tk.few Fd.tk;simp only;omega
    have hk:=AwV ok hv;have:=DhW base y B d ks q w h hn A1 A2 n1 c1 n2 c2 l1 l2 h1 h2 f hf hv hb1 hb2 hfew (EaZ ok hv) hk;rw [BfZ hv (by omega) (by omega) hfew] at hR;injection hR with r1 r2;subst r1 r2;rw [List.length_cons,List.length_append,AuW _ _ _ hk (by omega),AqJ,e1,hb1] at hM;simp only [Fd.tk] at hM;rw [show M=1+12+(10+f.o.length+f.s.length+16) by omega];exact this
  ·have e:AjZ (rgK ks) q l1 l2 f.tk=([],11):=by
    unfold AjZ;rw [if_neg (by rw [hv];decide),if_pos (by omega)]
   rw [e] at hR;injection hR with r1 r2;subst r1 r2 hM;exact CfZ base y B d ks q w h hn A1 A2 n1 c1 n2 c2 l1 l2 h1 h2 f hf hv hb1 (by omega) bn2
 ·have e:AjZ (rgK ks) q l1 l2 f.tk=([],11):=by
   unfold AjZ;rw [if_neg (by rw [hv];decide),if_pos (by omega)]
  rw [e] at hR;injection hR with r1 r2;subst r1 r2 hM;exact CnQ base y B d ks q w h hn A1 A2 n1 c1 n2 c2 l1 l2 h1 h2 f hf hv hb1 bn1
theorem DhY (base y:Nat) (B:YA) (d:Nat) (ks:List KR) (w:World) (h:Rs base w y B d ks) (hn:ks.length≤1000) (A1 A2:YA) (n1 c1 n2 c2:Nat) (l1 l2:YB) (h1:RB w w.heap.size A1 n1 l1) (h2:RB w w.heap.size A2 n2 l2) (m2:n2≤c2) (bn1:n1≤65000) (bn2:n2≤65000) (now:Nat) (hs:n2<29) :
  Calls prog 108 #[.pointer (some ⟨y,0,none⟩),.slice A1 n1 c1,.slice A2 n2 c2,.int .u64 (now:Int)] w (DeW (zTk,12) w):=by
 have d1:decide ((n2:Int)<29)=true:=decide_eq_true (by omega)
 clear h h1 h2
 go_enter func108,ntmps108
 go_wp2_with (first
  | (refine atd 8 rfl ?_;refine AcZ AcW rfl rfl ?_;intro w1 rc hc1 hb1 hx1;have H1:=η (And.intro hc1 (And.intro hb1 hx1));clear hc1 hb1 hx1)
  | (refine AbV AcW rfl (.tmp 8) (.tmp 17) rfl rc rfl zeroF zeroF rfl (by exact H1.o.1) ?_;intro wz hcz hoz hsz;have HZ:=η (And.intro hcz hoz);clear hcz hoz hsz))
 have LR:=η H1.o.2.2
 exact bodyPost_ret (v:=.tuple #[zeroF.val,.int .i64 12]) (AeK AcW rfl _ _ rc zeroF.cells _ rfl rfl HZ.o.1 rfl) rfl ⟨zeroF,rfl,rfl,Fd.own.zero _ _,H1.o.2.1.trans (HZ.o.2.below (fun j hj=>by rw [List.mem_singleton.1 hj];exact LR.o) H1.o.2.1.size)⟩
theorem EaY (base y:Nat) (B:YA) (d:Nat) (ks:List KR) (w:World) (h:Rs base w y B d ks) (hn:ks.length≤1000) (A1 A2:YA) (n1 c1 n2 c2:Nat) (l1 l2:YB) (h1:RB w w.heap.size A1 n1 l1) (h2:RB w w.heap.size A2 n2 l2) (m2:n2≤c2) (bn1:n1≤65000) (bn2:n2≤65000) (now:Nat) (hs:29≤n2) (hv:hasR (rgK ks) (fstT l2)=false) :
  Calls prog 108 #[.pointer (some ⟨y,0,none⟩),.slice A1 n1 c1,.slice A2 n2 c2,.int .u64 (now:Int)] w (DeW (zTk,17) w):=by
 have H:=η h
 obtain ⟨g2,oo,xb,rfl,_,hfx,htk,hx255⟩:=AuY h2 (by omega)
 have HCX:Hid (∀ W,Below w.heap.size w W→W.cell? ⟨g2,oo,none⟩=some (.int .u8 (xb.toNat:Int))):=η (fun W hb=>by
  obtain ⟨g3,o3,x3,e3,hc3,hf3,_,_⟩:=AuY (h2.step hb) (by omega)
  injection e3 with e3
  injection e3 with e3 e4
  subst e3 e4
  rw [hfx] at hf3
  rw [hc3,hf3])
 have d1:decide ((n2:Int)<29)=false:=decide_eq_false (by omega)
 have h0n:0<n2:=by omega
 have hwi:IntKind.i64.wrap (xb.toNat:Int)=(xb.toNat:Int):=IntWalk.i64_in _ (by omega)
 have HX:=η (And.intro hfx htk)
 have R1:=η h1
 have R2:=η h2
 have HLN:=η (And.intro h1.len h2.len)
 rw [hfx] at hv
 have HI:=η (AxV hv)
 clear h h1 h2 hv hfx htk
 go_enter func108,ntmps108
 go_wp2_with (first
  | (refine atd 8 rfl ?_;refine AcZ AcW rfl rfl ?_;intro w1 rc hc1 hb1 hx1;have H1:=η (And.intro hc1 (And.intro hb1 hx1));have hcx:=HCX.o w1 hb1;clear hc1 hb1 hx1))
 refine (AkY base y B d ks (xb.toNat:Int) w1 (by exact H.o.step H1.o.2.1) hn).mono ?_
 rw [HI.o]
 rintro e w2 ⟨rfl,rfl⟩
 have LR:=η H1.o.2.2
 clear hcx
 go_wp2_with (first
  | (refine AbV AcW rfl (.tmp 8) (.tmp 26) rfl rc rfl zeroF zeroF rfl (by exact H1.o.1) ?_;intro wz hcz hoz hsz;have HZ:=η (And.intro hcz hoz);clear hcz hoz hsz))
 exact bodyPost_ret (v:=.tuple #[zeroF.val,.int .i64 17]) (AeK AcW rfl _ _ rc zeroF.cells _ rfl rfl HZ.o.1 rfl) rfl ⟨zeroF,rfl,rfl,Fd.own.zero _ _,H1.o.2.1.trans (HZ.o.2.below (fun j hj=>by rw [List.mem_singleton.1 hj];exact LR.o) H1.o.2.1.size)⟩
theorem CgJ (base y:Nat) (B:YA) (d:Nat) (ks:List KR) (w:World) (h:Rs base w y B d ks) (hn:ks.length≤1000) (A1 A2:YA) (n1 c1 n2 c2:Nat) (l1 l2:YB) (h1:RB w w.heap.size A1 n1 l1) (h2:RB w w.heap.size A2 n2 l2) (m2:n2≤c2) (bn1:n1≤65000) (bn2:n2≤65000) (now:Nat) (hs:29≤n2) (hv:hasR (rgK ks) (fstT l2)=true) (hb:64<n1) :
  Calls prog 108 #[.pointer (some ⟨y,0,none⟩),.slice A1 n1 c1,.slice A2 n2 c2,.int .u64 (now:Int)] w (DeW (zTk,13) w):=by
 have H:=η h
 obtain ⟨g2,oo,xb,rfl,_,hfx,htk,hx255⟩:=AuY h2 (by omega)
 have HCX:Hid (∀ W,Below w.heap.size w W→W.cell? ⟨g2,oo,none⟩=some (.int .u8 (xb.toNat:Int))):=η (fun W hb=>by
  obtain ⟨g3,o3,x3,e3,hc3,hf3,_,_⟩:=AuY (h2.step hb) (by omega)
  injection e3 with e3
  injection e3 with e3 e4
  subst e3 e4
  rw [hfx] at hf3
  rw [hc3,hf3])
 have d1:decide ((n2:Int)<29)=false:=decide_eq_false (by omega)
 have h0n:0<n2:=by omega
 have hwi:IntKind.i64.wrap (xb.toNat:Int)=(xb.toNat:Int):=IntWalk.i64_in _ (by omega)
 have HX:=η (And.intro hfx htk)
 have R1:=η h1
 have R2:=η h2
 have HLN:=η (And.intro h1.len h2.len)
 rw [hfx] at hv
 obtain ⟨i,g,k,hi,hil,hkey,hrow⟩:=CaY h hv
 have HI:=η hi
 have d0:decide ((i:Int)<0)=false:=decide_eq_false (by omega)
 have d2:decide ((n1:Int)>64)=true:=decide_eq_true (by omega)
 clear h h1 h2 hv hfx htk hi hil hkey hrow
 go_enter func108,ntmps108
 go_wp2_with (first
  | (refine atd 8 rfl ?_;refine AcZ AcW rfl rfl ?_;intro w1 rc hc1 hb1 hx1;have H1:=η (And.intro hc1 (And.intro hb1 hx1));have hcx:=HCX.o w1 hb1;clear hc1 hb1 hx1))
 refine (AkY base y B d ks (xb.toNat:Int) w1 (by exact H.o.step H1.o.2.1) hn).mono ?_
 rw [HI.o]
 rintro e w2 ⟨rfl,rfl⟩
 have LR:=η H1.o.2.2
 clear hcx
 go_wp2_with (first
  | (refine AbV AcW rfl (.tmp 8) (.tmp 35) rfl rc rfl zeroF zeroF rfl (by exact H1.o.1) ?_;intro wz hcz hoz hsz;have HZ:=η (And.intro hcz hoz);clear hcz hoz hsz))
 exact bodyPost_ret (v:=.tuple #[zeroF.val,.int .i64 13]) (AeK AcW rfl _ _ rc zeroF.cells _ rfl rfl HZ.o.1 rfl) rfl ⟨zeroF,rfl,rfl,Fd.own.zero _ _,H1.o.2.1.trans (HZ.o.2.below (fun j hj=>by rw [List.mem_singleton.1 hj];exact LR.o) H1.o.2.1.size)⟩
theorem CnV (base y:Nat) (B:YA) (d:Nat) (ks:List KR) (w:World) (h:Rs base w y B d ks) (hn:ks.length≤1000) (A1 A2:YA) (n1 c1 n2 c2:Nat) (l1 l2:YB) (h1:RB w w.heap.size A1 n1 l1) (h2:RB w w.heap.size A2 n2 l2) (m2:n2≤c2) (bn1:n1≤65000) (bn2:n2≤65000) (now:Nat) (hs:29≤n2) (hv:hasR (rgK ks) (fstT l2)=true) (hb:n1≤64) (hb2:4096<n2) :
  Calls prog 108 #[.pointer (some ⟨y,0,none⟩),.slice A1 n1 c1,.slice A2 n2 c2,.int .u64 (now:Int)] w (DeW (zTk,13) w):=by
 have H:=η h
 obtain ⟨g2,oo,xb,rfl,_,hfx,htk,hx255⟩:=AuY h2 (by omega)
 have HCX:Hid (∀ W,Below w.heap.size w W→W.cell? ⟨g2,oo,none⟩=some (.int .u8 (xb.toNat:Int))):=η (fun W hb=>by
  obtain ⟨g3,o3,x3,e3,hc3,hf3,_,_⟩:=AuY (h2.step hb) (by omega)
  injection e3 with e3
  injection e3 with e3 e4
  subst e3 e4
  rw [hfx] at hf3
  rw [hc3,hf3])
 have d1:decide ((n2:Int)<29)=false:=decide_eq_false (by omega)
 have h0n:0<n2:=by omega
 have hwi:IntKind.i64.wrap (xb.toNat:Int)=(xb.toNat:Int):=IntWalk.i64_in _ (by omega)
 have HX:=η (And.intro hfx htk)
 have R1:=η h1
 have R2:=η h2
 have HLN:=η (And.intro h1.len h2.len)
 rw [hfx] at hv
 obtain ⟨i,g,k,hi,hil,hkey,hrow⟩:=CaY h hv
 have HI:=η hi
 have d0:decide ((i:Int)<0)=false:=decide_eq_false (by omega)
 have d2:decide ((n1:Int)>64)=false:=decide_eq_false (by omega)
 have d3:decide ((n2:Int)>4096)=true:=decide_eq_true (by omega)
 clear h h1 h2 hv hfx htk hi hil hkey hrow
 go_enter func108,ntmps108
 go_wp2_with (first
  | (refine atd 8 rfl ?_;refine AcZ AcW rfl rfl ?_;intro w1 rc hc1 hb1 hx1;have H1:=η (And.intro hc1 (And.intro hb1 hx1));have hcx:=HCX.o w1 hb1;clear hc1 hb1 hx1))
 refine (AkY base y B d ks (xb.toNat:Int) w1 (by exact H.o.step H1.o.2.1) hn).mono ?_
 rw [HI.o]
 rintro e w2 ⟨rfl,rfl⟩
 have LR:=η H1.o.2.2
 clear hcx
 go_wp2_with (first
  | (refine AbV AcW rfl (.tmp 8) (.tmp 35) rfl rc rfl zeroF zeroF rfl (by exact H1.o.1) ?_;intro wz hcz hoz hsz;have HZ:=η (And.intro hcz hoz);clear hcz hoz hsz))
 exact bodyPost_ret (v:=.tuple #[zeroF.val,.int .i64 13]) (AeK AcW rfl _ _ rc zeroF.cells _ rfl rfl HZ.o.1 rfl) rfl ⟨zeroF,rfl,rfl,Fd.own.zero _ _,H1.o.2.1.trans (HZ.o.2.below (fun j hj=>by rw [List.mem_singleton.1 hj];exact LR.o) H1.o.2.1.size)⟩
theorem CxJ (base y:Nat) (B:YA) (d:Nat) (ks:List KR) (w:World) (h:Rs base w y B d ks) (hn:ks.length≤1000) (A1 A2:YA) (n1 c1 n2 c2:Nat) (l1 l2:YB) (h1:RB w w.heap.size A1 n1 l1) (h2:RB w w.heap.size A2 n2 l2) (m2:n2≤c2) (bn1:n1≤65000) (bn2:n2≤65000) (now:Nat) (hs:29≤n2) (hv:hasR (rgK ks) (fstT l2)=true) (hk16:(keyR (rgK ks) (fstT l2)).length=16) (hb:n1≤64) (hb2:n2≤4096) (T:Tk) (E:Int) (hR:DlZ (keyR (rgK ks) (fstT l2)) l1 (fstT l2) l2 now=(T,E)) :
  Calls prog 108 #[.pointer (some ⟨y,0,none⟩),.slice A1 n1 c1,.slice A2 n2 c2,.int .u64 (now:Int)] w (DeW (T,E) w):=by
 have H:=η h
 obtain ⟨g2,oo,xb,rfl,_,hfx,htk,hx255⟩:=AuY h2 (by omega)
 have HCX:Hid (∀ W,Below w.heap.size w W→W.cell? ⟨g2,oo,none⟩=some (.int .u8 (xb.toNat:Int))):=η (fun W hb=>by
  obtain ⟨g3,o3,x3,e3,hc3,hf3,_,_⟩:=AuY (h2.step hb) (by omega)
  injection e3 with e3
  injection e3 with e3 e4
  subst e3 e4
  rw [hfx] at hf3
  rw [hc3,hf3])
 have d1:decide ((n2:Int)<29)=false:=decide_eq_false (by omega)
 have h0n:0<n2:=by omega
 have hwi:IntKind.i64.wrap (xb.toNat:Int)=(xb.toNat:Int):=IntWalk.i64_in _ (by omega)
 have HX:=η (And.intro hfx htk)
 have R1:=η h1
 have R2:=η h2
 have HLN:=η (And.intro h1.len h2.len)
 rw [hfx] at hv
 obtain ⟨i,g,k,hi,hil,hkey,hrow⟩:=CaY h hv
 have HI:=η hi
 have d0:decide ((i:Int)<0)=false:=decide_eq_false (by omega)
 obtain ⟨n,hnn⟩:∃ n,ks.length=n:=⟨_,rfl⟩
 rw [hnn] at hil hrow
 have HROW:=η hrow
 have HNN:=η hnn
 have d2:decide ((n1:Int)>64)=false:=decide_eq_false (by omega)
 have d3:decide ((n2:Int)>4096)=false:=decide_eq_false (by omega)
 rw [hfx] at hR hk16
 obtain ⟨KY,HK⟩:∃ KY,Hid (keyR (rgK ks) (xb.toNat:Int)=KY):=⟨_,η rfl⟩
 rw [HK.o] at hkey hR hk16
 obtain ⟨KA,HKA⟩:∃ KA,Hid (k.A=KA):=⟨_,η rfl⟩
 obtain ⟨kc,HKC⟩:∃ kc,Hid (k.c=kc):=⟨_,η rfl⟩
 rw [HKA.o,HKC.o,hkey] at HROW
 obtain ⟨⟨L,V⟩,hL⟩:∃ r,AmK KY ((l2.drop 1).take 12) (l2.drop 13) (AnX (xb.toNat:Int) l1)=r:=⟨_,rfl⟩
 obtain ⟨M,hM⟩:∃ M,L.length=M:=⟨_,rfl⟩
 obtain ⟨⟨U,D⟩,hU⟩:∃ r,AhY L=r:=⟨_,rfl⟩
 have bM:M≤65000:=by
  rw [←hM];have hl:=congrArg (fun r=>r.1.length) hL;simp only at hl;rw [←hl];have e2:=h2.len;have h12:((l2.drop 1).take 12).length=12:=by rw [List.length_take,List.length_drop];omega
  unfold AmK;rw [if_pos h12];split
  ·simp
  ·split
   ·rw [AnZ _ _ _ hk16 h12,List.length_take,List.length_drop];omega
   ·simp
 unfold DlZ at hR
 simp only [hL,hU] at hR
 have HL:=η (And.intro hL hM)
 have HUU:=η hU
 have HR:=η hR
 have HP1:Hid (∀ W,Below w.heap.size w W→RB W W.heap.size (cutA (some ⟨g2,oo,none⟩) c2 1) 12 ((l2.drop 1).take 12)):=η (fun W hb=>by
  have k:=RB.part (R2.o.step hb) (i:=1) (j:=13) (c:=c2) (by omega) (by omega) (by omega)
  rw [List.drop_take] at k
  exact k)
 have HP2:Hid (∀ W,Below w.heap.size w W→RB W W.heap.size (cutA (some ⟨g2,oo,none⟩) c2 13) (n2 - 13) (l2.drop 13)):=η (fun W hb=>by
  have k:=RB.part (R2.o.step hb) (i:=13) (j:=n2) (c:=c2) (by omega) (by omega) (by omega)
  rw [List.take_of_length_le (by have:=HLN.o.2;omega)] at k
  exact k)
 have HC1:Hid (∀ W:World,(Instr.slice 41 (.slice (some ⟨g2,oo,none⟩) n2 c2) (some (.int .i64 1)) (some (.int .i64 13)) none).run prog W=.ok (.slice (cutA (some ⟨g2,oo,none⟩) c2 1) 12 (c2 - 1)) W):=η (DdV (some ⟨g2,oo,none⟩) n2 c2 1 13 (by omega) (by omega))
 have HC2:Hid (∀ W:World,(Instr.slice 41 (.slice (some ⟨g2,oo,none⟩) n2 c2) (some (.int .i64 13)) none none).run prog W=.ok (.slice (cutA (some ⟨g2,oo,none⟩) c2 13) (n2 - 13) (c2 - 13)) W):=η (BvJ (some ⟨g2,oo,none⟩) n2 c2 13 (by omega))
 clear h h1 h2 hv hfx htk hi hkey hrow hL hM hU hR hk16 hnn
 go_enter func108,ntmps108
 go_wp2_with (first
  | (refine atd 8 rfl ?_;refine AcZ AcW rfl rfl ?_;intro w1 rc hc1 hb1 hx1;have H1:=η (And.intro hc1 (And.intro hb1 hx1));have hcx:=HCX.o w1 hb1;clear hc1 hb1 hx1))
 refine (AkY base y B d ks (xb.toNat:Int) w1 (by exact H.o.step H1.o.2.1) hn).mono ?_
 rw [HI.o]
 rintro e w2 ⟨rfl,rfl⟩
 have LR:=η H1.o.2.2
 clear hcx
 go_wp2_with fail
 have B1:=η H1.o.2.1.drew
 have C1:Hid (Fc 176 w1.drew rc zeroF):=η H1.o.1
 have hrw:=HROW.o w1.drew B1.o
 have hcw:=HCX.o w1.drew B1.o
 refine wp_region_held_drew (S:=fun w'=>(w'.cell? ⟨y,0,none⟩=some (.slice (some ⟨g,0,none⟩) n d)∧w'.cell? ⟨g,i*2+1,none⟩=some (.slice KA 16 kc))∧w'.cell? ⟨g2,oo,none⟩=some (.int .u8 (xb.toNat:Int))) (by kernel_rfl) ⟨⟨hrw.1,hrw.2.1⟩,hcw⟩ (fun hHeld=>?_)
 (try dsimp only at hHeld)
 refine tkI 0 (v:=?v0_18) rfl ⟨by rfl,?h0_18⟩ hHeld ?_
 case h0_18=>intro w hSw;(try dsimp only at hSw);obtain ⟨⟨q0,q1⟩,q2⟩:=hSw;have q3:=HC1.o w;have q4:=HC2.o w;(try simp only [rxT]);go_simp <;> with_reducible rfl
 (try simp only [Act.put,rxT,sxT])
 refine tkI 1 (v:=?v1_19) rfl ⟨by rfl,?h1_19⟩ hHeld ?_
 case h1_19=>intro w hSw;(try dsimp only at hSw);obtain ⟨⟨q0,q1⟩,q2⟩:=hSw;have q3:=HC1.o w;have q4:=HC2.o w;(try simp only [rxT]);go_simp <;> with_reducible rfl
 (try simp only [Act.put,rxT,sxT])
 refine tkI 2 (v:=?v2_20) rfl ⟨by rfl,?h2_20⟩ hHeld ?_
 case h2_20=>intro w hSw;(try dsimp only at hSw);obtain ⟨⟨q0,q1⟩,q2⟩:=hSw;have q3:=HC1.o w;have q4:=HC2.o w;(try simp only [rxT]);go_simp <;> with_reducible rfl
 (try simp only [Act.put,rxT,sxT])
 refine tkI 3 (v:=?v3_21) rfl ⟨by rfl,?h3_21⟩ hHeld ?_
 case h3_21=>intro w hSw;(try dsimp only at hSw);obtain ⟨⟨q0,q1⟩,q2⟩:=hSw;have q3:=HC1.o w;have q4:=HC2.o w;(try simp only [rxT]);go_simp <;> with_reducible rfl
 (try simp only [Act.put,rxT,sxT])
 refine tkI 4 (v:=?v4_22) rfl ⟨by rfl,?h4_22⟩ hHeld ?_
 case h4_22=>intro w hSw;(try dsimp only at hSw);obtain ⟨⟨q0,q1⟩,q2⟩:=hSw;have q3:=HC1.o w;have q4:=HC2.o w;(try simp only [rxT]);go_simp <;> with_reducible rfl
 (try simp only [Act.put,rxT,sxT])
 refine tkI 5 (v:=?v5_23) rfl ⟨by rfl,?h5_23⟩ hHeld ?_
 case h5_23=>intro w hSw;(try dsimp only at hSw);obtain ⟨⟨q0,q1⟩,q2⟩:=hSw;have q3:=HC1.o w;have q4:=HC2.o w;(try simp only [rxT]);go_simp <;> with_reducible rfl
 (try simp only [Act.put,rxT,sxT])
 refine tkI 6 (v:=?v6_24) rfl ⟨by rfl,?h6_24⟩ hHeld ?_
 case h6_24=>intro w hSw;(try dsimp only at hSw);obtain ⟨⟨q0,q1⟩,q2⟩:=hSw;have q3:=HC1.o w;have q4:=HC2.o w;(try simp only [rxT]);go_simp <;> with_reducible rfl
 (try simp only [Act.put,rxT,sxT])
 refine tkI 7 (v:=?v7_25) rfl ⟨by rfl,?h7_25⟩ hHeld ?_
 case h7_25=>intro w hSw;(try dsimp only at hSw);obtain ⟨⟨q0,q1⟩,q2⟩:=hSw;have q3:=HC1.o w;have q4:=HC2.o w;(try simp only [rxT]);go_simp <;> with_reducible rfl
 (try simp only [Act.put,rxT,sxT])
 refine tkI 8 (v:=?v8_26) rfl ⟨by rfl,?h8_26⟩ hHeld ?_
 case h8_26=>intro w hSw;(try dsimp only at hSw);obtain ⟨⟨q0,q1⟩,q2⟩:=hSw;have q3:=HC1.o w;have q4:=HC2.o w;(try simp only [rxT]);go_simp <;> with_reducible rfl
 (try simp only [Act.put,rxT,sxT])
 refine tkI 9 (v:=?v9_27) rfl ⟨by rfl,?h9_27⟩ hHeld ?_
 case h9_27=>intro w hSw;(try dsimp only at hSw);obtain ⟨⟨q0,q1⟩,q2⟩:=hSw;have q3:=HC1.o w;have q4:=HC2.o w;(try simp only [rxT]);go_simp <;> with_reducible rfl
 (try simp only [Act.put,rxT,sxT])
 refine tkI 10 (v:=?v10_28) rfl ⟨by rfl,?h10_28⟩ hHeld ?_
 case h10_28=>intro w hSw;(try dsimp only at hSw);obtain ⟨⟨q0,q1⟩,q2⟩:=hSw;have q3:=HC1.o w;have q4:=HC2.o w;(try simp only [rxT]);go_simp <;> with_reducible rfl
 (try simp only [Act.put,rxT,sxT])
 refine tkI 11 (v:=?v11_29) rfl ⟨by rfl,?h11_29⟩ hHeld ?_
 case h11_29=>intro w hSw;(try dsimp only at hSw);obtain ⟨⟨q0,q1⟩,q2⟩:=hSw;have q3:=HC1.o w;have q4:=HC2.o w;(try simp only [rxT]);go_simp <;> with_reducible rfl
 (try simp only [Act.put,rxT,sxT])
 refine tkI 12 (v:=?v12_30) rfl ⟨by rfl,?h12_30⟩ hHeld ?_
 case h12_30=>intro w hSw;(try dsimp only at hSw);obtain ⟨⟨q0,q1⟩,q2⟩:=hSw;have q3:=HC1.o w;have q4:=HC2.o w;(try simp only [rxT]);go_simp <;> with_reducible rfl
 (try simp only [Act.put,rxT,sxT])
 refine tkI 13 (v:=?v13_31) rfl ⟨by rfl,?h13_31⟩ hHeld ?_
 case h13_31=>intro w hSw;(try dsimp only at hSw);obtain ⟨⟨q0,q1⟩,q2⟩:=hSw;have q3:=HC1.o w;have q4:=HC2.o w;(try simp only [rxT]);go_simp <;> with_reducible rfl
 (try simp only [Act.put,rxT,sxT])
 refine tkI 14 (v:=?v14_32) rfl ⟨by rfl,?h14_32⟩ hHeld ?_
 case h14_32=>intro w hSw;(try dsimp only at hSw);obtain ⟨⟨q0,q1⟩,q2⟩:=hSw;have q3:=HC1.o w;have q4:=HC2.o w;(try simp only [rxT]);go_simp <;> with_reducible rfl
 (try simp only [Act.put,rxT,sxT])
 refine tkI 15 (v:=?v15_33) rfl ⟨by rfl,?h15_33⟩ hHeld ?_
 case h15_33=>intro w hSw;(try dsimp only at hSw);obtain ⟨⟨q0,q1⟩,q2⟩:=hSw;have q3:=HC1.o w;have q4:=HC2.o w;(try simp only [rxT]);go_simp <;> with_reducible rfl
 (try simp only [Act.put,rxT,sxT])
 refine tkI 16 (v:=?v16_34) rfl ⟨by rfl,?h16_34⟩ hHeld ?_
 case h16_34=>intro w hSw;(try dsimp only at hSw);obtain ⟨⟨q0,q1⟩,q2⟩:=hSw;have q3:=HC1.o w;have q4:=HC2.o w;(try simp only [rxT]);go_simp <;> with_reducible rfl
 refine rdI 17 rfl (fun K hK=>?_)
 (try simp only [Act.put,rxT,sxT])
 go_simp
 (try rw [hwi])
 refine (CxK xb.toNat (by omega) A1 n1 c1 l1 _ (by exact (R1.o.step B1.o)) (by omega)).mono ?_
 rintro e w5 ⟨A5,c5,rfl,ho,hb⟩
 have O5:=η ho
 have B5:=η (AaJ B1.o hb)
 have C5:=η (C1.o.step hb)
 have hr5:=HROW.o w5 (AaJ B1.o hb)
 have K5:=η hr5.2.2
 have hc5:=HCX.o w5 (AaJ B1.o hb)
 clear ho hb
 (try go_wp2_with fail)
 refine hK.o _ _ ⟨⟨hr5.1,hr5.2.1⟩,hc5⟩ (fun hHeld=>?_)
 clear hK K
 refine rdI 18 rfl (fun K hK=>?_)
 (try simp only [Act.put,rxT,sxT])
 go_simp
 refine (EoQ KA (cutA (some ⟨g2,oo,none⟩) c2 1) (cutA (some ⟨g2,oo,none⟩) c2 13) A5 kc 12 (c2 - 1) (n2 - 13) (c2 - 13) (1+n1) c5 KY ((l2.drop 1).take 12) (l2.drop 13) (AnX (xb.toNat:Int) l1) w5 (by exact K5.o.rb) (by exact K5.o.cap.1) (by exact HP1.o w5 B5.o) (by exact HP2.o w5 B5.o) (by omega) (by exact O5.o.rb) (by omega) (by omega)).mono ?_
 intro e w6 hr
 obtain ⟨A6,c6,rfl,ho,hb⟩:=hr.to M L V HL.o.1 HL.o.2
 have O6:=η ho
 have B6:=η (AaJ B5.o hb)
 have C6:=η (C5.o.step hb)
 have hr6:=HROW.o w6 B6.o
 have hc6:=HCX.o w6 B6.o
 clear hr ho hb
 (try go_wp2_with fail)
 refine hK.o _ _ ⟨⟨hr6.1,hr6.2.1⟩,hc6⟩ (fun hHeld=>?_)
 clear hK K
 (try simp only [Act.put,rxT,sxT])
 have Ω:=η (fun (w:World) (hSw:(w.cell? ⟨y,0,none⟩=some (.slice (some ⟨g,0,none⟩) n d)∧w.cell? ⟨g,i*2+1,none⟩=some (.slice KA 16 kc))∧w.cell? ⟨g2,oo,none⟩=some (.int .u8 (xb.toNat:Int)))=>hSw)
 refine tkJ 19 rfl hHeld ?_
 refine tkJ 20 rfl hHeld ?_
 refine tkJ 21 rfl hHeld ?_
 refine tkJ 22 rfl hHeld ?_
 refine tkJ 23 rfl hHeld ?_
 (try simp only [Act.put,rxT,sxT])
 refine wpAnyH_done (by kernel_rfl) ?_ _
 have C7:Hid (Fc 176 w6 rc zeroF):=C6
 have B7:=η B6.o
 have O7:=η O6.o.rb
 clear hrw hcw hr5 hc5 hr6 hc6 hHeld
 by_cases hV:V=0
 rotate_left
 ·have d4:(V != 0)=true:=by simpa using hV
  have HE:Hid (T=zTk∧E=13):=η (by have h:=HR.o;rw [if_pos hV] at h;injection h with h1 h2;exact ⟨h1.symm,h2.symm⟩);clear hV
  go_wp2_with (first
   | (refine AbV AcW rfl (.tmp 8) (.tmp 60) rfl rc rfl zeroF zeroF rfl (by exact C7.o) ?_;intro wz hcz hoz hsz;have HZ:=η (And.intro hcz hoz);clear hcz hoz hsz))
  rw [HE.o.1,HE.o.2];exact bodyPost_ret (v:=.tuple #[zeroF.val,.int .i64 13]) (AeK AcW rfl _ _ rc zeroF.cells _ rfl rfl HZ.o.1 rfl) rfl ⟨zeroF,rfl,rfl,Fd.own.zero _ _,B7.o.trans (HZ.o.2.below (fun j hj=>by rw [List.mem_singleton.1 hj];exact LR.o) B7.o.size)⟩
 have d4:(V != 0)=false:=by rw [hV];rfl
 have hV0:=η hV
 clear hV
 go_wp2_with fail
 refine (CnK A6 M c6 L w6 (by exact O7.o) (by omega) (by exact O6.o.cap)).mono ?_
 rw [HUU.o]
 rintro e w8 ⟨f,rfl,hft,hfo,hb⟩
 simp only at hft ⊢
 have C8:=η (C7.o.step hb)
 have B8:=η (AaJ B7.o hb)
 have F8:=η (hfo.base_le B7.o.size)
 have HFT:=η hft
 have hfe:f.e=U.e:=by rw [←hft];rfl
 have HFE:=η hfe
 clear hfo hb C7 hft hfe
 by_cases hD:D=0
 rotate_left
 ·have d5:(D != 0)=true:=by simpa using hD
  have HE:Hid (T=zTk∧E=D):=η (by have h:=HR.o;rw [if_neg (by rw [hV0.o];decide),if_pos hD] at h;injection h with h1 h2;exact ⟨h1.symm,h2.symm⟩);clear hD
  go_wp2_with (first
   | (refine atd 13 rfl ?_;refine AcZ AcW rfl rfl ?_;intro wa p hc4 hb4 hx4;have HA:=η (And.intro hc4 (And.intro hb4 hx4));clear hc4 hb4 hx4)
   | (refine AbV AcW rfl (.tmp 13) (.tmp 64) rfl p rfl f zeroF rfl (by exact HA.o.1) ?_;intro wb hcb hob hsb;have hbb:=HA.o.2.1.trans (hob.below (fun j hj=>by rw [List.mem_singleton.1 hj];exact HA.o.2.2) HA.o.2.1.size);have c0:=hcb.c0;have CB:=η hcb;have RB2:=η (C8.o.step hbb);have BB:=η (AaJ B8.o hbb);have FB:=η (F8.o.step hbb);clear hcb hob hsb hbb HA)
   | (refine AbV AcW rfl (.tmp 8) (.tmp 68) rfl rc rfl zeroF zeroF rfl (by exact RB2.o) ?_;intro wz hcz hoz hsz;have HZ:=η (And.intro hcz hoz);clear hcz hoz hsz))
  rw [HE.o.1,HE.o.2];exact bodyPost_ret (v:=.tuple #[zeroF.val,.int .i64 D]) (AeK AcW rfl _ _ rc zeroF.cells _ rfl rfl HZ.o.1 rfl) rfl ⟨zeroF,rfl,rfl,Fd.own.zero _ _,BB.o.trans (HZ.o.2.below (fun j hj=>by rw [List.mem_singleton.1 hj];exact LR.o) BB.o.size)⟩
 have d5:(D != 0)=false:=by rw [hD];rfl
 have hD0:=η hD
 clear hD
 by_cases hlt:f.e<now
 ·have d6:decide (f.e<now)=true:=decide_eq_true hlt
  have HE:Hid (T=zTk∧E=20):=η (by have h:=HR.o;rw [if_neg (by rw [hV0.o];decide),if_neg (by rw [hD0.o];decide),if_pos (by have:=HFE.o;omega)] at h;injection h with h1 h2;exact ⟨h1.symm,h2.symm⟩);clear hlt
  go_wp2_with (first
   | (refine atd 13 rfl ?_;refine AcZ AcW rfl rfl ?_;intro wa p hc4 hb4 hx4;have HA:=η (And.intro hc4 (And.intro hb4 hx4));clear hc4 hb4 hx4)
   | (refine AbV AcW rfl (.tmp 13) (.tmp 64) rfl p rfl f zeroF rfl (by exact HA.o.1) ?_;intro wb hcb hob hsb;have hbb:=HA.o.2.1.trans (hob.below (fun j hj=>by rw [List.mem_singleton.1 hj];exact HA.o.2.2) HA.o.2.1.size);have c0:=hcb.c0;have CB:=η hcb;have RB2:=η (C8.o.step hbb);have BB:=η (AaJ B8.o hbb);have FB:=η (F8.o.step hbb);clear hcb hob hsb hbb HA)
   | (refine AbV AcW rfl (.tmp 8) (.tmp 74) rfl rc rfl zeroF zeroF rfl (by exact RB2.o) ?_;intro wz hcz hoz hsz;have HZ:=η (And.intro hcz hoz);clear hcz hoz hsz))
  rw [HE.o.1,HE.o.2];exact bodyPost_ret (v:=.tuple #[zeroF.val,.int .i64 20]) (AeK AcW rfl _ _ rc zeroF.cells _ rfl rfl HZ.o.1 rfl) rfl ⟨zeroF,rfl,rfl,Fd.own.zero _ _,BB.o.trans (HZ.o.2.below (fun j hj=>by rw [List.mem_singleton.1 hj];exact LR.o) BB.o.size)⟩
 have d6:decide (f.e<now)=false:=decide_eq_false hlt
 have HE:Hid (T=U∧E=0):=η (by have h:=HR.o;rw [if_neg (by rw [hV0.o];decide),if_neg (by rw [hD0.o];decide),if_neg (by have:=HFE.o;omega)] at h;injection h with h1 h2;exact ⟨h1.symm,h2.symm⟩)
 clear hlt
 go_wp2_with (first
  | (refine atd 13 rfl ?_;refine AcZ AcW rfl rfl ?_;intro wa p hc4 hb4 hx4;have HA:=η (And.intro hc4 (And.intro hb4 hx4));clear hc4 hb4 hx4)
  | (refine AbV AcW rfl (.tmp 13) (.tmp 64) rfl p rfl f zeroF rfl (by exact HA.o.1) ?_;intro wb hcb hob hsb;have hbb:=HA.o.2.1.trans (hob.below (fun j hj=>by rw [List.mem_singleton.1 hj];exact HA.o.2.2) HA.o.2.1.size);have c0:=hcb.c0;have CB:=η hcb;have RB2:=η (C8.o.step hbb);have BB:=η (AaJ B8.o hbb);have FB:=η (F8.o.step hbb);clear hcb hob hsb hbb HA)
  | (with_reducible show wpList _ _ _ (⟨_,.load _ (.tmp 13),_,_,_,none⟩::_) _ _;refine AjJ AcW rfl (.tmp 13) rfl p rfl f (by exact CB.o) ?_)
  | (refine AbV AcW rfl (.tmp 8) (.tmp 75) rfl rc rfl f zeroF rfl (by exact RB2.o) ?_;intro wz hcz hoz hsz;have HZ:=η (And.intro hcz hoz);clear hcz hoz hsz))
 rw [HE.o.1,HE.o.2]
 exact bodyPost_ret (v:=.tuple #[f.val,.int .i64 0]) (AeK AcW rfl _ _ rc f.cells _ rfl rfl HZ.o.1 rfl) rfl ⟨f,rfl,HFT.o,FB.o.off HZ.o.2 (RB2.o.blk.nob (by decide)),BB.o.trans (HZ.o.2.below (fun j hj=>by rw [List.mem_singleton.1 hj];exact LR.o) BB.o.size)⟩
theorem BaK (base y:Nat) (B:YA) (d:Nat) (ks:List KR) (w:World) (h:Rs base w y B d ks) (hn:ks.length≤1000) (A1 A2:YA) (n1 c1 n2 c2:Nat) (l1 l2:YB) (h1:RB w w.heap.size A1 n1 l1) (h2:RB w w.heap.size A2 n2 l2) (m2:n2≤c2) (bn1:n1≤65000) (bn2:n2≤65000) (now:Nat) (ok:okR (rgK ks)) (T:Tk) (E:Int) (hR:AdQ (rgK ks) l1 l2 now=(T,E)) :
  Calls prog 108 #[.pointer (some ⟨y,0,none⟩),.slice A1 n1 c1,.slice A2 n2 c2,.int .u64 (now:Int)] w (DeW (T,E) w):=by
 have e1:=h1.len
 have e2:=h2.len
 unfold AdQ at hR
 by_cases hs:n2<29
 ·rw [if_pos (by omega)] at hR
  rw [←hR];exact DhY base y B d ks w h hn A1 A2 n1 c1 n2 c2 l1 l2 h1 h2 m2 bn1 bn2 now hs
 rw [if_neg (by omega)] at hR
 cases hv:hasR (rgK ks) (fstT l2)
 ·rw [if_pos hv] at hR
  rw [←hR];exact EaY base y B d ks w h hn A1 A2 n1 c1 n2 c2 l1 l2 h1 h2 m2 bn1 bn2 now (by omega) hv
 rw [if_neg (by rw [hv];decide)] at hR
 by_cases hb:64<n1
 ·rw [if_pos (.inl (by omega))] at hR
  rw [←hR];exact CgJ base y B d ks w h hn A1 A2 n1 c1 n2 c2 l1 l2 h1 h2 m2 bn1 bn2 now (by omega) hv hb
 by_cases hb2:4096<n2
 ·rw [if_pos (.inr (by omega))] at hR
  rw [←hR];exact CnV base y B d ks w h hn A1 A2 n1 c1 n2 c2 l1 l2 h1 h2 m2 bn1 bn2 now (by omega) hv (by omega) hb2
 rw [if_neg (by omega)] at hR
 exact CxJ base y B d ks w h hn A1 A2 n1 c1 n2 c2 l1 l2 h1 h2 m2 bn1 bn2 now (by omega) hv (AwV ok hv) (by omega) (by omega) T E hR
end Go.Proofs.YthppjgdnibfefaaGreat
namespace Go.Proofs.YthppjgdnibfefaaGreat
open Tryz
attribute [local irreducible] wsW AeW keyF ArX AvQ AiY BoJ aftL encL tableL AoQ blkL ApQ putL numL xorL AlZ fstL hkL tagL trnL bB sumG nB ApW AmK tagR numS AfY endS AhY BcX AjZ AdQ seqT tkB tkTxt zr12 zr16
open Go.RowKit
attribute [local go_sem ↓] CkQ
structure AX (v:World) (x:Nat) (A:YA) (c:Nat) (es:Ens) (N F:Nat) (rows:List Rw) (vars:List (Nat×Fd)) (w:World):Prop where
 bx:BX v x A c es N F rows w
 var:∀ b∈vars,Fc 77 w b.1 b.2∧∀ e∈es,e.1.o b.1
section
variable {v w w' w2 w3:World} {x N F N' F' n c d p M:Nat} {A B:YA} {es:Ens} {rows rows':List Rw} {vars vars':List (Nat×Fd)} {l L:YB} {E:Int} {r:Ending} {e0:EB×Int} {T:Tk} {f:Fd}
end
end Go.Proofs.YthppjgdnibfefaaGreat
namespace Go.Proofs.YthppjgdnibfefaaGreat
open Tryz
attribute [local irreducible] wsW AeW keyF ArX AvQ AiY BoJ aftL encL tableL AoQ blkL ApQ putL numL xorL AlZ fstL hkL tagL trnL bB sumG nB ApW AmK tagR numS AfY endS AhY BcX AjZ AdQ zr12 zr16
open Go.RowKit
attribute [local go_sem ↓] ex_ldCr
