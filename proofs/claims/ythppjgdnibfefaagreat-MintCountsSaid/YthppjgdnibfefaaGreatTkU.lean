import Derived.Test.YthppjgdnibfefaaGreatTkL
import Derived.Test.YthppjgdnibfefaaGreatScanQ
set_option linter.all false
set_option maxRecDepth 100000
set_option maxHeartbeats 32000000
namespace Go.Proofs.YthppjgdnibfefaaGreat
open Tryz
open Go.RowKit
attribute [local irreducible] putS putN AfJ BuZ putL numS AfY endS numL
attribute [local go_sem ↓] CkQ DcZ CeK CeJ
theorem AsW (f:Fd) (w:World) (hf:f.ok w) (v:Bool) (hv:decide (20<f.o.length∨20<f.s.length)=v) :
  Calls prog 88 #[f.val] w fun e w'=>e=.returned (.bool v)∧Below w.heap.size w w':=by
 have bo:f.o.length≤9223372036854775807:=by have h1:=hf.co.1;have h2:=hf.co.2;unfold maxLen at h2;omega
 have bs:f.s.length≤9223372036854775807:=by have h1:=hf.cs.1;have h2:=hf.cs.2;unfold maxLen at h2;omega
 clear hf
 by_cases h1:(f.o.length:Int)>20
 ·obtain rfl:v=true:=by rw [←hv];exact decide_eq_true (by omega)
  have d1:decide ((f.o.length:Int)>20)=true:=decide_eq_true h1;clear hv h1;go_enter func88,ntmps88
  go_wp2_with (first
   | (refine AdK rfl _ (.tmp 0) rfl f rfl ?_;intro w1 q hc1 hb1 hx1;have B1:=η hb1;have c1:=hc1.c1;have c2:=hc1.c2;clear hc1 hb1 hx1))
  go_ret;exact ⟨rfl,B1.o⟩
 by_cases h2:(f.s.length:Int)>20
 ·obtain rfl:v=true:=by rw [←hv];exact decide_eq_true (by omega)
  have d1:decide ((f.o.length:Int)>20)=false:=decide_eq_false h1;have d2:decide ((f.s.length:Int)>20)=true:=decide_eq_true h2;clear hv h1 h2;go_enter func88,ntmps88
  go_wp2_with (first
   | (refine AdK rfl _ (.tmp 0) rfl f rfl ?_;intro w1 q hc1 hb1 hx1;have B1:=η hb1;have c1:=hc1.c1;have c2:=hc1.c2;clear hc1 hb1 hx1))
  go_ret;exact ⟨rfl,B1.o⟩
 ·obtain rfl:v=false:=by rw [←hv];exact decide_eq_false (by omega)
  have d1:decide ((f.o.length:Int)>20)=false:=decide_eq_false h1;have d2:decide ((f.s.length:Int)>20)=false:=decide_eq_false h2;clear hv h1 h2;go_enter func88,ntmps88
  go_wp2_with (first
   | (refine AdK rfl _ (.tmp 0) rfl f rfl ?_;intro w1 q hc1 hb1 hx1;have B1:=η hb1;have c1:=hc1.c1;have c2:=hc1.c2;clear hc1 hb1 hx1))
  go_ret;exact ⟨rfl,B1.o⟩
structure TB (v:World) (x q:Nat) (A:YA) (f:Fd) (s:Int×List UInt8) (w:World):Prop where
 bel:Below v.heap.size v w
 lx:v.heap.size≤x
 wr:WrR w x v.heap.size A s
 fd:Fc 77 w q f
section
variable {v w w':World} {x q n:Nat} {A B:YA} {f:Fd} {s s':Int×List UInt8} {e:Ending} {val:Value} {l:YB}
theorem TB.step (k:TB v x q A f s w) (hb:Below w.heap.size w w'):TB v x q A f s w':=⟨AaJ k.bel hb,k.lx,k.wr.step hb,k.fd.step hb⟩
theorem TB.away (k:TB v x q A f s w) (r:RB v v.heap.size B n l):0<n→∀ g o,B=some ⟨g,o,none⟩→g∉blkO A:=fun hn g o e hg=>by
 obtain ⟨g',o',e',h1,_⟩:=r.2 hn
 rw [e] at e'
 injection e' with e'
 injection e' with e1
 subst e1
 have h2:=(k.wr.own g hg).2.1
 omega
theorem TB.ret (k:TB v x q A f s w) (r:RetW WrR x v.heap.size A s' val w e w'):e=.returned val∧∃ A',TB v x q A' f s' w':=by
 obtain ⟨he,A',h1,h2,h3⟩:=r
 refine ⟨he,A',k.bel.trans (h2.below (fun j hj=>?_) k.bel.size),k.lx,h3,k.fd.oth h2 (fun hm=>?_)⟩
 ·rcases List.mem_cons.1 hj with rfl | hj
  ·exact k.lx
  ·exact (k.wr.own j hj).2.1
 ·rcases List.mem_cons.1 hm with e1 | hm
  ·obtain ⟨n,c,t,_⟩:=k.wr
   exact k.fd.nex t (by decide) e1
  ·obtain ⟨a,ea,hk⟩:=AwQ hm
   obtain ⟨n,c,_,t⟩:=k.wr;exact (k.fd.blk.nob (by decide)).own t a.block 0 (by rw [ea];exact congrArg some (t.spot a ea).1) (by simp [hk])
end
theorem putN_8 (v:Nat) (hv:v<2 ^ 64):putN v 8=(putL v 8,0):=by
 have hd:AfQ v 8=0:=by show v / 256 / 256 / 256 / 256 / 256 / 256 / 256 / 256=0;omega
 unfold putN
 exact if_pos ⟨by decide,by decide,hd⟩
theorem DpJ (p:YB) (h:p.length≤255):AfJ p=(lenL p,0):=by unfold AfJ;exact if_neg (by omega)
theorem EjQ (f:Fd) (w:World) (hf:f.ok w) (hl:20<f.o.length∨20<f.s.length) :
  Calls prog 181 #[f.val] w (AhW 0 [] 15 w):=by
 have HF:=η hf
 have HL:=η hl
 clear hf hl
 go_enter func181,ntmps181
 go_wp2_with (first
  | (refine AdK rfl _ (.tmp 0) rfl f rfl ?_;intro w1 q hc1 hb1 hx1;have H1:=η (And.intro hc1 hb1);clear hc1 hb1 hx1)
  | (refine AjJ AfX rfl (.tmp 1) rfl q rfl f (by exact H1.o.1) ?_))
 refine (AsW f w1 (by exact HF.o.step H1.o.2) true (decide_eq_true HL.o)).mono ?_
 rintro e w2 ⟨rfl,hb⟩
 have B2:=η (AaJ H1.o.2 hb)
 clear hb
 go_wp2_with fail
 go_ret2
 exact ⟨none,0,rfl,OwnB.nil_ _ _,B2.o⟩
theorem DyZ (f:Fd) (w:World) (hf:f.ok w) (hl:f.tk.few) :
  Calls prog 181 #[f.val] w (AhW (10+f.o.length+f.s.length) (rawT f.tk) 0 w):=by
 have HF:=η hf
 have l1:f.o.length≤20:=hl.1
 have l2:f.s.length≤20:=hl.2
 have hp1:putS (putN f.e 8).1 (putN f.e 8).2 (0,[])=(0,putL f.e 8):=by rw [putN_8 _ hf.e,AyQ];rfl
 have hp2:putS (AfJ f.o).1 (AfJ f.o).2 (0,putL f.e 8)=(0,putL f.e 8++lenL f.o):=by rw [DpJ _ (by omega),AyQ]
 have hp3:putS (AfJ f.s).1 (AfJ f.s).2 (0,putL f.e 8++lenL f.o)=(0,rawT f.tk):=by rw [DpJ _ (by omega),AyQ];unfold rawT;rw [List.append_assoc];rfl
 have P1:=η hp1
 have P2:=η hp2
 have P3:=η hp3
 have PL8:Hid ((putL f.e 8).length≤10):=η (by rw [AeY];omega)
 have PL9:Hid ((putL f.e 8++lenL f.o).length≤100):=η (by rw [List.length_append,AeY];unfold lenL;rw [List.length_cons];omega)
 have HRL:Hid ((rawT f.tk).length=10+f.o.length+f.s.length):=η (AqJ f.tk)
 have he64:=hf.e
 have HE64:Hid (f.e≤18446744073709551615):=η (by omega)
 clear hf hl hp1 hp2 hp3 he64
 obtain ⟨R,HR⟩:∃ R,Hid (rawT f.tk=R):=⟨_,η rfl⟩
 rw [HR.o] at P3 HRL ⊢
 go_enter func181,ntmps181
 go_wp2_with (first
  | (refine AdK rfl _ (.tmp 0) rfl f rfl ?_;intro w1 q hc1 hb1 hx1;have H1:=η (And.intro hc1 hb1);clear hc1 hb1 hx1)
  | (refine AjJ AfX rfl (.tmp 1) rfl q rfl f (by exact H1.o.1) ?_))
 refine (AsW f w1 (by exact HF.o.step H1.o.2) false (decide_eq_false (by omega))).mono ?_
 rintro e w2 ⟨rfl,hb⟩
 have B2:=η (AaJ H1.o.2 hb)
 have C2:=η (H1.o.1.step hb)
 clear hb H1
 go_wp2_with fail
 have HCD:Fc 77 w2.drew q f:=C2.o
 refine wp_region_held_drew (S:=fun w'=>Fc 77 w' q f) (by kernel_rfl) HCD (fun hHeld=>?_)
 (try dsimp only at hHeld)
 have Ω:=η (fun (w:World) (hSw:Fc 77 w q f)=>an hSw.c0 (an hSw.c1 hSw.c2))
 refine tkJ 1 rfl hHeld ?_
 refine tkJ 2 rfl hHeld ?_
 refine tkJ 4 rfl hHeld ?_
 refine tkJ 5 rfl hHeld ?_
 refine tkJ 7 rfl hHeld ?_
 refine tkJ 8 rfl hHeld ?_
 refine rdI 0 rfl (fun K hK=>?_)
 (try simp only [Act.put,rxT,sxT])
 go_simp
 refine (BxZ _ w.heap.size (by exact B2.o.size)).mono ?_
 rintro e w3 ⟨x,rfl,hx,hb3,hw⟩
 have K3:Hid (TB w x q none f (0,[]) w3):=η ⟨B2.o.trans (((Below.refl w2.heap.size w2).drew.trans hb3).mono B2.o.size),Nat.le_trans B2.o.size hx,hw,HCD.step hb3⟩
 clear hx hb3 hw
 (try go_wp2_with fail)
 refine hK.o _ _ K3.o.fd (fun hHeld=>?_)
 clear hK K
 refine rdI 3 rfl (fun K hK=>?_)
 (try simp only [Act.put,rxT,sxT])
 go_simp
 refine (BkY x w.heap.size none f.e 8 _ _ K3.o.wr K3.o.bel.size (by simp) HE64.o).mono ?_
 rw [P1.o]
 intro e w4 k
 obtain ⟨rfl,A4,k4⟩:=K3.o.ret k
 have K4:=η k4
 clear k k4
 (try go_wp2_with fail)
 refine hK.o _ _ K4.o.fd (fun hHeld=>?_)
 clear hK K
 refine rdI 6 rfl (fun K hK=>?_)
 (try simp only [Act.put,rxT,sxT])
 go_simp
 refine (AxW x w.heap.size A4 f.A f.o.length f.c f.o _ _ K4.o.wr (HF.o.o.step K4.o.bel) (K4.o.away HF.o.o) (by omega) K4.o.bel.size (Nat.le_trans PL8.o (by omega))).mono ?_
 rw [P2.o]
 intro e w5 k
 obtain ⟨rfl,A5,k5⟩:=K4.o.ret k
 have K5:=η k5
 clear k k5
 (try go_wp2_with fail)
 refine hK.o _ _ K5.o.fd (fun hHeld=>?_)
 clear hK K
 refine rdI 9 rfl (fun K hK=>?_)
 (try simp only [Act.put,rxT,sxT])
 go_simp
 refine (AxW x w.heap.size A5 f.B f.s.length f.d f.s _ _ K5.o.wr (HF.o.s.step K5.o.bel) (K5.o.away HF.o.s) (by omega) K5.o.bel.size (Nat.le_trans PL9.o (by omega))).mono ?_
 rw [P3.o]
 intro e w6 k
 obtain ⟨rfl,A6,k6⟩:=K5.o.ret k
 have K6:=η k6
 clear k k6
 (try go_wp2_with fail)
 refine hK.o _ _ K6.o.fd (fun hHeld=>?_)
 clear hK K
 refine rdI 10 rfl (fun K hK=>?_)
 (try simp only [Act.put,rxT,sxT])
 go_simp
 refine (ByQ x w.heap.size A6 _ _ K6.o.wr (by show R.length≤_;rw [HRL.o];omega)).mono ?_
 rw [CrK R]
 rintro e w7 ⟨A7,c7,rfl,ho7,hb7⟩
 simp only [HRL.o] at ho7 ⊢
 have K7:=η (K6.o.step hb7)
 have O7:=η (ho7.base_le K6.o.bel.size)
 clear ho7 hb7
 (try go_wp2_with fail)
 refine hK.o _ _ K7.o.fd (fun hHeld=>?_)
 clear hK K
 refine tkJ 11 rfl hHeld ?_
 refine tkJ 12 rfl hHeld ?_
 refine tkJ 13 rfl hHeld ?_
 refine tkJ 14 rfl hHeld ?_
 (try simp only [Act.put,rxT,sxT])
 refine wpAnyH_done (by kernel_rfl) ?_ _
 go_wp2_with fail
 go_ret2
 exact ⟨A7,c7,rfl,O7.o,K7.o.bel⟩
theorem CwJ (A:YA) (n c:Nat) (l:YB) (w:World) (h:RB w w.heap.size A n l) (hn:n≤9223372036854775807) (z:Int) (b:Bool) (hv:seqT l=(z,b)) :
  Calls prog 37 #[.slice A n c] w fun e w'=>e=.returned (.tuple #[.int .i64 z,.bool b])∧w=w':=by
 have hlen:=h.len
 unfold seqT at hv
 rcases Nat.eq_zero_or_pos n with h0 | h0
 ·subst h0
  rw [if_neg (by intro hh;exact hh.1 (List.eq_nil_of_length_eq_zero hlen))] at hv;injection hv with h1 h2;subst h1 h2;go_enter func37,ntmps37;go_wp2_with fail;go_ret2;exact ⟨rfl,rfl⟩
 ·obtain ⟨g,o,rfl,hg,x,hx,hc⟩:=h.at_ h0
  rw [Nat.add_zero] at hc;have hd:((n:Int) == 0)=false:=by rw [beq_eq_false_iff_ne];omega
  have hf:fstT l=(x.toNat:Int):=by
   unfold fstT;rw [List.headD_eq_head?_getD,List.head?_eq_getElem?,hx];rfl
  have hne:l≠[]:=fun e=>by rw [e] at hlen;simp at hlen;omega
  have hx8:=x.toNat_lt;by_cases hq:(x.toNat:Int)>127
  ·rw [if_neg (by rw [hf];omega)] at hv
   injection hv with h1 h2;subst h1 h2;have d2:decide ((x.toNat:Int)>127)=true:=decide_eq_true hq;clear hq hf hx h;go_enter func37,ntmps37;go_wp2_with fail;go_ret2;exact ⟨rfl,rfl⟩
  ·rw [if_pos ⟨hne,by rw [hf];omega⟩] at hv
   injection hv with h1 h2;subst h1 h2;rw [hf];have d2:decide ((x.toNat:Int)>127)=false:=decide_eq_false hq;clear hq hf hx h;go_enter func37,ntmps37;go_wp2_with fail;go_ret2;exact ⟨rfl,rfl⟩
theorem CtQ {b O S:YB} {N0:Nat} {E:Int} {s1 s2 s3 s4:Int×List UInt8} (h1:numS 8 (0,b)=(N0,s1)) (h2:AfY s1=(O,s2)) (h3:AfY s2=(S,s3)) (h4:endS s3=(E,s4.2)):AhY b=if E=0 then (if 20<O.length∨20<S.length then (zTk,10) else (⟨N0,O,S⟩,0)) else (zTk,E):=by
 unfold AhY
 simp only [h1,h2,h3,h4]
structure UB (v:World) (rc x:Nat) (s:Int×List UInt8) (w:World):Prop where
 bel:Below v.heap.size v w
 lr:v.heap.size≤rc
 lx:v.heap.size≤x
 rc:Fc 77 w rc zeroF
 rd:RdR w x s
section
variable {v w w':World} {rc x:Nat} {s s':Int×List UInt8} {f:Fd}
theorem UB.step (k:UB v rc x s w) (hb:Below w.heap.size w w'):UB v rc x s w':=⟨AaJ k.bel hb,k.lr,k.lx,k.rc.step hb,k.rd.step hb⟩
theorem Fc.nerd {y:Nat} (h:Fc 77 w y f) (k:RdR w x s):y≠x:=by obtain ⟨A,n,c,t,_⟩:=k;exact h.nex t (by decide)
theorem UB.call (k:UB v rc x s w) (ho:Oth [x] w w') (hr:RdR w' x s'):UB v rc x s' w' :=
 ⟨k.bel.trans (ho.below (fun j hj=>by rw [List.mem_singleton.1 hj];exact k.lx) k.bel.size),k.lr,k.lx,k.rc.oth ho (by simpa using k.rc.nerd k.rd),hr⟩
end
theorem CtV (A:YA) (n c:Nat) (l:YB) (w:World) (hr0:RB w w.heap.size A n l) (hn:n≤1000000) :
  Calls prog 55 #[.slice A n c] w (DeW (AhY l) w):=by
 have H0:=η hr0
 clear hr0
 obtain ⟨⟨N0,s1⟩,h1⟩:∃ r,numS 8 (0,l)=r:=⟨_,rfl⟩
 obtain ⟨⟨O,s2⟩,h2⟩:∃ r,AfY s1=r:=⟨_,rfl⟩
 obtain ⟨⟨S,s3⟩,h3⟩:∃ r,AfY s2=r:=⟨_,rfl⟩
 obtain ⟨⟨E,s4⟩,h4⟩:∃ r,endS s3=r:=⟨_,rfl⟩
 have HX:=η (CtQ (s4:=(0,s4)) h1 h2 h3 h4)
 have HN0:Hid (N0<2 ^ 64):=η (by have:=EsY 8 (0,l);rw [h1] at this;exact this)
 have S1:=η h1
 have S2:=η h2
 have S3:=η h3
 have S4:=η h4
 clear h1 h2 h3 h4
 obtain ⟨X,HXX⟩:∃ X,Hid (AhY l=X):=⟨_,η rfl⟩
 rw [HXX.o] at HX ⊢
 go_enter func55,ntmps55
 go_wp2_with (first
  | (refine atd 2 rfl ?_;refine AcZ AfX rfl rfl ?_;intro w1 rc hc1 hb1 hx1;have H1:=η (And.intro hc1 (And.intro hb1 hx1));clear hc1 hb1 hx1))
 refine (DpY A n c l w1 (by exact H0.o.step H1.o.2.1) hn).mono ?_
 rintro e w2 ⟨x,rfl,hx,hb,hr⟩
 have K2:Hid (UB w rc x (0,l) w2):=η ⟨AaJ H1.o.2.1 hb,H1.o.2.2,Nat.le_trans H1.o.2.1.size hx,H1.o.1.step hb,hr⟩
 clear hx hb hr H1
 go_wp2_with fail
 refine (BvZ x 8 (0,l) w2 (by exact K2.o.rd) (by decide)).mono ?_
 rw [S1.o]
 rintro e w3 ⟨rfl,ho,hr⟩
 have K3:=η (K2.o.call ho hr)
 clear ho hr K2
 go_wp2_with fail
 refine (BgK x s1 w3 (by exact K3.o.rd)).mono ?_
 rw [S2.o]
 rintro e w4 ⟨A4,n4,c4,rfl,ho4,ho,hr⟩
 have K4:=η (K3.o.call ho hr)
 have hl4:=ho4.len
 subst hl4
 have O4:=η (ho4.base_le K3.o.bel.size)
 clear ho hr ho4 K3
 go_wp2_with fail
 refine (BgK x s2 w4 (by exact K4.o.rd)).mono ?_
 rw [S3.o]
 rintro e w5 ⟨A5,n5,c5,rfl,ho5,ho,hr⟩
 have K5:=η (K4.o.call ho hr)
 have hl5:=ho5.len
 subst hl5
 obtain ⟨F,HFF⟩:∃ F:Fd,Hid (F=⟨N0,A4,c4,O,A5,c5,S⟩):=⟨_,η rfl⟩
 have HV:Hid (F.val=.agg #[.int .u64 (N0:Int),.slice A4 O.length c4,.slice A5 S.length c5]):=η (by rw [HFF.o];rfl)
 have O5:Hid (F.own w5 w.heap.size):=η (by rw [HFF.o];exact ⟨HN0.o,O4.o.offS ho K4.o.rd.nob,ho5.base_le K4.o.bel.size⟩)
 have HFT:Hid (F.tk=⟨N0,O,S⟩):=η (by rw [HFF.o];rfl)
 clear ho hr ho5 K4 O4
 go_wp2_with (first
  | (refine atd 5 rfl ?_;refine AcZ AfX rfl rfl ?_;intro w6 p hc6 hb6 hx6;have H6:=η (And.intro hc6 (And.intro hb6 hx6));clear hc6 hb6 hx6)
  | (refine AbV AfX rfl (.tmp 5) (.tmp 15) rfl p rfl F zeroF (by exact HV.o.symm) (by exact H6.o.1) ?_;intro w7 hc7 ho7 hs7;have hb7:=H6.o.2.1.trans (ho7.below (fun j hj=>by rw [List.mem_singleton.1 hj];exact H6.o.2.2) H6.o.2.1.size);have K7:=η (K5.o.step hb7);have C7:=η hc7;have O7:=η (O5.o.step hb7);have LP:Hid (w.heap.size≤p∧rc<p):=η ⟨Nat.le_trans K5.o.bel.size H6.o.2.2,Nat.lt_of_lt_of_le K5.o.rc.blk.lt H6.o.2.2⟩;clear hc7 ho7 hs7 hb7 H6 K5 O5))
 refine (end_any x s3 w7 (by exact K7.o.rd)).mono ?_
 rw [S4.o]
 rintro e w8 ⟨rfl,ho,hr⟩
 have C8:=η (C7.o.oth ho (by simpa using C7.o.nerd K7.o.rd))
 have K8:=η (K7.o.call ho hr)
 have O8:=η (O7.o.off ho K7.o.rd.nob)
 clear ho hr K7 C7 O7
 by_cases hE:E=0
 rotate_left
 ·have hb:(E != 0)=true:=by simpa using hE
  have HE:Hid (X=(zTk,E)):=η (by rw [HX.o,if_neg hE])
  go_wp2_with (first
   | (refine AbV AfX rfl (.tmp 2) (.tmp 20) rfl rc rfl zeroF zeroF rfl (by exact K8.o.rc) ?_;intro w9 hc9 ho9 hs9;have H9:=η (And.intro hc9 ho9);clear hc9 ho9 hs9))
  rw [HE.o];exact bodyPost_ret (v:=.tuple #[zeroF.val,.int .i64 E]) (AeK AfX rfl _ _ rc zeroF.cells _ rfl rfl H9.o.1 rfl) rfl ⟨zeroF,rfl,rfl,Fd.own.zero _ _,K8.o.bel.trans (H9.o.2.below (fun j hj=>by rw [List.mem_singleton.1 hj];exact K8.o.lr) K8.o.bel.size)⟩
 have hb:(E != 0)=false:=by rw [hE];rfl
 have HFO:Hid (F.o=O∧F.s=S):=η (by rw [HFF.o];exact ⟨rfl,rfl⟩)
 go_wp2_with (first
  | (refine AjJ AfX rfl (.tmp 5) rfl p rfl F (by exact C8.o) ?_))
 by_cases hl:20<O.length∨20<S.length
 ·have HE:Hid (X=(zTk,10)):=η (by rw [HX.o,if_pos hE,if_pos hl])
  refine (AsW F w8 (by exact O8.o.ok) true (decide_eq_true (by rw [HFO.o.1,HFO.o.2];exact hl))).mono ?_;rintro e w9 ⟨rfl,hb9⟩;have K9:=η (K8.o.step hb9);clear hb9 hl
  go_wp2_with (first
   | (refine AbV AfX rfl (.tmp 2) (.tmp 24) rfl rc rfl zeroF zeroF rfl (by exact K9.o.rc) ?_;intro wa hca hoa hsa;have HA:=η (And.intro hca hoa);clear hca hoa hsa))
  rw [HE.o];exact bodyPost_ret (v:=.tuple #[zeroF.val,.int .i64 10]) (AeK AfX rfl _ _ rc zeroF.cells _ rfl rfl HA.o.1 rfl) rfl ⟨zeroF,rfl,rfl,Fd.own.zero _ _,K9.o.bel.trans (HA.o.2.below (fun j hj=>by rw [List.mem_singleton.1 hj];exact K9.o.lr) K9.o.bel.size)⟩
 ·have HE:Hid (X=(⟨N0,O,S⟩,0)):=η (by rw [HX.o,if_pos hE,if_neg hl])
  refine (AsW F w8 (by exact O8.o.ok) false (decide_eq_false (by rw [HFO.o.1,HFO.o.2];exact hl))).mono ?_;rintro e w9 ⟨rfl,hb9⟩;have K9:=η (K8.o.step hb9);have C9:=η (C8.o.step hb9);have O9:=η (O8.o.step hb9);clear hb9 hl
  go_wp2_with (first
   | (refine AjJ AfX rfl (.tmp 5) rfl p rfl F (by exact C9.o) ?_)
   | (refine AbV AfX rfl (.tmp 2) (.tmp 25) rfl rc rfl F zeroF rfl (by exact K9.o.rc) ?_;intro wa hca hoa hsa;have HA:=η (And.intro hca hoa);clear hca hoa hsa))
  rw [HE.o];exact bodyPost_ret (v:=.tuple #[F.val,.int .i64 0]) (AeK AfX rfl _ _ rc F.cells _ rfl rfl HA.o.1 rfl) rfl ⟨F,rfl,HFT.o,O9.o.off HA.o.2 (K9.o.rc.blk.nob (by decide)),K9.o.bel.trans (HA.o.2.below (fun j hj=>by rw [List.mem_singleton.1 hj];exact K9.o.lr) K9.o.bel.size)⟩
end Go.Proofs.YthppjgdnibfefaaGreat
namespace Go.Proofs.YthppjgdnibfefaaGreat
open Tryz
open Go.RowKit
attribute [local irreducible] putS putN AfJ BuZ putL numS AfY endS numL
attribute [local go_sem ↓] CkQ DcZ CeK CeJ
theorem EuX (n:Nat) (hn:n≤255):#[Value.int .u8 (n:Int)]=(bvs [UInt8.ofNat n]).toArray:=by
 simp only [bvs,bv,List.map_cons,List.map_nil,UInt8.toNat_ofNat',Array.mk.injEq,List.cons.injEq,Value.int.injEq,true_and,and_true]
 omega
theorem Fc.app {T:TypeId} {w w':World} {x base n c:Nat} {f:Fd} {A:YA} {l:YB} (k:Fc T w x f) (hT:T≠5) (r:OwnB w base A n c l) (ho:Oth (blkO A) w w'):Fc T w' x f:=k.blk.app hT r ho
theorem DhJ (f:Fd) (w:World) (hf:f.ok w) (h1:20<f.o.length) :
  Calls prog 173 #[f.val] w (AhW 0 [] 15 w):=by
 have bo:f.o.length≤9223372036854775807:=by have h1:=hf.co.1;have h2:=hf.co.2;unfold maxLen at h2;omega
 have bs:f.s.length≤9223372036854775807:=by have h1:=hf.cs.1;have h2:=hf.cs.2;unfold maxLen at h2;omega
 have d2:decide ((f.o.length:Int)>20)=true:=decide_eq_true (by omega)
 clear hf h1
 go_enter func173,ntmps173
 go_wp2_with (first
  | (refine AdK rfl _ (.tmp 0) rfl f rfl ?_;intro w1 q hc1 hb1 hx1;have B1:=η hb1;have c1:=hc1.c1;have c2:=hc1.c2;clear hc1 hb1 hx1))
 go_ret2
 exact ⟨none,0,rfl,OwnB.nil_ _ _,B1.o⟩
theorem DgZ (f:Fd) (w:World) (hf:f.ok w) (h0:f.o.length≤20) (h1:20<f.s.length) :
  Calls prog 173 #[f.val] w (AhW 0 [] 15 w):=by
 have bo:f.o.length≤9223372036854775807:=by have h1:=hf.co.1;have h2:=hf.co.2;unfold maxLen at h2;omega
 have bs:f.s.length≤9223372036854775807:=by have h1:=hf.cs.1;have h2:=hf.cs.2;unfold maxLen at h2;omega
 have d1:decide ((f.o.length:Int)>20)=false:=decide_eq_false (by omega)
 have d2:decide ((f.s.length:Int)>20)=true:=decide_eq_true (by omega)
 clear hf h1 h0
 go_enter func173,ntmps173
 go_wp2_with (first
  | (refine AdK rfl _ (.tmp 0) rfl f rfl ?_;intro w1 q hc1 hb1 hx1;have B1:=η hb1;have c1:=hc1.c1;have c2:=hc1.c2;clear hc1 hb1 hx1))
 go_ret2
 exact ⟨none,0,rfl,OwnB.nil_ _ _,B1.o⟩
theorem CwV (f:Fd) (w:World) (hf:f.ok w) (hl:f.tk.few) :
  Calls prog 173 #[f.val] w (AhW (10+f.o.length+f.s.length) (rawT f.tk) 0 w):=by
 have HF:=η hf
 have l1:f.o.length≤20:=hl.1
 have l2:f.s.length≤20:=hl.2
 have d1:decide ((f.o.length:Int)>20)=false:=decide_eq_false (by omega)
 have d2:decide ((f.s.length:Int)>20)=false:=decide_eq_false (by omega)
 have he64:=hf.e
 have HE64:Hid (f.e≤18446744073709551615):=η (by omega)
 have HP8:=η (putN_8 f.e hf.e)
 have hwa:IntKind.u8.wrap (f.o.length:Int)=(f.o.length:Int):=by rw [IntKind.wrap_u8];omega
 have hwb:IntKind.u8.wrap (f.s.length:Int)=(f.s.length:Int):=by rw [IntKind.wrap_u8];omega
 have LA1:=η (EuX f.o.length (by omega))
 have LB1:=η (EuX f.s.length (by omega))
 obtain ⟨L0,HL0⟩:∃ L0,Hid (putL f.e 8=L0):=⟨_,η rfl⟩
 have HLL:Hid (L0.length=8):=η (by rw [←HL0.o,AeY])
 rw [HL0.o] at HP8
 clear hf hl he64
 go_enter func173,ntmps173
 go_wp2_with (first
  | (refine AdK rfl _ (.tmp 0) rfl f rfl ?_;intro w1 q hc1 hb1 hx1;have H1:=η (And.intro hc1 hb1);have c0:=hc1.c0;have c1:=hc1.c1;have ch2:=hc1.c2;clear hc1 hb1 hx1))
 refine (EnK f.e 8 w1 HE64.o).mono ?_
 rw [HP8.o]
 rintro e w2 ⟨A2,c2,rfl,ho,hb⟩
 simp only [HLL.o] at ho ⊢
 have B2:=η (AaJ H1.o.2 hb)
 have OL0:Hid (OwnB w2.drew w.heap.size A2 8 c2 L0):=η (ho.base_le H1.o.2.size).drew
 have BL0:Hid (Below w.heap.size w w2.drew):=η B2.o.drew
 have CL0:Hid (Fc 176 w2.drew q f):=η (H1.o.1.step hb.drew)
 clear ho hb B2 H1 c0 c1 ch2
 go_wp2_with fail
 refine wp_region_held_drew (S:=fun w'=>Fc 176 w' q f) (by kernel_rfl) CL0.o (fun hHeld=>?_)
 (try dsimp only at hHeld)
 have Ω:=η (fun (w:World) (hSw:Fc 176 w q f)=>an hSw.c0 (an hSw.c1 hSw.c2))
 refine tkJ 0 rfl hHeld ?_
 refine tkJ 1 rfl hHeld ?_
 refine tkJ 2 rfl hHeld ?_
 refine tkJ 3 rfl hHeld ?_
 refine tkJ 4 rfl hHeld ?_
 refine tkJ 7 rfl hHeld ?_
 refine tkJ 8 rfl hHeld ?_
 refine rdI 5 rfl (fun K hK=>?_)
 (try simp only [Act.put,rxT,sxT])
 go_simp
 (try rw [hwa])
 refine hK.o _ _ (CL0.o.step (AaK _ _)) (fun hHeld=>?_)
 clear hK K
 refine rdI 6 rfl (fun K hK=>?_)
 (try simp only [Act.put,rxT,sxT])
 rw [if_pos (by rfl)]
 refine BcK (.tmp 22) (.tmp 27) rfl w.heap.size _ _ _ L0 rfl (by exact (OL0.o.below (AaK _ (.cells #[.int .u8 (f.o.length:Int)] 5)))) _ (some ⟨w2.drew.heap.size,0,none⟩) 1 1 [UInt8.ofNat f.o.length] rfl (by exact (RB.lit w2.drew [UInt8.ofNat f.o.length] _ 1 _ LA1.o rfl rfl)) (by omega) (by exact (AaJ BL0.o (AaK _ (.cells #[.int .u8 (f.o.length:Int)] 5))).size) ?_
 intro A3 k3 v3 ho hg hb
 have OL3:=η ho
 have BL3:=η ((AaJ BL0.o (AaK _ (.cells #[.int .u8 (f.o.length:Int)] 5))).trans hb)
 have CL3:Hid (Fc 176 v3 q f):=η (Fc.app (CL0.o.step (AaK _ (.cells #[.int .u8 (f.o.length:Int)] 5))) (by decide) (OL0.o.below (AaK _ (.cells #[.int .u8 (f.o.length:Int)] 5))) (Oth.of_grown hg))
 clear ho hg hb
 refine hK.o _ _ CL3.o (fun hHeld=>?_)
 clear hK K
 refine rdI 9 rfl (fun K hK=>?_)
 (try simp only [Act.put,rxT,sxT])
 rw [if_pos (by rfl)]
 refine BcK (.tmp 28) (.tmp 30) rfl w.heap.size _ _ _ (L0++[UInt8.ofNat f.o.length]) rfl (by exact OL3.o) _ f.A f.o.length f.c f.o rfl (by exact (HF.o.o.below BL3.o)) (by omega) (by exact BL3.o.size) ?_
 intro A4 k4 v4 ho hg hb
 have OL4:=η ho
 have BL4:=η (BL3.o.trans hb)
 have CL4:Hid (Fc 176 v4 q f):=η (Fc.app (CL3.o) (by decide) OL3.o (Oth.of_grown hg))
 clear ho hg hb
 refine hK.o _ _ CL4.o (fun hHeld=>?_)
 clear hK K
 refine tkJ 10 rfl hHeld ?_
 (try simp only [Act.put,rxT,sxT])
 refine wpAnyH_done (by kernel_rfl) ?_ _
 go_wp2_with fail
 obtain ⟨m6,hm6⟩:∃ m6,m6=9+f.o.length:=⟨_,rfl⟩
 rw [show 8+1+f.o.length=m6 from by omega] at OL4 ⊢
 (try rw [←hm6])
 have bm6:m6≤300:=by omega
 have HM6:=η hm6
 clear hm6
 obtain ⟨L2,HL2⟩:∃ L2,Hid (L2=L0++[UInt8.ofNat f.o.length]++f.o):=⟨_,η rfl⟩
 rw [←HL2.o] at OL4
 have OD2:Hid (OwnB v4.drew w.heap.size A4 m6 k4 L2):=η OL4.o.drew
 have BD2:Hid (Below w.heap.size w v4.drew):=η BL4.o.drew
 have CD2:Hid (Fc 176 v4.drew q f):=CL4
 clear OL0 BL0 CL0 OL3 BL3 CL3 OL4 BL4 CL4 hHeld
 refine wp_region_held_drew (S:=fun w'=>Fc 176 w' q f) (by kernel_rfl) CD2.o (fun hHeld=>?_)
 (try dsimp only at hHeld)
 refine tkJ 0 rfl hHeld ?_
 refine tkJ 1 rfl hHeld ?_
 refine tkJ 2 rfl hHeld ?_
 refine tkJ 3 rfl hHeld ?_
 refine tkJ 4 rfl hHeld ?_
 refine tkJ 7 rfl hHeld ?_
 refine tkJ 8 rfl hHeld ?_
 refine rdI 5 rfl (fun K hK=>?_)
 (try simp only [Act.put,rxT,sxT])
 go_simp
 (try rw [hwb])
 refine hK.o _ _ (CD2.o.step (AaK _ _)) (fun hHeld=>?_)
 clear hK K
 refine rdI 6 rfl (fun K hK=>?_)
 (try simp only [Act.put,rxT,sxT])
 rw [if_pos (by rfl)]
 refine BcK (.tmp 32) (.tmp 37) rfl w.heap.size _ _ _ L2 rfl (by exact (OD2.o.below (AaK _ (.cells #[.int .u8 (f.s.length:Int)] 5)))) _ (some ⟨v4.drew.heap.size,0,none⟩) 1 1 [UInt8.ofNat f.s.length] rfl (by exact (RB.lit v4.drew [UInt8.ofNat f.s.length] _ 1 _ LB1.o rfl rfl)) (by omega) (by exact (AaJ BD2.o (AaK _ (.cells #[.int .u8 (f.s.length:Int)] 5))).size) ?_
 intro A5 k5 v5 ho hg hb
 have OL5:=η ho
 have BL5:=η ((AaJ BD2.o (AaK _ (.cells #[.int .u8 (f.s.length:Int)] 5))).trans hb)
 have CL5:Hid (Fc 176 v5 q f):=η (Fc.app (CD2.o.step (AaK _ (.cells #[.int .u8 (f.s.length:Int)] 5))) (by decide) (OD2.o.below (AaK _ (.cells #[.int .u8 (f.s.length:Int)] 5))) (Oth.of_grown hg))
 clear ho hg hb
 refine hK.o _ _ CL5.o (fun hHeld=>?_)
 clear hK K
 refine rdI 9 rfl (fun K hK=>?_)
 (try simp only [Act.put,rxT,sxT])
 rw [if_pos (by rfl)]
 refine BcK (.tmp 38) (.tmp 40) rfl w.heap.size _ _ _ (L2++[UInt8.ofNat f.s.length]) rfl (by exact OL5.o) _ f.B f.s.length f.d f.s rfl (by exact (HF.o.s.below BL5.o)) (by omega) (by exact BL5.o.size) ?_
 intro A6 k6 v6 ho hg hb
 have OL6:=η ho
 have BL6:=η (BL5.o.trans hb)
 have CL6:Hid (Fc 176 v6 q f):=η (Fc.app (CL5.o) (by decide) OL5.o (Oth.of_grown hg))
 clear ho hg hb
 refine hK.o _ _ CL6.o (fun hHeld=>?_)
 clear hK K
 refine tkJ 10 rfl hHeld ?_
 refine tkJ 11 rfl hHeld ?_
 (try simp only [Act.put,rxT,sxT])
 refine wpAnyH_done (by kernel_rfl) ?_ _
 go_wp2_with fail
 go_ret2
 have eL:L2++[UInt8.ofNat f.s.length]++f.s=rawT f.tk:=by
  rw [HL2.o,←HL0.o];unfold rawT lenL;simp [Fd.tk]
 have O6:=OL6.o
 rw [eL] at O6
 rw [show m6+1+f.s.length=10+f.o.length+f.s.length by rw [HM6.o];omega] at O6 ⊢
 exact ⟨A6,k6,rfl,O6,BL6.o⟩
theorem DhK (f:Fd) (w:World) (hf:f.ok w) (M:Nat) (L:YB) (E:Int) (hR:BcX f.tk=(L,E)) (hM:L.length=M) :
  Calls prog 173 #[f.val] w (AhW M L E w):=by
 subst hM
 by_cases h:20<f.o.length∨20<f.s.length
 ·have e:BcX f.tk=([],15):=by unfold BcX;exact if_pos h
  rw [e] at hR;injection hR with h1 h2;subst h1 h2;by_cases h0:20<f.o.length
  ·exact DhJ f w hf h0
  ·exact DgZ f w hf (by omega) (by omega)
 ·have hl:f.tk.few:=by unfold Tk.few Fd.tk;simp only;omega
  rw [DnZ hl] at hR;injection hR with h1 h2;subst h1 h2;rw [AqJ];exact CwV f w hf hl
theorem CxK (Q:Nat) (hQ:Q≤255) (A:YA) (n c:Nat) (l:YB) (w:World) (h:RB w w.heap.size A n l) (hn:n≤1000000) :
  Calls prog 144 #[.int .i64 (Q:Int),.slice A n c] w fun e w'=>∃ A' c',e=.returned (.slice A' (1+n) c')∧OwnB w' w.heap.size A' (1+n) c' (AnX (Q:Int) l)∧Below w.heap.size w w':=by
 have hw8:IntKind.u8.wrap (Q:Int)=(Q:Int):=by rw [IntKind.wrap_u8];omega
 have HL1:=η (EuX Q hQ)
 have H:=η h
 clear h
 go_enter func144,ntmps144
 go_wp2_with (first
  | (at_builtin;refine AcQ rfl (.tmp 7) (.tmp 8) rfl w.heap.size _ 1 1 [UInt8.ofNat Q] rfl (by exact OwnB.lit w _ [UInt8.ofNat Q] _ 1 HL1.o rfl (by unfold maxLen;omega) (Nat.le_refl _)) w.heap.size A n c l rfl (by exact H.o.alloc (Nat.le_refl _) _) (by omega) (by simp) ?_;intro A1 c1 w1 ho _ hb;have O1:=η ho;have B1:=η (((Below.refl _ _).alloc (Nat.le_refl _) _).trans hb);clear ho hb))
 go_ret
 exact ⟨A1,c1,rfl,O1.o,B1.o⟩
theorem bld_rtk1 (e:Nat) (W:World):(Instr.build 176 #[(0,.int .u64 (e:Int))]).run prog W=.ok (.agg #[.int .u64 (e:Int),.slice none 0 0,.slice none 0 0]) W:=by
 go_simp <;> rfl
theorem CsQ {w:World} {ops:Array Oper} {rest:List Oper} {o:Oper} {a:Act} {Q:Exit→Act→World→Prop} (hgd:o.guard=none) (x:Operand) (hop:o.op=.build 176 #[(0,x)]) (e:Nat) (hx:a.eval x=.int .u64 (e:Int))
  (hk:wpList prog ops Q rest (a.put o.dst (Fd.val ⟨e,none,0,[],none,0,[]⟩)) w):wpList prog ops Q (o::rest) a w:=by
 refine wpList_plain hgd fun K hK=>?_
 have hr:=bld_rtk1 e w
 unfold Oper.wp execOp
 simp only [hop,List.map_toArray,List.map_cons,List.map_nil,hx,Sem.run_bind,hr,Result.andThen_ok]
 exact hK _ _ hk
theorem RdQ.of_new {w:World} {x n c:Nat} {A:YA} {l:YB} (k:Blk 267 w x [.slice A n c,.int .i64 0]) (h:RB w w.heap.size A n l) (h3:n≤c∧c≤maxLen∧n≤1000000):RdQ w x (0,l):=⟨A,n,c,k,h,h3⟩
structure UQ (v:World) (rc x:Nat) (s:Int×List UInt8) (w:World):Prop where
 bel:Below v.heap.size v w
 lr:v.heap.size≤rc
 lx:v.heap.size≤x
 rc:Fc 176 w rc zeroF
 rd:RdQ w x s
section
variable {v w w':World} {rc x:Nat} {s s':Int×List UInt8} {f:Fd}
theorem UQ.step (k:UQ v rc x s w) (hb:Below w.heap.size w w'):UQ v rc x s w':=⟨AaJ k.bel hb,k.lr,k.lx,k.rc.step hb,k.rd.step hb⟩
theorem Fc.nerq {y:Nat} (h:Fc 176 w y f) (k:RdQ w x s):y≠x:=by obtain ⟨A,n,c,t,_⟩:=k;exact h.nex t (by decide)
theorem UQ.call (k:UQ v rc x s w) (ho:Oth [x] w w') (hr:RdQ w' x s'):UQ v rc x s' w' :=
 ⟨k.bel.trans (ho.below (fun j hj=>by rw [List.mem_singleton.1 hj];exact k.lx) k.bel.size),k.lr,k.lx,k.rc.oth ho (by simpa using k.rc.nerq k.rd),hr⟩
theorem Fc.far {T:TypeId} {p B n:Nat} {A:YA} {l:YB} (h:Fc T w p f) (r:RB w B A n l) (hn:0<n):∀ g o,A=some ⟨g,o,none⟩→g∉[p]:=by
 intro g o e hg
 obtain rfl:g=p:=by simpa using hg
 obtain ⟨g',o',e',_,u,_,hc⟩:=r.at_ (k:=0) hn
 rw [e] at e'
 injection e' with e'
 injection e' with e1 e2
 subst e1
 rw [h.blk.cell,Nat.add_zero] at hc
 rcases o' with _ | _ | _ | k
 ·simp [Fd.cells,bv] at hc
 ·simp [Fd.cells,bv] at hc
 ·simp [Fd.cells,bv] at hc
 ·simp [Fd.cells] at hc
theorem RdQ.off {T:TypeId} {p:Nat} (h:RdQ w x s) (hp:Fc T w p f) (ho:Oth [p] w w') (hx:x∉[p]):RdQ w' x s:=by
 obtain ⟨A,n,c,h1,h2,h3⟩:=h
 exact ⟨A,n,c,h1.oth ho hx,h2.oth ho (hp.far h2),h3⟩
theorem UQ.put {p:Nat} (k:UQ v rc x s w) (h:Fc 176 w p f) (hp:v.heap.size≤p) (hne:p≠rc) (ho:Oth [p] w w'):UQ v rc x s w' :=
 ⟨k.bel.trans (ho.below (fun j hj=>by rw [List.mem_singleton.1 hj];exact hp) k.bel.size),k.lr,k.lx,k.rc.oth ho (by simpa using Ne.symm hne),k.rd.off h ho (by simpa using Ne.symm (h.nerq k.rd))⟩
end
theorem CnK (A:YA) (n c:Nat) (l:YB) (w:World) (hr0:RB w w.heap.size A n l) (hn:n≤1000000) (hc:n≤c∧c≤maxLen) :
  Calls prog 145 #[.slice A n c] w (DeW (AhY l) w):=by
 have H0:=η (And.intro hr0 (And.intro hc.1 (And.intro hc.2 hn)))
 clear hr0 hc hn
 obtain ⟨⟨N0,s1⟩,h1⟩:∃ r,numS 8 (0,l)=r:=⟨_,rfl⟩
 obtain ⟨⟨O,s2⟩,h2⟩:∃ r,AfY s1=r:=⟨_,rfl⟩
 obtain ⟨⟨S,s3⟩,h3⟩:∃ r,AfY s2=r:=⟨_,rfl⟩
 obtain ⟨⟨E,s4⟩,h4⟩:∃ r,endS s3=r:=⟨_,rfl⟩
 have HX:=η (CtQ (s4:=(0,s4)) h1 h2 h3 h4)
 have HN0:Hid (N0<2 ^ 64):=η (by have:=EsY 8 (0,l);rw [h1] at this;exact this)
 have S1:=η h1
 have S2:=η h2
 have S3:=η h3
 have S4:=η h4
 clear h1 h2 h3 h4
 obtain ⟨X,HXX⟩:∃ X,Hid (AhY l=X):=⟨_,η rfl⟩
 rw [HXX.o] at HX ⊢
 go_enter func145,ntmps145
 go_wp2_with (first
  | (refine atd 2 rfl ?_;refine AcZ AcW rfl rfl ?_;intro w1 rc hc1 hb1 hx1;have H1:=η (And.intro hc1 (And.intro hb1 hx1));clear hc1 hb1 hx1)
  | (refine atd 9 rfl ?_;refine AeV rfl 267 (.tmp 8) rfl [.slice A n c,.int .i64 0] rfl ?_;intro w2 x k2 hb2 hx2;have K2:Hid (UQ w rc x (0,l) w2):=η ⟨AaJ H1.o.2.1 hb2,H1.o.2.2,Nat.le_trans H1.o.2.1.size hx2,H1.o.1.step hb2,RdQ.of_new k2 ((H0.o.1.step H1.o.2.1).step hb2) H0.o.2⟩;clear k2 hb2 hx2 H1))
 refine (DqK x 8 (0,l) w2 (by exact K2.o.rd) (by decide)).mono ?_
 rw [S1.o]
 rintro e w3 ⟨rfl,ho,hr⟩
 have K3:=η (K2.o.call ho hr)
 clear ho hr K2
 go_wp2_with (first
  | (refine CsQ rfl (.tmp 11) rfl N0 rfl ?_)
  | (refine atd 5 rfl ?_;refine AcZ AcW rfl rfl ?_;intro w4 p hc4 hb4 hx4;have H4:=η (And.intro hc4 (And.intro hb4 hx4));clear hc4 hb4 hx4)
  | (refine AbV AcW rfl (.tmp 5) (.tmp 12) rfl p rfl ⟨N0,none,0,[],none,0,[]⟩ zeroF rfl (by exact H4.o.1) ?_;intro w5 hc5 ho5 hs5;have hb5:=H4.o.2.1.trans (ho5.below (fun j hj=>by rw [List.mem_singleton.1 hj];exact H4.o.2.2) H4.o.2.1.size);have K5:=η (K3.o.step hb5);have C5:Hid (Blk 176 w5 p [.int .u64 (N0:Int),.slice none 0 0,.slice none 0 0]):=η hc5.blk;have LP:Hid (w.heap.size≤p∧p≠rc):=η ⟨Nat.le_trans K3.o.bel.size H4.o.2.2,fun e=>by have h1:=K3.o.rc.blk.lt;have h2:=H4.o.2.2;omega⟩;clear hc5 ho5 hs5 hb5 H4 K3))
 refine (CjJ x s1 w5 (by exact K5.o.rd)).mono ?_
 rw [S2.o]
 rintro e w6 ⟨A6,n6,c6,rfl,ho6,ho,hr⟩
 have hl6:=ho6.len
 subst hl6
 have C6:=η (C5.o.oth ho (by simpa using Fc.nerq (f:=⟨N0,none,0,[],none,0,[]⟩) C5.o K5.o.rd))
 have O6:=η (ho6.base_le K5.o.bel.size)
 have K6:=η (K5.o.call ho hr)
 clear ho6 ho hr K5 C5
 go_wp2_with (first
  | (refine AhJ (ty:=41) (by kernel_rfl) rfl (.tmp 15) (.tmp 14) rfl p 1 rfl (.slice A6 O.length c6) rfl rfl _ (by exact C6.o) (by show _<3;decide) ?_;intro w7 hc7 ho7 hs7;have C7:Hid (Blk 176 w7 p [.int .u64 (N0:Int),.slice A6 O.length c6,.slice none 0 0]):=η hc7;have K7:=η (K6.o.put (f:=⟨N0,none,0,[],none,0,[]⟩) C6.o LP.o.1 LP.o.2 ho7);have O7:=η (O6.o.offS ho7 (C6.o.nob (by decide)));clear hc7 ho7 hs7 C6 K6 O6))
 refine (CjJ x s2 w7 (by exact K7.o.rd)).mono ?_
 rw [S3.o]
 rintro e w8 ⟨A8,n8,c8,rfl,ho8,ho,hr⟩
 have hl8:=ho8.len
 subst hl8
 have C8:=η (C7.o.oth ho (by simpa using Fc.nerq (f:=⟨N0,A6,c6,O,none,0,[]⟩) C7.o K7.o.rd))
 have O8:=η (And.intro (O7.o.offS ho K7.o.rd.nob) (ho8.base_le K7.o.bel.size))
 have K8:=η (K7.o.call ho hr)
 clear ho8 ho hr K7 C7 O7
 obtain ⟨F,HFF⟩:∃ F:Fd,Hid (F=⟨N0,A6,c6,O,A8,c8,S⟩):=⟨_,η rfl⟩
 have HFT:Hid (F.tk=⟨N0,O,S⟩):=η (by rw [HFF.o];rfl)
 go_wp2_with (first
  | (refine AhJ (ty:=41) (by kernel_rfl) rfl (.tmp 18) (.tmp 17) rfl p 2 rfl (.slice A8 S.length c8) rfl rfl _ (by exact C8.o) (by show _<3;decide) ?_;intro w9 hc9 ho9 hs9;have C9:Hid (Fc 176 w9 p F):=η (by rw [HFF.o];exact hc9);have K9:=η (K8.o.put (f:=⟨N0,A6,c6,O,none,0,[]⟩) C8.o LP.o.1 LP.o.2 ho9);have O9:Hid (F.own w9 w.heap.size):=η (by rw [HFF.o];exact ⟨HN0.o,O8.o.1.offS ho9 (C8.o.nob (by decide)),O8.o.2.offS ho9 (C8.o.nob (by decide))⟩);clear hc9 ho9 hs9 C8 K8 O8))
 refine (qend_any x s3 w9 (by exact K9.o.rd)).mono ?_
 rw [S4.o]
 rintro e wa ⟨rfl,ho,hr⟩
 have hca:Fc 176 wa p F:=C9.o.oth ho (by simpa using C9.o.nerq K9.o.rd)
 have CA:=η hca
 have k1:wa.cell? ⟨p,1,none⟩=some (.slice A6 O.length c6):=by have h:=hca.c1;rw [HFF.o] at h;exact h
 have k2:wa.cell? ⟨p,2,none⟩=some (.slice A8 S.length c8):=by have h:=hca.c2;rw [HFF.o] at h;exact h
 have KA:=η (K9.o.call ho hr)
 have OA:=η (O9.o.off ho K9.o.rd.nob)
 have bo:O.length≤9223372036854775807:=by have h:=O9.o.ok.co;rw [HFF.o] at h;have h1:=h.1;have h2:=h.2;unfold maxLen at h2;simp only at h1 h2;omega
 have bs:S.length≤9223372036854775807:=by have h:=O9.o.ok.cs;rw [HFF.o] at h;have h1:=h.1;have h2:=h.2;unfold maxLen at h2;simp only at h1 h2;omega
 clear ho hr hca K9 C9 O9
 by_cases hE:E=0
 rotate_left
 ·have hb0:(E == 0)=false:=by simpa using hE
  have hb:(E != 0)=true:=by simpa using hE
  have HE:Hid (X=(zTk,E)):=η (by rw [HX.o,if_neg hE]);clear hE
  go_wp2_with (first
   | (with_reducible show wpList _ _ _ (⟨none,.store _ _ _,_,_,_,none⟩::_) _ _;refine AbV AcW rfl (.tmp 2) (.tmp 37) rfl rc rfl zeroF zeroF rfl (by exact KA.o.rc) ?_;intro wb hcb hob hsb;have HB:=η (And.intro hcb hob);clear hcb hob hsb))
  rw [HE.o];exact bodyPost_ret (v:=.tuple #[zeroF.val,.int .i64 E]) (AeK AcW rfl _ _ rc zeroF.cells _ rfl rfl HB.o.1 rfl) rfl ⟨zeroF,rfl,rfl,Fd.own.zero _ _,KA.o.bel.trans (HB.o.2.below (fun j hj=>by rw [List.mem_singleton.1 hj];exact KA.o.lr) KA.o.bel.size)⟩
 subst hE
 by_cases h1:(O.length:Int)>20
 ·have d1:decide ((O.length:Int)>20)=true:=decide_eq_true h1
  have HE:Hid (X=(zTk,10)):=η (by rw [HX.o,if_pos rfl,if_pos (.inl (by omega))]);clear h1
  go_wp2_with (first
   | (with_reducible show wpList _ _ _ (⟨none,.store _ _ _,_,_,_,none⟩::_) _ _;refine AbV AcW rfl (.tmp 2) (.tmp 37) rfl rc rfl zeroF zeroF rfl (by exact KA.o.rc) ?_;intro wb hcb hob hsb;have HB:=η (And.intro hcb hob);clear hcb hob hsb))
  rw [HE.o];exact bodyPost_ret (v:=.tuple #[zeroF.val,.int .i64 10]) (AeK AcW rfl _ _ rc zeroF.cells _ rfl rfl HB.o.1 rfl) rfl ⟨zeroF,rfl,rfl,Fd.own.zero _ _,KA.o.bel.trans (HB.o.2.below (fun j hj=>by rw [List.mem_singleton.1 hj];exact KA.o.lr) KA.o.bel.size)⟩
 have d1:decide ((O.length:Int)>20)=false:=decide_eq_false h1
 by_cases h2:(S.length:Int)>20
 ·have d2:decide ((S.length:Int)>20)=true:=decide_eq_true h2
  have HE:Hid (X=(zTk,10)):=η (by rw [HX.o,if_pos rfl,if_pos (.inr (by omega))]);clear h1 h2
  go_wp2_with (first
   | (with_reducible show wpList _ _ _ (⟨none,.store _ _ _,_,_,_,none⟩::_) _ _;refine AbV AcW rfl (.tmp 2) (.tmp 37) rfl rc rfl zeroF zeroF rfl (by exact KA.o.rc) ?_;intro wb hcb hob hsb;have HB:=η (And.intro hcb hob);clear hcb hob hsb))
  rw [HE.o];exact bodyPost_ret (v:=.tuple #[zeroF.val,.int .i64 10]) (AeK AcW rfl _ _ rc zeroF.cells _ rfl rfl HB.o.1 rfl) rfl ⟨zeroF,rfl,rfl,Fd.own.zero _ _,KA.o.bel.trans (HB.o.2.below (fun j hj=>by rw [List.mem_singleton.1 hj];exact KA.o.lr) KA.o.bel.size)⟩
 have d2:decide ((S.length:Int)>20)=false:=decide_eq_false h2
 have HE:Hid (X=(⟨N0,O,S⟩,0)):=η (by rw [HX.o,if_pos rfl,if_neg (by omega)])
 clear h1 h2
 go_wp2_with (first
  | (with_reducible show wpList _ _ _ (⟨_,.load _ _,_,_,_,none⟩::_) _ _;refine AjJ AcW rfl (.tmp 5) rfl p rfl F (by exact CA.o) ?_)
  | (with_reducible show wpList _ _ _ (⟨none,.store _ _ _,_,_,_,none⟩::_) _ _;refine AbV AcW rfl (.tmp 2) (.tmp 39) rfl rc rfl F zeroF rfl (by exact KA.o.rc) ?_;intro wb hcb hob hsb;have HB:=η (And.intro hcb hob);clear hcb hob hsb))
 rw [HE.o]
 exact bodyPost_ret (v:=.tuple #[F.val,.int .i64 0]) (AeK AcW rfl _ _ rc F.cells _ rfl rfl HB.o.1 rfl) rfl ⟨F,rfl,HFT.o,OA.o.off HB.o.2 (KA.o.rc.blk.nob (by decide)),KA.o.bel.trans (HB.o.2.below (fun j hj=>by rw [List.mem_singleton.1 hj];exact KA.o.lr) KA.o.bel.size)⟩
