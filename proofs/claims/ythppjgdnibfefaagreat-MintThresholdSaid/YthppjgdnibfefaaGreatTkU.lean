/- Layer 20's calls without a ring: tooLong, Text, Untext, Seq, Same, the statements' long and Of. Conditions: what they read can be read. -/
import Derived.Test.YthppjgdnibfefaaGreatTkL
import Derived.Test.YthppjgdnibfefaaGreatRowsIn
import Derived.Test.YthppjgdnibfefaaGreatScanQ
set_option linter.unusedVariables false
set_option linter.unusedSimpArgs false
set_option maxRecDepth 100000
set_option maxHeartbeats 32000000
namespace Go.Proofs.YthppjgdnibfefaaGreat
open Go.RowKit
attribute [local irreducible] putS putN shortP doneS putL numS shortS endS numL
attribute [local go_sem ↓] ex_ldF ex_stF ex_ldFr ex_stFr
theorem toolong20_any (f:Fd) (w:World) (hf:f.ok w) (v:Bool) (hv:decide (20<f.o.length∨20<f.s.length)=v) :
  Calls Tryz.prog 88 #[f.val] w fun e w'=>e=.returned (.bool v)∧Below w.heap.size w w':=by
 have bo:f.o.length≤9223372036854775807:=by have h1:=hf.co.1;have h2:=hf.co.2;unfold maxLen at h2;omega
 have bs:f.s.length≤9223372036854775807:=by have h1:=hf.cs.1;have h2:=hf.cs.2;unfold maxLen at h2;omega
 clear hf
 by_cases h1:(f.o.length:Int)>20
 ·obtain rfl:v=true:=by rw [←hv];exact decide_eq_true (by omega)
  have d1:decide ((f.o.length:Int)>20)=true:=decide_eq_true h1
  clear hv h1
  go_enter Tryz.func88,Tryz.ntmps88
  go_wp2_with (first
   | (with_reducible show wpList _ _ _ (⟨_,.box _ (.tmp 0),_,_,_,none⟩::_) _ _;refine wpList_boxF rfl _ (.tmp 0) rfl f rfl ?_;intro w1 q hc1 hb1 hx1;have B1:=η hb1;have c1:=hc1.c1;have c2:=hc1.c2;clear hc1 hb1 hx1))
  go_ret
  exact ⟨rfl,B1.out⟩
 by_cases h2:(f.s.length:Int)>20
 ·obtain rfl:v=true:=by rw [←hv];exact decide_eq_true (by omega)
  have d1:decide ((f.o.length:Int)>20)=false:=decide_eq_false h1
  have d2:decide ((f.s.length:Int)>20)=true:=decide_eq_true h2
  clear hv h1 h2
  go_enter Tryz.func88,Tryz.ntmps88
  go_wp2_with (first
   | (with_reducible show wpList _ _ _ (⟨_,.box _ (.tmp 0),_,_,_,none⟩::_) _ _;refine wpList_boxF rfl _ (.tmp 0) rfl f rfl ?_;intro w1 q hc1 hb1 hx1;have B1:=η hb1;have c1:=hc1.c1;have c2:=hc1.c2;clear hc1 hb1 hx1))
  go_ret
  exact ⟨rfl,B1.out⟩
 ·obtain rfl:v=false:=by rw [←hv];exact decide_eq_false (by omega)
  have d1:decide ((f.o.length:Int)>20)=false:=decide_eq_false h1
  have d2:decide ((f.s.length:Int)>20)=false:=decide_eq_false h2
  clear hv h1 h2
  go_enter Tryz.func88,Tryz.ntmps88
  go_wp2_with (first
   | (with_reducible show wpList _ _ _ (⟨_,.box _ (.tmp 0),_,_,_,none⟩::_) _ _;refine wpList_boxF rfl _ (.tmp 0) rfl f rfl ?_;intro w1 q hc1 hb1 hx1;have B1:=η hb1;have c1:=hc1.c1;have c2:=hc1.c2;clear hc1 hb1 hx1))
  go_ret
  exact ⟨rfl,B1.out⟩
structure TB (v:World) (x q:Nat) (A:Option Addr) (f:Fd) (s:Int×List UInt8) (w:World):Prop where
 bel:Below v.heap.size v w
 lx:v.heap.size≤x
 wr:WrR w x v.heap.size A s
 fd:Fc 77 w q f
section
variable {v w w':World} {x q n:Nat} {A B:Option Addr} {f:Fd} {s s':Int×List UInt8} {e:Ending} {val:Value} {l:List UInt8}
theorem TB.step (k:TB v x q A f s w) (hb:Below w.heap.size w w'):TB v x q A f s w':=⟨bel_next k.bel hb,k.lx,k.wr.step hb,k.fd.step hb⟩
theorem TB.away (k:TB v x q A f s w) (r:RB v v.heap.size B n l):0<n→∀ g o,B=some ⟨g,o,none⟩→g∉blkO A:=fun hn g o e hg=>by
 obtain ⟨g',o',e',h1,_⟩:=r.2 hn
 rw [e] at e'
 injection e' with e'
 injection e' with e1
 subst e1
 have h2:=(k.wr.own g hg).2.1
 omega
theorem TB.ret (k:TB v x q A f s w) (r:RetW WrR x v.heap.size A s' val w e w'):e=.returned val∧∃ A',TB v x q A' f s' w':=by
 obtain ⟨he,A',h1,h2,h3⟩:=r
 refine ⟨he,A',k.bel.trans (h2.below (fun j hj=>?_) k.bel.size),k.lx,h3,k.fd.oth h2 (fun hm=>?_)⟩
 ·rcases List.mem_cons.1 hj with rfl | hj
  ·exact k.lx
  ·exact (k.wr.own j hj).2.1
 ·rcases List.mem_cons.1 hm with e1 | hm
  ·obtain ⟨n,c,t,_⟩:=k.wr
   exact k.fd.nex t (by decide) e1
  ·obtain ⟨a,ea,hk⟩:=mem_blkO hm
   obtain ⟨n,c,_,t⟩:=k.wr
   exact (k.fd.blk.nob (by decide)).own t a.block 0 (by rw [ea];exact congrArg some (t.spot a ea).1) (by simp [hk])
end
theorem putN_8 (v:Nat) (hv:v<2 ^ 64):putN v 8=(putL v 8,0):=by
 have hd:downL v 8=0:=by show v / 256 / 256 / 256 / 256 / 256 / 256 / 256 / 256=0;omega
 unfold putN
 exact if_pos ⟨by decide,by decide,hd⟩
theorem shortP_l (p:List UInt8) (h:p.length≤255):shortP p=(lenL p,0):=by unfold shortP;exact if_neg (by omega)
theorem text_long (f:Fd) (w:World) (hf:f.ok w) (hl:20<f.o.length∨20<f.s.length) :
  Calls Tryz.prog 181 #[f.val] w (RetBE 0 [] 15 w):=by
 have HF:=η hf
 have HL:=η hl
 clear hf hl
 go_enter Tryz.func181,Tryz.ntmps181
 go_wp2_with (first
  | (with_reducible show wpList _ _ _ (⟨_,.box _ (.tmp 0),_,_,_,none⟩::_) _ _;refine wpList_boxF rfl _ (.tmp 0) rfl f rfl ?_;intro w1 q hc1 hb1 hx1;have H1:=η (And.intro hc1 hb1);clear hc1 hb1 hx1)
  | (refine wpList_ldF rt_tk rfl (.tmp 1) rfl q rfl f (by exact H1.out.1) ?_))
 refine (toolong20_any f w1 (by exact HF.out.step H1.out.2) true (decide_eq_true HL.out)).mono ?_
 rintro e w2 ⟨rfl,hb⟩
 have B2:=η (bel_next H1.out.2 hb)
 clear hb
 go_wp2_with fail
 go_ret2
 exact ⟨none,0,rfl,OwnB.nil_ _ _,B2.out⟩
theorem text_few20 (f:Fd) (w:World) (hf:f.ok w) (hl:f.tk.few) :
  Calls Tryz.prog 181 #[f.val] w (RetBE (10+f.o.length+f.s.length) (rawT f.tk) 0 w):=by
 have HF:=η hf
 have l1:f.o.length≤20:=hl.1
 have l2:f.s.length≤20:=hl.2
 have hp1:putS (putN f.e 8).1 (putN f.e 8).2 (0,[])=(0,putL f.e 8):=by rw [putN_8 _ hf.e,putS_0];rfl
 have hp2:putS (shortP f.o).1 (shortP f.o).2 (0,putL f.e 8)=(0,putL f.e 8++lenL f.o):=by rw [shortP_l _ (by omega),putS_0]
 have hp3:putS (shortP f.s).1 (shortP f.s).2 (0,putL f.e 8++lenL f.o)=(0,rawT f.tk):=by rw [shortP_l _ (by omega),putS_0];unfold rawT;rw [List.append_assoc];rfl
 have P1:=η hp1
 have P2:=η hp2
 have P3:=η hp3
 have PL8:Hid ((putL f.e 8).length≤10):=η (by rw [putL_len];omega)
 have PL9:Hid ((putL f.e 8++lenL f.o).length≤100):=η (by rw [List.length_append,putL_len];unfold lenL;rw [List.length_cons];omega)
 have HRL:Hid ((rawT f.tk).length=10+f.o.length+f.s.length):=η (rawT_len f.tk)
 have he64:=hf.e
 have HE64:Hid (f.e≤18446744073709551615):=η (by omega)
 clear hf hl hp1 hp2 hp3 he64
 obtain ⟨R,HR⟩:∃ R,Hid (rawT f.tk=R):=⟨_,η rfl⟩
 rw [HR.out] at P3 HRL ⊢
 go_enter Tryz.func181,Tryz.ntmps181
 go_wp2_with (first
  | (with_reducible show wpList _ _ _ (⟨_,.box _ (.tmp 0),_,_,_,none⟩::_) _ _;refine wpList_boxF rfl _ (.tmp 0) rfl f rfl ?_;intro w1 q hc1 hb1 hx1;have H1:=η (And.intro hc1 hb1);clear hc1 hb1 hx1)
  | (refine wpList_ldF rt_tk rfl (.tmp 1) rfl q rfl f (by exact H1.out.1) ?_))
 refine (toolong20_any f w1 (by exact HF.out.step H1.out.2) false (decide_eq_false (by omega))).mono ?_
 rintro e w2 ⟨rfl,hb⟩
 have B2:=η (bel_next H1.out.2 hb)
 have C2:=η (H1.out.1.step hb)
 clear hb H1
 go_wp2_with fail
 have HCD:Fc 77 w2.drew q f:=C2.out
 refine wp_region_held_drew (S:=fun w'=>Fc 77 w' q f) (by kernel_rfl) HCD (fun hHeld=>?_)
 (try dsimp only at hHeld)
 refine tkI 1 (v:=?v1_8) rfl ⟨by rfl,?h1_8⟩ hHeld ?_
 case h1_8=>intro w hSw;(try dsimp only at hSw);have q0:=hSw.c0;have q1:=hSw.c1;have q2:=hSw.c2;(try simp only [rxT]);go_simp <;> with_reducible rfl
 (try simp only [Act.put,rxT,sxT])
 refine tkI 2 (v:=?v2_9) rfl ⟨by rfl,?h2_9⟩ hHeld ?_
 case h2_9=>intro w hSw;(try dsimp only at hSw);have q0:=hSw.c0;have q1:=hSw.c1;have q2:=hSw.c2;(try simp only [rxT]);go_simp <;> with_reducible rfl
 (try simp only [Act.put,rxT,sxT])
 refine tkI 4 (v:=?v4_10) rfl ⟨by rfl,?h4_10⟩ hHeld ?_
 case h4_10=>intro w hSw;(try dsimp only at hSw);have q0:=hSw.c0;have q1:=hSw.c1;have q2:=hSw.c2;(try simp only [rxT]);go_simp <;> with_reducible rfl
 (try simp only [Act.put,rxT,sxT])
 refine tkI 5 (v:=?v5_11) rfl ⟨by rfl,?h5_11⟩ hHeld ?_
 case h5_11=>intro w hSw;(try dsimp only at hSw);have q0:=hSw.c0;have q1:=hSw.c1;have q2:=hSw.c2;(try simp only [rxT]);go_simp <;> with_reducible rfl
 (try simp only [Act.put,rxT,sxT])
 refine tkI 7 (v:=?v7_12) rfl ⟨by rfl,?h7_12⟩ hHeld ?_
 case h7_12=>intro w hSw;(try dsimp only at hSw);have q0:=hSw.c0;have q1:=hSw.c1;have q2:=hSw.c2;(try simp only [rxT]);go_simp <;> with_reducible rfl
 (try simp only [Act.put,rxT,sxT])
 refine tkI 8 (v:=?v8_13) rfl ⟨by rfl,?h8_13⟩ hHeld ?_
 case h8_13=>intro w hSw;(try dsimp only at hSw);have q0:=hSw.c0;have q1:=hSw.c1;have q2:=hSw.c2;(try simp only [rxT]);go_simp <;> with_reducible rfl
 (try simp only [Act.put,rxT,sxT])
 refine rdI 0 rfl (fun K hK=>?_)
 (try simp only [rxT])
 go_simp
 refine (write_any _ w.heap.size (by exact B2.out.size)).mono ?_
 rintro e w3 ⟨x,rfl,hx,hb3,hw⟩
 have K3:Hid (TB w x q none f (0,[]) w3):=η ⟨B2.out.trans (((Below.refl w2.heap.size w2).drew.trans hb3).mono B2.out.size),Nat.le_trans B2.out.size hx,hw,HCD.step hb3⟩
 clear hx hb3 hw
 (try go_wp2_with fail)
 refine hK.out _ _ K3.out.fd (fun hHeld=>?_)
 clear hK K
 (try simp only [Act.put,rxT,sxT])
 refine rdI 3 rfl (fun K hK=>?_)
 (try simp only [rxT])
 go_simp
 refine (wnum_any x w.heap.size none f.e 8 _ _ K3.out.wr K3.out.bel.size (by simp) HE64.out).mono ?_
 rw [P1.out]
 intro e w4 k
 obtain ⟨rfl,A4,k4⟩:=K3.out.ret k
 have K4:=η k4
 clear k k4
 (try go_wp2_with fail)
 refine hK.out _ _ K4.out.fd (fun hHeld=>?_)
 clear hK K
 (try simp only [Act.put,rxT,sxT])
 refine rdI 6 rfl (fun K hK=>?_)
 (try simp only [rxT])
 go_simp
 refine (wshort_any x w.heap.size A4 f.A f.o.length f.c f.o _ _ K4.out.wr (HF.out.o.step K4.out.bel) (K4.out.away HF.out.o) (by omega) K4.out.bel.size (Nat.le_trans PL8.out (by omega))).mono ?_
 rw [P2.out]
 intro e w5 k
 obtain ⟨rfl,A5,k5⟩:=K4.out.ret k
 have K5:=η k5
 clear k k5
 (try go_wp2_with fail)
 refine hK.out _ _ K5.out.fd (fun hHeld=>?_)
 clear hK K
 (try simp only [Act.put,rxT,sxT])
 refine rdI 9 rfl (fun K hK=>?_)
 (try simp only [rxT])
 go_simp
 refine (wshort_any x w.heap.size A5 f.B f.s.length f.d f.s _ _ K5.out.wr (HF.out.s.step K5.out.bel) (K5.out.away HF.out.s) (by omega) K5.out.bel.size (Nat.le_trans PL9.out (by omega))).mono ?_
 rw [P3.out]
 intro e w6 k
 obtain ⟨rfl,A6,k6⟩:=K5.out.ret k
 have K6:=η k6
 clear k k6
 (try go_wp2_with fail)
 refine hK.out _ _ K6.out.fd (fun hHeld=>?_)
 clear hK K
 (try simp only [Act.put,rxT,sxT])
 refine rdI 10 rfl (fun K hK=>?_)
 (try simp only [rxT])
 go_simp
 refine (wdone_any x w.heap.size A6 _ _ K6.out.wr (by show R.length≤_;rw [HRL.out];omega)).mono ?_
 rw [doneS_0 R]
 rintro e w7 ⟨A7,c7,rfl,ho7,hb7⟩
 simp only [HRL.out] at ho7 ⊢
 have K7:=η (K6.out.step hb7)
 have O7:=η (ho7.base_le K6.out.bel.size)
 clear ho7 hb7
 (try go_wp2_with fail)
 refine hK.out _ _ K7.out.fd (fun hHeld=>?_)
 clear hK K
 (try simp only [Act.put,rxT,sxT])
 refine tkI 11 (v:=?v11_14) rfl ⟨by rfl,?h11_14⟩ hHeld ?_
 case h11_14=>intro w hSw;(try dsimp only at hSw);have q0:=hSw.c0;have q1:=hSw.c1;have q2:=hSw.c2;(try simp only [rxT]);go_simp <;> with_reducible rfl
 (try simp only [Act.put,rxT,sxT])
 refine tkI 12 (v:=?v12_15) rfl ⟨by rfl,?h12_15⟩ hHeld ?_
 case h12_15=>intro w hSw;(try dsimp only at hSw);have q0:=hSw.c0;have q1:=hSw.c1;have q2:=hSw.c2;(try simp only [rxT]);go_simp <;> with_reducible rfl
 (try simp only [Act.put,rxT,sxT])
 refine tkI 13 (v:=?v13_16) rfl ⟨by rfl,?h13_16⟩ hHeld ?_
 case h13_16=>intro w hSw;(try dsimp only at hSw);have q0:=hSw.c0;have q1:=hSw.c1;have q2:=hSw.c2;(try simp only [rxT]);go_simp <;> with_reducible rfl
 (try simp only [Act.put,rxT,sxT])
 refine tkI 14 (v:=?v14_17) rfl ⟨by rfl,?h14_17⟩ hHeld ?_
 case h14_17=>intro w hSw;(try dsimp only at hSw);have q0:=hSw.c0;have q1:=hSw.c1;have q2:=hSw.c2;(try simp only [rxT]);go_simp <;> with_reducible rfl
 (try simp only [Act.put,rxT,sxT])
 refine wpAnyH_done (by kernel_rfl) ?_ _
 go_wp2_with fail
 go_ret2
 exact ⟨A7,c7,rfl,O7.out,K7.out.bel⟩
theorem seq20_any (A:Option Addr) (n c:Nat) (l:List UInt8) (w:World) (h:RB w w.heap.size A n l) (hn:n≤9223372036854775807) (z:Int) (b:Bool) (hv:seqT l=(z,b)) :
  Calls Tryz.prog 37 #[.slice A n c] w fun e w'=>e=.returned (.tuple #[.int .i64 z,.bool b])∧w=w':=by
 have hlen:=h.len
 unfold seqT at hv
 rcases Nat.eq_zero_or_pos n with h0 | h0
 ·subst h0
  rw [if_neg (by intro hh;exact hh.1 (List.eq_nil_of_length_eq_zero hlen))] at hv
  injection hv with h1 h2
  subst h1 h2
  go_enter Tryz.func37,Tryz.ntmps37
  go_wp2_with fail
  go_ret2
  exact ⟨rfl,rfl⟩
 ·obtain ⟨g,o,rfl,hg,x,hx,hc⟩:=h.at_ h0
  rw [Nat.add_zero] at hc
  have hd:((n:Int) == 0)=false:=by rw [beq_eq_false_iff_ne];omega
  have hf:fstT l=(x.toNat:Int):=by
   unfold fstT
   rw [List.headD_eq_head?_getD,List.head?_eq_getElem?,hx]
   rfl
  have hne:l≠[]:=fun e=>by rw [e] at hlen;simp at hlen;omega
  have hx8:=x.toNat_lt
  by_cases hq:(x.toNat:Int)>127
  ·rw [if_neg (by rw [hf];omega)] at hv
   injection hv with h1 h2
   subst h1 h2
   have d2:decide ((x.toNat:Int)>127)=true:=decide_eq_true hq
   clear hq hf hx h
   go_enter Tryz.func37,Tryz.ntmps37
   go_wp2_with fail
   go_ret2
   exact ⟨rfl,rfl⟩
  ·rw [if_pos ⟨hne,by rw [hf];omega⟩] at hv
   injection hv with h1 h2
   subst h1 h2
   rw [hf]
   have d2:decide ((x.toNat:Int)>127)=false:=decide_eq_false hq
   clear hq hf hx h
   go_enter Tryz.func37,Tryz.ntmps37
   go_wp2_with fail
   go_ret2
   exact ⟨rfl,rfl⟩
theorem untext_eq {b O S:List UInt8} {N0:Nat} {E:Int} {s1 s2 s3 s4:Int×List UInt8} (h1:numS 8 (0,b)=(N0,s1)) (h2:shortS s1=(O,s2)) (h3:shortS s2=(S,s3)) (h4:endS s3=(E,s4.2)):untextR b=if E=0 then (if 20<O.length∨20<S.length then (zTk,10) else (⟨N0,O,S⟩,0)) else (zTk,E):=by
 unfold untextR
 simp only [h1,h2,h3,h4]
structure UB (v:World) (rc x:Nat) (s:Int×List UInt8) (w:World):Prop where
 bel:Below v.heap.size v w
 lr:v.heap.size≤rc
 lx:v.heap.size≤x
 rc:Fc 77 w rc zeroF
 rd:RdR w x s
section
variable {v w w':World} {rc x:Nat} {s s':Int×List UInt8} {f:Fd}
theorem UB.step (k:UB v rc x s w) (hb:Below w.heap.size w w'):UB v rc x s w':=⟨bel_next k.bel hb,k.lr,k.lx,k.rc.step hb,k.rd.step hb⟩
theorem Fc.nerd {y:Nat} (h:Fc 77 w y f) (k:RdR w x s):y≠x:=by obtain ⟨A,n,c,t,_⟩:=k;exact h.nex t (by decide)
theorem UB.call (k:UB v rc x s w) (ho:Oth [x] w w') (hr:RdR w' x s'):UB v rc x s' w' :=
 ⟨k.bel.trans (ho.below (fun j hj=>by rw [List.mem_singleton.1 hj];exact k.lx) k.bel.size),k.lr,k.lx,k.rc.oth ho (by simpa using k.rc.nerd k.rd),hr⟩
end
theorem untext20_any (A:Option Addr) (n c:Nat) (l:List UInt8) (w:World) (hr0:RB w w.heap.size A n l) (hn:n≤1000000) :
  Calls Tryz.prog 55 #[.slice A n c] w (RetTk (untextR l) w):=by
 have H0:=η hr0
 clear hr0
 obtain ⟨⟨N0,s1⟩,h1⟩:∃ r,numS 8 (0,l)=r:=⟨_,rfl⟩
 obtain ⟨⟨O,s2⟩,h2⟩:∃ r,shortS s1=r:=⟨_,rfl⟩
 obtain ⟨⟨S,s3⟩,h3⟩:∃ r,shortS s2=r:=⟨_,rfl⟩
 obtain ⟨⟨E,s4⟩,h4⟩:∃ r,endS s3=r:=⟨_,rfl⟩
 have HX:=η (untext_eq (s4:=(0,s4)) h1 h2 h3 h4)
 have HN0:Hid (N0<2 ^ 64):=η (by have:=numS_lt 8 (0,l);rw [h1] at this;exact this)
 have S1:=η h1
 have S2:=η h2
 have S3:=η h3
 have S4:=η h4
 clear h1 h2 h3 h4
 obtain ⟨X,HXX⟩:∃ X,Hid (untextR l=X):=⟨_,η rfl⟩
 rw [HXX.out] at HX ⊢
 go_enter Tryz.func55,Tryz.ntmps55
 go_wp2_with (first
  | (with_reducible show wpList _ _ _ (⟨some 2,.alloc _,_,_,_,none⟩::_) _ _;refine wpList_newF rt_tk rfl rfl ?_;intro w1 rc hc1 hb1 hx1;have H1:=η (And.intro hc1 (And.intro hb1 hx1));clear hc1 hb1 hx1))
 refine (read_any A n c l w1 (by exact H0.out.step H1.out.2.1) hn).mono ?_
 rintro e w2 ⟨x,rfl,hx,hb,hr⟩
 have K2:Hid (UB w rc x (0,l) w2):=η ⟨bel_next H1.out.2.1 hb,H1.out.2.2,Nat.le_trans H1.out.2.1.size hx,H1.out.1.step hb,hr⟩
 clear hx hb hr H1
 go_wp2_with fail
 refine (rnum_any x 8 (0,l) w2 (by exact K2.out.rd) (by decide)).mono ?_
 rw [S1.out]
 rintro e w3 ⟨rfl,ho,hr⟩
 have K3:=η (K2.out.call ho hr)
 clear ho hr K2
 go_wp2_with fail
 refine (rshort_any x s1 w3 (by exact K3.out.rd)).mono ?_
 rw [S2.out]
 rintro e w4 ⟨A4,n4,c4,rfl,ho4,ho,hr⟩
 have K4:=η (K3.out.call ho hr)
 have hl4:=ho4.len
 subst hl4
 have O4:=η (ho4.base_le K3.out.bel.size)
 clear ho hr ho4 K3
 go_wp2_with fail
 refine (rshort_any x s2 w4 (by exact K4.out.rd)).mono ?_
 rw [S3.out]
 rintro e w5 ⟨A5,n5,c5,rfl,ho5,ho,hr⟩
 have K5:=η (K4.out.call ho hr)
 have hl5:=ho5.len
 subst hl5
 obtain ⟨F,HFF⟩:∃ F:Fd,Hid (F=⟨N0,A4,c4,O,A5,c5,S⟩):=⟨_,η rfl⟩
 have HV:Hid (F.val=.agg #[.int .u64 (N0:Int),.slice A4 O.length c4,.slice A5 S.length c5]):=η (by rw [HFF.out];rfl)
 have O5:Hid (F.own w5 w.heap.size):=η (by rw [HFF.out];exact ⟨HN0.out,O4.out.offS ho K4.out.rd.nob,ho5.base_le K4.out.bel.size⟩)
 have HFT:Hid (F.tk=⟨N0,O,S⟩):=η (by rw [HFF.out];rfl)
 clear ho hr ho5 K4 O4
 go_wp2_with (first
  | (with_reducible show wpList _ _ _ (⟨some 5,.alloc _,_,_,_,none⟩::_) _ _;refine wpList_newF rt_tk rfl rfl ?_;intro w6 p hc6 hb6 hx6;have H6:=η (And.intro hc6 (And.intro hb6 hx6));clear hc6 hb6 hx6)
  | (refine wpList_stF rt_tk rfl (.tmp 5) (.tmp 15) rfl p rfl F zeroF (by exact HV.out.symm) (by exact H6.out.1) ?_;intro w7 hc7 ho7 hs7;have hb7:=H6.out.2.1.trans (ho7.below (fun j hj=>by rw [List.mem_singleton.1 hj];exact H6.out.2.2) H6.out.2.1.size);have K7:=η (K5.out.step hb7);have C7:=η hc7;have O7:=η (O5.out.step hb7);have LP:Hid (w.heap.size≤p∧rc<p):=η ⟨Nat.le_trans K5.out.bel.size H6.out.2.2,Nat.lt_of_lt_of_le K5.out.rc.blk.lt H6.out.2.2⟩;clear hc7 ho7 hs7 hb7 H6 K5 O5))
 refine (end_any x s3 w7 (by exact K7.out.rd)).mono ?_
 rw [S4.out]
 rintro e w8 ⟨rfl,ho,hr⟩
 have C8:=η (C7.out.oth ho (by simpa using C7.out.nerd K7.out.rd))
 have K8:=η (K7.out.call ho hr)
 have O8:=η (O7.out.off ho K7.out.rd.nob)
 clear ho hr K7 C7 O7
 by_cases hE:E=0
 rotate_left
 ·have hb:(E != 0)=true:=by simpa using hE
  have HE:Hid (X=(zTk,E)):=η (by rw [HX.out,if_neg hE])
  go_wp2_with (first
   | (refine wpList_stF rt_tk rfl (.tmp 2) (.tmp 20) rfl rc rfl zeroF zeroF rfl (by exact K8.out.rc) ?_;intro w9 hc9 ho9 hs9;have H9:=η (And.intro hc9 ho9);clear hc9 ho9 hs9))
  rw [HE.out]
  exact bodyPost_ret (v:=.tuple #[zeroF.val,.int .i64 E]) (res_rec2 rt_tk rfl _ _ rc zeroF.cells _ rfl rfl H9.out.1 rfl) rfl ⟨zeroF,rfl,rfl,Fd.own.zero _ _,K8.out.bel.trans (H9.out.2.below (fun j hj=>by rw [List.mem_singleton.1 hj];exact K8.out.lr) K8.out.bel.size)⟩
 have hb:(E != 0)=false:=by rw [hE];rfl
 have HFO:Hid (F.o=O∧F.s=S):=η (by rw [HFF.out];exact ⟨rfl,rfl⟩)
 go_wp2_with (first
  | (refine wpList_ldF rt_tk rfl (.tmp 5) rfl p rfl F (by exact C8.out) ?_))
 by_cases hl:20<O.length∨20<S.length
 ·have HE:Hid (X=(zTk,10)):=η (by rw [HX.out,if_pos hE,if_pos hl])
  refine (toolong20_any F w8 (by exact O8.out.ok) true (decide_eq_true (by rw [HFO.out.1,HFO.out.2];exact hl))).mono ?_
  rintro e w9 ⟨rfl,hb9⟩
  have K9:=η (K8.out.step hb9)
  clear hb9 hl
  go_wp2_with (first
   | (refine wpList_stF rt_tk rfl (.tmp 2) (.tmp 24) rfl rc rfl zeroF zeroF rfl (by exact K9.out.rc) ?_;intro wa hca hoa hsa;have HA:=η (And.intro hca hoa);clear hca hoa hsa))
  rw [HE.out]
  exact bodyPost_ret (v:=.tuple #[zeroF.val,.int .i64 10]) (res_rec2 rt_tk rfl _ _ rc zeroF.cells _ rfl rfl HA.out.1 rfl) rfl ⟨zeroF,rfl,rfl,Fd.own.zero _ _,K9.out.bel.trans (HA.out.2.below (fun j hj=>by rw [List.mem_singleton.1 hj];exact K9.out.lr) K9.out.bel.size)⟩
 ·have HE:Hid (X=(⟨N0,O,S⟩,0)):=η (by rw [HX.out,if_pos hE,if_neg hl])
  refine (toolong20_any F w8 (by exact O8.out.ok) false (decide_eq_false (by rw [HFO.out.1,HFO.out.2];exact hl))).mono ?_
  rintro e w9 ⟨rfl,hb9⟩
  have K9:=η (K8.out.step hb9)
  have C9:=η (C8.out.step hb9)
  have O9:=η (O8.out.step hb9)
  clear hb9 hl
  go_wp2_with (first
   | (refine wpList_ldF rt_tk rfl (.tmp 5) rfl p rfl F (by exact C9.out) ?_)
   | (refine wpList_stF rt_tk rfl (.tmp 2) (.tmp 25) rfl rc rfl F zeroF rfl (by exact K9.out.rc) ?_;intro wa hca hoa hsa;have HA:=η (And.intro hca hoa);clear hca hoa hsa))
  rw [HE.out]
  exact bodyPost_ret (v:=.tuple #[F.val,.int .i64 0]) (res_rec2 rt_tk rfl _ _ rc F.cells _ rfl rfl HA.out.1 rfl) rfl ⟨F,rfl,HFT.out,O9.out.off HA.out.2 (K9.out.rc.blk.nob (by decide)),K9.out.bel.trans (HA.out.2.below (fun j hj=>by rw [List.mem_singleton.1 hj];exact K9.out.lr) K9.out.bel.size)⟩
end Go.Proofs.YthppjgdnibfefaaGreat
namespace Go.Proofs.YthppjgdnibfefaaGreat
open Go.RowKit
attribute [local irreducible] putS putN shortP doneS putL numS shortS endS numL
attribute [local go_sem ↓] ex_ldF ex_stF ex_ldFr ex_stFr
theorem lit1T (n:Nat) (hn:n≤255):#[Value.int .u8 (n:Int)]=(bvs [UInt8.ofNat n]).toArray:=by
 simp only [bvs,bv,List.map_cons,List.map_nil,UInt8.toNat_ofNat',Array.mk.injEq,List.cons.injEq,Value.int.injEq,true_and,and_true]
 omega
theorem Fc.app {T:TypeId} {w w':World} {x base n c:Nat} {f:Fd} {A:Option Addr} {l:List UInt8} (k:Fc T w x f) (hT:T≠5) (r:OwnB w base A n c l) (ho:Oth (blkO A) w w'):Fc T w' x f:=k.blk.app hT r ho
theorem RdQ.of_new {w:World} {x n c:Nat} {A:Option Addr} {l:List UInt8} (k:Blk 267 w x [.slice A n c,.int .i64 0]) (h:RB w w.heap.size A n l) (h3:n≤c∧c≤maxLen∧n≤1000000):RdQ w x (0,l):=⟨A,n,c,k,h,h3⟩
structure UQ (v:World) (rc x:Nat) (s:Int×List UInt8) (w:World):Prop where
 bel:Below v.heap.size v w
 lr:v.heap.size≤rc
 lx:v.heap.size≤x
 rc:Fc 176 w rc zeroF
 rd:RdQ w x s
section
variable {v w w':World} {rc x:Nat} {s s':Int×List UInt8} {f:Fd}
theorem UQ.step (k:UQ v rc x s w) (hb:Below w.heap.size w w'):UQ v rc x s w':=⟨bel_next k.bel hb,k.lr,k.lx,k.rc.step hb,k.rd.step hb⟩
theorem Fc.nerq {y:Nat} (h:Fc 176 w y f) (k:RdQ w x s):y≠x:=by obtain ⟨A,n,c,t,_⟩:=k;exact h.nex t (by decide)
theorem UQ.call (k:UQ v rc x s w) (ho:Oth [x] w w') (hr:RdQ w' x s'):UQ v rc x s' w' :=
 ⟨k.bel.trans (ho.below (fun j hj=>by rw [List.mem_singleton.1 hj];exact k.lx) k.bel.size),k.lr,k.lx,k.rc.oth ho (by simpa using k.rc.nerq k.rd),hr⟩
theorem Fc.far {T:TypeId} {p B n:Nat} {A:Option Addr} {l:List UInt8} (h:Fc T w p f) (r:RB w B A n l) (hn:0<n):∀ g o,A=some ⟨g,o,none⟩→g∉[p]:=by
 intro g o e hg
 obtain rfl:g=p:=by simpa using hg
 obtain ⟨g',o',e',_,u,_,hc⟩:=r.at_ (k:=0) hn
 rw [e] at e'
 injection e' with e'
 injection e' with e1 e2
 subst e1
 rw [h.blk.cell,Nat.add_zero] at hc
 rcases o' with _ | _ | _ | k
 ·simp [Fd.cells,bv] at hc
 ·simp [Fd.cells,bv] at hc
 ·simp [Fd.cells,bv] at hc
 ·simp [Fd.cells] at hc
theorem RdQ.off {T:TypeId} {p:Nat} (h:RdQ w x s) (hp:Fc T w p f) (ho:Oth [p] w w') (hx:x∉[p]):RdQ w' x s:=by
 obtain ⟨A,n,c,h1,h2,h3⟩:=h
 exact ⟨A,n,c,h1.oth ho hx,h2.oth ho (hp.far h2),h3⟩
theorem UQ.put {p:Nat} (k:UQ v rc x s w) (h:Fc 176 w p f) (hp:v.heap.size≤p) (hne:p≠rc) (ho:Oth [p] w w'):UQ v rc x s w' :=
 ⟨k.bel.trans (ho.below (fun j hj=>by rw [List.mem_singleton.1 hj];exact hp) k.bel.size),k.lr,k.lx,k.rc.oth ho (by simpa using Ne.symm hne),k.rd.off h ho (by simpa using Ne.symm (h.nerq k.rd))⟩
end
end Go.Proofs.YthppjgdnibfefaaGreat
