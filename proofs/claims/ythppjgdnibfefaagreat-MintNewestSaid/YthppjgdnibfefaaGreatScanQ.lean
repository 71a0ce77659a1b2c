import Derived.Test.YthppjgdnibfefaaGreatScanRd
set_option linter.all false
set_option maxRecDepth 100000
set_option maxHeartbeats 32000000
namespace Go.Proofs.YthppjgdnibfefaaGreat
open Tryz
open Go.RowKit
theorem CjK (x:Nat) (z:Int) (s:Int×List UInt8) (w:World) (h:RdQ w x s) (he:s.1≠0) :
  Calls prog 204 #[.pointer (some ⟨x,0,none⟩),.int .i64 z] w (RdL RdQ x ([],s) w):=by
 have HW:=η h
 obtain ⟨A,m,c,h1,h2⟩:=h
 have hc1:=h1.c1
 have hb:(s.1 == 0)=false:=by simpa using he
 have hb2:(s.1 != 0)=true:=by simpa using he
 clear h1 h2
 go_enter func204,ntmps204
 go_wp2_with fail
 go_ret
 exact ⟨none,0,0,rfl,OwnB.nil_ _ _,Oth.refl _ _,HW.o⟩
theorem RdQ.fail {w:World} {x:Nat} {l:YB} (h:RdQ w x (0,l)) (e:Int):Oth [x] w (w.setCell ⟨x,1,none⟩ (.int .i64 e))∧RdQ (w.setCell ⟨x,1,none⟩ (.int .i64 e)) x (e,l):=by
 have hrow:∀ {B n:Nat} {A:YA} {l:YB} (r:RB w B A n l),0<n→∀ g o,A=some ⟨g,o,none⟩→g∉[x]:=fun r=>h.row r
 obtain ⟨A,m,c,h1,h2,h3⟩:=h
 have ho:=(Oth.refl [x] w).set (x:=x) (by simp) 1 (.int .i64 e)
 exact ⟨ho,A,m,c,h1.set1 _,h2.oth ho (hrow h2),h3⟩
theorem EbY (x:Nat) (z:Int) (l:YB) (w:World) (h:RdQ w x (0,l)) (hz:z<0) :
  Calls prog 204 #[.pointer (some ⟨x,0,none⟩),.int .i64 z] w (RdL RdQ x ([],11,l) w):=by
 have HF:=η (h.fail 11)
 obtain ⟨A,m,c,h1,h2⟩:=h
 have hc1:=h1.c1
 have hf1:=h1.free 1
 have hc2:=(h1.set1 (.int .i64 11)).c1
 have hd:decide (z<0)=true:=decide_eq_true hz
 clear h1 h2
 go_enter func204,ntmps204
 go_wp2_with fail
 go_ret
 exact ⟨none,0,0,rfl,OwnB.nil_ _ _,HF.o⟩
theorem EbZ (x n:Nat) (l:YB) (w:World) (h:RdQ w x (0,l)) (hl:l.length<n) (hn:n≤9223372036854775807) :
  Calls prog 204 #[.pointer (some ⟨x,0,none⟩),.int .i64 (n:Int)] w (RdL RdQ x ([],12,l) w):=by
 have HF:=η (h.fail 12)
 obtain ⟨A,m,c,h1,h2,h3,h4,h5⟩:=h
 have hc1:=h1.c1
 have hc0:=h1.c0
 have hf1:=h1.free 1
 have hc2:=(h1.set1 (.int .i64 12)).c1
 have hm:=h2.len
 simp only at hm
 rw [hm] at hl
 have hd:decide ((n:Int)<0)=false:=decide_eq_false (by omega)
 have hd2:decide ((m:Int)<(n:Int))=true:=decide_eq_true (by omega)
 clear h1 h2 hm
 go_enter func204,ntmps204
 go_wp2_with fail
 go_ret
 exact ⟨none,0,0,rfl,OwnB.nil_ _ _,HF.o⟩
theorem CxY (x n:Nat) (l:YB) (w:World) (h:RdQ w x (0,l)) (hl:n≤l.length) :
  Calls prog 204 #[.pointer (some ⟨x,0,none⟩),.int .i64 (n:Int)] w (RdL RdQ x (l.take n,0,l.drop n) w):=by
 have hR:=h
 obtain ⟨A,m,c,h1,h2,h3,h4,h5⟩:=h
 have hm:=h2.len
 simp only at hm
 rw [hm] at hl
 have h0:=h1.c0
 have hxl:=h1.lt
 have hc1:=h1.c1
 have hd:decide ((n:Int)<0)=false:=decide_eq_false (by omega)
 have hd2:decide ((m:Int)<(n:Int))=false:=decide_eq_false (by omega)
 have hcut:=BsZ A m c n (by omega)
 have hcut2:=BvJ A m c n hl
 have hpart:=h2.part (i:=0) (j:=n) (c:=c) (by omega) hl h3
 rw [Nat.sub_zero,List.drop_zero] at hpart
 have hrest:=h2.part (i:=n) (j:=m) (c:=c) hl (Nat.le_refl _) h3
 rw [List.take_of_length_le (by simp only;omega)] at hrest
 have HP:=η hpart
 have HR:=η hrest
 have HT:=η h1
 have HW:=η hR
 obtain ⟨l1,HL1⟩:∃ l1,Hid (l1=l.take n):=⟨_,η rfl⟩
 obtain ⟨l2,HL2⟩:∃ l2,Hid (l2=l.drop n):=⟨_,η rfl⟩
 simp only at HP HR
 rw [←HL1.o] at HP ⊢
 rw [←HL2.o] at HR ⊢
 unfold maxLen at h4
 clear hpart hrest h2 hR h1 hm
 go_enter func204,ntmps204
 go_wp2_with (first
  | (at_builtin;refine AcQ rfl (.tmp 40) (.tmp 46) rfl w.heap.size _ _ _ [] rfl (OwnB.lit w _ [] #[] 0 rfl rfl (by unfold maxLen;omega) (Nat.le_refl _)) w.heap.size (cutA A c 0) n c l1 rfl (by exact HP.o.alloc (Nat.le_refl _) _) (by omega) (by simp) ?_;intro A1 c1 w1 hown1 _ hb1;have HO:=η hown1;have HB:=η ((AaK w _).trans hb1);have T2:=η (HT.o.step HB.o);have hd0:=T2.o.c0;have hd1:=T2.o.free 0;clear hown1 hb1))
 go_ret
 have hX:Oth [x] w1 (w1.setCell ⟨x,0,none⟩ (.slice (cutA A c n) (m - n) (c - n))):=(Oth.refl [x] w1).set (x:=x) (by simp) 0 _
 have hS:=HW.o.step HB.o
 have hO:=HO.o
 rw [List.nil_append,Nat.zero_add] at hO
 refine ⟨A1,n,c1,by simp,hO.oth hX (fun g o e=>by simpa using T2.o.own (by decide) hO g o e),(Oth.of_below HB.o).trans hX,cutA A c n,m - n,c - n,T2.o.set0 _,?_,by omega,by unfold maxLen;omega,by omega⟩
 exact (HR.o.step HB.o).oth hX (hS.row (HR.o.step HB.o))
theorem BgV (x:Nat) (z:Int) (s:Int×List UInt8) (w:World) (h:RdQ w x s) (hz:z≤9223372036854775807) :
  Calls prog 204 #[.pointer (some ⟨x,0,none⟩),.int .i64 z] w (RdL RdQ x (AeQ z s) w):=by
 unfold AeQ
 by_cases he:s.1=0
 ·obtain ⟨s1,l⟩:=s
  simp only at he;subst he;by_cases h0:z<0
  ·rw [if_pos h0,BeX]
   exact EbY x z l w h h0
  ·rw [if_neg h0]
   obtain ⟨n,rfl⟩:∃ n:Nat,z=(n:Int):=⟨z.toNat,by omega⟩;rw [Int.toNat_natCast];rcases Nat.lt_or_ge l.length n with hl | hl
   ·rw [AxY hl]
    exact EbZ x n l w h hl (by omega)
   ·rw [AoJ hl]
    exact CxY x n l w h hl
 ·by_cases h0:z<0
  ·rw [if_pos h0,BbJ he]
   exact CjK x z s w h he
  ·rw [if_neg h0,BcY he]
   exact CjK x z s w h he
theorem numT_1 {s:Int×List UInt8} (he:s.1≠0) (z:Int):numT z s=s:=by
 unfold numT
 split
 ·exact BbJ he 11
 ·rfl
theorem bytesS_1 {s:Int×List UInt8} (he:s.1≠0) (z:Int):AeQ z s=([],s):=by
 unfold AeQ
 split
 ·rw [BbJ he]
 ·rw [BcY he]
theorem qnum_err (x:Nat) (z:Int) (l:YB) (e0:Int) (he:e0≠0) (w:World) (h:RdQ w x (e0,l)) (hz:z≤9223372036854775807) :
  Calls prog 177 #[.pointer (some ⟨x,0,none⟩),.int .i64 z] w (RdN RdQ x (numS z (e0,l)) w):=by
 rw [ArQ]
 have hl:=BgX z (e0,l)
 obtain ⟨r,HR⟩:∃ r,Hid (r=AeQ z (numT z (e0,l))):=⟨_,η rfl⟩
 rw [←HR.o] at hl ⊢
 have HL:=η hl
 have HB:=η (BgV x z _ w h hz)
 have HO:=η (Oth.refl [x] w)
 rw [show AeQ z (e0,l)=r from by rw [HR.o,numT_1 (s:=(e0,l)) he z]] at HB
 obtain ⟨A,m,c,h1,h2⟩:=h
 have hc1:=h1.c1
 have hb:(e0 == 0)=false:=by simpa using he
 clear h1 h2 hl
 go_enter func177,ntmps177
 go_wp2_with fail
 refine HB.o.mono ?_
 rintro e w2 ⟨A2,n2,c2,rfl,ho2,hx2,hr2⟩
 have hn:=ho2.len
 have HN:=η (BvY A2 n2 c2 _ r.1 w2 ho2.rb (by have:=HL.o;omega))
 have HX:=η (And.intro (HO.o.trans hx2) hr2)
 clear ho2 hx2 hr2 hn
 go_wp2_with fail
 refine HN.o.mono ?_
 rintro e w3 ⟨rfl,rfl⟩
 go_wp2_with fail
 go_ret
 exact ⟨rfl,HX.o⟩
theorem qnum_neg (x:Nat) (z:Int) (l:YB) (hz0:z<0) (w:World) (h:RdQ w x (0,l)) (hz:z≤9223372036854775807) :
  Calls prog 177 #[.pointer (some ⟨x,0,none⟩),.int .i64 z] w (RdN RdQ x (numS z (0,l)) w):=by
 rw [ArQ]
 have hl:=BgX z (0,l)
 obtain ⟨r,HR⟩:∃ r,Hid (r=AeQ z (numT z (0,l))):=⟨_,η rfl⟩
 rw [←HR.o] at hl ⊢
 have HL:=η hl
 have HF:=η (h.fail 11)
 have HB:=η (BgV x z _ _ HF.o.2 hz)
 have HO:=η HF.o.1
 rw [show AeQ z (11,l)=r from by rw [HR.o,show numT z (0,l)=(0,l) from if_neg (by omega),show AeQ z (0,l)=([],11,l) from (if_pos hz0:AeQ z (0,l)=([],AoV (0,l) 11)),bytesS_1 (s:=(11,l)) (by simp)]] at HB
 obtain ⟨A,m,c,h1,h2⟩:=h
 have hc1:=h1.c1
 have hf1:=h1.free 1
 have hd:decide (z<0)=true:=decide_eq_true hz0
 clear h1 h2 hl
 go_enter func177,ntmps177
 go_wp2_with fail
 refine HB.o.mono ?_
 rintro e w2 ⟨A2,n2,c2,rfl,ho2,hx2,hr2⟩
 have hn:=ho2.len
 have HN:=η (BvY A2 n2 c2 _ r.1 w2 ho2.rb (by have:=HL.o;omega))
 have HX:=η (And.intro (HO.o.trans hx2) hr2)
 clear ho2 hx2 hr2 hn
 go_wp2_with fail
 refine HN.o.mono ?_
 rintro e w3 ⟨rfl,rfl⟩
 go_wp2_with fail
 go_ret
 exact ⟨rfl,HX.o⟩
theorem qnum_big (x:Nat) (z:Int) (l:YB) (hz0:8<z) (w:World) (h:RdQ w x (0,l)) (hz:z≤9223372036854775807) :
  Calls prog 177 #[.pointer (some ⟨x,0,none⟩),.int .i64 z] w (RdN RdQ x (numS z (0,l)) w):=by
 rw [ArQ]
 have hl:=BgX z (0,l)
 obtain ⟨r,HR⟩:∃ r,Hid (r=AeQ z (numT z (0,l))):=⟨_,η rfl⟩
 rw [←HR.o] at hl ⊢
 have HL:=η hl
 have HF:=η (h.fail 11)
 have HB:=η (BgV x z _ _ HF.o.2 hz)
 have HO:=η HF.o.1
 rw [show AeQ z (11,l)=r from by rw [HR.o,show numT z (0,l)=(11,l) from (if_pos hz0:numT z (0,l)=AoV (0,l) 11)]] at HB
 obtain ⟨A,m,c,h1,h2⟩:=h
 have hc1:=h1.c1
 have hf1:=h1.free 1
 have hd:decide (z<0)=false:=decide_eq_false (by omega)
 have hd2:decide (8<z)=true:=decide_eq_true hz0
 clear h1 h2 hl
 go_enter func177,ntmps177
 go_wp2_with fail
 refine HB.o.mono ?_
 rintro e w2 ⟨A2,n2,c2,rfl,ho2,hx2,hr2⟩
 have hn:=ho2.len
 have HN:=η (BvY A2 n2 c2 _ r.1 w2 ho2.rb (by have:=HL.o;omega))
 have HX:=η (And.intro (HO.o.trans hx2) hr2)
 clear ho2 hx2 hr2 hn
 go_wp2_with fail
 refine HN.o.mono ?_
 rintro e w3 ⟨rfl,rfl⟩
 go_wp2_with fail
 go_ret
 exact ⟨rfl,HX.o⟩
theorem qnum_ok (x:Nat) (z:Int) (l:YB) (hz0:0≤z) (hz1:z≤8) (w:World) (h:RdQ w x (0,l)) (hz:z≤9223372036854775807) :
  Calls prog 177 #[.pointer (some ⟨x,0,none⟩),.int .i64 z] w (RdN RdQ x (numS z (0,l)) w):=by
 rw [ArQ]
 have hl:=BgX z (0,l)
 obtain ⟨r,HR⟩:∃ r,Hid (r=AeQ z (numT z (0,l))):=⟨_,η rfl⟩
 rw [←HR.o] at hl ⊢
 have HL:=η hl
 have HB:=η (BgV x z _ w h hz)
 have HO:=η (Oth.refl [x] w)
 rw [show AeQ z (0,l)=r from by rw [HR.o,show numT z (0,l)=(0,l) from if_neg (by omega)]] at HB
 obtain ⟨A,m,c,h1,h2⟩:=h
 have hc1:=h1.c1
 have hd:decide (z<0)=false:=decide_eq_false (by omega)
 have hd2:decide (8<z)=false:=decide_eq_false (by omega)
 clear h1 h2 hl
 go_enter func177,ntmps177
 go_wp2_with fail
 refine HB.o.mono ?_
 rintro e w2 ⟨A2,n2,c2,rfl,ho2,hx2,hr2⟩
 have hn:=ho2.len
 have HN:=η (BvY A2 n2 c2 _ r.1 w2 ho2.rb (by have:=HL.o;omega))
 have HX:=η (And.intro (HO.o.trans hx2) hr2)
 clear ho2 hx2 hr2 hn
 go_wp2_with fail
 refine HN.o.mono ?_
 rintro e w3 ⟨rfl,rfl⟩
 go_wp2_with fail
 go_ret
 exact ⟨rfl,HX.o⟩
theorem DqK (x:Nat) (z:Int) (s:Int×List UInt8) (w:World) (h:RdQ w x s) (hz:z≤9223372036854775807) :
  Calls prog 177 #[.pointer (some ⟨x,0,none⟩),.int .i64 z] w (RdN RdQ x (numS z s) w):=by
 obtain ⟨e0,l⟩:=s
 by_cases he:e0=0
 ·subst he
  by_cases h0:z<0
  ·exact qnum_neg x z l h0 w h hz
  ·by_cases h8:8<z
   ·exact qnum_big x z l h8 w h hz
   ·exact qnum_ok x z l (by omega) (by omega) w h hz
 ·exact qnum_err x z l e0 he w h hz
theorem CxV (x n:Nat) (A0:YA) (m0 k0:Nat) (t s:Int×List UInt8) (w:World) (h:RdQ w x t) (h0:RB w w.heap.size A0 m0 s.2) (hm:m0≤k0∧k0≤maxLen∧m0≤1000000) (he:t.1≠0) :
  Calls prog 205 #[.pointer (some ⟨x,0,none⟩),.slice A0 m0 k0,.int .u64 (n:Int)] w (RdL RdQ x (AwZ (n,t) s) w):=by
 have HW:=η h
 have H0:=η h0
 obtain ⟨A,m,c,h1,h2⟩:=h
 have hc1:=h1.c1
 have hc0:=h1.c0
 have hf0:=h1.free 0
 have HT:=η h1
 have hb:(t.1 == 0)=false:=by simpa using he
 have hb2:(t.1 != 0)=true:=by simpa using he
 have HE:Hid (AwZ (n,t) s=([],t.1,s.2)):=η (by
  have e:AmV n t=([],t):=BcY he n
  exact (BeY (r:=(n,t)) (s:=s) (by simp only [e];exact he)).trans (by simp only [e]))
 clear h1 h2 h0
 go_enter func205,ntmps205
 go_wp2_with fail
 go_ret
 rw [HE.o]
 have hS:Oth [x] w (w.setCell ⟨x,0,none⟩ (.slice A0 m0 k0)):=(Oth.refl [x] w).set (x:=x) (by simp) 0 _
 exact ⟨none,0,0,rfl,OwnB.nil_ _ _,hS,A0,m0,k0,HT.o.set0 _,H0.o.oth hS (HW.o.row H0.o),hm⟩
theorem CxW (x n:Nat) (A0:YA) (m0 k0:Nat) (l:YB) (s:Int×List UInt8) (w:World) (h:RdQ w x (0,l)) (h0:RB w w.heap.size A0 m0 s.2) (hm:m0≤k0∧k0≤maxLen∧m0≤1000000) (hn:l.length<n) :
  Calls prog 205 #[.pointer (some ⟨x,0,none⟩),.slice A0 m0 k0,.int .u64 (n:Int)] w (RdL RdQ x (AwZ (n,0,l) s) w):=by
 have HF:=η (h.fail 12)
 have HW:=η h
 have H0:=η h0
 obtain ⟨A,m,c,h1,h2,h3,h4,h5⟩:=h
 have hc1:=h1.c1
 have hc0:=h1.c0
 have hf1:=h1.free 1
 have T1:=η (h1.set1 (.int .i64 12))
 have hd1:=T1.o.c1
 have hd0:=T1.o.c0
 have hf0:=T1.o.free 0
 have hl:=h2.len
 simp only at hl
 rw [hl] at hn
 have hd:decide ((m:Int)<(n:Int))=true:=decide_eq_true (by omega)
 have HE:Hid (AwZ (n,0,l) s=([],12,s.2)):=η (by
  have e:AmV n (0,l)=([],12,l):=AxY (by omega)
  exact (BeY (r:=(n,0,l)) (s:=s) (by simp only [e];decide)).trans (by simp only [e]))
 clear h1 h2 h0 hl
 go_enter func205,ntmps205
 go_wp2_with fail
 go_ret
 rw [HE.o]
 have X1:=(Oth.refl [x] w).set (x:=x) (by simp) 1 (.int .i64 12)
 have X2:=X1.set (x:=x) (by simp) 0 (.slice A0 m0 k0)
 exact ⟨none,0,0,rfl,OwnB.nil_ _ _,X2,A0,m0,k0,T1.o.set0 _,H0.o.oth X2 (HW.o.row H0.o),hm⟩
theorem DiV (x n:Nat) (A0:YA) (m0 k0:Nat) (l:YB) (s:Int×List UInt8) (w:World) (h:RdQ w x (0,l)) (hn:n≤l.length) :
  Calls prog 205 #[.pointer (some ⟨x,0,none⟩),.slice A0 m0 k0,.int .u64 (n:Int)] w (RdL RdQ x (AwZ (n,0,l) s) w):=by
 have HQ:=η (CxY x n l w h hn)
 obtain ⟨A,m,c,h1,h2,h3,h4,h5⟩:=h
 have hc1:=h1.c1
 have hc0:=h1.c0
 have hl:=h2.len
 simp only at hl
 have HE:Hid (AwZ (n,0,l) s=(l.take n,0,l.drop n)):=η (by
  have e:AmV n (0,l)=(l.take n,0,l.drop n):=AoJ hn
  exact (CeY (r:=(n,0,l)) (s:=s) (by simp only [e])).trans e)
 rw [hl] at hn
 have hd:decide ((m:Int)<(n:Int))=false:=decide_eq_false (by omega)
 clear h1 h2 hl
 go_enter func205,ntmps205
 go_wp2_with fail
 refine HQ.o.mono ?_
 rintro e w1 ⟨A1,n1,c1,rfl,hr⟩
 go_wp2_with fail
 go_ret
 rw [HE.o]
 exact ⟨A1,n1,c1,rfl,hr⟩
theorem CxX (x n:Nat) (A0:YA) (m0 k0:Nat) (t s:Int×List UInt8) (w:World) (h:RdQ w x t) (h0:RB w w.heap.size A0 m0 s.2) (hm:m0≤k0∧k0≤maxLen∧m0≤1000000) :
  Calls prog 205 #[.pointer (some ⟨x,0,none⟩),.slice A0 m0 k0,.int .u64 (n:Int)] w (RdL RdQ x (AwZ (n,t) s) w):=by
 by_cases he:t.1=0
 ·obtain ⟨t1,l⟩:=t
  simp only at he;subst he;rcases Nat.lt_or_ge l.length n with hl | hl
  ·exact CxW x n A0 m0 k0 l s w h h0 hm hl
  ·exact DiV x n A0 m0 k0 l s w h hl
 ·exact CxV x n A0 m0 k0 t s w h h0 hm he
theorem CjJ (x:Nat) (s:Int×List UInt8) (w:World) (h:RdQ w x s) :
  Calls prog 178 #[.pointer (some ⟨x,0,none⟩)] w (RdL RdQ x (AfY s) w):=by
 have HW:=η h
 have HN:=η (DqK x 1 s w h (by decide))
 obtain ⟨A,m,c,h1,h2,h3⟩:=h
 have hc0:=h1.c0
 have H2:=η (And.intro h2 h3)
 obtain ⟨v,HV⟩:∃ v,Hid (v=(numS 1 s)):=⟨_,η rfl⟩
 have HE:Hid (AfY s=AwZ v s):=η (by rw [HV.o];rfl)
 rw [←HV.o] at HN
 clear h1 h2 h3
 go_enter func178,ntmps178
 go_wp2_with fail
 refine HN.o.mono ?_
 rintro e w1 ⟨rfl,ho,hr⟩
 have HC:=η (CxX x v.1 A m c v.2 s w1 hr (H2.o.1.oth ho (HW.o.row H2.o.1)) H2.o.2)
 have HO:=η ho
 clear ho hr
 go_wp2_with fail
 refine HC.o.mono ?_
 intro e w2 hr
 obtain ⟨A2,n2,c2,rfl,hr2⟩:=hr.base HO.o
 clear hr
 go_wp2_with fail
 go_ret
 rw [HE.o]
 exact ⟨A2,n2,c2,rfl,hr2⟩
theorem qend_any (x:Nat) (s:Int×List UInt8) (w:World) (h:RdQ w x s) :
  Calls prog 179 #[.pointer (some ⟨x,0,none⟩)] w fun e w'=>e=.returned (.int .i64 (endS s).1)∧Oth [x] w w'∧RdQ w' x (endS s):=by
 have HW:=η h
 have hh:=h
 obtain ⟨A,m,c,h1,h2,h3,h4,h5⟩:=hh
 have hc0:=h1.c0
 have hc1:=h1.c1
 have hl:=h2.len
 by_cases he:s.1=0
 ·obtain ⟨s1,l⟩:=s
  simp only at he;subst he;simp only at hl;have HF:=η (h.fail 10);by_cases hm:0<m
  ·have hE:endS (0,l)=(10,l):=(if_pos (by simp only;omega):endS (0,l)=AoV (0,l) 10)
   rw [hE];have hd:decide (0<(m:Int))=true:=decide_eq_true (by omega);have hf1:=h1.free 1;have hd1:=(h1.set1 (.int .i64 10)).c1;clear h h1 h2 hl hE;go_enter func179,ntmps179;go_wp2_with fail;go_ret;exact ⟨rfl,HF.o⟩
  ·have hE:endS (0,l)=(0,l):=if_neg (by simp only;omega)
   rw [hE];have hd:decide (0<(m:Int))=false:=decide_eq_false (by omega);clear h h1 h2 hl hE;go_enter func179,ntmps179;go_wp2_with fail;go_ret;exact ⟨rfl,Oth.refl _ _,HW.o⟩
 ·have hE:endS s=s:=by
   unfold endS;split
   ·exact BbJ he 10
   ·rfl
  rw [hE];have hb:(s.1 == 0)=false:=by simpa using he
  clear h h1 h2 hl hE;go_enter func179,ntmps179;go_wp2_with fail;go_ret;exact ⟨rfl,Oth.refl _ _,HW.o⟩
