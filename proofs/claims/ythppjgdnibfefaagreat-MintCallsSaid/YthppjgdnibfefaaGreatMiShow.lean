import Derived.Test.YthppjgdnibfefaaGreatMiP
set_option linter.all false
set_option maxRecDepth 100000
set_option maxHeartbeats 32000000
namespace Go.Proofs.YthppjgdnibfefaaGreat
def zipX (l m:List Nat):List Nat:=List.zipWith (· ^^^ ·) l m
theorem DaK (h:Nat):∀ (l m:List Nat) (f g:Nat),l.length=m.length→AiJ h (f ^^^ g) (zipX l m)=AiJ h f l ^^^ AiJ h g m
 | [],[],f,g,_=>rfl
 | a::l,b::m,f,g,e=>by
  have ih:=DaK h l m (gMul (f ^^^ a) h) (gMul (g ^^^ b) h) (by simpa using e);have e2:AiJ h (f ^^^ g) (zipX (a::l) (b::m))=AiJ h (gMul ((f ^^^ g) ^^^ (a ^^^ b)) h) (zipX l m):=rfl;rw [e2,xor4,BkZ,ih];rfl
theorem bB_inj {x y:Nat} (hx:x<2 ^ 128) (hy:y<2 ^ 128) (h:bB x=bB y):x=y:=by
 have h1:=o_eB (x / 2 ^ 64) (x % 2 ^ 64) (by omega) (by omega)
 have h2:=o_eB (y / 2 ^ 64) (y % 2 ^ 64) (by omega) (by omega)
 unfold bB at h
 rw [h] at h1
 have a:=h1.1.symm.trans h2.1
 have b:=h1.2.symm.trans h2.2
 omega
theorem CxW:bks [4,5]=[5342873467432337629757880722767478784]∧bks [4,6]=[5348065764290872457386411219096698880]:=by decide +kernel
theorem EsZ:AiJ 136792598789324718765670228683992083246 (gMul (0 ^^^ 5348065764290872457386411219096698880) 136792598789324718765670228683992083246 ^^^ gMul (0 ^^^ 5342873467432337629757880722767478784) 136792598789324718765670228683992083246) [0,0,0]≠0:=by decide +kernel
theorem EiW {n ct:YB} (hn:n.length=12) (hct:16<ct.length∧ct.length≤32):tagL zr16 n ct [4,6]≠tagL zr16 n ct [4,5]:=by
 intro e
 have henc:(encL zr16 tableL (fstL n)).length=16:=BfK _ _ _ rfl (BfJ n hn)
 rw [←DmV,←DmV,hk_shown] at e
 have e2:=congrArg (fun t=>xorL t (encL zr16 tableL (fstL n))) e
 (try simp only at e2)
 rw [CdX _ _ (CiY _) henc,CdX _ _ (CiY _) henc] at e2
 have hk:nB keyL<2 ^ 128:=by rw [EuX];decide
 have e3:=bB_inj (DeQ _ hk _ _) (DeQ _ hk _ _) e2
 unfold sumG sumN at e3
 rw [CxW.1,CxW.2,EuX] at e3
 have hb:(bks ct).length=2:=by rw [CpZ];omega
 obtain ⟨c1,c2,hc⟩:∃ c1 c2,bks ct=[c1,c2]:=by
  match bks ct,hb with
  | [a,b],_=>exact ⟨a,b,rfl⟩
 have hl1:(bks (AhX ([4,5]:YB).length++AhX ct.length)).length=1:=by
  rw [CpZ,List.length_append,AwY,AwY]
 obtain ⟨z,hz⟩:∃ z,bks (AhX ([4,5]:YB).length++AhX ct.length)=[z]:=by
  match bks (AhX ([4,5]:YB).length++AhX ct.length),hl1 with
  | [a],_=>exact ⟨a,rfl⟩
 have hz6:bks (AhX ([4,6]:YB).length++AhX ct.length)=[z]:=hz
 rw [hz,hz6,hc] at e3
 have f6:∀ x:Nat,AiJ 136792598789324718765670228683992083246 0 ([x]++[c1,c2]++[z])=AiJ 136792598789324718765670228683992083246 (gMul (0 ^^^ x) 136792598789324718765670228683992083246) [c1,c2,z]:=fun x=>rfl
 rw [f6,f6] at e3
 have hx:=DaK 136792598789324718765670228683992083246 [c1,c2,z] [c1,c2,z] (gMul (0 ^^^ 5348065764290872457386411219096698880) 136792598789324718765670228683992083246) (gMul (0 ^^^ 5342873467432337629757880722767478784) 136792598789324718765670228683992083246) rfl
 rw [e3,Nat.xor_self] at hx
 have h0:zipX [c1,c2,z] [c1,c2,z]=[0,0,0]:=by simp [zipX]
 rw [h0] at hx
 exact EsZ hx
def S4m:Rg:=[(4,zr16)]
def P0m:Pn:=⟨2,false,1,10⟩
def R20m:List UInt8:=[1,2,3,4,5,6,7,8,9,10,11,12,13,14,15,16,17,18,19,20]
def H0m:Pl:=(0,0,[7,8],[9])
theorem ok4m:okR S4m:=⟨by decide,by decide,by decide⟩
theorem inst4m:AjZ [] 4 zr16=(S4m,0):=by decide +kernel
theorem made4m:∃ t st,t.length=50∧fstT t=4∧st=stL [7,8] (AfJ [9] (AiV R20m) t)∧AbW S4m 10 [5] (H0m,[],[]) 100 R20m=mdo (AfJ [9] (AiV R20m) t++st) ∧
  sprs (AfJ [9] (AiV R20m) t++st)=(((255,1,[9],AiV R20m),t,st),0)∧BgZ (AfJ [9] (AiV R20m) t++st) [7,8]=0 ∧
  (∀ x,AdJ S4m [5] t x=if 110<x then (zTk,20) else (⟨110,[7,8],AiV R20m⟩,0))∧AdJ S4m [6] t 110=(zTk,13):=by
 have hk:=CvW (s:=S4m) (life:=10) (now:=100) (c:=[5]) (r:=R20m) (p:=(H0m,[],[])) ok4m (by decide) (by decide) (by decide) (by decide) (by decide)
 obtain ⟨_,_,_,_,_,t,ht,hl,hf,hm,ho⟩:=EaJ ok4m (show 100<2 ^ 64 by decide) hk
 have hn:(newR S4m).1=4:=by decide
 have hu:AgZ 100 10=110:=by decide
 have h12:((R20m.drop 8).take 12).length=12:=by decide
 have hv:hasR S4m 4=true:=by decide
 have hkey:keyR S4m 4=zr16:=by decide
 rw [hn] at ht hf
 rw [hu] at ht ho
 have hl2:t.length=50:=hl
 have hr:=EtZ (to:=[7,8]) (frm:=[9]) (sc:=AiV R20m) (t:=t) (by decide) (by decide) (by decide) (by omega) (by omega)
 refine ⟨t,_,hl2,hf,rfl,hm,hr.1,hr.2,ho,?_⟩
 refine open_tag ok4m hv hf (by omega) (by decide) ?_
 have hfew:Tk.few ⟨110,H0m.2.2.1,AiV R20m⟩:=⟨by decide,by decide⟩
 have hy:=BdZ (s:=S4m) (q:=4) (n:=(R20m.drop 8).take 12) (c:=[5]) (f:=⟨110,H0m.2.2.1,AiV R20m⟩) hv h12 (by decide) hfew
 rw [hy] at ht
 have ht:=ht
 dsimp only at ht
 rw [hkey,BsY _ _ _ h12] at ht
 obtain ⟨p1,p2⟩:=CsV h12 (UInt8.ofNat (4:Int).toNat) (trnL zr16 ((R20m.drop 8).take 12) (rawT ⟨110,H0m.2.2.1,AiV R20m⟩)++tagL zr16 ((R20m.drop 8).take 12) (trnL zr16 ((R20m.drop 8).take 12) (rawT ⟨110,H0m.2.2.1,AiV R20m⟩)) (AnJ 4 [5]))
 have ht2:t=UInt8.ofNat (4:Int).toNat::((R20m.drop 8).take 12++(trnL zr16 ((R20m.drop 8).take 12) (rawT ⟨110,H0m.2.2.1,AiV R20m⟩)++tagL zr16 ((R20m.drop 8).take 12) (trnL zr16 ((R20m.drop 8).take 12) (rawT ⟨110,H0m.2.2.1,AiV R20m⟩)) (AnJ 4 [5]))):=ht
 rw [hkey,ht2,p1,p2]
 have hct:(trnL zr16 ((R20m.drop 8).take 12) (rawT ⟨110,H0m.2.2.1,AiV R20m⟩)).length=21:=by
  rw [AmV _ _ _ rfl h12,AoV];rfl
 generalize trnL zr16 ((R20m.drop 8).take 12) (rawT ⟨110,H0m.2.2.1,AiV R20m⟩)=ct at hct ⊢
 have htg:=ArK zr16 ((R20m.drop 8).take 12) ct (AnJ 4 [5]) rfl h12
 have hne:=EiW (n:=(R20m.drop 8).take 12) (ct:=ct) h12 (by omega)
 generalize hT:tagL zr16 ((R20m.drop 8).take 12) ct (AnJ 4 [5])=T at htg ⊢
 have e1:(ct++T).length - 16=ct.length:=by rw [List.length_append,htg];omega
 unfold AlQ
 rw [if_pos h12,if_neg (by rw [List.length_append,htg];omega),e1,List.take_left,List.drop_left,if_neg (by rw [←hT];exact hne)]
 show ¬((13:Int)=0)
 decide
section
variable {k:Ms} {t L:YB}
theorem EfQ (hp:k.p=P0m):AdW k=true:=by unfold AdW;rw [hp];rfl
theorem al_a (hp:k.p=P0m) (hs:k.s=[]):outM k [5] (H0m,[],[]) 100 R20m=drp 17:=by
 unfold outM
 rw [if_pos (by decide),EfQ hp,hs,if_pos rfl]
 exact BnJ
theorem al_b (hp:k.p=P0m) (hs:k.s=S4m) (hm:AbW S4m 10 [5] (H0m,[],[]) 100 R20m=mdo L):outM k [5] (H0m,[],[]) 100 R20m=mdo L:=by
 unfold outM
 rw [if_pos (by decide),EfQ hp,hs,hp,if_pos rfl]
 exact hm
theorem al_c (hp:k.p=P0m) (hs:k.s=S4m):outM k [5] (H0m,[],[]) 100 (R20m.take 19)=drp 21:=by
 unfold outM
 rw [if_pos (by decide),EfQ hp,hs,if_pos rfl]
 exact ByJ (s:=S4m) (r:=R20m.take 19) (by decide) (by decide)
theorem al_d (hp:k.p=P0m) (hs:k.s=S4m) (hl:t.length=50) (hf:fstT t=4) (ho:∀ x,AdJ S4m [5] t x=if 110<x then (zTk,20) else (⟨110,[7,8],AiV R20m⟩,0)):outM k [5] (H0m,t,[]) 110 []=fwd true:=by
 rw [DhJ (p:=(H0m,t,[])) hf (by show 0<t.length;omega) (by decide),EfQ hp,hs,if_neg (by simp)]
 show (if (AdJ S4m [5] t 110).2=0 then _ else _)=_
 rw [show AdJ S4m [5] t 110=(⟨110,[7,8],AiV R20m⟩,0) from (ho 110).trans (if_neg (by decide))]
 exact if_pos rfl
theorem al_h (hp:k.p=P0m) (hs:k.s=S4m) (hl:t.length=50) (hf:fstT t=4) (ho:AdJ S4m [6] t 110=(zTk,13)):outM k [6] (H0m,t,[]) 110 []=drp 13:=by
 rw [DhJ (p:=(H0m,t,[])) hf (by show 0<t.length;omega) (by decide),EfQ hp,hs,if_neg (by simp)]
 show (if (AdJ S4m [6] t 110).2=0 then _ else _)=_
 rw [ho,if_neg (by decide),if_pos (.inr rfl)]
theorem al_i (hp:k.p=P0m) (hs:k.s=S4m) (hl:t.length=50) (hf:fstT t=4) (ho:∀ x,AdJ S4m [5] t x=if 110<x then (zTk,20) else (⟨110,[7,8],AiV R20m⟩,0)):(outM k [5] (H0m,t,[]) 111 R20m).k=1:=by
 rw [DhJ (p:=(H0m,t,[])) hf (by show 0<t.length;omega) (by decide),EfQ hp,hs,if_neg (by simp)]
 have e:(if (AdJ S4m [5] t 111).2=0 then fwd true else if (!true)=true∨(AdJ S4m [5] t 111).2=13 then drp (AdJ S4m [5] t 111).2 else AbW S4m k.p.life [5] (H0m,t,[]) 111 R20m)=AbW S4m k.p.life [5] (H0m,t,[]) 111 R20m:=by
  rw [show AdJ S4m [5] t 111=(zTk,20) from (ho 111).trans (if_pos (by decide)),if_neg (by decide),if_neg (by decide)]
 show (if (AdJ S4m [5] t 111).2=0 then fwd true else if (!true)=true∨(AdJ S4m [5] t 111).2=13 then drp (AdJ S4m [5] t 111).2 else AbW S4m k.p.life [5] (H0m,t,[]) 111 R20m).k=1
 rw [e]
 exact CvW ok4m (by decide) (by decide) (by decide) (show ([7,8]:YB).length≤20 by decide) (show ([9]:YB).length≤20 by decide)
end
