import Derived.Test.YthppjgdnibfefaaGreatTkL
import Derived.Test.YthppjgdnibfefaaGreatSt
set_option linter.all false
set_option maxRecDepth 100000
set_option maxHeartbeats 32000000
namespace Go.Proofs.YthppjgdnibfefaaGreat
structure Pn where
 m:Int
 sh:Bool
 t:Int
 life:Nat
deriving DecidableEq
def AcW (p:Pn):Bool:=decide ((0≤p.m∧p.m≤2)∧(1≤p.t∧p.t≤65535)∧p.life≤1099511627776)
structure Oc where
 k:Int
 c:Bool
 e:Int
 b:List UInt8
 u:Int
deriving DecidableEq
def fwd (c:Bool):Oc:=⟨0,c,0,[],0⟩
def drp (e:Int):Oc:=⟨2,false,e,[],0⟩
def mdo (b:YB):Oc:=⟨1,false,0,b,20⟩
def AiV (r:YB):List UInt8:=200::r.take 8
def AgZ (now life:Nat):Nat:=if now+life<18446744073709551616 then now+life else 18446744073709551615
def AbW (s:Rg) (life:Nat) (c:YB) (p:IPl) (now:Nat) (r:YB):Oc :=
 if s=[] then drp 17 else if r.length<20 then drp 21 else
 let t:=AiQ s (newR s).1 ((r.drop 8).take 12) c ⟨AgZ now life,p.1.2.2.1,AiV r⟩
 if t.2≠0 then drp t.2 else
 let b:=AhJ p.1.2.2.2 (AiV r) p.1.2.2.1 t.1
 if b.2≠0 then drp b.2 else mdo b.1
structure Ms where
 p:Pn
 s:Rg
 n:Int
 l:Int
 f:Int
 m:Int
 d:Int
def AdW (k:Ms):Bool:=k.p.m == 2 || (k.p.m == 1 && (decide (k.p.t≤k.n) || decide (k.p.t≤k.l)))
def AzX (t:YB):Bool:=decide (t=[]∨128≤fstT t)
def outM (k:Ms) (c:YB) (p:IPl) (now:Nat) (r:YB):Oc :=
 if AzX p.2.1 then (if AdW k then AbW k.s k.p.life c p now r else fwd false)
 else if (!AdW k && k.p.sh)=true then fwd false
 else
  let o:=AdJ k.s c p.2.1 now
  if o.2=0 then fwd true else if (!AdW k)=true∨o.2=13 then drp o.2 else AbW k.s k.p.life c p now r
def cntM (k:Ms) (o:Oc):Ms:={ k with f:=if o.k=0 then k.f+1 else k.f,m:=if o.k=1 then k.m+1 else k.m,d:=if o.k=2 then k.d+1 else k.d }
def AgQ (k:Ms):Ms:={ k with n:=k.n+1 }
def EiV (k:Ms) (c:YB) (p:IPl) (now:Nat) (r:YB):Ms×Oc:=(cntM (AgQ k) (outM (AgQ k) c p now r),outM (AgQ k) c p now r)
def AsX (k:Ms):Ms:={ k with l:=k.n,n:=0 }
def setM (k:Ms) (p:Pn):Ms×Int:=if AcW p then ({ k with p:=p },0) else (k,11)
def newM (p:Pn):Ms:=⟨p,[],0,0,0,0,0⟩
def AvW (k:Ms):Ms:={ k with f:=0,m:=0,d:=0 }
section
variable {s:Rg} {life now now':Nat} {c c' r t b:YB} {p:IPl} {k:Ms} {e:Int}
theorem DnX (h:20≤r.length):(AiV r).length=9:=by unfold AiV;rw [List.length_cons,List.length_take];omega
theorem CkQ (h:now<2 ^ 64):AgZ now life<2 ^ 64:=by unfold AgZ;split <;> omega
theorem EtK (h:s≠[]):hasR s (newR s).1=true:=by
 rw [ByX h]
 exact BkW.2 (List.mem_map.2 ⟨_,List.getLast_mem h,rfl⟩)
theorem retry_k:(AbW s life c p now r).k=1∨(AbW s life c p now r).k=2:=by
 unfold AbW
 split
 ·exact .inr rfl
 ·split
  ·exact .inr rfl
  ·dsimp only
   split
   ·exact .inr rfl
   ·split
    ·exact .inr rfl
    ·exact .inl rfl
theorem EaJ (ok:okR s) (hn:now<2 ^ 64) (h:(AbW s life c p now r).k=1) :
  s≠[]∧20≤r.length∧c.length≤64∧p.1.2.2.1.length≤20∧p.1.2.2.2.length≤20 ∧
  ∃ t,t=(AiQ s (newR s).1 ((r.drop 8).take 12) c ⟨AgZ now life,p.1.2.2.1,AiV r⟩).1∧t.length=48+p.1.2.2.1.length∧fstT t=(newR s).1 ∧
  AbW s life c p now r=mdo (AfJ p.1.2.2.2 (AiV r) t++stL p.1.2.2.1 (AfJ p.1.2.2.2 (AiV r) t)) ∧
  (∀ x,AdJ s c t x=if AgZ now life<x then (zTk,20) else (⟨AgZ now life,p.1.2.2.1,AiV r⟩,0)):=by
 unfold AbW at h ⊢
 by_cases hs:s=[]
 ·rw [if_pos hs] at h;exact absurd h (by decide)
 rw [if_neg hs] at h ⊢
 by_cases hr:r.length<20
 ·rw [if_pos hr] at h;exact absurd h (by decide)
 rw [if_neg hr] at h ⊢
 dsimp only at h ⊢
 have hv:=EtK hs
 have h12:((r.drop 8).take 12).length=12:=by rw [List.length_take,List.length_drop];omega
 have hsc:=DnX (r:=r) (by omega)
 by_cases ht:(AiQ s (newR s).1 ((r.drop 8).take 12) c ⟨AgZ now life,p.1.2.2.1,AiV r⟩).2=0
 ·rw [if_neg (fun g=>g ht)] at h ⊢
  have hc:c.length≤64:=by
   apply Classical.byContradiction;intro hc;unfold AiQ at ht;rw [if_neg (by rw [hv];decide),if_pos (.inr (by omega))] at ht;exact absurd ht (by decide)
  have hf:Tk.few ⟨AgZ now life,p.1.2.2.1,AiV r⟩:=by
   apply Classical.byContradiction;intro hf;unfold AiQ at ht
   have hx:BaW ⟨AgZ now life,p.1.2.2.1,AiV r⟩=([],15):=by
    unfold BaW;refine if_pos ?_;unfold Tk.few at hf;simp only at hf ⊢;omega
   rw [if_neg (by rw [hv];decide),if_neg (by omega),hx,if_pos (by decide)] at ht;exact absurd ht (by decide)
  have hto:p.1.2.2.1.length≤20:=hf.1;have hb:=ErJ ok hv h12 hc hf (CkQ hn);have hy:=BdZ hv h12 hc hf;generalize hT:AiQ s (newR s).1 ((r.drop 8).take 12) c ⟨AgZ now life,p.1.2.2.1,AiV r⟩=T at *
  have hl:T.1.length=48+p.1.2.2.1.length:=by
   rw [hy];show (UInt8.ofNat (newR s).1.toNat::_).length=_;rw [List.length_cons,List.length_append,AsZ _ _ _ (AyY ok hv) h12,AoV,h12];simp only [hsc];omega
  have hfst:fstT T.1=(newR s).1:=by rw [hy];exact fst_q (rng_q ok hv) _
  by_cases hfr:p.1.2.2.2.length≤20
  ·have hm:=DnJ (to:=p.1.2.2.2) (frm:=AiV r) (id:=p.1.2.2.1) (tok:=T.1) hfr (by omega) hto (by omega) (by omega)
   rw [hm] at h ⊢;rw [if_neg (by simp)];exact ⟨hs,by omega,hc,hto,hfr,T.1,rfl,hl,hfst,rfl,hb⟩
  ·have hm:AhJ p.1.2.2.2 (AiV r) p.1.2.2.1 T.1=([],15):=by
    unfold AhJ;exact if_pos (.inl (by omega))
   rw [hm,if_pos (by decide)] at h;exact absurd h (by decide)
 ·rw [if_pos ht] at h;exact absurd h (show ¬((2:Int)=1) by decide)
theorem EtZ {to frm sc t:YB} (h1:to.length≤20) (h2:frm.length≤20) (h3:sc.length≤20) (h4:1≤t.length) (h5:t.length≤4096) :
  sprs (AfJ frm sc t++stL to (AfJ frm sc t))=(((255,1,frm,sc),t,stL to (AfJ frm sc t)),0)∧BgZ (AfJ frm sc t++stL to (AfJ frm sc t)) to=0:=by
 refine ⟨CtV frm sc t _ h2 h3 h4 (BgW _ _),?_⟩
 rw [DeX frm sc t _ to h2 h3 h4 (BgW _ _) h1 h5,if_pos rfl]
end
section
variable {s:Rg} {life now now':Nat} {c c' r t b:YB} {p:IPl} {k:Ms} {e:Int}
theorem own_shut (ok:okR s) (h:AzX t=true):¬((AdJ s c t now).2=0∧t≠[]):=by
 rintro ⟨h0,hne⟩
 unfold AzX at h
 have h:=of_decide_eq_true h
 rcases h with h | h
 ·exact hne h
 unfold AdJ at h0
 split at h0
 ·exact absurd h0 (by decide)
 ·split at h0
  ·exact absurd h0 (by decide)
  ·rename_i hv
   have hv:hasR s (fstT t)=true:=by simpa using hv
   have:=rng_q ok hv;omega
theorem own_no {q:Int} (hf:fstT t=q) (hl:0<t.length) (hq:q≤127):AzX t=false:=by
 unfold AzX
 refine decide_eq_false (fun h=>?_)
 rcases h with h | h
 ·rw [h] at hl;exact absurd hl (Nat.lt_irrefl 0)
 ·omega
theorem EaK (h:(AbW s life c p now r).k=2):(AbW s life c p now r).e≠0∧(AbW s life c p now r).b=[]∧(AbW s life c p now r).u=0:=by
 unfold AbW at h ⊢
 split
 ·exact ⟨by decide,rfl,rfl⟩
 ·rename_i h1
  rw [if_neg h1] at h;split
  ·exact ⟨by decide,rfl,rfl⟩
  ·rename_i h2
   rw [if_neg h2] at h;dsimp only at h ⊢;split
   ·rename_i h3;exact ⟨h3,rfl,rfl⟩
   ·rename_i h3
    rw [if_neg h3] at h;split
    ·rename_i h4;exact ⟨h4,rfl,rfl⟩
    ·rename_i h4
     rw [if_neg h4] at h;exact absurd h (show ¬((1:Int)=2) by decide)
theorem ByJ (hs:s≠[]) (h:r.length<20):AbW s life c p now r=drp 21:=by
 unfold AbW
 rw [if_neg hs,if_pos h]
theorem BnJ:AbW [] life c p now r=drp 17:=by
 unfold AbW
 rw [if_pos rfl]
theorem out_ways (ok:okR k.s):((outM k c p now r).k=0∧(outM k c p now r).b=[]∧(outM k c p now r).u=0∧(AdW k=true→(AdJ k.s c p.2.1 now).2=0∧p.2.1≠[])∧((outM k c p now r).c=true→(AdJ k.s c p.2.1 now).2=0∧p.2.1≠[])) ∨
  ((outM k c p now r).k=1∧AdW k=true∧¬((AdJ k.s c p.2.1 now).2=0∧p.2.1≠[])∧outM k c p now r=AbW k.s k.p.life c p now r) ∨
  ((outM k c p now r).k=2∧(outM k c p now r).e≠0∧(outM k c p now r).b=[]∧(outM k c p now r).u=0∧¬((AdJ k.s c p.2.1 now).2=0∧p.2.1≠[])):=by
 have hret:∀ (ha:AdW k=true) (hno:¬((AdJ k.s c p.2.1 now).2=0∧p.2.1≠[])) (ho:outM k c p now r=AbW k.s k.p.life c p now r),
   ((outM k c p now r).k=1∧AdW k=true∧¬((AdJ k.s c p.2.1 now).2=0∧p.2.1≠[])∧outM k c p now r=AbW k.s k.p.life c p now r) ∨
   ((outM k c p now r).k=2∧(outM k c p now r).e≠0∧(outM k c p now r).b=[]∧(outM k c p now r).u=0∧¬((AdJ k.s c p.2.1 now).2=0∧p.2.1≠[])):=by
  intro ha hno ho
  rcases retry_k (s:=k.s) (life:=k.p.life) (c:=c) (p:=p) (now:=now) (r:=r) with h1 | h2
  ·exact .inl ⟨by rw [ho];exact h1,ha,hno,ho⟩
  ·obtain ⟨a1,a2,a3⟩:=EaK h2
   exact .inr ⟨by rw [ho];exact h2,by rw [ho];exact a1,by rw [ho];exact a2,by rw [ho];exact a3,hno⟩
 cases hown:AzX p.2.1
 ·have hne:p.2.1≠[]:=fun e=>by rw [e] at hown;exact absurd hown (by decide)
  cases hsh:(!AdW k && k.p.sh)
  ·by_cases h0:(AdJ k.s c p.2.1 now).2=0
   ·have ho:outM k c p now r=fwd true:=by unfold outM;rw [if_neg (by rw [hown];decide),if_neg (by rw [hsh];decide)];exact if_pos h0
    left;rw [ho];exact ⟨rfl,rfl,rfl,fun _=>⟨h0,hne⟩,fun _=>⟨h0,hne⟩⟩
   ·right
    by_cases hd:(!AdW k)=true∨(AdJ k.s c p.2.1 now).2=13
    ·have ho:outM k c p now r=drp (AdJ k.s c p.2.1 now).2:=by
      unfold outM;rw [if_neg (by rw [hown];decide),if_neg (by rw [hsh];decide)];show (if _ then _ else _)=_;rw [if_neg h0,if_pos hd]
     right;rw [ho];exact ⟨rfl,h0,rfl,rfl,fun g=>h0 g.1⟩
    ·have ho:outM k c p now r=AbW k.s k.p.life c p now r:=by
      unfold outM;rw [if_neg (by rw [hown];decide),if_neg (by rw [hsh];decide)];show (if _ then _ else _)=_;rw [if_neg h0,if_neg hd]
     exact hret (by
      cases ha:AdW k
      ·exact absurd (.inl (by rw [ha];rfl)) hd
      ·rfl) (fun g=>h0 g.1) ho
  ·have ho:outM k c p now r=fwd false:=by unfold outM;rw [if_neg (by rw [hown];decide),if_pos hsh]
   left;rw [ho];refine ⟨rfl,rfl,rfl,fun ha=>?_,fun h=>?_⟩
   ·rw [ha] at hsh;simp at hsh
   ·exact absurd h (by decide)
 ·have hno:=own_shut (c:=c) (now:=now) ok hown
  cases ha:AdW k
  ·have ho:outM k c p now r=fwd false:=by unfold outM;rw [if_pos hown,if_neg (by rw [ha];decide)]
   left;rw [ho];exact ⟨rfl,rfl,rfl,fun h=>absurd h (by decide),fun h=>absurd h (by decide)⟩
  ·have ho:outM k c p now r=AbW k.s k.p.life c p now r:=by unfold outM;rw [if_pos hown,if_pos ha]
   right;have:=hret ha hno ho;rw [ha] at this;exact this
theorem DhJ {q:Int} (hf:fstT p.2.1=q) (hl:0<p.2.1.length) (hq:q≤127):outM k c p now r=if (!AdW k && k.p.sh)=true then fwd false else if (AdJ k.s c p.2.1 now).2=0 then fwd true else if (!AdW k)=true∨(AdJ k.s c p.2.1 now).2=13 then drp (AdJ k.s c p.2.1 now).2 else AbW k.s k.p.life c p now r:=by
 unfold outM
 rw [if_neg (by rw [own_no hf hl hq];decide)]
theorem open_tag {q:Int} {T:YB} (ok:okR s) (hv:hasR s q=true) (hf:fstT T=q) (hl:29≤T.length∧T.length≤4096) (hc:c.length≤64) (hb:(AlQ (keyR s q) ((T.drop 1).take 12) (T.drop 13) (AnJ q c)).2≠0):AdJ s c T now=(zTk,13):=by
 unfold AdJ
 rw [if_neg (by omega),hf,if_neg (by rw [hv];decide),if_neg (by omega)]
 unfold DjZ
 simp only
 rw [if_pos hb]
end
theorem CvW {s:Rg} {life now:Nat} {c r:YB} {p:IPl} (ok:okR s) (hs:s≠[]) (hr:20≤r.length) (hc:c.length≤64) (ht:p.1.2.2.1.length≤20) (hf:p.1.2.2.2.length≤20):(AbW s life c p now r).k=1:=by
 have hv:=EtK hs
 have h12:((r.drop 8).take 12).length=12:=by rw [List.length_take,List.length_drop];omega
 have hsc:=DnX hr
 have hfew:Tk.few ⟨AgZ now life,p.1.2.2.1,AiV r⟩:=⟨ht,by show (AiV r).length≤20;omega⟩
 have hy:=BdZ hv h12 hc hfew
 unfold AbW
 rw [if_neg hs,if_neg (by omega),hy]
 dsimp only
 rw [if_neg (by simp)]
 have hl:(UInt8.ofNat (newR s).1.toNat::((r.drop 8).take 12++(AoJ (keyR s (newR s).1) ((r.drop 8).take 12) (rawT ⟨AgZ now life,p.1.2.2.1,AiV r⟩) (AnJ (newR s).1 c)).1)).length=48+p.1.2.2.1.length:=by
  rw [List.length_cons,List.length_append,AsZ _ _ _ (AyY ok hv) h12,AoV,h12];simp only [hsc];omega
 rw [DnJ hf (by omega) ht (by rw [hl];omega) (by rw [hl];omega),if_neg (by simp)]
 rfl
