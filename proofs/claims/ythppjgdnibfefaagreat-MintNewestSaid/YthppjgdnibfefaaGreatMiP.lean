import Derived.Test.YthppjgdnibfefaaGreatTkL
import Derived.Test.YthppjgdnibfefaaGreatSt
set_option linter.all false
set_option maxRecDepth 100000
set_option maxHeartbeats 32000000
namespace Go.Proofs.YthppjgdnibfefaaGreat
structure Pn where
 m:Int
 sh:Bool
 t:Int
 life:Nat
deriving DecidableEq
def AcX (p:Pn):Bool:=decide ((0≤p.m∧p.m≤2)∧(1≤p.t∧p.t≤65535)∧p.life≤1099511627776)
structure Oc where
 k:Int
 c:Bool
 e:Int
 b:List UInt8
 u:Int
deriving DecidableEq
def fwd (c:Bool):Oc:=⟨0,c,0,[],0⟩
def drp (e:Int):Oc:=⟨2,false,e,[],0⟩
def mdo (b:YB):Oc:=⟨1,false,0,b,20⟩
def AfK (r:YB):List UInt8:=200::r.take 8
def AfV (now life:Nat):Nat:=if now+life<18446744073709551616 then now+life else 18446744073709551615
def AcJ (s:Rg) (life:Nat) (c:YB) (p:IPl) (now:Nat) (r:YB):Oc :=
 if s=[] then drp 17 else if r.length<20 then drp 21 else
 let t:=AjZ s (newR s).1 ((r.drop 8).take 12) c ⟨AfV now life,p.1.2.2.1,AfK r⟩
 if t.2≠0 then drp t.2 else
 let b:=AiX p.1.2.2.2 (AfK r) p.1.2.2.1 t.1
 if b.2≠0 then drp b.2 else mdo b.1
structure Ms where
 p:Pn
 s:Rg
 n:Int
 l:Int
 f:Int
 m:Int
 d:Int
def AbQ (k:Ms):Bool:=k.p.m == 2 || (k.p.m == 1 && (decide (k.p.t≤k.n) || decide (k.p.t≤k.l)))
def BbW (t:YB):Bool:=decide (t=[]∨128≤fstT t)
def outM (k:Ms) (c:YB) (p:IPl) (now:Nat) (r:YB):Oc :=
 if BbW p.2.1 then (if AbQ k then AcJ k.s k.p.life c p now r else fwd false)
 else if (!AbQ k && k.p.sh)=true then fwd false
 else
  let o:=AdQ k.s c p.2.1 now
  if o.2=0 then fwd true else if (!AbQ k)=true∨o.2=13 then drp o.2 else AcJ k.s k.p.life c p now r
def cntM (k:Ms) (o:Oc):Ms:={ k with f:=if o.k=0 then k.f+1 else k.f,m:=if o.k=1 then k.m+1 else k.m,d:=if o.k=2 then k.d+1 else k.d }
def AbK (k:Ms):Ms:={ k with n:=k.n+1 }
def DzJ (k:Ms) (c:YB) (p:IPl) (now:Nat) (r:YB):Ms×Oc:=(cntM (AbK k) (outM (AbK k) c p now r),outM (AbK k) c p now r)
def AuK (k:Ms):Ms:={ k with l:=k.n,n:=0 }
def setM (k:Ms) (p:Pn):Ms×Int:=if AcX p then ({ k with p:=p },0) else (k,11)
def newM (p:Pn):Ms:=⟨p,[],0,0,0,0,0⟩
def EfV (k:Ms):Ms:={ k with f:=0,m:=0,d:=0 }
section
variable {s:Rg} {life now now':Nat} {c c' r t b:YB} {p:IPl} {k:Ms} {e:Int}
theorem AmY (h:20≤r.length):(AfK r).length=9:=by unfold AfK;rw [List.length_cons,List.length_take];omega
theorem CmV (h:now<2 ^ 64):AfV now life<2 ^ 64:=by unfold AfV;split <;> omega
theorem until_ge (h:now<2 ^ 64):now≤AfV now life:=by unfold AfV;split <;> omega
theorem ByV (h:now<2 ^ 64) (hl:now'<2 ^ 64):¬AfV now life<now' ↔ now'≤now∨now' - now≤life:=by unfold AfV;split <;> omega
theorem EhZ (h:now≤2 ^ 60) (hl:life≤1099511627776):AfV now life=now+life:=by unfold AfV;rw [if_pos (by omega)]
theorem DjK (h:s≠[]):hasR s (newR s).1=true:=by
 rw [BmV h]
 exact BwZ.2 (List.mem_map.2 ⟨_,List.getLast_mem h,rfl⟩)
theorem retry_k:(AcJ s life c p now r).k=1∨(AcJ s life c p now r).k=2:=by
 unfold AcJ
 split
 ·exact .inr rfl
 ·split
  ·exact .inr rfl
  ·dsimp only
   split
   ·exact .inr rfl
   ·split
    ·exact .inr rfl
    ·exact .inl rfl
theorem AyJ (ok:okR s) (hn:now<2 ^ 64) (h:(AcJ s life c p now r).k=1) :
  s≠[]∧20≤r.length∧c.length≤64∧p.1.2.2.1.length≤20∧p.1.2.2.2.length≤20 ∧
  ∃ t,t=(AjZ s (newR s).1 ((r.drop 8).take 12) c ⟨AfV now life,p.1.2.2.1,AfK r⟩).1∧t.length=48+p.1.2.2.1.length∧fstT t=(newR s).1 ∧
  AcJ s life c p now r=mdo (AdW p.1.2.2.2 (AfK r) t++stL p.1.2.2.1 (AdW p.1.2.2.2 (AfK r) t)) ∧
  (∀ x,AdQ s c t x=if AfV now life<x then (zTk,20) else (⟨AfV now life,p.1.2.2.1,AfK r⟩,0)):=by
 unfold AcJ at h ⊢
 by_cases hs:s=[]
 ·rw [if_pos hs] at h;exact absurd h (by decide)
 rw [if_neg hs] at h ⊢
 by_cases hr:r.length<20
 ·rw [if_pos hr] at h;exact absurd h (by decide)
 rw [if_neg hr] at h ⊢
 dsimp only at h ⊢
 have hv:=DjK hs
 have h12:((r.drop 8).take 12).length=12:=by rw [List.length_take,List.length_drop];omega
 have hsc:=AmY (r:=r) (by omega)
 by_cases ht:(AjZ s (newR s).1 ((r.drop 8).take 12) c ⟨AfV now life,p.1.2.2.1,AfK r⟩).2=0
 ·rw [if_neg (fun g=>g ht)] at h ⊢
  have hc:c.length≤64:=by
   apply Classical.byContradiction;intro hc;unfold AjZ at ht;rw [if_neg (by rw [hv];decide),if_pos (.inr (by omega))] at ht;exact absurd ht (by decide)
  have hf:Tk.few ⟨AfV now life,p.1.2.2.1,AfK r⟩:=by
   apply Classical.byContradiction;intro hf;unfold AjZ at ht
   have hx:BcX ⟨AfV now life,p.1.2.2.1,AfK r⟩=([],15):=by
    unfold BcX;refine if_pos ?_;unfold Tk.few at hf;simp only at hf ⊢;omega
   rw [if_neg (by rw [hv];decide),if_neg (by omega),hx,if_pos (by decide)] at ht;exact absurd ht (by decide)
  have hto:p.1.2.2.1.length≤20:=hf.1;have hb:=ErY ok hv h12 hc hf (CmV hn);have hy:=BfZ hv h12 hc hf;generalize hT:AjZ s (newR s).1 ((r.drop 8).take 12) c ⟨AfV now life,p.1.2.2.1,AfK r⟩=T at *
  have hl:T.1.length=48+p.1.2.2.1.length:=by
   rw [hy];show (UInt8.ofNat (newR s).1.toNat::_).length=_;rw [List.length_cons,List.length_append,AuW _ _ _ (AwV ok hv) h12,AqJ,h12];simp only [hsc];omega
  have hfst:fstT T.1=(newR s).1:=by rw [hy];exact fst_q (EaZ ok hv) _
  by_cases hfr:p.1.2.2.2.length≤20
  ·have hm:=DoX (to:=p.1.2.2.2) (frm:=AfK r) (id:=p.1.2.2.1) (tok:=T.1) hfr (by omega) hto (by omega) (by omega)
   rw [hm] at h ⊢;rw [if_neg (by simp)];exact ⟨hs,by omega,hc,hto,hfr,T.1,rfl,hl,hfst,rfl,hb⟩
  ·have hm:AiX p.1.2.2.2 (AfK r) p.1.2.2.1 T.1=([],15):=by
    unfold AiX;exact if_pos (.inl (by omega))
   rw [hm,if_pos (by decide)] at h;exact absurd h (by decide)
 ·rw [if_pos ht] at h;exact absurd h (show ¬((2:Int)=1) by decide)
theorem BeK {to frm sc t:YB} (h1:to.length≤20) (h2:frm.length≤20) (h3:sc.length≤20) (h4:1≤t.length) (h5:t.length≤4096) :
  sprs (AdW frm sc t++stL to (AdW frm sc t))=(((255,1,frm,sc),t,stL to (AdW frm sc t)),0)∧BjQ (AdW frm sc t++stL to (AdW frm sc t)) to=0:=by
 refine ⟨CvJ frm sc t _ h2 h3 h4 (AuV _ _),?_⟩
 rw [DgX frm sc t _ to h2 h3 h4 (AuV _ _) h1 h5,if_pos rfl]
end
section
variable {s:Rg} {life now now':Nat} {c c' r t b:YB} {p:IPl} {k:Ms} {e:Int}
theorem own_shut (ok:okR s) (h:BbW t=true):¬((AdQ s c t now).2=0∧t≠[]):=by
 rintro ⟨h0,hne⟩
 unfold BbW at h
 have h:=of_decide_eq_true h
 rcases h with h | h
 ·exact hne h
 unfold AdQ at h0
 split at h0
 ·exact absurd h0 (by decide)
 ·split at h0
  ·exact absurd h0 (by decide)
  ·rename_i hv
   have hv:hasR s (fstT t)=true:=by simpa using hv
   have:=EaZ ok hv;omega
theorem own_no {q:Int} (hf:fstT t=q) (hl:0<t.length) (hq:q≤127):BbW t=false:=by
 unfold BbW
 refine decide_eq_false (fun h=>?_)
 rcases h with h | h
 ·rw [h] at hl;exact absurd hl (Nat.lt_irrefl 0)
 ·omega
theorem EbK (h:(AcJ s life c p now r).k=2):(AcJ s life c p now r).e≠0∧(AcJ s life c p now r).b=[]∧(AcJ s life c p now r).u=0:=by
 unfold AcJ at h ⊢
 split
 ·exact ⟨by decide,rfl,rfl⟩
 ·rename_i h1
  rw [if_neg h1] at h;split
  ·exact ⟨by decide,rfl,rfl⟩
  ·rename_i h2
   rw [if_neg h2] at h;dsimp only at h ⊢;split
   ·rename_i h3;exact ⟨h3,rfl,rfl⟩
   ·rename_i h3
    rw [if_neg h3] at h;split
    ·rename_i h4;exact ⟨h4,rfl,rfl⟩
    ·rename_i h4
     rw [if_neg h4] at h;exact absurd h (show ¬((1:Int)=2) by decide)
theorem BlX (hs:s≠[]) (h:r.length<20):AcJ s life c p now r=drp 21:=by
 unfold AcJ
 rw [if_neg hs,if_pos h]
theorem BpX:AcJ [] life c p now r=drp 17:=by
 unfold AcJ
 rw [if_pos rfl]
theorem BmQ (ok:okR k.s):((outM k c p now r).k=0∧(outM k c p now r).b=[]∧(outM k c p now r).u=0∧(AbQ k=true→(AdQ k.s c p.2.1 now).2=0∧p.2.1≠[])∧((outM k c p now r).c=true→(AdQ k.s c p.2.1 now).2=0∧p.2.1≠[])) ∨
  ((outM k c p now r).k=1∧AbQ k=true∧¬((AdQ k.s c p.2.1 now).2=0∧p.2.1≠[])∧outM k c p now r=AcJ k.s k.p.life c p now r) ∨
  ((outM k c p now r).k=2∧(outM k c p now r).e≠0∧(outM k c p now r).b=[]∧(outM k c p now r).u=0∧¬((AdQ k.s c p.2.1 now).2=0∧p.2.1≠[])):=by
 have hret:∀ (ha:AbQ k=true) (hno:¬((AdQ k.s c p.2.1 now).2=0∧p.2.1≠[])) (ho:outM k c p now r=AcJ k.s k.p.life c p now r),
   ((outM k c p now r).k=1∧AbQ k=true∧¬((AdQ k.s c p.2.1 now).2=0∧p.2.1≠[])∧outM k c p now r=AcJ k.s k.p.life c p now r) ∨
   ((outM k c p now r).k=2∧(outM k c p now r).e≠0∧(outM k c p now r).b=[]∧(outM k c p now r).u=0∧¬((AdQ k.s c p.2.1 now).2=0∧p.2.1≠[])):=by
  intro ha hno ho
  rcases retry_k (s:=k.s) (life:=k.p.life) (c:=c) (p:=p) (now:=now) (r:=r) with h1 | h2
  ·exact .inl ⟨by rw [ho];exact h1,ha,hno,ho⟩
  ·obtain ⟨a1,a2,a3⟩:=EbK h2
   exact .inr ⟨by rw [ho];exact h2,by rw [ho];exact a1,by rw [ho];exact a2,by rw [ho];exact a3,hno⟩
 cases hown:BbW p.2.1
 ·have hne:p.2.1≠[]:=fun e=>by rw [e] at hown;exact absurd hown (by decide)
  cases hsh:(!AbQ k && k.p.sh)
  ·by_cases h0:(AdQ k.s c p.2.1 now).2=0
   ·have ho:outM k c p now r=fwd true:=by unfold outM;rw [if_neg (by rw [hown];decide),if_neg (by rw [hsh];decide)];exact if_pos h0
    left;rw [ho];exact ⟨rfl,rfl,rfl,fun _=>⟨h0,hne⟩,fun _=>⟨h0,hne⟩⟩
   ·right
    by_cases hd:(!AbQ k)=true∨(AdQ k.s c p.2.1 now).2=13
    ·have ho:outM k c p now r=drp (AdQ k.s c p.2.1 now).2:=by
      unfold outM;rw [if_neg (by rw [hown];decide),if_neg (by rw [hsh];decide)];show (if _ then _ else _)=_;rw [if_neg h0,if_pos hd]
     right;rw [ho];exact ⟨rfl,h0,rfl,rfl,fun g=>h0 g.1⟩
    ·have ho:outM k c p now r=AcJ k.s k.p.life c p now r:=by
      unfold outM;rw [if_neg (by rw [hown];decide),if_neg (by rw [hsh];decide)];show (if _ then _ else _)=_;rw [if_neg h0,if_neg hd]
     exact hret (by
      cases ha:AbQ k
      ·exact absurd (.inl (by rw [ha];rfl)) hd
      ·rfl) (fun g=>h0 g.1) ho
  ·have ho:outM k c p now r=fwd false:=by unfold outM;rw [if_neg (by rw [hown];decide),if_pos hsh]
   left;rw [ho];refine ⟨rfl,rfl,rfl,fun ha=>?_,fun h=>?_⟩
   ·rw [ha] at hsh;simp at hsh
   ·exact absurd h (by decide)
 ·have hno:=own_shut (c:=c) (now:=now) ok hown
  cases ha:AbQ k
  ·have ho:outM k c p now r=fwd false:=by unfold outM;rw [if_pos hown,if_neg (by rw [ha];decide)]
   left;rw [ho];exact ⟨rfl,rfl,rfl,fun h=>absurd h (by decide),fun h=>absurd h (by decide)⟩
  ·have ho:outM k c p now r=AcJ k.s k.p.life c p now r:=by unfold outM;rw [if_pos hown,if_pos ha]
   right;have:=hret ha hno ho;rw [ha] at this;exact this
theorem BqW {q:Int} (hf:fstT p.2.1=q) (hl:0<p.2.1.length) (hq:q≤127):outM k c p now r=if (!AbQ k && k.p.sh)=true then fwd false else if (AdQ k.s c p.2.1 now).2=0 then fwd true else if (!AbQ k)=true∨(AdQ k.s c p.2.1 now).2=13 then drp (AdQ k.s c p.2.1 now).2 else AcJ k.s k.p.life c p now r:=by
 unfold outM
 rw [if_neg (by rw [own_no hf hl hq];decide)]
theorem act_more {n:Int} (h:AbQ k=true) (hn:k.n≤n):AbQ { k with n:=n }=true:=by
 unfold AbQ at h ⊢
 simp only [Bool.or_eq_true,Bool.and_eq_true,decide_eq_true_eq] at h ⊢
 rcases h with h | ⟨h1,h2 | h2⟩
 ·exact .inl h
 ·exact .inr ⟨h1,.inl (by omega)⟩
 ·exact .inr ⟨h1,.inr h2⟩
theorem FbW {q:Int} {u:Nat} {f:Tk} (hs:k.s≠[]) (hf:fstT p.2.1=q) (hl:0<p.2.1.length) (hq:q≤127) (hsh:(!AbQ k && k.p.sh)=false) (hO:AdQ k.s c p.2.1 now=if u<now then (zTk,20) else (f,0)) :
  (¬u<now→outM k c p now []=fwd true)∧(u<now→(outM k c p now []).k=2):=by
 rw [BqW hf hl hq,if_neg (by rw [hsh];decide),hO]
 refine ⟨fun h=>?_,fun h=>?_⟩
 ·rw [if_neg h];exact if_pos rfl
 ·rw [if_pos h]
  show (if (20:Int)=0 then _ else _:Oc).k=2;rw [if_neg (by decide)];split
  ·rfl
  ·rw [BlX hs (by decide)];rfl
theorem DmQ {q:Int} (hf:fstT p.2.1=q) (hl:0<p.2.1.length) (hq:q≤127) (hsh:(!AbQ k && k.p.sh)=false) (hO:(AdQ k.s c p.2.1 now).2=13):outM k c p now r=drp 13:=by
 rw [BqW hf hl hq,if_neg (by rw [hsh];decide),hO,if_neg (by decide),if_pos (.inr rfl)]
theorem DrX {q:Int} {T:YB} (ok:okR s) (hv:hasR s q=true) (hf:fstT T=q) (hl:29≤T.length∧T.length≤4096) (hc:c.length≤64) (hb:(AmK (keyR s q) ((T.drop 1).take 12) (T.drop 13) (AnX q c)).2≠0):AdQ s c T now=(zTk,13):=by
 unfold AdQ
 rw [if_neg (by omega),hf,if_neg (by rw [hv];decide),if_neg (by omega)]
 unfold DlZ
 simp only
 rw [if_pos hb]
theorem DgW {n:Int} (h:(!AbQ k && k.p.sh)=false) (hn:k.n≤n):(!AbQ { k with n:=n } && ({ k with n:=n }:Ms).p.sh)=false:=by
 cases ha:AbQ k
 ·rw [ha] at h
  have hsh:k.p.sh=false:=by simpa using h
  show (!AbQ { k with n:=n } && k.p.sh)=false;rw [hsh,Bool.and_false]
 ·rw [act_more ha hn]
  rfl
end
theorem CxQ {s:Rg} {life now:Nat} {c r:YB} {p:IPl} (ok:okR s) (hs:s≠[]) (hr:20≤r.length) (hc:c.length≤64) (ht:p.1.2.2.1.length≤20) (hf:p.1.2.2.2.length≤20):(AcJ s life c p now r).k=1:=by
 have hv:=DjK hs
 have h12:((r.drop 8).take 12).length=12:=by rw [List.length_take,List.length_drop];omega
 have hsc:=AmY hr
 have hfew:Tk.few ⟨AfV now life,p.1.2.2.1,AfK r⟩:=⟨ht,by show (AfK r).length≤20;omega⟩
 have hy:=BfZ hv h12 hc hfew
 unfold AcJ
 rw [if_neg hs,if_neg (by omega),hy]
 dsimp only
 rw [if_neg (by simp)]
 have hl:(UInt8.ofNat (newR s).1.toNat::((r.drop 8).take 12++(ApW (keyR s (newR s).1) ((r.drop 8).take 12) (rawT ⟨AfV now life,p.1.2.2.1,AfK r⟩) (AnX (newR s).1 c)).1)).length=48+p.1.2.2.1.length:=by
  rw [List.length_cons,List.length_append,AuW _ _ _ (AwV ok hv) h12,AqJ,h12];simp only [hsc];omega
 rw [DoX hf (by omega) ht (by rw [hl];omega) (by rw [hl];omega),if_neg (by simp)]
 rfl
