/- Layer 21, plain: what becomes of an Initial. Nothing is claimed of the program here. -/
import Derived.Test.YthppjgdnibfefaaGreatTkL
import Derived.Test.YthppjgdnibfefaaGreatSt
set_option linter.unusedVariables false
set_option linter.unusedSimpArgs false
set_option maxRecDepth 100000
set_option maxHeartbeats 32000000
namespace Go.Proofs.YthppjgdnibfefaaGreat
structure Pn where
 m:Int
 sh:Bool
 t:Int
 life:Nat
deriving DecidableEq
def rightP (p:Pn):Bool:=decide ((0≤p.m∧p.m≤2)∧(1≤p.t∧p.t≤65535)∧p.life≤1099511627776)
structure Oc where
 k:Int
 c:Bool
 e:Int
 b:List UInt8
 u:Int
deriving DecidableEq
def fwd (c:Bool):Oc:=⟨0,c,0,[],0⟩
def drp (e:Int):Oc:=⟨2,false,e,[],0⟩
def mdo (b:List UInt8):Oc:=⟨1,false,0,b,20⟩
def scidL (r:List UInt8):List UInt8:=200::r.take 8
def untilM (now life:Nat):Nat:=if now+life<18446744073709551616 then now+life else 18446744073709551615
def retryM (s:Rg) (life:Nat) (c:List UInt8) (p:IPl) (now:Nat) (r:List UInt8):Oc :=
 if s=[] then drp 17 else if r.length<20 then drp 21 else
 let t:=sealT s (newR s).1 ((r.drop 8).take 12) c ⟨untilM now life,p.1.2.2.1,scidL r⟩
 if t.2≠0 then drp t.2 else
 let b:=smakeR p.1.2.2.2 (scidL r) p.1.2.2.1 t.1
 if b.2≠0 then drp b.2 else mdo b.1
structure Ms where
 p:Pn
 s:Rg
 n:Int
 l:Int
 f:Int
 m:Int
 d:Int
def activeM (k:Ms):Bool:=k.p.m == 2 || (k.p.m == 1 && (decide (k.p.t≤k.n) || decide (k.p.t≤k.l)))
def ownTok (t:List UInt8):Bool:=decide (t=[]∨128≤fstT t)
def outM (k:Ms) (c:List UInt8) (p:IPl) (now:Nat) (r:List UInt8):Oc :=
 if ownTok p.2.1 then (if activeM k then retryM k.s k.p.life c p now r else fwd false)
 else if (!activeM k && k.p.sh)=true then fwd false
 else
  let o:=openT k.s c p.2.1 now
  if o.2=0 then fwd true else if (!activeM k)=true∨o.2=13 then drp o.2 else retryM k.s k.p.life c p now r
def cntM (k:Ms) (o:Oc):Ms:={ k with f:=if o.k=0 then k.f+1 else k.f,m:=if o.k=1 then k.m+1 else k.m,d:=if o.k=2 then k.d+1 else k.d }
def seenM (k:Ms):Ms:={ k with n:=k.n+1 }
def takeM (k:Ms) (c:List UInt8) (p:IPl) (now:Nat) (r:List UInt8):Ms×Oc:=(cntM (seenM k) (outM (seenM k) c p now r),outM (seenM k) c p now r)
def tickM (k:Ms):Ms:={ k with l:=k.n,n:=0 }
def setM (k:Ms) (p:Pn):Ms×Int:=if rightP p then ({ k with p:=p },0) else (k,11)
def newM (p:Pn):Ms:=⟨p,[],0,0,0,0,0⟩
def copyM (k:Ms):Ms:={ k with f:=0,m:=0,d:=0 }
section
variable {s:Rg} {life now now':Nat} {c c' r t b:List UInt8} {p:IPl} {k:Ms} {e:Int}
theorem scid_len (h:20≤r.length):(scidL r).length=9:=by unfold scidL;rw [List.length_cons,List.length_take];omega
theorem until_lt (h:now<2 ^ 64):untilM now life<2 ^ 64:=by unfold untilM;split <;> omega
theorem new_has (h:s≠[]):hasR s (newR s).1=true:=by
 rw [new_lastR h]
 exact has_iffR.2 (List.mem_map.2 ⟨_,List.getLast_mem h,rfl⟩)
theorem retry_k:(retryM s life c p now r).k=1∨(retryM s life c p now r).k=2:=by
 unfold retryM
 split
 ·exact .inr rfl
 ·split
  ·exact .inr rfl
  ·dsimp only
   split
   ·exact .inr rfl
   ·split
    ·exact .inr rfl
    ·exact .inl rfl
theorem retry_made (ok:okR s) (hn:now<2 ^ 64) (h:(retryM s life c p now r).k=1) :
  s≠[]∧20≤r.length∧c.length≤64∧p.1.2.2.1.length≤20∧p.1.2.2.2.length≤20 ∧
  ∃ t,t=(sealT s (newR s).1 ((r.drop 8).take 12) c ⟨untilM now life,p.1.2.2.1,scidL r⟩).1∧t.length=48+p.1.2.2.1.length∧fstT t=(newR s).1 ∧
  retryM s life c p now r=mdo (aheadL p.1.2.2.2 (scidL r) t++stL p.1.2.2.1 (aheadL p.1.2.2.2 (scidL r) t)) ∧
  (∀ x,openT s c t x=if untilM now life<x then (zTk,20) else (⟨untilM now life,p.1.2.2.1,scidL r⟩,0)):=by
 unfold retryM at h ⊢
 by_cases hs:s=[]
 ·rw [if_pos hs] at h;exact absurd h (by decide)
 rw [if_neg hs] at h ⊢
 by_cases hr:r.length<20
 ·rw [if_pos hr] at h;exact absurd h (by decide)
 rw [if_neg hr] at h ⊢
 dsimp only at h ⊢
 have hv:=new_has hs
 have h12:((r.drop 8).take 12).length=12:=by rw [List.length_take,List.length_drop];omega
 have hsc:=scid_len (r:=r) (by omega)
 by_cases ht:(sealT s (newR s).1 ((r.drop 8).take 12) c ⟨untilM now life,p.1.2.2.1,scidL r⟩).2=0
 ·rw [if_neg (fun g=>g ht)] at h ⊢
  have hc:c.length≤64:=by
   apply Classical.byContradiction
   intro hc
   unfold sealT at ht
   rw [if_neg (by rw [hv];decide),if_pos (.inr (by omega))] at ht
   exact absurd ht (by decide)
  have hf:Tk.few ⟨untilM now life,p.1.2.2.1,scidL r⟩:=by
   apply Classical.byContradiction
   intro hf
   unfold sealT at ht
   have hx:textR ⟨untilM now life,p.1.2.2.1,scidL r⟩=([],15):=by
    unfold textR
    refine if_pos ?_
    unfold Tk.few at hf
    simp only at hf ⊢
    omega
   rw [if_neg (by rw [hv];decide),if_neg (by omega),hx,if_pos (by decide)] at ht
   exact absurd ht (by decide)
  have hto:p.1.2.2.1.length≤20:=hf.1
  have hb:=open_back ok hv h12 hc hf (until_lt hn)
  have hy:=seal_yes hv h12 hc hf
  generalize hT:sealT s (newR s).1 ((r.drop 8).take 12) c ⟨untilM now life,p.1.2.2.1,scidL r⟩=T at *
  have hl:T.1.length=48+p.1.2.2.1.length:=by
   rw [hy]
   show (UInt8.ofNat (newR s).1.toNat::_).length=_
   rw [List.length_cons,List.length_append,seal_lenT _ _ _ (key_lenR ok hv) h12,rawT_len,h12]
   simp only [hsc]
   omega
  have hfst:fstT T.1=(newR s).1:=by rw [hy];exact fst_q (rng_q ok hv) _
  by_cases hfr:p.1.2.2.2.length≤20
  ·have hm:=smake_ok (to:=p.1.2.2.2) (frm:=scidL r) (id:=p.1.2.2.1) (tok:=T.1) hfr (by omega) hto (by omega) (by omega)
   rw [hm] at h ⊢
   rw [if_neg (by simp)]
   exact ⟨hs,by omega,hc,hto,hfr,T.1,rfl,hl,hfst,rfl,hb⟩
  ·have hm:smakeR p.1.2.2.2 (scidL r) p.1.2.2.1 T.1=([],15):=by
    unfold smakeR
    exact if_pos (.inl (by omega))
   rw [hm,if_pos (by decide)] at h
   exact absurd h (by decide)
 ·rw [if_pos ht] at h;exact absurd h (show ¬((2:Int)=1) by decide)
theorem made_read {to frm sc t:List UInt8} (h1:to.length≤20) (h2:frm.length≤20) (h3:sc.length≤20) (h4:1≤t.length) (h5:t.length≤4096) :
  sprs (aheadL frm sc t++stL to (aheadL frm sc t))=(((255,1,frm,sc),t,stL to (aheadL frm sc t)),0)∧scheckR (aheadL frm sc t++stL to (aheadL frm sc t)) to=0:=by
 refine ⟨sprs_made frm sc t _ h2 h3 h4 (stL_len _ _),?_⟩
 rw [scheck_made frm sc t _ to h2 h3 h4 (stL_len _ _) h1 h5,if_pos rfl]
end
end Go.Proofs.YthppjgdnibfefaaGreat
namespace Go.Proofs.YthppjgdnibfefaaGreat
section
variable {s:Rg} {life now now':Nat} {c c' r t b:List UInt8} {p:IPl} {k:Ms} {e:Int}
theorem own_shut (ok:okR s) (h:ownTok t=true):¬((openT s c t now).2=0∧t≠[]):=by
 rintro ⟨h0,hne⟩
 unfold ownTok at h
 have h:=of_decide_eq_true h
 rcases h with h | h
 ·exact hne h
 unfold openT at h0
 split at h0
 ·exact absurd h0 (by decide)
 ·split at h0
  ·exact absurd h0 (by decide)
  ·rename_i hv
   have hv:hasR s (fstT t)=true:=by simpa using hv
   have:=rng_q ok hv
   omega
theorem own_no {q:Int} (hf:fstT t=q) (hl:0<t.length) (hq:q≤127):ownTok t=false:=by
 unfold ownTok
 refine decide_eq_false (fun h=>?_)
 rcases h with h | h
 ·rw [h] at hl;exact absurd hl (Nat.lt_irrefl 0)
 ·omega
theorem retry_drop (h:(retryM s life c p now r).k=2):(retryM s life c p now r).e≠0∧(retryM s life c p now r).b=[]∧(retryM s life c p now r).u=0:=by
 unfold retryM at h ⊢
 split
 ·exact ⟨by decide,rfl,rfl⟩
 ·rename_i h1
  rw [if_neg h1] at h
  split
  ·exact ⟨by decide,rfl,rfl⟩
  ·rename_i h2
   rw [if_neg h2] at h
   dsimp only at h ⊢
   split
   ·rename_i h3;exact ⟨h3,rfl,rfl⟩
   ·rename_i h3
    rw [if_neg h3] at h
    split
    ·rename_i h4;exact ⟨h4,rfl,rfl⟩
    ·rename_i h4
     rw [if_neg h4] at h
     exact absurd h (show ¬((1:Int)=2) by decide)
theorem retry_few (hs:s≠[]) (h:r.length<20):retryM s life c p now r=drp 21:=by
 unfold retryM
 rw [if_neg hs,if_pos h]
theorem retry_none:retryM [] life c p now r=drp 17:=by
 unfold retryM
 rw [if_pos rfl]
theorem out_ways (ok:okR k.s):((outM k c p now r).k=0∧(outM k c p now r).b=[]∧(outM k c p now r).u=0∧(activeM k=true→(openT k.s c p.2.1 now).2=0∧p.2.1≠[])∧((outM k c p now r).c=true→(openT k.s c p.2.1 now).2=0∧p.2.1≠[])) ∨
  ((outM k c p now r).k=1∧activeM k=true∧¬((openT k.s c p.2.1 now).2=0∧p.2.1≠[])∧outM k c p now r=retryM k.s k.p.life c p now r) ∨
  ((outM k c p now r).k=2∧(outM k c p now r).e≠0∧(outM k c p now r).b=[]∧(outM k c p now r).u=0∧¬((openT k.s c p.2.1 now).2=0∧p.2.1≠[])):=by
 have hret:∀ (ha:activeM k=true) (hno:¬((openT k.s c p.2.1 now).2=0∧p.2.1≠[])) (ho:outM k c p now r=retryM k.s k.p.life c p now r),
   ((outM k c p now r).k=1∧activeM k=true∧¬((openT k.s c p.2.1 now).2=0∧p.2.1≠[])∧outM k c p now r=retryM k.s k.p.life c p now r) ∨
   ((outM k c p now r).k=2∧(outM k c p now r).e≠0∧(outM k c p now r).b=[]∧(outM k c p now r).u=0∧¬((openT k.s c p.2.1 now).2=0∧p.2.1≠[])):=by
  intro ha hno ho
  rcases retry_k (s:=k.s) (life:=k.p.life) (c:=c) (p:=p) (now:=now) (r:=r) with h1 | h2
  ·exact .inl ⟨by rw [ho];exact h1,ha,hno,ho⟩
  ·obtain ⟨a1,a2,a3⟩:=retry_drop h2
   exact .inr ⟨by rw [ho];exact h2,by rw [ho];exact a1,by rw [ho];exact a2,by rw [ho];exact a3,hno⟩
 cases hown:ownTok p.2.1
 ·have hne:p.2.1≠[]:=fun e=>by rw [e] at hown;exact absurd hown (by decide)
  cases hsh:(!activeM k && k.p.sh)
  ·by_cases h0:(openT k.s c p.2.1 now).2=0
   ·have ho:outM k c p now r=fwd true:=by unfold outM;rw [if_neg (by rw [hown];decide),if_neg (by rw [hsh];decide)];exact if_pos h0
    left
    rw [ho]
    exact ⟨rfl,rfl,rfl,fun _=>⟨h0,hne⟩,fun _=>⟨h0,hne⟩⟩
   ·right
    by_cases hd:(!activeM k)=true∨(openT k.s c p.2.1 now).2=13
    ·have ho:outM k c p now r=drp (openT k.s c p.2.1 now).2:=by
      unfold outM
      rw [if_neg (by rw [hown];decide),if_neg (by rw [hsh];decide)]
      show (if _ then _ else _)=_
      rw [if_neg h0,if_pos hd]
     right
     rw [ho]
     exact ⟨rfl,h0,rfl,rfl,fun g=>h0 g.1⟩
    ·have ho:outM k c p now r=retryM k.s k.p.life c p now r:=by
      unfold outM
      rw [if_neg (by rw [hown];decide),if_neg (by rw [hsh];decide)]
      show (if _ then _ else _)=_
      rw [if_neg h0,if_neg hd]
     exact hret (by
      cases ha:activeM k
      ·exact absurd (.inl (by rw [ha];rfl)) hd
      ·rfl) (fun g=>h0 g.1) ho
  ·have ho:outM k c p now r=fwd false:=by unfold outM;rw [if_neg (by rw [hown];decide),if_pos hsh]
   left
   rw [ho]
   refine ⟨rfl,rfl,rfl,fun ha=>?_,fun h=>?_⟩
   ·rw [ha] at hsh;simp at hsh
   ·exact absurd h (by decide)
 ·have hno:=own_shut (c:=c) (now:=now) ok hown
  cases ha:activeM k
  ·have ho:outM k c p now r=fwd false:=by unfold outM;rw [if_pos hown,if_neg (by rw [ha];decide)]
   left
   rw [ho]
   exact ⟨rfl,rfl,rfl,fun h=>absurd h (by decide),fun h=>absurd h (by decide)⟩
  ·have ho:outM k c p now r=retryM k.s k.p.life c p now r:=by unfold outM;rw [if_pos hown,if_pos ha]
   right
   have:=hret ha hno ho
   rw [ha] at this
   exact this
theorem out_tok {q:Int} (hf:fstT p.2.1=q) (hl:0<p.2.1.length) (hq:q≤127):outM k c p now r=if (!activeM k && k.p.sh)=true then fwd false else if (openT k.s c p.2.1 now).2=0 then fwd true else if (!activeM k)=true∨(openT k.s c p.2.1 now).2=13 then drp (openT k.s c p.2.1 now).2 else retryM k.s k.p.life c p now r:=by
 unfold outM
 rw [if_neg (by rw [own_no hf hl hq];decide)]
theorem open_tag {q:Int} {T:List UInt8} (ok:okR s) (hv:hasR s q=true) (hf:fstT T=q) (hl:29≤T.length∧T.length≤4096) (hc:c.length≤64) (hb:(openR (keyR s q) ((T.drop 1).take 12) (T.drop 13) (noteT q c)).2≠0):openT s c T now=(zTk,13):=by
 unfold openT
 rw [if_neg (by omega),hf,if_neg (by rw [hv];decide),if_neg (by omega)]
 unfold bodyT
 simp only
 rw [if_pos hb]
end
theorem retry_yes {s:Rg} {life now:Nat} {c r:List UInt8} {p:IPl} (ok:okR s) (hs:s≠[]) (hr:20≤r.length) (hc:c.length≤64) (ht:p.1.2.2.1.length≤20) (hf:p.1.2.2.2.length≤20):(retryM s life c p now r).k=1:=by
 have hv:=new_has hs
 have h12:((r.drop 8).take 12).length=12:=by rw [List.length_take,List.length_drop];omega
 have hsc:=scid_len hr
 have hfew:Tk.few ⟨untilM now life,p.1.2.2.1,scidL r⟩:=⟨ht,by show (scidL r).length≤20;omega⟩
 have hy:=seal_yes hv h12 hc hfew
 unfold retryM
 rw [if_neg hs,if_neg (by omega),hy]
 dsimp only
 rw [if_neg (by simp)]
 have hl:(UInt8.ofNat (newR s).1.toNat::((r.drop 8).take 12++(sealR (keyR s (newR s).1) ((r.drop 8).take 12) (rawT ⟨untilM now life,p.1.2.2.1,scidL r⟩) (noteT (newR s).1 c)).1)).length=48+p.1.2.2.1.length:=by
  rw [List.length_cons,List.length_append,seal_lenT _ _ _ (key_lenR ok hv) h12,rawT_len,h12]
  simp only [hsc]
  omega
 rw [smake_ok hf (by omega) ht (by rw [hl];omega) (by rw [hl];omega),if_neg (by simp)]
 rfl
end Go.Proofs.YthppjgdnibfefaaGreat
