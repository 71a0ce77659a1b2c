/- The reference of layer 7 (gcm): tags, sealed texts, texts opened. Conditions: the slices' cells are readable; the key has sixteen bytes; lengths are at most 65535. -/
import Derived.Test.YthppjgdnibfefaaGreatRefCountAll
import Derived.Test.YthppjgdnibfefaaGreatRefGhash
set_option linter.unusedVariables false
set_option linter.unusedSimpArgs false
set_option maxRecDepth 100000
set_option maxHeartbeats 32000000
namespace Go.Proofs.YthppjgdnibfefaaGreat
open Go.RowKit
def fstL (n:List UInt8):List UInt8:=n++[0,0,0,1]
def hkL (k:List UInt8):List UInt8:=encL k tableL (List.replicate 16 0)
def tagL (k n t a:List UInt8):List UInt8:=xorL (bB (sumG (nB (hkL k)) a t)) (encL k tableL (fstL n))
def trnL (k n t:List UInt8):List UInt8:=xorL (strmL k (aftL (fstL n) 1) t.length) t
def tagR (k n t a:List UInt8):List UInt8×Int:=if n.length=12 then (tagL k n t a,0) else ([],11)
def sealR (k n t a:List UInt8):List UInt8×Int:=if n.length=12 then (trnL k n t++tagL k n (trnL k n t) a,0) else ([],11)
def openR (k n s a:List UInt8):List UInt8×Int :=
 if n.length=12 then (if s.length<16 then ([],12) else if tagL k n (s.take (s.length - 16)) a=s.drop (s.length - 16) then (trnL k n (s.take (s.length - 16)),0) else ([],13)) else ([],11)
theorem fstL_len (n:List UInt8) (h:n.length=12):(fstL n).length=16:=by
 unfold fstL
 rw [List.length_append,h]
 rfl
theorem hkL_len (k:List UInt8) (h:k.length=16):(hkL k).length=16:=encL_len k tableL _ h (by simp)
theorem tagL_len (k n t a:List UInt8) (h:k.length=16) (hn:n.length=12):(tagL k n t a).length=16:=by
 unfold tagL
 rw [xorL_len _ _ (by rw [bB_len,encL_len k tableL _ h (fstL_len n hn)]),bB_len]
theorem trnL_len (k n t:List UInt8) (h:k.length=16) (hn:n.length=12):(trnL k n t).length=t.length:=by
 have hs:=strmL_len k (aftL (fstL n) 1) t.length h (aftL_len _ 1 (fstL_len n hn))
 unfold trnL
 rw [xorL_len _ _ hs.symm,hs]
theorem xorL_again:∀ s t:List UInt8,s.length=t.length→xorL s (xorL s t)=t
 | [],[],_=>by unfold xorL;rfl
 | x::s,y::t,h=>by
  have:=xorL_again s t (by simpa using h)
  unfold xorL at this ⊢
  rw [List.zipWith_cons_cons,List.zipWith_cons_cons,this,←UInt8.xor_assoc,UInt8.xor_self,UInt8.zero_xor]
theorem trn_trn (k n t:List UInt8) (h:k.length=16) (hn:n.length=12):trnL k n (trnL k n t)=t:=by
 have hl:=trnL_len k n t h hn
 have hs:=strmL_len k (aftL (fstL n) 1) t.length h (aftL_len _ 1 (fstL_len n hn))
 show xorL (strmL k (aftL (fstL n) 1) (trnL k n t).length) (trnL k n t)=t
 rw [hl]
 exact xorL_again _ _ hs
theorem open_seal (k n t a:List UInt8) (h:k.length=16) (hn:n.length=12):openR k n (sealR k n t a).1 a=(t,0):=by
 have hl:=trnL_len k n t h hn
 have hg:=tagL_len k n (trnL k n t) a h hn
 have hs:(trnL k n t++tagL k n (trnL k n t) a).length=t.length+16:=by rw [List.length_append,hl,hg]
 unfold openR sealR
 rw [if_pos hn,if_pos hn,if_neg (by show ¬(trnL k n t++tagL k n (trnL k n t) a).length<16;omega)]
 show (if tagL k n ((trnL k n t++tagL k n (trnL k n t) a).take ((trnL k n t++tagL k n (trnL k n t) a).length - 16)) a=(trnL k n t++tagL k n (trnL k n t) a).drop ((trnL k n t++tagL k n (trnL k n t) a).length - 16) then (trnL k n ((trnL k n t++tagL k n (trnL k n t) a).take ((trnL k n t++tagL k n (trnL k n t) a).length - 16)),(0:Int)) else ([],13))=(t,0)
 rw [hs,Nat.add_sub_cancel,List.take_left' hl,List.drop_left' hl,if_pos rfl,trn_trn k n t h hn]
def RetQ (r:List UInt8×Int) (w:World) (e:Ending) (w':World):Prop:=RetBE r.1.length r.1 r.2 w e w'
attribute [local irreducible] aftL encL tableL blksL blkL strmL putL numL xorL turnAt fstL hkL tagL trnL bB sumG nB
theorem OwnB.other {w:World} {base n c g:Nat} {l:List UInt8} (h:OwnB w base (some ⟨g,0,none⟩) n c l) {b:Nat} (hne:b≠g) (k:Nat) (v:Value):OwnB (w.setCell ⟨b,k,none⟩ v) base (some ⟨g,0,none⟩) n c l:=by
 refine ⟨h.1,?_⟩
 rcases h.2 with h0 | ⟨g2,cap,cur,hv,hb,hh,r⟩
 ·exact .inl h0
 ·refine .inr ⟨g2,cap,cur,hv,hb,?_,r⟩
  injection hv with hA
  injection hA with hA
  injection hA with hA
  rw [Below.heap_setCell w ⟨b,k,none⟩ v g2 (by show g2≠b;omega)]
  exact hh
theorem tag_eq (k n t a:List UInt8):xorL (bB (sumG (nB (hkL k)) a t)) (encL k tableL (fstL n))=tagL k n t a:=by unfold tagL;rfl
theorem hk_eq (k:List UInt8):encL k tableL (List.replicate 16 0)=hkL k:=by unfold hkL;rfl
theorem trn_eq (k n t:List UInt8) (m:Nat) (h:t.length=m):xorL (strmL k (aftL (fstL n) 1) m) t=trnL k n t:=by subst h;unfold trnL;rfl
end Go.Proofs.YthppjgdnibfefaaGreat
