/- The reference of layer 5 (ghash): a length in bits, in eight bytes. Condition: the length is small. -/
import Derived.Test.YthppjgdnibfefaaGreatOctAll
import Derived.Test.YthppjgdnibfefaaGreatPolyMath
import Derived.Test.YthppjgdnibfefaaGreatRowsNew
import Derived.Deep.RegionHeld3
import Derived.Test.YthppjgdnibfefaaGreatPolyElem
import Derived.Great.BuildSlice
import Derived.Great.FillDense
set_option linter.unusedVariables false
set_option linter.unusedSimpArgs false
set_option maxRecDepth 100000
set_option maxHeartbeats 32000000
namespace Go.Proofs.YthppjgdnibfefaaGreat
open Go.RowKit
def longL (n:Nat):List UInt8:=putL (n*8) 8
theorem longL_len (n:Nat):(longL n).length=8:=putL_len _ _
attribute [local irreducible] putAt
end Go.Proofs.YthppjgdnibfefaaGreat
namespace Go.Proofs.YthppjgdnibfefaaGreat
open Go.RowKit
def gFold (h:Nat):Nat→List Nat→Nat | f,[]=>f | f,b::l=>gFold h (gMul (f ^^^ b) h) l
theorem gFold_snoc (h:Nat) (x:Nat):∀ (l:List Nat) (f:Nat),gFold h f (l++[x])=gMul (gFold h f l ^^^ x) h
 | [],f=>rfl
 | b::l,f=>gFold_snoc h x l (gMul (f ^^^ b) h)
theorem gFold_lt (h:Nat) (hh:h<2 ^ 128):∀ (l:List Nat) (f:Nat),f<2 ^ 128→(∀ (i b:Nat),l[i]?=some b→b<2 ^ 128)→gFold h f l<2 ^ 128
 | [],f,hf,_=>hf
 | b::l,f,hf,hl=>gFold_lt h hh l _ (gMul_lt _ h (Nat.xor_lt_two_pow hf (hl 0 b rfl))) (fun i x hx=>hl (i+1) x hx)
theorem gFold_app (h:Nat) (m:List Nat):∀ (l:List Nat) (f:Nat),gFold h f (l++m)=gFold h (gFold h f l) m
 | [],f=>rfl
 | b::l,f=>gFold_app h m l _
def XP (w:World) (B:Nat) (A:Option Addr) (n:Nat) (xs:List Nat):Prop :=
 xs.length=n∧(∀ (i x:Nat),xs[i]?=some x→x<2 ^ 128)∧(0<n→∃ g o,A=some ⟨g,o,none⟩∧g<B∧∀ (i x:Nat),xs[i]?=some x→w.rangeAt g (o+i*128) (tvs (co x)))
theorem XP.step {w w':World} {B:Nat} {A:Option Addr} {n:Nat} {xs:List Nat} (h:XP w B A n xs) (hb:Below B w w'):XP w' B A n xs:=by
 refine ⟨h.1,h.2.1,fun hn=>?_⟩
 obtain ⟨g,o,hA,hg,hc⟩:=h.2.2 hn
 exact ⟨g,o,hA,hg,fun i x hx j v hv=>(hb.cell (p:=⟨g,o+i*128+j,none⟩) hg).trans (hc i x hx j v hv)⟩
theorem XP.lt {w:World} {B B':Nat} {A:Option Addr} {n:Nat} {xs:List Nat} (h:XP w B A n xs) (hB:B≤B'):XP w B' A n xs:=by
 refine ⟨h.1,h.2.1,fun hn=>?_⟩
 obtain ⟨g,o,hA,hg,hc⟩:=h.2.2 hn
 exact ⟨g,o,hA,by omega,hc⟩
noncomputable def gldB (v:Value) (w:World):Result Next:=Sem.run Tryz.prog (do let r ←Instr.loadAt 211 v;pure (Next.value r)) w
theorem ex_gldB (ev:Operand→Value) (x:Operand) (d:Option Tmp) (ty:TypeId) (ps:String) (af:Array Edge) (g:Option (Nat×Bool)) (w:World):(execOp ev ⟨d,.load 211 x,ty,ps,af,g⟩).run Tryz.prog w=gldB (ev x) w:=rfl
noncomputable def gstB (v x:Value) (w:World):Result Next:=Sem.run Tryz.prog (do Instr.storeAt 211 v x;pure Next.skip) w
theorem ex_gstB (ev:Operand→Value) (x y:Operand) (d:Option Tmp) (ty:TypeId) (ps:String) (af:Array Edge) (g:Option (Nat×Bool)) (w:World):(execOp ev ⟨d,.store 211 x y,ty,ps,af,g⟩).run Tryz.prog w=gstB (ev x) (ev y) w:=rfl
attribute [go_sem ↓] ex_gldB ex_gstB
attribute [local irreducible] gMul co tvs zP gFold
end Go.Proofs.YthppjgdnibfefaaGreat
namespace Go.Proofs.YthppjgdnibfefaaGreat
open Go.RowKit
def nB (l:List UInt8):Nat:=hl (oH l) (oL l)
theorem nB_lt (l:List UInt8) (h:l.length=16):nB l<2 ^ 128:=hl_lt _ _ (oH_lt l h) (oL_lt l h)
theorem nB_pe (l:List UInt8) (h:l.length=16):PE (nB l)=EV (oH l) (oL l):=pe_hl _ _ (oL_lt l h)
def padK (l:List UInt8) (k q:Nat):List UInt8:=(List.range 16).map fun j=>if j<q then l.getD (16*k+j) 0 else 0
theorem padK_len (l:List UInt8) (k q:Nat):(padK l k q).length=16:=by simp [padK]
theorem padK_at (l:List UInt8) (k q j:Nat) (hj:j<16):(padK l k q)[j]?=some (if j<q then l.getD (16*k+j) 0 else 0):=by simp [padK,hj]
def bksN (l:List UInt8) (k:Nat):List Nat:=(List.range k).map fun i=>nB (padK l i 16)
def bks (l:List UInt8):List Nat:=bksN l ((l.length+15) / 16)
theorem bksN_len (l:List UInt8) (k:Nat):(bksN l k).length=k:=by simp [bksN]
theorem bksN_lt (l:List UInt8) (k i x:Nat) (h:(bksN l k)[i]?=some x):x<2 ^ 128:=by
 obtain ⟨j,_,rfl⟩:=List.mem_map.1 (List.mem_of_getElem? h)
 exact nB_lt _ (padK_len _ _ _)
theorem OwnX.form {T:TypeId} {k:Nat} {f:Nat→List Value} {w:World} {base n c:Nat} {A:Option Addr} {xs:List Nat} (h:OwnX T k f w base A n c xs) (hn:0<n):∃ g,A=some ⟨g,0,none⟩:=by
 rcases h.1.2 with ⟨_,h0⟩ | ⟨g,cap,cur,hv,_⟩
 ·omega
 ·injection hv with hA
  exact ⟨g,hA⟩
abbrev OwnP (w:World) (base:Nat) (A:Option Addr) (n c:Nat) (xs:List Nat):Prop:=OwnX 211 128 (fun x=>tvs (co x)) w base A n c xs
attribute [local irreducible] padK bksN nB co tvs bitsOf
end Go.Proofs.YthppjgdnibfefaaGreat
namespace Go.Proofs.YthppjgdnibfefaaGreat
open Go.RowKit
def sumN (l1 l2:List UInt8):List Nat:=bks l1++bks l2++bks (longL l1.length++longL l2.length)
def sumG (h:Nat) (l1 l2:List UInt8):Nat:=gFold h 0 (sumN l1 l2)
def bB (x:Nat):List UInt8:=eB (x / 2 ^ 64) (x % 2 ^ 64)
theorem bB_len (x:Nat):(bB x).length=16:=eB_len _ _
theorem bks_lt (l:List UInt8) (i x:Nat) (h:(bks l)[i]?=some x):x<2 ^ 128:=bksN_lt l _ i x h
theorem bks_len (l:List UInt8):(bks l).length=(l.length+15) / 16:=bksN_len l _
theorem app_lt (a b:List Nat) (ha:∀ (i x:Nat),a[i]?=some x→x<2 ^ 128) (hb:∀ (i x:Nat),b[i]?=some x→x<2 ^ 128) (i x:Nat) (h:(a++b)[i]?=some x):x<2 ^ 128:=by
 rcases List.mem_append.1 (List.mem_of_getElem? h) with h | h
 ·obtain ⟨j,hj⟩:=List.getElem?_of_mem h
  exact ha j x hj
 ·obtain ⟨j,hj⟩:=List.getElem?_of_mem h
  exact hb j x hj
theorem sumN_lt (l1 l2:List UInt8) (i x:Nat) (h:(sumN l1 l2)[i]?=some x):x<2 ^ 128:=app_lt _ _ (app_lt _ _ (bks_lt l1) (bks_lt l2)) (bks_lt _) i x h
theorem sumG_lt (h:Nat) (hh:h<2 ^ 128) (l1 l2:List UInt8):sumG h l1 l2<2 ^ 128:=gFold_lt h hh _ 0 (by omega) (sumN_lt l1 l2)
attribute [local irreducible] bks longL gFold co tvs bitsOf zP
end Go.Proofs.YthppjgdnibfefaaGreat
