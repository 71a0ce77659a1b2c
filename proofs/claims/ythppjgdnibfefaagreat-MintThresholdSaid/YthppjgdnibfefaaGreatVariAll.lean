/- Layer 8's numbers: a number's forms and their sizes, and what vari's functions and the references' answer of them. Condition: the slices' cells are readable. -/
import Derived.Test.YthppjgdnibfefaaGreatOctAll
set_option linter.unusedVariables false
set_option linter.unusedSimpArgs false
set_option maxRecDepth 100000
set_option maxHeartbeats 32000000
namespace Go.Proofs.YthppjgdnibfefaaGreat
open Go.RowKit
def lim:Nat→Nat | 0=>64 | 1=>16384 | 2=>1073741824 | _=>4611686018427387904
def clsL (n:Nat):Nat:=if n<64 then 0 else if n<16384 then 1 else if n<1073741824 then 2 else if n<4611686018427387904 then 3 else 4
def sz:Nat→Nat | 0=>1 | 1=>2 | 2=>4 | 3=>8 | _=>0
def formL (n k:Nat):List UInt8:=putL (k*lim k+n) (sz k)
theorem num_putV:∀ (k n:Nat),numL (putL n k)+256 ^ k*downL n k=n
 | 0,n=>by simp [putL,numL,downL]
 | k+1,n=>by
  have ih:=num_putV k (n / 256)
  rw [putL,numL_snoc,←downL_comm]
  have e:(UInt8.ofNat n).toNat=n % 256:=by simp
  rw [e,Nat.pow_succ]
  have h2:256 ^ k*256*downL (n / 256) k=256*(256 ^ k*downL (n / 256) k):=by rw [Nat.mul_comm (256 ^ k) 256,Nat.mul_assoc]
  rw [h2]
  omega
def limZ (z:Int):Nat:=if z=1 then 64 else if z=2 then 16384 else if z=4 then 1073741824 else if z=8 then 4611686018427387904 else 0
def leastL (n:Nat):List UInt8:=if clsL n≤3 then formL n (clsL n) else []
def codeL (n:Nat):Int:=if clsL n≤3 then 0 else 11
end Go.Proofs.YthppjgdnibfefaaGreat
namespace Go.Proofs.YthppjgdnibfefaaGreat
open Go.RowKit
def tkK:List UInt8→Nat | []=>0 | x::_=>x.toNat / 64
def tkOk (l:List UInt8):Bool:=decide (0<l.length∧sz (tkK l)≤l.length)
def tkV (l:List UInt8):Nat:=if tkOk l then numL (l.take (sz (tkK l))) % lim (tkK l) else 0
def tkN (l:List UInt8):Nat:=if tkOk l then sz (tkK l) else 0
def tkE (l:List UInt8):Int:=if tkOk l then 0 else 12
def UL (w:World) (B:Nat) (A:Option Addr) (n:Nat) (l:List Nat):Prop :=
 l.length=n∧(0<n→∃ b o,A=some ⟨b,o,none⟩∧b<B∧∀ i (h:i<l.length),w.cell? ⟨b,o+i,none⟩=some (.int .u64 ((l[i]:Nat):Int)))∧∀ x∈l,x≤18446744073709551615
section
variable {w w':World} {B B' n:Nat} {A:Option Addr} {l:List Nat}
theorem UL.len (h:UL w B A n l):l.length=n:=h.1
theorem UL.at_ {k:Nat} (h:UL w B A n l) (hk:k<n):∃ b o,A=some ⟨b,o,none⟩∧b<B∧∃ x:Nat,l[k]?=some x∧x≤18446744073709551615∧w.cell? ⟨b,o+k,none⟩=some (.int .u64 (x:Int)):=by
 obtain ⟨b,o,e,hb,hc⟩:=h.2.1 (by omega)
 have hl:k<l.length:=by rw [h.1];exact hk
 exact ⟨b,o,e,hb,l[k],List.getElem?_eq_getElem hl,h.2.2 _ (List.getElem_mem _),hc k hl⟩
theorem UL.below (h:UL w B A n l) (hb:Below B w w'):UL w' B A n l :=
 ⟨h.1,fun hn=>by
  obtain ⟨b,o,e,hbb,hc⟩:=h.2.1 hn
  exact ⟨b,o,e,hbb,fun i hi=>(hb.cell hbb).trans (hc i hi)⟩,h.2.2⟩
theorem UL.more (h:UL w B A n l) (hB:B≤B'):UL w B' A n l :=
 ⟨h.1,fun hn=>by
  obtain ⟨b,o,e,hb,hc⟩:=h.2.1 hn
  exact ⟨b,o,e,by omega,hc⟩,h.2.2⟩
end
theorem UL.step {w w':World} {n:Nat} {A:Option Addr} {l:List Nat} (h:UL w w.heap.size A n l) (hb:Below w.heap.size w w'):UL w' w'.heap.size A n l:=(h.below hb).more hb.size
def uv (x:Nat):Value:=.int .u64 (x:Int)
theorem UL.lit (w:World) (l:List Nat) (cs:Array Value) (n g:Nat) (e:TypeId) (hc:cs=(l.map uv).toArray) (hn:l.length=n) (hg:g=w.heap.size) (hl:∀ x∈l,x≤18446744073709551615):UL (w.alloc (.cells cs e)) (w.alloc (.cells cs e)).heap.size (some ⟨g,0,none⟩) n l:=by
 subst hc
 subst hg
 refine ⟨hn,fun h0=>⟨_,0,rfl,by show w.heap.size<(w.heap.push _).size;rw [Array.size_push];omega,fun i hi=>?_⟩,hl⟩
 rw [cell_of_row (w.alloc (.cells (l.map uv).toArray e)) w.heap.size (0+i) _ e (0,0) (heap_alloc_new w _)]
 simp [uv,hi]
def rowL (l:List Nat):List UInt8:=(l.map leastL).flatten
def rowOk (l:List Nat):Bool:=l.all fun x=>decide (clsL x≤3)
def rowR (l:List Nat):List UInt8:=if rowOk l then rowL l else []
def rowC (l:List Nat):Int:=if rowOk l then 0 else 11
end Go.Proofs.YthppjgdnibfefaaGreat
