/- AES-128 as plain functions of lists of bytes, as the document's reference reckons it: signs, rows, columns, rounds' keys, blocks. No conditions; nothing is claimed of the program here. -/
import Derived.Test.YthppjgdnibfefaaGreatFieldAll
import Derived.Test.YthppjgdnibfefaaGreatMemAll
import Derived.Deep.RegionWith
import Derived.Test.YthppjgdnibfefaaGreatRowsNew
import Derived.Deep.RegionHeld3
set_option linter.unusedVariables false
set_option linter.unusedSimpArgs false
set_option maxRecDepth 100000
set_option maxHeartbeats 32000000
namespace Go.Proofs.YthppjgdnibfefaaGreat
def subsL (t b:List UInt8):List UInt8:=b.map fun x=>t.getD x.toNat 0
def tableL:List UInt8:=(List.range 256).map fun i=>subB (UInt8.ofNat i)
def backL:List UInt8:=(List.range 256).map fun i=>unsubB (UInt8.ofNat i)
def rowF (b:List UInt8) (m p:Nat):UInt8:=b.getD (4*((p / 4+m*(p % 4)) % 4)+p % 4) 0
def rowsL (b:List UInt8) (m:Nat):List UInt8:=(List.range 16).map (rowF b m)
def colUp (b f:List UInt8) (c r:Nat):Nat→UInt8 | 0=>0 | k+1=>colUp b f c r k ^^^ mulB (f.getD ((k+4 - r) % 4) 0) (b.getD (4*c+k) 0)
def colF (b f:List UInt8) (p:Nat):UInt8:=colUp b f (p / 4) (p % 4) 4
def columnsL (b f:List UInt8):List UInt8:=(List.range 16).map (colF b f)
def fillP (P:Nat→Bool) (F:Nat→UInt8):List UInt8:=(List.range 16).map fun p=>if P p then F p else 0
theorem fillP_len (P:Nat→Bool) (F:Nat→UInt8):(fillP P F).length=16:=by simp [fillP]
theorem fillP_set (P P':Nat→Bool) (F:Nat→UInt8) (k:Nat) (hk:k<16) (h:∀ p,p<16→P' p=(P p || p == k)):(fillP P F).set k (F k)=fillP P' F:=by
 apply List.ext_getElem
 ·simp [fillP]
 ·intro i h1 h2
  have hi:i<16:=by simpa [fillP] using h2
  simp only [fillP,List.getElem_set,List.getElem_map,List.getElem_range,h i hi]
  by_cases e:k=i
  ·subst e;simp
  ·rw [if_neg e]
   have:(i == k)=false:=by rw [beq_eq_false_iff_ne];omega
   rw [this,Bool.or_false]
theorem fillP_all (P:Nat→Bool) (F:Nat→UInt8) (h:∀ p,p<16→P p=true):fillP P F=(List.range 16).map F:=by
 unfold fillP
 apply List.map_congr_left
 intro p hp
 rw [h p (List.mem_range.1 hp)]
 rfl
theorem fillP_none (P:Nat→Bool) (F:Nat→UInt8) (h:∀ p,p<16→P p=false):List.replicate 16 0=fillP P F:=by
 apply List.ext_getElem
 ·simp [fillP]
 ·intro i h1 h2
  have hi:i<16:=by simpa [fillP] using h2
  rw [List.getElem_replicate]
  simp [fillP,h i hi]
def powsL:Nat→UInt8→List UInt8 | 0,_=>[] | k+1,x=>x::powsL k (mulB x 3)
def noughts (n:Nat):List UInt8:=List.replicate n 0
def tabUp:Nat→List UInt8 | 0=>(noughts 256).set 0 (signB 0) | i+1=>(tabUp i).set (powN 3 i).toNat (signB (powN 3 ((255 - i) % 255)))
theorem tableL_at (y:UInt8):tableL.getD y.toNat 0=subB y:=by
 have:=y.toNat_lt
 simp [tableL,List.getD,this]
def backUp:Nat→List UInt8 | 0=>noughts 256 | i+1=>(backUp i).set (subB (UInt8.ofNat i)).toNat (UInt8.ofNat i)
end Go.Proofs.YthppjgdnibfefaaGreat
namespace Go.Proofs.YthppjgdnibfefaaGreat
open Go.RowKit
end Go.Proofs.YthppjgdnibfefaaGreat
namespace Go.Proofs.YthppjgdnibfefaaGreat
open Go.RowKit
def rowP (r c p:Nat):Bool:=decide (p % 4<r) || (p % 4 == r && decide (p / 4<c))
def colP (c r p:Nat):Bool:=decide (p / 4<c) || (p / 4 == c && decide (p % 4<r))
end Go.Proofs.YthppjgdnibfefaaGreat
namespace Go.Proofs.YthppjgdnibfefaaGreat
open Go.RowKit
def threes (k:Nat):List UInt8:=(List.range k).map (powN 3)
end Go.Proofs.YthppjgdnibfefaaGreat
namespace Go.Proofs.YthppjgdnibfefaaGreat
def wordsInit (key:List UInt8):List (List UInt8):=(List.range 4).map fun i=>(key.take (4*i+4)).drop (4*i)
def turn0 (t w:List UInt8) (r:Nat):List UInt8:=(subsL t [w.getD 1 0,w.getD 2 0,w.getD 3 0,w.getD 0 0]).set 0 ((subsL t [w.getD 1 0,w.getD 2 0,w.getD 3 0,w.getD 0 0]).getD 0 0 ^^^ powN 2 r)
def turnW (t w:List UInt8) (i:Nat):List UInt8:=if i % 4=0 then turn0 t w (i / 4 - 1) else w
def wordsUp (key t:List UInt8):Nat→List (List UInt8)
 | 0=>wordsInit key
 | k+1=>wordsUp key t k++[xorL ((wordsUp key t k).getD k []) (turnW t ((wordsUp key t k).getD (k+3) []) (k+4))]
theorem wordsUp_succ (key t:List UInt8) (k:Nat):wordsUp key t (k+1)=wordsUp key t k++[xorL ((wordsUp key t k).getD k []) (turnW t ((wordsUp key t k).getD (k+3) []) (k+4))]:=rfl
theorem turn0_len (t w:List UInt8) (r:Nat):(turn0 t w r).length=4:=by simp [turn0,subsL]
theorem wordsUp_len (key t:List UInt8):∀ k,(wordsUp key t k).length=k+4
 | 0=>by simp [wordsUp,wordsInit]
 | k+1=>by rw [wordsUp_succ,List.length_append,wordsUp_len key t k];simp
theorem wordsUp_row (key t:List UInt8) (hk:key.length=16):∀ (k i:Nat) (p:List UInt8),(wordsUp key t k)[i]?=some p→p.length=4
 | 0,i,p,h=>by
  simp only [wordsUp,wordsInit,List.getElem?_map,Option.map_eq_some_iff] at h
  obtain ⟨j,hj,rfl⟩:=h
  have:=List.getElem?_eq_some_iff.1 hj
  obtain ⟨h1,h2⟩:=this
  simp at h1 h2
  simp [hk]
  omega
 | k+1,i,p,h=>by
  rw [wordsUp_succ] at h
  have hl:=wordsUp_len key t k
  rcases Nat.lt_or_ge i (k+4) with hi | hi
  ·rw [List.getElem?_append_left (by omega)] at h
   exact wordsUp_row key t hk k i p h
  ·rw [List.getElem?_append_right (by omega)] at h
   have hi0:i - (wordsUp key t k).length=0:=by
    have:=(List.getElem?_eq_some_iff.1 h).1
    simp at this
    omega
   rw [hi0] at h
   simp only [List.getElem?_cons_zero,Option.some.injEq] at h
   subst h
   have g:∀ j,j<k+4→((wordsUp key t k).getD j []).length=4:=fun j hj=>by
    have h2:(wordsUp key t k)[j]?=some ((wordsUp key t k).getD j []):=by rw [List.getD_eq_getElem?_getD,List.getElem?_eq_getElem (by omega)];rfl
    exact wordsUp_row key t hk k j _ h2
   rw [xorL_len]
   ·exact g k (by omega)
   ·rw [g k (by omega)]
    unfold turnW
    split
    ·exact turn0_len _ _ _
    ·exact g (k+3) (by omega)
def keyF (key t:List UInt8) (i:Nat):List UInt8:=(wordsUp key t 40).getD (4*i) []++(wordsUp key t 40).getD (4*i+1) []++(wordsUp key t 40).getD (4*i+2) []++(wordsUp key t 40).getD (4*i+3) []
def keysL (key t:List UInt8):List (List UInt8):=(List.range 11).map (keyF key t)
theorem word_len (key t:List UInt8) (hk:key.length=16) (j:Nat) (hj:j<44):((wordsUp key t 40).getD j []).length=4:=by
 have hl:=wordsUp_len key t 40
 have h2:(wordsUp key t 40)[j]?=some ((wordsUp key t 40).getD j []):=by rw [List.getD_eq_getElem?_getD,List.getElem?_eq_getElem (by omega)];rfl
 exact wordsUp_row key t hk 40 j _ h2
theorem keyF_len (key t:List UInt8) (hk:key.length=16) (i:Nat) (hi:i<11):(keyF key t i).length=16:=by
 unfold keyF
 rw [List.length_append,List.length_append,List.length_append,word_len key t hk _ (by omega),word_len key t hk _ (by omega),word_len key t hk _ (by omega),word_len key t hk _ (by omega)]
def encUp (key t b:List UInt8):Nat→List UInt8
 | 0=>xorL b (keyF key t 0)
 | i+1=>xorL (if i+1<10 then columnsL (rowsL (subsL t (encUp key t b i)) 1) [2,3,1,1] else rowsL (subsL t (encUp key t b i)) 1) (keyF key t (i+1))
def encL (key t b:List UInt8):List UInt8:=encUp key t b 10
def decUp (key t u b:List UInt8):Nat→List UInt8
 | 0=>b
 | j+1=>subsL u (rowsL (if 10 - j<10 then columnsL (xorL (decUp key t u b j) (keyF key t (10 - j))) [14,11,13,9] else xorL (decUp key t u b j) (keyF key t (10 - j))) 3)
def decL (key t u b:List UInt8):List UInt8:=xorL (decUp key t u b 10) (keyF key t 0)
theorem rowsL_len (b:List UInt8) (m:Nat):(rowsL b m).length=16:=by simp [rowsL]
theorem columnsL_len (b f:List UInt8):(columnsL b f).length=16:=by simp [columnsL]
theorem encUp_len (key t b:List UInt8) (hk:key.length=16) (hb:b.length=16) (i:Nat) (hi:i<11):(encUp key t b i).length=16:=by
 cases i with
 | zero=>rw [encUp,xorL_len _ _ (by rw [keyF_len key t hk 0 (by omega),hb]),hb]
 | succ i =>
  have h:∀ x y:List UInt8,x.length=16→y.length=16→(if i+1<10 then x else y).length=16:=fun x y hx hy=>by split <;> assumption
  have h2:=h _ _ (columnsL_len (rowsL (subsL t (encUp key t b i)) 1) [2,3,1,1]) (rowsL_len (subsL t (encUp key t b i)) 1)
  rw [encUp,xorL_len _ _ (by rw [keyF_len key t hk (i+1) hi,h2]),h2]
end Go.Proofs.YthppjgdnibfefaaGreat
namespace Go.Proofs.YthppjgdnibfefaaGreat
open Go.RowKit
def RetRows (ps:List (List UInt8)) (w:World) (e:Ending) (w':World):Prop :=
 ∃ A c,e=.returned (.slice A ps.length c)∧OwnR w' w.heap.size A ps.length c ps∧Below w.heap.size w w'
def keyUp (ws:List (List UInt8)) (i:Nat):Nat→List UInt8 | 0=>[] | j+1=>keyUp ws i j++ws.getD (4*i+j) []
end Go.Proofs.YthppjgdnibfefaaGreat
namespace Go.Proofs.YthppjgdnibfefaaGreat
open Go.RowKit
end Go.Proofs.YthppjgdnibfefaaGreat
