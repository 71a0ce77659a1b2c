import Derived.Laws.NewBlocks
import Derived.Test.YthppjgdnibfefaaGreatBytes
import Derived.Deep.MidRow
set_option linter.all false
set_option maxRecDepth 100000
set_option maxHeartbeats 32000000
namespace Go.Proofs.YthppjgdnibfefaaGreat
open Go.RowKit
def Cells (w:World) (g n:Nat) (f:Nat→Value):Prop:=∀ j,j<n→w.cell? ⟨g,j,none⟩=some (f j)∧w.frozen? ⟨g,j,none⟩=false
def upd (f:Nat→Value) (k:Nat) (v:Value):Nat→Value:=fun j=>if j=k then v else f j
theorem AjW (f:Nat→Value) (k:Nat) (v:Value):upd f k v k=v:=if_pos rfl
theorem AaW (f:Nat→Value) (k j:Nat) (v:Value) (h:j≠k):upd f k v j=f j:=if_neg h
section
variable {w w':World} {g n k B:Nat} {f:Nat→Value}
theorem Cells.cell (h:Cells w g n f) (hk:k<n):w.cell? ⟨g,k,none⟩=some (f k):=(h k hk).1
theorem Cells.free (h:Cells w g n f) (hk:k<n):w.frozen? ⟨g,k,none⟩=false:=(h k hk).2
theorem Cells.lt (h:Cells w g n f) (hn:0<n):g<w.heap.size:=by
 have h0:=h.cell hn
 unfold World.cell? at h0
 rcases hg:w.heap[g]? with _ | o
 ·simp [hg] at h0
 ·exact (Array.getElem?_eq_some_iff.1 hg).1
theorem Cells.set (h:Cells w g n f) (hk:k<n) (v:Value):Cells (w.setCell ⟨g,k,none⟩ v) g n (upd f k v):=by
 intro j hj
 refine ⟨?_,by simp [h.free hj]⟩
 by_cases e:j=k
 ·subst e
  rw [AjW];exact World.cell?_setCell_same w _ v (h.cell hj)
 ·rw [AaW _ _ _ _ e]
  refine (World.cell?_setCell_other w ⟨g,k,none⟩ ⟨g,j,none⟩ v ?_).trans (h.cell hj);intro h2;injection h2 with _ h3;exact e h3.symm
theorem Cells.other (h:Cells w g n f) {a:Addr} (ha:a.block≠g) (v:Value):Cells (w.setCell a v) g n f:=by
 intro j hj
 refine ⟨(World.cell?_setCell_other w a ⟨g,j,none⟩ v ?_).trans (h.cell hj),by simp [h.free hj]⟩
 intro h2
 subst h2
 exact ha rfl
theorem Cells.drew (h:Cells w g n f):Cells w.drew g n f:=fun j hj=>⟨by simpa using h.cell hj,by simpa using h.free hj⟩
theorem Cells.drewN (h:Cells w g n f) (q:Nat):Cells (w.drewN q) g n f:=h
theorem Cells.below (h:Cells w g n f) (hb:Below B w w') (hg:g<B):Cells w' g n f:=fun j hj =>
 ⟨(hb.cell (p:=⟨g,j,none⟩) hg).trans (h.cell hj),(hb.frozen (p:=⟨g,j,none⟩) hg).trans (h.free hj)⟩
theorem Cells.alloc (h:Cells w g n f) (hn:0<n) (o:Obj):Cells (w.alloc o) g n f:=fun j hj=>by
 have hl:=h.lt hn
 exact ⟨(World.cell?_alloc_past _ _ _ hl).trans (h.cell hj),(World.frozen?_alloc_past _ _ _ hl).trans (h.free hj)⟩
theorem Cells.new (w:World) (cs:Array Value) (e:TypeId) (n:Nat) (hn:cs.size=n) (f:Nat→Value) (hf:∀ j,j<n→cs[j]?=some (f j)) (g:Nat) (hg:g=w.heap.size):Cells (w.alloc (.cells cs e)) g n f:=by
 subst hg
 intro j hj
 refine ⟨?_,?_⟩
 ·have:=cell_of_row (w.alloc (.cells cs e)) w.heap.size j _ e (0,0) (heap_alloc_new w _)
  rw [this];exact hf j hj
 ·have hh:(w.alloc (.cells cs e)).heap[w.heap.size]?=some (.cells cs e (0,0)):=heap_alloc_new w _
  unfold World.frozen?;rw [hh];simp
end
open Go.RowKit
structure But (b:Nat) (w w':World):Prop where
 os:w'.os=w.os
 tape:w'.tape=w.tape
 output:w'.output=w.output
 size:w.heap.size≤w'.heap.size
 block:∀ k,k<w.heap.size→k≠b→w'.heap[k]?=w.heap[k]?
section
variable {b:Nat} {w w1 w':World}
theorem But.refl (b:Nat) (w:World):But b w w:=⟨rfl,rfl,rfl,Nat.le_refl _,fun _ _ _=>rfl⟩
theorem But.of_below (h:Below w.heap.size w w'):But b w w':=⟨h.os,h.tape,h.output,h.size,fun k hk _=>h.block k hk⟩
theorem But.trans (h:But b w w1) (k:But b w1 w'):But b w w' :=
 ⟨k.os.trans h.os,k.tape.trans h.tape,k.output.trans h.output,Nat.le_trans h.size k.size,fun i hi hb=>(k.block i (Nat.lt_of_lt_of_le hi h.size) hb).trans (h.block i hi hb)⟩
theorem But.drew (h:But b w w1):But b w w1.drew:=⟨h.os,h.tape,h.output,h.size,h.block⟩
theorem But.drewN (h:But b w w1) (q:Nat):But b w (w1.drewN q):=⟨h.os,h.tape,h.output,h.size,h.block⟩
theorem But.setCell (h:But b w w1) {p:Addr} (hp:p.block=b∨w.heap.size≤p.block) (v:Value):But b w (w1.setCell p v) :=
 ⟨h.os,h.tape,h.output,by simpa using h.size,fun k hk hb=>(Below.heap_setCell w1 p v k (by rcases hp with hp | hp <;> omega)).trans (h.block k hk hb)⟩
theorem But.self (h:But b w w1) (o:Nat) (v:Value):But b w (w1.setCell ⟨b,o,none⟩ v):=h.setCell (.inl rfl) v
theorem But.alloc (h:But b w w1) (o:Obj):But b w (w1.alloc o):=h.trans (But.of_below (AaK w1 o))
theorem But.below (h:But b w w') {lo:Nat} (h1:lo≤b) (h2:b<w.heap.size):Below lo w w' :=
 ⟨h.os,h.tape,h.output,h.size,fun k hk=>h.block k (by omega) (by omega)⟩
theorem But.cell (h:But b w w') {p:Addr} (hp:p.block<w.heap.size) (hb:p.block≠b):w'.cell? p=w.cell? p:=World.cell?_of_block (w:=w) (h.block p.block hp hb)
theorem But.frozen (h:But b w w') {p:Addr} (hp:p.block<w.heap.size) (hb:p.block≠b):w'.frozen? p=w.frozen? p:=World.frozen?_of_block (w:=w) (h.block p.block hp hb)
theorem RB.but {B n:Nat} {A:YA} {l:YB} (h:RB w B A n l) (hb:But b w w') (hB:B≤w.heap.size) (hne:∀ g o,0<n→A=some ⟨g,o,none⟩→g≠b):RB w' B A n l :=
 ⟨h.1,fun hn=>by
  obtain ⟨g,o,e,hg,hc⟩:=h.2 hn
  exact ⟨g,o,e,hg,fun i hi=>(hb.cell (p:=⟨g,o+i,none⟩) (by show g<_;omega) (hne g o hn e)).trans (hc i hi)⟩⟩
end
open Go.RowKit
def AV (l:YB):Value:=.agg (bvs l).toArray
def Ar (w:World) (g o:Nat) (l:YB):Prop:=w.rangeAt g o (bvs l)∧w.there g o (bvs l).length
def cutL (l:YB) (i n:Nat):List UInt8:=(l.drop i).take n
def layL (l:YB) (i:Nat) (m:YB):List UInt8:=l.take i++(m++l.drop (i+m.length))
theorem AoK (l:YB) (i n:Nat) (h:i+n≤l.length):(cutL l i n).length=n:=by simp [cutL];omega
theorem DtW (l:YB) (i:Nat) (m:YB) (h:i+m.length≤l.length):(layL l i m).length=l.length:=by simp [layL];omega
theorem BtJ (l:YB) (i n j:Nat) (hj:j<n):(cutL l i n)[j]?=l[i+j]?:=by
 rw [cutL,List.getElem?_take,if_pos hj,List.getElem?_drop]
theorem CcK (l m:YB) (i j:Nat) (hi:i≤l.length):(layL l i m)[j]?=if i≤j∧j<i+m.length then m[j - i]? else l[j]?:=by
 unfold layL
 by_cases h1:j<i
 ·rw [List.getElem?_append_left (by rw [List.length_take];omega),List.getElem?_take,if_pos h1,if_neg (by omega)]
 ·rw [List.getElem?_append_right (by rw [List.length_take];omega),List.length_take,show min i l.length=i from Nat.min_eq_left hi]
  by_cases h2:j<i+m.length
  ·rw [List.getElem?_append_left (by omega),if_pos ⟨by omega,h2⟩]
  ·rw [List.getElem?_append_right (by omega),if_neg (by omega),List.getElem?_drop]
   congr 1;omega
theorem BtQ (l:YB) (j:Nat):(bvs l)[j]?=l[j]?.map bv:=by simp [bvs]
section
variable {w w':World} {g o i B:Nat} {l m:YB}
theorem Ar.cell {x:UInt8} (h:Ar w g o l) {j:Nat} (hx:l[j]?=some x):w.cell? ⟨g,o+j,none⟩=some (bv x):=h.1 j (bv x) (by rw [BtQ,hx];rfl)
theorem Ar.free (h:Ar w g o l) {j:Nat} (hj:j<l.length):w.frozen? ⟨g,o+j,none⟩=false:=(h.2 j (by rw [AaY];exact hj)).2
theorem Ar.mk (hc:∀ j x,l[j]?=some x→w.cell? ⟨g,o+j,none⟩=some (bv x)) (hf:∀ j,j<l.length→w.frozen? ⟨g,o+j,none⟩=false):Ar w g o l:=by
 refine ⟨fun j v hv=>?_,fun j hj=>?_⟩
 ·rw [BtQ] at hv
  rcases hx:l[j]? with _ | x
  ·rw [hx] at hv;simp at hv
  ·rw [hx] at hv
   injection hv with hv;rw [←hv];exact hc j x hx
 ·rw [AaY] at hj
  exact ⟨by rw [hc j l[j] (List.getElem?_eq_getElem hj)];rfl,hf j hj⟩
theorem Ar.lt (h:Ar w g o l) (hn:0<l.length):g<w.heap.size:=World.block_lt_of_cell? w _ (h.cell (List.getElem?_eq_getElem hn))
theorem Ar.same (h:Ar w g o l) (hc:∀ k,w'.cell? ⟨g,k,none⟩=w.cell? ⟨g,k,none⟩) (hf:∀ k,w'.frozen? ⟨g,k,none⟩=w.frozen? ⟨g,k,none⟩):Ar w' g o l :=
 Ar.mk (fun j x hx=>(hc _).trans (h.cell hx)) (fun j hj=>(hf _).trans (h.free hj))
theorem Ar.block (h:Ar w g o l) (hb:w'.heap[g]?=w.heap[g]?):Ar w' g o l:=h.same (fun k=>World.cell?_of_block hb) (fun k=>World.frozen?_of_block hb)
theorem Ar.below (h:Ar w g o l) (hb:Below B w w') (hg:g<B):Ar w' g o l:=h.block (hb.block g hg)
theorem Ar.drew (h:Ar w g o l):Ar w.drew g o l:=h.same (fun k=>by simp) (fun k=>by simp)
theorem Ar.alloc (h:Ar w g o l) (hg:g<w.heap.size) (ob:Obj):Ar (w.alloc ob) g o l:=h.below ((Below.refl w.heap.size w).alloc (Nat.le_refl _) ob) hg
theorem Ar.setCell (h:Ar w g o l) {p:Addr} (hp:p.block≠g) (v:Value):Ar (w.setCell p v) g o l :=
 h.block (Below.heap_setCell w p v g (fun e=>hp e.symm))
theorem AcY (b:Nat) (k:Nat) (hk:k≠b):∀ (vs:List Value) (o:Nat) (w:World),(w.setCells b o vs).heap[k]?=w.heap[k]?
 | [],_,_=>rfl
 | v::r,o,w=>by
  rw [World.setCells,AcY b k hk r (o+1)];exact Below.heap_setCell w ⟨b,o,none⟩ v k hk
theorem Ar.setCells (h:Ar w g o l) {b:Nat} (hb:b≠g) (o':Nat) (vs:List Value):Ar (w.setCells b o' vs) g o l :=
 h.block (AcY b g (fun e=>hb e.symm) vs o' w)
theorem Ar.new (w:World) (l:YB) (T:TypeId):Ar (w.alloc (.cells (bvs l).toArray T)) w.heap.size 0 l:=by
 refine Ar.mk (fun j x hx=>?_) (fun j hj=>?_)
 ·rw [World.cell?_alloc_at _ _ _ _ rfl,Nat.zero_add]
  simp [BtQ,hx]
 ·exact World.frozen?_alloc_at _ _ _ _ rfl
theorem Ar.part (h:Ar w g o l) (i n:Nat) (hn:i+n≤l.length):Ar w g (o+i) (cutL l i n):=by
 refine Ar.mk (fun j x hx=>?_) (fun j hj=>?_)
 ·have hj:j<n:=by
   have:=(List.getElem?_eq_some_iff.1 hx).1;rw [AoK l i n hn] at this;exact this
  rw [BtJ l i n j hj] at hx;rw [Nat.add_assoc];exact h.cell hx
 ·rw [AoK l i n hn] at hj
  rw [Nat.add_assoc];exact h.free (by omega)
theorem Ar.lay (h:Ar w g o l) (i:Nat) (m:YB) (hm:i+m.length≤l.length):Ar (w.setCells g (o+i) (bvs m)) g o (layL l i m):=by
 refine Ar.mk (fun j x hx=>?_) (fun j hj=>?_)
 ·rw [CcK l m i j (by omega)] at hx
  by_cases hin:i≤j∧j<i+m.length
  ·rw [if_pos hin] at hx
   have:=World.cell?_setCells_in g (bvs m) (o+i) w (fun q hq=>by
    rw [AaY] at hq
    rw [Nat.add_assoc,h.cell (List.getElem?_eq_getElem (show i+q<l.length by omega))];rfl) (j - i) (by rw [AaY];omega)
   rw [show o+i+(j - i)=o+j by omega] at this;rw [this];have hq:(bvs m)[j - i]?=some (bv x):=by rw [BtQ,hx];rfl
   rw [←hq,List.getElem?_eq_getElem]
  ·rw [if_neg hin] at hx
   rw [World.cell?_setCells_out g (bvs m) (o+i) w ⟨g,o+j,none⟩ (fun _ _=>by rw [AaY];show o+j<o+i∨o+i+m.length≤o+j;omega)];exact h.cell hx
 ·rw [DtW l i m hm] at hj
  rw [World.frozen?_setCells];exact h.free hj
theorem Ar.whole (h:Ar w g o l) (m:YB) (hm:m.length=l.length):Ar (w.setCells g o (bvs m)) g o m:=by
 have:=h.lay 0 m (by omega)
 rw [show layL l 0 m=m by simp [layL,hm]] at this
 exact this
theorem Ar.set (h:Ar w g o l) {k:Nat} (hk:k<l.length) (x:UInt8):Ar (w.setCell ⟨g,o+k,none⟩ (bv x)) g o (l.set k x):=by
 refine Ar.mk (fun j y hy=>?_) (fun j hj=>?_)
 ·rw [List.getElem?_set] at hy
  by_cases e:k=j
  ·subst e
   rw [if_pos rfl,if_pos hk] at hy;injection hy with hy;subst hy;exact World.cell?_setCell_same w _ _ (h.cell (List.getElem?_eq_getElem hk))
  ·rw [if_neg e] at hy
   rw [World.cell?_setCell_other _ _ _ _ (fun e2=>e (by injection e2 with _ e3;omega))];exact h.cell hy
 ·rw [List.length_set] at hj
  simp [h.free hj]
theorem AaQ {a:World} (h:Below B a w) {b:Nat} (hb:B≤b) (o:Nat) (vs:List Value):Below B a (w.setCells b o vs):=by
 induction vs generalizing o w with
 | nil=>exact h
 | cons v r ih=>rw [World.setCells];exact ih (h.setCell (p:=⟨b,o,none⟩) hb v) (o+1)
theorem CrY (l:YB):(bvs l).toArray.all (·.oneCell')=true:=all_oneCell_toArray (fun v hv=>BkK l v hv)
theorem Ar.rb (h:Ar w g o l) (hB:g<B):RB w B (some ⟨g,o,none⟩) l.length l:=⟨rfl,fun _=>⟨g,o,rfl,hB,fun i hi=>h.cell (List.getElem?_eq_getElem hi)⟩⟩
end
open Go.RowKit
def tv (b:Bool):Value:=.bool b
def tvs (l:List Bool):List Value:=l.map tv
theorem AeX (l:List Bool):(tvs l).length=l.length:=by simp [tvs]
theorem tvs_one (l:List Bool):∀ u∈tvs l,u.oneCell'=true:=by
 intro u hu
 obtain ⟨_,_,rfl⟩:=List.mem_map.1 hu
 rfl
def BV (l:List Bool):Value:=.agg (tvs l).toArray
def Br (w:World) (g o:Nat) (l:List Bool):Prop:=w.rangeAt g o (tvs l)∧w.there g o (tvs l).length
def layT (l:List Bool) (i:Nat) (m:List Bool):List Bool:=l.take i++(m++l.drop (i+m.length))
theorem layT_len (l:List Bool) (i:Nat) (m:List Bool) (h:i+m.length≤l.length):(layT l i m).length=l.length:=by simp [layT];omega
theorem layT_at (l m:List Bool) (i j:Nat) (hi:i≤l.length):(layT l i m)[j]?=if i≤j∧j<i+m.length then m[j - i]? else l[j]?:=by
 unfold layT
 by_cases h1:j<i
 ·rw [List.getElem?_append_left (by rw [List.length_take];omega),List.getElem?_take,if_pos h1,if_neg (by omega)]
 ·rw [List.getElem?_append_right (by rw [List.length_take];omega),List.length_take,show min i l.length=i from Nat.min_eq_left hi]
  by_cases h2:j<i+m.length
  ·rw [List.getElem?_append_left (by omega),if_pos ⟨by omega,h2⟩]
  ·rw [List.getElem?_append_right (by omega),if_neg (by omega),List.getElem?_drop]
   congr 1;omega
theorem CmY (l:List Bool) (j:Nat):(tvs l)[j]?=l[j]?.map tv:=by simp [tvs]
section
variable {w w':World} {g o i B:Nat} {l m:List Bool}
theorem Br.cell {x:Bool} (h:Br w g o l) {j:Nat} (hx:l[j]?=some x):w.cell? ⟨g,o+j,none⟩=some (tv x):=h.1 j (tv x) (by rw [CmY,hx];rfl)
theorem Br.free (h:Br w g o l) {j:Nat} (hj:j<l.length):w.frozen? ⟨g,o+j,none⟩=false:=(h.2 j (by rw [AeX];exact hj)).2
theorem Br.mk (hc:∀ j x,l[j]?=some x→w.cell? ⟨g,o+j,none⟩=some (tv x)) (hf:∀ j,j<l.length→w.frozen? ⟨g,o+j,none⟩=false):Br w g o l:=by
 refine ⟨fun j v hv=>?_,fun j hj=>?_⟩
 ·rw [CmY] at hv
  rcases hx:l[j]? with _ | x
  ·rw [hx] at hv;simp at hv
  ·rw [hx] at hv
   injection hv with hv;rw [←hv];exact hc j x hx
 ·rw [AeX] at hj
  exact ⟨by rw [hc j l[j] (List.getElem?_eq_getElem hj)];rfl,hf j hj⟩
theorem Br.lt (h:Br w g o l) (hn:0<l.length):g<w.heap.size:=World.block_lt_of_cell? w _ (h.cell (List.getElem?_eq_getElem hn))
theorem Br.same (h:Br w g o l) (hc:∀ k,w'.cell? ⟨g,k,none⟩=w.cell? ⟨g,k,none⟩) (hf:∀ k,w'.frozen? ⟨g,k,none⟩=w.frozen? ⟨g,k,none⟩):Br w' g o l :=
 Br.mk (fun j x hx=>(hc _).trans (h.cell hx)) (fun j hj=>(hf _).trans (h.free hj))
theorem Br.block (h:Br w g o l) (hb:w'.heap[g]?=w.heap[g]?):Br w' g o l:=h.same (fun k=>World.cell?_of_block hb) (fun k=>World.frozen?_of_block hb)
theorem Br.below (h:Br w g o l) (hb:Below B w w') (hg:g<B):Br w' g o l:=h.block (hb.block g hg)
theorem Br.drew (h:Br w g o l):Br w.drew g o l:=h.same (fun k=>by simp) (fun k=>by simp)
theorem Br.alloc (h:Br w g o l) (hg:g<w.heap.size) (ob:Obj):Br (w.alloc ob) g o l:=h.below ((Below.refl w.heap.size w).alloc (Nat.le_refl _) ob) hg
theorem Br.setCell (h:Br w g o l) {p:Addr} (hp:p.block≠g) (v:Value):Br (w.setCell p v) g o l :=
 h.block (Below.heap_setCell w p v g (fun e=>hp e.symm))
theorem Br.setCells (h:Br w g o l) {b:Nat} (hb:b≠g) (o':Nat) (vs:List Value):Br (w.setCells b o' vs) g o l :=
 h.block (AcY b g (fun e=>hb e.symm) vs o' w)
theorem Br.new (w:World) (l:List Bool) (T:TypeId):Br (w.alloc (.cells (tvs l).toArray T)) w.heap.size 0 l:=by
 refine Br.mk (fun j x hx=>?_) (fun j hj=>?_)
 ·rw [World.cell?_alloc_at _ _ _ _ rfl,Nat.zero_add]
  simp [CmY,hx]
 ·exact World.frozen?_alloc_at _ _ _ _ rfl
theorem Br.lay (h:Br w g o l) (i:Nat) (m:List Bool) (hm:i+m.length≤l.length):Br (w.setCells g (o+i) (tvs m)) g o (layT l i m):=by
 refine Br.mk (fun j x hx=>?_) (fun j hj=>?_)
 ·rw [layT_at l m i j (by omega)] at hx
  by_cases hin:i≤j∧j<i+m.length
  ·rw [if_pos hin] at hx
   have:=World.cell?_setCells_in g (tvs m) (o+i) w (fun q hq=>by
    rw [AeX] at hq
    rw [Nat.add_assoc,h.cell (List.getElem?_eq_getElem (show i+q<l.length by omega))];rfl) (j - i) (by rw [AeX];omega)
   rw [show o+i+(j - i)=o+j by omega] at this;rw [this];have hq:(tvs m)[j - i]?=some (tv x):=by rw [CmY,hx];rfl
   rw [←hq,List.getElem?_eq_getElem]
  ·rw [if_neg hin] at hx
   rw [World.cell?_setCells_out g (tvs m) (o+i) w ⟨g,o+j,none⟩ (fun _ _=>by rw [AeX];show o+j<o+i∨o+i+m.length≤o+j;omega)];exact h.cell hx
 ·rw [layT_len l i m hm] at hj
  rw [World.frozen?_setCells];exact h.free hj
theorem Br.whole (h:Br w g o l) (m:List Bool) (hm:m.length=l.length):Br (w.setCells g o (tvs m)) g o m:=by
 have:=h.lay 0 m (by omega)
 rw [show layT l 0 m=m by simp [layT,hm]] at this
 exact this
theorem Br.set (h:Br w g o l) {k:Nat} (hk:k<l.length) (x:Bool):Br (w.setCell ⟨g,o+k,none⟩ (tv x)) g o (l.set k x):=by
 refine Br.mk (fun j y hy=>?_) (fun j hj=>?_)
 ·rw [List.getElem?_set] at hy
  by_cases e:k=j
  ·subst e
   rw [if_pos rfl,if_pos hk] at hy;injection hy with hy;subst hy;exact World.cell?_setCell_same w _ _ (h.cell (List.getElem?_eq_getElem hk))
  ·rw [if_neg e] at hy
   rw [World.cell?_setCell_other _ _ _ _ (fun e2=>e (by injection e2 with _ e3;omega))];exact h.cell hy
 ·rw [List.length_set] at hj
  simp [h.free hj]
theorem FbQ (l:List Bool):(tvs l).toArray.all (·.oneCell')=true:=all_oneCell_toArray (fun v hv=>tvs_one l v hv)
end
