/- Slices of byte slices that a call makes itself: append of one row, reading a row. Conditions: lengths within the model's bounds, as each law says. -/
import Derived.Test.YthppjgdnibfefaaGreatRowsIn
import Derived.Deep.MidRow
set_option linter.unusedVariables false
set_option linter.unusedSimpArgs false
set_option maxRecDepth 100000
set_option maxHeartbeats 32000000
namespace Go.Proofs.YthppjgdnibfefaaGreat
open Go.RowKit
def OwnR (w:World) (base:Nat) (A:Option Addr) (n c:Nat) (ps:List (List UInt8)):Prop :=
 ∃ vs:List Value,w.ownsRow base 41 1 (.slice A n c) n vs∧vs.length=ps.length∧∀ (i:Nat) (p:List UInt8),ps[i]?=some p→∃ Ai ci,vs[i]?=some (.slice Ai p.length ci)∧OwnB w base Ai p.length ci p
def KeepsB (w w':World):Prop:=∀ base A n c l,OwnB w base A n c l→OwnB w' base A n c l
section
variable {w w':World} {base n c:Nat} {A:Option Addr} {ps:List (List UInt8)}
theorem KeepsB.trans {w1:World} (h:KeepsB w w1) (h':KeepsB w1 w'):KeepsB w w':=fun b A n c l ho=>h' b A n c l (h b A n c l ho)
theorem keepsB_below (h:Below w.heap.size w w'):KeepsB w w':=fun b A n c l ho=>ho.below h
theorem OwnR.len (h:OwnR w base A n c ps):ps.length=n:=by
 obtain ⟨vs,h1,h2,_⟩:=h
 have:=h1.1
 omega
theorem OwnR.keep (h:OwnR w base A n c ps) (hk:KeepsB w w') (hb:∀ vs,w.ownsRow base 41 1 (.slice A n c) n vs→w'.ownsRow base 41 1 (.slice A n c) n vs):OwnR w' base A n c ps:=by
 obtain ⟨vs,h1,h2,h3⟩:=h
 refine ⟨vs,hb vs h1,h2,fun i p hp=>?_⟩
 obtain ⟨Ai,ci,k1,k2⟩:=h3 i p hp
 exact ⟨Ai,ci,k1,hk _ _ _ _ _ k2⟩
theorem ownsRow_below {e:TypeId} {v:Value} {m:Nat} {vs:List Value} (h:w.ownsRow base e 1 v m vs) (hb:Below w.heap.size w w'):w'.ownsRow base e 1 v m vs:=by
 refine ⟨h.1,?_⟩
 rcases h.2 with h0 | ⟨g,cap,cur,hv,hbg,hh,r⟩
 ·exact .inl h0
 ·exact .inr ⟨g,cap,cur,hv,hbg,(hb.block g (Array.getElem?_eq_some_iff.1 hh).1).trans hh,r⟩
theorem OwnR.below (h:OwnR w base A n c ps) (hb:Below w.heap.size w w'):OwnR w' base A n c ps:=h.keep (keepsB_below hb) fun _ ho=>ownsRow_below ho hb
theorem OwnB.step {base':Nat} {l:List UInt8} {A':Option Addr} {n' c':Nat} (h:OwnB w w.heap.size A' n' c' l) (hb:base'≤w.heap.size):OwnB w base' A' n' c' l:=h.base_le hb
theorem OwnR.base_le {base':Nat} (h:OwnR w base A n c ps) (hb:base'≤base):OwnR w base' A n c ps:=by
 obtain ⟨vs,h1,h2,h3⟩:=h
 refine ⟨vs,⟨h1.1,?_⟩,h2,fun i p hp=>?_⟩
 ·rcases h1.2 with h0 | ⟨g,cap,cur,hv,hbg,r⟩
  ·exact .inl h0
  ·exact .inr ⟨g,cap,cur,hv,by omega,r⟩
 ·obtain ⟨Ai,ci,k1,k2⟩:=h3 i p hp
  exact ⟨Ai,ci,k1,k2.base_le hb⟩
theorem OwnR.drew (h:OwnR w base A n c ps):OwnR w.drew base A n c ps:=h
theorem OwnR.nil_ (w:World) (base:Nat):OwnR w base none 0 0 []:=⟨[],World.ownsRow_nil w base _ 1,rfl,fun i p hp=>by simp at hp⟩
theorem OwnR.at_ {k:Nat} (h:OwnR w base A n c ps) (hk:k<n):∃ g p Ai ci,A=some ⟨g,0,none⟩∧base≤g∧ps[k]?=some p∧w.cell? ⟨g,k,none⟩=some (.slice Ai p.length ci)∧OwnB w base Ai p.length ci p:=by
 have hl:=h.len
 obtain ⟨vs,h1,h2,h3⟩:=h
 obtain ⟨p,hp⟩:∃ p,ps[k]?=some p:=⟨ps[k]'(by omega),List.getElem?_eq_getElem (by omega)⟩
 obtain ⟨Ai,ci,k1,k2⟩:=h3 k p hp
 rcases h1.2 with ⟨_,h0⟩ | ⟨g,cap,cur,hv,hbg,hh,r⟩
 ·omega
 ·injection hv with hA hn hc
  subst hA
  exact ⟨g,p,Ai,ci,rfl,hbg,hp,by rw [World.ownsRow.cellAt h1 k (by omega)];exact k1,k2⟩
theorem OwnR.rr (h:OwnR w base A n c ps):RR w w.heap.size A n ps:=by
 have hl:=h.len
 refine ⟨hl,fun hn=>?_⟩
 obtain ⟨g,p,Ai,ci,rfl,hbg,hp,hc,ho⟩:=h.at_ hn
 have hg:g<w.heap.size:=World.block_lt_of_cell? w _ hc
 refine ⟨g,0,rfl,hg,fun i q hq=>?_⟩
 have hi:i<n:=by rw [←hl];exact (List.getElem?_eq_some_iff.1 hq).1
 obtain ⟨g2,p2,A2,c2,e2,_,hp2,hc2,ho2⟩:=h.at_ hi
 injection e2 with e2
 injection e2 with e3
 subst e3
 rw [hq] at hp2
 injection hp2 with e4
 subst e4
 exact ⟨A2,c2,by rw [Nat.zero_add];exact hc2,ho2.rb⟩
end
end Go.Proofs.YthppjgdnibfefaaGreat
namespace Go.Proofs.YthppjgdnibfefaaGreat
open Go.RowKit
structure CellsOf (T S:TypeId) (k bytes:Nat) (z:Value) (f:Nat→List Value):Prop where
 und:Tryz.prog.underlying S=some (.slice T)
 info:(Tryz.prog.info? T).map (fun i=>(i.zero,i.size,i.bytes))=some (some z,k,bytes)
 zk:z.cells.size=k
 pos:0<k
 len:∀ x,(f x).length=k
 one:∀ x,∀ u∈f x,u.oneCell'=true
theorem flat_len {k:Nat} {f:Nat→List Value} (h:∀ x,(f x).length=k):∀ xs:List Nat,(xs.flatMap f).length=xs.length*k
 | []=>by simp
 | x::xs=>by rw [List.flatMap_cons,List.length_append,h x,flat_len h xs,List.length_cons,Nat.succ_mul,Nat.add_comm]
theorem flat_at {k:Nat} {f:Nat→List Value} (h:∀ x,(f x).length=k):∀ (xs:List Nat) (i x j:Nat),xs[i]?=some x→j<k→(xs.flatMap f)[i*k+j]?=(f x)[j]?
 | [],i,x,j,hx,_=>by simp at hx
 | y::xs,0,x,j,hx,hj=>by
  injection hx with hx
  subst hx
  rw [List.flatMap_cons,List.getElem?_append_left (by rw [h];omega),Nat.zero_mul,Nat.zero_add]
 | y::xs,i+1,x,j,hx,hj=>by
  have e:(i+1)*k+j=k+(i*k+j):=by rw [Nat.succ_mul];omega
  rw [List.flatMap_cons,e,List.getElem?_append_right (by rw [h];omega),h,Nat.add_sub_cancel_left]
  exact flat_at h xs i x j hx hj
def OwnX (T:TypeId) (k:Nat) (f:Nat→List Value) (w:World) (base:Nat) (A:Option Addr) (n c:Nat) (xs:List Nat):Prop :=
 w.ownsRow base T k (.slice A n c) n (xs.flatMap f)∧xs.length=n
section
variable {T S:TypeId} {k bytes:Nat} {z:Value} {f:Nat→List Value} {w w':World} {base n c g:Nat} {A:Option Addr} {xs:List Nat}
theorem OwnX.below (h:OwnX T k f w base A n c xs) (hb:Below w.heap.size w w'):OwnX T k f w' base A n c xs:=by
 refine ⟨⟨h.1.1,?_⟩,h.2⟩
 rcases h.1.2 with h0 | ⟨g,cap,cur,hv,hbg,hh,r⟩
 ·exact .inl h0
 ·exact .inr ⟨g,cap,cur,hv,hbg,(hb.block g (Array.getElem?_eq_some_iff.1 hh).1).trans hh,r⟩
theorem OwnX.base_le {base':Nat} (h:OwnX T k f w base A n c xs) (hb:base'≤base):OwnX T k f w base' A n c xs:=by
 refine ⟨⟨h.1.1,?_⟩,h.2⟩
 rcases h.1.2 with h0 | ⟨g,cap,cur,hv,hbg,r⟩
 ·exact .inl h0
 ·exact .inr ⟨g,cap,cur,hv,by omega,r⟩
theorem OwnX.drew (h:OwnX T k f w base A n c xs):OwnX T k f w.drew base A n c xs:=h
theorem OwnX.nil_ (T:TypeId) (k:Nat) (f:Nat→List Value) (w:World) (base:Nat):OwnX T k f w base none 0 0 []:=⟨World.ownsRow_nil w base _ k,rfl⟩
theorem OwnX.at_ (h:OwnX T k f w base A n c xs) (hf:∀ x,(f x).length=k) {i x:Nat} (hx:xs[i]?=some x):∃ g,A=some ⟨g,0,none⟩∧base≤g∧g<w.heap.size∧w.rangeAt g (i*k) (f x):=by
 have hi:i<n:=by have:=(List.getElem?_eq_some_iff.1 hx).1;have:=h.2;omega
 have hA:∃ g,A=some ⟨g,0,none⟩∧base≤g∧g<w.heap.size:=by
  rcases h.1.2 with ⟨_,h0⟩ | ⟨g,cap,cur,hv,hbg,hh,r⟩
  ·omega
  ·injection hv with hA
   exact ⟨g,hA,hbg,(Array.getElem?_eq_some_iff.1 hh).1⟩
 obtain ⟨g,rfl,hbg,hg⟩:=hA
 refine ⟨g,rfl,hbg,hg,fun j v hv=>?_⟩
 have hj:j<k:=by have:=(List.getElem?_eq_some_iff.1 hv).1;rw [hf] at this;exact this
 have hlt:i*k+j<n*k:=by
  have:(i+1)*k≤n*k:=Nat.mul_le_mul_right k hi
  rw [Nat.succ_mul] at this
  omega
 rw [World.ownsRow.cellAt h.1 (i*k+j) hlt,flat_at hf xs i x j hx hj]
 exact hv
end
end Go.Proofs.YthppjgdnibfefaaGreat
