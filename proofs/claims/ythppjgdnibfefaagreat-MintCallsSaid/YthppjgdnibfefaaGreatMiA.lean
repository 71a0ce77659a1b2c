import Derived.Test.YthppjgdnibfefaaGreatMiD
set_option linter.all false
set_option maxRecDepth 100000
set_option maxHeartbeats 32000000
namespace Go.Proofs.YthppjgdnibfefaaGreat
open Tryz
open Go.RowKit
structure AZ (v:World) (x:Nat) (A:YA) (c:Nat) (es:Ens) (N F mi:Nat) (k:Ms) (rows:List Rw) (recs:List (TypeId×Nat×List Value)) (w:World):Prop where
 my:MY v x A c es N F mi k rows w
 rb:∀ r∈recs,Blk r.1 w r.2.1 r.2.2∧v.heap.size≤r.2.1∧r.2.1≠mi∧(∀ e∈es,e.1.o r.2.1)∧r.2.1≠x
 ap:∀ r∈rows,0<r.2.1→∀ q∈recs,q.2.1∉blkO r.1
theorem EoX {w:World} {B n:Nat} {A:YA} {l:YB} (h:RB w B A n l) (hn:0<n):∀ g∈blkO A,g<B:=fun g hg=>by
 obtain ⟨b,o,eb,hlt,_⟩:=h.2 hn
 rw [eb] at hg
 rw [show g=b by simpa [blkO] using hg]
 exact hlt
section
variable {v w w1 w':World} {x c N F N' F' mi n d g:Nat} {A B:YA} {es:Ens} {k k':Ms} {rows rows':List Rw} {recs recs':List (TypeId×Nat×List Value)} {l:YB} {T:TypeId} {cs cs':List Value} {u:Oc} {e:Ending} {s:Rg}
theorem AZ.of_my (h:MY v x A c es N F mi k rows w):AZ v x A c es N F mi k rows [] w:=⟨h,(fun r hr=>by cases hr),fun r hr hn q hq=>by cases hq⟩
theorem AZ.bel (h:AZ v x A c es N F mi k rows recs w):Below v.heap.size v w:=h.my.bel
theorem AZ.step (h:AZ v x A c es N F mi k rows recs w) (hb:Below w.heap.size w w'):AZ v x A c es N F mi k rows recs w':=⟨h.my.step hb,fun r hr=>⟨(h.rb r hr).1.step hb,(h.rb r hr).2⟩,h.ap⟩
theorem AZ.new (h:AZ v x A c es N F mi k rows recs w) (hb:Below w.heap.size w w') (hc:Blk T w' g cs) (hg:w.heap.size≤g):AZ v x A c es N F mi k rows ((T,g,cs)::recs) w' :=
 ⟨h.my.step hb,fun r hr=>by
  rcases List.mem_cons.1 hr with rfl | hr
  ·exact ⟨hc,Nat.le_trans h.my.bel.size hg,fun e=>by have:=h.my.mb.lt;simp only at e;omega,fun e he=>.inr (Nat.le_trans (h.my.rn.ok e he).1.le hg),fun e=>by have:=h.my.rn.blk.lt;simp only at e;omega⟩
  ·exact (h.step hb).rb r hr,fun r hr hn q hq hm=>by
  rcases List.mem_cons.1 hq with rfl | hq
  ·have:=EoX (h.my.row r hr).rb hn _ hm;simp only at this;omega
  ·exact h.ap r hr hn q hq hm⟩
theorem AZ.own (h:AZ v x A c es N F mi k rows recs w) (hb:Below w.heap.size w w') (ho:OwnB w' w.heap.size B n d l):AZ v x A c es N F mi k ((B,n,d,l)::rows) recs w':=⟨h.my.own hb ho,(h.step hb).rb,fun r hr hn q hq hm=>by
 rcases List.mem_cons.1 hr with rfl | hr
 ·have h1:=(BbW ho _ hm).1;have h2:=(h.rb q hq).1.lt;omega
 ·exact h.ap r hr hn q hq hm⟩
theorem AZ.lit (h:AZ v x A c es N F mi k rows recs w) (l:YB) (cs:Array Value) (n:Nat) (hc:cs=(bvs l).toArray) (hn:l.length=n) (hm:n≤maxLen):AZ v x A c es N F mi k ((some ⟨w.heap.size,0,none⟩,n,n,l)::rows) recs (w.alloc (.cells cs 5)) :=
 h.own (AaK _ _) (OwnB.lit w w.heap.size l cs n hc hn hm (Nat.le_refl _))
theorem AZ.took (h:AZ v x A c es N F mi k rows recs w) (ho:Oth (mi::esS es) w w') (hy:MY v x A c es N' F' mi k' ((B,n,d,l)::rows) w') (hw:OwnB w' w.heap.size B n d l):AZ v x A c es N' F' mi k' ((B,n,d,l)::rows) recs w' :=
 ⟨hy,fun r hr=>⟨(h.rb r hr).1.oth ho (fun hm=>by
  rcases List.mem_cons.1 hm with e | hm
  ·exact (h.rb r hr).2.2.1 e
  ·exact h.my.rn.out_es (h.rb r hr).2.2.2.1 hm),(h.rb r hr).2⟩,fun r hr hn q hq hm=>by
 rcases List.mem_cons.1 hr with rfl | hr
 ·have h1:=(BbW hw _ hm).1;have h2:=(h.rb q hq).1.lt;omega
 ·exact h.ap r hr hn q hq hm⟩
theorem AZ.mint (h:AZ v x A c es N F mi k rows recs w) (ho:Oth [mi] w w') (hb:Blk 71 w' mi (AfK k' x)) (hs:k'.s=k.s) (hp:AcW k'.p=true):AZ v x A c es N F mi k' rows recs w' :=
 ⟨h.my.put ho hb hs hp,fun r hr=>⟨(h.rb r hr).1.oth ho (by simpa using (h.rb r hr).2.2.1),(h.rb r hr).2⟩,h.ap⟩
theorem AZ.sub (h:AZ v x A c es N F mi k rows recs w) (hr:∀ r∈rows',r∈rows) (hq:∀ r∈recs',r∈recs):AZ v x A c es N F mi k rows' recs' w:=⟨h.my.sub hr,(fun r hm=>h.rb r (hq r hm)),fun r hm hn q hqm=>h.ap r (hr r hm) hn q (hq q hqm)⟩
theorem AZ.set (h:AZ v x A c es N F mi k rows recs w) (hm:(T,g,cs)∈recs) (ho:Oth [g] w w') (hc:Blk T w' g cs') (h2:T≠133) (h3:T≠130) (hr:∀ r∈recs',r=(T,g,cs')∨(r∈recs∧r.2.1≠g)):AZ v x A c es N F mi k rows recs' w':=by
 obtain ⟨hb,hv,hmi,hout,hxr⟩:=h.rb _ hm
 simp only at hb hv hmi hout hxr
 have nx:x≠g:=fun e=>hb.far h.my.rn.blk h2 e.symm
 have nA:g∉blkO A:=h.my.rn.grd.away hb (Ne.symm h3)
 refine ⟨⟨h.my.bel.trans (ho.below (fun j hj=>by rw [List.mem_singleton.1 hj];exact hv) h.my.bel.size),h.my.rn.off ho (by simpa using nx) (fun j hj hm=>nA (by rw [←List.mem_singleton.1 hm];exact hj)) (fun e he j hj=>by rw [List.mem_singleton.1 hj];exact hout e he),h.my.mb.oth ho (by simpa using hmi.symm),h.my.mo,h.my.lo,fun r hr=>⟨(h.my.row r hr).rb.oth ho (fun h0 j o e hj=>h.ap r hr h0 _ hm (by rw [e,List.mem_singleton.1 hj];simp [blkO])),(h.my.row r hr).cap,(h.my.row r hr).o⟩,h.my.ee,h.my.os,h.my.pr⟩,fun r hm2=>?_,fun r hr2 h0 q hq hmm=>?_⟩
 rotate_left
 ·rcases hr q hq with rfl | ⟨h5,_⟩
  ·exact h.ap r hr2 h0 _ hm hmm
  ·exact h.ap r hr2 h0 q h5 hmm
 rcases hr r hm2 with rfl | ⟨hr1,hr2⟩
 ·exact ⟨hc,hv,hmi,hout,hxr⟩
 ·exact ⟨(h.rb r hr1).1.oth ho (by simpa using hr2),(h.rb r hr1).2⟩
theorem AZ.inst0 (h:AZ v x none 0 [] N F mi k rows recs w) (hr:RetRn v.heap.size x none [] N F s w w') (os:okR s):∃ A' c' es',AZ v x A' c' es' N F mi { k with s:=s } rows recs w':=by
 obtain ⟨A',c',es',hrn,hs,ho,he,hA⟩:=hr
 have ho:Oth [x] w w':=ho
 have hlow:v.heap.size≤x:=h.my.rn.low
 have hout:∀ g,g<w.heap.size→∀ e∈es',e.1.o g:=fun g hg e hm=>by
  rcases he e hm with h0 | h0
  ·cases h0
  ·exact .inl (Nat.lt_of_lt_of_le hg h0)
 have hrl:=h.my.rn.blk
 refine ⟨A',c',es',⟨h.my.bel.trans (ho.below (fun j hj=>by rw [List.mem_singleton.1 hj];exact hlow) h.my.bel.size),hrn,h.my.mb.oth ho (by simpa using h.my.mo.1),⟨h.my.mo.1,fun hm=>?_,hout mi h.my.mb.lt⟩,h.my.lo,fun r hr=>⟨(h.my.row r hr).rb.oth ho (fun h0=>hrl.not_row (fun u hu b=>by simp only [List.mem_cons,List.not_mem_nil,or_false] at hu;subst hu;exact BgX _ _ _ b) (h.my.row r hr).rb h0),(h.my.row r hr).cap,fun hn g hg=>?_⟩,hs,os,h.my.pr⟩,fun r hr=>⟨(h.rb r hr).1.oth ho (fun hm=>?_),(h.rb r hr).2.1,(h.rb r hr).2.2.1,hout _ (h.rb r hr).1.lt,(h.rb r hr).2.2.2.2⟩,h.ap⟩
 ·rcases hA mi hm with h0 | h0
  ·simp [blkO] at h0
  ·have:=h.my.mb.lt;omega
 ·obtain ⟨b,o,eb,hlt,_⟩:=(h.my.row r hr).rb.2 hn
  rw [show r.1=some ⟨b,o,none⟩ from eb] at hg;rw [show g=b by simpa [blkO] using hg];exact hout b hlt
 ·exact (h.rb r hr).2.2.2.2 (List.mem_singleton.1 hm)
theorem Ra.nil (es:Ens) (w:World):Ra es w none 0 0 []:=⟨RB.nil_,⟨Nat.le_refl _,Nat.zero_le _⟩,fun h=>absurd h (Nat.lt_irrefl _)⟩
end
theorem BdK (v:World) (x:Nat) (A:YA) (c:Nat) (es:Ens) (N F mi:Nat) (k:Ms) (rows:List Rw) (recs:List (TypeId×Nat×List Value)) (w:World) (h:AZ v x A c es N F mi k rows recs w) (K:Int) (hf:k.few K) (hK:K≤100000000) (hN:N+2≤1000000000) (hF:F+1≤1000000000) (CA:YA) (cc:Nat) (cl:YB) (hc:Ra es w CA cl.length cc cl) (bc:cl.length≤1000) (i:In) (hi:i.aw es w) (bt:i.t.length≤1000) (now:Nat) (hn:now<2 ^ 64) (RA:YA) (rc:Nat) (r:YB) (hr:Ra es w RA r.length rc r) (br:r.length≤1000) (u:Oc) (hu:outM (AgQ k) cl i.pl now r=u) (nw:Int) (hw:nw=(now:Int)) :
  Calls prog 24 #[.pointer (some ⟨mi,0,none⟩),.slice CA cl.length cc,i.val,.int .u64 nw,.slice RA r.length rc] w fun e w'=>∃ B d,e=.returned (ocV u B d)∧AZ v x A c es (N+2) (F+1) mi (cntM (AgQ k) u) ((B,u.b.length,d,u.b)::rows) recs w':=by
 subst hw
 refine (CfJ v x A c es N F mi k rows w h.my K hf hK hN hF CA cc cl hc bc i hi bt now hn RA rc r hr br u hu).mono ?_
 rintro e w' ⟨B,d,he,hw,ho,hy⟩
 exact ⟨B,d,he,h.took ho hy hw⟩
theorem fin2 {α β:Type} {F G:α→β→Prop} {P:Prop} (h1:(∀ a b,F a b→G a b)→P) (h2:∀ a b,F a b→G a b):P:=h1 h2
theorem fin5 {α β γ δ ε:Type} {F G:α→β→γ→δ→ε→Prop} {P:Prop} (h1:(∀ a b c d e,F a b c d e→G a b c d e)→P) (h2:∀ a b c d e,F a b c d e→G a b c d e):P:=h1 h2
theorem BuZ {w:World} {ops:Array Oper} {rest:List Oper} {o:Oper} {a:Act} {Q:Exit→Act→World→Prop} {T T':TypeId} (rt:RT T zeroI.cells) (hgd:o.guard=none) (x y:Operand) (hop:o.op=.store T x y) (g:Nat) (hx:a.eval x=.pointer (some ⟨g,0,none⟩)) (i i0:In) (vy:Value) (hy:a.eval y=vy) (hv:vy=i.val) (hc:Blk T' w g i0.cells)
  (hk:∀ w',Blk T' w' g i.cells→Oth [g] w w'→w'.heap.size=w.heap.size→wpList prog ops Q rest (a.put o.dst undef) w'):wpList prog ops Q (o::rest) a w:=AhQ rt hgd x y hop g hx i i0 (hy.trans hv) hc hk
theorem DcZ {w:World} {o:Oper} {a:Act} {Q:Exit→Act→World→Prop} {K:Act→World→Prop} {T T':TypeId} (rt:RT T zOc) (x y:Operand) (hop:o.op=.store T x y) (g:Nat) (hx:a.eval x=.pointer (some ⟨g,0,none⟩)) (u:Oc) (A:YA) (c:Nat) (hy:a.eval y=ocV u A c) (cs:List Value) (hc:Blk T' w g cs) (hl:cs.length=5)
  (hk:∀ w',Blk T' w' g (ocC u A c)→Oth [g] w w'→K (a.put o.dst undef) w'):o.wp prog a w K Q:=by
 have hs:=stB_m rt hc (vs:=ocC u A c) (k:=0) (ErY u A c) rfl (by rw [hl];exact Nat.le_refl 5)
 have hk:=hk (w.setCells g 0 (ocC u A c)) (by have z:=hc.puts (ocC u A c) 0 _ _;rwa [BtK (by rw [hl];rfl)] at z) (AbY g _ _ _ _ (Oth.refl _ _))
 have he:(execOp a.eval o).run prog w=.ok .skip (w.setCells g 0 (ocC u A c)):=by
  have:(execOp a.eval o).run prog w=stHd T (a.eval x) (a.eval y) w:=by
   obtain ⟨d,op,ty,ps,af,gd⟩:=o;subst hop;rfl
  rw [this,hx,hy];exact hs
 unfold Oper.wp
 rw [he]
 exact hk
theorem wp_mk {w:World} {o:Oper} {a:Act} {Q:Exit→Act→World→Prop} {K:Act→World→Prop} (lo co:Operand) (hop:o.op=Op.makeSlice 41 lo co)
  (base:Nat) (kl kc:IntKind) (L C:Int) (n:Nat) (hl:a.eval lo=.int kl L) (hc:a.eval co=.int kc C) (hL:L=(n:Int)) (hC:C=(n:Int)) (hn:n≤140737488355328) (hbase:base≤w.heap.size)
  (hK:∀ w',OwnB w' base (some ⟨w.heap.size,0,none⟩) n n (List.replicate n 0)→Below w.heap.size w w'→K (a.put o.dst (.slice (some ⟨w.heap.size,0,none⟩) n n)) w'):o.wp prog a w K Q:=by
 obtain ⟨i0,hi0,hz0,hz1,hz2⟩:=info_parts BvZ
 have hrun:=run_make (P:=prog) w 41 5 i0 (.int .u8 0) underlying41 hi0 hz0 kl kc (n:Int) (n:Int) (by omega) (by omega) (by rw [hz2];omega) (by omega)
 subst hL
 subst hC
 unfold Oper.wp
 simp only [Int.toNat_natCast,hz1,Nat.mul_one] at hrun
 simp [execOp,hop,hl,hc,hrun,Result.andThen]
 refine hK _ ?_ ((Below.refl _ _).alloc (Nat.le_refl _) _)
 have h:=World.ownsRow_lit (size:=1) (base:=base) (e:=5) w (madeCells (Value.int .u8 0).cells n) n hbase (by unfold maxLen;omega) (by simp [size_madeCells])
 have e:(madeCells (Value.int .u8 0).cells n).toList=bvs (List.replicate n 0):=by
  apply List.ext_getElem
  ·simp [bvs,size_madeCells]
  ·intro i h1 h2
   simp [madeCells,bvs,bv,Value.cells,Nat.mod_one]
 rw [e] at h
 exact h
theorem AZ.setNew {v w0 w w':World} {x c N F N' F' mi g:Nat} {A:YA} {es:Ens} {k k':Ms} {rows rows':List Rw} {recs:List (TypeId×Nat×List Value)} {T:TypeId} {cs cs':List Value} (h0:AZ v x A c es N F mi k rows recs w0) (h:AZ v x A c es N' F' mi k' rows' ((T,g,cs)::recs) w) (hg:w0.heap.size≤g) (ho:Oth [g] w w') (hc:Blk T w' g cs') (h2:T≠133) (h3:T≠130):AZ v x A c es N' F' mi k' rows' ((T,g,cs')::recs) w' :=
 h.set (T:=T) (g:=g) (cs:=cs) (cs':=cs') (by simp) ho hc h2 h3 (fun r hr=>by
  rcases List.mem_cons.1 hr with rfl | hr
  ·exact .inl rfl
  ·exact .inr ⟨List.mem_cons_of_mem _ hr,fun e=>by have:=(h0.rb r hr).1.lt;omega⟩)
