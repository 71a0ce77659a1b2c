import Derived.Test.YthppjgdnibfefaaGreatMiR
set_option linter.all false
set_option maxRecDepth 100000
set_option maxHeartbeats 32000000
namespace Go.Proofs.YthppjgdnibfefaaGreat
open Tryz
open Go.RowKit
theorem DrW {k:Ms} {c:YB} {p:IPl} {now:Nat} {r:YB} (ok:okR k.s):(outM k c p now r).k=0∨(outM k c p now r).k=1∨(outM k c p now r).k=2:=by
 rcases BmQ (c:=c) (p:=p) (now:=now) (r:=r) ok with h | h | h
 ·exact .inl h.1
 ·exact .inr (.inl h.1)
 ·exact .inr (.inr h.1)
theorem set_cnt0 {k:Ms} {o:Oc} (x:Nat) (h:o.k=0):(AgW k x).set 7 (.int .i64 (k.f+1))=AgW (cntM k o) x:=by unfold AgW cntM;simp [h]
theorem set_cnt1 {k:Ms} {o:Oc} (x:Nat) (h:o.k=1):(AgW k x).set 8 (.int .i64 (k.m+1))=AgW (cntM k o) x:=by unfold AgW cntM;simp [h]
theorem set_cnt2 {k:Ms} {o:Oc} (x:Nat) (h:o.k=2):(AgW k x).set 9 (.int .i64 (k.d+1))=AgW (cntM k o) x:=by unfold AgW cntM;simp [h]
theorem EmW {k:Ms} {o:Oc} (x:Nat) (h:o.k=0):(AhV k x).set 7 (.int .i64 (k.f+1))=AhV (cntM k o) x:=by unfold AhV cntM;simp [h]
theorem EmV {k:Ms} {o:Oc} (x:Nat) (h:o.k=1):(AhV k x).set 8 (.int .i64 (k.m+1))=AhV (cntM k o) x:=by unfold AhV cntM;simp [h]
theorem EmQ {k:Ms} {o:Oc} (x:Nat) (h:o.k=2):(AhV k x).set 9 (.int .i64 (k.d+1))=AhV (cntM k o) x:=by unfold AhV cntM;simp [h]
theorem mrc5 {T:TypeId} {w:World} {mr y:Nat} {k:Ms} (h:Blk T w mr (AhV k y)):w.cell? ⟨mr,5,none⟩=some (.int .i64 k.n):=h.cell 5
theorem mr_qi {n qi mr:Nat} (hl:n≤qi) (hm:mr<n):qi∉[mr]:=by simp;omega
theorem set_rsee (k:Ms) (x:Nat):(AhV k x).set 5 (.int .i64 (k.n+1))=AhV (AbK k) x:=rfl
theorem oc0_ {T:TypeId} {w:World} {p:Nat} {u:Oc} {A:YA} {c:Nat} (h:Blk T w p (ocC u A c)):w.cell? ⟨p,0,none⟩=some (.int .i64 u.k):=h.cell 0
theorem oc1_ {T:TypeId} {w:World} {p:Nat} {u:Oc} {A:YA} {c:Nat} (h:Blk T w p (ocC u A c)):w.cell? ⟨p,1,none⟩=some (.bool u.c):=h.cell 1
theorem oc2_ {T:TypeId} {w:World} {p:Nat} {u:Oc} {A:YA} {c:Nat} (h:Blk T w p (ocC u A c)):w.cell? ⟨p,2,none⟩=some (.int .i64 u.e):=h.cell 2
theorem oc3_ {T:TypeId} {w:World} {p:Nat} {u:Oc} {A:YA} {c:Nat} (h:Blk T w p (ocC u A c)):w.cell? ⟨p,3,none⟩=some (.slice A u.b.length c):=h.cell 3
theorem oc4_ {T:TypeId} {w:World} {p:Nat} {u:Oc} {A:YA} {c:Nat} (h:Blk T w p (ocC u A c)):w.cell? ⟨p,4,none⟩=some (.int .i64 u.u):=h.cell 4
theorem BtW {w:World} {ops:Array Oper} {rest:List Oper} {o:Oper} {a:Act} {Q:Exit→Act→World→Prop} (hgd:o.guard=none) (T:TypeId) (x:Operand) (hop:o.op=.box T x) (u:Oc) (A:YA) (c:Nat) (hx:a.eval x=ocV u A c)
  (hk:∀ w' q,Blk T w' q (ocC u A c)→Below w.heap.size w w'→w.heap.size≤q→wpList prog ops Q rest (a.put o.dst (.pointer (some ⟨q,0,none⟩))) w'):wpList prog ops Q (o::rest) a w:=AeV hgd T x hop (ocC u A c) hx hk
theorem Blk.nob_row {T:TypeId} {w:World} {g:Nat} {cs:List Value} (h:Blk T w g cs) (hT:T≠5) {base n c:Nat} {A:YA} {l:YB} (r:OwnB w base A n c l):g∉blkO A:=fun hm=>by
 obtain ⟨a,ea,hga⟩:=AwQ hm
 obtain ⟨he,_,_⟩:=r.spot a ea
 exact (h.nob hT).own r a.block 0 (by rw [ea,←he]) (by rw [hga];simp)
theorem Rs.mint_off {base y d mr:Nat} {B:YA} {ks:List KR} {w w':World} {cs:List Value} (h:Rs base w y B d ks) (hm:Blk 57 w mr cs) (ho:Oth [mr] w w'):Rs base w' y B d ks :=
 h.off ho (by simpa using (hm.far h.blk (by decide)).symm) (fun g hg hi=>h.grd.away hm (by decide) (by rw [←List.mem_singleton.1 hi];exact hg)) (fun k hk g hg hi=>hm.nob_row (by decide) (h.key k hk) (by rw [←List.mem_singleton.1 hi];exact hg))
theorem In.ok.off {w w':World} {T:TypeId} {g:Nat} {cs:List Value} {i:In} (h:i.ok w) (hm:Blk T w g cs) (hn:∀ u∈cs,∀ b:UInt8,u≠bv b) (ho:Oth [g] w w'):i.ok w' :=
 ⟨⟨h.h.a.oth ho (fun h0=>hm.not_row hn h.h.a h0),h.h.b.oth ho (fun h0=>hm.not_row hn h.h.b h0),h.h.ca,h.h.cb,h.h.v32⟩,h.t.oth ho (fun h0=>hm.not_row hn h.t h0),h.r.oth ho (fun h0=>hm.not_row hn h.r h0),h.ct,h.cr⟩
theorem EhJ {w:World} {o:Oper} {a:Act} {Q:Exit→Act→World→Prop} {K:Act→World→Prop} {T ty:TypeId} (hty:(prog.info? ty).map (·.size)=some 1) (x y:Operand) (hop:o.op=.store ty x y) (g j:Nat) (hx:a.eval x=.pointer (some ⟨g,j,none⟩)) (v:Value) (hy:a.eval y=v) (h1:v.oneCell'=true) (cs:List Value) (hc:Blk T w g cs) (hj:j<cs.length)
  (hk:∀ w',Blk T w' g (cs.set j v)→Oth [g] w w'→K (a.put o.dst undef) w'):o.wp prog a w K Q:=by
 have hrun:(storeVar ty ⟨g,j,none⟩ v).run prog w=.ok () (w.setCell ⟨g,j,none⟩ v):=by
  have h2:=run_storeCells_cells (P:=prog) g j [v] 0 w (fun i hi=>by
   obtain rfl:i=0:=by simpa using hi
   show (w.cell? ⟨g,j,none⟩).isSome=true
   rw [hc.cell,List.getElem?_eq_getElem hj];rfl) (fun i _=>hc.free _) (fun u hu=>by simp at hu;subst hu;exact h1)
  have hcs:v.cells=#[v]:=by cases v <;> first | rfl | cases h1
  cases hq:prog.info? ty with
  | none=>simp [hq] at hty
  | some i =>
   have hs:i.size=1:=by simpa [hq] using hty
   simp only [Nat.add_zero] at h2;simp [storeVar,sizeOf,typeInfo,hq,hcs,hs,h2,World.setCells]
 have hk:=hk _ (hc.set j v) ((Oth.refl [g] w).set (x:=g) (by simp) j v)
 unfold Oper.wp execOp
 simp only [hop,hx,hy,Instr.storeAt,Instr.sureAddr,Sem.run_bind,Sem.run_pure,Result.andThen_ok,hrun]
 exact hk
structure KZ (w0 v:World) (x:Nat) (A:YA) (c:Nat) (es:Ens) (N F mi:Nat) (k:Ms) (rows:List Rw) (recs:List (TypeId×Nat×List Value)) (w:World):Prop where
 my:MY v x A c es N F mi k rows w
 ot:Oth (mi::esS es) w0 w
 hl:∀ e∈es,e.1.H≤w0.heap.size
 vs:v.heap.size≤w0.heap.size
 ml:mi<w0.heap.size
 rb:∀ r∈recs,Blk r.1 w r.2.1 r.2.2∧w0.heap.size≤r.2.1
section
variable {w0 v w w1 w':World} {x c N F N' F' mi n d g:Nat} {A B:YA} {es:Ens} {k k':Ms} {rows rows':List Rw} {recs recs':List (TypeId×Nat×List Value)} {l:YB} {T:TypeId} {cs:List Value}
theorem KZ.start (h:MY v x A c es N F mi k rows w):KZ w v x A c es N F mi k rows [] w:=⟨h,Oth.refl _ _,fun e he=>(h.rn.ok e he).1.le,h.bel.size,h.mb.lt,fun r hr=>by cases hr⟩
theorem KZ.step (h:KZ w0 v x A c es N F mi k rows recs w) (hb:Below w.heap.size w w'):KZ w0 v x A c es N F mi k rows recs w':=⟨h.my.step hb,h.ot.trans (Oth.of_below hb),h.hl,h.vs,h.ml,fun r hr=>⟨(h.rb r hr).1.step hb,(h.rb r hr).2⟩⟩
theorem KZ.sz (h:KZ w0 v x A c es N F mi k rows recs w):w0.heap.size≤w.heap.size:=h.ot.size
theorem KZ.new (h:KZ w0 v x A c es N F mi k rows recs w) (hb:Below w.heap.size w w') (hc:Blk T w' g cs) (hg:w.heap.size≤g):KZ w0 v x A c es N F mi k rows ((T,g,cs)::recs) w' :=
 ⟨(h.step hb).my,(h.step hb).ot,h.hl,h.vs,h.ml,fun r hr=>by
  rcases List.mem_cons.1 hr with rfl | hr
  ·exact ⟨hc,Nat.le_trans h.sz hg⟩
  ·exact (h.step hb).rb r hr⟩
theorem KZ.o (h:KZ w0 v x A c es N F mi k rows recs w) (hm:(T,g,cs)∈recs):∀ e∈es,e.1.o g:=fun e he=>.inr (Nat.le_trans (h.hl e he) (h.rb _ hm).2)
theorem KZ.box (h:KZ w0 v x A c es N F mi k rows recs w) (q:RetBx es N' F' w w'):KZ w0 v x A c es N' F' mi k rows recs w' :=
 ⟨h.my.box q,h.ot.trans (q.oth.more (fun g hg=>List.mem_cons_of_mem _ hg)),h.hl,h.vs,h.ml,fun r hr=>⟨(h.rb r hr).1.oth q.oth (h.my.rn.out_es (h.o (T:=r.1) (g:=r.2.1) (cs:=r.2.2) hr)),(h.rb r hr).2⟩⟩
theorem KZ.cons (h:KZ w0 v x A c es N F mi k rows recs w) (hr:Ra es w B n d l):KZ w0 v x A c es N F mi k ((B,n,d,l)::rows) recs w:=⟨h.my.cons hr,h.ot,h.hl,h.vs,h.ml,h.rb⟩
theorem KZ.boxOwn (h:KZ w0 v x A c es N F mi k rows recs w) (q:RetBx es N' F' w w') (ho:OwnB w' w.heap.size B n d l):KZ w0 v x A c es N' F' mi k ((B,n,d,l)::rows) recs w':=⟨(h.my.box q).cons (Ra.own ho h.my.rn),(h.box q).ot,h.hl,h.vs,h.ml,(h.box q).rb⟩
theorem KZ.mint (h:KZ w0 v x A c es N F mi k rows recs w) (ho:Oth [mi] w w') (hb:Blk 71 w' mi (AgW k' x)) (hs:k'.s=k.s) (hp:AcX k'.p=true):KZ w0 v x A c es N F mi k' rows recs w' :=
 ⟨h.my.put ho hb hs hp,h.ot.trans (ho.more (fun g hg=>by rw [List.mem_singleton.1 hg];simp)),h.hl,h.vs,h.ml,fun r hr=>⟨(h.rb r hr).1.oth ho (fun hm=>by have:=(h.rb r hr).2;have:=h.ml;have:=List.mem_singleton.1 hm;omega),(h.rb r hr).2⟩⟩
theorem KZ.put (h:KZ w0 v x A c es N F mi k rows recs w) (hm:(T,g,cs)∈recs) (ho:Oth [g] w w') (hn:∀ u∈cs,∀ b:UInt8,u≠bv b) (h1:T≠71) (h2:T≠133) (h3:T≠130):KZ w0 v x A c es N F mi k rows [] w':=by
 have hb:=(h.rb _ hm).1
 have hg:=(h.rb _ hm).2
 simp only at hb hg
 have hout:=h.o hm
 have nx:x≠g:=fun e=>hb.far h.my.rn.blk h2 e.symm
 have nA:g∉blkO A:=h.my.rn.grd.away hb (Ne.symm h3)
 have nm:mi≠g:=fun e=>hb.far h.my.mb h1 e.symm
 have hv:v.heap.size≤g:=Nat.le_trans h.vs hg
 refine ⟨⟨h.my.bel.trans (ho.below (fun j hj=>by rw [List.mem_singleton.1 hj];exact hv) h.my.bel.size),h.my.rn.off ho (by simpa using nx) (fun j hj hm=>nA (by rw [←List.mem_singleton.1 hm];exact hj)) (fun e he j hj=>by rw [List.mem_singleton.1 hj];exact hout e he),h.my.mb.oth ho (by simpa using nm),h.my.mo,h.my.lo,fun r hr=>⟨(h.my.row r hr).rb.oth ho (fun h0=>hb.not_row hn (h.my.row r hr).rb h0),(h.my.row r hr).cap,(h.my.row r hr).o⟩,h.my.ee,h.my.os,h.my.pr⟩,h.ot.newer ho hg,h.hl,h.vs,h.ml,fun r hr2=>by cases hr2⟩
end
theorem EgW:∀ v∈zOc,∀ b:UInt8,v≠bv b:=fun v hv b e=>by
 simp only [zOc,List.mem_cons,List.not_mem_nil,or_false] at hv
 rcases hv with rfl | rfl | rfl | rfl | rfl <;> cases e
attribute [local irreducible] AdQ AjZ seqT fstT AcJ outM AiX AlJ retR newR AfV AbQ CfY
attribute [local go_sem ↓] BnZ BsX
def RetTm (v:World) (x:Nat) (A:YA) (c:Nat) (es:Ens) (N F mi:Nat) (k:Ms) (u:Oc) (rows:List Rw) (w:World) (e:Ending) (w':World):Prop :=
 ∃ B d,e=.returned (ocV u B d)∧OwnB w' w.heap.size B u.b.length d u.b∧Oth (mi::esS es) w w'∧MY v x A c es N F mi (cntM (AbK k) u) ((B,u.b.length,d,u.b)::rows) w'
theorem ChY (v:World) (x:Nat) (A:YA) (c:Nat) (es:Ens) (N F mi:Nat) (k:Ms) (rows:List Rw) (w:World) (h:MY v x A c es N F mi k rows w) (K:Int) (hf:k.few K) (hK:K≤100000000) (hN:N+2≤1000000000) (hF:F+1≤1000000000) (CA:YA) (cc:Nat) (cl:YB) (hc:Ra es w CA cl.length cc cl) (bc:cl.length≤1000) (i:In) (hi:i.aw es w) (bt:i.t.length≤1000) (now:Nat) (hn:now<2 ^ 64) (RA:YA) (rc:Nat) (r:YB) (hr:Ra es w RA r.length rc r) (br:r.length≤1000) (u:Oc) (hu:outM (AbK k) cl i.pl now r=u) :
  Calls prog 24 #[.pointer (some ⟨mi,0,none⟩),.slice CA cl.length cc,i.val,.int .u64 (now:Int),.slice RA r.length rc] w (RetTm v x A c es (N+2) (F+1) mi k u rows w):=by
 have K0:=η ((KZ.start h).cons hr |>.cons hc |>.cons hi.a |>.cons hi.b |>.cons hi.t |>.cons hi.r)
 have HI:=η hi
 have HUK:Hid (u.k=0∨u.k=1∨u.k=2):=η (by rw [←hu];exact DrW h.os)
 have HU:=η hu
 have HFW:=η hf
 have HPR:=η h.pr
 have hnn:0≤k.n∧k.n≤1000000000:=by have:=hf.1;omega
 have HNN:=η hnn
 have HCN:Hid ((0≤k.f∧k.f≤1000000000)∧(0≤k.m∧k.m≤1000000000)∧(0≤k.d∧k.d≤1000000000)):=η (by unfold Ms.few at hf;omega)
 clear h hc hi hr hu hf hnn
 go_enter func24,ntmps24
 go_wp2_with (first
  | (refine AgV rfl _ (.tmp 2) rfl i rfl ?_;intro w1 qi hc1 hb1 hx1;have K1:=η (K0.o.new hb1 hc1.blk hx1);clear hc1 hb1 hx1)
  | (refine atd 10 rfl ?_;refine AbJ AbW rfl rfl ?_;intro w2 rv hc1 hb1 hx1;have K2:=η (K1.o.new hb1 hc1 hx1);clear hc1 hb1 hx1))
 refine (EmZ mi x k w2 (by exact K2.o.my.mb) HNN.o).mono ?_
 rintro e w3 ⟨rfl,hbm,ho⟩
 have K3:=η (K2.o.mint (k':=AbK k) ho hbm rfl HPR.o)
 clear hbm ho
 have HIA:Hid (i.aw es w3):=η ⟨K3.o.my.row (i.h.A,i.h.a.length,i.h.c,i.h.a) (by simp),K3.o.my.row (i.h.B,i.h.b.length,i.h.d,i.h.b) (by simp),K3.o.my.row (i.T,i.t.length,i.e,i.t) (by simp),K3.o.my.row (i.R,i.r.length,i.g,i.r) (by simp),HI.o.v32⟩
 go_wp2_with (first
  | (refine atd 18 rfl ?_;refine AgJ AoW rfl (.tmp 7) rfl qi rfl i (by exact Ic.of (K3.o.rb (46,qi,i.cells) (by simp)).1) ?_))
 refine (DdQ v x A c es N F mi (AbK k) _ w3 (by exact K3.o.my) (by omega) (by omega) CA cc cl (by exact K3.o.my.row (CA,cl.length,cc,cl) (by simp)) bc i (by exact HIA.o) bt now hn RA rc r (by exact K3.o.my.row (RA,r.length,rc,r) (by simp)) br u (by exact HU.o)).mono ?_
 rintro e w4 ⟨B4,c4,rfl,ho,hbx⟩
 have K4:=η (K3.o.boxOwn hbx ho)
 have O4:=η (ho.base_le K3.o.sz)
 clear ho hbx
 go_wp2_with (first
  | (refine atd 11 rfl ?_;refine AbJ AbW rfl rfl ?_;intro w5 p hc1 hb1 hx1;have H5:=η (And.intro hc1 (And.intro hb1 hx1));clear hc1 hb1 hx1)
  | (refine AaV AbW rfl (.tmp 11) (.tmp 21) rfl p rfl u B4 c4 (ocV u B4 c4) rfl (by exact rfl) _ (by exact H5.o.1) (by exact AdJ) ?_;intro w6 hc1 ho1 hs1;have K6:=η (K4.o.new (AeJ H5.o.2.1 H5.o.2.2 ho1) hc1 H5.o.2.2);have O6:=η (O4.o.below (AeJ H5.o.2.1 H5.o.2.2 ho1));clear hc1 ho1 hs1 H5))
 rcases HUK.o with hk0 | hk0 | hk0
 ·have HK0:=η hk0
  have hp0:w6.drew.cell? ⟨p,0,none⟩=some (.int .i64 0):=by rw [←hk0];exact oc0_ ((show Blk 73 w6 p (ocC u B4 c4) from (K6.o.rb (73,p,ocC u B4 c4) (by simp)).1).step (Below.refl _ _).drew)
  clear hk0;refine wp_region_held_drew (S:=fun w'=>w'.cell? ⟨p,0,none⟩=some (.int .i64 0)) (by kernel_rfl) hp0 (fun hHeld=>?_);(try dsimp only at hHeld);refine tkJ 0 rfl hHeld ?_;refine tkJ 1 rfl hHeld ?_;refine tkJ 2 rfl hHeld ?_;refine tkJ 3 rfl hHeld ?_;refine tkJ 4 rfl hHeld ?_;refine tkJ 5 rfl hHeld ?_;refine rdI 6 rfl (fun K hK=>?_);(try simp only [Act.put,rxT,sxT]);go_simp;have K7:=η (K6.o.step (Below.refl _ _).drew);refine (AzZ ⟨mi,7,none⟩ k.f 1 (k.f+1) _ (by exact K7.o.my.mb.cell 7) (by exact K7.o.my.mb.free 7) (CsJ k.f HCN.o.1 _)).mono ?_;rintro e w8 ⟨rfl,hw8⟩;have K8:=η (K7.o.mint (w':=w8) (k':=cntM (AbK k) u) (by rw [←hw8];exact (Oth.refl [mi] _).set (x:=mi) (by simp) 7 _) (by rw [←hw8,←set_cnt0 x HK0.o];exact K7.o.my.mb.set 7 _) rfl HPR.o);have O8:=η (show OwnB w8 w.heap.size B4 u.b.length c4 u.b from by rw [←hw8];exact (O6.o.below (Below.refl _ _).drew).offS ((Oth.refl [mi] _).set (x:=mi) (by simp) 7 _) (K7.o.my.mb.nob (by decide)));clear hw8;(try go_wp2_with fail);refine hK.o _ _ (by rw [←HK0.o];exact oc0_ (show Blk 73 w8 p (ocC u B4 c4) from (K8.o.rb (73,p,ocC u B4 c4) (by simp)).1)) (fun hHeld=>?_);clear hK K;(try simp only [Act.put,rxT,sxT]);refine wpAnyH_done (by kernel_rfl) ?_ _
  go_wp2_with (first
   | (refine atd 29 rfl ?_;refine AtV AbW rfl (.tmp 11) rfl p rfl u B4 c4 (by exact (K8.o.rb (73,p,ocC u B4 c4) (by simp)).1) ?_)
   | (refine AaV AbW rfl (.tmp 10) (.tmp 29) rfl rv rfl u B4 c4 (ocV u B4 c4) rfl (by exact rfl) _ (by exact (K8.o.rb (73,rv,zOc) (by simp)).1) (by exact AdJ) ?_;intro wf hc1 ho1 hs1;have HQ:=η (And.intro hc1 ho1);clear hc1 ho1 hs1))
  have HF:=η (And.intro HQ.o.1 (And.intro (K8.o.put (T:=73) (g:=rv) (cs:=zOc) (by simp) HQ.o.2 EgW (by decide) (by decide) (by decide)) (O8.o.offS HQ.o.2 ((show Blk 73 _ rv zOc from (K8.o.rb (73,rv,zOc) (by simp)).1).nob (by decide)))))
  exact bodyPost_ret (v:=ocV u B4 c4) (AbX AbW rfl _ _ rv (ocC u B4 c4) rfl HF.o.1 rfl) rfl ⟨B4,c4,rfl,HF.o.2.2,HF.o.2.1.ot,HF.o.2.1.my.sub (fun q hq=>by
   rcases List.mem_cons.1 hq with rfl | hq
   ·simp
   ·simp [hq])⟩
 ·have HK0:=η hk0
  have hp0:w6.drew.cell? ⟨p,0,none⟩=some (.int .i64 1):=by rw [←hk0];exact oc0_ ((show Blk 73 w6 p (ocC u B4 c4) from (K6.o.rb (73,p,ocC u B4 c4) (by simp)).1).step (Below.refl _ _).drew)
  clear hk0;refine wp_region_held_drew (S:=fun w'=>w'.cell? ⟨p,0,none⟩=some (.int .i64 1)) (by kernel_rfl) hp0 (fun hHeld=>?_);(try dsimp only at hHeld);refine tkJ 0 rfl hHeld ?_;refine tkJ 1 rfl hHeld ?_;refine tkJ 2 rfl hHeld ?_;refine tkJ 3 rfl hHeld ?_;refine tkJ 4 rfl hHeld ?_;refine tkJ 5 rfl hHeld ?_;refine rdI 6 rfl (fun K hK=>?_);(try simp only [Act.put,rxT,sxT]);go_simp;have K7:=η (K6.o.step (Below.refl _ _).drew);refine (AzZ ⟨mi,8,none⟩ k.m 1 (k.m+1) _ (by exact K7.o.my.mb.cell 8) (by exact K7.o.my.mb.free 8) (CsJ k.m HCN.o.2.1 _)).mono ?_;rintro e w8 ⟨rfl,hw8⟩;have K8:=η (K7.o.mint (w':=w8) (k':=cntM (AbK k) u) (by rw [←hw8];exact (Oth.refl [mi] _).set (x:=mi) (by simp) 8 _) (by rw [←hw8,←set_cnt1 x HK0.o];exact K7.o.my.mb.set 8 _) rfl HPR.o);have O8:=η (show OwnB w8 w.heap.size B4 u.b.length c4 u.b from by rw [←hw8];exact (O6.o.below (Below.refl _ _).drew).offS ((Oth.refl [mi] _).set (x:=mi) (by simp) 8 _) (K7.o.my.mb.nob (by decide)));clear hw8;(try go_wp2_with fail);refine hK.o _ _ (by rw [←HK0.o];exact oc0_ (show Blk 73 w8 p (ocC u B4 c4) from (K8.o.rb (73,p,ocC u B4 c4) (by simp)).1)) (fun hHeld=>?_);clear hK K;(try simp only [Act.put,rxT,sxT]);refine wpAnyH_done (by kernel_rfl) ?_ _
  go_wp2_with (first
   | (refine atd 29 rfl ?_;refine AtV AbW rfl (.tmp 11) rfl p rfl u B4 c4 (by exact (K8.o.rb (73,p,ocC u B4 c4) (by simp)).1) ?_)
   | (refine AaV AbW rfl (.tmp 10) (.tmp 29) rfl rv rfl u B4 c4 (ocV u B4 c4) rfl (by exact rfl) _ (by exact (K8.o.rb (73,rv,zOc) (by simp)).1) (by exact AdJ) ?_;intro wf hc1 ho1 hs1;have HQ:=η (And.intro hc1 ho1);clear hc1 ho1 hs1))
  have HF:=η (And.intro HQ.o.1 (And.intro (K8.o.put (T:=73) (g:=rv) (cs:=zOc) (by simp) HQ.o.2 EgW (by decide) (by decide) (by decide)) (O8.o.offS HQ.o.2 ((show Blk 73 _ rv zOc from (K8.o.rb (73,rv,zOc) (by simp)).1).nob (by decide)))))
  exact bodyPost_ret (v:=ocV u B4 c4) (AbX AbW rfl _ _ rv (ocC u B4 c4) rfl HF.o.1 rfl) rfl ⟨B4,c4,rfl,HF.o.2.2,HF.o.2.1.ot,HF.o.2.1.my.sub (fun q hq=>by
   rcases List.mem_cons.1 hq with rfl | hq
   ·simp
   ·simp [hq])⟩
 ·have HK0:=η hk0
  have hp0:w6.drew.cell? ⟨p,0,none⟩=some (.int .i64 2):=by rw [←hk0];exact oc0_ ((show Blk 73 w6 p (ocC u B4 c4) from (K6.o.rb (73,p,ocC u B4 c4) (by simp)).1).step (Below.refl _ _).drew)
  clear hk0;refine wp_region_held_drew (S:=fun w'=>w'.cell? ⟨p,0,none⟩=some (.int .i64 2)) (by kernel_rfl) hp0 (fun hHeld=>?_);(try dsimp only at hHeld);refine tkJ 0 rfl hHeld ?_;refine tkJ 1 rfl hHeld ?_;refine tkJ 2 rfl hHeld ?_;refine tkJ 3 rfl hHeld ?_;refine tkJ 4 rfl hHeld ?_;refine tkJ 5 rfl hHeld ?_;refine rdI 6 rfl (fun K hK=>?_);(try simp only [Act.put,rxT,sxT]);go_simp;have K7:=η (K6.o.step (Below.refl _ _).drew);refine (AzZ ⟨mi,9,none⟩ k.d 1 (k.d+1) _ (by exact K7.o.my.mb.cell 9) (by exact K7.o.my.mb.free 9) (CsJ k.d HCN.o.2.2 _)).mono ?_;rintro e w8 ⟨rfl,hw8⟩;have K8:=η (K7.o.mint (w':=w8) (k':=cntM (AbK k) u) (by rw [←hw8];exact (Oth.refl [mi] _).set (x:=mi) (by simp) 9 _) (by rw [←hw8,←set_cnt2 x HK0.o];exact K7.o.my.mb.set 9 _) rfl HPR.o);have O8:=η (show OwnB w8 w.heap.size B4 u.b.length c4 u.b from by rw [←hw8];exact (O6.o.below (Below.refl _ _).drew).offS ((Oth.refl [mi] _).set (x:=mi) (by simp) 9 _) (K7.o.my.mb.nob (by decide)));clear hw8;(try go_wp2_with fail);refine hK.o _ _ (by rw [←HK0.o];exact oc0_ (show Blk 73 w8 p (ocC u B4 c4) from (K8.o.rb (73,p,ocC u B4 c4) (by simp)).1)) (fun hHeld=>?_);clear hK K;(try simp only [Act.put,rxT,sxT]);refine wpAnyH_done (by kernel_rfl) ?_ _
  go_wp2_with (first
   | (refine atd 29 rfl ?_;refine AtV AbW rfl (.tmp 11) rfl p rfl u B4 c4 (by exact (K8.o.rb (73,p,ocC u B4 c4) (by simp)).1) ?_)
   | (refine AaV AbW rfl (.tmp 10) (.tmp 29) rfl rv rfl u B4 c4 (ocV u B4 c4) rfl (by exact rfl) _ (by exact (K8.o.rb (73,rv,zOc) (by simp)).1) (by exact AdJ) ?_;intro wf hc1 ho1 hs1;have HQ:=η (And.intro hc1 ho1);clear hc1 ho1 hs1))
  have HF:=η (And.intro HQ.o.1 (And.intro (K8.o.put (T:=73) (g:=rv) (cs:=zOc) (by simp) HQ.o.2 EgW (by decide) (by decide) (by decide)) (O8.o.offS HQ.o.2 ((show Blk 73 _ rv zOc from (K8.o.rb (73,rv,zOc) (by simp)).1).nob (by decide)))))
  exact bodyPost_ret (v:=ocV u B4 c4) (AbX AbW rfl _ _ rv (ocC u B4 c4) rfl HF.o.1 rfl) rfl ⟨B4,c4,rfl,HF.o.2.2,HF.o.2.1.ot,HF.o.2.1.my.sub (fun q hq=>by
   rcases List.mem_cons.1 hq with rfl | hq
   ·simp
   ·simp [hq])⟩
theorem CwW (base y:Nat) (B:YA) (d:Nat) (ks:List KR) (mr:Nat) (k:Ms) (w:World) (h:Rs base w y B d ks) (hm:Blk 57 w mr (AhV k y)) (hk:rgK ks=k.s) (os:okR k.s) (hp:AcX k.p=true) (K:Int) (hf:k.few K) (hK:K≤100000000) (CA:YA) (cc:Nat) (cl:YB) (hc:RB w w.heap.size CA cl.length cl) (bc:cl.length≤1000) (j:In) (hj:j.ok w) (bt:j.t.length≤1000) (now:Nat) (hn:now<2 ^ 64) (RA:YA) (rc:Nat) (r:YB) (hr:RB w w.heap.size RA r.length r) (hrc:r.length≤rc∧rc≤maxLen) (br:r.length≤1000) (u:Oc) (hu:outM (AbK k) cl j.pl now r=u) :
  Calls prog 41 #[.pointer (some ⟨mr,0,none⟩),.slice CA cl.length cc,j.val,.int .u64 (now:Int),.slice RA r.length rc] w fun e w'=>∃ B d,e=.returned (ocV u B d)∧OwnB w' w.heap.size B u.b.length d u.b∧Oth [mr] w w'∧Blk 57 w' mr (AhV (cntM (AbK k) u) y):=by
 have H:=η h
 have HM:=η hm
 have HK:=η hk
 have HC:=η hc
 have HJ:=η hj
 have HR:=η hr
 have HOS:=η os
 have HPP:=η hp
 have HUK:Hid (u.k=0∨u.k=1∨u.k=2):=η (by rw [←hu];exact DrW os)
 have HU:=η hu
 have hn0:0≤k.n:=hf.1.1
 have hn1:k.n≤1000000000:=by have:=hf.1;omega
 have HCN:Hid ((0≤k.f∧k.f≤1000000000)∧(0≤k.m∧k.m≤1000000000)∧(0≤k.d∧k.d≤1000000000)):=η (by unfold Ms.few at hf;omega)
 clear h hm hk hc hj hr os hp hu hf
 go_enter func41,ntmps41
 go_wp2_with (first
  | (refine AgV rfl _ (.tmp 2) rfl j rfl ?_;intro w1 qi hc1 hb1 hx1;have H1:=η (And.intro hc1 (And.intro hb1 hx1));clear hc1 hb1 hx1)
  | (refine atd 10 rfl ?_;refine AbJ AbY rfl rfl ?_;intro w2 rv hc1 hb1 hx1;have Q2:=η (H1.o.1.step hb1);have V2:=η (And.intro hc1 (Nat.le_trans H1.o.2.1.size hx1));have B2:=η (AaJ H1.o.2.1 hb1);have QL:=η H1.o.2.2;have c5:=mrc5 (HM.o.step B2.o);clear hc1 hb1 hx1 H1)
  | (refine AhJ (ty:=3) (by kernel_rfl) rfl (.tmp 18) (.tmp 16) rfl mr 5 rfl (.int .i64 (k.n+1)) rfl rfl _ (by exact HM.o.step B2.o) (by exact BqZ k y 5 (by decide)) ?_;rw [set_rsee];intro w3 hc1 ho1 hs1;have M3:=η hc1;have X3:=η ho1;clear hc1 ho1 hs1 c5)
  | (refine atd 21 rfl ?_;refine AgJ BuJ rfl (.tmp 7) rfl qi rfl j (by exact Q2.o.oth X3.o (by exact mr_qi QL.o HM.o.lt)) ?_))
 have MB:Hid (Blk 57 w2 mr (AhV k y)):=η (HM.o.step B2.o)
 refine (DhQ base y B d ks mr (AbK k) w3 (by exact (H.o.step B2.o).mint_off MB.o X3.o) (by exact M3.o) HK.o HOS.o HPP.o CA cc cl (by exact (HC.o.step B2.o).oth X3.o (fun h0=>MB.o.not_row (DjV k y) (HC.o.step B2.o) h0)) bc j (by exact (HJ.o.step B2.o).off MB.o (DjV k y) X3.o) bt now hn RA rc r (by exact (HR.o.step B2.o).oth X3.o (fun h0=>MB.o.not_row (DjV k y) (HR.o.step B2.o) h0)) hrc br u (by exact HU.o)).mono ?_
 rintro e w4 ⟨B4,c4,rfl,ho,hb⟩
 have hmrv:mr≠rv:=by have:=HM.o.lt;have:=V2.o.2;omega
 have M4:=η (M3.o.step hb)
 have V4:=η ((V2.o.1.oth X3.o (by simpa using hmrv.symm)).step hb)
 have X4:=η (((Oth.of_below (S:=[mr]) B2.o).trans X3.o).trans (Oth.of_below hb))
 have O4:=η (ho.base_le (Nat.le_trans B2.o.size X3.o.size))
 have HMV:=η hmrv
 clear ho hb hmrv
 go_wp2_with (first
  | (refine atd 11 rfl ?_;refine AbJ AbY rfl rfl ?_;intro w5 p hc1 hb1 hx1;have H5:=η (And.intro hc1 (And.intro hb1 hx1));clear hc1 hb1 hx1)
  | (refine AaV AbY rfl (.tmp 11) (.tmp 24) rfl p rfl u B4 c4 (ocV u B4 c4) rfl (by exact rfl) _ (by exact H5.o.1) (by exact AdJ) ?_;intro w6 hc1 ho1 hs1;have P6:=η (And.intro hc1 H5.o.2.2);have N6:=η (AeJ H5.o.2.1 H5.o.2.2 ho1);clear hc1 ho1 hs1 H5))
 have M6:=η (M4.o.step N6.o)
 have V6:=η (V4.o.step N6.o)
 have X6:=η (X4.o.trans (Oth.of_below N6.o))
 have O6:=η (O4.o.below N6.o)
 have HPN:Hid (mr≠p∧p≠rv):=η ⟨by have:=M4.o.lt;have:=P6.o.2;omega,by have:=V4.o.lt;have:=P6.o.2;omega⟩
 rcases HUK.o with hk0 | hk0 | hk0
 ·have HK0:=η hk0
  have hp0:w6.drew.cell? ⟨p,0,none⟩=some (.int .i64 0):=by rw [←hk0];exact oc0_ (P6.o.1.step (Below.refl _ _).drew)
  have hq7:w6.drew.cell? ⟨mr,7,none⟩=some (.int .i64 k.f):=(M6.o.step (Below.refl _ _).drew).cell 7;have hb0:0≤k.f:=HCN.o.1.1;have hb1:k.f≤1000000000:=HCN.o.1.2;have hz7:w6.drew.frozen? ⟨mr,7,none⟩=false:=(M6.o.step (Below.refl _ _).drew).free 7;clear hk0;have HWR:Hid (IntKind.i64.wrap (k.f+1)=k.f+1):=η (by rw [IntKind.wrap_i64];omega);refine wp_region_held_drew (S:=fun w'=>w'.cell? ⟨p,0,none⟩=some (.int .i64 0)) (by kernel_rfl) hp0 (fun hHeld=>?_);(try dsimp only at hHeld);refine tkJ 0 rfl hHeld ?_;refine tkJ 1 rfl hHeld ?_;refine tkJ 2 rfl hHeld ?_;refine tkJ 3 rfl hHeld ?_;refine tkJ 4 rfl hHeld ?_;refine tkJ 5 rfl hHeld ?_;refine tkJ 8 rfl hHeld ?_;refine tkJ 9 rfl hHeld ?_;refine rdI 6 rfl (fun K hK=>?_);(try simp only [Act.put,rxT,sxT]);go_simp;refine hK.o _ _ hp0 (fun hHeld2=>?_);clear hK K;(try simp only [Act.put,rxT,sxT]);refine wpAnyH_take (i:=7) (v:=?v7_27) rfl (by kernel_rfl) (by kernel_rfl) (by kernel_rfl) (fun _ _ _ h=>h) (Or.inl ⟨by rfl,?hy7_27⟩) hHeld2 ?_
  case hy7_27=>(intro w hSw;(try dsimp only at hSw);have qw:=HWR.o;(try simp only [rxT]);go_simp <;> with_reducible rfl)
  (try simp only [Act.put,rxT,sxT]);refine wpAnyH_take (i:=10) (v:=?v10_28) rfl (by kernel_rfl) (by kernel_rfl) (by kernel_rfl) (fun _ _ _ h=>h) (Or.inl ⟨by rfl,?hy10_28⟩) hHeld2 ?_
  case hy10_28=>(intro w hSw;(try dsimp only at hSw);have qw:=HWR.o;(try simp only [rxT]);go_simp <;> with_reducible rfl)
  refine rdI 11 rfl (fun K hK=>?_);(try simp only [Act.put,rxT,sxT]);rw [if_pos (by rfl)];refine EhJ (ty:=3) (by kernel_rfl) _ _ rfl mr 7 rfl (.int .i64 (k.f+1)) rfl rfl _ (by exact M6.o.step (Below.refl _ _).drew) (by exact BqZ (AbK k) y 7 (by decide)) ?_;rw [show (AhV (AbK k) y).set 7 (.int .i64 (k.f+1))=AhV (cntM (AbK k) u) y from EmW y HK0.o];intro w8 hc1 ho1;have M8:=η hc1;have X8:=η ho1;clear hc1 ho1;refine hK.o _ _ (by rw [←HK0.o];exact oc0_ ((P6.o.1.step (Below.refl _ _).drew).oth X8.o (by simpa using HPN.o.1.symm))) (fun hHeld=>?_);clear hK K;(try simp only [Act.put,rxT,sxT]);refine wpAnyH_done (by kernel_rfl) ?_ _
  go_wp2_with (first
   | (refine atd 36 rfl ?_;refine AtV AbY rfl (.tmp 11) rfl p rfl u B4 c4 (by exact (P6.o.1.step (Below.refl _ _).drew).oth X8.o (by simpa using HPN.o.1.symm)) ?_)
   | (refine AaV AbY rfl (.tmp 10) (.tmp 36) rfl rv rfl u B4 c4 (ocV u B4 c4) rfl (by exact rfl) _ (by exact (V6.o.step (Below.refl _ _).drew).oth X8.o (by simpa using HMV.o.symm)) (by exact AdJ) ?_;intro wf hc1 ho1 hs1;have HF:=η (And.intro hc1 ho1);clear hc1 ho1 hs1))
  have V8:=(V6.o.step (Below.refl _ _).drew).oth X8.o (by simpa using HMV.o.symm);have O8:OwnB w8 w.heap.size B4 u.b.length c4 u.b:=(O6.o.below (Below.refl _ _).drew).offS X8.o ((M6.o.step (Below.refl _ _).drew).nob (by decide));exact bodyPost_ret (v:=ocV u B4 c4) (AbX AbY rfl _ _ rv (ocC u B4 c4) rfl HF.o.1 rfl) rfl ⟨B4,c4,rfl,O8.offS HF.o.2 (V8.nob (by decide)),((X6.o.trans (Oth.of_below (Below.refl _ _).drew)).trans X8.o).newer HF.o.2 V2.o.2,M8.o.oth HF.o.2 (by simpa using HMV.o)⟩
 ·have HK0:=η hk0
  have hp0:w6.drew.cell? ⟨p,0,none⟩=some (.int .i64 1):=by rw [←hk0];exact oc0_ (P6.o.1.step (Below.refl _ _).drew)
  have hq7:w6.drew.cell? ⟨mr,8,none⟩=some (.int .i64 k.m):=(M6.o.step (Below.refl _ _).drew).cell 8;have hb0:0≤k.m:=HCN.o.2.1.1;have hb1:k.m≤1000000000:=HCN.o.2.1.2;have hz7:w6.drew.frozen? ⟨mr,8,none⟩=false:=(M6.o.step (Below.refl _ _).drew).free 8;clear hk0;have HWR:Hid (IntKind.i64.wrap (k.m+1)=k.m+1):=η (by rw [IntKind.wrap_i64];omega);refine wp_region_held_drew (S:=fun w'=>w'.cell? ⟨p,0,none⟩=some (.int .i64 1)) (by kernel_rfl) hp0 (fun hHeld=>?_);(try dsimp only at hHeld);refine tkJ 0 rfl hHeld ?_;refine tkJ 1 rfl hHeld ?_;refine tkJ 2 rfl hHeld ?_;refine tkJ 3 rfl hHeld ?_;refine tkJ 4 rfl hHeld ?_;refine tkJ 5 rfl hHeld ?_;refine tkJ 8 rfl hHeld ?_;refine tkJ 9 rfl hHeld ?_;refine rdI 6 rfl (fun K hK=>?_);(try simp only [Act.put,rxT,sxT]);go_simp;refine hK.o _ _ hp0 (fun hHeld2=>?_);clear hK K;(try simp only [Act.put,rxT,sxT]);refine wpAnyH_take (i:=7) (v:=?v7_37) rfl (by kernel_rfl) (by kernel_rfl) (by kernel_rfl) (fun _ _ _ h=>h) (Or.inl ⟨by rfl,?hy7_37⟩) hHeld2 ?_
  case hy7_37=>(intro w hSw;(try dsimp only at hSw);have qw:=HWR.o;(try simp only [rxT]);go_simp <;> with_reducible rfl)
  (try simp only [Act.put,rxT,sxT]);refine wpAnyH_take (i:=10) (v:=?v10_38) rfl (by kernel_rfl) (by kernel_rfl) (by kernel_rfl) (fun _ _ _ h=>h) (Or.inl ⟨by rfl,?hy10_38⟩) hHeld2 ?_
  case hy10_38=>(intro w hSw;(try dsimp only at hSw);have qw:=HWR.o;(try simp only [rxT]);go_simp <;> with_reducible rfl)
  refine rdI 11 rfl (fun K hK=>?_);(try simp only [Act.put,rxT,sxT]);rw [if_pos (by rfl)];refine EhJ (ty:=3) (by kernel_rfl) _ _ rfl mr 8 rfl (.int .i64 (k.m+1)) rfl rfl _ (by exact M6.o.step (Below.refl _ _).drew) (by exact BqZ (AbK k) y 8 (by decide)) ?_;rw [show (AhV (AbK k) y).set 8 (.int .i64 (k.m+1))=AhV (cntM (AbK k) u) y from EmV y HK0.o];intro w8 hc1 ho1;have M8:=η hc1;have X8:=η ho1;clear hc1 ho1;refine hK.o _ _ (by rw [←HK0.o];exact oc0_ ((P6.o.1.step (Below.refl _ _).drew).oth X8.o (by simpa using HPN.o.1.symm))) (fun hHeld=>?_);clear hK K;(try simp only [Act.put,rxT,sxT]);refine wpAnyH_done (by kernel_rfl) ?_ _
  go_wp2_with (first
   | (refine atd 36 rfl ?_;refine AtV AbY rfl (.tmp 11) rfl p rfl u B4 c4 (by exact (P6.o.1.step (Below.refl _ _).drew).oth X8.o (by simpa using HPN.o.1.symm)) ?_)
   | (refine AaV AbY rfl (.tmp 10) (.tmp 36) rfl rv rfl u B4 c4 (ocV u B4 c4) rfl (by exact rfl) _ (by exact (V6.o.step (Below.refl _ _).drew).oth X8.o (by simpa using HMV.o.symm)) (by exact AdJ) ?_;intro wf hc1 ho1 hs1;have HF:=η (And.intro hc1 ho1);clear hc1 ho1 hs1))
  have V8:=(V6.o.step (Below.refl _ _).drew).oth X8.o (by simpa using HMV.o.symm);have O8:OwnB w8 w.heap.size B4 u.b.length c4 u.b:=(O6.o.below (Below.refl _ _).drew).offS X8.o ((M6.o.step (Below.refl _ _).drew).nob (by decide));exact bodyPost_ret (v:=ocV u B4 c4) (AbX AbY rfl _ _ rv (ocC u B4 c4) rfl HF.o.1 rfl) rfl ⟨B4,c4,rfl,O8.offS HF.o.2 (V8.nob (by decide)),((X6.o.trans (Oth.of_below (Below.refl _ _).drew)).trans X8.o).newer HF.o.2 V2.o.2,M8.o.oth HF.o.2 (by simpa using HMV.o)⟩
 ·have HK0:=η hk0
  have hp0:w6.drew.cell? ⟨p,0,none⟩=some (.int .i64 2):=by rw [←hk0];exact oc0_ (P6.o.1.step (Below.refl _ _).drew)
  have hq7:w6.drew.cell? ⟨mr,9,none⟩=some (.int .i64 k.d):=(M6.o.step (Below.refl _ _).drew).cell 9;have hb0:0≤k.d:=HCN.o.2.2.1;have hb1:k.d≤1000000000:=HCN.o.2.2.2;have hz7:w6.drew.frozen? ⟨mr,9,none⟩=false:=(M6.o.step (Below.refl _ _).drew).free 9;clear hk0;have HWR:Hid (IntKind.i64.wrap (k.d+1)=k.d+1):=η (by rw [IntKind.wrap_i64];omega);refine wp_region_held_drew (S:=fun w'=>w'.cell? ⟨p,0,none⟩=some (.int .i64 2)) (by kernel_rfl) hp0 (fun hHeld=>?_);(try dsimp only at hHeld);refine tkJ 0 rfl hHeld ?_;refine tkJ 1 rfl hHeld ?_;refine tkJ 2 rfl hHeld ?_;refine tkJ 3 rfl hHeld ?_;refine tkJ 4 rfl hHeld ?_;refine tkJ 5 rfl hHeld ?_;refine tkJ 8 rfl hHeld ?_;refine tkJ 9 rfl hHeld ?_;refine rdI 6 rfl (fun K hK=>?_);(try simp only [Act.put,rxT,sxT]);go_simp;refine hK.o _ _ hp0 (fun hHeld2=>?_);clear hK K;(try simp only [Act.put,rxT,sxT]);refine wpAnyH_take (i:=7) (v:=?v7_47) rfl (by kernel_rfl) (by kernel_rfl) (by kernel_rfl) (fun _ _ _ h=>h) (Or.inl ⟨by rfl,?hy7_47⟩) hHeld2 ?_
  case hy7_47=>(intro w hSw;(try dsimp only at hSw);have qw:=HWR.o;(try simp only [rxT]);go_simp <;> with_reducible rfl)
  (try simp only [Act.put,rxT,sxT]);refine wpAnyH_take (i:=10) (v:=?v10_48) rfl (by kernel_rfl) (by kernel_rfl) (by kernel_rfl) (fun _ _ _ h=>h) (Or.inl ⟨by rfl,?hy10_48⟩) hHeld2 ?_
  case hy10_48=>(intro w hSw;(try dsimp only at hSw);have qw:=HWR.o;(try simp only [rxT]);go_simp <;> with_reducible rfl)
  refine rdI 11 rfl (fun K hK=>?_);(try simp only [Act.put,rxT,sxT]);rw [if_pos (by rfl)];refine EhJ (ty:=3) (by kernel_rfl) _ _ rfl mr 9 rfl (.int .i64 (k.d+1)) rfl rfl _ (by exact M6.o.step (Below.refl _ _).drew) (by exact BqZ (AbK k) y 9 (by decide)) ?_;rw [show (AhV (AbK k) y).set 9 (.int .i64 (k.d+1))=AhV (cntM (AbK k) u) y from EmQ y HK0.o];intro w8 hc1 ho1;have M8:=η hc1;have X8:=η ho1;clear hc1 ho1;refine hK.o _ _ (by rw [←HK0.o];exact oc0_ ((P6.o.1.step (Below.refl _ _).drew).oth X8.o (by simpa using HPN.o.1.symm))) (fun hHeld=>?_);clear hK K;(try simp only [Act.put,rxT,sxT]);refine wpAnyH_done (by kernel_rfl) ?_ _
  go_wp2_with (first
   | (refine atd 36 rfl ?_;refine AtV AbY rfl (.tmp 11) rfl p rfl u B4 c4 (by exact (P6.o.1.step (Below.refl _ _).drew).oth X8.o (by simpa using HPN.o.1.symm)) ?_)
   | (refine AaV AbY rfl (.tmp 10) (.tmp 36) rfl rv rfl u B4 c4 (ocV u B4 c4) rfl (by exact rfl) _ (by exact (V6.o.step (Below.refl _ _).drew).oth X8.o (by simpa using HMV.o.symm)) (by exact AdJ) ?_;intro wf hc1 ho1 hs1;have HF:=η (And.intro hc1 ho1);clear hc1 ho1 hs1))
  have V8:=(V6.o.step (Below.refl _ _).drew).oth X8.o (by simpa using HMV.o.symm);have O8:OwnB w8 w.heap.size B4 u.b.length c4 u.b:=(O6.o.below (Below.refl _ _).drew).offS X8.o ((M6.o.step (Below.refl _ _).drew).nob (by decide));exact bodyPost_ret (v:=ocV u B4 c4) (AbX AbY rfl _ _ rv (ocC u B4 c4) rfl HF.o.1 rfl) rfl ⟨B4,c4,rfl,O8.offS HF.o.2 (V8.nob (by decide)),((X6.o.trans (Oth.of_below (Below.refl _ _).drew)).trans X8.o).newer HF.o.2 V2.o.2,M8.o.oth HF.o.2 (by simpa using HMV.o)⟩
theorem BsW (ev:Operand→Value) (x:Operand) (d:Option Tmp) (ty:TypeId) (ps:String) (af:Array Edge) (g:Option (Nat×Bool)) (w:World):(execOp ev ⟨d,.load 24 x,ty,ps,af,g⟩).run prog w=ldHd 24 (ev x) w:=rfl
theorem DkX (ev:Operand→Value) (x:Operand) (d:Option Tmp) (ty:TypeId) (ps:String) (af:Array Edge) (g:Option (Nat×Bool)) (w:World):(execOp ev ⟨d,.load 35 x,ty,ps,af,g⟩).run prog w=ldHd 35 (ev x) w:=rfl
theorem ex_ldSt (ev:Operand→Value) (x:Operand) (d:Option Tmp) (ty:TypeId) (ps:String) (af:Array Edge) (g:Option (Nat×Bool)) (w:World):(execOp ev ⟨d,.load 63 x,ty,ps,af,g⟩).run prog w=ldHd 63 (ev x) w:=rfl
theorem rt_state:RT 63 [.int .i64 0,.bool false,.int .i64 0,.int .u64 0,.int .i64 0,.int .i64 0]:=⟨AsJ (by kernel_rfl),by kernel_rfl⟩
attribute [local go_sem ↓] BsW DkX ex_ldSt
theorem ldPl_b {T T':TypeId} (rt:RT T zPn.cells) {w:World} {q:Nat} {p:Pn} (h:Blk T' w q p.cells):ldHd T (.pointer (some ⟨q,0,none⟩)) w=.ok (.value p.val) w:=CgK rt (cs:=p.cells) (vs:=p.cells) h rfl rfl
theorem mintZ (x:Nat) (w:World) (T:TypeId) (q:Nat) (h:Blk T w q [.int .i64 0,.bool false,.int .i64 0,.int .u64 0,.int .i64 0,.int .i64 0,.pointer (some ⟨x,0,none⟩),.int .i64 0,.int .i64 0,.int .i64 0]):Blk T w q (AgW ⟨zPn,[],0,0,0,0,0⟩ x):=h
theorem setM_z (p:Pn) (h:AcX p=true):setM ⟨zPn,[],0,0,0,0,0⟩ p=(newM p,0):=by unfold setM;rw [h];rfl
theorem AyX (p:Pn) (w:World) :
  Calls prog 11 #[p.val] w fun e w'=>Below w.heap.size w w'∧((AcX p=false∧e=.returned (.tuple #[.pointer none,.int .i64 11]))∨(AcX p=true∧∃ mi x,e=.returned (.tuple #[.pointer (some ⟨mi,0,none⟩),.int .i64 0])∧MY w x none 0 [] 1 0 mi (newM p) [] w')):=by
 have HS:∀ v,AcX p=v→Hid (AcX p=v):=fun v h=>η h
 rcases hv:AcX p with _ | _
 ·have HV:=HS _ hv
  clear HS hv;go_enter func11,ntmps11
  go_wp2_with (first
   | (refine AaZ rfl 24 (.tmp 0) rfl p rfl ?_;intro w1 q hc1 hb1 hx1;have H1:=η (And.intro hc1 (And.intro hb1 hx1));clear hc1 hb1 hx1))
  refine (CnW w1).mono ?_;rintro e w2 ⟨x,rfl,hb,hr⟩;have HQ2:=η (H1.o.1.step hb);have B2:=η (AaJ H1.o.2.1 hb);have R2:=η (hr.base_le H1.o.2.1.size);clear hb hr H1
  go_wp2_with (first
   | (refine AeV rfl 71 (.tmp 7) rfl [.int .i64 0,.bool false,.int .i64 0,.int .u64 0,.int .i64 0,.int .i64 0,.pointer (some ⟨x,0,none⟩),.int .i64 0,.int .i64 0,.int .i64 0] rfl ?_;intro w3 mi hc1 hb1 hx1;have H3:=η (And.intro hc1 (And.intro hb1 hx1));clear hc1 hb1 hx1))
  refine wp_region_held_drew (S:=fun w'=>Blk 24 w' q p.cells) (by kernel_rfl) ((HQ2.o.step H3.o.2.1).step (Below.refl _ _).drew) (fun hHeld=>?_);(try dsimp only at hHeld);have Ω:=η (fun (w:World) (hSw:Blk 24 w q p.cells)=>(ldPl_b ApX hSw));refine tkJ 0 rfl hHeld ?_;refine tkJ 1 rfl hHeld ?_;refine tkJ 2 rfl hHeld ?_;refine tkJ 3 rfl hHeld ?_;refine rdI 4 rfl (fun K hK=>?_);(try simp only [Act.put,rxT,sxT]);go_simp;refine (BdQ mi x ⟨zPn,[],0,0,0,0,0⟩ p _ (by exact (mintZ x _ _ _ H3.o.1).step (Below.refl _ _).drew)).mono ?_;rw [show setM ⟨zPn,[],0,0,0,0,0⟩ p=(⟨zPn,[],0,0,0,0,0⟩,11) from by unfold setM;rw [HV.o];rfl];rintro e w4 ⟨rfl,hbm,ho⟩;have BM:=η hbm;have XM:=η ((Oth.of_below (S:=[mi]) (Below.refl w3.heap.size w3).drew).trans ho);have N4:Hid (Below w.heap.size w w4):=η ((AaJ B2.o H3.o.2.1).trans (XM.o.below (fun j hj=>by rw [List.mem_singleton.1 hj];exact Nat.le_trans B2.o.size H3.o.2.2) (AaJ B2.o H3.o.2.1).size));clear hbm ho;(try go_wp2_with fail);refine hK.o _ _ ((HQ2.o.step H3.o.2.1).oth XM.o (by have:=HQ2.o.lt;have:=H3.o.2.2;simp;omega)) (fun hHeld=>?_);clear hK K;refine tkJ 5 rfl hHeld ?_;(try simp only [Act.put,rxT,sxT]);refine wpAnyH_done (by kernel_rfl) ?_ _;go_wp2_with fail;go_ret2;exact ⟨N4.o,.inl ⟨trivial,rfl⟩⟩
 ·have HV:=HS _ hv
  clear HS hv;go_enter func11,ntmps11
  go_wp2_with (first
   | (refine AaZ rfl 24 (.tmp 0) rfl p rfl ?_;intro w1 q hc1 hb1 hx1;have H1:=η (And.intro hc1 (And.intro hb1 hx1));clear hc1 hb1 hx1))
  refine (CnW w1).mono ?_;rintro e w2 ⟨x,rfl,hb,hr⟩;have HQ2:=η (H1.o.1.step hb);have B2:=η (AaJ H1.o.2.1 hb);have R2:=η (hr.base_le H1.o.2.1.size);clear hb hr H1
  go_wp2_with (first
   | (refine AeV rfl 71 (.tmp 7) rfl [.int .i64 0,.bool false,.int .i64 0,.int .u64 0,.int .i64 0,.int .i64 0,.pointer (some ⟨x,0,none⟩),.int .i64 0,.int .i64 0,.int .i64 0] rfl ?_;intro w3 mi hc1 hb1 hx1;have H3:=η (And.intro hc1 (And.intro hb1 hx1));clear hc1 hb1 hx1))
  refine wp_region_held_drew (S:=fun w'=>Blk 24 w' q p.cells) (by kernel_rfl) ((HQ2.o.step H3.o.2.1).step (Below.refl _ _).drew) (fun hHeld=>?_);(try dsimp only at hHeld);have Ω:=η (fun (w:World) (hSw:Blk 24 w q p.cells)=>(ldPl_b ApX hSw));refine tkJ 0 rfl hHeld ?_;refine tkJ 1 rfl hHeld ?_;refine tkJ 2 rfl hHeld ?_;refine tkJ 3 rfl hHeld ?_;refine rdI 4 rfl (fun K hK=>?_);(try simp only [Act.put,rxT,sxT]);go_simp;refine (BdQ mi x ⟨zPn,[],0,0,0,0,0⟩ p _ (by exact (mintZ x _ _ _ H3.o.1).step (Below.refl _ _).drew)).mono ?_;rw [setM_z p HV.o];rintro e w4 ⟨rfl,hbm,ho⟩;have BM:=η hbm;have XM:=η ((Oth.of_below (S:=[mi]) (Below.refl w3.heap.size w3).drew).trans ho);have N4:Hid (Below w.heap.size w w4):=η ((AaJ B2.o H3.o.2.1).trans (XM.o.below (fun j hj=>by rw [List.mem_singleton.1 hj];exact Nat.le_trans B2.o.size H3.o.2.2) (AaJ B2.o H3.o.2.1).size));clear hbm ho;(try go_wp2_with fail);refine hK.o _ _ ((HQ2.o.step H3.o.2.1).oth XM.o (by have:=HQ2.o.lt;have:=H3.o.2.2;simp;omega)) (fun hHeld=>?_);clear hK K;refine tkJ 5 rfl hHeld ?_;(try simp only [Act.put,rxT,sxT]);refine wpAnyH_done (by kernel_rfl) ?_ _;go_wp2_with fail;go_ret2;have hx:x≠mi:=(BM.o.far (show Blk 133 w4 x _ from (R2.o.step H3.o.2.1).blk.oth XM.o (by have:=R2.o.blk.lt;have:=H3.o.2.2;simp;omega)) (by decide)).symm;exact ⟨N4.o,.inr ⟨trivial,mi,x,rfl,⟨N4.o,(R2.o.step H3.o.2.1).off XM.o (by simpa using hx) (fun g hg=>by cases hg) (fun e he=>by cases he),BM.o,⟨hx.symm,by simp [blkO],fun e he=>by cases he⟩,Nat.le_trans B2.o.size H3.o.2.2,(fun r hr=>by cases hr),rfl,DjJ,HV.o⟩⟩⟩
theorem mrefZ (p:Pn) (y:Nat) (w:World) (T:TypeId) (q:Nat) (h:Blk T w q [.int .i64 p.m,.bool p.sh,.int .i64 p.t,.int .u64 (p.life:Int),.pointer (some ⟨y,0,none⟩),.int .i64 0,.int .i64 0,.int .i64 0,.int .i64 0,.int .i64 0]):Blk T w q (AhV (newM p) y):=h
theorem DfJ {w:World} {ops:Array Oper} {rest:List Oper} {o:Oper} {a:Act} {Q:Exit→Act→World→Prop} {T T':TypeId} (rt:RT T zPn.cells) (hgd:o.guard=none) (x:Operand) (hop:o.op=.load T x) (g:Nat) (hx:a.eval x=.pointer (some ⟨g,0,none⟩)) (p:Pn) (hc:Blk T' w g p.cells)
  (hk:wpList prog ops Q rest (a.put o.dst (.agg #[.int .i64 p.m,.bool p.sh,.int .i64 p.t,.int .u64 (p.life:Int)])) w):wpList prog ops Q (o::rest) a w:=AtW rt hgd x hop g 0 hx p.cells p.cells hc rfl rfl hk
theorem BgQ (p:Pn) (w:World) :
  Calls prog 12 #[p.val] w fun e w'=>Below w.heap.size w w'∧((AcX p=false∧e=.returned (.tuple #[.pointer none,.int .i64 11]))∨(AcX p=true∧∃ mr y,e=.returned (.tuple #[.pointer (some ⟨mr,0,none⟩),.int .i64 0])∧w.heap.size≤mr∧Blk 57 w' mr (AhV (newM p) y)∧Rs w.heap.size w' y none 0 [])):=by
 have HS:∀ v,AcX p=v→Hid (AcX p=v):=fun v h=>η h
 rcases hv:AcX p with _ | _
 ·have HV:=HS _ hv
  clear HS hv;go_enter func12,ntmps12
  go_wp2_with (first
   | (refine AaZ rfl 35 (.tmp 0) rfl p rfl ?_;intro w1 q hc1 hb1 hx1;have H1:=η (And.intro hc1 (And.intro hb1 hx1));clear hc1 hb1 hx1)
   | (refine atd 4 rfl ?_;refine AbZ BiJ rfl (.tmp 1) rfl q rfl p _ (by exact H1.o.1) (by exact AhQ p) ?_))
  refine (AjV p w1 _ HV.o).mono ?_;rintro e w2 ⟨rfl,hb⟩;have HQ2:=η (H1.o.1.step hb);have B2:=η (AaJ H1.o.2.1 hb);clear hb H1;go_wp2_with fail;go_ret2;exact ⟨B2.o,.inl ⟨trivial,rfl⟩⟩
 ·have HV:=HS _ hv
  clear HS hv;go_enter func12,ntmps12
  go_wp2_with (first
   | (refine AaZ rfl 35 (.tmp 0) rfl p rfl ?_;intro w1 q hc1 hb1 hx1;have H1:=η (And.intro hc1 (And.intro hb1 hx1));clear hc1 hb1 hx1)
   | (refine atd 4 rfl ?_;refine AbZ BiJ rfl (.tmp 1) rfl q rfl p _ (by exact H1.o.1) (by exact AhQ p) ?_))
  refine (AjV p w1 _ HV.o).mono ?_;rintro e w2 ⟨rfl,hb⟩;have HQ2:=η (H1.o.1.step hb);have B2:=η (AaJ H1.o.2.1 hb);clear hb H1
  go_wp2_with (first
   | (refine atd 7 rfl ?_;refine DfJ BiJ rfl (.tmp 1) rfl q rfl p (by exact HQ2.o) ?_)
   | (refine AeV rfl 102 (.tmp 8) rfl [.slice none 0 0] rfl ?_;intro w3 y hc1 hb1 hx1;have H3:=η (And.intro hc1 (And.intro hb1 hx1));clear hc1 hb1 hx1)
   | (refine AeV rfl 57 (.tmp 10) rfl [.int .i64 p.m,.bool p.sh,.int .i64 p.t,.int .u64 (p.life:Int),.pointer (some ⟨y,0,none⟩),.int .i64 0,.int .i64 0,.int .i64 0,.int .i64 0,.int .i64 0] rfl ?_;intro w4 mr hc1 hb1 hx1;have H4:=η (And.intro hc1 (And.intro hb1 hx1));clear hc1 hb1 hx1))
  go_ret2;have B3:=AaJ B2.o H3.o.2.1;have hr:=(Rs.new (w:=w2) H3.o.1 H3.o.2.2).base_le B2.o.size;exact ⟨AaJ B3 H4.o.2.1,.inr ⟨trivial,mr,y,rfl,Nat.le_trans B3.size H4.o.2.2,mrefZ p y _ _ _ H4.o.1,hr.step H4.o.2.1⟩⟩
theorem ldSt_b {T':TypeId} {w:World} {mi x:Nat} {k:Ms} (h:Blk T' w mi (AgW k x)):ldHd 63 (.pointer (some ⟨mi,0,none⟩)) w=.ok (.value (.agg #[.int .i64 k.p.m,.bool k.p.sh,.int .i64 k.p.t,.int .u64 (k.p.life:Int),.int .i64 k.n,.int .i64 k.l])) w:=CgK rt_state (cs:=AgW k x) (vs:=[.int .i64 k.p.m,.bool k.p.sh,.int .i64 k.p.t,.int .u64 (k.p.life:Int),.int .i64 k.n,.int .i64 k.l]) h rfl rfl
theorem mintCl (k:Ms) (y2:Nat) (w:World) (T:TypeId) (q:Nat) (h:Blk T w q [.int .i64 k.p.m,.bool k.p.sh,.int .i64 k.p.t,.int .u64 (k.p.life:Int),.int .i64 k.n,.int .i64 k.l,.pointer (some ⟨y2,0,none⟩),.int .i64 0,.int .i64 0,.int .i64 0]):Blk T w q (AgW (EfV k) y2):=h
theorem DlX (v:World) (x:Nat) (A:YA) (c:Nat) (es:Ens) (N F mi:Nat) (k:Ms) (rows:List Rw) (w:World) (h:MY v x A c es N F mi k rows w) :
  Calls prog 19 #[.pointer (some ⟨mi,0,none⟩)] w fun e w'=>∃ (m2 y2:Nat) (B:YA) (d:Nat) (fs:Ens),e=.returned (.pointer (some ⟨m2,0,none⟩))∧Below w.heap.size w w'∧MY w y2 B d fs 1 0 m2 (EfV k) [] w':=by
 have H:=η h
 have HL:=η h.len
 clear h
 go_enter func19,ntmps19
 go_wp2_with fail
 refine wp_region_held_drew (S:=fun w'=>Blk 71 w' mi (AgW k x)) (by kernel_rfl) (H.o.mb.step (Below.refl _ _).drew) (fun hHeld=>?_)
 (try dsimp only at hHeld)
 have Ω:=η (fun (w:World) (hSw:Blk 71 w mi (AgW k x))=>an (ldSt_b hSw) (show w.cell? ⟨mi,6,none⟩=some (.pointer (some ⟨x,0,none⟩)) from hSw.cell 6))
 refine tkJ 0 rfl hHeld ?_
 refine tkJ 1 rfl hHeld ?_
 refine tkJ 2 rfl hHeld ?_
 refine tkJ 3 rfl hHeld ?_
 refine tkJ 4 rfl hHeld ?_
 refine tkJ 5 rfl hHeld ?_
 refine tkJ 6 rfl hHeld ?_
 refine tkJ 7 rfl hHeld ?_
 refine rdI 8 rfl (fun K hK=>?_)
 (try simp only [Act.put,rxT,sxT])
 go_simp
 refine (EbV _ x A c es N F _ (by exact H.o.rn.step (Below.refl _ _).drew) (by have:=HL.o;omega)).mono ?_
 rintro e w2 ⟨y2,B,d,fs,rfl,hb,hr,hq⟩
 have B2:=η ((Below.refl _ _).drew.trans hb)
 have R2:=η (hr.base_le (Nat.le_refl w.heap.size))
 have HQ:=η (hq.trans H.o.ee)
 clear hb hr hq
 (try go_wp2_with fail)
 refine hK.o _ _ (H.o.mb.step B2.o) (fun hHeld=>?_)
 clear hK K
 (try simp only [Act.put,rxT,sxT])
 have Ω:=η (fun (w:World) (hSw:Blk 71 w mi (AgW k x))=>(ldSt_b hSw))
 refine tkJ 9 rfl hHeld ?_
 refine rdI 10 rfl (fun K hK=>?_)
 (try simp only [Act.put,rxT,sxT])
 go_simp
 have C3:Blk 71 (w2.alloc (.cells #[.int .i64 k.p.m,.bool k.p.sh,.int .i64 k.p.t,.int .u64 (k.p.life:Int),.int .i64 k.n,.int .i64 k.l,.pointer (some ⟨y2,0,none⟩),.int .i64 0,.int .i64 0,.int .i64 0] 71)) w2.heap.size [.int .i64 k.p.m,.bool k.p.sh,.int .i64 k.p.t,.int .u64 (k.p.life:Int),.int .i64 k.n,.int .i64 k.l,.pointer (some ⟨y2,0,none⟩),.int .i64 0,.int .i64 0,.int .i64 0]:=Blk.new _ _ _ _ rfl
 have H3:=η (mintCl k y2 _ _ _ C3)
 have N3:=η (AaK w2 (.cells #[.int .i64 k.p.m,.bool k.p.sh,.int .i64 k.p.t,.int .u64 (k.p.life:Int),.int .i64 k.n,.int .i64 k.l,.pointer (some ⟨y2,0,none⟩),.int .i64 0,.int .i64 0,.int .i64 0] 71))
 clear C3
 obtain ⟨m2,hm2⟩:∃ m2,m2=w2.heap.size:=⟨_,rfl⟩
 rw [←hm2] at H3 ⊢
 generalize (w2.alloc (.cells #[.int .i64 k.p.m,.bool k.p.sh,.int .i64 k.p.t,.int .u64 (k.p.life:Int),.int .i64 k.n,.int .i64 k.l,.pointer (some ⟨y2,0,none⟩),.int .i64 0,.int .i64 0,.int .i64 0] 71))=w3 at H3 N3 ⊢
 have HM2:=η hm2
 clear hm2
 refine hK.o _ _ (H.o.mb.step (AaJ B2.o N3.o)) (fun hHeld=>?_)
 clear hK K
 refine tkJ 11 rfl hHeld ?_
 (try simp only [Act.put,rxT,sxT])
 refine wpAnyH_done (by kernel_rfl) ?_ _
 go_wp2_with fail
 go_ret
 have hlt:∀ g,g<w2.heap.size→g≠m2:=fun g hg e=>by have:=HM2.o;omega
 refine ⟨m2,y2,B,d,fs,rfl,AaJ B2.o N3.o,⟨AaJ B2.o N3.o,R2.o.step N3.o,H3.o,⟨(hlt y2 R2.o.blk.lt).symm,fun hm=>hlt m2 (R2.o.grd.lt m2 hm).2 rfl,fun e he=>.inr (Nat.le_trans (R2.o.ok e he).1.le (Nat.le_of_eq HM2.o.symm))⟩,by rw [HM2.o];exact B2.o.size,(fun r hr=>by cases hr),HQ.o,H.o.os,H.o.pr⟩⟩
theorem EaJ (u:Oc) (A A':YA) (c c':Nat) (w:World) (h:RB w w.heap.size A u.b.length u.b) (h':RB w w.heap.size A' u.b.length u.b) (hm:u.b.length≤maxLen) :
  Calls prog 40 #[ocV u A c,ocV u A' c'] w fun e w'=>e=.returned (.bool true)∧Below w.heap.size w w':=by
 have H:=η (And.intro h h')
 have HM:=η hm
 clear h h' hm
 go_enter func40,ntmps40
 go_wp2_with (first
  | (refine BtW rfl 73 (.tmp 0) rfl u A c rfl ?_;intro w1 q hc1 hb1 hx1;have H1:=η (And.intro hc1 hb1);clear hc1 hb1 hx1)
  | (refine BtW rfl 104 (.tmp 1) rfl u A' c' rfl ?_;intro w2 p hc1 hb1 hx1;have B2:=η (AaJ H1.o.2 hb1);have HP2:=η hc1;have HQ2:=η (H1.o.1.step hb1);have q0:=oc0_ hc1;have q1:=oc1_ hc1;have q2:=oc2_ hc1;have q3:=oc3_ hc1;have z0:=oc0_ HQ2.o;have z1:=oc1_ HQ2.o;have z2:=oc2_ HQ2.o;have z3:=oc3_ HQ2.o;clear hc1 hb1 hx1))
 refine (al_same A A' u.b.length c u.b.length c' u.b u.b w2 (by exact H.o.1.step B2.o) (by exact H.o.2.step B2.o) HM.o HM.o true (by simp)).mono ?_
 rintro e w3 ⟨rfl,hb⟩
 have B3:=η (AaJ B2.o hb)
 have q4:=oc4_ (HP2.o.step hb)
 have z4:=oc4_ (HQ2.o.step hb)
 clear hb q0 q1 q2 q3 z0 z1 z2 z3
 go_wp2_with fail
 go_ret
 exact ⟨rfl,B3.o⟩
