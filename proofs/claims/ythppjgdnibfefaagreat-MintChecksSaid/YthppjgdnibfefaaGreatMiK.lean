import Derived.Test.YthppjgdnibfefaaGreatMiL
set_option linter.all false
set_option maxRecDepth 100000
set_option maxHeartbeats 32000000
namespace Go.Proofs.YthppjgdnibfefaaGreat
open Tryz
open Go.RowKit
theorem blk_cutM {A:YA} {c i g:Nat} (h:g∈blkO (cutA A c i)):g∈blkO A:=Classical.byContradiction fun hn=>DmJ (S:=[g]) (fun j hj hm=>hn (by rw [←List.mem_singleton.1 hm];exact hj)) g h (by simp)
theorem Ra.part {es:Ens} {w:World} {A:YA} {n c:Nat} {l:YB} (h:Ra es w A n c l) {i j d:Nat} (hij:i≤j) (hj:j≤n) (hd:j - i≤d∧d≤maxLen):Ra es w (cutA A c i) (j - i) d ((l.take j).drop i) :=
 h.cut (RB.part h.rb hij hj h.cap.1) hd (fun h0=>⟨by omega,fun g hg=>blk_cutM hg⟩)
structure KY (w0 v:World) (x:Nat) (A:YA) (c:Nat) (es:Ens) (N F mi:Nat) (k:Ms) (rows:List Rw) (recs:List (TypeId×Nat×List Value)) (w:World):Prop where
 my:MY v x A c es N F mi k rows w
 bx:RetBx es N F w0 w
 hl:∀ e∈es,e.1.H≤w0.heap.size
 vs:v.heap.size≤w0.heap.size
 rb:∀ r∈recs,Blk r.1 w r.2.1 r.2.2∧w0.heap.size≤r.2.1
section
variable {w0 v w w1 w':World} {x c N F N' F' mi n d g:Nat} {A B:YA} {es:Ens} {k:Ms} {rows rows':List Rw} {recs recs':List (TypeId×Nat×List Value)} {l:YB} {T:TypeId} {cs:List Value}
theorem KY.start (h:MY v x A c es N F mi k rows w):KY w v x A c es N F mi k rows [] w:=⟨h,RetBx.of_below h.rn (Below.refl _ _),fun e he=>(h.rn.ok e he).1.le,h.bel.size,fun r hr=>by cases hr⟩
theorem KY.step (h:KY w0 v x A c es N F mi k rows recs w) (hb:Below w.heap.size w w'):KY w0 v x A c es N F mi k rows recs w':=⟨h.my.step hb,h.bx.trans (RetBx.of_below h.my.rn hb),h.hl,h.vs,fun r hr=>⟨(h.rb r hr).1.step hb,(h.rb r hr).2⟩⟩
theorem KY.sz (h:KY w0 v x A c es N F mi k rows recs w):w0.heap.size≤w.heap.size:=h.bx.oth.size
theorem KY.new (h:KY w0 v x A c es N F mi k rows recs w) (hb:Below w.heap.size w w') (hc:Blk T w' g cs) (hg:w.heap.size≤g):KY w0 v x A c es N F mi k rows ((T,g,cs)::recs) w' :=
 ⟨(h.step hb).my,(h.step hb).bx,h.hl,h.vs,fun r hr=>by
  rcases List.mem_cons.1 hr with rfl | hr
  ·exact ⟨hc,Nat.le_trans h.sz hg⟩
  ·exact (h.step hb).rb r hr⟩
theorem KY.o (h:KY w0 v x A c es N F mi k rows recs w) (hm:(T,g,cs)∈recs):∀ e∈es,e.1.o g:=fun e he=>.inr (Nat.le_trans (h.hl e he) (h.rb _ hm).2)
theorem KY.box (h:KY w0 v x A c es N F mi k rows recs w) (q:RetBx es N' F' w w'):KY w0 v x A c es N' F' mi k rows recs w' :=
 ⟨h.my.box q,h.bx.trans q,h.hl,h.vs,fun r hr=>⟨(h.rb r hr).1.oth q.oth (h.my.rn.out_es (h.o (T:=r.1) (g:=r.2.1) (cs:=r.2.2) hr)),(h.rb r hr).2⟩⟩
theorem KY.own (h:KY w0 v x A c es N F mi k rows recs w) (hb:Below w.heap.size w w') (ho:OwnB w' w.heap.size B n d l):KY w0 v x A c es N F mi k ((B,n,d,l)::rows) recs w':=⟨h.my.own hb ho,(h.step hb).bx,h.hl,h.vs,(h.step hb).rb⟩
theorem KY.boxOwn (h:KY w0 v x A c es N F mi k rows recs w) (q:RetBx es N' F' w w') (ho:OwnB w' w.heap.size B n d l):KY w0 v x A c es N' F' mi k ((B,n,d,l)::rows) recs w':=⟨(h.my.box q).cons (Ra.own ho h.my.rn),(h.box q).bx,h.hl,h.vs,(h.box q).rb⟩
theorem KY.cons (h:KY w0 v x A c es N F mi k rows recs w) (hr:Ra es w B n d l):KY w0 v x A c es N F mi k ((B,n,d,l)::rows) recs w:=⟨h.my.cons hr,h.bx,h.hl,h.vs,h.rb⟩
theorem KY.fin (h:KY w0 v x A c es N F mi k rows recs w) (hm:(T,g,cs)∈recs) (ho:Oth [g] w w'):RetBx es N F w0 w' :=
 ⟨h.bx.oth.newer ho (h.rb _ hm).2,fun e he=>(h.bx.ok e he).newer (h.hl e he) ho (h.rb _ hm).2⟩
theorem KY.put (h:KY w0 v x A c es N F mi k rows recs w) (hm:(T,g,cs)∈recs) (ho:Oth [g] w w') (hn:∀ u∈cs,∀ b:UInt8,u≠bv b) (h1:T≠71) (h2:T≠133) (h3:T≠130) (hr:∀ r∈recs',r∈recs∧r.2.1≠g):KY w0 v x A c es N F mi k rows recs' w':=by
 have hb:=(h.rb _ hm).1
 have hg:=(h.rb _ hm).2
 simp only at hb hg
 have hout:=h.o hm
 have nx:x≠g:=fun e=>hb.far h.my.rn.blk h2 e.symm
 have nA:g∉blkO A:=h.my.rn.grd.away hb (Ne.symm h3)
 have nm:mi≠g:=fun e=>hb.far h.my.mb h1 e.symm
 have hv:v.heap.size≤g:=Nat.le_trans h.vs hg
 refine ⟨⟨h.my.bel.trans (ho.below (fun j hj=>by rw [List.mem_singleton.1 hj];exact hv) h.my.bel.size),h.my.rn.off ho (by simpa using nx) (fun j hj hm=>nA (by rw [←List.mem_singleton.1 hm];exact hj)) (fun e he j hj=>by rw [List.mem_singleton.1 hj];exact hout e he),h.my.mb.oth ho (by simpa using nm),h.my.mo,h.my.lo,fun r hr=>⟨(h.my.row r hr).rb.oth ho (fun h0=>hb.not_row hn (h.my.row r hr).rb h0),(h.my.row r hr).cap,(h.my.row r hr).o⟩,h.my.ee,h.my.os,h.my.pr⟩,?_,h.hl,h.vs,fun r hr2=>⟨(h.rb r (hr r hr2).1).1.oth ho (by simpa using (hr r hr2).2),(h.rb r (hr r hr2).1).2⟩⟩
 exact h.fin hm ho
theorem KY.c6 (h:KY w0 v x A c es N F mi k rows recs w):w.cell? ⟨mi,6,none⟩=some (.pointer (some ⟨x,0,none⟩)):=h.my.mb.cell 6
end
theorem AdY {w:World} {o:Oper} {a:Act} {Q:Exit→Act→World→Prop} {K:Act→World→Prop} {T:TypeId} {z:List Value} (rt:RT T z) (hop:o.op=.alloc T)
  (hk:∀ w' q,Blk T w' q z→Below w.heap.size w w'→w.heap.size≤q→K (a.put o.dst (.pointer (some ⟨q,0,none⟩))) w'):o.wp prog a w K Q:=by
 have hk:=hk _ _ (Blk.new _ _ _ _ rfl) (AaK _ _) (Nat.le_refl _)
 have hz:=rt.zero w
 have hr:(Instr.alloc T true (.tuple #[])).run prog w=.ok (.pointer (some ⟨w.heap.size,0,none⟩)) (w.alloc (.cells z.toArray T)):=by
  unfold Instr.alloc;simp only [Sem.run_bind,hz,Result.andThen_ok];rfl
 unfold Oper.wp execOp
 simp only [hop,Sem.run_bind,hr,Result.andThen_ok]
 exact hk
theorem zF_nb:∀ v∈zeroF.cells,∀ b:UInt8,v≠bv b:=fun v hv b e=>by
 simp only [Fd.cells,zeroF,List.mem_cons,List.not_mem_nil,or_false] at hv
 rcases hv with rfl | rfl | rfl <;> cases e
def CfY (s:Rg) (q:Int) (c to frm:YB) (u:Nat) (l:YB):List UInt8×Int :=
 if (AjZ s q (l.drop 8) c ⟨u,to,200::l.take 8⟩).2≠0 then ([],(AjZ s q (l.drop 8) c ⟨u,to,200::l.take 8⟩).2) else AiX frm (200::l.take 8) to (AjZ s q (l.drop 8) c ⟨u,to,200::l.take 8⟩).1
theorem EnV {s:Rg} {life now:Nat} {c r:YB} {p:IPl} (hs:s≠[]) (hr:20≤r.length) {b:List UInt8×Int} (hb:CfY s (newR s).1 c p.1.2.2.1 p.1.2.2.2 (AfV now life) (r.take 20)=b):AcJ s life c p now r=if b.2≠0 then drp b.2 else mdo b.1:=by
 subst hb
 have e1:(r.take 20).drop 8=(r.drop 8).take 12:=by rw [List.drop_take]
 have e2:(r.take 20).take 8=r.take 8:=by rw [List.take_take];rfl
 unfold CfY AcJ AfK
 rw [if_neg hs,if_neg (by omega),e1,e2]
 dsimp only
 split
 ·rfl
 ·rfl
attribute [local go_sem ↓] DcZ CkQ BnZ
attribute [local irreducible] AdQ AjZ seqT fstT AcJ outM AiX AlJ retR newR AfV AbQ CfY
theorem DiJ (v:World) (x:Nat) (A:YA) (c:Nat) (es:Ens) (N F mi:Nat) (k:Ms) (rows:List Rw) (w:World) (h:MY v x A c es N F mi k rows w) (hN:N+1≤1000000000) (q:Int) (CA:YA) (cc:Nat) (cl:YB) (hc:Ra es w CA cl.length cc cl) (bc:cl.length≤1000) (i:In) (hi:i.aw es w) (u:Nat) (hu:u<2 ^ 64) (RA:YA) (rc:Nat) (l:YB) (hr:Ra es w RA 20 rc l) (b:List UInt8×Int) (hb:CfY k.s q cl i.h.a i.h.b u l=b) :
  Calls prog 113 #[.pointer (some ⟨mi,0,none⟩),.int .i64 q,.slice CA cl.length cc,i.val,.int .u64 (u:Int),.slice RA 20 rc] w fun e w'=>∃ B d,e=.returned (.tuple #[.slice B b.1.length d,.int .i64 b.2])∧OwnB w' w.heap.size B b.1.length d b.1∧RetBx es (N+1) F w w':=by
 obtain ⟨sc,HSC⟩:∃ sc,Hid (200::l.take 8=sc):=⟨_,η rfl⟩
 have hl:l.length=20:=hr.rb.len
 have HS9:Hid (sc.length=9):=η (by rw [←HSC.o,List.length_cons,List.length_take];omega)
 obtain ⟨⟨L,E⟩,HSL⟩:∃ r,Hid (AjZ k.s q (l.drop 8) cl ⟨u,i.h.a,sc⟩=r):=⟨_,η rfl⟩
 have HB:Hid ((if E≠0 then (([],E):List UInt8×Int) else AiX i.h.b sc i.h.a L)=b):=η (by
  rw [←hb]
  unfold CfY
  rw [HSC.o,HSL.o])
 have hcap:20≤rc∧rc≤maxLen:=hr.cap
 have hq1:∀ W:World,(Instr.slice 41 (.slice RA 20 rc) none (some (.int .i64 8)) none).run prog W=.ok (.slice (cutA RA rc 0) 8 rc) W:=BsZ RA 20 rc 8 (by omega)
 have HQ2:Hid (∀ W:World,(Instr.slice 41 (.slice RA 20 rc) (some (.int .i64 8)) none none).run prog W=.ok (.slice (cutA RA rc 8) 12 (rc - 8)) W):=η (BvJ RA 20 rc 8 (by omega))
 have HR8:Hid (RB w w.heap.size (cutA RA rc 0) 8 (l.take 8)):=η (by have z:=RB.part hr.rb (i:=0) (j:=8) (c:=rc) (by omega) (by omega) hcap.1;exact z)
 have HR12:Hid (Ra es w (cutA RA rc 8) 12 (rc - 8) (l.drop 8)):=η (by
  have z:=hr.part (i:=8) (j:=20) (d:=rc - 8) (by omega) (by omega) (by omega)
  rw [List.take_of_length_le (by omega)] at z
  exact z)
 have K0:=η (((((KY.start h).cons hc).cons hi.b).cons hi.a).cons HR12.o)
 have HI:=η hi
 clear h hc hi hr hb hl hcap
 go_enter func113,ntmps113
 go_wp2_with (first
  | (refine AgV rfl _ (.tmp 3) rfl i rfl ?_;intro w1 qi hc1 hb1 hx1;have K1:=η (K0.o.new hb1 hc1.blk hx1);have B1:=η hb1;clear hc1 hb1 hx1))
 refine (DlJ (cutA RA rc 0) rc (l.take 8) w1 (by exact HR8.o.step B1.o)).mono ?_
 rintro e w2 ⟨A1,c1,he,ho,hb⟩
 rw [HSC.o] at ho
 rw [←HS9.o] at he ho
 subst he
 have K2:=η (K1.o.own hb ho)
 clear ho hb hq1
 have q2:w2.cell? ⟨qi,2,none⟩=some (.slice i.h.A i.h.a.length i.h.c):=(show Ic _ w2 qi i from (K2.o.rb (46,qi,i.cells) (by simp)).1).c2
 obtain ⟨f,HF⟩:∃ f:Fd,Hid (f=⟨u,i.h.A,i.h.c,i.h.a,A1,c1,sc⟩):=⟨_,η rfl⟩
 have HFV:Hid (f.val=.agg #[.int .u64 (u:Int),.slice i.h.A i.h.a.length i.h.c,.slice A1 sc.length c1]):=η (by rw [HF.o];rfl)
 go_wp2_with (first
  | (refine atd 16 rfl ?_;refine AcZ AfX rfl rfl ?_;intro w3 p hc1 hb1 hx1;have H3:=η (And.intro hc1 (And.intro hb1 hx1));clear hc1 hb1 hx1 q2)
  | (refine BiW AfX rfl (.tmp 16) (.tmp 30) rfl p rfl f zeroF (.agg #[.int .u64 (u:Int),.slice i.h.A i.h.a.length i.h.c,.slice A1 sc.length c1]) rfl (by exact HFV.o.symm) (by exact H3.o.1) ?_;intro w4 hc1 ho1 hs1;have K4:=η (K2.o.new (AeJ H3.o.2.1 H3.o.2.2 ho1) hc1.blk H3.o.2.2);clear hc1 ho1 hs1 H3))
 refine wp_region_held_drew (S:=fun w'=>w'.cell? ⟨mi,6,none⟩=some (.pointer (some ⟨x,0,none⟩))∧Fc 77 w' p f) (by kernel_rfl) ⟨K4.o.c6,(K4.o.rb (77,p,f.cells) (by simp)).1⟩ (fun hHeld=>?_)
 (try dsimp only at hHeld)
 have Ω:=η (fun (w:World) (hSw:w.cell? ⟨mi,6,none⟩=some (.pointer (some ⟨x,0,none⟩))∧Fc 77 w p f)=>an hSw.1 (an (hSw.2.ld AfX) (HQ2.o w)))
 refine tkJ 0 rfl hHeld ?_
 refine tkJ 1 rfl hHeld ?_
 refine tkJ 2 rfl hHeld ?_
 refine tkJ 3 rfl hHeld ?_
 refine tkJ 4 rfl hHeld ?_
 refine tkJ 5 rfl hHeld ?_
 refine tkJ 6 rfl hHeld ?_
 refine tkJ 7 rfl hHeld ?_
 refine tkJ 8 rfl hHeld ?_
 refine rdI 9 rfl (fun K hK=>?_)
 (try simp only [Act.put,rxT,sxT])
 go_simp
 have HFO:Hid (f.ok w4.drew):=η (by
  have ra:=(K4.o.my.row (i.h.A,i.h.a.length,i.h.c,i.h.a) (by simp))
  have rs:=(K4.o.my.row (A1,sc.length,c1,sc) (by simp))
  rw [HF.o]
  exact ⟨hu,ra.rb.step (Below.refl _ _).drew,rs.rb.step (Below.refl _ _).drew,ra.cap,rs.cap⟩)
 have K4':=η (K4.o.step (Below.refl _ _).drew)
 rw [←HFV.o]
 refine (my_seal (K4'.o.my) hN q (cutA RA rc 8) CA 12 (rc - 8) cl.length cc (l.drop 8) cl (by exact K4'.o.my.row (cutA RA rc 8,12,rc - 8,l.drop 8) (by simp)) (by exact (K4'.o.my.row (CA,cl.length,cc,cl) (by simp)).rb) (by omega) (by omega) f (by exact HFO.o) L.length L E (by rw [HF.o];exact HSL.o) rfl).mono ?_
 rintro e w5 ⟨B5,c5,rfl,ho,hbx⟩
 have K5:=η (K4'.o.boxOwn hbx ho)
 clear ho hbx
 (try go_wp2_with fail)
 refine hK.o _ _ ⟨K5.o.c6,(K5.o.rb (77,p,f.cells) (by simp)).1⟩ (fun hHeld=>?_)
 clear hK K
 refine tkJ 10 rfl hHeld ?_
 refine tkJ 11 rfl hHeld ?_
 refine tkJ 12 rfl hHeld ?_
 refine tkJ 13 rfl hHeld ?_
 refine tkJ 14 rfl hHeld ?_
 (try simp only [Act.put,rxT,sxT])
 refine wpAnyH_done (by kernel_rfl) ?_ _
 by_cases hE:E=0
 rotate_left
 ·have d1:(E != 0)=true:=by simpa using hE
  have e1:b=([],E):=by rw [←HB.o,if_pos hE]
  subst e1;clear hE;go_wp2_with fail;go_ret2;exact ⟨none,0,rfl,OwnB.nil_ _ _,K5.o.bx⟩
 have d1:(E != 0)=false:=by rw [hE];rfl
 have HE0:Hid (AiX i.h.b sc i.h.a L=b):=η (by rw [←HB.o,if_neg (by rw [hE];decide)])
 clear hE
 have qi2:w5.cell? ⟨qi,2,none⟩=some (.slice i.h.A i.h.a.length i.h.c):=(show Ic _ w5 qi i from (K5.o.rb (46,qi,i.cells) (by simp)).1).c2
 have qi3:w5.cell? ⟨qi,3,none⟩=some (.slice i.h.B i.h.b.length i.h.d):=(show Ic _ w5 qi i from (K5.o.rb (46,qi,i.cells) (by simp)).1).c3
 go_wp2_with fail
 refine (ElX i.h.B A1 i.h.A B5 i.h.d c1 i.h.c c5 i.h.b sc i.h.a L w5 (by exact (K5.o.my.row (i.h.B,i.h.b.length,i.h.d,i.h.b) (by simp)).rb) (by exact (K5.o.my.row (A1,sc.length,c1,sc) (by simp)).rb) (by exact (K5.o.my.row (i.h.A,i.h.a.length,i.h.c,i.h.a) (by simp)).rb) (by exact (K5.o.my.row (B5,L.length,c5,L) (by simp)).rb) (by exact (K5.o.my.row (i.h.B,i.h.b.length,i.h.d,i.h.b) (by simp)).cap) (by exact (K5.o.my.row (A1,sc.length,c1,sc) (by simp)).cap)).mono ?_
 rw [HE0.o]
 rintro e w6 ⟨B6,c6,rfl,ho,hb⟩
 have K6:=η (And.intro (K5.o.step hb).bx (ho.base_le K5.o.sz))
 clear ho hb qi2 qi3
 go_wp2_with fail
 go_ret2
 exact ⟨B6,c6,rfl,K6.o.2,K6.o.1⟩
def RetOc (u:Oc) (es:Ens) (N F:Nat) (w:World) (e:Ending) (w':World):Prop:=∃ B d,e=.returned (ocV u B d)∧OwnB w' w.heap.size B u.b.length d u.b∧RetBx es N F w w'
theorem BfK (v:World) (x:Nat) (A:YA) (c:Nat) (es:Ens) (N F mi:Nat) (k:Ms) (rows:List Rw) (w:World) (h:MY v x A c es N F mi k rows w) (hN:N+1≤1000000000) (CA:YA) (cc:Nat) (cl:YB) (hc:Ra es w CA cl.length cc cl) (bc:cl.length≤1000) (i:In) (hi:i.aw es w) (bt:i.t.length≤1000) (now:Nat) (hn:now<2 ^ 64) (RA:YA) (rc:Nat) (r:YB) (hr:Ra es w RA r.length rc r) (br:r.length≤1000) (u:Oc) (hu:AcJ k.s k.p.life cl i.pl now r=u) :
  Calls prog 78 #[.pointer (some ⟨mi,0,none⟩),.slice CA cl.length cc,i.val,.int .u64 (now:Int),.slice RA r.length rc] w (RetOc u es (N+1) F w):=by
 have hlife:k.p.life<2 ^ 64:=by have z:=of_decide_eq_true h.pr;omega
 have HLF:=η hlife
 clear hlife
 obtain ⟨⟨q,b⟩,HNW⟩:∃ z,Hid (newR k.s=z):=⟨_,η rfl⟩
 have K0:=η ((KY.start h).cons hr |>.cons hc |>.cons hi.a |>.cons hi.b |>.cons hi.t |>.cons hi.r)
 have HI:=η hi
 have HU:=η hu
 have HLN:Hid (es.length≤1000):=η (by have:=h.len;omega)
 clear h hc hi hr hu
 go_enter func78,ntmps78
 go_wp2_with (first
  | (refine AgV rfl _ (.tmp 2) rfl i rfl ?_;intro w1 qi hc1 hb1 hx1;have K1:=η (K0.o.new hb1 hc1.blk hx1);clear hc1 hb1 hx1)
  | (refine atd 10 rfl ?_;refine AbJ AbW rfl rfl ?_;intro w2 rv hc1 hb1 hx1;have K2:=η (K1.o.new hb1 hc1 hx1);have c6:=K2.o.c6;clear hc1 hb1 hx1))
 refine (CjQ _ x A c es N F w2 (by exact K2.o.my.rn) (by exact HLN.o)).mono ?_
 rw [K2.o.my.ee,HNW.o]
 rintro e w3 ⟨rfl,hb⟩
 have K3:=η (K2.o.step hb)
 clear hb c6
 by_cases hs:k.s=[]
 ·have hb0:b=false:=by have z:=HNW.o;rw [hs,new_nilR] at z;injection z with _ z;exact z.symm
  have eu:u=drp 17:=by rw [←HU.o,hs];exact BpX
  subst hb0 eu;clear hs;go_wp2_with fail;refine (ApY 17 w3).mono ?_;rintro e w4 ⟨rfl,hb⟩;have K4:=η (K3.o.step hb);clear hb
  go_wp2_with (first
   | (refine AaV AbW rfl (.tmp 10) (.tmp 25) rfl rv rfl (drp 17) none 0 (ocV (drp 17) none 0) rfl (by exact rfl) _ (by exact (K4.o.rb (73,rv,zOc) (by simp)).1) (by exact AdJ) ?_;intro wf hc1 ho1 hs1;have HF:=η (And.intro hc1 ho1);clear hc1 ho1 hs1))
  exact bodyPost_ret (v:=ocV (drp 17) none 0) (AbX AbW rfl _ _ rv (ocC (drp 17) none 0) rfl HF.o.1 rfl) rfl ⟨none,0,rfl,OwnB.nil_ _ _,(K4.o.fin (T:=73) (g:=rv) (cs:=zOc) (by simp) HF.o.2).up (by omega) (by omega)⟩
 have hb1:b=true:=by have z:=HNW.o;rw [BmV hs] at z;injection z with _ z;exact z.symm
 subst hb1
 by_cases h20:r.length<20
 ·have d1:decide ((r.length:Int)<20)=true:=decide_eq_true (by omega)
  have eu:u=drp 21:=by rw [←HU.o];exact BlX hs h20
  subst eu;clear hs h20;go_wp2_with fail;refine (ApY 21 w3).mono ?_;rintro e w4 ⟨rfl,hb⟩;have K4:=η (K3.o.step hb);clear hb
  go_wp2_with (first
   | (refine AaV AbW rfl (.tmp 10) (.tmp 29) rfl rv rfl (drp 21) none 0 (ocV (drp 21) none 0) rfl (by exact rfl) _ (by exact (K4.o.rb (73,rv,zOc) (by simp)).1) (by exact AdJ) ?_;intro wf hc1 ho1 hs1;have HF:=η (And.intro hc1 ho1);clear hc1 ho1 hs1))
  exact bodyPost_ret (v:=ocV (drp 21) none 0) (AbX AbW rfl _ _ rv (ocC (drp 21) none 0) rfl HF.o.1 rfl) rfl ⟨none,0,rfl,OwnB.nil_ _ _,(K4.o.fin (T:=73) (g:=rv) (cs:=zOc) (by simp) HF.o.2).up (by omega) (by omega)⟩
 have d1:decide ((r.length:Int)<20)=false:=decide_eq_false (by omega)
 obtain ⟨⟨bb,be⟩,HRT⟩:∃ z,Hid (CfY k.s q cl i.h.a i.h.b (AfV now k.p.life) (r.take 20)=z):=⟨_,η rfl⟩
 have HU2:Hid (u=if be≠0 then drp be else mdo bb):=η (by
  have eq:q=(newR k.s).1:=by rw [HNW.o]
  rw [←HU.o]
  exact EnV (p:=i.pl) (b:=(bb,be)) hs (by omega) (by rw [←eq];exact HRT.o))
 have h20':20≤r.length:=by omega
 clear hs h20
 have hcr:r.length≤rc∧rc≤maxLen:=(K3.o.my.row (RA,r.length,rc,r) (by simp)).cap
 have HQ1:Hid (∀ W:World,(Instr.slice 41 (.slice RA r.length rc) none (some (.int .i64 20)) none).run prog W=.ok (.slice (cutA RA rc 0) 20 rc) W):=η (BsZ RA r.length rc 20 (by omega))
 have HR20:Hid (Ra es w3 (cutA RA rc 0) 20 rc (r.take 20)):=η (by
  have z:=(K3.o.my.row (RA,r.length,rc,r) (by simp)).part (i:=0) (j:=20) (d:=rc) (by omega) (by exact h20') ⟨by omega,hcr.2⟩
  exact z)
 have K3':=η (K3.o.cons HR20.o)
 clear hcr
 go_wp2_with fail
 refine wp_region_held_drew (S:=fun w'=>w'.cell? ⟨mi,3,none⟩=some (.int .u64 (k.p.life:Int))∧Ic 46 w' qi i) (by kernel_rfl) ⟨K3.o.my.mb.cell 3,(K3.o.rb (46,qi,i.cells) (by simp)).1⟩ (fun hHeld=>?_)
 (try dsimp only at hHeld)
 have Ω:=η (fun (w:World) (hSw:w.cell? ⟨mi,3,none⟩=some (.int .u64 (k.p.life:Int))∧Ic 46 w qi i)=>an hSw.1 (an (hSw.2.ld AoW) (HQ1.o w)))
 refine tkJ 0 rfl hHeld ?_
 refine tkJ 1 rfl hHeld ?_
 refine tkJ 2 rfl hHeld ?_
 refine tkJ 3 rfl hHeld ?_
 refine tkJ 4 rfl hHeld ?_
 refine tkJ 5 rfl hHeld ?_
 refine tkJ 6 rfl hHeld ?_
 refine tkJ 7 rfl hHeld ?_
 refine tkJ 8 rfl hHeld ?_
 refine tkJ 9 rfl hHeld ?_
 refine tkJ 10 rfl hHeld ?_
 refine tkJ 12 rfl hHeld ?_
 refine tkJ 13 rfl hHeld ?_
 refine rdI 11 rfl (fun K hK=>?_)
 (try simp only [Act.put,rxT,sxT])
 go_simp
 refine (DcY now k.p.life hn HLF.o _).mono ?_
 rintro e w4 ⟨rfl,hw⟩
 subst hw
 (try go_wp2_with fail)
 refine hK.o _ _ hHeld (fun hHeld2=>?_)
 clear hK K
 refine rdI 14 rfl (fun K hK=>?_)
 (try simp only [Act.put,rxT,sxT])
 go_simp
 have K4:=η (K3'.o.step (Below.refl _ _).drew)
 have HI4:Hid (i.aw es w3.drew):=η ⟨K4.o.my.row (i.h.A,i.h.a.length,i.h.c,i.h.a) (by simp),K4.o.my.row (i.h.B,i.h.b.length,i.h.d,i.h.b) (by simp),K4.o.my.row (i.T,i.t.length,i.e,i.t) (by simp),K4.o.my.row (i.R,i.r.length,i.g,i.r) (by simp),HI.o.v32⟩
 refine (DiJ v x A c es N F mi k _ _ (by exact K4.o.my) (by omega) q CA cc cl (by exact K4.o.my.row (CA,cl.length,cc,cl) (by simp)) bc i (by exact HI4.o) (AfV now k.p.life) (by exact CmV hn) (cutA RA rc 0) rc (r.take 20) (by exact K4.o.my.row (cutA RA rc 0,20,rc,r.take 20) (by simp)) (bb,be) (by exact HRT.o)).mono ?_
 rintro e w5 ⟨B5,c5,rfl,ho,hbx⟩
 have O5:=η (ho.base_le K4.o.sz)
 have K5:=η (K4.o.box hbx)
 clear ho hbx
 (try go_wp2_with fail)
 refine hK.o _ _ ⟨K5.o.my.mb.cell 3,(K5.o.rb (46,qi,i.cells) (by simp)).1⟩ (fun hHeld=>?_)
 clear hK K
 refine tkJ 15 rfl hHeld ?_
 refine tkJ 16 rfl hHeld ?_
 refine tkJ 17 rfl hHeld ?_
 refine tkJ 18 rfl hHeld ?_
 refine tkJ 19 rfl hHeld ?_
 (try simp only [Act.put,rxT,sxT])
 refine wpAnyH_done (by kernel_rfl) ?_ _
 by_cases hE:be=0
 rotate_left
 ·have d2:(be != 0)=true:=by simpa using hE
  have eu:u=drp be:=by rw [HU2.o,if_pos hE]
  subst eu;clear hE;go_wp2_with fail;refine (ApY be w5).mono ?_;rintro e w6 ⟨rfl,hb⟩;have K6:=η (K5.o.step hb);clear hb
  go_wp2_with (first
   | (refine AaV AbW rfl (.tmp 10) (.tmp 51) rfl rv rfl (drp be) none 0 (ocV (drp be) none 0) rfl (by exact rfl) _ (by exact (K6.o.rb (73,rv,zOc) (by simp)).1) (by exact AdJ) ?_;intro wf hc1 ho1 hs1;have HF:=η (And.intro hc1 ho1);clear hc1 ho1 hs1))
  exact bodyPost_ret (v:=ocV (drp be) none 0) (AbX AbW rfl _ _ rv (ocC (drp be) none 0) rfl HF.o.1 rfl) rfl ⟨none,0,rfl,OwnB.nil_ _ _,(K6.o.fin (T:=73) (g:=rv) (cs:=zOc) (by simp) HF.o.2).up (by omega) (by omega)⟩
 have d2:(be != 0)=false:=by rw [hE];rfl
 have eu:u=mdo bb:=by rw [HU2.o,if_neg (by rw [hE];decide)]
 subst eu
 clear hE
 go_wp2_with (first
  | (refine AaV AbW rfl (.tmp 10) (.tmp 53) rfl rv rfl (mdo bb) B5 c5 (.agg #[.int .i64 1,.bool false,.int .i64 0,.slice B5 bb.length c5,.int .i64 20]) rfl (by exact EsX _ _ _) _ (by exact (K5.o.rb (73,rv,zOc) (by simp)).1) (by exact AdJ) ?_;intro wf hc1 ho1 hs1;have HF:=η (And.intro hc1 ho1);clear hc1 ho1 hs1))
 exact bodyPost_ret (v:=ocV (mdo bb) B5 c5) (AbX AbW rfl _ _ rv (ocC (mdo bb) B5 c5) rfl HF.o.1 rfl) rfl ⟨B5,c5,rfl,(O5.o).offS HF.o.2 ((show Blk 73 _ rv zOc from (K5.o.rb (73,rv,zOc) (by simp)).1).nob (by decide)),(K5.o.fin (T:=73) (g:=rv) (cs:=zOc) (by simp) HF.o.2).up (by omega) (by omega)⟩
theorem own_seq {t:YB}:BbW t=!(seqT t).2:=by
 unfold BbW seqT
 by_cases h:t≠[]∧fstT t<128
 ·rw [if_pos h]
  exact decide_eq_false (fun g=>by rcases g with g | g;exact h.1 g;omega)
 ·rw [if_neg h]
  refine decide_eq_true ?_;by_cases h0:t=[]
  ·exact .inl h0
  ·exact .inr (by
    apply Classical.byContradiction
    intro g
    exact h ⟨h0,by omega⟩)
theorem DdQ (v:World) (x:Nat) (A:YA) (c:Nat) (es:Ens) (N F mi:Nat) (k:Ms) (rows:List Rw) (w:World) (h:MY v x A c es N F mi k rows w) (hN:N+2≤1000000000) (hF:F+1≤1000000000) (CA:YA) (cc:Nat) (cl:YB) (hc:Ra es w CA cl.length cc cl) (bc:cl.length≤1000) (i:In) (hi:i.aw es w) (bt:i.t.length≤1000) (now:Nat) (hn:now<2 ^ 64) (RA:YA) (rc:Nat) (r:YB) (hr:Ra es w RA r.length rc r) (br:r.length≤1000) (u:Oc) (hu:outM k cl i.pl now r=u) :
  Calls prog 52 #[.pointer (some ⟨mi,0,none⟩),.slice CA cl.length cc,i.val,.int .u64 (now:Int),.slice RA r.length rc] w (RetOc u es (N+2) (F+1) w):=by
 obtain ⟨a,HA⟩:∃ a,Hid (AbQ k=a):=⟨_,η rfl⟩
 obtain ⟨⟨z,nm⟩,HSQ⟩:∃ z,Hid (seqT i.t=z):=⟨_,η rfl⟩
 have K0:=η ((KY.start h).cons hr |>.cons hc |>.cons hi.a |>.cons hi.b |>.cons hi.t |>.cons hi.r)
 have HI:=η hi
 have HU:Hid ((if (!nm)=true then (if a then AcJ k.s k.p.life cl i.pl now r else fwd false) else if (!a && k.p.sh)=true then fwd false else if (AdQ k.s cl i.t now).2=0 then fwd true else if (!a)=true∨(AdQ k.s cl i.t now).2=13 then drp (AdQ k.s cl i.t now).2 else AcJ k.s k.p.life cl i.pl now r)=u):=η (by
  rw [←hu]
  unfold outM
  rw [show i.pl.2.1=i.t from rfl,own_seq,HSQ.o,HA.o])
 clear h hc hi hr hu
 go_enter func52,ntmps52
 go_wp2_with (first
  | (refine AgV rfl _ (.tmp 2) rfl i rfl ?_;intro w1 qi hc1 hb1 hx1;have K1:=η (K0.o.new hb1 hc1.blk hx1);clear hc1 hb1 hx1)
  | (refine atd 10 rfl ?_;refine AbJ AbW rfl rfl ?_;intro w2 rv hc1 hb1 hx1;have K2:=η (K1.o.new hb1 hc1 hx1);have HP:=η (And.intro hx1 hc1);clear hc1 hb1 hx1))
 refine (AfW mi x k w2 (by exact K2.o.my.mb) a HA.o).mono ?_
 rintro e w3 ⟨rfl,hb⟩
 have K3:=η (K2.o.step hb)
 clear hb
 have q4:w3.cell? ⟨qi,4,none⟩=some (.slice i.T i.t.length i.e):=(show Ic _ w3 qi i from (K3.o.rb (46,qi,i.cells) (by simp)).1).c4
 go_wp2_with fail
 refine (CwJ i.T i.t.length i.e i.t w3 (by exact (K3.o.my.row (i.T,i.t.length,i.e,i.t) (by simp)).rb) (by omega) z nm HSQ.o).mono ?_
 rintro e w4 ⟨rfl,rfl⟩
 rcases nm with _ | _
 ·rcases a with _ | _
  ·have eu:u=fwd false:=HU.o.symm
   subst eu
   go_wp2_with (first
    | (refine AaV AbW rfl (.tmp 10) (.tmp 51) rfl rv rfl (fwd false) none 0 (.agg #[.int .i64 0,.bool false,.int .i64 0,.slice none 0 0,.int .i64 0]) rfl (by exact AyW _) _ (by exact (K3.o.rb (73,rv,zOc) (by simp)).1) (by exact AdJ) ?_;intro wf hc1 ho1 hs1;have HF:=η (And.intro hc1 ho1);clear hc1 ho1 hs1))
   exact bodyPost_ret (v:=ocV (fwd false) none 0) (AbX AbW rfl _ _ rv (ocC (fwd false) none 0) rfl HF.o.1 rfl) rfl ⟨none,0,rfl,OwnB.nil_ _ _,(K3.o.fin (T:=73) (g:=rv) (cs:=zOc) (by simp) HF.o.2).up (by omega) (by omega)⟩
  ·have HU2:Hid (AcJ k.s k.p.life cl i.pl now r=u):=η HU.o
   clear q4;have HIA:Hid (i.aw es w3):=η ⟨K3.o.my.row (i.h.A,i.h.a.length,i.h.c,i.h.a) (by simp),K3.o.my.row (i.h.B,i.h.b.length,i.h.d,i.h.b) (by simp),K3.o.my.row (i.T,i.t.length,i.e,i.t) (by simp),K3.o.my.row (i.R,i.r.length,i.g,i.r) (by simp),HI.o.v32⟩
   go_wp2_with (first
    | (refine atd 33 rfl ?_;refine AgJ AoW rfl (.tmp 7) rfl qi rfl i (by exact Ic.of (K3.o.rb (46,qi,i.cells) (by simp)).1) ?_))
   refine (BfK v x A c es (N) (F) mi k _ w3 (by exact K3.o.my) (by omega) CA cc cl (by exact K3.o.my.row (CA,cl.length,cc,cl) (by simp)) bc i (by exact HIA.o) bt now hn RA rc r (by exact K3.o.my.row (RA,r.length,rc,r) (by simp)) br u (by exact HU2.o)).mono ?_;rintro e w8 ⟨B8,c8,rfl,ho,hbx⟩;have O8:=η (ho.base_le K3.o.sz);have K8:=η (K3.o.box hbx);clear ho hbx
   go_wp2_with (first
    | (refine AaV AbW rfl (.tmp 10) (.tmp 36) rfl rv rfl (u) B8 c8 (ocV (u) B8 c8) rfl (by exact rfl) _ (by exact (K8.o.rb (73,rv,zOc) (by simp)).1) (by exact AdJ) ?_;intro wf hc1 ho1 hs1;have HF:=η (And.intro hc1 ho1);clear hc1 ho1 hs1))
   exact bodyPost_ret (v:=ocV (u) B8 c8) (AbX AbW rfl _ _ rv (ocC (u) B8 c8) rfl HF.o.1 rfl) rfl ⟨B8,c8,rfl,(O8.o).offS HF.o.2 ((show Blk 73 _ rv zOc from (K8.o.rb (73,rv,zOc) (by simp)).1).nob (by decide)),(K8.o.fin (T:=73) (g:=rv) (cs:=zOc) (by simp) HF.o.2).up (by omega) (by omega)⟩
 obtain ⟨⟨TT,E⟩,HO⟩:∃ z,Hid (AdQ k.s cl i.t now=z):=⟨_,η rfl⟩
 rcases a with _ | _
 ·cases hsh:k.p.sh
  rotate_left
  ·have eu:u=fwd false:=by rw [←HU.o,if_neg (show ¬((!true)=true) by decide),if_pos (show (!false && k.p.sh)=true by rw [hsh];rfl)]
   have q1:w3.cell? ⟨mi,1,none⟩=some (.bool true):=by have z:=K3.o.my.mb.cell 1;rw [←hsh];exact z
   subst eu;clear hsh
   go_wp2_with (first
    | (refine AaV AbW rfl (.tmp 10) (.tmp 51) rfl rv rfl (fwd false) none 0 (.agg #[.int .i64 0,.bool false,.int .i64 0,.slice none 0 0,.int .i64 0]) rfl (by exact AyW _) _ (by exact (K3.o.rb (73,rv,zOc) (by simp)).1) (by exact AdJ) ?_;intro wf hc1 ho1 hs1;have HF:=η (And.intro hc1 ho1);clear hc1 ho1 hs1))
   exact bodyPost_ret (v:=ocV (fwd false) none 0) (AbX AbW rfl _ _ rv (ocC (fwd false) none 0) rfl HF.o.1 rfl) rfl ⟨none,0,rfl,OwnB.nil_ _ _,(K3.o.fin (T:=73) (g:=rv) (cs:=zOc) (by simp) HF.o.2).up (by omega) (by omega)⟩
  have q1:w3.cell? ⟨mi,1,none⟩=some (.bool false):=by have z:=K3.o.my.mb.cell 1;rw [←hsh];exact z
  have HUO:Hid ((if E=0 then fwd true else if (!false)=true∨E=13 then drp E else AcJ k.s k.p.life cl i.pl now r)=u):=η (by
   rw [←HU.o,if_neg (show ¬((!true)=true) by decide),if_neg (show ¬((!false && k.p.sh)=true) by rw [hsh];decide),HO.o])
  clear hsh;go_wp2_with fail;refine wp_region_held_drew (S:=fun w'=>w'.cell? ⟨mi,6,none⟩=some (.pointer (some ⟨x,0,none⟩))∧w'.cell? ⟨qi,4,none⟩=some (.slice i.T i.t.length i.e)) (by kernel_rfl) ⟨K3.o.c6,q4⟩ (fun hHeld=>?_);(try dsimp only at hHeld);have Ω:=η (fun (w:World) (hSw:w.cell? ⟨mi,6,none⟩=some (.pointer (some ⟨x,0,none⟩))∧w.cell? ⟨qi,4,none⟩=some (.slice i.T i.t.length i.e))=>an hSw.1 hSw.2);refine tkJ 0 rfl hHeld ?_;refine tkJ 1 rfl hHeld ?_;refine tkJ 2 rfl hHeld ?_;refine tkJ 3 rfl hHeld ?_;refine tkJ 4 rfl hHeld ?_;refine tkJ 5 rfl hHeld ?_;refine tkJ 6 rfl hHeld ?_;refine tkJ 7 rfl hHeld ?_;(try simp only [Act.put,rxT,sxT]);have K4:=η (K3.o.step (Below.refl _ _).drew);refine wpAnyH_ready (rs:=[8,12]) (by kernel_rfl) (by simp) ?_;refine AllReadyH.cons rfl (fun K hK=>?b8) (AllReadyH.cons rfl (fun K hK=>?b12) AllReadyH.nil)
  case b8 =>
   (try simp only [rxT]);go_simp;refine (AxK (K4.o.my) (by omega) (by omega) CA i.T cl.length cc i.t.length i.e cl i.t (by exact (K4.o.my.row (CA,cl.length,cc,cl) (by simp)).rb) (by exact K4.o.my.row (i.T,i.t.length,i.e,i.t) (by simp)) (by omega) (by omega) now TT E HO.o).mono ?_;rintro e w5 ⟨f,rfl,_,_,hbx⟩;have K5:=η (K4.o.box hbx);clear hbx;(try go_wp2_with fail);refine hK.o _ _ ⟨K5.o.c6,(show Ic _ w5 qi i from (K5.o.rb (46,qi,i.cells) (by simp)).1).c4⟩ (fun hHeld=>?_);clear hK K;refine tkJ 9 rfl hHeld ?_;refine tkJ 10 rfl hHeld ?_;refine tkJ 11 rfl hHeld ?_;refine rdI 12 rfl (fun K hK=>?_);(try simp only [Act.put,rxT,sxT]);rw [if_pos (by rfl)];refine AdY AfX rfl ?_;intro w6 p hc1 hb1 hx1;have K6:=η (K5.o.new hb1 hc1 hx1);clear hc1 hb1 hx1;refine hK.o _ _ ⟨K6.o.c6,(show Ic _ w6 qi i from (K6.o.rb (46,qi,i.cells) (by simp)).1).c4⟩ (fun hHeld=>?_);clear hK K;(try simp only [Act.put,rxT,sxT]);have qs:=(show Fc 77 w6 p zeroF from (K6.o.rb (77,p,zeroF.cells) (by simp)).1).st AfX f;refine rdI 13 rfl (fun K hK=>?_);(try simp only [rxT]);go_simp;have hos:Oth [p] w6 (w6.setCells p 0 f.cells):=AcK p _ _ _ _ (Oth.refl _ _)
   have K7:=η (K6.o.put (recs':=[(73,rv,zOc),(46,qi,i.cells)]) (T:=77) (g:=p) (cs:=zeroF.cells) (by simp) hos zF_nb (by decide) (by decide) (by decide) (fun r hr=>by
    simp only [List.mem_cons,List.not_mem_nil,or_false] at hr
    rcases hr with rfl | rfl
    ·exact ⟨by simp,(show Blk 73 _ rv zOc from (K6.o.rb (73,rv,zOc) (by simp)).1).far (show Blk 77 _ p zeroF.cells from (K6.o.rb (77,p,zeroF.cells) (by simp)).1) (by decide)⟩
    ·exact ⟨by simp,(show Blk 46 _ qi i.cells from (K6.o.rb (46,qi,i.cells) (by simp)).1).far (show Blk 77 _ p zeroF.cells from (K6.o.rb (77,p,zeroF.cells) (by simp)).1) (by decide)⟩))
   clear hos qs;generalize w6.setCells p 0 f.cells=w7 at K7 ⊢;refine hK.o _ _ ⟨K7.o.c6,(show Ic _ w7 qi i from (K7.o.rb (46,qi,i.cells) (by simp)).1).c4⟩ (fun hHeld=>?_);clear hK K;refine tkJ 14 rfl hHeld ?_;(try simp only [Act.put,rxT,sxT]);refine wpAnyH_done (by kernel_rfl) ?_ _;by_cases hE:E=0
   ·have d1:(E == 0)=true:=by simpa using hE
    have eu:u=fwd true:=by rw [←HUO.o,if_pos hE]
    subst eu;clear hE
    go_wp2_with (first
     | (refine AaV AbW rfl (.tmp 10) (.tmp 66) rfl rv rfl (fwd true) none 0 (.agg #[.int .i64 0,.bool true,.int .i64 0,.slice none 0 0,.int .i64 0]) rfl (by exact AyW _) _ (by exact (K7.o.rb (73,rv,zOc) (by simp)).1) (by exact AdJ) ?_;intro wf hc1 ho1 hs1;have HF:=η (And.intro hc1 ho1);clear hc1 ho1 hs1))
    exact bodyPost_ret (v:=ocV (fwd true) none 0) (AbX AbW rfl _ _ rv (ocC (fwd true) none 0) rfl HF.o.1 rfl) rfl ⟨none,0,rfl,OwnB.nil_ _ _,(K7.o.fin (T:=73) (g:=rv) (cs:=zOc) (by simp) HF.o.2).up (by omega) (by omega)⟩
   have d1:(E == 0)=false:=by simpa using hE
   have eu:u=drp E:=by rw [←HUO.o,if_neg hE,if_pos (show (!false)=true∨E=13 from .inl rfl)]
   subst eu;clear hE;go_wp2_with fail;refine (ApY E w7).mono ?_;rintro e w8 ⟨rfl,hb⟩;have K8:=η (K7.o.step hb);clear hb
   go_wp2_with (first
    | (refine AaV AbW rfl (.tmp 10) (.tmp 74) rfl rv rfl (drp E) none 0 (ocV (drp E) none 0) rfl (by exact rfl) _ (by exact (K8.o.rb (73,rv,zOc) (by simp)).1) (by exact AdJ) ?_;intro wf hc1 ho1 hs1;have HF:=η (And.intro hc1 ho1);clear hc1 ho1 hs1))
   exact bodyPost_ret (v:=ocV (drp E) none 0) (AbX AbW rfl _ _ rv (ocC (drp E) none 0) rfl HF.o.1 rfl) rfl ⟨none,0,rfl,OwnB.nil_ _ _,(K8.o.fin (T:=73) (g:=rv) (cs:=zOc) (by simp) HF.o.2).up (by omega) (by omega)⟩
  case b12 =>
   (try simp only [rxT]);rw [if_pos (by rfl)];refine AdY AfX rfl ?_;intro w6 p hc1 hb1 hx1;have K6:=η (K4.o.new hb1 hc1 hx1);clear hc1 hb1 hx1;refine hK.o _ _ ⟨K6.o.c6,(show Ic _ w6 qi i from (K6.o.rb (46,qi,i.cells) (by simp)).1).c4⟩ (fun hHeld=>?_);clear hK K;refine rdI 8 rfl (fun K hK=>?_);(try simp only [Act.put,rxT,sxT]);go_simp;refine (AxK (K6.o.my) (by omega) (by omega) CA i.T cl.length cc i.t.length i.e cl i.t (by exact (K6.o.my.row (CA,cl.length,cc,cl) (by simp)).rb) (by exact K6.o.my.row (i.T,i.t.length,i.e,i.t) (by simp)) (by omega) (by omega) now TT E HO.o).mono ?_;rintro e w5 ⟨f,rfl,_,_,hbx⟩;have K5:=η (K6.o.box hbx);clear hbx;(try go_wp2_with fail);refine hK.o _ _ ⟨K5.o.c6,(show Ic _ w5 qi i from (K5.o.rb (46,qi,i.cells) (by simp)).1).c4⟩ (fun hHeld=>?_);clear hK K;refine tkJ 9 rfl hHeld ?_;refine tkJ 10 rfl hHeld ?_;refine tkJ 11 rfl hHeld ?_;(try simp only [Act.put,rxT,sxT]);have qs:=(show Fc 77 w5 p zeroF from (K5.o.rb (77,p,zeroF.cells) (by simp)).1).st AfX f;refine rdI 13 rfl (fun K hK=>?_);(try simp only [rxT]);go_simp;have hos:Oth [p] w5 (w5.setCells p 0 f.cells):=AcK p _ _ _ _ (Oth.refl _ _)
   have K7:=η (K5.o.put (recs':=[(73,rv,zOc),(46,qi,i.cells)]) (T:=77) (g:=p) (cs:=zeroF.cells) (by simp) hos zF_nb (by decide) (by decide) (by decide) (fun r hr=>by
    simp only [List.mem_cons,List.not_mem_nil,or_false] at hr
    rcases hr with rfl | rfl
    ·exact ⟨by simp,(show Blk 73 _ rv zOc from (K5.o.rb (73,rv,zOc) (by simp)).1).far (show Blk 77 _ p zeroF.cells from (K5.o.rb (77,p,zeroF.cells) (by simp)).1) (by decide)⟩
    ·exact ⟨by simp,(show Blk 46 _ qi i.cells from (K5.o.rb (46,qi,i.cells) (by simp)).1).far (show Blk 77 _ p zeroF.cells from (K5.o.rb (77,p,zeroF.cells) (by simp)).1) (by decide)⟩))
   clear hos qs;generalize w5.setCells p 0 f.cells=w7 at K7 ⊢;refine hK.o _ _ ⟨K7.o.c6,(show Ic _ w7 qi i from (K7.o.rb (46,qi,i.cells) (by simp)).1).c4⟩ (fun hHeld=>?_);clear hK K;refine tkJ 14 rfl hHeld ?_;(try simp only [Act.put,rxT,sxT]);refine wpAnyH_done (by kernel_rfl) ?_ _;by_cases hE:E=0
   ·have d1:(E == 0)=true:=by simpa using hE
    have eu:u=fwd true:=by rw [←HUO.o,if_pos hE]
    subst eu;clear hE
    go_wp2_with (first
     | (refine AaV AbW rfl (.tmp 10) (.tmp 66) rfl rv rfl (fwd true) none 0 (.agg #[.int .i64 0,.bool true,.int .i64 0,.slice none 0 0,.int .i64 0]) rfl (by exact AyW _) _ (by exact (K7.o.rb (73,rv,zOc) (by simp)).1) (by exact AdJ) ?_;intro wf hc1 ho1 hs1;have HF:=η (And.intro hc1 ho1);clear hc1 ho1 hs1))
    exact bodyPost_ret (v:=ocV (fwd true) none 0) (AbX AbW rfl _ _ rv (ocC (fwd true) none 0) rfl HF.o.1 rfl) rfl ⟨none,0,rfl,OwnB.nil_ _ _,(K7.o.fin (T:=73) (g:=rv) (cs:=zOc) (by simp) HF.o.2).up (by omega) (by omega)⟩
   have d1:(E == 0)=false:=by simpa using hE
   have eu:u=drp E:=by rw [←HUO.o,if_neg hE,if_pos (show (!false)=true∨E=13 from .inl rfl)]
   subst eu;clear hE;go_wp2_with fail;refine (ApY E w7).mono ?_;rintro e w8 ⟨rfl,hb⟩;have K8:=η (K7.o.step hb);clear hb
   go_wp2_with (first
    | (refine AaV AbW rfl (.tmp 10) (.tmp 74) rfl rv rfl (drp E) none 0 (ocV (drp E) none 0) rfl (by exact rfl) _ (by exact (K8.o.rb (73,rv,zOc) (by simp)).1) (by exact AdJ) ?_;intro wf hc1 ho1 hs1;have HF:=η (And.intro hc1 ho1);clear hc1 ho1 hs1))
   exact bodyPost_ret (v:=ocV (drp E) none 0) (AbX AbW rfl _ _ rv (ocC (drp E) none 0) rfl HF.o.1 rfl) rfl ⟨none,0,rfl,OwnB.nil_ _ _,(K8.o.fin (T:=73) (g:=rv) (cs:=zOc) (by simp) HF.o.2).up (by omega) (by omega)⟩
 ·have HUO:Hid ((if E=0 then fwd true else if (!true)=true∨E=13 then drp E else AcJ k.s k.p.life cl i.pl now r)=u):=η (by
   rw [←HU.o,if_neg (show ¬((!true)=true) by decide),if_neg (show ¬((!true && k.p.sh)=true) by simp),HO.o])
  go_wp2_with fail;refine wp_region_held_drew (S:=fun w'=>w'.cell? ⟨mi,6,none⟩=some (.pointer (some ⟨x,0,none⟩))∧w'.cell? ⟨qi,4,none⟩=some (.slice i.T i.t.length i.e)) (by kernel_rfl) ⟨K3.o.c6,q4⟩ (fun hHeld=>?_);(try dsimp only at hHeld);have Ω:=η (fun (w:World) (hSw:w.cell? ⟨mi,6,none⟩=some (.pointer (some ⟨x,0,none⟩))∧w.cell? ⟨qi,4,none⟩=some (.slice i.T i.t.length i.e))=>an hSw.1 hSw.2);refine tkJ 0 rfl hHeld ?_;refine tkJ 1 rfl hHeld ?_;refine tkJ 2 rfl hHeld ?_;refine tkJ 3 rfl hHeld ?_;refine tkJ 4 rfl hHeld ?_;refine tkJ 5 rfl hHeld ?_;refine tkJ 6 rfl hHeld ?_;refine tkJ 7 rfl hHeld ?_;(try simp only [Act.put,rxT,sxT]);have K4:=η (K3.o.step (Below.refl _ _).drew);refine wpAnyH_ready (rs:=[8,12]) (by kernel_rfl) (by simp) ?_;refine AllReadyH.cons rfl (fun K hK=>?b8) (AllReadyH.cons rfl (fun K hK=>?b12) AllReadyH.nil)
  case b8 =>
   (try simp only [rxT]);go_simp;refine (AxK (K4.o.my) (by omega) (by omega) CA i.T cl.length cc i.t.length i.e cl i.t (by exact (K4.o.my.row (CA,cl.length,cc,cl) (by simp)).rb) (by exact K4.o.my.row (i.T,i.t.length,i.e,i.t) (by simp)) (by omega) (by omega) now TT E HO.o).mono ?_;rintro e w5 ⟨f,rfl,_,_,hbx⟩;have K5:=η (K4.o.box hbx);clear hbx;(try go_wp2_with fail);refine hK.o _ _ ⟨K5.o.c6,(show Ic _ w5 qi i from (K5.o.rb (46,qi,i.cells) (by simp)).1).c4⟩ (fun hHeld=>?_);clear hK K;refine tkJ 9 rfl hHeld ?_;refine tkJ 10 rfl hHeld ?_;refine tkJ 11 rfl hHeld ?_;refine rdI 12 rfl (fun K hK=>?_);(try simp only [Act.put,rxT,sxT]);rw [if_pos (by rfl)];refine AdY AfX rfl ?_;intro w6 p hc1 hb1 hx1;have K6:=η (K5.o.new hb1 hc1 hx1);clear hc1 hb1 hx1;refine hK.o _ _ ⟨K6.o.c6,(show Ic _ w6 qi i from (K6.o.rb (46,qi,i.cells) (by simp)).1).c4⟩ (fun hHeld=>?_);clear hK K;(try simp only [Act.put,rxT,sxT]);have qs:=(show Fc 77 w6 p zeroF from (K6.o.rb (77,p,zeroF.cells) (by simp)).1).st AfX f;refine rdI 13 rfl (fun K hK=>?_);(try simp only [rxT]);go_simp;have hos:Oth [p] w6 (w6.setCells p 0 f.cells):=AcK p _ _ _ _ (Oth.refl _ _)
   have K7:=η (K6.o.put (recs':=[(73,rv,zOc),(46,qi,i.cells)]) (T:=77) (g:=p) (cs:=zeroF.cells) (by simp) hos zF_nb (by decide) (by decide) (by decide) (fun r hr=>by
    simp only [List.mem_cons,List.not_mem_nil,or_false] at hr
    rcases hr with rfl | rfl
    ·exact ⟨by simp,(show Blk 73 _ rv zOc from (K6.o.rb (73,rv,zOc) (by simp)).1).far (show Blk 77 _ p zeroF.cells from (K6.o.rb (77,p,zeroF.cells) (by simp)).1) (by decide)⟩
    ·exact ⟨by simp,(show Blk 46 _ qi i.cells from (K6.o.rb (46,qi,i.cells) (by simp)).1).far (show Blk 77 _ p zeroF.cells from (K6.o.rb (77,p,zeroF.cells) (by simp)).1) (by decide)⟩))
   clear hos qs;generalize w6.setCells p 0 f.cells=w7 at K7 ⊢;refine hK.o _ _ ⟨K7.o.c6,(show Ic _ w7 qi i from (K7.o.rb (46,qi,i.cells) (by simp)).1).c4⟩ (fun hHeld=>?_);clear hK K;refine tkJ 14 rfl hHeld ?_;(try simp only [Act.put,rxT,sxT]);refine wpAnyH_done (by kernel_rfl) ?_ _;by_cases hE:E=0
   ·have d1:(E == 0)=true:=by simpa using hE
    have eu:u=fwd true:=by rw [←HUO.o,if_pos hE]
    subst eu;clear hE
    go_wp2_with (first
     | (refine AaV AbW rfl (.tmp 10) (.tmp 66) rfl rv rfl (fwd true) none 0 (.agg #[.int .i64 0,.bool true,.int .i64 0,.slice none 0 0,.int .i64 0]) rfl (by exact AyW _) _ (by exact (K7.o.rb (73,rv,zOc) (by simp)).1) (by exact AdJ) ?_;intro wf hc1 ho1 hs1;have HF:=η (And.intro hc1 ho1);clear hc1 ho1 hs1))
    exact bodyPost_ret (v:=ocV (fwd true) none 0) (AbX AbW rfl _ _ rv (ocC (fwd true) none 0) rfl HF.o.1 rfl) rfl ⟨none,0,rfl,OwnB.nil_ _ _,(K7.o.fin (T:=73) (g:=rv) (cs:=zOc) (by simp) HF.o.2).up (by omega) (by omega)⟩
   have d1:(E == 0)=false:=by simpa using hE
   by_cases h13:E=13
   ·have d2:(E == 13)=true:=by simpa using h13
    have eu:u=drp E:=by rw [←HUO.o,if_neg hE,if_pos (show (!true)=true∨E=13 from .inr h13)]
    subst eu;clear hE h13;go_wp2_with fail;refine (ApY E w7).mono ?_;rintro e w8 ⟨rfl,hb⟩;have K8:=η (K7.o.step hb);clear hb
    go_wp2_with (first
     | (refine AaV AbW rfl (.tmp 10) (.tmp 74) rfl rv rfl (drp E) none 0 (ocV (drp E) none 0) rfl (by exact rfl) _ (by exact (K8.o.rb (73,rv,zOc) (by simp)).1) (by exact AdJ) ?_;intro wf hc1 ho1 hs1;have HF:=η (And.intro hc1 ho1);clear hc1 ho1 hs1))
    exact bodyPost_ret (v:=ocV (drp E) none 0) (AbX AbW rfl _ _ rv (ocC (drp E) none 0) rfl HF.o.1 rfl) rfl ⟨none,0,rfl,OwnB.nil_ _ _,(K8.o.fin (T:=73) (g:=rv) (cs:=zOc) (by simp) HF.o.2).up (by omega) (by omega)⟩
   have d2:(E == 13)=false:=by simpa using h13
   have HU2:Hid (AcJ k.s k.p.life cl i.pl now r=u):=η (by rw [←HUO.o,if_neg hE,if_neg (show ¬((!true)=true∨E=13) by rintro (g | g);exact absurd g (by decide);exact h13 g)]);clear hE h13;have HIA:Hid (i.aw es w7):=η ⟨K7.o.my.row (i.h.A,i.h.a.length,i.h.c,i.h.a) (by simp),K7.o.my.row (i.h.B,i.h.b.length,i.h.d,i.h.b) (by simp),K7.o.my.row (i.T,i.t.length,i.e,i.t) (by simp),K7.o.my.row (i.R,i.r.length,i.g,i.r) (by simp),HI.o.v32⟩
   go_wp2_with (first
    | (refine atd 77 rfl ?_;refine AgJ AoW rfl (.tmp 7) rfl qi rfl i (by exact Ic.of (K7.o.rb (46,qi,i.cells) (by simp)).1) ?_))
   refine (BfK v x A c es (N+1) (F+1) mi k _ w7 (by exact K7.o.my) (by omega) CA cc cl (by exact K7.o.my.row (CA,cl.length,cc,cl) (by simp)) bc i (by exact HIA.o) bt now hn RA rc r (by exact K7.o.my.row (RA,r.length,rc,r) (by simp)) br u (by exact HU2.o)).mono ?_;rintro e w8 ⟨B8,c8,rfl,ho,hbx⟩;have O8:=η (ho.base_le K7.o.sz);have K8:=η (K7.o.box hbx);clear ho hbx
   go_wp2_with (first
    | (refine AaV AbW rfl (.tmp 10) (.tmp 80) rfl rv rfl (u) B8 c8 (ocV (u) B8 c8) rfl (by exact rfl) _ (by exact (K8.o.rb (73,rv,zOc) (by simp)).1) (by exact AdJ) ?_;intro wf hc1 ho1 hs1;have HF:=η (And.intro hc1 ho1);clear hc1 ho1 hs1))
   exact bodyPost_ret (v:=ocV (u) B8 c8) (AbX AbW rfl _ _ rv (ocC (u) B8 c8) rfl HF.o.1 rfl) rfl ⟨B8,c8,rfl,(O8.o).offS HF.o.2 ((show Blk 73 _ rv zOc from (K8.o.rb (73,rv,zOc) (by simp)).1).nob (by decide)),(K8.o.fin (T:=73) (g:=rv) (cs:=zOc) (by simp) HF.o.2).up (by omega) (by omega)⟩
  case b12 =>
   (try simp only [rxT]);rw [if_pos (by rfl)];refine AdY AfX rfl ?_;intro w6 p hc1 hb1 hx1;have K6:=η (K4.o.new hb1 hc1 hx1);clear hc1 hb1 hx1;refine hK.o _ _ ⟨K6.o.c6,(show Ic _ w6 qi i from (K6.o.rb (46,qi,i.cells) (by simp)).1).c4⟩ (fun hHeld=>?_);clear hK K;refine rdI 8 rfl (fun K hK=>?_);(try simp only [Act.put,rxT,sxT]);go_simp;refine (AxK (K6.o.my) (by omega) (by omega) CA i.T cl.length cc i.t.length i.e cl i.t (by exact (K6.o.my.row (CA,cl.length,cc,cl) (by simp)).rb) (by exact K6.o.my.row (i.T,i.t.length,i.e,i.t) (by simp)) (by omega) (by omega) now TT E HO.o).mono ?_;rintro e w5 ⟨f,rfl,_,_,hbx⟩;have K5:=η (K6.o.box hbx);clear hbx;(try go_wp2_with fail);refine hK.o _ _ ⟨K5.o.c6,(show Ic _ w5 qi i from (K5.o.rb (46,qi,i.cells) (by simp)).1).c4⟩ (fun hHeld=>?_);clear hK K;refine tkJ 9 rfl hHeld ?_;refine tkJ 10 rfl hHeld ?_;refine tkJ 11 rfl hHeld ?_;(try simp only [Act.put,rxT,sxT]);have qs:=(show Fc 77 w5 p zeroF from (K5.o.rb (77,p,zeroF.cells) (by simp)).1).st AfX f;refine rdI 13 rfl (fun K hK=>?_);(try simp only [rxT]);go_simp;have hos:Oth [p] w5 (w5.setCells p 0 f.cells):=AcK p _ _ _ _ (Oth.refl _ _)
   have K7:=η (K5.o.put (recs':=[(73,rv,zOc),(46,qi,i.cells)]) (T:=77) (g:=p) (cs:=zeroF.cells) (by simp) hos zF_nb (by decide) (by decide) (by decide) (fun r hr=>by
    simp only [List.mem_cons,List.not_mem_nil,or_false] at hr
    rcases hr with rfl | rfl
    ·exact ⟨by simp,(show Blk 73 _ rv zOc from (K5.o.rb (73,rv,zOc) (by simp)).1).far (show Blk 77 _ p zeroF.cells from (K5.o.rb (77,p,zeroF.cells) (by simp)).1) (by decide)⟩
    ·exact ⟨by simp,(show Blk 46 _ qi i.cells from (K5.o.rb (46,qi,i.cells) (by simp)).1).far (show Blk 77 _ p zeroF.cells from (K5.o.rb (77,p,zeroF.cells) (by simp)).1) (by decide)⟩))
   clear hos qs;generalize w5.setCells p 0 f.cells=w7 at K7 ⊢;refine hK.o _ _ ⟨K7.o.c6,(show Ic _ w7 qi i from (K7.o.rb (46,qi,i.cells) (by simp)).1).c4⟩ (fun hHeld=>?_);clear hK K;refine tkJ 14 rfl hHeld ?_;(try simp only [Act.put,rxT,sxT]);refine wpAnyH_done (by kernel_rfl) ?_ _;by_cases hE:E=0
   ·have d1:(E == 0)=true:=by simpa using hE
    have eu:u=fwd true:=by rw [←HUO.o,if_pos hE]
    subst eu;clear hE
    go_wp2_with (first
     | (refine AaV AbW rfl (.tmp 10) (.tmp 66) rfl rv rfl (fwd true) none 0 (.agg #[.int .i64 0,.bool true,.int .i64 0,.slice none 0 0,.int .i64 0]) rfl (by exact AyW _) _ (by exact (K7.o.rb (73,rv,zOc) (by simp)).1) (by exact AdJ) ?_;intro wf hc1 ho1 hs1;have HF:=η (And.intro hc1 ho1);clear hc1 ho1 hs1))
    exact bodyPost_ret (v:=ocV (fwd true) none 0) (AbX AbW rfl _ _ rv (ocC (fwd true) none 0) rfl HF.o.1 rfl) rfl ⟨none,0,rfl,OwnB.nil_ _ _,(K7.o.fin (T:=73) (g:=rv) (cs:=zOc) (by simp) HF.o.2).up (by omega) (by omega)⟩
   have d1:(E == 0)=false:=by simpa using hE
   by_cases h13:E=13
   ·have d2:(E == 13)=true:=by simpa using h13
    have eu:u=drp E:=by rw [←HUO.o,if_neg hE,if_pos (show (!true)=true∨E=13 from .inr h13)]
    subst eu;clear hE h13;go_wp2_with fail;refine (ApY E w7).mono ?_;rintro e w8 ⟨rfl,hb⟩;have K8:=η (K7.o.step hb);clear hb
    go_wp2_with (first
     | (refine AaV AbW rfl (.tmp 10) (.tmp 74) rfl rv rfl (drp E) none 0 (ocV (drp E) none 0) rfl (by exact rfl) _ (by exact (K8.o.rb (73,rv,zOc) (by simp)).1) (by exact AdJ) ?_;intro wf hc1 ho1 hs1;have HF:=η (And.intro hc1 ho1);clear hc1 ho1 hs1))
    exact bodyPost_ret (v:=ocV (drp E) none 0) (AbX AbW rfl _ _ rv (ocC (drp E) none 0) rfl HF.o.1 rfl) rfl ⟨none,0,rfl,OwnB.nil_ _ _,(K8.o.fin (T:=73) (g:=rv) (cs:=zOc) (by simp) HF.o.2).up (by omega) (by omega)⟩
   have d2:(E == 13)=false:=by simpa using h13
   have HU2:Hid (AcJ k.s k.p.life cl i.pl now r=u):=η (by rw [←HUO.o,if_neg hE,if_neg (show ¬((!true)=true∨E=13) by rintro (g | g);exact absurd g (by decide);exact h13 g)]);clear hE h13;have HIA:Hid (i.aw es w7):=η ⟨K7.o.my.row (i.h.A,i.h.a.length,i.h.c,i.h.a) (by simp),K7.o.my.row (i.h.B,i.h.b.length,i.h.d,i.h.b) (by simp),K7.o.my.row (i.T,i.t.length,i.e,i.t) (by simp),K7.o.my.row (i.R,i.r.length,i.g,i.r) (by simp),HI.o.v32⟩
   go_wp2_with (first
    | (refine atd 77 rfl ?_;refine AgJ AoW rfl (.tmp 7) rfl qi rfl i (by exact Ic.of (K7.o.rb (46,qi,i.cells) (by simp)).1) ?_))
   refine (BfK v x A c es (N+1) (F+1) mi k _ w7 (by exact K7.o.my) (by omega) CA cc cl (by exact K7.o.my.row (CA,cl.length,cc,cl) (by simp)) bc i (by exact HIA.o) bt now hn RA rc r (by exact K7.o.my.row (RA,r.length,rc,r) (by simp)) br u (by exact HU2.o)).mono ?_;rintro e w8 ⟨B8,c8,rfl,ho,hbx⟩;have O8:=η (ho.base_le K7.o.sz);have K8:=η (K7.o.box hbx);clear ho hbx
   go_wp2_with (first
    | (refine AaV AbW rfl (.tmp 10) (.tmp 80) rfl rv rfl (u) B8 c8 (ocV (u) B8 c8) rfl (by exact rfl) _ (by exact (K8.o.rb (73,rv,zOc) (by simp)).1) (by exact AdJ) ?_;intro wf hc1 ho1 hs1;have HF:=η (And.intro hc1 ho1);clear hc1 ho1 hs1))
   exact bodyPost_ret (v:=ocV (u) B8 c8) (AbX AbW rfl _ _ rv (ocC (u) B8 c8) rfl HF.o.1 rfl) rfl ⟨B8,c8,rfl,(O8.o).offS HF.o.2 ((show Blk 73 _ rv zOc from (K8.o.rb (73,rv,zOc) (by simp)).1).nob (by decide)),(K8.o.fin (T:=73) (g:=rv) (cs:=zOc) (by simp) HF.o.2).up (by omega) (by omega)⟩
