/- Layer 21: Take, New, Clone of a mint, and of the reference's; the statements' comparison of outcomes. Conditions: what is said of the mint; arguments of at most a thousand bytes. -/
import Derived.Test.YthppjgdnibfefaaGreatMiR
set_option linter.unusedVariables false
set_option linter.unusedSimpArgs false
set_option maxRecDepth 100000
set_option maxHeartbeats 32000000
namespace Go.Proofs.YthppjgdnibfefaaGreat
open Go.RowKit
theorem out_kind {k:Ms} {c:List UInt8} {p:IPl} {now:Nat} {r:List UInt8} (ok:okR k.s):(outM k c p now r).k=0∨(outM k c p now r).k=1∨(outM k c p now r).k=2:=by
 rcases out_ways (c:=c) (p:=p) (now:=now) (r:=r) ok with h | h | h
 ·exact .inl h.1
 ·exact .inr (.inl h.1)
 ·exact .inr (.inr h.1)
theorem set_cnt0 {k:Ms} {o:Oc} (x:Nat) (h:o.k=0):(mintC k x).set 7 (.int .i64 (k.f+1))=mintC (cntM k o) x:=by unfold mintC cntM;simp [h]
theorem set_cnt1 {k:Ms} {o:Oc} (x:Nat) (h:o.k=1):(mintC k x).set 8 (.int .i64 (k.m+1))=mintC (cntM k o) x:=by unfold mintC cntM;simp [h]
theorem set_cnt2 {k:Ms} {o:Oc} (x:Nat) (h:o.k=2):(mintC k x).set 9 (.int .i64 (k.d+1))=mintC (cntM k o) x:=by unfold mintC cntM;simp [h]
theorem oc0_ {T:TypeId} {w:World} {p:Nat} {u:Oc} {A:Option Addr} {c:Nat} (h:Blk T w p (ocC u A c)):w.cell? ⟨p,0,none⟩=some (.int .i64 u.k):=h.cell 0
theorem oc1_ {T:TypeId} {w:World} {p:Nat} {u:Oc} {A:Option Addr} {c:Nat} (h:Blk T w p (ocC u A c)):w.cell? ⟨p,1,none⟩=some (.bool u.c):=h.cell 1
theorem oc2_ {T:TypeId} {w:World} {p:Nat} {u:Oc} {A:Option Addr} {c:Nat} (h:Blk T w p (ocC u A c)):w.cell? ⟨p,2,none⟩=some (.int .i64 u.e):=h.cell 2
theorem oc3_ {T:TypeId} {w:World} {p:Nat} {u:Oc} {A:Option Addr} {c:Nat} (h:Blk T w p (ocC u A c)):w.cell? ⟨p,3,none⟩=some (.slice A u.b.length c):=h.cell 3
theorem oc4_ {T:TypeId} {w:World} {p:Nat} {u:Oc} {A:Option Addr} {c:Nat} (h:Blk T w p (ocC u A c)):w.cell? ⟨p,4,none⟩=some (.int .i64 u.u):=h.cell 4
theorem In.ok.off {w w':World} {T:TypeId} {g:Nat} {cs:List Value} {i:In} (h:i.ok w) (hm:Blk T w g cs) (hn:∀ u∈cs,∀ b:UInt8,u≠bv b) (ho:Oth [g] w w'):i.ok w' :=
 ⟨⟨h.h.a.oth ho (fun h0=>hm.not_row hn h.h.a h0),h.h.b.oth ho (fun h0=>hm.not_row hn h.h.b h0),h.h.ca,h.h.cb,h.h.v32⟩,h.t.oth ho (fun h0=>hm.not_row hn h.t h0),h.r.oth ho (fun h0=>hm.not_row hn h.r h0),h.ct,h.cr⟩
structure KZ (w0 v:World) (x:Nat) (A:Option Addr) (c:Nat) (es:Ens) (N F mi:Nat) (k:Ms) (rows:List Rw) (recs:List (TypeId×Nat×List Value)) (w:World):Prop where
 my:MY v x A c es N F mi k rows w
 ot:Oth (mi::esS es) w0 w
 hl:∀ e∈es,e.1.H≤w0.heap.size
 vs:v.heap.size≤w0.heap.size
 ml:mi<w0.heap.size
 rb:∀ r∈recs,Blk r.1 w r.2.1 r.2.2∧w0.heap.size≤r.2.1
section
variable {w0 v w w1 w':World} {x c N F N' F' mi n d g:Nat} {A B:Option Addr} {es:Ens} {k k':Ms} {rows rows':List Rw} {recs recs':List (TypeId×Nat×List Value)} {l:List UInt8} {T:TypeId} {cs:List Value}
theorem KZ.start (h:MY v x A c es N F mi k rows w):KZ w v x A c es N F mi k rows [] w:=⟨h,Oth.refl _ _,fun e he=>(h.rn.ok e he).1.le,h.bel.size,h.mb.lt,fun r hr=>by cases hr⟩
theorem KZ.step (h:KZ w0 v x A c es N F mi k rows recs w) (hb:Below w.heap.size w w'):KZ w0 v x A c es N F mi k rows recs w':=⟨h.my.step hb,h.ot.trans (Oth.of_below hb),h.hl,h.vs,h.ml,fun r hr=>⟨(h.rb r hr).1.step hb,(h.rb r hr).2⟩⟩
theorem KZ.sz (h:KZ w0 v x A c es N F mi k rows recs w):w0.heap.size≤w.heap.size:=h.ot.size
theorem KZ.new (h:KZ w0 v x A c es N F mi k rows recs w) (hb:Below w.heap.size w w') (hc:Blk T w' g cs) (hg:w.heap.size≤g):KZ w0 v x A c es N F mi k rows ((T,g,cs)::recs) w' :=
 ⟨(h.step hb).my,(h.step hb).ot,h.hl,h.vs,h.ml,fun r hr=>by
  rcases List.mem_cons.1 hr with rfl | hr
  ·exact ⟨hc,Nat.le_trans h.sz hg⟩
  ·exact (h.step hb).rb r hr⟩
theorem KZ.out (h:KZ w0 v x A c es N F mi k rows recs w) (hm:(T,g,cs)∈recs):∀ e∈es,e.1.out g:=fun e he=>.inr (Nat.le_trans (h.hl e he) (h.rb _ hm).2)
theorem KZ.box (h:KZ w0 v x A c es N F mi k rows recs w) (q:RetBx es N' F' w w'):KZ w0 v x A c es N' F' mi k rows recs w' :=
 ⟨h.my.box q,h.ot.trans (q.oth.more (fun g hg=>List.mem_cons_of_mem _ hg)),h.hl,h.vs,h.ml,fun r hr=>⟨(h.rb r hr).1.oth q.oth (h.my.rn.out_es (h.out (T:=r.1) (g:=r.2.1) (cs:=r.2.2) hr)),(h.rb r hr).2⟩⟩
theorem KZ.cons (h:KZ w0 v x A c es N F mi k rows recs w) (hr:Ra es w B n d l):KZ w0 v x A c es N F mi k ((B,n,d,l)::rows) recs w:=⟨h.my.cons hr,h.ot,h.hl,h.vs,h.ml,h.rb⟩
theorem KZ.boxOwn (h:KZ w0 v x A c es N F mi k rows recs w) (q:RetBx es N' F' w w') (ho:OwnB w' w.heap.size B n d l):KZ w0 v x A c es N' F' mi k ((B,n,d,l)::rows) recs w':=⟨(h.my.box q).cons (Ra.own ho h.my.rn),(h.box q).ot,h.hl,h.vs,h.ml,(h.box q).rb⟩
theorem KZ.mint (h:KZ w0 v x A c es N F mi k rows recs w) (ho:Oth [mi] w w') (hb:Blk 71 w' mi (mintC k' x)) (hs:k'.s=k.s) (hp:rightP k'.p=true):KZ w0 v x A c es N F mi k' rows recs w' :=
 ⟨h.my.put ho hb hs hp,h.ot.trans (ho.more (fun g hg=>by rw [List.mem_singleton.1 hg];simp)),h.hl,h.vs,h.ml,fun r hr=>⟨(h.rb r hr).1.oth ho (fun hm=>by have:=(h.rb r hr).2;have:=h.ml;have:=List.mem_singleton.1 hm;omega),(h.rb r hr).2⟩⟩
theorem KZ.put (h:KZ w0 v x A c es N F mi k rows recs w) (hm:(T,g,cs)∈recs) (ho:Oth [g] w w') (hn:∀ u∈cs,∀ b:UInt8,u≠bv b) (h1:T≠71) (h2:T≠133) (h3:T≠130):KZ w0 v x A c es N F mi k rows [] w':=by
 have hb:=(h.rb _ hm).1
 have hg:=(h.rb _ hm).2
 simp only at hb hg
 have hout:=h.out hm
 have nx:x≠g:=fun e=>hb.far h.my.rn.blk h2 e.symm
 have nA:g∉blkO A:=h.my.rn.grd.away hb (Ne.symm h3)
 have nm:mi≠g:=fun e=>hb.far h.my.mb h1 e.symm
 have hv:v.heap.size≤g:=Nat.le_trans h.vs hg
 refine ⟨⟨h.my.bel.trans (ho.below (fun j hj=>by rw [List.mem_singleton.1 hj];exact hv) h.my.bel.size),h.my.rn.off ho (by simpa using nx) (fun j hj hm=>nA (by rw [←List.mem_singleton.1 hm];exact hj)) (fun e he j hj=>by rw [List.mem_singleton.1 hj];exact hout e he),h.my.mb.oth ho (by simpa using nm),h.my.mo,h.my.lo,fun r hr=>⟨(h.my.row r hr).rb.oth ho (fun h0=>hb.not_row hn (h.my.row r hr).rb h0),(h.my.row r hr).cap,(h.my.row r hr).out⟩,h.my.ee,h.my.os,h.my.pr⟩,h.ot.newer ho hg,h.hl,h.vs,h.ml,fun r hr2=>by cases hr2⟩
end
theorem zOc_nb:∀ v∈zOc,∀ b:UInt8,v≠bv b:=fun v hv b e=>by
 simp only [zOc,List.mem_cons,List.not_mem_nil,or_false] at hv
 rcases hv with rfl | rfl | rfl | rfl | rfl <;> cases e
attribute [local irreducible] openT sealT seqT fstT retryM outM smakeR instR retR newR untilM activeM rtryM
attribute [local go_sem ↓] ex_ldI ex_ldIr
def RetTm (v:World) (x:Nat) (A:Option Addr) (c:Nat) (es:Ens) (N F mi:Nat) (k:Ms) (u:Oc) (rows:List Rw) (w:World) (e:Ending) (w':World):Prop :=
 ∃ B d,e=.returned (ocV u B d)∧OwnB w' w.heap.size B u.b.length d u.b∧Oth (mi::esS es) w w'∧MY v x A c es N F mi (cntM (seenM k) u) ((B,u.b.length,d,u.b)::rows) w'
theorem take21_any (v:World) (x:Nat) (A:Option Addr) (c:Nat) (es:Ens) (N F mi:Nat) (k:Ms) (rows:List Rw) (w:World) (h:MY v x A c es N F mi k rows w) (K:Int) (hf:k.few K) (hK:K≤100000000) (hN:N+2≤1000000000) (hF:F+1≤1000000000) (CA:Option Addr) (cc:Nat) (cl:List UInt8) (hc:Ra es w CA cl.length cc cl) (bc:cl.length≤1000) (i:In) (hi:i.aw es w) (bt:i.t.length≤1000) (now:Nat) (hn:now<2 ^ 64) (RA:Option Addr) (rc:Nat) (r:List UInt8) (hr:Ra es w RA r.length rc r) (br:r.length≤1000) (u:Oc) (hu:outM (seenM k) cl i.pl now r=u) :
  Calls Tryz.prog 24 #[.pointer (some ⟨mi,0,none⟩),.slice CA cl.length cc,i.val,.int .u64 (now:Int),.slice RA r.length rc] w (RetTm v x A c es (N+2) (F+1) mi k u rows w):=by
 have K0:=η ((KZ.start h).cons hr |>.cons hc |>.cons hi.a |>.cons hi.b |>.cons hi.t |>.cons hi.r)
 have HI:=η hi
 have HUK:Hid (u.k=0∨u.k=1∨u.k=2):=η (by rw [←hu];exact out_kind h.os)
 have HU:=η hu
 have HFW:=η hf
 have HPR:=η h.pr
 have hnn:0≤k.n∧k.n≤1000000000:=by have:=hf.1;omega
 have HNN:=η hnn
 have HCN:Hid ((0≤k.f∧k.f≤1000000000)∧(0≤k.m∧k.m≤1000000000)∧(0≤k.d∧k.d≤1000000000)):=η (by unfold Ms.few at hf;omega)
 clear h hc hi hr hu hf hnn
 go_enter Tryz.func24,Tryz.ntmps24
 go_wp2_with (first
  | (with_reducible show wpList _ _ _ (⟨_,.box _ (.tmp 2),_,_,_,none⟩::_) _ _;refine wpList_boxI rfl _ (.tmp 2) rfl i rfl ?_;intro w1 qi hc1 hb1 hx1;have K1:=η (K0.out.new hb1 hc1.blk hx1);clear hc1 hb1 hx1)
  | (with_reducible show wpList _ _ _ (⟨some 10,.alloc _,_,_,_,none⟩::_) _ _;refine wpList_newB rt_oc rfl rfl ?_;intro w2 rv hc1 hb1 hx1;have K2:=η (K1.out.new hb1 hc1 hx1);clear hc1 hb1 hx1))
 refine (see21_any mi x k w2 (by exact K2.out.my.mb) HNN.out).mono ?_
 rintro e w3 ⟨rfl,hbm,ho⟩
 have K3:=η (K2.out.mint (k':=seenM k) ho hbm rfl HPR.out)
 clear hbm ho
 have HIA:Hid (i.aw es w3):=η ⟨K3.out.my.row (i.h.A,i.h.a.length,i.h.c,i.h.a) (by simp),K3.out.my.row (i.h.B,i.h.b.length,i.h.d,i.h.b) (by simp),K3.out.my.row (i.T,i.t.length,i.e,i.t) (by simp),K3.out.my.row (i.R,i.r.length,i.g,i.r) (by simp),HI.out.v32⟩
 go_wp2_with (first
  | (with_reducible show wpList _ _ _ (⟨some 18,.load _ _,_,_,_,none⟩::_) _ _;refine wpList_ldI rt_ini rfl (.tmp 7) rfl qi rfl i (by exact Ic.of (K3.out.rb (46,qi,i.cells) (by simp)).1) ?_))
 refine (decide21_any v x A c es N F mi (seenM k) _ w3 (by exact K3.out.my) (by omega) (by omega) CA cc cl (by exact K3.out.my.row (CA,cl.length,cc,cl) (by simp)) bc i (by exact HIA.out) bt now hn RA rc r (by exact K3.out.my.row (RA,r.length,rc,r) (by simp)) br u (by exact HU.out)).mono ?_
 rintro e w4 ⟨B4,c4,rfl,ho,hbx⟩
 have K4:=η (K3.out.boxOwn hbx ho)
 have O4:=η (ho.base_le K3.out.sz)
 clear ho hbx
 go_wp2_with (first
  | (with_reducible show wpList _ _ _ (⟨some 11,.alloc _,_,_,_,none⟩::_) _ _;refine wpList_newB rt_oc rfl rfl ?_;intro w5 p hc1 hb1 hx1;have H5:=η (And.intro hc1 (And.intro hb1 hx1));clear hc1 hb1 hx1)
  | (with_reducible show wpList _ _ _ (⟨none,.store _ (.tmp 11) (.tmp 21),_,_,_,none⟩::_) _ _;refine wpList_stO rt_oc rfl (.tmp 11) (.tmp 21) rfl p rfl u B4 c4 (ocV u B4 c4) rfl (by exact rfl) _ (by exact H5.out.1) (by exact zOc_5) ?_;intro w6 hc1 ho1 hs1;have K6:=η (K4.out.new (oth_new H5.out.2.1 H5.out.2.2 ho1) hc1 H5.out.2.2);have O6:=η (O4.out.below (oth_new H5.out.2.1 H5.out.2.2 ho1));clear hc1 ho1 hs1 H5))
 rcases HUK.out with hk0 | hk0 | hk0
 ·have HK0:=η hk0
  have hp0:w6.drew.cell? ⟨p,0,none⟩=some (.int .i64 0):=by rw [←hk0];exact oc0_ ((show Blk 73 w6 p (ocC u B4 c4) from (K6.out.rb (73,p,ocC u B4 c4) (by simp)).1).step (Below.refl _ _).drew)
  clear hk0
  refine wp_region_held_drew (S:=fun w'=>w'.cell? ⟨p,0,none⟩=some (.int .i64 0)) (by kernel_rfl) hp0 (fun hHeld=>?_)
  (try dsimp only at hHeld)
  refine tkI 0 (v:=?v0_1) rfl ⟨by rfl,?h0_1⟩ hHeld ?_
  case h0_1=>intro w _;(try simp only [rxT]);go_simp <;> with_reducible rfl
  (try simp only [Act.put,rxT,sxT])
  refine tkI 1 (v:=?v1_2) rfl ⟨by rfl,?h1_2⟩ hHeld ?_
  case h1_2=>intro w _;(try simp only [rxT]);go_simp <;> with_reducible rfl
  (try simp only [Act.put,rxT,sxT])
  refine tkI 2 (v:=?v2_3) rfl ⟨by rfl,?h2_3⟩ hHeld ?_
  case h2_3=>intro w _;(try simp only [rxT]);go_simp <;> with_reducible rfl
  (try simp only [Act.put,rxT,sxT])
  refine tkI 3 (v:=?v3_4) rfl ⟨by rfl,?h3_4⟩ hHeld ?_
  case h3_4=>intro w _;(try simp only [rxT]);go_simp <;> with_reducible rfl
  (try simp only [Act.put,rxT,sxT])
  refine tkI 4 (v:=?v4_5) rfl ⟨by rfl,?h4_5⟩ hHeld ?_
  case h4_5=>intro w _;(try simp only [rxT]);go_simp <;> with_reducible rfl
  (try simp only [Act.put,rxT,sxT])
  refine tkI 5 (v:=?v5_6) rfl ⟨by rfl,?h5_6⟩ hHeld ?_
  case h5_6=>intro w _;(try simp only [rxT]);go_simp <;> with_reducible rfl
  (try simp only [Act.put,rxT,sxT])
  refine rdI 6 rfl (fun K hK=>?_)
  (try simp only [rxT])
  go_simp
  have K7:=η (K6.out.step (Below.refl _ _).drew)
  refine (sy_add64 ⟨mi,7,none⟩ k.f 1 (k.f+1) _ (by exact K7.out.my.mb.cell 7) (by exact K7.out.my.mb.free 7) (add_oneI k.f HCN.out.1 _)).mono ?_
  rintro e w8 ⟨rfl,hw8⟩
  have K8:=η (K7.out.mint (w':=w8) (k':=cntM (seenM k) u) (by rw [←hw8];exact (Oth.refl [mi] _).set (x:=mi) (by simp) 7 _) (by rw [←hw8,←set_cnt0 x HK0.out];exact K7.out.my.mb.set 7 _) rfl HPR.out)
  have O8:=η (show OwnB w8 w.heap.size B4 u.b.length c4 u.b from by rw [←hw8];exact (O6.out.below (Below.refl _ _).drew).offS ((Oth.refl [mi] _).set (x:=mi) (by simp) 7 _) (K7.out.my.mb.nob (by decide)))
  clear hw8
  (try go_wp2_with fail)
  refine hK.out _ _ (by rw [←HK0.out];exact oc0_ (show Blk 73 w8 p (ocC u B4 c4) from (K8.out.rb (73,p,ocC u B4 c4) (by simp)).1)) (fun hHeld=>?_)
  clear hK K
  (try simp only [Act.put,rxT,sxT])
  refine wpAnyH_done (by kernel_rfl) ?_ _
  go_wp2_with (first
   | (with_reducible show wpList _ _ _ (⟨some 29,.load _ _,_,_,_,none⟩::_) _ _;refine wpList_ldO rt_oc rfl (.tmp 11) rfl p rfl u B4 c4 (by exact (K8.out.rb (73,p,ocC u B4 c4) (by simp)).1) ?_)
   | (with_reducible show wpList _ _ _ (⟨none,.store _ (.tmp 10) (.tmp 29),_,_,_,none⟩::_) _ _;refine wpList_stO rt_oc rfl (.tmp 10) (.tmp 29) rfl rv rfl u B4 c4 (ocV u B4 c4) rfl (by exact rfl) _ (by exact (K8.out.rb (73,rv,zOc) (by simp)).1) (by exact zOc_5) ?_;intro wf hc1 ho1 hs1;have HQ:=η (And.intro hc1 ho1);clear hc1 ho1 hs1))
  have HF:=η (And.intro HQ.out.1 (And.intro (K8.out.put (T:=73) (g:=rv) (cs:=zOc) (by simp) HQ.out.2 zOc_nb (by decide) (by decide) (by decide)) (O8.out.offS HQ.out.2 ((show Blk 73 _ rv zOc from (K8.out.rb (73,rv,zOc) (by simp)).1).nob (by decide)))))
  exact bodyPost_ret (v:=ocV u B4 c4) (res_rec rt_oc rfl _ _ rv (ocC u B4 c4) rfl HF.out.1 rfl) rfl ⟨B4,c4,rfl,HF.out.2.2,HF.out.2.1.ot,HF.out.2.1.my.sub (fun q hq=>by
   rcases List.mem_cons.1 hq with rfl | hq
   ·simp
   ·simp [hq])⟩
 ·have HK0:=η hk0
  have hp0:w6.drew.cell? ⟨p,0,none⟩=some (.int .i64 1):=by rw [←hk0];exact oc0_ ((show Blk 73 w6 p (ocC u B4 c4) from (K6.out.rb (73,p,ocC u B4 c4) (by simp)).1).step (Below.refl _ _).drew)
  clear hk0
  refine wp_region_held_drew (S:=fun w'=>w'.cell? ⟨p,0,none⟩=some (.int .i64 1)) (by kernel_rfl) hp0 (fun hHeld=>?_)
  (try dsimp only at hHeld)
  refine tkI 0 (v:=?v0_7) rfl ⟨by rfl,?h0_7⟩ hHeld ?_
  case h0_7=>intro w _;(try simp only [rxT]);go_simp <;> with_reducible rfl
  (try simp only [Act.put,rxT,sxT])
  refine tkI 1 (v:=?v1_8) rfl ⟨by rfl,?h1_8⟩ hHeld ?_
  case h1_8=>intro w _;(try simp only [rxT]);go_simp <;> with_reducible rfl
  (try simp only [Act.put,rxT,sxT])
  refine tkI 2 (v:=?v2_9) rfl ⟨by rfl,?h2_9⟩ hHeld ?_
  case h2_9=>intro w _;(try simp only [rxT]);go_simp <;> with_reducible rfl
  (try simp only [Act.put,rxT,sxT])
  refine tkI 3 (v:=?v3_10) rfl ⟨by rfl,?h3_10⟩ hHeld ?_
  case h3_10=>intro w _;(try simp only [rxT]);go_simp <;> with_reducible rfl
  (try simp only [Act.put,rxT,sxT])
  refine tkI 4 (v:=?v4_11) rfl ⟨by rfl,?h4_11⟩ hHeld ?_
  case h4_11=>intro w _;(try simp only [rxT]);go_simp <;> with_reducible rfl
  (try simp only [Act.put,rxT,sxT])
  refine tkI 5 (v:=?v5_12) rfl ⟨by rfl,?h5_12⟩ hHeld ?_
  case h5_12=>intro w _;(try simp only [rxT]);go_simp <;> with_reducible rfl
  (try simp only [Act.put,rxT,sxT])
  refine rdI 6 rfl (fun K hK=>?_)
  (try simp only [rxT])
  go_simp
  have K7:=η (K6.out.step (Below.refl _ _).drew)
  refine (sy_add64 ⟨mi,8,none⟩ k.m 1 (k.m+1) _ (by exact K7.out.my.mb.cell 8) (by exact K7.out.my.mb.free 8) (add_oneI k.m HCN.out.2.1 _)).mono ?_
  rintro e w8 ⟨rfl,hw8⟩
  have K8:=η (K7.out.mint (w':=w8) (k':=cntM (seenM k) u) (by rw [←hw8];exact (Oth.refl [mi] _).set (x:=mi) (by simp) 8 _) (by rw [←hw8,←set_cnt1 x HK0.out];exact K7.out.my.mb.set 8 _) rfl HPR.out)
  have O8:=η (show OwnB w8 w.heap.size B4 u.b.length c4 u.b from by rw [←hw8];exact (O6.out.below (Below.refl _ _).drew).offS ((Oth.refl [mi] _).set (x:=mi) (by simp) 8 _) (K7.out.my.mb.nob (by decide)))
  clear hw8
  (try go_wp2_with fail)
  refine hK.out _ _ (by rw [←HK0.out];exact oc0_ (show Blk 73 w8 p (ocC u B4 c4) from (K8.out.rb (73,p,ocC u B4 c4) (by simp)).1)) (fun hHeld=>?_)
  clear hK K
  (try simp only [Act.put,rxT,sxT])
  refine wpAnyH_done (by kernel_rfl) ?_ _
  go_wp2_with (first
   | (with_reducible show wpList _ _ _ (⟨some 29,.load _ _,_,_,_,none⟩::_) _ _;refine wpList_ldO rt_oc rfl (.tmp 11) rfl p rfl u B4 c4 (by exact (K8.out.rb (73,p,ocC u B4 c4) (by simp)).1) ?_)
   | (with_reducible show wpList _ _ _ (⟨none,.store _ (.tmp 10) (.tmp 29),_,_,_,none⟩::_) _ _;refine wpList_stO rt_oc rfl (.tmp 10) (.tmp 29) rfl rv rfl u B4 c4 (ocV u B4 c4) rfl (by exact rfl) _ (by exact (K8.out.rb (73,rv,zOc) (by simp)).1) (by exact zOc_5) ?_;intro wf hc1 ho1 hs1;have HQ:=η (And.intro hc1 ho1);clear hc1 ho1 hs1))
  have HF:=η (And.intro HQ.out.1 (And.intro (K8.out.put (T:=73) (g:=rv) (cs:=zOc) (by simp) HQ.out.2 zOc_nb (by decide) (by decide) (by decide)) (O8.out.offS HQ.out.2 ((show Blk 73 _ rv zOc from (K8.out.rb (73,rv,zOc) (by simp)).1).nob (by decide)))))
  exact bodyPost_ret (v:=ocV u B4 c4) (res_rec rt_oc rfl _ _ rv (ocC u B4 c4) rfl HF.out.1 rfl) rfl ⟨B4,c4,rfl,HF.out.2.2,HF.out.2.1.ot,HF.out.2.1.my.sub (fun q hq=>by
   rcases List.mem_cons.1 hq with rfl | hq
   ·simp
   ·simp [hq])⟩
 ·have HK0:=η hk0
  have hp0:w6.drew.cell? ⟨p,0,none⟩=some (.int .i64 2):=by rw [←hk0];exact oc0_ ((show Blk 73 w6 p (ocC u B4 c4) from (K6.out.rb (73,p,ocC u B4 c4) (by simp)).1).step (Below.refl _ _).drew)
  clear hk0
  refine wp_region_held_drew (S:=fun w'=>w'.cell? ⟨p,0,none⟩=some (.int .i64 2)) (by kernel_rfl) hp0 (fun hHeld=>?_)
  (try dsimp only at hHeld)
  refine tkI 0 (v:=?v0_13) rfl ⟨by rfl,?h0_13⟩ hHeld ?_
  case h0_13=>intro w _;(try simp only [rxT]);go_simp <;> with_reducible rfl
  (try simp only [Act.put,rxT,sxT])
  refine tkI 1 (v:=?v1_14) rfl ⟨by rfl,?h1_14⟩ hHeld ?_
  case h1_14=>intro w _;(try simp only [rxT]);go_simp <;> with_reducible rfl
  (try simp only [Act.put,rxT,sxT])
  refine tkI 2 (v:=?v2_15) rfl ⟨by rfl,?h2_15⟩ hHeld ?_
  case h2_15=>intro w _;(try simp only [rxT]);go_simp <;> with_reducible rfl
  (try simp only [Act.put,rxT,sxT])
  refine tkI 3 (v:=?v3_16) rfl ⟨by rfl,?h3_16⟩ hHeld ?_
  case h3_16=>intro w _;(try simp only [rxT]);go_simp <;> with_reducible rfl
  (try simp only [Act.put,rxT,sxT])
  refine tkI 4 (v:=?v4_17) rfl ⟨by rfl,?h4_17⟩ hHeld ?_
  case h4_17=>intro w _;(try simp only [rxT]);go_simp <;> with_reducible rfl
  (try simp only [Act.put,rxT,sxT])
  refine tkI 5 (v:=?v5_18) rfl ⟨by rfl,?h5_18⟩ hHeld ?_
  case h5_18=>intro w _;(try simp only [rxT]);go_simp <;> with_reducible rfl
  (try simp only [Act.put,rxT,sxT])
  refine rdI 6 rfl (fun K hK=>?_)
  (try simp only [rxT])
  go_simp
  have K7:=η (K6.out.step (Below.refl _ _).drew)
  refine (sy_add64 ⟨mi,9,none⟩ k.d 1 (k.d+1) _ (by exact K7.out.my.mb.cell 9) (by exact K7.out.my.mb.free 9) (add_oneI k.d HCN.out.2.2 _)).mono ?_
  rintro e w8 ⟨rfl,hw8⟩
  have K8:=η (K7.out.mint (w':=w8) (k':=cntM (seenM k) u) (by rw [←hw8];exact (Oth.refl [mi] _).set (x:=mi) (by simp) 9 _) (by rw [←hw8,←set_cnt2 x HK0.out];exact K7.out.my.mb.set 9 _) rfl HPR.out)
  have O8:=η (show OwnB w8 w.heap.size B4 u.b.length c4 u.b from by rw [←hw8];exact (O6.out.below (Below.refl _ _).drew).offS ((Oth.refl [mi] _).set (x:=mi) (by simp) 9 _) (K7.out.my.mb.nob (by decide)))
  clear hw8
  (try go_wp2_with fail)
  refine hK.out _ _ (by rw [←HK0.out];exact oc0_ (show Blk 73 w8 p (ocC u B4 c4) from (K8.out.rb (73,p,ocC u B4 c4) (by simp)).1)) (fun hHeld=>?_)
  clear hK K
  (try simp only [Act.put,rxT,sxT])
  refine wpAnyH_done (by kernel_rfl) ?_ _
  go_wp2_with (first
   | (with_reducible show wpList _ _ _ (⟨some 29,.load _ _,_,_,_,none⟩::_) _ _;refine wpList_ldO rt_oc rfl (.tmp 11) rfl p rfl u B4 c4 (by exact (K8.out.rb (73,p,ocC u B4 c4) (by simp)).1) ?_)
   | (with_reducible show wpList _ _ _ (⟨none,.store _ (.tmp 10) (.tmp 29),_,_,_,none⟩::_) _ _;refine wpList_stO rt_oc rfl (.tmp 10) (.tmp 29) rfl rv rfl u B4 c4 (ocV u B4 c4) rfl (by exact rfl) _ (by exact (K8.out.rb (73,rv,zOc) (by simp)).1) (by exact zOc_5) ?_;intro wf hc1 ho1 hs1;have HQ:=η (And.intro hc1 ho1);clear hc1 ho1 hs1))
  have HF:=η (And.intro HQ.out.1 (And.intro (K8.out.put (T:=73) (g:=rv) (cs:=zOc) (by simp) HQ.out.2 zOc_nb (by decide) (by decide) (by decide)) (O8.out.offS HQ.out.2 ((show Blk 73 _ rv zOc from (K8.out.rb (73,rv,zOc) (by simp)).1).nob (by decide)))))
  exact bodyPost_ret (v:=ocV u B4 c4) (res_rec rt_oc rfl _ _ rv (ocC u B4 c4) rfl HF.out.1 rfl) rfl ⟨B4,c4,rfl,HF.out.2.2,HF.out.2.1.ot,HF.out.2.1.my.sub (fun q hq=>by
   rcases List.mem_cons.1 hq with rfl | hq
   ·simp
   ·simp [hq])⟩
theorem ex_ldPl (ev:Operand→Value) (x:Operand) (d:Option Tmp) (ty:TypeId) (ps:String) (af:Array Edge) (g:Option (Nat×Bool)) (w:World):(execOp ev ⟨d,.load 24 x,ty,ps,af,g⟩).run Tryz.prog w=ldHd 24 (ev x) w:=rfl
theorem ex_ldRp (ev:Operand→Value) (x:Operand) (d:Option Tmp) (ty:TypeId) (ps:String) (af:Array Edge) (g:Option (Nat×Bool)) (w:World):(execOp ev ⟨d,.load 35 x,ty,ps,af,g⟩).run Tryz.prog w=ldHd 35 (ev x) w:=rfl
theorem ex_ldSt (ev:Operand→Value) (x:Operand) (d:Option Tmp) (ty:TypeId) (ps:String) (af:Array Edge) (g:Option (Nat×Bool)) (w:World):(execOp ev ⟨d,.load 63 x,ty,ps,af,g⟩).run Tryz.prog w=ldHd 63 (ev x) w:=rfl
theorem rt_state:RT 63 [.int .i64 0,.bool false,.int .i64 0,.int .u64 0,.int .i64 0,.int .i64 0]:=⟨row_of (by kernel_rfl),by kernel_rfl⟩
attribute [local go_sem ↓] ex_ldPl ex_ldRp ex_ldSt
theorem ldPl_b {T T':TypeId} (rt:RT T zPn.cells) {w:World} {q:Nat} {p:Pn} (h:Blk T' w q p.cells):ldHd T (.pointer (some ⟨q,0,none⟩)) w=.ok (.value p.val) w:=ldB_m rt (cs:=p.cells) (vs:=p.cells) h rfl rfl
theorem mintZ (x:Nat) (w:World) (T:TypeId) (q:Nat) (h:Blk T w q [.int .i64 0,.bool false,.int .i64 0,.int .u64 0,.int .i64 0,.int .i64 0,.pointer (some ⟨x,0,none⟩),.int .i64 0,.int .i64 0,.int .i64 0]):Blk T w q (mintC ⟨zPn,[],0,0,0,0,0⟩ x):=h
theorem setM_z (p:Pn) (h:rightP p=true):setM ⟨zPn,[],0,0,0,0,0⟩ p=(newM p,0):=by unfold setM;rw [h];rfl
theorem new21_any (p:Pn) (w:World) :
  Calls Tryz.prog 11 #[p.val] w fun e w'=>Below w.heap.size w w'∧((rightP p=false∧e=.returned (.tuple #[.pointer none,.int .i64 11]))∨(rightP p=true∧∃ mi x,e=.returned (.tuple #[.pointer (some ⟨mi,0,none⟩),.int .i64 0])∧MY w x none 0 [] 1 0 mi (newM p) [] w')):=by
 have HS:∀ v,rightP p=v→Hid (rightP p=v):=fun v h=>η h
 rcases hv:rightP p with _ | _
 ·have HV:=HS _ hv
  clear HS hv
  go_enter Tryz.func11,Tryz.ntmps11
  go_wp2_with (first
   | (with_reducible show wpList _ _ _ (⟨_,.box _ (.tmp 0),_,_,_,none⟩::_) _ _;refine wpList_boxPn rfl 24 (.tmp 0) rfl p rfl ?_;intro w1 q hc1 hb1 hx1;have H1:=η (And.intro hc1 (And.intro hb1 hx1));clear hc1 hb1 hx1))
  refine (rnew_any w1).mono ?_
  rintro e w2 ⟨x,rfl,hb,hr⟩
  have HQ2:=η (H1.out.1.step hb)
  have B2:=η (bel_next H1.out.2.1 hb)
  have R2:=η (hr.base_le H1.out.2.1.size)
  clear hb hr H1
  go_wp2_with (first
   | (with_reducible show wpList _ _ _ (⟨_,.box _ (.tmp 7),_,_,_,none⟩::_) _ _;refine wpList_boxB rfl 71 (.tmp 7) rfl [.int .i64 0,.bool false,.int .i64 0,.int .u64 0,.int .i64 0,.int .i64 0,.pointer (some ⟨x,0,none⟩),.int .i64 0,.int .i64 0,.int .i64 0] rfl ?_;intro w3 mi hc1 hb1 hx1;have H3:=η (And.intro hc1 (And.intro hb1 hx1));clear hc1 hb1 hx1))
  refine wp_region_held_drew (S:=fun w'=>Blk 24 w' q p.cells) (by kernel_rfl) ((HQ2.out.step H3.out.2.1).step (Below.refl _ _).drew) (fun hHeld=>?_)
  (try dsimp only at hHeld)
  refine tkI 0 (v:=?v0_49) rfl ⟨by rfl,?h0_49⟩ hHeld ?_
  case h0_49=>intro w hSw;(try dsimp only at hSw);have q0:=ldPl_b rt_pn hSw;(try simp only [rxT]);go_simp <;> with_reducible rfl
  (try simp only [Act.put,rxT,sxT])
  refine tkI 1 (v:=?v1_50) rfl ⟨by rfl,?h1_50⟩ hHeld ?_
  case h1_50=>intro w hSw;(try dsimp only at hSw);have q0:=ldPl_b rt_pn hSw;(try simp only [rxT]);go_simp <;> with_reducible rfl
  (try simp only [Act.put,rxT,sxT])
  refine tkI 2 (v:=?v2_51) rfl ⟨by rfl,?h2_51⟩ hHeld ?_
  case h2_51=>intro w hSw;(try dsimp only at hSw);have q0:=ldPl_b rt_pn hSw;(try simp only [rxT]);go_simp <;> with_reducible rfl
  (try simp only [Act.put,rxT,sxT])
  refine tkI 3 (v:=?v3_52) rfl ⟨by rfl,?h3_52⟩ hHeld ?_
  case h3_52=>intro w hSw;(try dsimp only at hSw);have q0:=ldPl_b rt_pn hSw;(try simp only [rxT]);go_simp <;> with_reducible rfl
  (try simp only [Act.put,rxT,sxT])
  refine rdI 4 rfl (fun K hK=>?_)
  (try simp only [rxT])
  go_simp
  refine (set21_any mi x ⟨zPn,[],0,0,0,0,0⟩ p _ (by exact (mintZ x _ _ _ H3.out.1).step (Below.refl _ _).drew)).mono ?_
  rw [show setM ⟨zPn,[],0,0,0,0,0⟩ p=(⟨zPn,[],0,0,0,0,0⟩,11) from by unfold setM;rw [HV.out];rfl]
  rintro e w4 ⟨rfl,hbm,ho⟩
  have BM:=η hbm
  have XM:=η ((Oth.of_below (S:=[mi]) (Below.refl w3.heap.size w3).drew).trans ho)
  have N4:Hid (Below w.heap.size w w4):=η ((bel_next B2.out H3.out.2.1).trans (XM.out.below (fun j hj=>by rw [List.mem_singleton.1 hj];exact Nat.le_trans B2.out.size H3.out.2.2) (bel_next B2.out H3.out.2.1).size))
  clear hbm ho
  (try go_wp2_with fail)
  refine hK.out _ _ ((HQ2.out.step H3.out.2.1).oth XM.out (by have:=HQ2.out.lt;have:=H3.out.2.2;simp;omega)) (fun hHeld=>?_)
  clear hK K
  (try simp only [Act.put,rxT,sxT])
  refine tkI 5 (v:=?v5_53) rfl ⟨by rfl,?h5_53⟩ hHeld ?_
  case h5_53=>intro w _;(try simp only [rxT]);go_simp <;> with_reducible rfl
  (try simp only [Act.put,rxT,sxT])
  refine wpAnyH_done (by kernel_rfl) ?_ _
  go_wp2_with fail
  go_ret2
  exact ⟨N4.out,.inl ⟨trivial,rfl⟩⟩
 ·have HV:=HS _ hv
  clear HS hv
  go_enter Tryz.func11,Tryz.ntmps11
  go_wp2_with (first
   | (with_reducible show wpList _ _ _ (⟨_,.box _ (.tmp 0),_,_,_,none⟩::_) _ _;refine wpList_boxPn rfl 24 (.tmp 0) rfl p rfl ?_;intro w1 q hc1 hb1 hx1;have H1:=η (And.intro hc1 (And.intro hb1 hx1));clear hc1 hb1 hx1))
  refine (rnew_any w1).mono ?_
  rintro e w2 ⟨x,rfl,hb,hr⟩
  have HQ2:=η (H1.out.1.step hb)
  have B2:=η (bel_next H1.out.2.1 hb)
  have R2:=η (hr.base_le H1.out.2.1.size)
  clear hb hr H1
  go_wp2_with (first
   | (with_reducible show wpList _ _ _ (⟨_,.box _ (.tmp 7),_,_,_,none⟩::_) _ _;refine wpList_boxB rfl 71 (.tmp 7) rfl [.int .i64 0,.bool false,.int .i64 0,.int .u64 0,.int .i64 0,.int .i64 0,.pointer (some ⟨x,0,none⟩),.int .i64 0,.int .i64 0,.int .i64 0] rfl ?_;intro w3 mi hc1 hb1 hx1;have H3:=η (And.intro hc1 (And.intro hb1 hx1));clear hc1 hb1 hx1))
  refine wp_region_held_drew (S:=fun w'=>Blk 24 w' q p.cells) (by kernel_rfl) ((HQ2.out.step H3.out.2.1).step (Below.refl _ _).drew) (fun hHeld=>?_)
  (try dsimp only at hHeld)
  refine tkI 0 (v:=?v0_54) rfl ⟨by rfl,?h0_54⟩ hHeld ?_
  case h0_54=>intro w hSw;(try dsimp only at hSw);have q0:=ldPl_b rt_pn hSw;(try simp only [rxT]);go_simp <;> with_reducible rfl
  (try simp only [Act.put,rxT,sxT])
  refine tkI 1 (v:=?v1_55) rfl ⟨by rfl,?h1_55⟩ hHeld ?_
  case h1_55=>intro w hSw;(try dsimp only at hSw);have q0:=ldPl_b rt_pn hSw;(try simp only [rxT]);go_simp <;> with_reducible rfl
  (try simp only [Act.put,rxT,sxT])
  refine tkI 2 (v:=?v2_56) rfl ⟨by rfl,?h2_56⟩ hHeld ?_
  case h2_56=>intro w hSw;(try dsimp only at hSw);have q0:=ldPl_b rt_pn hSw;(try simp only [rxT]);go_simp <;> with_reducible rfl
  (try simp only [Act.put,rxT,sxT])
  refine tkI 3 (v:=?v3_57) rfl ⟨by rfl,?h3_57⟩ hHeld ?_
  case h3_57=>intro w hSw;(try dsimp only at hSw);have q0:=ldPl_b rt_pn hSw;(try simp only [rxT]);go_simp <;> with_reducible rfl
  (try simp only [Act.put,rxT,sxT])
  refine rdI 4 rfl (fun K hK=>?_)
  (try simp only [rxT])
  go_simp
  refine (set21_any mi x ⟨zPn,[],0,0,0,0,0⟩ p _ (by exact (mintZ x _ _ _ H3.out.1).step (Below.refl _ _).drew)).mono ?_
  rw [setM_z p HV.out]
  rintro e w4 ⟨rfl,hbm,ho⟩
  have BM:=η hbm
  have XM:=η ((Oth.of_below (S:=[mi]) (Below.refl w3.heap.size w3).drew).trans ho)
  have N4:Hid (Below w.heap.size w w4):=η ((bel_next B2.out H3.out.2.1).trans (XM.out.below (fun j hj=>by rw [List.mem_singleton.1 hj];exact Nat.le_trans B2.out.size H3.out.2.2) (bel_next B2.out H3.out.2.1).size))
  clear hbm ho
  (try go_wp2_with fail)
  refine hK.out _ _ ((HQ2.out.step H3.out.2.1).oth XM.out (by have:=HQ2.out.lt;have:=H3.out.2.2;simp;omega)) (fun hHeld=>?_)
  clear hK K
  (try simp only [Act.put,rxT,sxT])
  refine tkI 5 (v:=?v5_58) rfl ⟨by rfl,?h5_58⟩ hHeld ?_
  case h5_58=>intro w _;(try simp only [rxT]);go_simp <;> with_reducible rfl
  (try simp only [Act.put,rxT,sxT])
  refine wpAnyH_done (by kernel_rfl) ?_ _
  go_wp2_with fail
  go_ret2
  have hx:x≠mi:=(BM.out.far (show Blk 133 w4 x _ from (R2.out.step H3.out.2.1).blk.oth XM.out (by have:=R2.out.blk.lt;have:=H3.out.2.2;simp;omega)) (by decide)).symm
  exact ⟨N4.out,.inr ⟨trivial,mi,x,rfl,⟨N4.out,(R2.out.step H3.out.2.1).off XM.out (by simpa using hx) (fun g hg=>by cases hg) (fun e he=>by cases he),BM.out,⟨hx.symm,by simp [blkO],fun e he=>by cases he⟩,Nat.le_trans B2.out.size H3.out.2.2,(fun r hr=>by cases hr),rfl,nil_okR,HV.out⟩⟩⟩
theorem ldSt_b {T':TypeId} {w:World} {mi x:Nat} {k:Ms} (h:Blk T' w mi (mintC k x)):ldHd 63 (.pointer (some ⟨mi,0,none⟩)) w=.ok (.value (.agg #[.int .i64 k.p.m,.bool k.p.sh,.int .i64 k.p.t,.int .u64 (k.p.life:Int),.int .i64 k.n,.int .i64 k.l])) w:=ldB_m rt_state (cs:=mintC k x) (vs:=[.int .i64 k.p.m,.bool k.p.sh,.int .i64 k.p.t,.int .u64 (k.p.life:Int),.int .i64 k.n,.int .i64 k.l]) h rfl rfl
theorem mintCl (k:Ms) (y2:Nat) (w:World) (T:TypeId) (q:Nat) (h:Blk T w q [.int .i64 k.p.m,.bool k.p.sh,.int .i64 k.p.t,.int .u64 (k.p.life:Int),.int .i64 k.n,.int .i64 k.l,.pointer (some ⟨y2,0,none⟩),.int .i64 0,.int .i64 0,.int .i64 0]):Blk T w q (mintC (copyM k) y2):=h
theorem clone21_any (v:World) (x:Nat) (A:Option Addr) (c:Nat) (es:Ens) (N F mi:Nat) (k:Ms) (rows:List Rw) (w:World) (h:MY v x A c es N F mi k rows w) :
  Calls Tryz.prog 19 #[.pointer (some ⟨mi,0,none⟩)] w fun e w'=>∃ (m2 y2:Nat) (B:Option Addr) (d:Nat) (fs:Ens),e=.returned (.pointer (some ⟨m2,0,none⟩))∧Below w.heap.size w w'∧MY w y2 B d fs 1 0 m2 (copyM k) [] w':=by
 have H:=η h
 have HL:=η h.len
 clear h
 go_enter Tryz.func19,Tryz.ntmps19
 go_wp2_with fail
 refine wp_region_held_drew (S:=fun w'=>Blk 71 w' mi (mintC k x)) (by kernel_rfl) (H.out.mb.step (Below.refl _ _).drew) (fun hHeld=>?_)
 (try dsimp only at hHeld)
 refine tkI 0 (v:=?v0_59) rfl ⟨by rfl,?h0_59⟩ hHeld ?_
 case h0_59=>intro w hSw;(try dsimp only at hSw);have q0:=ldSt_b hSw;have q6:w.cell? ⟨mi,6,none⟩=some (.pointer (some ⟨x,0,none⟩)):=hSw.cell 6;(try simp only [rxT]);go_simp <;> with_reducible rfl
 (try simp only [Act.put,rxT,sxT])
 refine tkI 1 (v:=?v1_60) rfl ⟨by rfl,?h1_60⟩ hHeld ?_
 case h1_60=>intro w hSw;(try dsimp only at hSw);have q0:=ldSt_b hSw;have q6:w.cell? ⟨mi,6,none⟩=some (.pointer (some ⟨x,0,none⟩)):=hSw.cell 6;(try simp only [rxT]);go_simp <;> with_reducible rfl
 (try simp only [Act.put,rxT,sxT])
 refine tkI 2 (v:=?v2_61) rfl ⟨by rfl,?h2_61⟩ hHeld ?_
 case h2_61=>intro w hSw;(try dsimp only at hSw);have q0:=ldSt_b hSw;have q6:w.cell? ⟨mi,6,none⟩=some (.pointer (some ⟨x,0,none⟩)):=hSw.cell 6;(try simp only [rxT]);go_simp <;> with_reducible rfl
 (try simp only [Act.put,rxT,sxT])
 refine tkI 3 (v:=?v3_62) rfl ⟨by rfl,?h3_62⟩ hHeld ?_
 case h3_62=>intro w hSw;(try dsimp only at hSw);have q0:=ldSt_b hSw;have q6:w.cell? ⟨mi,6,none⟩=some (.pointer (some ⟨x,0,none⟩)):=hSw.cell 6;(try simp only [rxT]);go_simp <;> with_reducible rfl
 (try simp only [Act.put,rxT,sxT])
 refine tkI 4 (v:=?v4_63) rfl ⟨by rfl,?h4_63⟩ hHeld ?_
 case h4_63=>intro w hSw;(try dsimp only at hSw);have q0:=ldSt_b hSw;have q6:w.cell? ⟨mi,6,none⟩=some (.pointer (some ⟨x,0,none⟩)):=hSw.cell 6;(try simp only [rxT]);go_simp <;> with_reducible rfl
 (try simp only [Act.put,rxT,sxT])
 refine tkI 5 (v:=?v5_64) rfl ⟨by rfl,?h5_64⟩ hHeld ?_
 case h5_64=>intro w hSw;(try dsimp only at hSw);have q0:=ldSt_b hSw;have q6:w.cell? ⟨mi,6,none⟩=some (.pointer (some ⟨x,0,none⟩)):=hSw.cell 6;(try simp only [rxT]);go_simp <;> with_reducible rfl
 (try simp only [Act.put,rxT,sxT])
 refine tkI 6 (v:=?v6_65) rfl ⟨by rfl,?h6_65⟩ hHeld ?_
 case h6_65=>intro w hSw;(try dsimp only at hSw);have q0:=ldSt_b hSw;have q6:w.cell? ⟨mi,6,none⟩=some (.pointer (some ⟨x,0,none⟩)):=hSw.cell 6;(try simp only [rxT]);go_simp <;> with_reducible rfl
 (try simp only [Act.put,rxT,sxT])
 refine tkI 7 (v:=?v7_66) rfl ⟨by rfl,?h7_66⟩ hHeld ?_
 case h7_66=>intro w hSw;(try dsimp only at hSw);have q0:=ldSt_b hSw;have q6:w.cell? ⟨mi,6,none⟩=some (.pointer (some ⟨x,0,none⟩)):=hSw.cell 6;(try simp only [rxT]);go_simp <;> with_reducible rfl
 (try simp only [Act.put,rxT,sxT])
 refine rdI 8 rfl (fun K hK=>?_)
 (try simp only [rxT])
 go_simp
 refine (rclone_any _ x A c es N F _ (by exact H.out.rn.step (Below.refl _ _).drew) (by have:=HL.out;omega)).mono ?_
 rintro e w2 ⟨y2,B,d,fs,rfl,hb,hr,hq⟩
 have B2:=η ((Below.refl _ _).drew.trans hb)
 have R2:=η (hr.base_le (Nat.le_refl w.heap.size))
 have HQ:=η (hq.trans H.out.ee)
 clear hb hr hq
 (try go_wp2_with fail)
 refine hK.out _ _ (H.out.mb.step B2.out) (fun hHeld=>?_)
 clear hK K
 (try simp only [Act.put,rxT,sxT])
 refine tkI 9 (v:=?v9_67) rfl ⟨by rfl,?h9_67⟩ hHeld ?_
 case h9_67=>intro w hSw;(try dsimp only at hSw);have q0:=ldSt_b hSw;(try simp only [rxT]);go_simp <;> with_reducible rfl
 (try simp only [Act.put,rxT,sxT])
 refine rdI 10 rfl (fun K hK=>?_)
 (try simp only [rxT])
 go_simp
 have C3:Blk 71 (w2.alloc (.cells #[.int .i64 k.p.m,.bool k.p.sh,.int .i64 k.p.t,.int .u64 (k.p.life:Int),.int .i64 k.n,.int .i64 k.l,.pointer (some ⟨y2,0,none⟩),.int .i64 0,.int .i64 0,.int .i64 0] 71)) w2.heap.size [.int .i64 k.p.m,.bool k.p.sh,.int .i64 k.p.t,.int .u64 (k.p.life:Int),.int .i64 k.n,.int .i64 k.l,.pointer (some ⟨y2,0,none⟩),.int .i64 0,.int .i64 0,.int .i64 0]:=Blk.new _ _ _ _ rfl
 have H3:=η (mintCl k y2 _ _ _ C3)
 have N3:=η (below_alloc w2 (.cells #[.int .i64 k.p.m,.bool k.p.sh,.int .i64 k.p.t,.int .u64 (k.p.life:Int),.int .i64 k.n,.int .i64 k.l,.pointer (some ⟨y2,0,none⟩),.int .i64 0,.int .i64 0,.int .i64 0] 71))
 clear C3
 obtain ⟨m2,hm2⟩:∃ m2,m2=w2.heap.size:=⟨_,rfl⟩
 rw [←hm2] at H3 ⊢
 generalize (w2.alloc (.cells #[.int .i64 k.p.m,.bool k.p.sh,.int .i64 k.p.t,.int .u64 (k.p.life:Int),.int .i64 k.n,.int .i64 k.l,.pointer (some ⟨y2,0,none⟩),.int .i64 0,.int .i64 0,.int .i64 0] 71))=w3 at H3 N3 ⊢
 have HM2:=η hm2
 clear hm2
 refine hK.out _ _ (H.out.mb.step (bel_next B2.out N3.out)) (fun hHeld=>?_)
 clear hK K
 (try simp only [Act.put,rxT,sxT])
 refine tkI 11 (v:=?v11_68) rfl ⟨by rfl,?h11_68⟩ hHeld ?_
 case h11_68=>intro w _;(try simp only [rxT]);go_simp <;> with_reducible rfl
 (try simp only [Act.put,rxT,sxT])
 refine wpAnyH_done (by kernel_rfl) ?_ _
 go_wp2_with fail
 go_ret
 have hlt:∀ g,g<w2.heap.size→g≠m2:=fun g hg e=>by have:=HM2.out;omega
 refine ⟨m2,y2,B,d,fs,rfl,bel_next B2.out N3.out,⟨bel_next B2.out N3.out,R2.out.step N3.out,H3.out,⟨(hlt y2 R2.out.blk.lt).symm,fun hm=>hlt m2 (R2.out.grd.lt m2 hm).2 rfl,fun e he=>.inr (Nat.le_trans (R2.out.ok e he).1.le (Nat.le_of_eq HM2.out.symm))⟩,by rw [HM2.out];exact B2.out.size,(fun r hr=>by cases hr),HQ.out,H.out.os,H.out.pr⟩⟩
end Go.Proofs.YthppjgdnibfefaaGreat
