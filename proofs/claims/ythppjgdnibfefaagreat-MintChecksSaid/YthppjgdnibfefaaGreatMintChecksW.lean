import Derived.Test.YthppjgdnibfefaaGreatMiV
set_option linter.all false
set_option maxRecDepth 100000
set_option maxHeartbeats 32000000
namespace Go.Proofs.YthppjgdnibfefaaGreat
open Tryz
open Go.RowKit
attribute [local go_sem ↓] DkY BnZ BsW
theorem fin3 {α β γ:Type} {F G:α→β→γ→Prop} {P:Prop} (h1:(∀ a b c,F a b c→G a b c)→P) (h2:∀ a b c,F a b c→G a b c):P:=h1 h2
theorem fin8 {α β γ δ ε ζ η θ:Type} {F G:α→β→γ→δ→ε→ζ→η→θ→Prop} {P:Prop} (h1:(∀ a b c d e f g h,F a b c d e f g h→G a b c d e f g h)→P) (h2:∀ a b c d e f g h,F a b c d e f g h→G a b c d e f g h):P:=h1 h2
theorem CzY {T:TypeId} {w:World} {b:Nat} {q:Cm} (h:Blk T w b q.cells):ldHd 48 (.pointer (some ⟨b,0,none⟩)) w=.ok (.value (.agg #[.int .i64 q.t,.int .i64 q.q,.int .i64 q.p.m,.bool q.p.sh,.int .i64 q.p.t,.int .u64 (q.p.life:Int),.slice q.A q.cl.length q.a,.slice q.B q.rl.length q.b,.int .u8 (q.i.h.f.toNat:Int),.int .u32 (q.i.h.v:Int),.slice q.i.h.A q.i.h.a.length q.i.h.c,.slice q.i.h.B q.i.h.b.length q.i.h.d,.slice q.i.T q.i.t.length q.i.e,.slice q.i.R q.i.r.length q.i.g,.int .u64 (q.now:Int)])) w:=CpJ h
theorem MintChecks_walk (x0:Pn) (A1:YA) (n1 c1:Nat) (l1:List Cm) (x2:Cm) (w:World) (h0:x0.life<2 ^ 64) (h1:CMs w A1 n1 l1) (m1:n1≤c1∧c1≤maxLen) (h2:x2.ok w) :
  Calls prog 4 #[x0.val,.slice A1 n1 c1,x2.val] w fun e w'=>e=.returned (.bool true)∧Below w.heap.size w w':=by
 have H1:=η h1
 have M1:=η m1
 have H2:=η h2
 clear h0 h1 m1 h2
 go_enter func4,ntmps4
 go_wp2_with (first
  | (refine AaZ rfl 24 (.tmp 0) rfl x0 rfl ?_;intro wa q hc1 hb1 hx1;have HA:=η (And.intro hc1 (And.intro hb1 hx1));clear hc1 hb1 hx1)
  | (refine AiQ rfl 48 (.tmp 2) rfl x2 rfl ?_;intro wb bx hc1 hb1 hx1;have HB:=η (And.intro hc1 (And.intro hb1 hx1));clear hc1 hb1 hx1))
 refine (BbQ _).mono ?_
 rintro e w1 ⟨rfl,hb⟩
 have B1:Hid (Below w.heap.size w w1):=η (AaJ (AaJ HA.o.2.1 HB.o.2.1) hb)
 have Q1:=η ((HA.o.1.step HB.o.2.1).step hb)
 have R1:=η (HB.o.1.step hb)
 clear hb
 go_wp2_with fail
 refine (AnV A1 n1 c1 l1 w1 (by exact H1.o.step B1.o) (Nat.le_trans M1.o.1 M1.o.2)).mono ?_
 rintro e w2 ⟨v1,rfl,hb,hv⟩
 have B2:=η (AaJ B1.o hb)
 have Q2:=η (Q1.o.step hb)
 have R2:=η (R1.o.step hb)
 clear hb
 rcases v1 with _ | _
 case true =>
  clear hv;go_wp2_with fail;go_ret;exact ⟨rfl,B2.o⟩
 have HG1:=η (hv rfl)
 clear hv
 have ql:=CzY R2.o
 go_wp2_with fail
 clear ql
 refine (AnV (some ⟨w2.heap.size,0,none⟩) 1 1 [x2] (w2.alloc (.cells x2.cells.toArray 48)) (CMs.lit w2 x2 (H2.o.step B2.o) _ rfl _) (by unfold maxLen;omega)).mono ?_
 rintro e w3 ⟨v2,rfl,hb,hv⟩
 have S3:Hid (Below w2.heap.size w2 w3):=η (AaJ (AaK _ _) hb)
 have B3:=η (AaJ B2.o S3.o)
 have Q3:=η (Q2.o.step S3.o)
 have R3:=η (R2.o.step S3.o)
 clear hb
 rcases v2 with _ | _
 case true =>
  clear hv;go_wp2_with fail;go_ret;exact ⟨rfl,B3.o⟩
 have HG2:Hid x2.sm:=η ((hv rfl).2 x2 (by simp))
 clear hv
 go_wp2_with (first
  | (refine atd 27 rfl ?_;refine AbZ ApX rfl (.tmp 3) rfl q rfl x0 _ (by exact Q3.o) (by exact AhQ x0) ?_))
 refine (BrJ x0 A1 n1 c1 l1 w3 (H1.o.step B3.o) HG1.o.1 HG1.o.2).mono ?_
 rintro e w4 ⟨hb,hc⟩
 have B4:=η (AaJ B3.o hb)
 have Q4:=η (Q3.o.step hb)
 clear hb
 rcases hc with ⟨hr,rfl⟩ | ⟨hr,mi,x,A,c,es,rfl,hmy⟩
 ·have HV:=η hr
  clear hr
  go_wp2_with (first
   | (refine atd 32 rfl ?_;refine AbZ ApX rfl (.tmp 3) rfl q rfl x0 _ (by exact Q4.o) (by exact AhQ x0) ?_))
  refine (AsZ x0 w4).mono ?_;rintro e w5 ⟨rfl,hb⟩;have B5:=η (AaJ B4.o hb);clear hb;go_wp2_with fail;refine (AjV x0 w5 false HV.o).mono ?_;rintro e w6 ⟨rfl,hb⟩;have B6:=η (AaJ B5.o hb);clear hb;go_wp2_with fail;go_ret;exact ⟨rfl,B6.o⟩
 obtain ⟨kk,hkk⟩:∃ kk,upM x0 l1 n1=kk:=⟨_,rfl⟩
 have FK:Hid (kk.few 120):=η (by rw [←hkk];exact (BnY x0 l1 n1).more (by have:=HG1.o.1;omega))
 rw [hkk] at hmy
 have K4:=η (AZ.of_my hmy)
 have OK:Hid (x2.ok w3):=η (H2.o.step B3.o)
 clear hkk hmy hr
 go_wp2_with fail
 refine (AtX mi x kk w4 (by exact K4.o.my.mb)).mono ?_
 rintro e w5 ⟨rfl,hb⟩
 have K5:=η (K4.o.step hb)
 clear hb
 go_wp2_with fail
 obtain ⟨U,hU⟩:∃ U,outM (AbK kk) x2.cl x2.i.pl x2.now x2.rl=U:=⟨_,rfl⟩
 have HU:=η hU
 clear hU
 apply fin8 (α:=World) (β:=Option Addr) (γ:=Nat) (δ:=Option Addr) (ε:=Nat) (ζ:=Nat) (η:=Option Addr) (θ:=Nat) (F:=fun w7 A3 c3 A4 c4 pv BU dU=>Hid (AZ w3 x A c es (200+2) (100+1) mi (cntM (AbK kk) U) [(BU,U.b.length,dU,U.b)] [(73,pv,ocC U BU dU)] w7))
 ·intro FIN
  have K6:=η (K5.o.step (Below.refl _ _).drew);refine wp_region_held_drew (S:=fun w'=>Blk 48 w' bx x2.cells) (by kernel_rfl) (R3.o.step K6.o.bel) (fun hHeld=>?_);(try dsimp only at hHeld);have Ω:=η (fun (w:World) (hSw:Blk 48 w bx x2.cells)=>an (cm1 hSw) (an (cm6 hSw) (an (cm7 hSw) (an (cm14 hSw) (CcJ hSw)))));refine tkJ 0 rfl hHeld ?_;refine tkJ 1 rfl hHeld ?_;(try simp only [Act.put,rxT,sxT]);refine tkJ 2 rfl hHeld ?_;refine tkJ 4 rfl hHeld ?_;(try simp only [Act.put,rxT,sxT]);refine tkJ 5 rfl hHeld ?_;refine tkJ 6 rfl hHeld ?_;(try simp only [Act.put,rxT,sxT]);refine tkJ 7 rfl hHeld ?_;refine tkJ 8 rfl hHeld ?_;(try simp only [Act.put,rxT,sxT]);refine tkJ 9 rfl hHeld ?_;(try simp only [Act.put,rxT,sxT]);refine wpAnyH_ready (rs:=[3,12]) (by kernel_rfl) (by simp) ?_;refine AllReadyH.cons rfl (fun K hK=>?c3_0) (AllReadyH.cons rfl (fun K hK=>?c12_0) AllReadyH.nil)
  case c3_0 =>
   (try simp only [rxT]);go_simp;refine (AdX x2.A x2.cl.length x2.a 0 x2.cl _ (by exact OK.o.c.step K6.o.bel) (by have:=HG2.o.c;omega)).mono ?_;rintro e w5_drew_1 ⟨A3,c3,rfl,ho,hb⟩;have K6_1:=η (K6.o.own hb ho);clear ho hb;(try go_wp2_with fail);refine hK.o _ _ (R3.o.step K6_1.o.bel) (fun hHeld=>?_);clear hK K;(try simp only [Act.put,rxT,sxT]);refine wpAnyH_ready (rs:=[10,12]) (by kernel_rfl) (by simp) ?_;refine AllReadyH.cons rfl (fun K hK=>?c10_1) (AllReadyH.cons rfl (fun K hK=>?c12_1) AllReadyH.nil)
   case c10_1 =>
    (try simp only [rxT]);go_simp;refine (AdX x2.B x2.rl.length x2.b 0 x2.rl _ (by exact OK.o.r.step K6_1.o.bel) (by have:=HG2.o.r;omega)).mono ?_;rintro e w5_drew_2 ⟨A4,c4,rfl,ho,hb⟩;have K6_2:=η (K6_1.o.own hb ho);clear ho hb;(try go_wp2_with fail);refine hK.o _ _ (R3.o.step K6_2.o.bel) (fun hHeld=>?_);clear hK K;(try simp only [Act.put,rxT,sxT]);refine wpAnyH_ready (rs:=[11,12]) (by kernel_rfl) (by simp) ?_;refine AllReadyH.cons rfl (fun K hK=>?c11_2) (AllReadyH.cons rfl (fun K hK=>?c12_2) AllReadyH.nil)
    case c11_2 =>
     (try simp only [rxT]);go_simp;refine (AgK w3 x A c es 200 100 mi (kk) _ _ _ K6_2.o 120 FK.o (by decide) (by decide) (by decide) A3 c3 x2.cl (K6_2.o.my.row (A3,x2.cl.length,c3,x2.cl) (by simp)) (by have:=HG2.o.c;omega) x2.i (In.aw.arg OK.o.i K6_2.o.bel K6_2.o.my.rn) (by have:=HG2.o.t;omega) x2.now OK.o.now A4 c4 x2.rl (K6_2.o.my.row (A4,x2.rl.length,c4,x2.rl) (by simp)) (by have:=HG2.o.r;omega) U HU.o (x2.now:Int) rfl).mono ?_;rintro e w5_drew_3 ⟨BU,dU,rfl,hz⟩;have K6_3:=η hz;clear hz;(try go_wp2_with fail);refine hK.o _ _ (R3.o.step K6_3.o.bel) (fun hHeld=>?_);clear hK K;refine rdI 12 rfl (fun K hK=>?_);(try simp only [Act.put,rxT,sxT]);rw [if_pos (by rfl)];refine AdY AbW rfl ?_;intro w5_drew_3a pv hc1 hb1 hx1;have K6_3a:=η (K6_3.o.new hb1 hc1 hx1);have HPV:=η hx1;clear hc1 hb1 hx1;refine hK.o _ _ (R3.o.step K6_3a.o.bel) (fun hHeld=>?_);clear hK K;refine rdI 13 rfl (fun K hK=>?_);(try simp only [Act.put,rxT,sxT]);rw [if_pos (by rfl)];refine AiV AbW _ _ rfl pv rfl (U) BU dU rfl zOc (by exact (K6_3a.o.rb (73,pv,zOc) (by simp)).1) AdJ ?_;intro w5_drew_3as hc1 ho1;have K6_3as:=η (K6_3.o.setNew K6_3a.o HPV.o ho1 hc1 (by decide) (by decide));clear hc1 ho1;refine hK.o _ _ (R3.o.step K6_3as.o.bel) (fun hHeld=>?_);clear hK K;(try simp only [Act.put,rxT,sxT]);refine wpAnyH_done (by kernel_rfl) ?_ _;exact FIN w5_drew_3as A3 c3 A4 c4 pv BU dU (η (K6_3as.o.sub (by simp) (fun r hr=>hr)))
    case c12_2 =>
     (try simp only [rxT]);rw [if_pos (by rfl)];refine AdY AbW rfl ?_;intro w5_drew_2a pv hc1 hb1 hx1;have K6_2a:=η (K6_2.o.new hb1 hc1 hx1);have HPV:=η hx1;clear hc1 hb1 hx1;refine hK.o _ _ (R3.o.step K6_2a.o.bel) (fun hHeld=>?_);clear hK K;refine rdI 11 rfl (fun K hK=>?_);(try simp only [Act.put,rxT,sxT]);go_simp;refine (AgK w3 x A c es 200 100 mi (kk) _ _ _ K6_2a.o 120 FK.o (by decide) (by decide) (by decide) A3 c3 x2.cl (K6_2a.o.my.row (A3,x2.cl.length,c3,x2.cl) (by simp)) (by have:=HG2.o.c;omega) x2.i (In.aw.arg OK.o.i K6_2a.o.bel K6_2a.o.my.rn) (by have:=HG2.o.t;omega) x2.now OK.o.now A4 c4 x2.rl (K6_2a.o.my.row (A4,x2.rl.length,c4,x2.rl) (by simp)) (by have:=HG2.o.r;omega) U HU.o (x2.now:Int) rfl).mono ?_;rintro e w5_drew_3a ⟨BU,dU,rfl,hz⟩;have K6_3a:=η hz;clear hz;(try go_wp2_with fail);refine hK.o _ _ (R3.o.step K6_3a.o.bel) (fun hHeld=>?_);clear hK K;refine rdI 13 rfl (fun K hK=>?_);(try simp only [Act.put,rxT,sxT]);rw [if_pos (by rfl)];refine AiV AbW _ _ rfl pv rfl (U) BU dU rfl zOc (by exact (K6_3a.o.rb (73,pv,zOc) (by simp)).1) AdJ ?_;intro w5_drew_3as hc1 ho1;have K6_3as:=η (K6_2.o.setNew K6_3a.o HPV.o ho1 hc1 (by decide) (by decide));clear hc1 ho1;refine hK.o _ _ (R3.o.step K6_3as.o.bel) (fun hHeld=>?_);clear hK K;(try simp only [Act.put,rxT,sxT]);refine wpAnyH_done (by kernel_rfl) ?_ _;exact FIN w5_drew_3as A3 c3 A4 c4 pv BU dU (η (K6_3as.o.sub (by simp) (fun r hr=>hr)))
   case c12_1 =>
    (try simp only [rxT]);rw [if_pos (by rfl)];refine AdY AbW rfl ?_;intro w5_drew_1a pv hc1 hb1 hx1;have K6_1a:=η (K6_1.o.new hb1 hc1 hx1);have HPV:=η hx1;clear hc1 hb1 hx1;refine hK.o _ _ (R3.o.step K6_1a.o.bel) (fun hHeld=>?_);clear hK K;refine rdI 10 rfl (fun K hK=>?_);(try simp only [Act.put,rxT,sxT]);go_simp;refine (AdX x2.B x2.rl.length x2.b 0 x2.rl _ (by exact OK.o.r.step K6_1a.o.bel) (by have:=HG2.o.r;omega)).mono ?_;rintro e w5_drew_2a ⟨A4,c4,rfl,ho,hb⟩;have K6_2a:=η (K6_1a.o.own hb ho);clear ho hb;(try go_wp2_with fail);refine hK.o _ _ (R3.o.step K6_2a.o.bel) (fun hHeld=>?_);clear hK K;refine rdI 11 rfl (fun K hK=>?_);(try simp only [Act.put,rxT,sxT]);go_simp;refine (AgK w3 x A c es 200 100 mi (kk) _ _ _ K6_2a.o 120 FK.o (by decide) (by decide) (by decide) A3 c3 x2.cl (K6_2a.o.my.row (A3,x2.cl.length,c3,x2.cl) (by simp)) (by have:=HG2.o.c;omega) x2.i (In.aw.arg OK.o.i K6_2a.o.bel K6_2a.o.my.rn) (by have:=HG2.o.t;omega) x2.now OK.o.now A4 c4 x2.rl (K6_2a.o.my.row (A4,x2.rl.length,c4,x2.rl) (by simp)) (by have:=HG2.o.r;omega) U HU.o (x2.now:Int) rfl).mono ?_;rintro e w5_drew_3a ⟨BU,dU,rfl,hz⟩;have K6_3a:=η hz;clear hz;(try go_wp2_with fail);refine hK.o _ _ (R3.o.step K6_3a.o.bel) (fun hHeld=>?_);clear hK K;refine rdI 13 rfl (fun K hK=>?_);(try simp only [Act.put,rxT,sxT]);rw [if_pos (by rfl)];refine AiV AbW _ _ rfl pv rfl (U) BU dU rfl zOc (by exact (K6_3a.o.rb (73,pv,zOc) (by simp)).1) AdJ ?_;intro w5_drew_3as hc1 ho1;have K6_3as:=η (K6_1.o.setNew K6_3a.o HPV.o ho1 hc1 (by decide) (by decide));clear hc1 ho1;refine hK.o _ _ (R3.o.step K6_3as.o.bel) (fun hHeld=>?_);clear hK K;(try simp only [Act.put,rxT,sxT]);refine wpAnyH_done (by kernel_rfl) ?_ _;exact FIN w5_drew_3as A3 c3 A4 c4 pv BU dU (η (K6_3as.o.sub (by simp) (fun r hr=>hr)))
  case c12_0 =>
   (try simp only [rxT]);rw [if_pos (by rfl)];refine AdY AbW rfl ?_;intro w5_drew_0a pv hc1 hb1 hx1;have K6_0a:=η (K6.o.new hb1 hc1 hx1);have HPV:=η hx1;clear hc1 hb1 hx1;refine hK.o _ _ (R3.o.step K6_0a.o.bel) (fun hHeld=>?_);clear hK K;refine rdI 3 rfl (fun K hK=>?_);(try simp only [Act.put,rxT,sxT]);go_simp;refine (AdX x2.A x2.cl.length x2.a 0 x2.cl _ (by exact OK.o.c.step K6_0a.o.bel) (by have:=HG2.o.c;omega)).mono ?_;rintro e w5_drew_1a ⟨A3,c3,rfl,ho,hb⟩;have K6_1a:=η (K6_0a.o.own hb ho);clear ho hb;(try go_wp2_with fail);refine hK.o _ _ (R3.o.step K6_1a.o.bel) (fun hHeld=>?_);clear hK K;refine rdI 10 rfl (fun K hK=>?_);(try simp only [Act.put,rxT,sxT]);go_simp;refine (AdX x2.B x2.rl.length x2.b 0 x2.rl _ (by exact OK.o.r.step K6_1a.o.bel) (by have:=HG2.o.r;omega)).mono ?_;rintro e w5_drew_2a ⟨A4,c4,rfl,ho,hb⟩;have K6_2a:=η (K6_1a.o.own hb ho);clear ho hb;(try go_wp2_with fail);refine hK.o _ _ (R3.o.step K6_2a.o.bel) (fun hHeld=>?_);clear hK K;refine rdI 11 rfl (fun K hK=>?_);(try simp only [Act.put,rxT,sxT]);go_simp;refine (AgK w3 x A c es 200 100 mi (kk) _ _ _ K6_2a.o 120 FK.o (by decide) (by decide) (by decide) A3 c3 x2.cl (K6_2a.o.my.row (A3,x2.cl.length,c3,x2.cl) (by simp)) (by have:=HG2.o.c;omega) x2.i (In.aw.arg OK.o.i K6_2a.o.bel K6_2a.o.my.rn) (by have:=HG2.o.t;omega) x2.now OK.o.now A4 c4 x2.rl (K6_2a.o.my.row (A4,x2.rl.length,c4,x2.rl) (by simp)) (by have:=HG2.o.r;omega) U HU.o (x2.now:Int) rfl).mono ?_;rintro e w5_drew_3a ⟨BU,dU,rfl,hz⟩;have K6_3a:=η hz;clear hz;(try go_wp2_with fail);refine hK.o _ _ (R3.o.step K6_3a.o.bel) (fun hHeld=>?_);clear hK K;refine rdI 13 rfl (fun K hK=>?_);(try simp only [Act.put,rxT,sxT]);rw [if_pos (by rfl)];refine AiV AbW _ _ rfl pv rfl (U) BU dU rfl zOc (by exact (K6_3a.o.rb (73,pv,zOc) (by simp)).1) AdJ ?_;intro w5_drew_3as hc1 ho1;have K6_3as:=η (K6.o.setNew K6_3a.o HPV.o ho1 hc1 (by decide) (by decide));clear hc1 ho1;refine hK.o _ _ (R3.o.step K6_3as.o.bel) (fun hHeld=>?_);clear hK K;(try simp only [Act.put,rxT,sxT]);refine wpAnyH_done (by kernel_rfl) ?_ _;exact FIN w5_drew_3as A3 c3 A4 c4 pv BU dU (η (K6_3as.o.sub (by simp) (fun r hr=>hr)))
 intro w6 A3 c3 A4 c4 pv BU dU K7
 try dsimp only
 go_wp2_with fail
 refine (AtX mi x (cntM (AbK kk) U) w6 (by exact K7.o.my.mb)).mono ?_
 rw [show (cntM (AbK kk) U).n=kk.n+1 from rfl,show (cntM (AbK kk) U).l=kk.l from rfl]
 rintro e w8 ⟨rfl,hb⟩
 have K8:=η (K7.o.step hb)
 clear hb
 have y1:IntKind.i64.wrap (kk.n+1)=kk.n+1:=IntWalk.i64_in _ (by have:=FK.o;unfold Ms.few at this;omega)
 go_wp2_with fail
 obtain ⟨TK,E,hO⟩:∃ T E,AdQ kk.s x2.cl x2.i.t x2.now=(T,E):=⟨_,_,rfl⟩
 have HO:=η hO
 clear hO y1
 apply fin3 (α:=World) (β:=Fd) (γ:=Nat) (F:=fun w7 f pz=>Hid (AZ w3 x A c es (200+2+1) (100+1+1) mi (cntM (AbK kk) U) [(BU,U.b.length,dU,U.b)] [(73,pv,ocC U BU dU)] w7))
 ·intro FIN
  have K9:=η (K8.o.step (Below.refl _ _).drew);refine wp_region_held_drew (S:=fun w'=>Blk 48 w' bx x2.cells) (by kernel_rfl) (R3.o.step K9.o.bel) (fun hHeld=>?_);(try dsimp only at hHeld);generalize w8.drew=w9 at K9 hHeld ⊢;have Ω:=η (fun (w:World) (hSw:Blk 48 w bx x2.cells)=>an (cm1 hSw) (an (cm6 hSw) (an (cm7 hSw) (an (cm14 hSw) (an (CcJ hSw) (cm12 hSw))))));refine tkJ 0 rfl hHeld ?_;refine tkJ 2 rfl hHeld ?_;(try simp only [Act.put,rxT,sxT]);refine tkJ 3 rfl hHeld ?_;refine tkJ 4 rfl hHeld ?_;(try simp only [Act.put,rxT,sxT]);refine tkJ 5 rfl hHeld ?_;refine tkJ 6 rfl hHeld ?_;(try simp only [Act.put,rxT,sxT]);refine tkJ 7 rfl hHeld ?_;refine tkJ 8 rfl hHeld ?_;(try simp only [Act.put,rxT,sxT]);refine wpAnyH_ready (rs:=[1,13]) (by kernel_rfl) (by simp) ?_;refine AllReadyH.cons rfl (fun K hK=>?c1_0) (AllReadyH.cons rfl (fun K hK=>?c13_0) AllReadyH.nil)
  case c1_0 =>
   (try simp only [rxT]);go_simp;refine (AhK mi x (cntM (AbK kk) U) _ (by exact K9.o.my.mb)).mono ?_;rintro e w9_1 ⟨rfl,hw⟩;have K9_1:=K9;rw [hw] at K9_1;clear hw;(try go_wp2_with fail);refine hK.o _ _ (R3.o.step K9_1.o.bel) (fun hHeld=>?_);clear hK K;(try simp only [Act.put,rxT,sxT]);refine wpAnyH_ready (rs:=[9,13]) (by kernel_rfl) (by simp) ?_;refine AllReadyH.cons rfl (fun K hK=>?c9_1) (AllReadyH.cons rfl (fun K hK=>?c13_1) AllReadyH.nil)
   case c9_1 =>
    (try simp only [rxT]);go_simp;refine (AxK K9_1.o.my (by decide) (by decide) x2.A x2.i.T x2.cl.length x2.a x2.i.t.length x2.i.e x2.cl x2.i.t (OK.o.c.step K9_1.o.bel) ((In.aw.arg OK.o.i K9_1.o.bel K9_1.o.my.rn).t) (by have:=HG2.o.c;omega) (by have:=HG2.o.t;omega) x2.now TK E HO.o).mono ?_;rintro e w9_2 ⟨f,rfl,hft,hown,hq⟩;have K9_2:=η (K9_1.o.box hq);have HFf:=η (And.intro hft hown.ok);clear hft hown hq;(try go_wp2_with fail);refine hK.o _ _ (R3.o.step K9_2.o.bel) (fun hHeld=>?_);clear hK K;refine tkJ 10 rfl hHeld ?_;refine tkJ 11 rfl hHeld ?_;(try simp only [Act.put,rxT,sxT]);refine tkJ 12 rfl hHeld ?_;refine rdI 13 rfl (fun K hK=>?_);(try simp only [Act.put,rxT,sxT]);rw [if_pos (by rfl)];refine AdY AfX rfl ?_;intro w9_2a pz hc1 hb1 hx1;have K9_2a:=η (K9_2.o.new hb1 hc1 hx1);have HPV:=η hx1;clear hc1 hb1 hx1;refine hK.o _ _ (R3.o.step K9_2a.o.bel) (fun hHeld=>?_);clear hK K;refine rdI 14 rfl (fun K hK=>?_);(try simp only [Act.put,rxT,sxT]);rw [if_pos (by rfl)];refine BoY AfX _ _ rfl pz rfl f rfl zeroF.cells (by exact (K9_2a.o.rb (77,pz,zeroF.cells) (by simp)).1) (by rfl) ?_;intro w9_2as hc1 ho1;have K9_2as:=η (K9_2.o.setNew K9_2a.o HPV.o ho1 hc1 (by decide) (by decide));clear hc1 ho1;refine hK.o _ _ (R3.o.step K9_2as.o.bel) (fun hHeld=>?_);clear hK K;refine tkJ 15 rfl hHeld ?_;(try simp only [Act.put,rxT,sxT]);refine wpAnyH_done (by kernel_rfl) ?_ _;exact FIN w9_2as f pz (η (K9_2as.o.sub (by simp) (by simp)))
   case c13_1 =>
    (try simp only [rxT]);rw [if_pos (by rfl)];refine AdY AfX rfl ?_;intro w9_1a pz hc1 hb1 hx1;have K9_1a:=η (K9_1.o.new hb1 hc1 hx1);have HPV:=η hx1;clear hc1 hb1 hx1;refine hK.o _ _ (R3.o.step K9_1a.o.bel) (fun hHeld=>?_);clear hK K;refine rdI 9 rfl (fun K hK=>?_);(try simp only [Act.put,rxT,sxT]);go_simp;refine (AxK K9_1a.o.my (by decide) (by decide) x2.A x2.i.T x2.cl.length x2.a x2.i.t.length x2.i.e x2.cl x2.i.t (OK.o.c.step K9_1a.o.bel) ((In.aw.arg OK.o.i K9_1a.o.bel K9_1a.o.my.rn).t) (by have:=HG2.o.c;omega) (by have:=HG2.o.t;omega) x2.now TK E HO.o).mono ?_;rintro e w9_2a ⟨f,rfl,hft,hown,hq⟩;have K9_2a:=η (K9_1a.o.box hq);have HFf:=η (And.intro hft hown.ok);clear hft hown hq;(try go_wp2_with fail);refine hK.o _ _ (R3.o.step K9_2a.o.bel) (fun hHeld=>?_);clear hK K;refine tkJ 10 rfl hHeld ?_;refine tkJ 11 rfl hHeld ?_;(try simp only [Act.put,rxT,sxT]);refine tkJ 12 rfl hHeld ?_;refine rdI 14 rfl (fun K hK=>?_);(try simp only [Act.put,rxT,sxT]);rw [if_pos (by rfl)];refine BoY AfX _ _ rfl pz rfl f rfl zeroF.cells (by exact (K9_2a.o.rb (77,pz,zeroF.cells) (by simp)).1) (by rfl) ?_;intro w9_2as hc1 ho1;have K9_2as:=η (K9_1.o.setNew K9_2a.o HPV.o ho1 hc1 (by decide) (by decide));clear hc1 ho1;refine hK.o _ _ (R3.o.step K9_2as.o.bel) (fun hHeld=>?_);clear hK K;refine tkJ 15 rfl hHeld ?_;(try simp only [Act.put,rxT,sxT]);refine wpAnyH_done (by kernel_rfl) ?_ _;exact FIN w9_2as f pz (η (K9_2as.o.sub (by simp) (by simp)))
  case c13_0 =>
   (try simp only [rxT]);rw [if_pos (by rfl)];refine AdY AfX rfl ?_;intro w9_0a pz hc1 hb1 hx1;have K9_0a:=η (K9.o.new hb1 hc1 hx1);have HPV:=η hx1;clear hc1 hb1 hx1;refine hK.o _ _ (R3.o.step K9_0a.o.bel) (fun hHeld=>?_);clear hK K;refine rdI 1 rfl (fun K hK=>?_);(try simp only [Act.put,rxT,sxT]);go_simp;refine (AhK mi x (cntM (AbK kk) U) _ (by exact K9_0a.o.my.mb)).mono ?_;rintro e w9_1a ⟨rfl,hw⟩;have K9_1a:=K9_0a;rw [hw] at K9_1a;clear hw;(try go_wp2_with fail);refine hK.o _ _ (R3.o.step K9_1a.o.bel) (fun hHeld=>?_);clear hK K;refine rdI 9 rfl (fun K hK=>?_);(try simp only [Act.put,rxT,sxT]);go_simp;refine (AxK K9_1a.o.my (by decide) (by decide) x2.A x2.i.T x2.cl.length x2.a x2.i.t.length x2.i.e x2.cl x2.i.t (OK.o.c.step K9_1a.o.bel) ((In.aw.arg OK.o.i K9_1a.o.bel K9_1a.o.my.rn).t) (by have:=HG2.o.c;omega) (by have:=HG2.o.t;omega) x2.now TK E HO.o).mono ?_;rintro e w9_2a ⟨f,rfl,hft,hown,hq⟩;have K9_2a:=η (K9_1a.o.box hq);have HFf:=η (And.intro hft hown.ok);clear hft hown hq;(try go_wp2_with fail);refine hK.o _ _ (R3.o.step K9_2a.o.bel) (fun hHeld=>?_);clear hK K;refine tkJ 10 rfl hHeld ?_;refine tkJ 11 rfl hHeld ?_;(try simp only [Act.put,rxT,sxT]);refine tkJ 12 rfl hHeld ?_;refine rdI 14 rfl (fun K hK=>?_);(try simp only [Act.put,rxT,sxT]);rw [if_pos (by rfl)];refine BoY AfX _ _ rfl pz rfl f rfl zeroF.cells (by exact (K9_2a.o.rb (77,pz,zeroF.cells) (by simp)).1) (by rfl) ?_;intro w9_2as hc1 ho1;have K9_2as:=η (K9.o.setNew K9_2a.o HPV.o ho1 hc1 (by decide) (by decide));clear hc1 ho1;refine hK.o _ _ (R3.o.step K9_2as.o.bel) (fun hHeld=>?_);clear hK K;refine tkJ 15 rfl hHeld ?_;(try simp only [Act.put,rxT,sxT]);refine wpAnyH_done (by kernel_rfl) ?_ _;exact FIN w9_2as f pz (η (K9_2as.o.sub (by simp) (by simp)))
 intro w10 f pz K10
 try dsimp only
 have OW:Hid ((U.k=0∧U.b=[]∧U.u=0∧(AbQ (AbK kk)=true→E=0∧x2.i.t≠[])∧(U.c=true→E=0∧x2.i.t≠[]))∨(U.k=1∧AbQ (AbK kk)=true∧¬(E=0∧x2.i.t≠[])∧U=AcJ kk.s kk.p.life x2.cl x2.i.pl x2.now x2.rl)∨(U.k=2∧U.e≠0∧U.b=[]∧U.u=0∧¬(E=0∧x2.i.t≠[]))):=η (by
  have z:=BmQ (k:=AbK kk) (c:=x2.cl) (p:=x2.i.pl) (now:=x2.now) (r:=x2.rl) K10.o.my.os
  rw [HU.o,show AdQ (AbK kk).s x2.cl x2.i.pl.2.1 x2.now=(TK,E) from HO.o] at z
  exact z)
 have QB:=η (show Blk 48 w10 bx x2.cells from R3.o.step K10.o.bel)
 by_cases hE:E=0
 rotate_left
 ·have NG:Hid (¬(E=0∧x2.i.t≠[])):=η (fun h=>hE h.1)
  have e0:(E == 0)=false:=beq_eq_false_iff_ne.2 hE;clear hE;rcases OW.o with ⟨hk,hb0,hu0,ha,hc⟩ | ⟨hk,ha,_,he⟩ | ⟨hk,he,hb0,hu0,_⟩
  ·have HA:Hid (AbQ (AbK kk)=false):=η (by rcases z:AbQ (AbK kk) with _ | _;rfl;exact absurd (ha z) NG.o)
   have HC:Hid (U.c=false):=η (by rcases z:U.c with _ | _;rfl;exact absurd (hc z) NG.o);have HW:=η (And.intro hk (And.intro hb0 hu0));clear hk hb0 hu0 ha hc;have z0:=oc0_ (show Blk 73 w10 pv (ocC U BU dU) from (K10.o.rb (73,pv,ocC U BU dU) (by simp)).1);rw [HW.o.1] at z0;go_wp2_with fail;refine (AfW mi x (cntM (AbK kk) U) w10 (by exact K10.o.my.mb) false (by exact HA.o)).mono ?_;rintro e w11 ⟨rfl,hb⟩;have K11:=η (K10.o.step hb);clear hb z0;have z1:=oc1_ (show Blk 73 w11 pv (ocC U BU dU) from (K11.o.rb (73,pv,ocC U BU dU) (by simp)).1);have z3:=oc3_ (show Blk 73 w11 pv (ocC U BU dU) from (K11.o.rb (73,pv,ocC U BU dU) (by simp)).1);have z4:=oc4_ (show Blk 73 w11 pv (ocC U BU dU) from (K11.o.rb (73,pv,ocC U BU dU) (by simp)).1);rw [HC.o] at z1;rw [show U.b.length=0 from by rw [HW.o.2.1];rfl] at z3;rw [HW.o.2.2] at z4;go_wp2_with fail;go_ret;exact ⟨rfl,AaJ B3.o K11.o.bel⟩
  ·have HW:=η (And.intro hk (And.intro ha he))
   have HA:=η ha;clear hk ha he;have z0:=oc0_ (show Blk 73 w10 pv (ocC U BU dU) from (K10.o.rb (73,pv,ocC U BU dU) (by simp)).1);have z3:=oc3_ (show Blk 73 w10 pv (ocC U BU dU) from (K10.o.rb (73,pv,ocC U BU dU) (by simp)).1);rw [HW.o.1] at z0;obtain ⟨_,hr20,_,hto,hfr,t,ht,hl,hf,hm,_⟩:=AyJ (s:=kk.s) (life:=kk.p.life) (c:=x2.cl) (r:=x2.rl) (p:=x2.i.pl) (now:=x2.now) K10.o.my.os OK.o.now (by rw [←HW.o.2.2];exact HW.o.1);have hto:x2.i.h.a.length≤20:=hto;have hfr:x2.i.h.b.length≤20:=hfr;have hl:t.length=48+x2.i.h.a.length:=hl;obtain ⟨hsp,hck⟩:=BeK (to:=x2.i.h.a) (frm:=x2.i.h.b) (sc:=AfK x2.rl) (t:=t) hto hfr (by rw [AmY hr20];omega) (by omega) (by omega);have hub:U.b=AdW x2.i.h.b (AfK x2.rl) t++stL x2.i.h.a (AdW x2.i.h.b (AfK x2.rl) t):=by rw [HW.o.2.2,hm];rfl
   have huu:U.u=20:=by rw [HW.o.2.2,hm];rfl
   have hln:U.b.length≤1000000:=by rw [hub,List.length_append,AqX,AuV,AmY hr20];omega
   rw [←hub] at hsp hck;generalize stL x2.i.h.a (AdW x2.i.h.b (AfK x2.rl) t)=st at hsp;have HS:=η (And.intro hsp (And.intro hck (And.intro huu (And.intro hln (AmY hr20)))));clear hr20 hto hfr ht hl hf hm hsp hck hub huu hln;go_wp2_with fail;refine (ApV BU U.b.length dU U.b w10 (by exact (K10.o.my.row (BU,U.b.length,dU,U.b) (by simp)).rb) (by exact (K10.o.my.row (BU,U.b.length,dU,U.b) (by simp)).cap) HS.o.2.2.2.1).mono ?_;rw [HS.o.1];rintro e w11 ⟨i21,rfl,hpl,hown,hb⟩;have K11:=η (K10.o.step hb);have HI:=η (And.intro hpl hown.ok);clear hb hpl hown z0 z3
   go_wp2_with (first
    | (refine atd 16 rfl ?_;refine AfZ AmW rfl rfl ?_;intro w12 pr hc1 hb1 hx1;have HNr:=η (And.intro hc1.blk (And.intro hb1 hx1));clear hc1 hb1 hx1)
    | (refine AmZ AmW rfl (.tmp 16) (.tmp 125) rfl pr rfl i21 zeroI i21.val rfl (by exact rfl) (by exact HNr.o.1) ?_;intro w13 hc1 ho1 hs1;have K13:=η (K11.o.new (AeJ HNr.o.2.1 HNr.o.2.2 ho1) hc1 HNr.o.2.2);have I13:=η (HI.o.2.step (AeJ HNr.o.2.1 HNr.o.2.2 ho1));clear hc1 ho1 hs1 HNr))
   refine (AfW mi x (cntM (AbK kk) U) w13 (by exact K13.o.my.mb) true (by exact HA.o)).mono ?_;rintro e w14 ⟨rfl,hb⟩;have K14:=η (K13.o.step hb);have I14:=η (I13.o.step hb);clear hb;have z4:=oc4_ (show Blk 73 w14 pv (ocC U BU dU) from (K14.o.rb (73,pv,ocC U BU dU) (by simp)).1);rw [HS.o.2.2.1] at z4;have q2:=(Ic.of (show Blk 81 w14 pr i21.cells from (K14.o.rb (81,pr,i21.cells) (by simp)).1)).c2;have q11:=cm11 (R3.o.step K14.o.bel);go_wp2_with fail;refine (BgJ _ _ _ _ _ _ _ _ i21.h.a x2.i.h.b w14 I14.o.h.a (OK.o.i.step K14.o.bel).h.b (Nat.le_trans I14.o.h.ca.1 I14.o.h.ca.2) (Nat.le_trans OK.o.i.h.cb.1 OK.o.i.h.cb.2)).mono ?_;rw [show i21.h.a=x2.i.h.b from congrArg (fun z:IPl=>z.1.2.2.1) HI.o.1,beq_self_eq_true];rintro e w15 ⟨rfl,qq,hw⟩;have K15:=η (K14.o.step (w':=w15) (by rw [hw];exact AdV (Below.refl _ _) _));clear hw z4 q2 q11;have z3:=oc3_ (show Blk 73 w15 pv (ocC U BU dU) from (K15.o.rb (73,pv,ocC U BU dU) (by simp)).1);have q10:=cm10 (R3.o.step K15.o.bel);go_wp2_with fail;refine (BpV BU x2.i.h.A U.b.length dU x2.i.h.a.length x2.i.h.c U.b x2.i.h.a w15 (by exact (K15.o.my.row (BU,U.b.length,dU,U.b) (by simp)).rb) (by exact (K15.o.my.row (BU,U.b.length,dU,U.b) (by simp)).cap) HS.o.2.2.2.1 (by exact (OK.o.i.step K15.o.bel).h.a) (by exact OK.o.i.h.ca)).mono ?_;rw [HS.o.2.1];rintro e w16 ⟨rfl,hb⟩;have K16:=η (K15.o.step hb);clear hb z3 q10;have q3:=(Ic.of (show Blk 81 w16 pr i21.cells from (K16.o.rb (81,pr,i21.cells) (by simp)).1)).c3;rw [show i21.h.b.length=9 from by rw [show i21.h.b=AfK x2.rl from congrArg (fun z:IPl=>z.1.2.2.2) HI.o.1];exact HS.o.2.2.2.2] at q3;go_wp2_with fail;go_ret;exact ⟨rfl,AaJ B3.o K16.o.bel⟩
  ·have HW:=η (And.intro hk (And.intro he (And.intro hb0 hu0)))
   clear hk he hb0 hu0;have z0:=oc0_ (show Blk 73 w10 pv (ocC U BU dU) from (K10.o.rb (73,pv,ocC U BU dU) (by simp)).1);have z2:=oc2_ (show Blk 73 w10 pv (ocC U BU dU) from (K10.o.rb (73,pv,ocC U BU dU) (by simp)).1);have z3:=oc3_ (show Blk 73 w10 pv (ocC U BU dU) from (K10.o.rb (73,pv,ocC U BU dU) (by simp)).1);have z4:=oc4_ (show Blk 73 w10 pv (ocC U BU dU) from (K10.o.rb (73,pv,ocC U BU dU) (by simp)).1);rw [HW.o.1] at z0;have ne:(U.e != 0)=true:=by simp [bne,HW.o.2.1]
   rw [show U.b.length=0 from by rw [HW.o.2.2.1];rfl] at z3;rw [HW.o.2.2.2] at z4;go_wp2_with fail;go_ret;exact ⟨rfl,AaJ B3.o K10.o.bel⟩
 subst hE
 have q12:=cm12 QB.o
 by_cases hT:x2.i.t=[]
 ·have NG:Hid (¬((0:Int)=0∧x2.i.t≠[])):=η (fun h=>h.2 hT)
  rw [show x2.i.t.length=0 from by rw [hT];rfl] at q12;clear hT;rcases OW.o with ⟨hk,hb0,hu0,ha,hc⟩ | ⟨hk,ha,_,he⟩ | ⟨hk,he,hb0,hu0,_⟩
  ·have HA:Hid (AbQ (AbK kk)=false):=η (by rcases z:AbQ (AbK kk) with _ | _;rfl;exact absurd (ha z) NG.o)
   have HC:Hid (U.c=false):=η (by rcases z:U.c with _ | _;rfl;exact absurd (hc z) NG.o);have HW:=η (And.intro hk (And.intro hb0 hu0));clear hk hb0 hu0 ha hc;have z0:=oc0_ (show Blk 73 w10 pv (ocC U BU dU) from (K10.o.rb (73,pv,ocC U BU dU) (by simp)).1);rw [HW.o.1] at z0;go_wp2_with fail;refine (AfW mi x (cntM (AbK kk) U) w10 (by exact K10.o.my.mb) false (by exact HA.o)).mono ?_;rintro e w11 ⟨rfl,hb⟩;have K11:=η (K10.o.step hb);clear hb z0;have z1:=oc1_ (show Blk 73 w11 pv (ocC U BU dU) from (K11.o.rb (73,pv,ocC U BU dU) (by simp)).1);have z3:=oc3_ (show Blk 73 w11 pv (ocC U BU dU) from (K11.o.rb (73,pv,ocC U BU dU) (by simp)).1);have z4:=oc4_ (show Blk 73 w11 pv (ocC U BU dU) from (K11.o.rb (73,pv,ocC U BU dU) (by simp)).1);rw [HC.o] at z1;rw [show U.b.length=0 from by rw [HW.o.2.1];rfl] at z3;rw [HW.o.2.2] at z4;go_wp2_with fail;go_ret;exact ⟨rfl,AaJ B3.o K11.o.bel⟩
  ·have HW:=η (And.intro hk (And.intro ha he))
   have HA:=η ha;clear hk ha he;have z0:=oc0_ (show Blk 73 w10 pv (ocC U BU dU) from (K10.o.rb (73,pv,ocC U BU dU) (by simp)).1);have z3:=oc3_ (show Blk 73 w10 pv (ocC U BU dU) from (K10.o.rb (73,pv,ocC U BU dU) (by simp)).1);rw [HW.o.1] at z0;obtain ⟨_,hr20,_,hto,hfr,t,ht,hl,hf,hm,_⟩:=AyJ (s:=kk.s) (life:=kk.p.life) (c:=x2.cl) (r:=x2.rl) (p:=x2.i.pl) (now:=x2.now) K10.o.my.os OK.o.now (by rw [←HW.o.2.2];exact HW.o.1);have hto:x2.i.h.a.length≤20:=hto;have hfr:x2.i.h.b.length≤20:=hfr;have hl:t.length=48+x2.i.h.a.length:=hl;obtain ⟨hsp,hck⟩:=BeK (to:=x2.i.h.a) (frm:=x2.i.h.b) (sc:=AfK x2.rl) (t:=t) hto hfr (by rw [AmY hr20];omega) (by omega) (by omega);have hub:U.b=AdW x2.i.h.b (AfK x2.rl) t++stL x2.i.h.a (AdW x2.i.h.b (AfK x2.rl) t):=by rw [HW.o.2.2,hm];rfl
   have huu:U.u=20:=by rw [HW.o.2.2,hm];rfl
   have hln:U.b.length≤1000000:=by rw [hub,List.length_append,AqX,AuV,AmY hr20];omega
   rw [←hub] at hsp hck;generalize stL x2.i.h.a (AdW x2.i.h.b (AfK x2.rl) t)=st at hsp;have HS:=η (And.intro hsp (And.intro hck (And.intro huu (And.intro hln (AmY hr20)))));clear hr20 hto hfr ht hl hf hm hsp hck hub huu hln;go_wp2_with fail;refine (ApV BU U.b.length dU U.b w10 (by exact (K10.o.my.row (BU,U.b.length,dU,U.b) (by simp)).rb) (by exact (K10.o.my.row (BU,U.b.length,dU,U.b) (by simp)).cap) HS.o.2.2.2.1).mono ?_;rw [HS.o.1];rintro e w11 ⟨i21,rfl,hpl,hown,hb⟩;have K11:=η (K10.o.step hb);have HI:=η (And.intro hpl hown.ok);clear hb hpl hown z0 z3
   go_wp2_with (first
    | (refine atd 16 rfl ?_;refine AfZ AmW rfl rfl ?_;intro w12 pr hc1 hb1 hx1;have HNr:=η (And.intro hc1.blk (And.intro hb1 hx1));clear hc1 hb1 hx1)
    | (refine AmZ AmW rfl (.tmp 16) (.tmp 125) rfl pr rfl i21 zeroI i21.val rfl (by exact rfl) (by exact HNr.o.1) ?_;intro w13 hc1 ho1 hs1;have K13:=η (K11.o.new (AeJ HNr.o.2.1 HNr.o.2.2 ho1) hc1 HNr.o.2.2);have I13:=η (HI.o.2.step (AeJ HNr.o.2.1 HNr.o.2.2 ho1));clear hc1 ho1 hs1 HNr))
   refine (AfW mi x (cntM (AbK kk) U) w13 (by exact K13.o.my.mb) true (by exact HA.o)).mono ?_;rintro e w14 ⟨rfl,hb⟩;have K14:=η (K13.o.step hb);have I14:=η (I13.o.step hb);clear hb;have z4:=oc4_ (show Blk 73 w14 pv (ocC U BU dU) from (K14.o.rb (73,pv,ocC U BU dU) (by simp)).1);rw [HS.o.2.2.1] at z4;have q2:=(Ic.of (show Blk 81 w14 pr i21.cells from (K14.o.rb (81,pr,i21.cells) (by simp)).1)).c2;have q11:=cm11 (R3.o.step K14.o.bel);go_wp2_with fail;refine (BgJ _ _ _ _ _ _ _ _ i21.h.a x2.i.h.b w14 I14.o.h.a (OK.o.i.step K14.o.bel).h.b (Nat.le_trans I14.o.h.ca.1 I14.o.h.ca.2) (Nat.le_trans OK.o.i.h.cb.1 OK.o.i.h.cb.2)).mono ?_;rw [show i21.h.a=x2.i.h.b from congrArg (fun z:IPl=>z.1.2.2.1) HI.o.1,beq_self_eq_true];rintro e w15 ⟨rfl,qq,hw⟩;have K15:=η (K14.o.step (w':=w15) (by rw [hw];exact AdV (Below.refl _ _) _));clear hw z4 q2 q11;have z3:=oc3_ (show Blk 73 w15 pv (ocC U BU dU) from (K15.o.rb (73,pv,ocC U BU dU) (by simp)).1);have q10:=cm10 (R3.o.step K15.o.bel);go_wp2_with fail;refine (BpV BU x2.i.h.A U.b.length dU x2.i.h.a.length x2.i.h.c U.b x2.i.h.a w15 (by exact (K15.o.my.row (BU,U.b.length,dU,U.b) (by simp)).rb) (by exact (K15.o.my.row (BU,U.b.length,dU,U.b) (by simp)).cap) HS.o.2.2.2.1 (by exact (OK.o.i.step K15.o.bel).h.a) (by exact OK.o.i.h.ca)).mono ?_;rw [HS.o.2.1];rintro e w16 ⟨rfl,hb⟩;have K16:=η (K15.o.step hb);clear hb z3 q10;have q3:=(Ic.of (show Blk 81 w16 pr i21.cells from (K16.o.rb (81,pr,i21.cells) (by simp)).1)).c3;rw [show i21.h.b.length=9 from by rw [show i21.h.b=AfK x2.rl from congrArg (fun z:IPl=>z.1.2.2.2) HI.o.1];exact HS.o.2.2.2.2] at q3;go_wp2_with fail;go_ret;exact ⟨rfl,AaJ B3.o K16.o.bel⟩
  ·have HW:=η (And.intro hk (And.intro he (And.intro hb0 hu0)))
   clear hk he hb0 hu0;have z0:=oc0_ (show Blk 73 w10 pv (ocC U BU dU) from (K10.o.rb (73,pv,ocC U BU dU) (by simp)).1);have z2:=oc2_ (show Blk 73 w10 pv (ocC U BU dU) from (K10.o.rb (73,pv,ocC U BU dU) (by simp)).1);have z3:=oc3_ (show Blk 73 w10 pv (ocC U BU dU) from (K10.o.rb (73,pv,ocC U BU dU) (by simp)).1);have z4:=oc4_ (show Blk 73 w10 pv (ocC U BU dU) from (K10.o.rb (73,pv,ocC U BU dU) (by simp)).1);rw [HW.o.1] at z0;have ne:(U.e != 0)=true:=by simp [bne,HW.o.2.1]
   rw [show U.b.length=0 from by rw [HW.o.2.2.1];rfl] at z3;rw [HW.o.2.2.2] at z4;go_wp2_with fail;go_ret;exact ⟨rfl,AaJ B3.o K10.o.bel⟩
 ·have d1:0<x2.i.t.length:=List.length_pos_iff.2 hT
  have d0:decide (0<x2.i.t.length)=true:=decide_eq_true d1;rcases OW.o with ⟨hk,hb0,hu0,_,_⟩ | ⟨_,_,h,_⟩ | ⟨_,_,_,_,h⟩;rotate_left
  ·exact absurd ⟨rfl,hT⟩ h
  ·exact absurd ⟨rfl,hT⟩ h
  have HW:=η (And.intro hk (And.intro hb0 hu0));clear hk hb0 hu0 hT;rcases ha:AbQ (AbK kk) with _ | _
  ·have HA:=η ha
   clear ha;rcases hc:U.c with _ | _
   ·have HC:=η hc
    clear hc;have z0:=oc0_ (show Blk 73 w10 pv (ocC U BU dU) from (K10.o.rb (73,pv,ocC U BU dU) (by simp)).1);rw [HW.o.1] at z0;go_wp2_with fail;refine (AfW mi x (cntM (AbK kk) U) w10 (by exact K10.o.my.mb) false (by exact HA.o)).mono ?_;rintro e w11 ⟨rfl,hb⟩;have K11:=η (K10.o.step hb);clear hb z0;have z1:=oc1_ (show Blk 73 w11 pv (ocC U BU dU) from (K11.o.rb (73,pv,ocC U BU dU) (by simp)).1);have z3:=oc3_ (show Blk 73 w11 pv (ocC U BU dU) from (K11.o.rb (73,pv,ocC U BU dU) (by simp)).1);have z4:=oc4_ (show Blk 73 w11 pv (ocC U BU dU) from (K11.o.rb (73,pv,ocC U BU dU) (by simp)).1);rw [HC.o] at z1;rw [show U.b.length=0 from by rw [HW.o.2.1];rfl] at z3;rw [HW.o.2.2] at z4;go_wp2_with fail;go_ret;exact ⟨rfl,AaJ B3.o K11.o.bel⟩
   ·have HC:=η hc
    clear hc;have z0:=oc0_ (show Blk 73 w10 pv (ocC U BU dU) from (K10.o.rb (73,pv,ocC U BU dU) (by simp)).1);rw [HW.o.1] at z0;go_wp2_with fail;refine (AfW mi x (cntM (AbK kk) U) w10 (by exact K10.o.my.mb) false (by exact HA.o)).mono ?_;rintro e w11 ⟨rfl,hb⟩;have K11:=η (K10.o.step hb);clear hb z0;have z1:=oc1_ (show Blk 73 w11 pv (ocC U BU dU) from (K11.o.rb (73,pv,ocC U BU dU) (by simp)).1);have z3:=oc3_ (show Blk 73 w11 pv (ocC U BU dU) from (K11.o.rb (73,pv,ocC U BU dU) (by simp)).1);have z4:=oc4_ (show Blk 73 w11 pv (ocC U BU dU) from (K11.o.rb (73,pv,ocC U BU dU) (by simp)).1);rw [HC.o] at z1;rw [show U.b.length=0 from by rw [HW.o.2.1];rfl] at z3;rw [HW.o.2.2] at z4;go_wp2_with fail;go_ret;exact ⟨rfl,AaJ B3.o K11.o.bel⟩
  ·have HA:=η ha
   clear ha;rcases hc:U.c with _ | _
   ·have HC:=η hc
    clear hc;have z0:=oc0_ (show Blk 73 w10 pv (ocC U BU dU) from (K10.o.rb (73,pv,ocC U BU dU) (by simp)).1);rw [HW.o.1] at z0;go_wp2_with fail;refine (AfW mi x (cntM (AbK kk) U) w10 (by exact K10.o.my.mb) true (by exact HA.o)).mono ?_;rintro e w11 ⟨rfl,hb⟩;have K11:=η (K10.o.step hb);clear hb z0;have z1:=oc1_ (show Blk 73 w11 pv (ocC U BU dU) from (K11.o.rb (73,pv,ocC U BU dU) (by simp)).1);have z3:=oc3_ (show Blk 73 w11 pv (ocC U BU dU) from (K11.o.rb (73,pv,ocC U BU dU) (by simp)).1);have z4:=oc4_ (show Blk 73 w11 pv (ocC U BU dU) from (K11.o.rb (73,pv,ocC U BU dU) (by simp)).1);rw [HC.o] at z1;rw [show U.b.length=0 from by rw [HW.o.2.1];rfl] at z3;rw [HW.o.2.2] at z4;go_wp2_with fail;go_ret;exact ⟨rfl,AaJ B3.o K11.o.bel⟩
   ·have HC:=η hc
    clear hc;have z0:=oc0_ (show Blk 73 w10 pv (ocC U BU dU) from (K10.o.rb (73,pv,ocC U BU dU) (by simp)).1);rw [HW.o.1] at z0;go_wp2_with fail;refine (AfW mi x (cntM (AbK kk) U) w10 (by exact K10.o.my.mb) true (by exact HA.o)).mono ?_;rintro e w11 ⟨rfl,hb⟩;have K11:=η (K10.o.step hb);clear hb z0;have z1:=oc1_ (show Blk 73 w11 pv (ocC U BU dU) from (K11.o.rb (73,pv,ocC U BU dU) (by simp)).1);have z3:=oc3_ (show Blk 73 w11 pv (ocC U BU dU) from (K11.o.rb (73,pv,ocC U BU dU) (by simp)).1);have z4:=oc4_ (show Blk 73 w11 pv (ocC U BU dU) from (K11.o.rb (73,pv,ocC U BU dU) (by simp)).1);rw [HC.o] at z1;rw [show U.b.length=0 from by rw [HW.o.2.1];rfl] at z3;rw [HW.o.2.2] at z4;go_wp2_with fail;go_ret;exact ⟨rfl,AaJ B3.o K11.o.bel⟩
