import Derived.Test.YthppjgdnibfefaaGreatMiV
set_option linter.all false
set_option maxRecDepth 100000
set_option maxHeartbeats 32000000
namespace Go.Proofs.YthppjgdnibfefaaGreat
open Tryz
open Go.RowKit
attribute [local go_sem ↓] DkY BnZ BsW
theorem fin3 {α β γ:Type} {F G:α→β→γ→Prop} {P:Prop} (h1:(∀ a b c,F a b c→G a b c)→P) (h2:∀ a b c,F a b c→G a b c):P:=h1 h2
theorem fin8 {α β γ δ ε ζ η θ:Type} {F G:α→β→γ→δ→ε→ζ→η→θ→Prop} {P:Prop} (h1:(∀ a b c d e f g h,F a b c d e f g h→G a b c d e f g h)→P) (h2:∀ a b c d e f g h,F a b c d e f g h→G a b c d e f g h):P:=h1 h2
theorem CzY {T:TypeId} {w:World} {b:Nat} {q:Cm} (h:Blk T w b q.cells):ldHd 48 (.pointer (some ⟨b,0,none⟩)) w=.ok (.value (.agg #[.int .i64 q.t,.int .i64 q.q,.int .i64 q.p.m,.bool q.p.sh,.int .i64 q.p.t,.int .u64 (q.p.life:Int),.slice q.A q.cl.length q.a,.slice q.B q.rl.length q.b,.int .u8 (q.i.h.f.toNat:Int),.int .u32 (q.i.h.v:Int),.slice q.i.h.A q.i.h.a.length q.i.h.c,.slice q.i.h.B q.i.h.b.length q.i.h.d,.slice q.i.T q.i.t.length q.i.e,.slice q.i.R q.i.r.length q.i.g,.int .u64 (q.now:Int)])) w:=CpJ h
theorem AZ.fresh {v w w':World} {x c N F N' F' mi n d:Nat} {A B:YA} {es:Ens} {k k':Ms} {rows0 rows:List Rw} {recs:List (TypeId×Nat×List Value)} {l:YB} (h0:AZ v x A c es N F mi k rows0 recs w) (h:AZ v x A c es N' F' mi k' rows recs w') (ho:OwnB w' w.heap.size B n d l):AZ v x A c es N' F' mi k' ((B,n,d,l)::rows) recs w' :=
 ⟨h.my.cons (Ra.own ho h0.my.rn),h.rb,fun r hr hn q hq hm=>by
  rcases List.mem_cons.1 hr with rfl | hr
  ·have h1:=(BbV ho _ hm).1
   have h2:=(h0.rb q hq).1.lt
   omega
  ·exact h.ap r hr hn q hq hm⟩
theorem new_two {s:Rg} (ok:okR s) (h:s≠[]) {t:YB} (ht:fstT t=(newR s).1) (hl:0<t.length):newR s=((newR s).1,true)∧seqT t=((newR s).1,true):=by
 have e:=BmV h
 have g:=(ok.g (s.getLast h) (List.getLast_mem h)).1
 refine ⟨by rw [e],?_⟩
 unfold seqT
 rw [ht,e,if_pos ⟨fun hn=>by rw [hn] at hl;exact absurd hl (Nat.lt_irrefl 0),by show (s.getLast h).1<128;omega⟩]
theorem MintNewest_walk (x0:Pn) (A1:YA) (n1 c1:Nat) (l1:List Cm) (x2:Cm) (w:World) (h0:x0.life<2 ^ 64) (h1:CMs w A1 n1 l1) (m1:n1≤c1∧c1≤maxLen) (h2:x2.ok w) :
  Calls prog 8 #[x0.val,.slice A1 n1 c1,x2.val] w fun e w'=>e=.returned (.bool true)∧Below w.heap.size w w':=by
 have H1:=η h1
 have M1:=η m1
 have H2:=η h2
 clear h0 h1 m1 h2
 go_enter func8,ntmps8
 go_wp2_with (first
  | (refine AaZ rfl 24 (.tmp 0) rfl x0 rfl ?_;intro wa q hc1 hb1 hx1;have HA:=η (And.intro hc1 (And.intro hb1 hx1));clear hc1 hb1 hx1)
  | (refine AiQ rfl 48 (.tmp 2) rfl x2 rfl ?_;intro wb bx hc1 hb1 hx1;have HB:=η (And.intro hc1 (And.intro hb1 hx1));clear hc1 hb1 hx1))
 refine (BbQ _).mono ?_
 rintro e w1 ⟨rfl,hb⟩
 have B1:Hid (Below w.heap.size w w1):=η (AaJ (AaJ HA.o.2.1 HB.o.2.1) hb)
 have Q1:=η ((HA.o.1.step HB.o.2.1).step hb)
 have R1:=η (HB.o.1.step hb)
 clear hb
 go_wp2_with fail
 refine (AnV A1 n1 c1 l1 w1 (by exact H1.o.step B1.o) (Nat.le_trans M1.o.1 M1.o.2)).mono ?_
 rintro e w2 ⟨v1,rfl,hb,hv⟩
 have B2:=η (AaJ B1.o hb)
 have Q2:=η (Q1.o.step hb)
 have R2:=η (R1.o.step hb)
 clear hb
 rcases v1 with _ | _
 case true =>
  clear hv;go_wp2_with fail;go_ret;exact ⟨rfl,B2.o⟩
 have HG1:=η (hv rfl)
 clear hv
 have ql:=CzY R2.o
 go_wp2_with fail
 clear ql
 refine (AnV (some ⟨w2.heap.size,0,none⟩) 1 1 [x2] (w2.alloc (.cells x2.cells.toArray 48)) (CMs.lit w2 x2 (H2.o.step B2.o) _ rfl _) (by unfold maxLen;omega)).mono ?_
 rintro e w3 ⟨v2,rfl,hb,hv⟩
 have S3:Hid (Below w2.heap.size w2 w3):=η (AaJ (AaK _ _) hb)
 have B3:=η (AaJ B2.o S3.o)
 have Q3:=η (Q2.o.step S3.o)
 have R3:=η (R2.o.step S3.o)
 clear hb
 rcases v2 with _ | _
 case true =>
  clear hv;go_wp2_with fail;go_ret;exact ⟨rfl,B3.o⟩
 have HG2:Hid x2.sm:=η ((hv rfl).2 x2 (by simp))
 clear hv
 have r14:=cm14 R3.o
 by_cases hnow:x2.now≤1152921504606846976
 rotate_left
 ·have dn:decide (1152921504606846976<(x2.now:Int))=true:=decide_eq_true (by omega)
  have dn2:1152921504606846976<x2.now:=by omega
  go_wp2_with fail;go_ret;exact ⟨rfl,B3.o⟩
 have dn:decide (1152921504606846976<(x2.now:Int))=false:=decide_eq_false (by omega)
 have dn2:¬1152921504606846976<x2.now:=by omega
 have HNOW:=η hnow
 clear hnow
 go_wp2_with (first
  | (refine atd 31 rfl ?_;refine AbZ ApX rfl (.tmp 3) rfl q rfl x0 _ (by exact Q3.o) (by exact AhQ x0) ?_))
 refine (BrJ x0 A1 n1 c1 l1 w3 (H1.o.step B3.o) HG1.o.1 HG1.o.2).mono ?_
 rintro e w4 ⟨hb,hc⟩
 have B4:=η (AaJ B3.o hb)
 have Q4:=η (Q3.o.step hb)
 clear hb
 rcases hc with ⟨hr,rfl⟩ | ⟨hr,mi,x,A,c,es,rfl,hmy⟩
 ·have HV:=η hr
  clear hr
  go_wp2_with (first
   | (refine atd 36 rfl ?_;refine AbZ ApX rfl (.tmp 3) rfl q rfl x0 _ (by exact Q4.o) (by exact AhQ x0) ?_))
  refine (AsZ x0 w4).mono ?_;rintro e w5 ⟨rfl,hb⟩;have B5:=η (AaJ B4.o hb);clear hb;go_wp2_with fail;refine (AjV x0 w5 false HV.o).mono ?_;rintro e w6 ⟨rfl,hb⟩;have B6:=η (AaJ B5.o hb);clear hb;go_wp2_with fail;go_ret;exact ⟨rfl,B6.o⟩
 obtain ⟨kk,hkk⟩:∃ kk,upM x0 l1 n1=kk:=⟨_,rfl⟩
 have FK:Hid (kk.few 120):=η (by rw [←hkk];exact (BnY x0 l1 n1).more (by have:=HG1.o.1;omega))
 rw [hkk] at hmy
 have K4:=η (AZ.of_my hmy)
 have OK:Hid (x2.ok w3):=η (H2.o.step B3.o)
 clear hkk hmy hr
 clear r14 dn dn2
 go_wp2_with fail
 obtain ⟨U,hU⟩:∃ U,outM (AbK kk) x2.cl x2.i.pl x2.now x2.rl=U:=⟨_,rfl⟩
 have HU:=η hU
 clear hU
 apply fin8 (α:=World) (β:=Option Addr) (γ:=Nat) (δ:=Option Addr) (ε:=Nat) (ζ:=Nat) (η:=Option Addr) (θ:=Nat) (F:=fun w7 A3 c3 A4 c4 pv BU dU=>Hid (AZ w3 x A c es (200+2) (100+1) mi (cntM (AbK kk) U) [(BU,U.b.length,dU,U.b)] [(73,pv,ocC U BU dU)] w7))
 ·intro FIN
  have K6:=η (K4.o.step (Below.refl _ _).drew);refine wp_region_held_drew (S:=fun w'=>Blk 48 w' bx x2.cells) (by kernel_rfl) (R3.o.step K6.o.bel) (fun hHeld=>?_);(try dsimp only at hHeld);have Ω:=η (fun (w:World) (hSw:Blk 48 w bx x2.cells)=>an (cm1 hSw) (an (cm6 hSw) (an (cm7 hSw) (an (cm14 hSw) (CcJ hSw)))));refine tkJ 0 rfl hHeld ?_;refine tkJ 1 rfl hHeld ?_;(try simp only [Act.put,rxT,sxT]);refine tkJ 2 rfl hHeld ?_;refine tkJ 4 rfl hHeld ?_;(try simp only [Act.put,rxT,sxT]);refine tkJ 5 rfl hHeld ?_;refine tkJ 6 rfl hHeld ?_;(try simp only [Act.put,rxT,sxT]);refine tkJ 7 rfl hHeld ?_;refine tkJ 8 rfl hHeld ?_;(try simp only [Act.put,rxT,sxT]);refine tkJ 9 rfl hHeld ?_;(try simp only [Act.put,rxT,sxT]);refine wpAnyH_ready (rs:=[3,12]) (by kernel_rfl) (by simp) ?_;refine AllReadyH.cons rfl (fun K hK=>?c3_0) (AllReadyH.cons rfl (fun K hK=>?c12_0) AllReadyH.nil)
  case c3_0 =>
   (try simp only [rxT]);go_simp;refine (AdX x2.A x2.cl.length x2.a 0 x2.cl _ (by exact OK.o.c.step K6.o.bel) (by have:=HG2.o.c;omega)).mono ?_;rintro e w4_drew_1 ⟨A3,c3,rfl,ho,hb⟩;have K6_1:=η (K6.o.own hb ho);clear ho hb;(try go_wp2_with fail);refine hK.o _ _ (R3.o.step K6_1.o.bel) (fun hHeld=>?_);clear hK K;(try simp only [Act.put,rxT,sxT]);refine wpAnyH_ready (rs:=[10,12]) (by kernel_rfl) (by simp) ?_;refine AllReadyH.cons rfl (fun K hK=>?c10_1) (AllReadyH.cons rfl (fun K hK=>?c12_1) AllReadyH.nil)
   case c10_1 =>
    (try simp only [rxT]);go_simp;refine (AdX x2.B x2.rl.length x2.b 0 x2.rl _ (by exact OK.o.r.step K6_1.o.bel) (by have:=HG2.o.r;omega)).mono ?_;rintro e w4_drew_2 ⟨A4,c4,rfl,ho,hb⟩;have K6_2:=η (K6_1.o.own hb ho);clear ho hb;(try go_wp2_with fail);refine hK.o _ _ (R3.o.step K6_2.o.bel) (fun hHeld=>?_);clear hK K;(try simp only [Act.put,rxT,sxT]);refine wpAnyH_ready (rs:=[11,12]) (by kernel_rfl) (by simp) ?_;refine AllReadyH.cons rfl (fun K hK=>?c11_2) (AllReadyH.cons rfl (fun K hK=>?c12_2) AllReadyH.nil)
    case c11_2 =>
     (try simp only [rxT]);go_simp;refine (AgK w3 x A c es 200 100 mi (kk) _ _ _ K6_2.o 120 FK.o (by decide) (by decide) (by decide) A3 c3 x2.cl (K6_2.o.my.row (A3,x2.cl.length,c3,x2.cl) (by simp)) (by have:=HG2.o.c;omega) x2.i (In.aw.arg OK.o.i K6_2.o.bel K6_2.o.my.rn) (by have:=HG2.o.t;omega) x2.now OK.o.now A4 c4 x2.rl (K6_2.o.my.row (A4,x2.rl.length,c4,x2.rl) (by simp)) (by have:=HG2.o.r;omega) U HU.o (x2.now:Int) rfl).mono ?_;rintro e w4_drew_3 ⟨BU,dU,rfl,hz⟩;have K6_3:=η hz;clear hz;(try go_wp2_with fail);refine hK.o _ _ (R3.o.step K6_3.o.bel) (fun hHeld=>?_);clear hK K;refine rdI 12 rfl (fun K hK=>?_);(try simp only [Act.put,rxT,sxT]);rw [if_pos (by rfl)];refine AdY AbW rfl ?_;intro w4_drew_3a pv hc1 hb1 hx1;have K6_3a:=η (K6_3.o.new hb1 hc1 hx1);have HPV:=η hx1;clear hc1 hb1 hx1;refine hK.o _ _ (R3.o.step K6_3a.o.bel) (fun hHeld=>?_);clear hK K;refine rdI 13 rfl (fun K hK=>?_);(try simp only [Act.put,rxT,sxT]);rw [if_pos (by rfl)];refine AiV AbW _ _ rfl pv rfl (U) BU dU rfl zOc (by exact (K6_3a.o.rb (73,pv,zOc) (by simp)).1) AdJ ?_;intro w4_drew_3as hc1 ho1;have K6_3as:=η (K6_3.o.setNew K6_3a.o HPV.o ho1 hc1 (by decide) (by decide));clear hc1 ho1;refine hK.o _ _ (R3.o.step K6_3as.o.bel) (fun hHeld=>?_);clear hK K;(try simp only [Act.put,rxT,sxT]);refine wpAnyH_done (by kernel_rfl) ?_ _;exact FIN w4_drew_3as A3 c3 A4 c4 pv BU dU (η (K6_3as.o.sub (by simp) (fun r hr=>hr)))
    case c12_2 =>
     (try simp only [rxT]);rw [if_pos (by rfl)];refine AdY AbW rfl ?_;intro w4_drew_2a pv hc1 hb1 hx1;have K6_2a:=η (K6_2.o.new hb1 hc1 hx1);have HPV:=η hx1;clear hc1 hb1 hx1;refine hK.o _ _ (R3.o.step K6_2a.o.bel) (fun hHeld=>?_);clear hK K;refine rdI 11 rfl (fun K hK=>?_);(try simp only [Act.put,rxT,sxT]);go_simp;refine (AgK w3 x A c es 200 100 mi (kk) _ _ _ K6_2a.o 120 FK.o (by decide) (by decide) (by decide) A3 c3 x2.cl (K6_2a.o.my.row (A3,x2.cl.length,c3,x2.cl) (by simp)) (by have:=HG2.o.c;omega) x2.i (In.aw.arg OK.o.i K6_2a.o.bel K6_2a.o.my.rn) (by have:=HG2.o.t;omega) x2.now OK.o.now A4 c4 x2.rl (K6_2a.o.my.row (A4,x2.rl.length,c4,x2.rl) (by simp)) (by have:=HG2.o.r;omega) U HU.o (x2.now:Int) rfl).mono ?_;rintro e w4_drew_3a ⟨BU,dU,rfl,hz⟩;have K6_3a:=η hz;clear hz;(try go_wp2_with fail);refine hK.o _ _ (R3.o.step K6_3a.o.bel) (fun hHeld=>?_);clear hK K;refine rdI 13 rfl (fun K hK=>?_);(try simp only [Act.put,rxT,sxT]);rw [if_pos (by rfl)];refine AiV AbW _ _ rfl pv rfl (U) BU dU rfl zOc (by exact (K6_3a.o.rb (73,pv,zOc) (by simp)).1) AdJ ?_;intro w4_drew_3as hc1 ho1;have K6_3as:=η (K6_2.o.setNew K6_3a.o HPV.o ho1 hc1 (by decide) (by decide));clear hc1 ho1;refine hK.o _ _ (R3.o.step K6_3as.o.bel) (fun hHeld=>?_);clear hK K;(try simp only [Act.put,rxT,sxT]);refine wpAnyH_done (by kernel_rfl) ?_ _;exact FIN w4_drew_3as A3 c3 A4 c4 pv BU dU (η (K6_3as.o.sub (by simp) (fun r hr=>hr)))
   case c12_1 =>
    (try simp only [rxT]);rw [if_pos (by rfl)];refine AdY AbW rfl ?_;intro w4_drew_1a pv hc1 hb1 hx1;have K6_1a:=η (K6_1.o.new hb1 hc1 hx1);have HPV:=η hx1;clear hc1 hb1 hx1;refine hK.o _ _ (R3.o.step K6_1a.o.bel) (fun hHeld=>?_);clear hK K;refine rdI 10 rfl (fun K hK=>?_);(try simp only [Act.put,rxT,sxT]);go_simp;refine (AdX x2.B x2.rl.length x2.b 0 x2.rl _ (by exact OK.o.r.step K6_1a.o.bel) (by have:=HG2.o.r;omega)).mono ?_;rintro e w4_drew_2a ⟨A4,c4,rfl,ho,hb⟩;have K6_2a:=η (K6_1a.o.own hb ho);clear ho hb;(try go_wp2_with fail);refine hK.o _ _ (R3.o.step K6_2a.o.bel) (fun hHeld=>?_);clear hK K;refine rdI 11 rfl (fun K hK=>?_);(try simp only [Act.put,rxT,sxT]);go_simp;refine (AgK w3 x A c es 200 100 mi (kk) _ _ _ K6_2a.o 120 FK.o (by decide) (by decide) (by decide) A3 c3 x2.cl (K6_2a.o.my.row (A3,x2.cl.length,c3,x2.cl) (by simp)) (by have:=HG2.o.c;omega) x2.i (In.aw.arg OK.o.i K6_2a.o.bel K6_2a.o.my.rn) (by have:=HG2.o.t;omega) x2.now OK.o.now A4 c4 x2.rl (K6_2a.o.my.row (A4,x2.rl.length,c4,x2.rl) (by simp)) (by have:=HG2.o.r;omega) U HU.o (x2.now:Int) rfl).mono ?_;rintro e w4_drew_3a ⟨BU,dU,rfl,hz⟩;have K6_3a:=η hz;clear hz;(try go_wp2_with fail);refine hK.o _ _ (R3.o.step K6_3a.o.bel) (fun hHeld=>?_);clear hK K;refine rdI 13 rfl (fun K hK=>?_);(try simp only [Act.put,rxT,sxT]);rw [if_pos (by rfl)];refine AiV AbW _ _ rfl pv rfl (U) BU dU rfl zOc (by exact (K6_3a.o.rb (73,pv,zOc) (by simp)).1) AdJ ?_;intro w4_drew_3as hc1 ho1;have K6_3as:=η (K6_1.o.setNew K6_3a.o HPV.o ho1 hc1 (by decide) (by decide));clear hc1 ho1;refine hK.o _ _ (R3.o.step K6_3as.o.bel) (fun hHeld=>?_);clear hK K;(try simp only [Act.put,rxT,sxT]);refine wpAnyH_done (by kernel_rfl) ?_ _;exact FIN w4_drew_3as A3 c3 A4 c4 pv BU dU (η (K6_3as.o.sub (by simp) (fun r hr=>hr)))
  case c12_0 =>
   (try simp only [rxT]);rw [if_pos (by rfl)];refine AdY AbW rfl ?_;intro w4_drew_0a pv hc1 hb1 hx1;have K6_0a:=η (K6.o.new hb1 hc1 hx1);have HPV:=η hx1;clear hc1 hb1 hx1;refine hK.o _ _ (R3.o.step K6_0a.o.bel) (fun hHeld=>?_);clear hK K;refine rdI 3 rfl (fun K hK=>?_);(try simp only [Act.put,rxT,sxT]);go_simp;refine (AdX x2.A x2.cl.length x2.a 0 x2.cl _ (by exact OK.o.c.step K6_0a.o.bel) (by have:=HG2.o.c;omega)).mono ?_;rintro e w4_drew_1a ⟨A3,c3,rfl,ho,hb⟩;have K6_1a:=η (K6_0a.o.own hb ho);clear ho hb;(try go_wp2_with fail);refine hK.o _ _ (R3.o.step K6_1a.o.bel) (fun hHeld=>?_);clear hK K;refine rdI 10 rfl (fun K hK=>?_);(try simp only [Act.put,rxT,sxT]);go_simp;refine (AdX x2.B x2.rl.length x2.b 0 x2.rl _ (by exact OK.o.r.step K6_1a.o.bel) (by have:=HG2.o.r;omega)).mono ?_;rintro e w4_drew_2a ⟨A4,c4,rfl,ho,hb⟩;have K6_2a:=η (K6_1a.o.own hb ho);clear ho hb;(try go_wp2_with fail);refine hK.o _ _ (R3.o.step K6_2a.o.bel) (fun hHeld=>?_);clear hK K;refine rdI 11 rfl (fun K hK=>?_);(try simp only [Act.put,rxT,sxT]);go_simp;refine (AgK w3 x A c es 200 100 mi (kk) _ _ _ K6_2a.o 120 FK.o (by decide) (by decide) (by decide) A3 c3 x2.cl (K6_2a.o.my.row (A3,x2.cl.length,c3,x2.cl) (by simp)) (by have:=HG2.o.c;omega) x2.i (In.aw.arg OK.o.i K6_2a.o.bel K6_2a.o.my.rn) (by have:=HG2.o.t;omega) x2.now OK.o.now A4 c4 x2.rl (K6_2a.o.my.row (A4,x2.rl.length,c4,x2.rl) (by simp)) (by have:=HG2.o.r;omega) U HU.o (x2.now:Int) rfl).mono ?_;rintro e w4_drew_3a ⟨BU,dU,rfl,hz⟩;have K6_3a:=η hz;clear hz;(try go_wp2_with fail);refine hK.o _ _ (R3.o.step K6_3a.o.bel) (fun hHeld=>?_);clear hK K;refine rdI 13 rfl (fun K hK=>?_);(try simp only [Act.put,rxT,sxT]);rw [if_pos (by rfl)];refine AiV AbW _ _ rfl pv rfl (U) BU dU rfl zOc (by exact (K6_3a.o.rb (73,pv,zOc) (by simp)).1) AdJ ?_;intro w4_drew_3as hc1 ho1;have K6_3as:=η (K6.o.setNew K6_3a.o HPV.o ho1 hc1 (by decide) (by decide));clear hc1 ho1;refine hK.o _ _ (R3.o.step K6_3as.o.bel) (fun hHeld=>?_);clear hK K;(try simp only [Act.put,rxT,sxT]);refine wpAnyH_done (by kernel_rfl) ?_ _;exact FIN w4_drew_3as A3 c3 A4 c4 pv BU dU (η (K6_3as.o.sub (by simp) (fun r hr=>hr)))
 intro w6 A3 c3 A4 c4 pv BU dU K7
 try dsimp only
 by_cases hk:U.k=1
 rotate_left
 ·have z0:=oc0_ (show Blk 73 w6 pv (ocC U BU dU) from (K7.o.rb (73,pv,ocC U BU dU) (by simp)).1)
  have n0:(U.k != 1)=true:=by simp [bne,hk]
  go_wp2_with fail;go_ret;exact ⟨rfl,AaJ B3.o K7.o.bel⟩
 have z0:=oc0_ (show Blk 73 w6 pv (ocC U BU dU) from (K7.o.rb (73,pv,ocC U BU dU) (by simp)).1)
 have z3:=oc3_ (show Blk 73 w6 pv (ocC U BU dU) from (K7.o.rb (73,pv,ocC U BU dU) (by simp)).1)
 rw [hk] at z0
 have he:U=AcJ kk.s kk.p.life x2.cl x2.i.pl x2.now x2.rl:=by
  have z:=BmQ (k:=AbK kk) (c:=x2.cl) (p:=x2.i.pl) (now:=x2.now) (r:=x2.rl) K7.o.my.os;rw [HU.o] at z;rcases z with z | z | z
  ·exact absurd (hk.symm.trans z.1) (by decide)
  ·exact z.2.2.2
  ·exact absurd (hk.symm.trans z.1) (by decide)
 obtain ⟨hs0,hr20,_,hto,hfr,t,ht,hl,hf,hm,hop⟩:=AyJ (s:=kk.s) (life:=kk.p.life) (c:=x2.cl) (r:=x2.rl) (p:=x2.i.pl) (now:=x2.now) K7.o.my.os OK.o.now (by rw [←he];exact hk)
 have hto:x2.i.h.a.length≤20:=hto
 have hfr:x2.i.h.b.length≤20:=hfr
 have hl:t.length=48+x2.i.h.a.length:=hl
 obtain ⟨hsp,hck⟩:=BeK (to:=x2.i.h.a) (frm:=x2.i.h.b) (sc:=AfK x2.rl) (t:=t) hto hfr (by rw [AmY hr20];omega) (by omega) (by omega)
 have hub:U.b=AdW x2.i.h.b (AfK x2.rl) t++stL x2.i.h.a (AdW x2.i.h.b (AfK x2.rl) t):=by rw [he,hm];rfl
 have hln:U.b.length≤1000000:=by rw [hub,List.length_append,AqX,AuV,AmY hr20];omega
 rw [←hub] at hsp
 generalize stL x2.i.h.a (AdW x2.i.h.b (AfK x2.rl) t)=st at hsp
 have hlife:kk.p.life≤1099511627776:=(of_decide_eq_true (show AcX kk.p=true from K7.o.my.pr)).2.2
 have hop:AdQ kk.s x2.cl t x2.now=(⟨x2.now+kk.p.life,x2.i.h.a,AfK x2.rl⟩,0):=by
  rw [hop x2.now,if_neg (Nat.not_lt.2 (until_ge OK.o.now)),EhZ HNOW.o hlife];rfl
 have HS:=η (And.intro hsp (And.intro hln (And.intro hop (And.intro hl hlife))))
 have HN:=η (new_two (s:=kk.s) K7.o.my.os hs0 hf (by omega))
 clear hr20 hto hfr ht hl hf hm hsp hck hub hln hop he hk hs0 hlife
 go_wp2_with fail
 refine (ApV BU U.b.length dU U.b w6 (by exact (K7.o.my.row (BU,U.b.length,dU,U.b) (by simp)).rb) (by exact (K7.o.my.row (BU,U.b.length,dU,U.b) (by simp)).cap) HS.o.2.1).mono ?_
 rw [HS.o.1]
 rintro e w8 ⟨i21,rfl,hpl,hown,hb⟩
 have K8:=η (AZ.fresh K7.o (K7.o.own hb hown.t) hown.h.b)
 have HI:=η (And.intro hpl hown.ok)
 have htt:i21.t=t:=congrArg (fun z:IPl=>z.2.1) hpl
 have HTT:=η htt
 clear hb hpl hown htt z0 z3
 go_wp2_with (first
  | (refine atd 9 rfl ?_;refine AfZ AmW rfl rfl ?_;intro w9 pr hc1 hb1 hx1;have HNr:=η (And.intro hc1.blk (And.intro hb1 hx1));clear hc1 hb1 hx1)
  | (refine AmZ AmW rfl (.tmp 9) (.tmp 59) rfl pr rfl i21 zeroI i21.val rfl (by exact rfl) (by exact HNr.o.1) ?_;intro w10 hc1 ho1 hs1;have K10:=η (K8.o.new (AeJ HNr.o.2.1 HNr.o.2.2 ho1) hc1 HNr.o.2.2);have I10:=η (HI.o.2.step (AeJ HNr.o.2.1 HNr.o.2.2 ho1));clear hc1 ho1 hs1 HNr))
 refine (AhK mi x (cntM (AbK kk) U) w10 (by exact K10.o.my.mb)).mono ?_
 rintro e w11 ⟨rfl,hw⟩
 subst hw
 go_wp2_with fail
 refine (CjQ w3.heap.size x A c es _ _ w10 (by exact K10.o.my.rn) (by have:=K10.o.my.len;omega)).mono ?_
 rw [show newR (rgE es)=((newR kk.s).1,true) from by rw [K10.o.my.ee];exact HN.o.1]
 rintro e w12 ⟨rfl,hb⟩
 have K12:=η (K10.o.step hb)
 have I12:=η (I10.o.step hb)
 clear hb
 have q4:=(Ic.of (show Blk 81 w12 pr i21.cells from (K12.o.rb (81,pr,i21.cells) (by simp)).1)).c4
 go_wp2_with fail
 refine (CwJ i21.T i21.t.length i21.e i21.t w12 (by exact I12.o.t) (by rw [HTT.o,HS.o.2.2.2.1];have:=HG2.o.a;omega) (newR kk.s).1 true (by rw [HTT.o];exact HN.o.2)).mono ?_
 rintro e w13 ⟨rfl,hw⟩
 subst hw
 clear q4
 go_wp2_with fail
 obtain ⟨TK,hTK⟩:∃ T,AdQ kk.s x2.cl i21.t x2.now=(T,0):=⟨_,by rw [HTT.o];exact HS.o.2.2.1⟩
 have HTK:Hid (TK=⟨x2.now+kk.p.life,x2.i.h.a,AfK x2.rl⟩):=η (by rw [HTT.o,HS.o.2.2.1] at hTK;exact (congrArg Prod.fst hTK).symm)
 have HO:=η hTK
 clear hTK
 apply fin3 (α:=World) (β:=Fd) (γ:=Nat) (F:=fun w7 f pz=>Hid (AZ w3 x A c es (200+2+1) (100+1+1) mi (cntM (AbK kk) U) ([(f.A,f.o.length,f.c,f.o),(f.B,f.s.length,f.d,f.s)]++[(i21.h.B,i21.h.b.length,i21.h.d,i21.h.b),(i21.T,i21.t.length,i21.e,i21.t),(BU,U.b.length,dU,U.b)]) [(77,pz,f.cells),(81,pr,i21.cells)] w7∧f.tk=TK∧f.e<2 ^ 64))
 ·intro FIN
  have K14:=η (K12.o.step (Below.refl _ _).drew);refine wp_region_held_drew (S:=fun w'=>Blk 48 w' bx x2.cells∧Blk 81 w' pr i21.cells) (by kernel_rfl) (And.intro (R3.o.step K14.o.bel) (K14.o.rb (81,pr,i21.cells) (by simp)).1) (fun hHeld=>?_);(try dsimp only at hHeld);generalize w12.drew=w14 at K14 hHeld ⊢;have Ω:=η (fun (w:World) (hSw:Blk 48 w bx x2.cells∧Blk 81 w pr i21.cells)=>an (cm6 hSw.1) (an (cm14 hSw.1) ((Ic.of hSw.2).c4)));refine tkJ 0 rfl hHeld ?_;refine tkJ 2 rfl hHeld ?_;(try simp only [Act.put,rxT,sxT]);refine tkJ 3 rfl hHeld ?_;refine tkJ 4 rfl hHeld ?_;(try simp only [Act.put,rxT,sxT]);refine tkJ 5 rfl hHeld ?_;refine tkJ 6 rfl hHeld ?_;(try simp only [Act.put,rxT,sxT]);refine tkJ 7 rfl hHeld ?_;(try simp only [Act.put,rxT,sxT]);refine wpAnyH_ready (rs:=[1,12]) (by kernel_rfl) (by simp) ?_;refine AllReadyH.cons rfl (fun K hK=>?c1_0) (AllReadyH.cons rfl (fun K hK=>?c12_0) AllReadyH.nil)
  case c1_0 =>
   (try simp only [rxT]);go_simp;refine (AhK mi x (cntM (AbK kk) U) _ (by exact K14.o.my.mb)).mono ?_;rintro e w14_1 ⟨rfl,hw⟩;have K14_1:=K14;rw [hw] at K14_1;clear hw;(try go_wp2_with fail);refine hK.o _ _ (And.intro (R3.o.step K14_1.o.bel) (K14_1.o.rb (81,pr,i21.cells) (by simp)).1) (fun hHeld=>?_);clear hK K;(try simp only [Act.put,rxT,sxT]);refine wpAnyH_ready (rs:=[8,12]) (by kernel_rfl) (by simp) ?_;refine AllReadyH.cons rfl (fun K hK=>?c8_1) (AllReadyH.cons rfl (fun K hK=>?c12_1) AllReadyH.nil)
   case c8_1 =>
    (try simp only [rxT]);go_simp;refine (AxK K14_1.o.my (by decide) (by decide) x2.A i21.T x2.cl.length x2.a i21.t.length i21.e x2.cl i21.t (OK.o.c.step K14_1.o.bel) (K14_1.o.my.row (i21.T,i21.t.length,i21.e,i21.t) (by simp)) (by have:=HG2.o.c;omega) (by rw [HTT.o,HS.o.2.2.2.1];have:=HG2.o.a;omega) x2.now TK 0 HO.o).mono ?_;rintro e w14_2 ⟨f,rfl,hft,hown,hq⟩;have K14_2:=η (AZ.fresh K14_1.o (AZ.fresh K14_1.o (K14_1.o.box hq) hown.s) hown.o);have HFf:=η (And.intro hft hown.e);clear hft hown hq;(try go_wp2_with fail);refine hK.o _ _ (And.intro (R3.o.step K14_2.o.bel) (K14_2.o.rb (81,pr,i21.cells) (by simp)).1) (fun hHeld=>?_);clear hK K;refine tkJ 9 rfl hHeld ?_;refine tkJ 10 rfl hHeld ?_;(try simp only [Act.put,rxT,sxT]);refine tkJ 11 rfl hHeld ?_;refine rdI 12 rfl (fun K hK=>?_);(try simp only [Act.put,rxT,sxT]);rw [if_pos (by rfl)];refine AdY AfX rfl ?_;intro w14_2a pz hc1 hb1 hx1;have K14_2a:=η (K14_2.o.new hb1 hc1 hx1);have HPV:=η hx1;clear hc1 hb1 hx1;refine hK.o _ _ (And.intro (R3.o.step K14_2a.o.bel) (K14_2a.o.rb (81,pr,i21.cells) (by simp)).1) (fun hHeld=>?_);clear hK K;refine rdI 13 rfl (fun K hK=>?_);(try simp only [Act.put,rxT,sxT]);rw [if_pos (by rfl)];refine BoY AfX _ _ rfl pz rfl f rfl zeroF.cells (by exact (K14_2a.o.rb (77,pz,zeroF.cells) (by simp)).1) (by rfl) ?_;intro w14_2as hc1 ho1;have K14_2as:=η (K14_2.o.setNew K14_2a.o HPV.o ho1 hc1 (by decide) (by decide));clear hc1 ho1;refine hK.o _ _ (And.intro (R3.o.step K14_2as.o.bel) (K14_2as.o.rb (81,pr,i21.cells) (by simp)).1) (fun hHeld=>?_);clear hK K;refine tkJ 14 rfl hHeld ?_;(try simp only [Act.put,rxT,sxT]);refine wpAnyH_done (by kernel_rfl) ?_ _;exact FIN w14_2as f pz (η ⟨K14_2as.o.sub (by simp +contextual) (by simp +contextual),HFf.o.1,HFf.o.2⟩)
   case c12_1 =>
    (try simp only [rxT]);rw [if_pos (by rfl)];refine AdY AfX rfl ?_;intro w14_1a pz hc1 hb1 hx1;have K14_1a:=η (K14_1.o.new hb1 hc1 hx1);have HPV:=η hx1;clear hc1 hb1 hx1;refine hK.o _ _ (And.intro (R3.o.step K14_1a.o.bel) (K14_1a.o.rb (81,pr,i21.cells) (by simp)).1) (fun hHeld=>?_);clear hK K;refine rdI 8 rfl (fun K hK=>?_);(try simp only [Act.put,rxT,sxT]);go_simp;refine (AxK K14_1a.o.my (by decide) (by decide) x2.A i21.T x2.cl.length x2.a i21.t.length i21.e x2.cl i21.t (OK.o.c.step K14_1a.o.bel) (K14_1a.o.my.row (i21.T,i21.t.length,i21.e,i21.t) (by simp)) (by have:=HG2.o.c;omega) (by rw [HTT.o,HS.o.2.2.2.1];have:=HG2.o.a;omega) x2.now TK 0 HO.o).mono ?_;rintro e w14_2a ⟨f,rfl,hft,hown,hq⟩;have K14_2a:=η (AZ.fresh K14_1a.o (AZ.fresh K14_1a.o (K14_1a.o.box hq) hown.s) hown.o);have HFf:=η (And.intro hft hown.e);clear hft hown hq;(try go_wp2_with fail);refine hK.o _ _ (And.intro (R3.o.step K14_2a.o.bel) (K14_2a.o.rb (81,pr,i21.cells) (by simp)).1) (fun hHeld=>?_);clear hK K;refine tkJ 9 rfl hHeld ?_;refine tkJ 10 rfl hHeld ?_;(try simp only [Act.put,rxT,sxT]);refine tkJ 11 rfl hHeld ?_;refine rdI 13 rfl (fun K hK=>?_);(try simp only [Act.put,rxT,sxT]);rw [if_pos (by rfl)];refine BoY AfX _ _ rfl pz rfl f rfl zeroF.cells (by exact (K14_2a.o.rb (77,pz,zeroF.cells) (by simp)).1) (by rfl) ?_;intro w14_2as hc1 ho1;have K14_2as:=η (K14_1.o.setNew K14_2a.o HPV.o ho1 hc1 (by decide) (by decide));clear hc1 ho1;refine hK.o _ _ (And.intro (R3.o.step K14_2as.o.bel) (K14_2as.o.rb (81,pr,i21.cells) (by simp)).1) (fun hHeld=>?_);clear hK K;refine tkJ 14 rfl hHeld ?_;(try simp only [Act.put,rxT,sxT]);refine wpAnyH_done (by kernel_rfl) ?_ _;exact FIN w14_2as f pz (η ⟨K14_2as.o.sub (by simp +contextual) (by simp +contextual),HFf.o.1,HFf.o.2⟩)
  case c12_0 =>
   (try simp only [rxT]);rw [if_pos (by rfl)];refine AdY AfX rfl ?_;intro w14_0a pz hc1 hb1 hx1;have K14_0a:=η (K14.o.new hb1 hc1 hx1);have HPV:=η hx1;clear hc1 hb1 hx1;refine hK.o _ _ (And.intro (R3.o.step K14_0a.o.bel) (K14_0a.o.rb (81,pr,i21.cells) (by simp)).1) (fun hHeld=>?_);clear hK K;refine rdI 1 rfl (fun K hK=>?_);(try simp only [Act.put,rxT,sxT]);go_simp;refine (AhK mi x (cntM (AbK kk) U) _ (by exact K14_0a.o.my.mb)).mono ?_;rintro e w14_1a ⟨rfl,hw⟩;have K14_1a:=K14_0a;rw [hw] at K14_1a;clear hw;(try go_wp2_with fail);refine hK.o _ _ (And.intro (R3.o.step K14_1a.o.bel) (K14_1a.o.rb (81,pr,i21.cells) (by simp)).1) (fun hHeld=>?_);clear hK K;refine rdI 8 rfl (fun K hK=>?_);(try simp only [Act.put,rxT,sxT]);go_simp;refine (AxK K14_1a.o.my (by decide) (by decide) x2.A i21.T x2.cl.length x2.a i21.t.length i21.e x2.cl i21.t (OK.o.c.step K14_1a.o.bel) (K14_1a.o.my.row (i21.T,i21.t.length,i21.e,i21.t) (by simp)) (by have:=HG2.o.c;omega) (by rw [HTT.o,HS.o.2.2.2.1];have:=HG2.o.a;omega) x2.now TK 0 HO.o).mono ?_;rintro e w14_2a ⟨f,rfl,hft,hown,hq⟩;have K14_2a:=η (AZ.fresh K14_1a.o (AZ.fresh K14_1a.o (K14_1a.o.box hq) hown.s) hown.o);have HFf:=η (And.intro hft hown.e);clear hft hown hq;(try go_wp2_with fail);refine hK.o _ _ (And.intro (R3.o.step K14_2a.o.bel) (K14_2a.o.rb (81,pr,i21.cells) (by simp)).1) (fun hHeld=>?_);clear hK K;refine tkJ 9 rfl hHeld ?_;refine tkJ 10 rfl hHeld ?_;(try simp only [Act.put,rxT,sxT]);refine tkJ 11 rfl hHeld ?_;refine rdI 13 rfl (fun K hK=>?_);(try simp only [Act.put,rxT,sxT]);rw [if_pos (by rfl)];refine BoY AfX _ _ rfl pz rfl f rfl zeroF.cells (by exact (K14_2a.o.rb (77,pz,zeroF.cells) (by simp)).1) (by rfl) ?_;intro w14_2as hc1 ho1;have K14_2as:=η (K14.o.setNew K14_2a.o HPV.o ho1 hc1 (by decide) (by decide));clear hc1 ho1;refine hK.o _ _ (And.intro (R3.o.step K14_2as.o.bel) (K14_2as.o.rb (81,pr,i21.cells) (by simp)).1) (fun hHeld=>?_);clear hK K;refine tkJ 14 rfl hHeld ?_;(try simp only [Act.put,rxT,sxT]);refine wpAnyH_done (by kernel_rfl) ?_ _;exact FIN w14_2as f pz (η ⟨K14_2as.o.sub (by simp +contextual) (by simp +contextual),HFf.o.1,HFf.o.2⟩)
 intro w15 f pz K15
 try dsimp only
 have HTE:Hid (f.e=x2.now+kk.p.life∧f.o=x2.i.h.a∧f.s=AfK x2.rl):=η (by
  have z:f.tk=⟨x2.now+kk.p.life,x2.i.h.a,AfK x2.rl⟩:=K15.o.2.1.trans HTK.o
  unfold Fd.tk at z
  injection z with z1 z2 z3
  exact ⟨z1,z2,z3⟩)
 have K16:=η (K15.o.1.step (Below.refl _ _).drew)
 have w1:IntKind.u64.wrap ((x2.now:Int)+(kk.p.life:Int))=(x2.now:Int)+(kk.p.life:Int):=IntWalk.u64_in _ (by have:=HNOW.o;have:=HS.o.2.2.2.2;omega)
 have w2e:((f.e:Int) == (x2.now:Int)+(kk.p.life:Int))=true:=beq_iff_eq.2 (by rw [HTE.o.1];push_cast;rfl)
 go_wp2_with fail
 refine wp_region_held_drew (S:=fun w'=>Blk 48 w' bx x2.cells∧Blk 81 w' pr i21.cells∧Blk 77 w' pz f.cells) (by kernel_rfl) (And.intro (R3.o.step K16.o.bel) (And.intro (K16.o.rb (81,pr,i21.cells) (by simp)).1 (K16.o.rb (77,pz,f.cells) (by simp)).1)) (fun hHeld=>?_)
 (try dsimp only at hHeld)
 have Ω:=η (fun (w:World) (hSw:Blk 48 w bx x2.cells∧Blk 81 w pr i21.cells∧Blk 77 w pz f.cells)=>an (cm10 hSw.1) (an (cm14 hSw.1) (an ((Ic.of hSw.2.1).c3) (an (show w.cell? ⟨pz,0,none⟩=some (.int .u64 (f.e:Int)) from hSw.2.2.cell 0) (an (show w.cell? ⟨pz,1,none⟩=some (.slice f.A f.o.length f.c) from hSw.2.2.cell 1) (an (show w.cell? ⟨pz,2,none⟩=some (.slice f.B f.s.length f.d) from hSw.2.2.cell 2) (DkQ (.int .i64 kk.p.m) (.bool kk.p.sh) (.int .i64 kk.p.t) (.int .u64 (kk.p.life:Int)) w)))))))
 refine tkJ 0 rfl hHeld ?_
 refine tkJ 1 rfl hHeld ?_
 (try simp only [Act.put,rxT,sxT])
 refine tkJ 2 rfl hHeld ?_
 refine tkJ 3 rfl hHeld ?_
 (try simp only [Act.put,rxT,sxT])
 refine tkJ 4 rfl hHeld ?_
 refine tkJ 5 rfl hHeld ?_
 (try simp only [Act.put,rxT,sxT])
 refine tkJ 6 rfl hHeld ?_
 refine tkJ 7 rfl hHeld ?_
 (try simp only [Act.put,rxT,sxT])
 refine tkJ 8 rfl hHeld ?_
 refine tkJ 9 rfl hHeld ?_
 (try simp only [Act.put,rxT,sxT])
 refine tkJ 10 rfl hHeld ?_
 refine tkJ 11 rfl hHeld ?_
 (try simp only [Act.put,rxT,sxT])
 refine tkJ 12 rfl hHeld ?_
 refine tkJ 13 rfl hHeld ?_
 (try simp only [Act.put,rxT,sxT])
 refine tkJ 14 rfl hHeld ?_
 refine tkJ 15 rfl hHeld ?_
 (try simp only [Act.put,rxT,sxT])
 refine tkJ 16 rfl hHeld ?_
 refine tkJ 17 rfl hHeld ?_
 (try simp only [Act.put,rxT,sxT])
 refine tkJ 18 rfl hHeld ?_
 refine tkJ 19 rfl hHeld ?_
 (try simp only [Act.put,rxT,sxT])
 refine tkJ 20 rfl hHeld ?_
 refine tkJ 21 rfl hHeld ?_
 (try simp only [Act.put,rxT,sxT])
 refine tkJ 22 rfl hHeld ?_
 refine tkJ 23 rfl hHeld ?_
 (try simp only [Act.put,rxT,sxT])
 refine tkJ 24 rfl hHeld ?_
 refine rdI 25 rfl (fun K hK=>?_)
 (try simp only [Act.put,rxT,sxT])
 go_simp
 refine (BgW mi x (cntM (AbK kk) U) _ (by exact K16.o.my.mb)).mono ?_
 rw [show (cntM (AbK kk) U).p.val=.agg #[.int .i64 kk.p.m,.bool kk.p.sh,.int .i64 kk.p.t,.int .u64 (kk.p.life:Int)] from rfl]
 rintro e w17 ⟨rfl,hb⟩
 have K17:=η (K16.o.step hb)
 clear hb
 (try go_wp2_with fail)
 refine hK.o _ _ (And.intro (R3.o.step K17.o.bel) (And.intro (K17.o.rb (81,pr,i21.cells) (by simp)).1 (K17.o.rb (77,pz,f.cells) (by simp)).1)) (fun hHeld=>?_)
 clear hK K
 refine tkJ 26 rfl hHeld ?_
 refine tkJ 27 rfl hHeld ?_
 (try simp only [Act.put,rxT,sxT])
 refine tkJ 28 rfl hHeld ?_
 refine tkJ 29 rfl hHeld ?_
 (try simp only [Act.put,rxT,sxT])
 refine tkJ 30 rfl hHeld ?_
 refine tkJ 31 rfl hHeld ?_
 (try simp only [Act.put,rxT,sxT])
 refine tkJ 32 rfl hHeld ?_
 refine tkJ 33 rfl hHeld ?_
 (try simp only [Act.put,rxT,sxT])
 refine tkJ 34 rfl hHeld ?_
 refine tkJ 35 rfl hHeld ?_
 (try simp only [Act.put,rxT,sxT])
 refine tkJ 36 rfl hHeld ?_
 refine rdI 37 rfl (fun K hK=>?_)
 (try simp only [Act.put,rxT,sxT])
 go_simp
 refine (BgJ _ _ _ _ _ _ _ _ f.o x2.i.h.a _ (K17.o.my.row (f.A,f.o.length,f.c,f.o) (by simp)).rb ((In.aw.arg OK.o.i K17.o.bel K17.o.my.rn).a).rb (Nat.le_trans (K17.o.my.row (f.A,f.o.length,f.c,f.o) (by simp)).cap.1 (K17.o.my.row (f.A,f.o.length,f.c,f.o) (by simp)).cap.2) (Nat.le_trans ((In.aw.arg OK.o.i K17.o.bel K17.o.my.rn).a).cap.1 ((In.aw.arg OK.o.i K17.o.bel K17.o.my.rn).a).cap.2)).mono ?_
 rw [show (f.o == x2.i.h.a)=true from beq_iff_eq.2 (HTE.o.2.1)]
 rintro e w18 ⟨rfl,qq,hw⟩
 have K18:=η (K17.o.step (w':=w18) (by rw [hw];exact AdV (Below.refl _ _) _))
 clear hw
 (try go_wp2_with fail)
 refine hK.o _ _ (And.intro (R3.o.step K18.o.bel) (And.intro (K18.o.rb (81,pr,i21.cells) (by simp)).1 (K18.o.rb (77,pz,f.cells) (by simp)).1)) (fun hHeld=>?_)
 clear hK K
 refine tkJ 38 rfl hHeld ?_
 refine tkJ 39 rfl hHeld ?_
 (try simp only [Act.put,rxT,sxT])
 refine tkJ 40 rfl hHeld ?_
 refine tkJ 41 rfl hHeld ?_
 (try simp only [Act.put,rxT,sxT])
 refine tkJ 42 rfl hHeld ?_
 refine tkJ 43 rfl hHeld ?_
 (try simp only [Act.put,rxT,sxT])
 refine tkJ 44 rfl hHeld ?_
 refine rdI 45 rfl (fun K hK=>?_)
 (try simp only [Act.put,rxT,sxT])
 go_simp
 refine (BgJ _ _ _ _ _ _ _ _ f.s i21.h.b _ (K18.o.my.row (f.B,f.s.length,f.d,f.s) (by simp)).rb (K18.o.my.row (i21.h.B,i21.h.b.length,i21.h.d,i21.h.b) (by simp)).rb (Nat.le_trans (K18.o.my.row (f.B,f.s.length,f.d,f.s) (by simp)).cap.1 (K18.o.my.row (f.B,f.s.length,f.d,f.s) (by simp)).cap.2) (Nat.le_trans (K18.o.my.row (i21.h.B,i21.h.b.length,i21.h.d,i21.h.b) (by simp)).cap.1 (K18.o.my.row (i21.h.B,i21.h.b.length,i21.h.d,i21.h.b) (by simp)).cap.2)).mono ?_
 rw [show (f.s == i21.h.b)=true from beq_iff_eq.2 (HTE.o.2.2.trans (congrArg (fun z:IPl=>z.1.2.2.2) HI.o.1).symm)]
 rintro e w19 ⟨rfl,qq,hw⟩
 have K19:=η (K18.o.step (w':=w19) (by rw [hw];exact AdV (Below.refl _ _) _))
 clear hw
 (try go_wp2_with fail)
 refine hK.o _ _ (And.intro (R3.o.step K19.o.bel) (And.intro (K19.o.rb (81,pr,i21.cells) (by simp)).1 (K19.o.rb (77,pz,f.cells) (by simp)).1)) (fun hHeld=>?_)
 clear hK K
 refine tkJ 46 rfl hHeld ?_
 refine tkJ 47 rfl hHeld ?_
 (try simp only [Act.put,rxT,sxT])
 refine wpAnyH_done (by kernel_rfl) ?_ _
 (try dsimp only)
 go_wp2_with fail
 go_ret
 exact ⟨rfl,AaJ B3.o K19.o.bel⟩
