import Derived.Test.YthppjgdnibfefaaGreatMiV
import Derived.Deep.CutBlock
import Derived.OpenShut
set_option linter.all false
set_option maxRecDepth 100000
set_option maxHeartbeats 32000000
namespace Go.Proofs.YthppjgdnibfefaaGreat
open Tryz
open Go.RowKit
attribute [local go_sem ↓] DkY BnZ BsW
theorem fin6 {α β γ δ ε ζ:Type} {F G:α→β→γ→δ→ε→ζ→Prop} {P:Prop} (h1:(∀ a b c d e f,F a b c d e f→G a b c d e f)→P) (h2:∀ a b c d e f,F a b c d e f→G a b c d e f):P:=h1 h2
theorem fin8 {α β γ δ ε ζ η θ:Type} {F G:α→β→γ→δ→ε→ζ→η→θ→Prop} {P:Prop} (h1:(∀ a b c d e f g h,F a b c d e f g h→G a b c d e f g h)→P) (h2:∀ a b c d e f g h,F a b c d e f g h→G a b c d e f g h):P:=h1 h2
theorem CzY {T:TypeId} {w:World} {b:Nat} {q:Cm} (h:Blk T w b q.cells):ldHd 48 (.pointer (some ⟨b,0,none⟩)) w=.ok (.value (.agg #[.int .i64 q.t,.int .i64 q.q,.int .i64 q.p.m,.bool q.p.sh,.int .i64 q.p.t,.int .u64 (q.p.life:Int),.slice q.A q.cl.length q.a,.slice q.B q.rl.length q.b,.int .u8 (q.i.h.f.toNat:Int),.int .u32 (q.i.h.v:Int),.slice q.i.h.A q.i.h.a.length q.i.h.c,.slice q.i.h.B q.i.h.b.length q.i.h.d,.slice q.i.T q.i.t.length q.i.e,.slice q.i.R q.i.r.length q.i.g,.int .u64 (q.now:Int)])) w:=CpJ h
theorem AZ.fresh {v w w':World} {x c N F N' F' mi n d:Nat} {A B:YA} {es:Ens} {k k':Ms} {rows0 rows:List Rw} {recs:List (TypeId×Nat×List Value)} {l:YB} (h0:AZ v x A c es N F mi k rows0 recs w) (h:AZ v x A c es N' F' mi k' rows recs w') (ho:OwnB w' w.heap.size B n d l):AZ v x A c es N' F' mi k' ((B,n,d,l)::rows) recs w' :=
 ⟨h.my.cons (Ra.own ho h0.my.rn),h.rb,fun r hr hn q hq hm=>by
  rcases List.mem_cons.1 hr with rfl | hr
  ·have h1:=(BbV ho _ hm).1
   have h2:=(h0.rb q hq).1.lt
   omega
  ·exact h.ap r hr hn q hq hm⟩
theorem set_two (k:Ms) (p:Pn) (h:AcX k.p=true):(setM k p).1.s=k.s∧AcX (setM k p).1.p=true:=by
 unfold setM
 split
 ·exact ⟨rfl,by assumption⟩
 ·exact ⟨rfl,h⟩
def Jn (i j:In):In:=⟨⟨i.h.f,i.h.v,j.h.B,j.h.d,j.h.b,i.h.B,i.h.d,i.h.b⟩,j.T,j.e,j.t,i.R,i.g,i.r⟩
def Jm (i j:In):In:=⟨i.h,j.T,j.e,j.t,i.R,i.g,i.r⟩
theorem set_J4 (i j:In):i.cells.set 4 (.slice j.T j.t.length j.e)=(Jm i j).cells:=rfl
theorem set_J2 (i j:In):(Jm i j).cells.set 2 (.slice j.h.B j.h.b.length j.h.d)=(Jn i j).cells:=rfl
theorem EgV {es:Ens} {w:World} {i j:In} (h:i.aw es w) (ha:Ra es w j.h.B j.h.b.length j.h.d j.h.b) (ht:Ra es w j.T j.t.length j.e j.t):(Jn i j).aw es w:=⟨ha,h.b,ht,h.r,h.v32⟩
theorem fld_pn1 (a b c d:Value) (W:World):(Instr.field 24 (.agg #[a,b,c,d]) 1).run prog W=.ok b W:=by kernel_rfl
theorem FbV {k:Ms} {life now at':Nat} {c:YB} {p:IPl} {s:Rg} {f:Tk} (hk:k.s=s) (hs:s≠[]) (hf:fstT p.2.1=(newR s).1) (hl:0<p.2.1.length) (hq:(newR s).1≤127) (hn:now<2 ^ 64) (ha:at'<2 ^ 64) (hO:∀ x,AdQ s c p.2.1 x=if AfV now life<x then (zTk,20) else (f,0)) :
  ((!AbQ k && k.p.sh)=true→outM k c p at' []=fwd false) ∧
  ((!AbQ k && k.p.sh)=false→(at'≤now∨at' - now≤life→outM k c p at' []=fwd true)∧(¬(at'≤now∨at' - now≤life)→(outM k c p at' []).k=2)):=by
 subst hk
 refine ⟨fun h=>?_,fun h=>?_⟩
 ·rw [BqW hf hl hq,if_pos h]
 ·obtain ⟨a,b⟩:=FbW (u:=AfV now life) (f:=f) hs hf hl hq h (hO at')
  exact ⟨fun g=>a ((ByV hn ha).2 g),fun g=>b (Classical.byContradiction fun u=>g ((ByV hn ha).1 u))⟩
theorem still_no {k:Ms} {X:Oc} (h:(!AbQ (AbK k) && k.p.sh)=false):(!AbQ (AbK (cntM (AbK k) X)) && (AbK (cntM (AbK k) X)).p.sh)=false :=
 DgW (k:=cntM (AbK k) X) (n:=(cntM (AbK k) X).n+1) h (by omega)
theorem tok_at {w:World} {B n:Nat} {A:YA} {l:YB} {g o:Nat} {x:UInt8} (h:RB w B A n l) (hn:0<n) (hA:A=some ⟨g,o,none⟩) (hx:fstT l=(x.toNat:Int)):w.cell? ⟨g,o,none⟩=some (.int .u8 (x.toNat:Int)):=by
 obtain ⟨g3,o3,x3,e3,hc3,hf3,_,_⟩:=AuY h hn
 rw [hA] at e3
 injection e3 with e3
 injection e3 with e3 e4
 subst e3 e4
 rw [hc3,←hf3,hx]
theorem BiZ {w:World} {B y:Nat} {x:UInt8} {i:In} {T:TypeId} {g o:Nat} (hb:Blk T w y i.cells) (h:RB w B i.T i.t.length i.t) (hn:0<i.t.length) (hA:i.T=some ⟨g,o,none⟩) (hx:fstT i.t=(x.toNat:Int)):w.cell? ⟨y,4,none⟩=some (.slice (some ⟨g,o,none⟩) i.t.length i.e)∧w.cell? ⟨g,o,none⟩=some (.int .u8 (x.toNat:Int)) :=
 ⟨by have z:=(Ic.of hb).c4;rw [hA] at z;exact z,tok_at h hn hA hx⟩
theorem ApK {t:YB} {a:Nat} (h:t.length=48+a):0<t.length:=by omega
theorem part_1 {w:World} {B n c g o:Nat} {A:YA} {l:YB} (h:RB w B A n l) (hA:A=some ⟨g,o,none⟩) (hn:29≤n) (hc:n≤c):RB w B (cutA (some ⟨g,o,none⟩) c 1) 12 ((l.drop 1).take 12):=by
 rw [hA] at h
 have k:=RB.part h (i:=1) (j:=13) (c:=c) (by omega) (by omega) hc
 rw [List.drop_take] at k
 exact k
theorem part_13 {w:World} {B n c g o:Nat} {A:YA} {l:YB} (h:RB w B A n l) (hA:A=some ⟨g,o,none⟩) (hn:29≤n) (hc:n≤c):RB w B (cutA (some ⟨g,o,none⟩) c 13) (n - 13) (l.drop 13):=by
 rw [hA] at h
 have k:=RB.part h (i:=13) (j:=n) (c:=c) (by omega) (Nat.le_refl _) hc
 rw [List.take_of_length_le (by rw [h.len];exact Nat.le_refl _)] at k
 exact k
theorem note_x (x:UInt8) (l:YB):AnX (x.toNat:Int) l=[x]++l:=by
 unfold AnX
 simp
theorem vlitx (x:UInt8):(#[.int .u8 (x.toNat:Int)]:Array Value)=(bvs [x]).toArray:=rfl
theorem MintTokens_walk (x0:Pn) (A1:YA) (n1 c1:Nat) (l1:List Cm) (x2:Cm) (x3:Int) (A9:YA) (n9 c9:Nat) (l4:YB) (x5:Pn) (w:World) (h0:x0.life<2 ^ 64) (h1:CMs w A1 n1 l1) (m1:n1≤c1∧c1≤maxLen) (h2:x2.ok w) (h3:(Lit.int .u64 x3).wf=true) (h4:RB w w.heap.size A9 n9 l4) (m4:n9≤c9∧c9≤maxLen) (h5:x5.life<2 ^ 64) :
  Calls prog 5 #[x0.val,.slice A1 n1 c1,x2.val,.int .u64 x3,.slice A9 n9 c9,x5.val] w fun e w'=>e=.returned (.bool true)∧Below w.heap.size w w':=by
 have e4:=h4.len
 subst e4
 have u3:=bounds_u64 h3
 obtain ⟨later,rfl⟩:∃ now:Nat,x3=(now:Int):=⟨x3.toNat,by have:=u3.1;omega⟩
 have HLT:Hid (later<2 ^ 64):=η (by have:=u3.2;omega)
 have H1:=η h1
 have M1:=η m1
 have H2:=η h2
 have H4:=η h4
 have M4:=η m4
 clear h0 h1 m1 h2 h3 u3 h4 m4 h5
 go_enter func5,ntmps5
 go_wp2_with (first
  | (refine AaZ rfl 24 (.tmp 0) rfl x0 rfl ?_;intro wa q hc1 hb1 hx1;have HA:=η (And.intro hc1 (And.intro hb1 hx1));clear hc1 hb1 hx1)
  | (refine AiQ rfl 48 (.tmp 2) rfl x2 rfl ?_;intro wb bx hc1 hb1 hx1;have HB:=η (And.intro hc1 (And.intro hb1 hx1));clear hc1 hb1 hx1)
  | (refine AaZ rfl 24 (.tmp 5) rfl x5 rfl ?_;intro wd q5 hc1 hb1 hx1;have HC:=η (And.intro hc1 (And.intro hb1 hx1));clear hc1 hb1 hx1))
 refine (BbQ _).mono ?_
 rintro e w1 ⟨rfl,hb⟩
 have B1:Hid (Below w.heap.size w w1):=η (AaJ (AaJ (AaJ HA.o.2.1 HB.o.2.1) HC.o.2.1) hb)
 have Q1:=η (((HA.o.1.step HB.o.2.1).step HC.o.2.1).step hb)
 have R1:=η ((HB.o.1.step HC.o.2.1).step hb)
 have P1:=η (HC.o.1.step hb)
 clear hb
 go_wp2_with fail
 refine (AnV A1 n1 c1 l1 w1 (by exact H1.o.step B1.o) (Nat.le_trans M1.o.1 M1.o.2)).mono ?_
 rintro e w2 ⟨v1,rfl,hb,hv⟩
 have B2:=η (AaJ B1.o hb)
 have Q2:=η (Q1.o.step hb)
 have R2:=η (R1.o.step hb)
 have P2:=η (P1.o.step hb)
 clear hb
 rcases v1 with _ | _
 case true =>
  clear hv;go_wp2_with fail;go_ret;exact ⟨rfl,B2.o⟩
 have HG1:=η (hv rfl)
 clear hv
 have ql:=CzY R2.o
 go_wp2_with fail
 clear ql
 refine (AnV (some ⟨w2.heap.size,0,none⟩) 1 1 [x2] (w2.alloc (.cells x2.cells.toArray 48)) (CMs.lit w2 x2 (H2.o.step B2.o) _ rfl _) (by unfold maxLen;omega)).mono ?_
 rintro e w3 ⟨v2,rfl,hb,hv⟩
 have S3:Hid (Below w2.heap.size w2 w3):=η (AaJ (AaK _ _) hb)
 have B3:=η (AaJ B2.o S3.o)
 have Q3:=η (Q2.o.step S3.o)
 have R3:=η (R2.o.step S3.o)
 have P3:=η (P2.o.step S3.o)
 clear hb
 rcases v2 with _ | _
 case true =>
  clear hv;go_wp2_with fail;go_ret;exact ⟨rfl,B3.o⟩
 have HG2:Hid x2.sm:=η ((hv rfl).2 x2 (by simp))
 clear hv
 have H43:=η (H4.o.step B3.o)
 have r6:=cm6 R3.o
 by_cases hlen:l4.length≤64∧x2.cl.length≤64
 rotate_left
 ·by_cases hl4:l4.length≤64
  ·have d4:decide (64<(l4.length:Int))=false:=decide_eq_false (by omega)
   have d6:¬64<l4.length:=by omega
   have d5:decide (64<(x2.cl.length:Int))=true:=decide_eq_true (by omega);have d7:64<x2.cl.length:=by omega
   clear hlen hl4;go_wp2_with fail;go_ret;exact ⟨rfl,B3.o⟩
  ·have d4:decide (64<(l4.length:Int))=true:=decide_eq_true (by omega)
   have d6:64<l4.length:=by omega
   clear hlen hl4;go_wp2_with fail;go_ret;exact ⟨rfl,B3.o⟩
 have HL64:=η hlen
 have d4:decide (64<(l4.length:Int))=false:=decide_eq_false (by omega)
 have d5:decide (64<(x2.cl.length:Int))=false:=decide_eq_false (by omega)
 have d6:¬64<l4.length:=by omega
 have d7:¬64<x2.cl.length:=by omega
 clear hlen
 go_wp2_with (first
  | (refine atd 46 rfl ?_;refine AbZ ApX rfl (.tmp 6) rfl q rfl x0 _ (by exact Q3.o) (by exact AhQ x0) ?_))
 refine (BrJ x0 A1 n1 c1 l1 w3 (H1.o.step B3.o) HG1.o.1 HG1.o.2).mono ?_
 rintro e w4 ⟨hb,hc⟩
 have B4:=η (AaJ B3.o hb)
 have Q4:=η (Q3.o.step hb)
 clear hb
 rcases hc with ⟨hr,rfl⟩ | ⟨hr,mi,x,A,c,es,rfl,hmy⟩
 ·have HV:=η hr
  clear hr
  go_wp2_with (first
   | (refine atd 51 rfl ?_;refine AbZ ApX rfl (.tmp 6) rfl q rfl x0 _ (by exact Q4.o) (by exact AhQ x0) ?_))
  refine (AsZ x0 w4).mono ?_;rintro e w5 ⟨rfl,hb⟩;have B5:=η (AaJ B4.o hb);clear hb;go_wp2_with fail;refine (AjV x0 w5 false HV.o).mono ?_;rintro e w6 ⟨rfl,hb⟩;have B6:=η (AaJ B5.o hb);clear hb;go_wp2_with fail;go_ret;exact ⟨rfl,B6.o⟩
 obtain ⟨kk,hkk⟩:∃ kk,upM x0 l1 n1=kk:=⟨_,rfl⟩
 have FK:Hid (kk.few 120):=η (by rw [←hkk];exact (BnY x0 l1 n1).more (by have:=HG1.o.1;omega))
 rw [hkk] at hmy
 have K4:=η (AZ.of_my hmy)
 have OK:Hid (x2.ok w3):=η (H2.o.step B3.o)
 clear hkk hmy hr
 clear r6 d4 d5 d6 d7
 go_wp2_with fail
 obtain ⟨U,hU⟩:∃ U,outM (AbK kk) x2.cl x2.i.pl x2.now x2.rl=U:=⟨_,rfl⟩
 have HU:=η hU
 clear hU
 apply fin8 (α:=World) (β:=Option Addr) (γ:=Nat) (δ:=Option Addr) (ε:=Nat) (ζ:=Nat) (η:=Option Addr) (θ:=Nat) (F:=fun w7 A3 c3 A4 c4 pv BU dU=>Hid (AZ w3 x A c es (200+2) (100+1) mi (cntM (AbK kk) U) [(BU,U.b.length,dU,U.b)] [(73,pv,ocC U BU dU)] w7))
 ·intro FIN
  have K6:=η (K4.o.step (Below.refl _ _).drew);refine wp_region_held_drew (S:=fun w'=>Blk 48 w' bx x2.cells) (by kernel_rfl) (R3.o.step K6.o.bel) (fun hHeld=>?_);(try dsimp only at hHeld);have Ω:=η (fun (w:World) (hSw:Blk 48 w bx x2.cells)=>an (cm1 hSw) (an (cm6 hSw) (an (cm7 hSw) (an (cm14 hSw) (CcJ hSw)))));refine tkJ 0 rfl hHeld ?_;refine tkJ 1 rfl hHeld ?_;(try simp only [Act.put,rxT,sxT]);refine tkJ 2 rfl hHeld ?_;refine tkJ 4 rfl hHeld ?_;(try simp only [Act.put,rxT,sxT]);refine tkJ 5 rfl hHeld ?_;refine tkJ 6 rfl hHeld ?_;(try simp only [Act.put,rxT,sxT]);refine tkJ 7 rfl hHeld ?_;refine tkJ 8 rfl hHeld ?_;(try simp only [Act.put,rxT,sxT]);refine tkJ 9 rfl hHeld ?_;(try simp only [Act.put,rxT,sxT]);refine wpAnyH_ready (rs:=[3,12]) (by kernel_rfl) (by simp) ?_;refine AllReadyH.cons rfl (fun K hK=>?c3_0) (AllReadyH.cons rfl (fun K hK=>?c12_0) AllReadyH.nil)
  case c3_0 =>
   (try simp only [rxT]);go_simp;refine (AdX x2.A x2.cl.length x2.a 0 x2.cl _ (by exact OK.o.c.step K6.o.bel) (by have:=HG2.o.c;omega)).mono ?_;rintro e w4_drew_1 ⟨A3,c3,rfl,ho,hb⟩;have K6_1:=η (K6.o.own hb ho);clear ho hb;(try go_wp2_with fail);refine hK.o _ _ (R3.o.step K6_1.o.bel) (fun hHeld=>?_);clear hK K;(try simp only [Act.put,rxT,sxT]);refine wpAnyH_ready (rs:=[10,12]) (by kernel_rfl) (by simp) ?_;refine AllReadyH.cons rfl (fun K hK=>?c10_1) (AllReadyH.cons rfl (fun K hK=>?c12_1) AllReadyH.nil)
   case c10_1 =>
    (try simp only [rxT]);go_simp;refine (AdX x2.B x2.rl.length x2.b 0 x2.rl _ (by exact OK.o.r.step K6_1.o.bel) (by have:=HG2.o.r;omega)).mono ?_;rintro e w4_drew_2 ⟨A4,c4,rfl,ho,hb⟩;have K6_2:=η (K6_1.o.own hb ho);clear ho hb;(try go_wp2_with fail);refine hK.o _ _ (R3.o.step K6_2.o.bel) (fun hHeld=>?_);clear hK K;(try simp only [Act.put,rxT,sxT]);refine wpAnyH_ready (rs:=[11,12]) (by kernel_rfl) (by simp) ?_;refine AllReadyH.cons rfl (fun K hK=>?c11_2) (AllReadyH.cons rfl (fun K hK=>?c12_2) AllReadyH.nil)
    case c11_2 =>
     (try simp only [rxT]);go_simp;refine (AgK w3 x A c es 200 100 mi (kk) _ _ _ K6_2.o 120 FK.o (by decide) (by decide) (by decide) A3 c3 x2.cl (K6_2.o.my.row (A3,x2.cl.length,c3,x2.cl) (by simp)) (by have:=HG2.o.c;omega) x2.i (In.aw.arg OK.o.i K6_2.o.bel K6_2.o.my.rn) (by have:=HG2.o.t;omega) x2.now OK.o.now A4 c4 x2.rl (K6_2.o.my.row (A4,x2.rl.length,c4,x2.rl) (by simp)) (by have:=HG2.o.r;omega) U HU.o (x2.now:Int) rfl).mono ?_;rintro e w4_drew_3 ⟨BU,dU,rfl,hz⟩;have K6_3:=η hz;clear hz;(try go_wp2_with fail);refine hK.o _ _ (R3.o.step K6_3.o.bel) (fun hHeld=>?_);clear hK K;refine rdI 12 rfl (fun K hK=>?_);(try simp only [Act.put,rxT,sxT]);rw [if_pos (by rfl)];refine AdY AbW rfl ?_;intro w4_drew_3a pv hc1 hb1 hx1;have K6_3a:=η (K6_3.o.new hb1 hc1 hx1);have HPV:=η hx1;clear hc1 hb1 hx1;refine hK.o _ _ (R3.o.step K6_3a.o.bel) (fun hHeld=>?_);clear hK K;refine rdI 13 rfl (fun K hK=>?_);(try simp only [Act.put,rxT,sxT]);rw [if_pos (by rfl)];refine AiV AbW _ _ rfl pv rfl (U) BU dU rfl zOc (by exact (K6_3a.o.rb (73,pv,zOc) (by simp)).1) AdJ ?_;intro w4_drew_3as hc1 ho1;have K6_3as:=η (K6_3.o.setNew K6_3a.o HPV.o ho1 hc1 (by decide) (by decide));clear hc1 ho1;refine hK.o _ _ (R3.o.step K6_3as.o.bel) (fun hHeld=>?_);clear hK K;(try simp only [Act.put,rxT,sxT]);refine wpAnyH_done (by kernel_rfl) ?_ _;exact FIN w4_drew_3as A3 c3 A4 c4 pv BU dU (η (K6_3as.o.sub (by simp) (fun r hr=>hr)))
    case c12_2 =>
     (try simp only [rxT]);rw [if_pos (by rfl)];refine AdY AbW rfl ?_;intro w4_drew_2a pv hc1 hb1 hx1;have K6_2a:=η (K6_2.o.new hb1 hc1 hx1);have HPV:=η hx1;clear hc1 hb1 hx1;refine hK.o _ _ (R3.o.step K6_2a.o.bel) (fun hHeld=>?_);clear hK K;refine rdI 11 rfl (fun K hK=>?_);(try simp only [Act.put,rxT,sxT]);go_simp;refine (AgK w3 x A c es 200 100 mi (kk) _ _ _ K6_2a.o 120 FK.o (by decide) (by decide) (by decide) A3 c3 x2.cl (K6_2a.o.my.row (A3,x2.cl.length,c3,x2.cl) (by simp)) (by have:=HG2.o.c;omega) x2.i (In.aw.arg OK.o.i K6_2a.o.bel K6_2a.o.my.rn) (by have:=HG2.o.t;omega) x2.now OK.o.now A4 c4 x2.rl (K6_2a.o.my.row (A4,x2.rl.length,c4,x2.rl) (by simp)) (by have:=HG2.o.r;omega) U HU.o (x2.now:Int) rfl).mono ?_;rintro e w4_drew_3a ⟨BU,dU,rfl,hz⟩;have K6_3a:=η hz;clear hz;(try go_wp2_with fail);refine hK.o _ _ (R3.o.step K6_3a.o.bel) (fun hHeld=>?_);clear hK K;refine rdI 13 rfl (fun K hK=>?_);(try simp only [Act.put,rxT,sxT]);rw [if_pos (by rfl)];refine AiV AbW _ _ rfl pv rfl (U) BU dU rfl zOc (by exact (K6_3a.o.rb (73,pv,zOc) (by simp)).1) AdJ ?_;intro w4_drew_3as hc1 ho1;have K6_3as:=η (K6_2.o.setNew K6_3a.o HPV.o ho1 hc1 (by decide) (by decide));clear hc1 ho1;refine hK.o _ _ (R3.o.step K6_3as.o.bel) (fun hHeld=>?_);clear hK K;(try simp only [Act.put,rxT,sxT]);refine wpAnyH_done (by kernel_rfl) ?_ _;exact FIN w4_drew_3as A3 c3 A4 c4 pv BU dU (η (K6_3as.o.sub (by simp) (fun r hr=>hr)))
   case c12_1 =>
    (try simp only [rxT]);rw [if_pos (by rfl)];refine AdY AbW rfl ?_;intro w4_drew_1a pv hc1 hb1 hx1;have K6_1a:=η (K6_1.o.new hb1 hc1 hx1);have HPV:=η hx1;clear hc1 hb1 hx1;refine hK.o _ _ (R3.o.step K6_1a.o.bel) (fun hHeld=>?_);clear hK K;refine rdI 10 rfl (fun K hK=>?_);(try simp only [Act.put,rxT,sxT]);go_simp;refine (AdX x2.B x2.rl.length x2.b 0 x2.rl _ (by exact OK.o.r.step K6_1a.o.bel) (by have:=HG2.o.r;omega)).mono ?_;rintro e w4_drew_2a ⟨A4,c4,rfl,ho,hb⟩;have K6_2a:=η (K6_1a.o.own hb ho);clear ho hb;(try go_wp2_with fail);refine hK.o _ _ (R3.o.step K6_2a.o.bel) (fun hHeld=>?_);clear hK K;refine rdI 11 rfl (fun K hK=>?_);(try simp only [Act.put,rxT,sxT]);go_simp;refine (AgK w3 x A c es 200 100 mi (kk) _ _ _ K6_2a.o 120 FK.o (by decide) (by decide) (by decide) A3 c3 x2.cl (K6_2a.o.my.row (A3,x2.cl.length,c3,x2.cl) (by simp)) (by have:=HG2.o.c;omega) x2.i (In.aw.arg OK.o.i K6_2a.o.bel K6_2a.o.my.rn) (by have:=HG2.o.t;omega) x2.now OK.o.now A4 c4 x2.rl (K6_2a.o.my.row (A4,x2.rl.length,c4,x2.rl) (by simp)) (by have:=HG2.o.r;omega) U HU.o (x2.now:Int) rfl).mono ?_;rintro e w4_drew_3a ⟨BU,dU,rfl,hz⟩;have K6_3a:=η hz;clear hz;(try go_wp2_with fail);refine hK.o _ _ (R3.o.step K6_3a.o.bel) (fun hHeld=>?_);clear hK K;refine rdI 13 rfl (fun K hK=>?_);(try simp only [Act.put,rxT,sxT]);rw [if_pos (by rfl)];refine AiV AbW _ _ rfl pv rfl (U) BU dU rfl zOc (by exact (K6_3a.o.rb (73,pv,zOc) (by simp)).1) AdJ ?_;intro w4_drew_3as hc1 ho1;have K6_3as:=η (K6_1.o.setNew K6_3a.o HPV.o ho1 hc1 (by decide) (by decide));clear hc1 ho1;refine hK.o _ _ (R3.o.step K6_3as.o.bel) (fun hHeld=>?_);clear hK K;(try simp only [Act.put,rxT,sxT]);refine wpAnyH_done (by kernel_rfl) ?_ _;exact FIN w4_drew_3as A3 c3 A4 c4 pv BU dU (η (K6_3as.o.sub (by simp) (fun r hr=>hr)))
  case c12_0 =>
   (try simp only [rxT]);rw [if_pos (by rfl)];refine AdY AbW rfl ?_;intro w4_drew_0a pv hc1 hb1 hx1;have K6_0a:=η (K6.o.new hb1 hc1 hx1);have HPV:=η hx1;clear hc1 hb1 hx1;refine hK.o _ _ (R3.o.step K6_0a.o.bel) (fun hHeld=>?_);clear hK K;refine rdI 3 rfl (fun K hK=>?_);(try simp only [Act.put,rxT,sxT]);go_simp;refine (AdX x2.A x2.cl.length x2.a 0 x2.cl _ (by exact OK.o.c.step K6_0a.o.bel) (by have:=HG2.o.c;omega)).mono ?_;rintro e w4_drew_1a ⟨A3,c3,rfl,ho,hb⟩;have K6_1a:=η (K6_0a.o.own hb ho);clear ho hb;(try go_wp2_with fail);refine hK.o _ _ (R3.o.step K6_1a.o.bel) (fun hHeld=>?_);clear hK K;refine rdI 10 rfl (fun K hK=>?_);(try simp only [Act.put,rxT,sxT]);go_simp;refine (AdX x2.B x2.rl.length x2.b 0 x2.rl _ (by exact OK.o.r.step K6_1a.o.bel) (by have:=HG2.o.r;omega)).mono ?_;rintro e w4_drew_2a ⟨A4,c4,rfl,ho,hb⟩;have K6_2a:=η (K6_1a.o.own hb ho);clear ho hb;(try go_wp2_with fail);refine hK.o _ _ (R3.o.step K6_2a.o.bel) (fun hHeld=>?_);clear hK K;refine rdI 11 rfl (fun K hK=>?_);(try simp only [Act.put,rxT,sxT]);go_simp;refine (AgK w3 x A c es 200 100 mi (kk) _ _ _ K6_2a.o 120 FK.o (by decide) (by decide) (by decide) A3 c3 x2.cl (K6_2a.o.my.row (A3,x2.cl.length,c3,x2.cl) (by simp)) (by have:=HG2.o.c;omega) x2.i (In.aw.arg OK.o.i K6_2a.o.bel K6_2a.o.my.rn) (by have:=HG2.o.t;omega) x2.now OK.o.now A4 c4 x2.rl (K6_2a.o.my.row (A4,x2.rl.length,c4,x2.rl) (by simp)) (by have:=HG2.o.r;omega) U HU.o (x2.now:Int) rfl).mono ?_;rintro e w4_drew_3a ⟨BU,dU,rfl,hz⟩;have K6_3a:=η hz;clear hz;(try go_wp2_with fail);refine hK.o _ _ (R3.o.step K6_3a.o.bel) (fun hHeld=>?_);clear hK K;refine rdI 13 rfl (fun K hK=>?_);(try simp only [Act.put,rxT,sxT]);rw [if_pos (by rfl)];refine AiV AbW _ _ rfl pv rfl (U) BU dU rfl zOc (by exact (K6_3a.o.rb (73,pv,zOc) (by simp)).1) AdJ ?_;intro w4_drew_3as hc1 ho1;have K6_3as:=η (K6.o.setNew K6_3a.o HPV.o ho1 hc1 (by decide) (by decide));clear hc1 ho1;refine hK.o _ _ (R3.o.step K6_3as.o.bel) (fun hHeld=>?_);clear hK K;(try simp only [Act.put,rxT,sxT]);refine wpAnyH_done (by kernel_rfl) ?_ _;exact FIN w4_drew_3as A3 c3 A4 c4 pv BU dU (η (K6_3as.o.sub (by simp) (fun r hr=>hr)))
 intro w6 A3 c3 A4 c4 pv BU dU K7
 try dsimp only
 by_cases hk:U.k=1
 rotate_left
 ·have z0:=oc0_ (show Blk 73 w6 pv (ocC U BU dU) from (K7.o.rb (73,pv,ocC U BU dU) (by simp)).1)
  have n0:(U.k != 1)=true:=by simp [bne,hk]
  go_wp2_with fail;go_ret;exact ⟨rfl,AaJ B3.o K7.o.bel⟩
 have z0:=oc0_ (show Blk 73 w6 pv (ocC U BU dU) from (K7.o.rb (73,pv,ocC U BU dU) (by simp)).1)
 have z3:=oc3_ (show Blk 73 w6 pv (ocC U BU dU) from (K7.o.rb (73,pv,ocC U BU dU) (by simp)).1)
 rw [hk] at z0
 have he:U=AcJ kk.s kk.p.life x2.cl x2.i.pl x2.now x2.rl:=by
  have z:=BmQ (k:=AbK kk) (c:=x2.cl) (p:=x2.i.pl) (now:=x2.now) (r:=x2.rl) K7.o.my.os;rw [HU.o] at z;rcases z with z | z | z
  ·exact absurd (hk.symm.trans z.1) (by decide)
  ·exact z.2.2.2
  ·exact absurd (hk.symm.trans z.1) (by decide)
 obtain ⟨hs0,hr20,_,hto,hfr,t,ht,hl,hf,hm,hop⟩:=AyJ (s:=kk.s) (life:=kk.p.life) (c:=x2.cl) (r:=x2.rl) (p:=x2.i.pl) (now:=x2.now) K7.o.my.os OK.o.now (by rw [←he];exact hk)
 have hto:x2.i.h.a.length≤20:=hto
 have hfr:x2.i.h.b.length≤20:=hfr
 have hl:t.length=48+x2.i.h.a.length:=hl
 obtain ⟨hsp,hck⟩:=BeK (frm:=x2.i.h.b) (sc:=AfK x2.rl) (t:=t) hto hfr (by rw [AmY hr20];omega) (by omega) (by omega)
 have hub:U.b=AdW x2.i.h.b (AfK x2.rl) t++stL x2.i.h.a (AdW x2.i.h.b (AfK x2.rl) t):=by rw [he,hm];rfl
 have hln:U.b.length≤1000000:=by rw [hub,List.length_append,AqX,AuV,AmY hr20];omega
 rw [←hub] at hsp
 generalize stL x2.i.h.a (AdW x2.i.h.b (AfK x2.rl) t)=st at hsp
 have hlife:kk.p.life≤1099511627776:=(of_decide_eq_true (show AcX kk.p=true from K7.o.my.pr)).2.2
 have hhas:hasR kk.s (newR kk.s).1=true:=DjK hs0
 have hrng:=EaZ K7.o.my.os hhas
 have HS:=η (And.intro hsp (And.intro hln (And.intro hlife (And.intro hs0 (And.intro hhas hrng)))))
 have HOP:=η (And.intro hl (And.intro hto (And.intro hf hop)))
 have HOS:Hid (okR kk.s):=η K7.o.my.os
 clear hr20 hto hfr ht hl hf hm hsp hck hub hln hop he hk hs0 hlife hhas hrng
 go_wp2_with fail
 refine (ApV BU U.b.length dU U.b w6 (by exact (K7.o.my.row (BU,U.b.length,dU,U.b) (by simp)).rb) (by exact (K7.o.my.row (BU,U.b.length,dU,U.b) (by simp)).cap) HS.o.2.1).mono ?_
 rw [HS.o.1]
 rintro e w8 ⟨i21,rfl,hpl,hown,hb⟩
 have K8:=η (AZ.fresh K7.o (K7.o.own hb hown.t) hown.h.b)
 have HI:=η (And.intro hpl hown.ok)
 have htt:i21.t=t:=congrArg (fun z:IPl=>z.2.1) hpl
 have HTL:Hid (i21.t.length=48+x2.i.h.a.length∧x2.i.h.a.length≤20):=η (by rw [htt];exact ⟨HOP.o.1,HOP.o.2.1⟩)
 have HTF:Hid (fstT i21.t=(newR kk.s).1):=η (by rw [htt];exact HOP.o.2.2.1)
 have HTO:Hid (∀ y,AdQ kk.s x2.cl i21.t y=if AfV x2.now kk.p.life<y then (zTk,20) else (⟨AfV x2.now kk.p.life,x2.i.h.a,AfK x2.rl⟩,0)):=η (by rw [htt];exact HOP.o.2.2.2)
 clear hb hpl hown htt z0 z3 HOP
 go_wp2_with (first
  | (refine atd 15 rfl ?_;refine AfZ AmW rfl rfl ?_;intro w9 pr hc1 hb1 hx1;have HNr:=η (And.intro hc1.blk (And.intro hb1 hx1));clear hc1 hb1 hx1)
  | (refine AmZ AmW rfl (.tmp 15) (.tmp 74) rfl pr rfl i21 zeroI i21.val rfl (by exact rfl) (by exact HNr.o.1) ?_;intro w10 hc1 ho1 hs1;have K10:=η (K8.o.new (AeJ HNr.o.2.1 HNr.o.2.2 ho1) hc1 HNr.o.2.2);clear hc1 ho1 hs1 HNr))
 refine (BgW mi x (cntM (AbK kk) U) w10 (by exact K10.o.my.mb)).mono ?_
 rw [show (cntM (AbK kk) U).p.val=.agg #[.int .i64 kk.p.m,.bool kk.p.sh,.int .i64 kk.p.t,.int .u64 (kk.p.life:Int)] from rfl]
 rintro e w11 ⟨rfl,hb⟩
 have K11:=η (K10.o.step hb)
 clear hb
 have q9:=fun W:World=>DkQ (.int .i64 kk.p.m) (.bool kk.p.sh) (.int .i64 kk.p.t) (.int .u64 (kk.p.life:Int)) W
 go_wp2_with fail
 clear q9
 obtain ⟨k2,hk2⟩:∃ k2,(setM (cntM (AbK kk) U) x5).1=k2:=⟨_,rfl⟩
 obtain ⟨z2,hz2⟩:∃ z2,(setM (cntM (AbK kk) U) x5).2=z2:=⟨_,rfl⟩
 have HK2:Hid (k2.s=kk.s∧AcX k2.p=true∧k2.few 122):=η (by
  have z:=set_two (cntM (AbK kk) U) x5 K11.o.my.pr
  rw [hk2] at z
  exact ⟨z.1,z.2,by rw [←hk2];exact EyJ x5 ((AkJ U (AhX FK.o)).more (by decide))⟩)
 have HK2e:=η (And.intro hk2 hz2)
 clear hk2 hz2
 have K12:=η (K11.o.step (Below.refl _ _).drew)
 refine wp_region_held_drew (S:=fun w'=>Blk 24 w' q5 x5.cells) (by kernel_rfl) (P3.o.step K12.o.bel) (fun hHeld=>?_)
 (try dsimp only at hHeld)
 have Ω:=η (fun (w:World) (hSw:Blk 24 w q5 x5.cells)=>(show ldHd 24 (.pointer (some ⟨q5,0,none⟩)) w=.ok (.value x5.val) w from CgK ApX (cs:=x5.cells) (vs:=x5.cells) hSw rfl rfl))
 refine tkJ 0 rfl hHeld ?_
 refine tkJ 1 rfl hHeld ?_
 (try simp only [Act.put,rxT,sxT])
 refine tkJ 2 rfl hHeld ?_
 refine tkJ 3 rfl hHeld ?_
 refine rdI 4 rfl (fun K hK=>?_)
 (try simp only [Act.put,rxT,sxT])
 go_simp
 refine (BdQ mi x (cntM (AbK kk) U) x5 _ (by exact K12.o.my.mb)).mono ?_
 rw [HK2e.o.1,HK2e.o.2]
 rintro e w13 ⟨rfl,hb,ho⟩
 have K13:=η (K12.o.mint ho hb HK2.o.1 HK2.o.2.1)
 clear hb ho
 (try go_wp2_with fail)
 refine hK.o _ _ (P3.o.step K13.o.bel) (fun hHeld=>?_)
 clear hK K
 (try simp only [Act.put,rxT,sxT])
 refine wpAnyH_done (by kernel_rfl) ?_ _
 (try dsimp only)
 have qi:=CcJ (show Blk 48 w13 bx x2.cells from R3.o.step K13.o.bel)
 clear HK2e hHeld
 go_wp2_with (first
  | (refine atd 18 rfl ?_;refine AfZ AoW rfl rfl ?_;intro w14 pa hc1 hb1 hx1;have HNa:=η (And.intro hc1.blk (And.intro hb1 hx1));clear hc1 hb1 hx1)
  | (refine AmZ AoW rfl (.tmp 18) (.tmp 89) rfl pa rfl x2.i zeroI x2.i.val rfl (by exact rfl) (by exact HNa.o.1) ?_;intro w15 hc1 ho1 hs1;have K15:=η (K13.o.new (AeJ HNa.o.2.1 HNa.o.2.2 ho1) hc1 HNa.o.2.2);have HPA:=η HNa.o.2.2;clear hc1 ho1 hs1 HNa qi;have q4:=(Ic.of (show Blk 81 w15 pr i21.cells from (K15.o.rb (81,pr,i21.cells) (by simp)).1)).c4)
  | (refine AhJ (ty:=41) (by kernel_rfl) rfl (.tmp 92) (.tmp 91) rfl pa 4 rfl (.slice i21.T i21.t.length i21.e) rfl rfl _ (by exact (K15.o.rb (46,pa,x2.i.cells) (by simp)).1) (by exact EwJ x2.i 4 (by decide)) ?_;rw [set_J4 x2.i i21];intro w16 hc1 ho1 hs1;have K16:=η (K13.o.setNew K15.o HPA.o ho1 hc1 (by decide) (by decide));clear hc1 ho1 hs1 q4;have q3:=(Ic.of (show Blk 81 w16 pr i21.cells from (K16.o.rb (81,pr,i21.cells) (by simp)).1)).c3)
  | (refine AhJ (ty:=41) (by kernel_rfl) rfl (.tmp 97) (.tmp 95) rfl pa 2 rfl (.slice i21.h.B i21.h.b.length i21.h.d) rfl rfl _ (by exact (K16.o.rb (46,pa,(Jm x2.i i21).cells) (by simp)).1) (by exact EwJ (Jm x2.i i21) 2 (by decide)) ?_;rw [set_J2 x2.i i21];intro w17 hc1 ho1 hs1;have K17:=η (K13.o.setNew K16.o HPA.o ho1 hc1 (by decide) (by decide));clear hc1 ho1 hs1 q3 HPA))
 obtain ⟨X,hX⟩:∃ X,outM (AbK k2) x2.cl (Jn x2.i i21).pl later []=X:=⟨_,rfl⟩
 have HX:=η hX
 clear hX
 apply fin6 (α:=World) (β:=Option Addr) (γ:=Nat) (δ:=Nat) (ε:=Option Addr) (ζ:=Nat) (F:=fun w7 A5 c5 px BX dX=>Hid (AZ w3 x A c es (200+2+2) (100+1+1) mi (cntM (AbK k2) X) [(i21.h.B,i21.h.b.length,i21.h.d,i21.h.b),(i21.T,i21.t.length,i21.e,i21.t),(BU,U.b.length,dU,U.b)] [(73,px,ocC X BX dX),(46,pa,(Jn x2.i i21).cells),(81,pr,i21.cells),(73,pv,ocC U BU dU)] w7))
 ·intro FIN
  have K18:=η (K17.o.step (Below.refl _ _).drew);refine wp_region_held_drew (S:=fun w'=>Blk 48 w' bx x2.cells∧Blk 46 w' pa (Jn x2.i i21).cells) (by kernel_rfl) (And.intro (R3.o.step K18.o.bel) (K18.o.rb (46,pa,(Jn x2.i i21).cells) (by simp)).1) (fun hHeld=>?_);(try dsimp only at hHeld);generalize w17.drew=w18 at K18 hHeld ⊢;have Ω:=η (fun (w:World) (hSw:Blk 48 w bx x2.cells∧Blk 46 w pa (Jn x2.i i21).cells)=>an (cm6 hSw.1) ((Ic.of hSw.2).ld AoW));refine tkJ 0 rfl hHeld ?_;refine tkJ 1 rfl hHeld ?_;(try simp only [Act.put,rxT,sxT]);refine tkJ 2 rfl hHeld ?_;refine tkJ 4 rfl hHeld ?_;(try simp only [Act.put,rxT,sxT]);refine tkJ 5 rfl hHeld ?_;(try simp only [Act.put,rxT,sxT]);refine wpAnyH_ready (rs:=[3,7]) (by kernel_rfl) (by simp) ?_;refine AllReadyH.cons rfl (fun K hK=>?c3_0) (AllReadyH.cons rfl (fun K hK=>?c7_0) AllReadyH.nil)
  case c3_0 =>
   (try simp only [rxT]);go_simp;refine (AdX x2.A x2.cl.length x2.a 0 x2.cl _ (by exact OK.o.c.step K18.o.bel) (by have:=HL64.o;omega)).mono ?_;rintro e w18_1 ⟨A5,c5,rfl,ho,hb⟩;have K18_1:=η (K18.o.own hb ho);clear ho hb;(try go_wp2_with fail);refine hK.o _ _ (And.intro (R3.o.step K18_1.o.bel) (K18_1.o.rb (46,pa,(Jn x2.i i21).cells) (by simp)).1) (fun hHeld=>?_);clear hK K;(try simp only [Act.put,rxT,sxT]);refine wpAnyH_ready (rs:=[6,7]) (by kernel_rfl) (by simp) ?_;refine AllReadyH.cons rfl (fun K hK=>?c6_1) (AllReadyH.cons rfl (fun K hK=>?c7_1) AllReadyH.nil)
   case c6_1 =>
    (try simp only [rxT]);go_simp;refine (AgK w3 x A c es (200+2) (100+1) mi k2 _ _ _ K18_1.o 122 HK2.o.2.2 (by decide) (by decide) (by decide) A5 c5 x2.cl (K18_1.o.my.row (A5,x2.cl.length,c5,x2.cl) (by simp)) (by have:=HL64.o;omega) (Jn x2.i i21) (EgV (In.aw.arg OK.o.i K18_1.o.bel K18_1.o.my.rn) (K18_1.o.my.row (i21.h.B,i21.h.b.length,i21.h.d,i21.h.b) (by simp)) (K18_1.o.my.row (i21.T,i21.t.length,i21.e,i21.t) (by simp))) (by show i21.t.length≤1000;have:=HTL.o;omega) later HLT.o none 0 [] (Ra.nil _ _) (by decide) X HX.o (later:Int) rfl).mono ?_;rintro e w18_2 ⟨BX,dX,rfl,hz⟩;have K18_2:=η hz;clear hz;(try go_wp2_with fail);refine hK.o _ _ (And.intro (R3.o.step K18_2.o.bel) (K18_2.o.rb (46,pa,(Jn x2.i i21).cells) (by simp)).1) (fun hHeld=>?_);clear hK K;refine rdI 7 rfl (fun K hK=>?_);(try simp only [Act.put,rxT,sxT]);rw [if_pos (by rfl)];refine AdY AbW rfl ?_;intro w18_2a px hc1 hb1 hx1;have K18_2a:=η (K18_2.o.new hb1 hc1 hx1);have HPV:=η hx1;clear hc1 hb1 hx1;refine hK.o _ _ (And.intro (R3.o.step K18_2a.o.bel) (K18_2a.o.rb (46,pa,(Jn x2.i i21).cells) (by simp)).1) (fun hHeld=>?_);clear hK K;refine rdI 8 rfl (fun K hK=>?_);(try simp only [Act.put,rxT,sxT]);rw [if_pos (by rfl)];refine AiV AbW _ _ rfl px rfl (X) BX dX rfl zOc (by exact (K18_2a.o.rb (73,px,zOc) (by simp)).1) AdJ ?_;intro w18_2as hc1 ho1;have K18_2as:=η (K18_2.o.setNew K18_2a.o HPV.o ho1 hc1 (by decide) (by decide));clear hc1 ho1;refine hK.o _ _ (And.intro (R3.o.step K18_2as.o.bel) (K18_2as.o.rb (46,pa,(Jn x2.i i21).cells) (by simp)).1) (fun hHeld=>?_);clear hK K;(try simp only [Act.put,rxT,sxT]);refine wpAnyH_done (by kernel_rfl) ?_ _;exact FIN w18_2as A5 c5 px BX dX (η (K18_2as.o.sub (fun r hr=>.tail _ (.tail _ hr)) (fun r hr=>hr)))
   case c7_1 =>
    (try simp only [rxT]);rw [if_pos (by rfl)];refine AdY AbW rfl ?_;intro w18_1a px hc1 hb1 hx1;have K18_1a:=η (K18_1.o.new hb1 hc1 hx1);have HPV:=η hx1;clear hc1 hb1 hx1;refine hK.o _ _ (And.intro (R3.o.step K18_1a.o.bel) (K18_1a.o.rb (46,pa,(Jn x2.i i21).cells) (by simp)).1) (fun hHeld=>?_);clear hK K;refine rdI 6 rfl (fun K hK=>?_);(try simp only [Act.put,rxT,sxT]);go_simp;refine (AgK w3 x A c es (200+2) (100+1) mi k2 _ _ _ K18_1a.o 122 HK2.o.2.2 (by decide) (by decide) (by decide) A5 c5 x2.cl (K18_1a.o.my.row (A5,x2.cl.length,c5,x2.cl) (by simp)) (by have:=HL64.o;omega) (Jn x2.i i21) (EgV (In.aw.arg OK.o.i K18_1a.o.bel K18_1a.o.my.rn) (K18_1a.o.my.row (i21.h.B,i21.h.b.length,i21.h.d,i21.h.b) (by simp)) (K18_1a.o.my.row (i21.T,i21.t.length,i21.e,i21.t) (by simp))) (by show i21.t.length≤1000;have:=HTL.o;omega) later HLT.o none 0 [] (Ra.nil _ _) (by decide) X HX.o (later:Int) rfl).mono ?_;rintro e w18_2a ⟨BX,dX,rfl,hz⟩;have K18_2a:=η hz;clear hz;(try go_wp2_with fail);refine hK.o _ _ (And.intro (R3.o.step K18_2a.o.bel) (K18_2a.o.rb (46,pa,(Jn x2.i i21).cells) (by simp)).1) (fun hHeld=>?_);clear hK K;refine rdI 8 rfl (fun K hK=>?_);(try simp only [Act.put,rxT,sxT]);rw [if_pos (by rfl)];refine AiV AbW _ _ rfl px rfl (X) BX dX rfl zOc (by exact (K18_2a.o.rb (73,px,zOc) (by simp)).1) AdJ ?_;intro w18_2as hc1 ho1;have K18_2as:=η (K18_1.o.setNew K18_2a.o HPV.o ho1 hc1 (by decide) (by decide));clear hc1 ho1;refine hK.o _ _ (And.intro (R3.o.step K18_2as.o.bel) (K18_2as.o.rb (46,pa,(Jn x2.i i21).cells) (by simp)).1) (fun hHeld=>?_);clear hK K;(try simp only [Act.put,rxT,sxT]);refine wpAnyH_done (by kernel_rfl) ?_ _;exact FIN w18_2as A5 c5 px BX dX (η (K18_2as.o.sub (fun r hr=>.tail _ (.tail _ hr)) (fun r hr=>hr)))
  case c7_0 =>
   (try simp only [rxT]);rw [if_pos (by rfl)];refine AdY AbW rfl ?_;intro w18_0a px hc1 hb1 hx1;have K18_0a:=η (K18.o.new hb1 hc1 hx1);have HPV:=η hx1;clear hc1 hb1 hx1;refine hK.o _ _ (And.intro (R3.o.step K18_0a.o.bel) (K18_0a.o.rb (46,pa,(Jn x2.i i21).cells) (by simp)).1) (fun hHeld=>?_);clear hK K;refine rdI 3 rfl (fun K hK=>?_);(try simp only [Act.put,rxT,sxT]);go_simp;refine (AdX x2.A x2.cl.length x2.a 0 x2.cl _ (by exact OK.o.c.step K18_0a.o.bel) (by have:=HL64.o;omega)).mono ?_;rintro e w18_1a ⟨A5,c5,rfl,ho,hb⟩;have K18_1a:=η (K18_0a.o.own hb ho);clear ho hb;(try go_wp2_with fail);refine hK.o _ _ (And.intro (R3.o.step K18_1a.o.bel) (K18_1a.o.rb (46,pa,(Jn x2.i i21).cells) (by simp)).1) (fun hHeld=>?_);clear hK K;refine rdI 6 rfl (fun K hK=>?_);(try simp only [Act.put,rxT,sxT]);go_simp;refine (AgK w3 x A c es (200+2) (100+1) mi k2 _ _ _ K18_1a.o 122 HK2.o.2.2 (by decide) (by decide) (by decide) A5 c5 x2.cl (K18_1a.o.my.row (A5,x2.cl.length,c5,x2.cl) (by simp)) (by have:=HL64.o;omega) (Jn x2.i i21) (EgV (In.aw.arg OK.o.i K18_1a.o.bel K18_1a.o.my.rn) (K18_1a.o.my.row (i21.h.B,i21.h.b.length,i21.h.d,i21.h.b) (by simp)) (K18_1a.o.my.row (i21.T,i21.t.length,i21.e,i21.t) (by simp))) (by show i21.t.length≤1000;have:=HTL.o;omega) later HLT.o none 0 [] (Ra.nil _ _) (by decide) X HX.o (later:Int) rfl).mono ?_;rintro e w18_2a ⟨BX,dX,rfl,hz⟩;have K18_2a:=η hz;clear hz;(try go_wp2_with fail);refine hK.o _ _ (And.intro (R3.o.step K18_2a.o.bel) (K18_2a.o.rb (46,pa,(Jn x2.i i21).cells) (by simp)).1) (fun hHeld=>?_);clear hK K;refine rdI 8 rfl (fun K hK=>?_);(try simp only [Act.put,rxT,sxT]);rw [if_pos (by rfl)];refine AiV AbW _ _ rfl px rfl (X) BX dX rfl zOc (by exact (K18_2a.o.rb (73,px,zOc) (by simp)).1) AdJ ?_;intro w18_2as hc1 ho1;have K18_2as:=η (K18.o.setNew K18_2a.o HPV.o ho1 hc1 (by decide) (by decide));clear hc1 ho1;refine hK.o _ _ (And.intro (R3.o.step K18_2as.o.bel) (K18_2as.o.rb (46,pa,(Jn x2.i i21).cells) (by simp)).1) (fun hHeld=>?_);clear hK K;(try simp only [Act.put,rxT,sxT]);refine wpAnyH_done (by kernel_rfl) ?_ _;exact FIN w18_2as A5 c5 px BX dX (η (K18_2as.o.sub (fun r hr=>.tail _ (.tail _ hr)) (fun r hr=>hr)))
 intro w19 A5 c5 px BX dX K19
 try dsimp only
 obtain ⟨v,hv⟩:∃ v,decide (later≤x2.now∨later - x2.now≤kk.p.life)=v:=⟨_,rfl⟩
 have HV:=η hv
 clear hv
 have r14:=cm14 (show Blk 48 w19 bx x2.cells from R3.o.step K19.o.bel)
 go_upto_region 20 with fail
 go_cut [20] from 105 to 116 (fun s20 wx=>s20=.bool v∧w19=wx)
 case first =>
  by_cases p0:later≤x2.now
  ·have d0:decide (later≤x2.now)=true:=decide_eq_true p0
   have P0:=η p0;go_wp2_with fail;go_meet;exact ⟨by rw [←HV.o,decide_eq_true (Or.inl P0.o)],rfl⟩
  have d0:decide (later≤x2.now)=false:=decide_eq_false p0;obtain ⟨z,hz⟩:∃ z,later - x2.now=z:=⟨_,rfl⟩
  have dw:IntKind.u64.wrap ((later:Int) - (x2.now:Int))=(z:Int):=by
   have e:(later:Int) - (x2.now:Int)=(z:Int):=by omega
   rw [e];exact IntWalk.u64_in _ (by have:=HLT.o;omega)
  have P0:=η (And.intro p0 hz);clear hz;by_cases p1:z≤kk.p.life
  ·have d1:decide (z≤kk.p.life)=true:=decide_eq_true p1
   have P1:=η p1;go_wp2_with fail;go_meet;exact ⟨by rw [←HV.o,decide_eq_true (Or.inr (by rw [P0.o.2];exact P1.o))],rfl⟩
  ·have d1:decide (z≤kk.p.life)=false:=decide_eq_false p1
   have P1:=η p1;go_wp2_with fail;go_meet;exact ⟨by rw [←HV.o,decide_eq_false (fun e=>by rcases e with e | e;exact P0.o.1 e;exact P1.o (by rw [←P0.o.2];exact e))],rfl⟩
 case rest =>
  obtain ⟨rfl,rfl⟩:=hcut;clear r14;obtain ⟨sh,hsh⟩:∃ sh,(!AbQ (AbK k2) && k2.p.sh)=sh:=⟨_,rfl⟩;have HSH:=η hsh;clear hsh;have HXW:=η (FbV (k:=AbK k2) (life:=kk.p.life) (now:=x2.now) (at':=later) (c:=x2.cl) (p:=(Jn x2.i i21).pl) (s:=kk.s) HK2.o.1 HS.o.2.2.2.1 HTF.o (ApK HTL.o.1) HS.o.2.2.2.2.2.2 OK.o.now HLT.o HTO.o);rw [HX.o] at HXW;go_upto_region 21 with fail;go_cut [128] from 117 to 127 (fun s wx=>s=.bool sh∧Hid (AZ w3 x A c es (200+2+2) (100+1+1) mi (cntM (AbK k2) X) [(i21.h.B,i21.h.b.length,i21.h.d,i21.h.b),(i21.T,i21.t.length,i21.e,i21.t),(BU,U.b.length,dU,U.b)] [(73,px,ocC X BX dX),(46,pa,(Jn x2.i i21).cells),(81,pr,i21.cells),(73,pv,ocC U BU dU)] wx))
  case first =>
   obtain ⟨a,ha⟩:∃ a,AbQ (cntM (AbK k2) X)=a:=⟨_,rfl⟩;have HAC:=η ha;have HAD:Hid (AbQ (AbK k2)=a):=η ha;clear ha;go_wp2_with fail;refine (AfW mi x (cntM (AbK k2) X) w19 (by exact K19.o.my.mb) a HAC.o).mono ?_;rintro e w20 ⟨rfl,hb⟩;have K20:=η (K19.o.step hb);clear hb;cases a
   ·go_wp2_with fail
    refine (BgW mi x (cntM (AbK k2) X) w20 (by exact K20.o.my.mb)).mono ?_;rw [show (cntM (AbK k2) X).p.val=.agg #[.int .i64 k2.p.m,.bool k2.p.sh,.int .i64 k2.p.t,.int .u64 (k2.p.life:Int)] from rfl];rintro e w21 ⟨rfl,hb⟩;have K21:=η (K20.o.step hb);clear hb;have q9:=fun W:World=>fld_pn1 (.int .i64 k2.p.m) (.bool k2.p.sh) (.int .i64 k2.p.t) (.int .u64 (k2.p.life:Int)) W;go_wp2_with fail;go_meet;exact ⟨by rw [←HSH.o,HAD.o];rfl,K21⟩
   ·go_wp2_with fail
    go_meet;exact ⟨by rw [←HSH.o,HAD.o];rfl,K20⟩
  case rest =>
   obtain ⟨rfl,K22⟩:=hcut;have x0_:=oc0_ (show Blk 73 wc px (ocC X BX dX) from (K22.o.rb (73,px,ocC X BX dX) (by simp)).1);have x1_:=oc1_ (show Blk 73 wc px (ocC X BX dX) from (K22.o.rb (73,px,ocC X BX dX) (by simp)).1);cases sh;rotate_left
   ·rw [HXW.o.1 HSH.o] at x0_ x1_
    dsimp only [fwd] at x0_ x1_;go_wp2_with fail;go_ret;exact ⟨rfl,AaJ B3.o K22.o.bel⟩
   go_upto_region 23 with fail;go_cut [145] from 137 to 144 (fun s wx=>s=.bool false∧wc=wx)
   case first =>
    cases v
    ·have hk:=(HXW.o.2 HSH.o).2 (of_decide_eq_false HV.o)
     rw [hk] at x0_;go_wp2_with fail;go_meet;exact ⟨rfl,rfl⟩
    ·rw [(HXW.o.2 HSH.o).1 (of_decide_eq_true HV.o)] at x0_ x1_
     dsimp only [fwd] at x0_ x1_;go_wp2_with fail;go_meet;exact ⟨rfl,rfl⟩
   case rest =>
    obtain ⟨rfl,rfl⟩:=hcut;clear x0_ x1_;obtain ⟨Y,hY⟩:∃ Y,outM (AbK (cntM (AbK k2) X)) l4 (Jn x2.i i21).pl later []=Y:=⟨_,rfl⟩;have HY:=η hY;clear hY;go_wp2_with fail;apply fin6 (α:=World) (β:=Option Addr) (γ:=Nat) (δ:=Nat) (ε:=Option Addr) (ζ:=Nat) (F:=fun w7 A6 c6 py BY dY=>Hid (AZ w3 x A c es (200+2+2+2) (100+1+1+1) mi (cntM (AbK (cntM (AbK k2) X)) Y) [(i21.h.B,i21.h.b.length,i21.h.d,i21.h.b),(i21.T,i21.t.length,i21.e,i21.t),(BU,U.b.length,dU,U.b)] [(73,py,ocC Y BY dY),(73,px,ocC X BX dX),(46,pa,(Jn x2.i i21).cells),(81,pr,i21.cells),(73,pv,ocC U BU dU)] w7))
    ·intro FIN
     have K23:=η (K22.o.step (Below.refl _ _).drew);refine wp_region_held_drew (S:=fun w'=>Blk 46 w' pa (Jn x2.i i21).cells) (by kernel_rfl) (K23.o.rb (46,pa,(Jn x2.i i21).cells) (by simp)).1 (fun hHeld=>?_);(try dsimp only at hHeld);generalize wc.drew=w23 at K23 hHeld ⊢;have Ω:=η (fun (w:World) (hSw:Blk 46 w pa (Jn x2.i i21).cells)=>((Ic.of hSw).ld AoW));refine tkJ 0 rfl hHeld ?_;refine tkJ 1 rfl hHeld ?_;(try simp only [Act.put,rxT,sxT]);refine tkJ 3 rfl hHeld ?_;refine tkJ 4 rfl hHeld ?_;(try simp only [Act.put,rxT,sxT]);refine wpAnyH_ready (rs:=[2,6]) (by kernel_rfl) (by simp) ?_;refine AllReadyH.cons rfl (fun K hK=>?c2_0) (AllReadyH.cons rfl (fun K hK=>?c6_0) AllReadyH.nil)
     case c2_0 =>
      (try simp only [rxT]);go_simp;refine (AdX A9 l4.length c9 0 l4 _ (by exact H43.o.step K23.o.bel) (by have:=HL64.o;omega)).mono ?_;rintro e w23_1 ⟨A6,c6,rfl,ho,hb⟩;have K23_1:=η (K23.o.own hb ho);clear ho hb;(try go_wp2_with fail);refine hK.o _ _ (K23_1.o.rb (46,pa,(Jn x2.i i21).cells) (by simp)).1 (fun hHeld=>?_);clear hK K;(try simp only [Act.put,rxT,sxT]);refine wpAnyH_ready (rs:=[5,6]) (by kernel_rfl) (by simp) ?_;refine AllReadyH.cons rfl (fun K hK=>?c5_1) (AllReadyH.cons rfl (fun K hK=>?c6_1) AllReadyH.nil)
      case c5_1 =>
       (try simp only [rxT]);go_simp;refine (AgK w3 x A c es (200+2+2) (100+1+1) mi (cntM (AbK k2) X) _ _ _ K23_1.o 124 ((AkJ X (AhX HK2.o.2.2)).more (by decide)) (by decide) (by decide) (by decide) A6 c6 l4 (K23_1.o.my.row (A6,l4.length,c6,l4) (by simp)) (by have:=HL64.o;omega) (Jn x2.i i21) (EgV (In.aw.arg OK.o.i K23_1.o.bel K23_1.o.my.rn) (K23_1.o.my.row (i21.h.B,i21.h.b.length,i21.h.d,i21.h.b) (by simp)) (K23_1.o.my.row (i21.T,i21.t.length,i21.e,i21.t) (by simp))) (by show i21.t.length≤1000;have:=HTL.o;omega) later HLT.o none 0 [] (Ra.nil _ _) (by decide) Y HY.o (later:Int) rfl).mono ?_;rintro e w23_2 ⟨BY,dY,rfl,hz⟩;have K23_2:=η hz;clear hz;(try go_wp2_with fail);refine hK.o _ _ (K23_2.o.rb (46,pa,(Jn x2.i i21).cells) (by simp)).1 (fun hHeld=>?_);clear hK K;refine rdI 6 rfl (fun K hK=>?_);(try simp only [Act.put,rxT,sxT]);rw [if_pos (by rfl)];refine AdY AbW rfl ?_;intro w23_2a py hc1 hb1 hx1;have K23_2a:=η (K23_2.o.new hb1 hc1 hx1);have HPV:=η hx1;clear hc1 hb1 hx1;refine hK.o _ _ (K23_2a.o.rb (46,pa,(Jn x2.i i21).cells) (by simp)).1 (fun hHeld=>?_);clear hK K;refine rdI 7 rfl (fun K hK=>?_);(try simp only [Act.put,rxT,sxT]);rw [if_pos (by rfl)];refine AiV AbW _ _ rfl py rfl (Y) BY dY rfl zOc (by exact (K23_2a.o.rb (73,py,zOc) (by simp)).1) AdJ ?_;intro w23_2as hc1 ho1;have K23_2as:=η (K23_2.o.setNew K23_2a.o HPV.o ho1 hc1 (by decide) (by decide));clear hc1 ho1;refine hK.o _ _ (K23_2as.o.rb (46,pa,(Jn x2.i i21).cells) (by simp)).1 (fun hHeld=>?_);clear hK K;(try simp only [Act.put,rxT,sxT]);refine wpAnyH_done (by kernel_rfl) ?_ _;exact FIN w23_2as A6 c6 py BY dY (η (K23_2as.o.sub (fun r hr=>.tail _ (.tail _ hr)) (fun r hr=>hr)))
      case c6_1 =>
       (try simp only [rxT]);rw [if_pos (by rfl)];refine AdY AbW rfl ?_;intro w23_1a py hc1 hb1 hx1;have K23_1a:=η (K23_1.o.new hb1 hc1 hx1);have HPV:=η hx1;clear hc1 hb1 hx1;refine hK.o _ _ (K23_1a.o.rb (46,pa,(Jn x2.i i21).cells) (by simp)).1 (fun hHeld=>?_);clear hK K;refine rdI 5 rfl (fun K hK=>?_);(try simp only [Act.put,rxT,sxT]);go_simp;refine (AgK w3 x A c es (200+2+2) (100+1+1) mi (cntM (AbK k2) X) _ _ _ K23_1a.o 124 ((AkJ X (AhX HK2.o.2.2)).more (by decide)) (by decide) (by decide) (by decide) A6 c6 l4 (K23_1a.o.my.row (A6,l4.length,c6,l4) (by simp)) (by have:=HL64.o;omega) (Jn x2.i i21) (EgV (In.aw.arg OK.o.i K23_1a.o.bel K23_1a.o.my.rn) (K23_1a.o.my.row (i21.h.B,i21.h.b.length,i21.h.d,i21.h.b) (by simp)) (K23_1a.o.my.row (i21.T,i21.t.length,i21.e,i21.t) (by simp))) (by show i21.t.length≤1000;have:=HTL.o;omega) later HLT.o none 0 [] (Ra.nil _ _) (by decide) Y HY.o (later:Int) rfl).mono ?_;rintro e w23_2a ⟨BY,dY,rfl,hz⟩;have K23_2a:=η hz;clear hz;(try go_wp2_with fail);refine hK.o _ _ (K23_2a.o.rb (46,pa,(Jn x2.i i21).cells) (by simp)).1 (fun hHeld=>?_);clear hK K;refine rdI 7 rfl (fun K hK=>?_);(try simp only [Act.put,rxT,sxT]);rw [if_pos (by rfl)];refine AiV AbW _ _ rfl py rfl (Y) BY dY rfl zOc (by exact (K23_2a.o.rb (73,py,zOc) (by simp)).1) AdJ ?_;intro w23_2as hc1 ho1;have K23_2as:=η (K23_1.o.setNew K23_2a.o HPV.o ho1 hc1 (by decide) (by decide));clear hc1 ho1;refine hK.o _ _ (K23_2as.o.rb (46,pa,(Jn x2.i i21).cells) (by simp)).1 (fun hHeld=>?_);clear hK K;(try simp only [Act.put,rxT,sxT]);refine wpAnyH_done (by kernel_rfl) ?_ _;exact FIN w23_2as A6 c6 py BY dY (η (K23_2as.o.sub (fun r hr=>.tail _ (.tail _ hr)) (fun r hr=>hr)))
     case c6_0 =>
      (try simp only [rxT]);rw [if_pos (by rfl)];refine AdY AbW rfl ?_;intro w23_0a py hc1 hb1 hx1;have K23_0a:=η (K23.o.new hb1 hc1 hx1);have HPV:=η hx1;clear hc1 hb1 hx1;refine hK.o _ _ (K23_0a.o.rb (46,pa,(Jn x2.i i21).cells) (by simp)).1 (fun hHeld=>?_);clear hK K;refine rdI 2 rfl (fun K hK=>?_);(try simp only [Act.put,rxT,sxT]);go_simp;refine (AdX A9 l4.length c9 0 l4 _ (by exact H43.o.step K23_0a.o.bel) (by have:=HL64.o;omega)).mono ?_;rintro e w23_1a ⟨A6,c6,rfl,ho,hb⟩;have K23_1a:=η (K23_0a.o.own hb ho);clear ho hb;(try go_wp2_with fail);refine hK.o _ _ (K23_1a.o.rb (46,pa,(Jn x2.i i21).cells) (by simp)).1 (fun hHeld=>?_);clear hK K;refine rdI 5 rfl (fun K hK=>?_);(try simp only [Act.put,rxT,sxT]);go_simp;refine (AgK w3 x A c es (200+2+2) (100+1+1) mi (cntM (AbK k2) X) _ _ _ K23_1a.o 124 ((AkJ X (AhX HK2.o.2.2)).more (by decide)) (by decide) (by decide) (by decide) A6 c6 l4 (K23_1a.o.my.row (A6,l4.length,c6,l4) (by simp)) (by have:=HL64.o;omega) (Jn x2.i i21) (EgV (In.aw.arg OK.o.i K23_1a.o.bel K23_1a.o.my.rn) (K23_1a.o.my.row (i21.h.B,i21.h.b.length,i21.h.d,i21.h.b) (by simp)) (K23_1a.o.my.row (i21.T,i21.t.length,i21.e,i21.t) (by simp))) (by show i21.t.length≤1000;have:=HTL.o;omega) later HLT.o none 0 [] (Ra.nil _ _) (by decide) Y HY.o (later:Int) rfl).mono ?_;rintro e w23_2a ⟨BY,dY,rfl,hz⟩;have K23_2a:=η hz;clear hz;(try go_wp2_with fail);refine hK.o _ _ (K23_2a.o.rb (46,pa,(Jn x2.i i21).cells) (by simp)).1 (fun hHeld=>?_);clear hK K;refine rdI 7 rfl (fun K hK=>?_);(try simp only [Act.put,rxT,sxT]);rw [if_pos (by rfl)];refine AiV AbW _ _ rfl py rfl (Y) BY dY rfl zOc (by exact (K23_2a.o.rb (73,py,zOc) (by simp)).1) AdJ ?_;intro w23_2as hc1 ho1;have K23_2as:=η (K23.o.setNew K23_2a.o HPV.o ho1 hc1 (by decide) (by decide));clear hc1 ho1;refine hK.o _ _ (K23_2as.o.rb (46,pa,(Jn x2.i i21).cells) (by simp)).1 (fun hHeld=>?_);clear hK K;(try simp only [Act.put,rxT,sxT]);refine wpAnyH_done (by kernel_rfl) ?_ _;exact FIN w23_2as A6 c6 py BY dY (η (K23_2as.o.sub (fun r hr=>.tail _ (.tail _ hr)) (fun r hr=>hr)))
    intro w24 A6 c6 py BY dY K24
    try dsimp only
    have r6:=cm6 (show Blk 48 w24 bx x2.cells from R3.o.step K24.o.bel);have HSY:=η (still_no (k:=k2) (X:=X) HSH.o);go_wp2_with fail;refine (BgJ A9 x2.A l4.length c9 x2.cl.length x2.a w24.heap.size w24.heap.size l4 x2.cl w24 (by exact H43.o.step K24.o.bel) (by exact OK.o.c.step K24.o.bel) (Nat.le_trans M4.o.1 M4.o.2) (Nat.le_trans OK.o.cc.1 OK.o.cc.2)).mono ?_;obtain ⟨b,hb0⟩:∃ b,(l4 == x2.cl)=b:=⟨_,rfl⟩;rw [hb0];rintro e w25 ⟨rfl,qq,hw⟩;have K25:=η (K24.o.step (w':=w25) (by rw [hw];exact AdV (Below.refl _ _) _));clear hw r6;cases b;rotate_left
    ·have hll:l4=x2.cl:=beq_iff_eq.1 hb0
     have HYW:=FbV (k:=AbK (cntM (AbK k2) X)) (life:=kk.p.life) (now:=x2.now) (at':=later) (c:=x2.cl) (p:=(Jn x2.i i21).pl) (s:=kk.s) HK2.o.1 HS.o.2.2.2.1 HTF.o (ApK HTL.o.1) HS.o.2.2.2.2.2.2 OK.o.now HLT.o HTO.o;have hy:=HY.o;rw [hll] at hy;rw [hy] at HYW
     have hkk:Y.k=X.k:=by
      by_cases hh:later≤x2.now∨later - x2.now≤kk.p.life
      ·rw [(HYW.2 HSY.o).1 hh,(HXW.o.2 HSH.o).1 hh]
      ·rw [(HYW.2 HSY.o).2 hh,(HXW.o.2 HSH.o).2 hh]
     have y0:=oc0_ (show Blk 73 w25 py (ocC Y BY dY) from (K25.o.rb (73,py,ocC Y BY dY) (by simp)).1);have x0_:=oc0_ (show Blk 73 w25 px (ocC X BX dX) from (K25.o.rb (73,px,ocC X BX dX) (by simp)).1);rw [hkk] at y0;clear hll HYW hy hkk hb0;go_wp2_with fail;go_ret;exact ⟨rfl,AaJ B3.o K25.o.bel⟩
    have HNE:Hid (l4≠x2.cl):=η (fun e=>by rw [e,beq_self_eq_true] at hb0;exact absurd hb0 (by decide));clear hb0;have q4:=(Ic.of (show Blk 81 w25 pr i21.cells from (K25.o.rb (81,pr,i21.cells) (by simp)).1)).c4;have d29:decide ((i21.t.length:Int)<29)=false:=decide_eq_false (by have:=HTL.o;omega);have d30:¬i21.t.length<29:=by have:=HTL.o;omega
    go_wp2_with fail;clear q4 d29 d30;obtain ⟨g2,oo,xb,hTA,_,hfx,_,hx255⟩:=AuY (K25.o.my.row (i21.T,i21.t.length,i21.e,i21.t) (by simp)).rb (ApK HTL.o.1);have HTA:=η (And.intro hTA hfx);have HXB:=η hx255;have hwi:IntKind.i64.wrap (xb.toNat:Int)=(xb.toNat:Int):=IntWalk.i64_in _ (by omega);have HRQ:Hid ((newR kk.s).1=(xb.toNat:Int)):=η (HTF.o.symm.trans hfx);have HHS:Hid (hasR kk.s (xb.toNat:Int)=true):=η (by rw [←HRQ.o];exact HS.o.2.2.2.2.1);clear hTA hfx hx255;have K26:=η (K25.o.step (Below.refl _ _).drew);have hlp:0<i21.t.length:=ApK HTL.o.1;have hlq:decide (0<i21.t.length)=true:=decide_eq_true hlp;refine wp_region_held_drew (S:=fun w'=>w'.cell? ⟨pr,4,none⟩=some (.slice (some ⟨g2,oo,none⟩) i21.t.length i21.e)∧w'.cell? ⟨g2,oo,none⟩=some (.int .u8 (xb.toNat:Int))) (by kernel_rfl) (BiZ (K26.o.rb (81,pr,i21.cells) (by simp)).1 (K26.o.my.row (i21.T,i21.t.length,i21.e,i21.t) (by simp)).rb (ApK HTL.o.1) HTA.o.1 HTA.o.2) (fun hHeld=>?_);(try dsimp only at hHeld);have Ω:=η (fun (w:World) (hSw:w.cell? ⟨pr,4,none⟩=some (.slice (some ⟨g2,oo,none⟩) i21.t.length i21.e)∧w.cell? ⟨g2,oo,none⟩=some (.int .u8 (xb.toNat:Int)))=>an hSw.1 hSw.2);refine tkJ 0 rfl hHeld ?_;refine tkJ 2 rfl hHeld ?_;(try simp only [Act.put,rxT,sxT]);refine tkJ 3 rfl hHeld ?_;refine tkJ 4 rfl hHeld ?_;(try simp only [Act.put,rxT,sxT]);refine tkJ 5 rfl hHeld ?_;refine tkJ 6 rfl hHeld ?_;refine rdI 1 rfl (fun K hK=>?_);(try simp only [Act.put,rxT,sxT]);go_simp;refine (AhK mi x (cntM (AbK (cntM (AbK k2) X)) Y) _ (by exact K26.o.my.mb)).mono ?_;rintro e w27 ⟨rfl,hw⟩;have K27:=K26;rw [hw] at K27;clear hw;(try go_wp2_with fail);refine hK.o _ _ (BiZ (K27.o.rb (81,pr,i21.cells) (by simp)).1 (K27.o.my.row (i21.T,i21.t.length,i21.e,i21.t) (by simp)).rb (ApK HTL.o.1) HTA.o.1 HTA.o.2) (fun hHeld=>?_);clear hK K;refine rdI 7 rfl (fun K hK=>?_);(try simp only [Act.put,rxT,sxT]);go_simp;(try rw [hwi]);refine (rkey_any w3.heap.size x A c es _ _ (xb.toNat:Int) w27 (by exact K27.o.my.rn) (by have:=K27.o.my.len;omega)).mono ?_;rw [show rgE es=kk.s from K27.o.my.ee.trans HK2.o.1];rw [HHS.o];simp only [RetKy,AwV HOS.o HHS.o];rintro e w28 ⟨KA,kc,rfl,hown,hb⟩;have K28:=η (K27.o.own hb hown);clear hown hb;(try go_wp2_with fail);refine hK.o _ _ (BiZ (K28.o.rb (81,pr,i21.cells) (by simp)).1 (K28.o.my.row (i21.T,i21.t.length,i21.e,i21.t) (by simp)).rb (ApK HTL.o.1) HTA.o.1 HTA.o.2) (fun hHeld=>?_);clear hK K;refine tkJ 8 rfl hHeld ?_;refine tkJ 9 rfl hHeld ?_;(try simp only [Act.put,rxT,sxT]);refine tkJ 10 rfl hHeld ?_;refine tkJ 11 rfl hHeld ?_;(try simp only [Act.put,rxT,sxT]);refine tkJ 12 rfl hHeld ?_;(try simp only [Act.put,rxT,sxT]);refine wpAnyH_done (by kernel_rfl) ?_ _;(try dsimp only);clear hHeld hwi hlp hlq;have HPT:=η (show 29≤i21.t.length∧i21.t.length≤i21.e∧i21.t.length≤1000 from ⟨by have:=HTL.o;omega,(K28.o.my.row (i21.T,i21.t.length,i21.e,i21.t) (by simp)).cap.1,by have:=HTL.o;omega⟩);have HC1:Hid (∀ W:World,(Instr.slice 41 (.slice (some ⟨g2,oo,none⟩) i21.t.length i21.e) (some (.int .i64 1)) (some (.int .i64 13)) none).run prog W=.ok (.slice (cutA (some ⟨g2,oo,none⟩) i21.e 1) 12 (i21.e - 1)) W):=η (DdV (some ⟨g2,oo,none⟩) i21.t.length i21.e 1 13 (by have:=HPT.o;omega) (by have:=HPT.o;omega))
    have HC2:Hid (∀ W:World,(Instr.slice 41 (.slice (some ⟨g2,oo,none⟩) i21.t.length i21.e) (some (.int .i64 13)) none none).run prog W=.ok (.slice (cutA (some ⟨g2,oo,none⟩) i21.e 13) (i21.t.length - 13) (i21.e - 13)) W):=η (BvJ (some ⟨g2,oo,none⟩) i21.t.length i21.e 13 (by have:=HPT.o;omega));obtain ⟨⟨L,V⟩,hL⟩:∃ r,AmK (keyR kk.s (xb.toNat:Int)) ((i21.t.drop 1).take 12) (i21.t.drop 13) ([xb]++l4)=r:=⟨_,rfl⟩;obtain ⟨M,hM⟩:∃ M,L.length=M:=⟨_,rfl⟩;have HL:=η (And.intro hL hM);clear hL hM;have hlp:0<i21.t.length:=ApK HTL.o.1;have hlq:decide (0<i21.t.length)=true:=decide_eq_true hlp;have K29:=η (K28.o.step (Below.refl _ _).drew);go_wp2_with fail;refine wp_region_held_drew (S:=fun w'=>w'.cell? ⟨pr,4,none⟩=some (.slice (some ⟨g2,oo,none⟩) i21.t.length i21.e)∧w'.cell? ⟨g2,oo,none⟩=some (.int .u8 (xb.toNat:Int))) (by kernel_rfl) (BiZ (K29.o.rb (81,pr,i21.cells) (by simp)).1 (K29.o.my.row (i21.T,i21.t.length,i21.e,i21.t) (by simp)).rb (ApK HTL.o.1) HTA.o.1 HTA.o.2) (fun hHeld=>?_);(try dsimp only at hHeld);generalize w28.drew=w29 at K29 hHeld ⊢;have Ω:=η (fun (w:World) (hSw:w.cell? ⟨pr,4,none⟩=some (.slice (some ⟨g2,oo,none⟩) i21.t.length i21.e)∧w.cell? ⟨g2,oo,none⟩=some (.int .u8 (xb.toNat:Int)))=>an hSw.1 (an hSw.2 (an (HC1.o w) (HC2.o w))));refine tkJ 0 rfl hHeld ?_;refine tkJ 1 rfl hHeld ?_;(try simp only [Act.put,rxT,sxT]);refine tkJ 2 rfl hHeld ?_;refine tkJ 3 rfl hHeld ?_;(try simp only [Act.put,rxT,sxT]);refine tkJ 4 rfl hHeld ?_;refine tkJ 5 rfl hHeld ?_;(try simp only [Act.put,rxT,sxT]);refine tkJ 6 rfl hHeld ?_;refine tkJ 7 rfl hHeld ?_;(try simp only [Act.put,rxT,sxT]);refine tkJ 8 rfl hHeld ?_;refine tkJ 9 rfl hHeld ?_;(try simp only [Act.put,rxT,sxT]);refine tkJ 10 rfl hHeld ?_;refine tkJ 12 rfl hHeld ?_;refine rdI 11 rfl (fun K hK=>?_);(try simp only [Act.put,rxT,sxT]);go_simp;have K30:=η (K29.o.lit [xb] _ 1 (vlitx xb) rfl n2);have O30:=η (OwnB.lit w29 w29.heap.size [xb] _ 1 (vlitx xb) rfl n2 (Nat.le_refl _));have B30:=η (AaK w29 (.cells #[.int .u8 (xb.toNat:Int)] 5));generalize (w29.alloc (.cells #[.int .u8 (xb.toNat:Int)] 5))=w30 at K30 O30 B30 ⊢;refine hK.o _ _ (BiZ (K30.o.rb (81,pr,i21.cells) (by simp)).1 (K30.o.my.row (i21.T,i21.t.length,i21.e,i21.t) (by simp)).rb (ApK HTL.o.1) HTA.o.1 HTA.o.2) (fun hHeld=>?_);clear hK K;refine rdI 13 rfl (fun K hK=>?_);(try simp only [Act.put,rxT,sxT]);rw [if_pos (by rfl)];refine BcK (.tmp 188) (.tmp 189) rfl w29.heap.size _ 1 1 [xb] rfl (by exact O30.o) w30.heap.size A9 l4.length c9 l4 rfl (by exact H43.o.step K30.o.bel) (by have:=HL64.o;omega) B30.o.size ?_;intro A7 c7 w31 ho _ hb;have K31:=η (K29.o.step (B30.o.trans hb));have O31:=η ho;clear ho hb;refine hK.o _ _ (BiZ (K31.o.rb (81,pr,i21.cells) (by simp)).1 (K31.o.my.row (i21.T,i21.t.length,i21.e,i21.t) (by simp)).rb (ApK HTL.o.1) HTA.o.1 HTA.o.2) (fun hHeld=>?_);clear hK K;refine rdI 14 rfl (fun K hK=>?_);(try simp only [Act.put,rxT,sxT]);go_simp;refine (EoQ KA (cutA (some ⟨g2,oo,none⟩) i21.e 1) (cutA (some ⟨g2,oo,none⟩) i21.e 13) A7 kc 12 (i21.e - 1) (i21.t.length - 13) (i21.e - 13) (1+l4.length) c7 (keyR kk.s (xb.toNat:Int)) ((i21.t.drop 1).take 12) (i21.t.drop 13) ([xb]++l4) w31 (by exact (K31.o.my.row (KA,16,kc,keyR kk.s (xb.toNat:Int)) (by simp)).rb) (by exact (K31.o.my.row (KA,16,kc,keyR kk.s (xb.toNat:Int)) (by simp)).cap.1) (by exact part_1 (K31.o.my.row (i21.T,i21.t.length,i21.e,i21.t) (by simp)).rb HTA.o.1 HPT.o.1 HPT.o.2.1) (by exact part_13 (K31.o.my.row (i21.T,i21.t.length,i21.e,i21.t) (by simp)).rb HTA.o.1 HPT.o.1 HPT.o.2.1) (by have:=HPT.o;omega) (by exact O31.o.rb) (by have:=HPT.o;omega) (by have:=HL64.o;omega)).mono ?_
    intro e w32 hr;obtain ⟨A8,c8,rfl,ho,hb⟩:=hr.to M L V HL.o.1 HL.o.2;have K32:=η (K31.o.step hb);clear hr ho hb;(try go_wp2_with fail);refine hK.o _ _ (BiZ (K32.o.rb (81,pr,i21.cells) (by simp)).1 (K32.o.my.row (i21.T,i21.t.length,i21.e,i21.t) (by simp)).rb (ApK HTL.o.1) HTA.o.1 HTA.o.2) (fun hHeld=>?_);clear hK K;refine tkJ 15 rfl hHeld ?_;refine tkJ 16 rfl hHeld ?_;(try simp only [Act.put,rxT,sxT]);refine tkJ 17 rfl hHeld ?_;refine tkJ 18 rfl hHeld ?_;(try simp only [Act.put,rxT,sxT]);refine tkJ 19 rfl hHeld ?_;(try simp only [Act.put,rxT,sxT]);refine wpAnyH_done (by kernel_rfl) ?_ _;(try dsimp only);clear hHeld hlp hlq;by_cases hV:V=0
    ·subst hV
     go_wp2_with fail;go_ret;exact ⟨rfl,AaJ B3.o K32.o.bel⟩
    have hy:Y=drp 13:=by
     have hT:AdQ kk.s l4 i21.t later=(zTk,13):=DrX (q:=(xb.toNat:Int)) HOS.o HHS.o HTA.o.2 ⟨HPT.o.1,by have:=HPT.o;omega⟩ HL64.o.1 (by rw [note_x,HL.o.1];exact hV);rw [←HY.o];exact DmQ (k:=AbK (cntM (AbK k2) X)) (p:=(Jn x2.i i21).pl) (q:=(xb.toNat:Int)) HTA.o.2 (ApK HTL.o.1) (EaZ HOS.o HHS.o).2 HSY.o (by show (AdQ k2.s l4 i21.t later).2=13;rw [HK2.o.1,hT])
    have dv:(V == 0)=false:=by simpa using hV
    have y0:=oc0_ (show Blk 73 w32 py (ocC Y BY dY) from (K32.o.rb (73,py,ocC Y BY dY) (by simp)).1);have y2:=oc2_ (show Blk 73 w32 py (ocC Y BY dY) from (K32.o.rb (73,py,ocC Y BY dY) (by simp)).1);rw [hy] at y0 y2;dsimp only [drp] at y0 y2;clear hV hy;go_wp2_with fail;go_ret;exact ⟨rfl,AaJ B3.o K32.o.bel⟩
