import Derived.Test.YthppjgdnibfefaaGreatMiX
import Derived.Test.YthppjgdnibfefaaGreatCdL
import Derived.Lib.MinMax
set_option linter.all false
set_option maxRecDepth 100000
set_option maxHeartbeats 32000000
namespace Go.Proofs.YthppjgdnibfefaaGreat
open Tryz
open Go.RowKit
attribute [local irreducible] AdJ AiQ seqT fstT AbW outM AhJ AjZ retR
theorem AaV {w:World} {ops:Array Oper} {rest:List Oper} {o:Oper} {a:Act} {Q:Exit→Act→World→Prop} {T T':TypeId} (rt:RT T zOc) (hgd:o.guard=none) (x y:Operand) (hop:o.op=.store T x y) (g:Nat) (hx:a.eval x=.pointer (some ⟨g,0,none⟩)) (u:Oc) (A:YA) (c:Nat) (vy:Value) (hy:a.eval y=vy) (hv:vy=ocV u A c) (cs:List Value) (hc:Blk T' w g cs) (hl:cs.length=5)
  (hk:∀ w',Blk T' w' g (ocC u A c)→Oth [g] w w'→w'.heap.size=w.heap.size→wpList prog ops Q rest (a.put o.dst undef) w'):wpList prog ops Q (o::rest) a w :=
 AnW rt hgd x y hop g 0 hx cs (ocC u A c) (hy.trans hv) (ErY u A c) rfl hc (by rw [hl];exact Nat.le_refl 5) (fun w' h1=>hk w' (by rwa [BtK (by rw [hl];rfl)] at h1))
theorem ArZ {w:World} {ops:Array Oper} {rest:List Oper} {o:Oper} {a:Act} {Q:Exit→Act→World→Prop} {T T':TypeId} (rt:RT T zOc) (hgd:o.guard=none) (x:Operand) (hop:o.op=.load T x) (g:Nat) (hx:a.eval x=.pointer (some ⟨g,0,none⟩)) (u:Oc) (A:YA) (c:Nat) (hc:Blk T' w g (ocC u A c))
  (hk:wpList prog ops Q rest (a.put o.dst (ocV u A c)) w):wpList prog ops Q (o::rest) a w:=AsJ rt hgd x hop g 0 hx _ (ocC u A c) hc rfl rfl hk
theorem AbQ {w:World} {ops:Array Oper} {rest:List Oper} {o:Oper} {a:Act} {Q:Exit→Act→World→Prop} (hgd:o.guard=none) (T:TypeId) (x:Operand) (hop:o.op=.box T x) (p:Pn) (hx:a.eval x=p.val)
  (hk:∀ w' q,Blk T w' q p.cells→Below w.heap.size w w'→w.heap.size≤q→wpList prog ops Q rest (a.put o.dst (.pointer (some ⟨q,0,none⟩))) w'):wpList prog ops Q (o::rest) a w:=AdQ hgd T x hop p.cells hx hk
theorem AeY {w:World} {ops:Array Oper} {rest:List Oper} {o:Oper} {a:Act} {Q:Exit→Act→World→Prop} {T T':TypeId} (rt:RT T zPn.cells) (hgd:o.guard=none) (x:Operand) (hop:o.op=.load T x) (g:Nat) (hx:a.eval x=.pointer (some ⟨g,0,none⟩)) (p:Pn) (cs:List Value) (hc:Blk T' w g cs) (hv:cs.take 4=p.cells)
  (hk:wpList prog ops Q rest (a.put o.dst p.val) w):wpList prog ops Q (o::rest) a w:=AsJ rt hgd x hop g 0 hx cs p.cells hc (by rw [List.drop_zero];exact hv) rfl hk
theorem AxX {w:World} {ops:Array Oper} {rest:List Oper} {o:Oper} {a:Act} {Q:Exit→Act→World→Prop} {T T':TypeId} (rt:RT T zPn.cells) (hgd:o.guard=none) (x y:Operand) (hop:o.op=.store T x y) (g:Nat) (hx:a.eval x=.pointer (some ⟨g,0,none⟩)) (p:Pn) (vy:Value) (hy:a.eval y=vy) (hv:vy=p.val) (cs ds:List Value) (hc:Blk T' w g cs) (hl:4≤cs.length) (hd:AvK cs 0 p.cells=ds)
  (hk:∀ w',Blk T' w' g ds→Oth [g] w w'→w'.heap.size=w.heap.size→wpList prog ops Q rest (a.put o.dst undef) w'):wpList prog ops Q (o::rest) a w :=
 AnW rt hgd x y hop g 0 hx cs p.cells (hy.trans hv) (pn_ones p) rfl hc (by rw [Nat.zero_add];exact hl) (fun w' h1=>hk w' (by rwa [hd] at h1))
theorem ApQ (p:Pn):p.cells.take 4=p.cells:=rfl
theorem EiK (k:Ms) (x:Nat):(AfK k x).take 4=k.p.cells:=rfl
theorem EoY (p q:Pn):AvK q.cells 0 p.cells=p.cells:=rfl
theorem EpJ (k:Ms) (x:Nat) (p:Pn):AvK (AfK k x) 0 p.cells=AfK { k with p:=p } x:=rfl
theorem EoZ (k:Ms) (x:Nat) (p:Pn):AvK (AdZ k x) 0 p.cells=AdZ { k with p:=p } x:=rfl
theorem pn_4 (p:Pn):4≤p.cells.length:=Nat.le_refl 4
theorem DhZ (k:Ms) (x j:Nat) (h:j<10):j<(AfK k x).length:=h
theorem BoK (k:Ms) (x j:Nat) (h:j<10):j<(AdZ k x).length:=h
theorem mint_4 (k:Ms) (x:Nat):4≤(AfK k x).length:=(by decide:4≤10)
theorem mref_4 (k:Ms) (x:Nat):4≤(AdZ k x).length:=(by decide:4≤10)
theorem AeW:zOc.length=5:=rfl
theorem pn_lit (p:Pn):Value.agg #[.int .i64 p.m,.bool p.sh,.int .i64 p.t,.int .u64 (p.life:Int)]=p.val:=rfl
theorem oc_drp (E:Int):Value.agg #[.int .i64 2,.bool false,.int .i64 E,.slice none 0 0,.int .i64 0]=ocV (drp E) none 0:=rfl
theorem AwX (c:Bool):Value.agg #[.int .i64 0,.bool c,.int .i64 0,.slice none 0 0,.int .i64 0]=ocV (fwd c) none 0:=rfl
theorem ErZ (b:YB) (A:YA) (c:Nat):Value.agg #[.int .i64 1,.bool false,.int .i64 0,.slice A b.length c,.int .i64 20]=ocV (mdo b) A c:=rfl
theorem set_see (k:Ms) (x:Nat):(AfK k x).set 4 (.int .i64 (k.n+1))=AfK (AgQ k) x:=rfl
theorem EkZ (k:Ms) (x:Nat):((AfK k x).set 4 (.int .i64 0)).set 5 (.int .i64 k.n)=AfK (AsX k) x:=rfl
theorem ElJ (k:Ms) (x:Nat):((AdZ k x).set 6 (.int .i64 k.n)).set 5 (.int .i64 0)=AdZ (AsX k) x:=rfl
theorem set_lt {T:TypeId} {w:World} {cs:List Value} {x:Nat} (v:Value) (i j:Nat) (h:j<cs.length):j<(cs.set i v).length:=by rw [List.length_set];exact h
section
variable {T:TypeId} {w:World} {q:Nat} {p:Pn}
theorem pc0_ (h:Blk T w q p.cells):w.cell? ⟨q,0,none⟩=some (.int .i64 p.m):=h.cell 0
theorem pc1_ (h:Blk T w q p.cells):w.cell? ⟨q,1,none⟩=some (.bool p.sh):=h.cell 1
theorem pc2_ (h:Blk T w q p.cells):w.cell? ⟨q,2,none⟩=some (.int .i64 p.t):=h.cell 2
theorem pc3_ (h:Blk T w q p.cells):w.cell? ⟨q,3,none⟩=some (.int .u64 (p.life:Int)):=h.cell 3
theorem Ic.of {x:Nat} {i:In} (k:Blk T w x i.cells):Ic T w x i:=k
end
theorem BgK {w:World} {ops:Array Oper} {rest:List Oper} {o:Oper} {a:Act} {Q:Exit→Act→World→Prop} {T T':TypeId} (rt:RT T zeroF.cells) (hgd:o.guard=none) (x y:Operand) (hop:o.op=.store T x y) (g:Nat) (hx:a.eval x=.pointer (some ⟨g,0,none⟩)) (i i0:Fd) (vy:Value) (hy:a.eval y=vy) (hv:vy=i.val) (hc:Fc T' w g i0)
  (hk:∀ w',Fc T' w' g i→Oth [g] w w'→w'.heap.size=w.heap.size→wpList prog ops Q rest (a.put o.dst undef) w'):wpList prog ops Q (o::rest) a w:=AbJ rt hgd x y hop g hx i i0 (hy.trans hv) hc hk
theorem CqV (z:Int) (h:0≤z∧z≤1000000000) (w:World):(Op.intArith .add .i64 z 1).run prog w=.ok (.int .i64 (z+1)) w:=by
 obtain ⟨n,rfl⟩:=Int.eq_ofNat_of_zero_le h.1
 exact DkW n (by omega) w
theorem AfW {w w1 w2:World} {g:Nat} (hb:Below w.heap.size w w1) (hx:w.heap.size≤g) (ho:Oth [g] w1 w2):Below w.heap.size w w2:=hb.trans (ho.below (fun j hj=>by rw [List.mem_singleton.1 hj];exact hx) hb.size)
theorem AyW (p:Pn) (w:World) (v:Bool) (hv:AcW p=v) :
  Calls prog 14 #[p.val] w fun e w'=>e=.returned (.bool v)∧Below w.heap.size w w':=by
 by_cases g0:0≤p.m
 rotate_left
 ·obtain rfl:v=false:=by rw [←hv];unfold AcW;exact decide_eq_false (fun h=>g0 h.1.1)
  have d0:decide (p.m≥0)=false:=decide_eq_false (by omega);clear hv g0;go_enter func14,ntmps14
  go_wp2_with (first
   | (refine AbQ rfl 24 (.tmp 0) rfl p rfl ?_;intro w1 q hc1 hb1 hx1;have c0:=pc0_ hc1;have c2:=pc2_ hc1;have c3:=pc3_ hc1;have HB:=η hb1;clear hc1 hb1 hx1))
  go_ret;exact ⟨rfl,HB.o⟩
 have d0:decide (p.m≥0)=true:=decide_eq_true (by omega)
 by_cases g1:p.m≤2
 rotate_left
 ·obtain rfl:v=false:=by rw [←hv];unfold AcW;exact decide_eq_false (fun h=>g1 h.1.2)
  have d1:decide (p.m≤2)=false:=decide_eq_false (by omega);clear hv g0 g1;go_enter func14,ntmps14
  go_wp2_with (first
   | (refine AbQ rfl 24 (.tmp 0) rfl p rfl ?_;intro w1 q hc1 hb1 hx1;have c0:=pc0_ hc1;have c2:=pc2_ hc1;have c3:=pc3_ hc1;have HB:=η hb1;clear hc1 hb1 hx1))
  go_ret;exact ⟨rfl,HB.o⟩
 have d1:decide (p.m≤2)=true:=decide_eq_true (by omega)
 by_cases g2:1≤p.t
 rotate_left
 ·obtain rfl:v=false:=by rw [←hv];unfold AcW;exact decide_eq_false (fun h=>g2 h.2.1.1)
  have d2:decide (p.t≥1)=false:=decide_eq_false (by omega);clear hv g0 g1 g2;go_enter func14,ntmps14
  go_wp2_with (first
   | (refine AbQ rfl 24 (.tmp 0) rfl p rfl ?_;intro w1 q hc1 hb1 hx1;have c0:=pc0_ hc1;have c2:=pc2_ hc1;have c3:=pc3_ hc1;have HB:=η hb1;clear hc1 hb1 hx1))
  go_ret;exact ⟨rfl,HB.o⟩
 have d2:decide (p.t≥1)=true:=decide_eq_true (by omega)
 by_cases g3:p.t≤65535
 rotate_left
 ·obtain rfl:v=false:=by rw [←hv];unfold AcW;exact decide_eq_false (fun h=>g3 h.2.1.2)
  have d3:decide (p.t≤65535)=false:=decide_eq_false (by omega);clear hv g0 g1 g2 g3;go_enter func14,ntmps14
  go_wp2_with (first
   | (refine AbQ rfl 24 (.tmp 0) rfl p rfl ?_;intro w1 q hc1 hb1 hx1;have c0:=pc0_ hc1;have c2:=pc2_ hc1;have c3:=pc3_ hc1;have HB:=η hb1;clear hc1 hb1 hx1))
  go_ret;exact ⟨rfl,HB.o⟩
 have d3:decide (p.t≤65535)=true:=decide_eq_true (by omega)
 by_cases g4:p.life≤1099511627776
 rotate_left
 ·obtain rfl:v=false:=by rw [←hv];unfold AcW;exact decide_eq_false (fun h=>g4 h.2.2)
  have d4:decide ((p.life:Int)≤1099511627776)=false:=decide_eq_false (by omega);have d5:decide (p.life≤1099511627776)=false:=decide_eq_false g4;clear hv g0 g1 g2 g3 g4;go_enter func14,ntmps14
  go_wp2_with (first
   | (refine AbQ rfl 24 (.tmp 0) rfl p rfl ?_;intro w1 q hc1 hb1 hx1;have c0:=pc0_ hc1;have c2:=pc2_ hc1;have c3:=pc3_ hc1;have HB:=η hb1;clear hc1 hb1 hx1))
  go_ret;exact ⟨rfl,HB.o⟩
 have d4:decide ((p.life:Int)≤1099511627776)=true:=decide_eq_true (by omega)
 have d5:decide (p.life≤1099511627776)=true:=decide_eq_true g4
 obtain rfl:v=true:=by rw [←hv];unfold AcW;exact decide_eq_true ⟨⟨g0,g1⟩,⟨g2,g3⟩,g4⟩
 clear hv g0 g1 g2 g3 g4
 go_enter func14,ntmps14
 go_wp2_with (first
   | (refine AbQ rfl 24 (.tmp 0) rfl p rfl ?_;intro w1 q hc1 hb1 hx1;have c0:=pc0_ hc1;have c2:=pc2_ hc1;have c3:=pc3_ hc1;have HB:=η hb1;clear hc1 hb1 hx1))
 go_ret
 exact ⟨rfl,HB.o⟩
theorem AmK (p:Pn) (w:World) (v:Bool) (hv:AcW p=v) :
  Calls prog 15 #[p.val] w fun e w'=>e=.returned (.bool v)∧Below w.heap.size w w':=by
 by_cases g0:0≤p.m
 rotate_left
 ·obtain rfl:v=false:=by rw [←hv];unfold AcW;exact decide_eq_false (fun h=>g0 h.1.1)
  have d0:decide (p.m≥0)=false:=decide_eq_false (by omega);clear hv g0;go_enter func15,ntmps15
  go_wp2_with (first
   | (refine AbQ rfl 35 (.tmp 0) rfl p rfl ?_;intro w1 q hc1 hb1 hx1;have c0:=pc0_ hc1;have c2:=pc2_ hc1;have c3:=pc3_ hc1;have HB:=η hb1;clear hc1 hb1 hx1))
  go_ret;exact ⟨rfl,HB.o⟩
 have d0:decide (p.m≥0)=true:=decide_eq_true (by omega)
 by_cases g1:p.m≤2
 rotate_left
 ·obtain rfl:v=false:=by rw [←hv];unfold AcW;exact decide_eq_false (fun h=>g1 h.1.2)
  have d1:decide (p.m≤2)=false:=decide_eq_false (by omega);clear hv g0 g1;go_enter func15,ntmps15
  go_wp2_with (first
   | (refine AbQ rfl 35 (.tmp 0) rfl p rfl ?_;intro w1 q hc1 hb1 hx1;have c0:=pc0_ hc1;have c2:=pc2_ hc1;have c3:=pc3_ hc1;have HB:=η hb1;clear hc1 hb1 hx1))
  go_ret;exact ⟨rfl,HB.o⟩
 have d1:decide (p.m≤2)=true:=decide_eq_true (by omega)
 by_cases g2:1≤p.t
 rotate_left
 ·obtain rfl:v=false:=by rw [←hv];unfold AcW;exact decide_eq_false (fun h=>g2 h.2.1.1)
  have d2:decide (p.t≥1)=false:=decide_eq_false (by omega);clear hv g0 g1 g2;go_enter func15,ntmps15
  go_wp2_with (first
   | (refine AbQ rfl 35 (.tmp 0) rfl p rfl ?_;intro w1 q hc1 hb1 hx1;have c0:=pc0_ hc1;have c2:=pc2_ hc1;have c3:=pc3_ hc1;have HB:=η hb1;clear hc1 hb1 hx1))
  go_ret;exact ⟨rfl,HB.o⟩
 have d2:decide (p.t≥1)=true:=decide_eq_true (by omega)
 by_cases g3:p.t≤65535
 rotate_left
 ·obtain rfl:v=false:=by rw [←hv];unfold AcW;exact decide_eq_false (fun h=>g3 h.2.1.2)
  have d3:decide (p.t≤65535)=false:=decide_eq_false (by omega);clear hv g0 g1 g2 g3;go_enter func15,ntmps15
  go_wp2_with (first
   | (refine AbQ rfl 35 (.tmp 0) rfl p rfl ?_;intro w1 q hc1 hb1 hx1;have c0:=pc0_ hc1;have c2:=pc2_ hc1;have c3:=pc3_ hc1;have HB:=η hb1;clear hc1 hb1 hx1))
  go_ret;exact ⟨rfl,HB.o⟩
 have d3:decide (p.t≤65535)=true:=decide_eq_true (by omega)
 by_cases g4:p.life≤1099511627776
 rotate_left
 ·obtain rfl:v=false:=by rw [←hv];unfold AcW;exact decide_eq_false (fun h=>g4 h.2.2)
  have d4:decide ((p.life:Int)≤1099511627776)=false:=decide_eq_false (by omega);have d5:decide (p.life≤1099511627776)=false:=decide_eq_false g4;clear hv g0 g1 g2 g3 g4;go_enter func15,ntmps15
  go_wp2_with (first
   | (refine AbQ rfl 35 (.tmp 0) rfl p rfl ?_;intro w1 q hc1 hb1 hx1;have c0:=pc0_ hc1;have c2:=pc2_ hc1;have c3:=pc3_ hc1;have HB:=η hb1;clear hc1 hb1 hx1))
  go_ret;exact ⟨rfl,HB.o⟩
 have d4:decide ((p.life:Int)≤1099511627776)=true:=decide_eq_true (by omega)
 have d5:decide (p.life≤1099511627776)=true:=decide_eq_true g4
 obtain rfl:v=true:=by rw [←hv];unfold AcW;exact decide_eq_true ⟨⟨g0,g1⟩,⟨g2,g3⟩,g4⟩
 clear hv g0 g1 g2 g3 g4
 go_enter func15,ntmps15
 go_wp2_with (first
   | (refine AbQ rfl 35 (.tmp 0) rfl p rfl ?_;intro w1 q hc1 hb1 hx1;have c0:=pc0_ hc1;have c2:=pc2_ hc1;have c3:=pc3_ hc1;have HB:=η hb1;clear hc1 hb1 hx1))
 go_ret
 exact ⟨rfl,HB.o⟩
theorem BeQ (p:Pn) (w:World):Calls prog 13 #[p.val] w fun e w'=>e=.returned p.val∧Below w.heap.size w w':=by
 go_enter func13,ntmps13
 go_wp2_with (first
  | (refine AbQ rfl 24 (.tmp 0) rfl p rfl ?_;intro w1 q hc1 hb1 hx1;have HC:=η hc1;have HB:=η hb1;clear hc1 hb1 hx1)
  | (refine atd 2 rfl ?_;refine AaZ AzW rfl rfl ?_;intro w2 r hc1 hb1 hx1;have c0:=pc0_ (HC.o.step hb1);have c1:=pc1_ (HC.o.step hb1);have c2:=pc2_ (HC.o.step hb1);have c3:=pc3_ (HC.o.step hb1);have HB2:=η (And.intro (AaJ HB.o hb1) (And.intro hc1 (Nat.le_trans HB.o.size hx1)));clear hc1 hb1 hx1)
  | (refine AxX AzW rfl (.tmp 2) (.tmp 11) rfl r rfl p (.agg #[.int .i64 p.m,.bool p.sh,.int .i64 p.t,.int .u64 (p.life:Int)]) rfl (by exact pn_lit p) zPn.cells p.cells (by exact HB2.o.2.1) (by exact pn_4 zPn) (by exact EoY p zPn) ?_;intro w3 hc1 ho1 hs1;have HC3:=η (And.intro hc1 (AfW HB2.o.1 HB2.o.2.2 ho1));clear hc1 ho1 hs1))
 exact bodyPost_ret (v:=p.val) (AbK AzW rfl _ _ r p.cells rfl HC3.o.1 rfl) rfl ⟨rfl,HC3.o.2⟩
theorem CgY (mi x:Nat) (k:Ms) (w:World) (h:Blk 71 w mi (AfK k x)):Calls prog 31 #[.pointer (some ⟨mi,0,none⟩)] w fun e w'=>e=.returned k.p.val∧Below w.heap.size w w':=by
 have H:=η h
 clear h
 go_enter func31,ntmps31
 go_wp2_with (first
  | (refine atd 2 rfl ?_;refine AaZ BbK rfl rfl ?_;intro w2 r hc1 hb1 hx1;have HC2:Hid (Blk 71 w2 mi (AfK k x)):=η (H.o.step hb1);have HB2:=η (And.intro hb1 (And.intro hc1 hx1));clear hc1 hb1 hx1)
  | (refine atd 6 rfl ?_;refine AeY BbK rfl (.tmp 5) rfl mi rfl k.p _ (by exact HC2.o) (by exact EiK k x) ?_)
  | (refine AxX BbK rfl (.tmp 2) (.tmp 6) rfl r rfl k.p k.p.val rfl rfl zPn.cells k.p.cells (by exact HB2.o.2.1) (by exact pn_4 zPn) (by exact EoY k.p zPn) ?_;intro w3 hc1 ho1 hs1;have HC3:=η (And.intro hc1 (AfW HB2.o.1 HB2.o.2.2 ho1));clear hc1 ho1 hs1))
 exact bodyPost_ret (v:=k.p.val) (AbK BbK rfl _ _ r k.p.cells rfl HC3.o.1 rfl) rfl ⟨rfl,HC3.o.2⟩
theorem AkV (mi x:Nat) (k:Ms) (w:World) (h:Blk 71 w mi (AfK k x)):Calls prog 16 #[.pointer (some ⟨mi,0,none⟩)] w fun e w'=>e=.returned (.pointer (some ⟨x,0,none⟩))∧w=w':=by
 have c6:w.cell? ⟨mi,6,none⟩=some (.pointer (some ⟨x,0,none⟩)):=h.cell 6
 clear h
 go_enter func16,ntmps16
 go_wp2_with fail
 go_ret
 exact ⟨rfl,rfl⟩
theorem CfY (mi x:Nat) (k:Ms) (w:World) (h:Blk 71 w mi (AfK k x)):Calls prog 23 #[.pointer (some ⟨mi,0,none⟩)] w fun e w'=>e=.returned (.tuple #[.int .i64 k.n,.int .i64 k.l])∧Below w.heap.size w w':=by
 have c4:w.cell? ⟨mi,4,none⟩=some (.int .i64 k.n):=h.cell 4
 have c5:w.cell? ⟨mi,5,none⟩=some (.int .i64 k.l):=h.cell 5
 clear h
 go_enter func23,ntmps23
 go_wp2_with fail
 go_quiet (fail)
 go_wp2_with fail
 go_ret2
 exact ⟨rfl,AeV (Below.refl _ _) _⟩
theorem AuZ (mi x:Nat) (k:Ms) (w:World) (h:Blk 71 w mi (AfK k x)) (v:Bool) (hv:AdW k=v):Calls prog 27 #[.pointer (some ⟨mi,0,none⟩)] w fun e w'=>e=.returned (.bool v)∧Below w.heap.size w w':=by
 have c0:w.cell? ⟨mi,0,none⟩=some (.int .i64 k.p.m):=h.cell 0
 have c2:w.cell? ⟨mi,2,none⟩=some (.int .i64 k.p.t):=h.cell 2
 have c4:w.cell? ⟨mi,4,none⟩=some (.int .i64 k.n):=h.cell 4
 have c5:w.cell? ⟨mi,5,none⟩=some (.int .i64 k.l):=h.cell 5
 clear h
 unfold AdW at hv
 cases d0:(k.p.m == 2)
 ·rw [d0,Bool.false_or] at hv
  cases d1:(k.p.m == 1)
  ·rw [d1,Bool.false_and] at hv
   subst hv;go_enter func27,ntmps27;go_wp2_with fail;go_quiet (fail);go_wp2_with fail;go_ret;exact ⟨rfl,AeV (Below.refl _ _) _⟩
  ·rw [d1,Bool.true_and] at hv
   have d2:decide (max k.n k.l≥k.p.t)=v:=by rw [←hv,Bool.eq_iff_iff,decide_eq_true_eq,Bool.or_eq_true,decide_eq_true_eq,decide_eq_true_eq];omega
   clear hv;go_enter func27,ntmps27;go_wp2_with fail;go_quiet (fail);go_wp2_with fail;go_ret;exact ⟨rfl,AeV (Below.refl _ _) _⟩
 ·rw [d0,Bool.true_or] at hv
  subst hv;go_enter func27,ntmps27;go_wp2_with fail;go_quiet (fail);go_wp2_with fail;go_ret;exact ⟨rfl,AeV (Below.refl _ _) _⟩
theorem ArV (mr y:Nat) (k:Ms) (w:World) (h:Blk 57 w mr (AdZ k y)) (v:Bool) (hv:AdW k=v):Calls prog 47 #[.pointer (some ⟨mr,0,none⟩)] w fun e w'=>e=.returned (.bool v)∧Below w.heap.size w w':=by
 have c0:w.cell? ⟨mr,0,none⟩=some (.int .i64 k.p.m):=h.cell 0
 have c2:w.cell? ⟨mr,2,none⟩=some (.int .i64 k.p.t):=h.cell 2
 have c5:w.cell? ⟨mr,5,none⟩=some (.int .i64 k.n):=h.cell 5
 have c6:w.cell? ⟨mr,6,none⟩=some (.int .i64 k.l):=h.cell 6
 clear h
 unfold AdW at hv
 cases d0:(k.p.m == 2)
 ·rw [d0,Bool.false_or] at hv
  cases d1:(k.p.m == 1)
  ·rw [d1,Bool.false_and] at hv
   subst hv;go_enter func47,ntmps47;go_wp2_with fail;go_quiet (fail);go_wp2_with fail;go_ret;exact ⟨rfl,AeV (Below.refl _ _) _⟩
  ·rw [d1,Bool.true_and] at hv
   cases d2:decide (k.p.t≤k.n)
   ·rw [d2,Bool.false_or] at hv
    have e2:decide (k.n≥k.p.t)=false:=d2;have e3:decide (k.l≥k.p.t)=v:=hv;clear hv;go_enter func47,ntmps47;go_wp2_with fail;go_quiet (fail);go_wp2_with fail;go_ret;exact ⟨rfl,AeV (Below.refl _ _) _⟩
   ·rw [d2,Bool.true_or] at hv
    have e2:decide (k.n≥k.p.t)=true:=d2;subst hv;go_enter func47,ntmps47;go_wp2_with fail;go_quiet (fail);go_wp2_with fail;go_ret;exact ⟨rfl,AeV (Below.refl _ _) _⟩
 ·rw [d0,Bool.true_or] at hv
  subst hv;go_enter func47,ntmps47;go_wp2_with fail;go_quiet (fail);go_wp2_with fail;go_ret;exact ⟨rfl,AeV (Below.refl _ _) _⟩
theorem ElZ (mi x:Nat) (k:Ms) (w:World) (h:Blk 71 w mi (AfK k x)) (hn:0≤k.n∧k.n≤1000000000):Calls prog 51 #[.pointer (some ⟨mi,0,none⟩)] w fun e w'=>e=.returned (.tuple #[])∧Blk 71 w' mi (AfK (AgQ k) x)∧Oth [mi] w w':=by
 have c4:w.cell? ⟨mi,4,none⟩=some (.int .i64 k.n):=h.cell 4
 have H:=η h
 clear h
 go_enter func51,ntmps51
 go_wp2_with (first
  | (refine AhV (ty:=3) (by kernel_rfl) rfl (.tmp 8) (.tmp 6) rfl mi 4 rfl (.int .i64 (k.n+1)) rfl rfl _ (by exact H.o) (by exact DhZ k x 4 (by decide)) ?_;rw [set_see];intro w2 hc1 ho1 hs1;have H2:=η (And.intro hc1 ho1);clear hc1 ho1 hs1))
 exact ⟨rfl,_,results_none rfl _ _ _,rfl,H2.o.1,H2.o.2⟩
theorem CeY (mi x:Nat) (k:Ms) (w:World) (h:Blk 71 w mi (AfK k x)):Calls prog 35 #[.pointer (some ⟨mi,0,none⟩)] w fun e w'=>e=.returned (.tuple #[])∧Blk 71 w' mi (AfK (AsX k) x)∧Oth [mi] w w':=by
 have c4:w.cell? ⟨mi,4,none⟩=some (.int .i64 k.n):=h.cell 4
 have H:=η h
 clear h
 go_enter func35,ntmps35
 go_wp2_with (first
  | (with_reducible show wpList _ _ _ (⟨none,.store _ (.tmp 9) _,_,_,_,none⟩::_) _ _;refine AhV (ty:=3) (by kernel_rfl) rfl (.tmp 9) (.const (.int .i64 0)) rfl mi 4 rfl (.int .i64 0) rfl rfl _ (by exact H.o) (by exact DhZ k x 4 (by decide)) ?_;intro w2 hc1 ho1 hs1;have H2:=η (And.intro hc1 ho1);clear hc1 ho1 hs1)
  | (with_reducible show wpList _ _ _ (⟨none,.store _ (.tmp 11) _,_,_,_,none⟩::_) _ _;refine AhV (ty:=3) (by kernel_rfl) rfl (.tmp 11) (.tmp 7) rfl mi 5 rfl (.int .i64 k.n) rfl rfl _ (by exact H2.o.1) (by exact set_lt (T:=0) (w:=w) (x:=0) _ _ _ (DhZ k x 5 (by decide))) ?_;rw [EkZ];intro w3 hc1 ho1 hs1;have H3:=η (And.intro hc1 (H2.o.2.trans ho1));clear hc1 ho1 hs1))
 exact ⟨rfl,_,results_none rfl _ _ _,rfl,H3.o.1,H3.o.2⟩
theorem DeY (mr y:Nat) (k:Ms) (w:World) (h:Blk 57 w mr (AdZ k y)):Calls prog 43 #[.pointer (some ⟨mr,0,none⟩)] w fun e w'=>e=.returned (.tuple #[])∧Blk 57 w' mr (AdZ (AsX k) y)∧Oth [mr] w w':=by
 have c5:w.cell? ⟨mr,5,none⟩=some (.int .i64 k.n):=h.cell 5
 have H:=η h
 clear h
 go_enter func43,ntmps43
 go_wp2_with (first
  | (with_reducible show wpList _ _ _ (⟨none,.store _ (.tmp 8) _,_,_,_,none⟩::_) _ _;refine AhV (ty:=3) (by kernel_rfl) rfl (.tmp 8) (.tmp 6) rfl mr 6 rfl (.int .i64 k.n) rfl rfl _ (by exact H.o) (by exact BoK k y 6 (by decide)) ?_;intro w2 hc1 ho1 hs1;have H2:=η (And.intro hc1 ho1);clear hc1 ho1 hs1)
  | (with_reducible show wpList _ _ _ (⟨none,.store _ (.tmp 11) _,_,_,_,none⟩::_) _ _;refine AhV (ty:=3) (by kernel_rfl) rfl (.tmp 11) (.const (.int .i64 0)) rfl mr 5 rfl (.int .i64 0) rfl rfl _ (by exact H2.o.1) (by exact set_lt (T:=0) (w:=w) (x:=0) _ _ _ (BoK k y 5 (by decide))) ?_;rw [ElJ];intro w3 hc1 ho1 hs1;have H3:=η (And.intro hc1 (H2.o.2.trans ho1));clear hc1 ho1 hs1))
 exact ⟨rfl,_,results_none rfl _ _ _,rfl,H3.o.1,H3.o.2⟩
theorem BjK (mi x:Nat) (k:Ms) (p:Pn) (w:World) (h:Blk 71 w mi (AfK k x)):Calls prog 32 #[.pointer (some ⟨mi,0,none⟩),p.val] w fun e w'=>e=.returned (.int .i64 (setM k p).2)∧Blk 71 w' mi (AfK (setM k p).1 x)∧Oth [mi] w w':=by
 have H:=η h
 clear h
 cases hv:AcW p
 ·have e1:setM k p=(k,11):=by unfold setM;rw [hv];rfl
  rw [e1];clear e1;go_enter func32,ntmps32
  go_wp2_with (first
   | (refine AbQ rfl 24 (.tmp 1) rfl p rfl ?_;intro w1 q hc1 hb1 hx1;have HC:=η hc1;have HB:=η (And.intro hb1 hx1);clear hc1 hb1 hx1)
   | (refine atd 5 rfl ?_;refine AeY BbK rfl (.tmp 3) rfl q rfl p _ (by exact HC.o) (by exact ApQ p) ?_))
  refine (AyW p w1 false hv).mono ?_;rintro e w2 ⟨rfl,hb2⟩;have HB2:=η (AaJ HB.o.1 hb2);have HC2:=η (HC.o.step hb2);clear hb2 hv;go_wp2_with fail;go_ret;exact ⟨rfl,H.o.step HB2.o,Oth.of_below HB2.o⟩
 ·have e1:setM k p=({ k with p:=p },0):=by unfold setM;rw [hv];rfl
  rw [e1];clear e1;go_enter func32,ntmps32
  go_wp2_with (first
   | (refine AbQ rfl 24 (.tmp 1) rfl p rfl ?_;intro w1 q hc1 hb1 hx1;have HC:=η hc1;have HB:=η (And.intro hb1 hx1);clear hc1 hb1 hx1)
   | (refine atd 5 rfl ?_;refine AeY BbK rfl (.tmp 3) rfl q rfl p _ (by exact HC.o) (by exact ApQ p) ?_))
  refine (AyW p w1 true hv).mono ?_;rintro e w2 ⟨rfl,hb2⟩;have HB2:=η (AaJ HB.o.1 hb2);have HC2:=η (HC.o.step hb2);clear hb2 hv;have H2:=η (H.o.step HB2.o)
  go_wp2_with (first
   | (refine atd 9 rfl ?_;refine AeY BbK rfl (.tmp 3) rfl q rfl p _ (by exact HC2.o) (by exact ApQ p) ?_)
   | (refine AxX BbK rfl (.tmp 11) (.tmp 9) rfl mi rfl p p.val rfl rfl _ (AfK { k with p:=p } x) (by exact H2.o) (by exact mint_4 k x) (by exact EpJ k x p) ?_;intro w3 hc1 ho1 hs1;have H3:=η (And.intro hc1 ((Oth.of_below HB2.o).trans ho1));clear hc1 ho1 hs1))
  go_ret;exact ⟨rfl,H3.o.1,H3.o.2⟩
theorem DzW (mi x:Nat) (k:Ms) (p:Pn) (w:World) (h:Blk 57 w mi (AdZ k x)):Calls prog 44 #[.pointer (some ⟨mi,0,none⟩),p.val] w fun e w'=>e=.returned (.int .i64 (setM k p).2)∧Blk 57 w' mi (AdZ (setM k p).1 x)∧Oth [mi] w w':=by
 have H:=η h
 clear h
 cases hv:AcW p
 ·have e1:setM k p=(k,11):=by unfold setM;rw [hv];rfl
  rw [e1];clear e1;go_enter func44,ntmps44
  go_wp2_with (first
   | (refine AbQ rfl 35 (.tmp 1) rfl p rfl ?_;intro w1 q hc1 hb1 hx1;have HC:=η hc1;have HB:=η (And.intro hb1 hx1);clear hc1 hb1 hx1)
   | (refine atd 5 rfl ?_;refine AeY AzW rfl (.tmp 3) rfl q rfl p _ (by exact HC.o) (by exact ApQ p) ?_))
  refine (AmK p w1 false hv).mono ?_;rintro e w2 ⟨rfl,hb2⟩;have HB2:=η (AaJ HB.o.1 hb2);have HC2:=η (HC.o.step hb2);clear hb2 hv;go_wp2_with fail;go_ret;exact ⟨rfl,H.o.step HB2.o,Oth.of_below HB2.o⟩
 ·have e1:setM k p=({ k with p:=p },0):=by unfold setM;rw [hv];rfl
  rw [e1];clear e1;go_enter func44,ntmps44
  go_wp2_with (first
   | (refine AbQ rfl 35 (.tmp 1) rfl p rfl ?_;intro w1 q hc1 hb1 hx1;have HC:=η hc1;have HB:=η (And.intro hb1 hx1);clear hc1 hb1 hx1)
   | (refine atd 5 rfl ?_;refine AeY AzW rfl (.tmp 3) rfl q rfl p _ (by exact HC.o) (by exact ApQ p) ?_))
  refine (AmK p w1 true hv).mono ?_;rintro e w2 ⟨rfl,hb2⟩;have HB2:=η (AaJ HB.o.1 hb2);have HC2:=η (HC.o.step hb2);clear hb2 hv;have H2:=η (H.o.step HB2.o)
  go_wp2_with (first
   | (refine atd 9 rfl ?_;refine AeY AzW rfl (.tmp 3) rfl q rfl p _ (by exact HC2.o) (by exact ApQ p) ?_)
   | (refine AxX AzW rfl (.tmp 11) (.tmp 9) rfl mi rfl p p.val rfl rfl _ (AdZ { k with p:=p } x) (by exact H2.o) (by exact mref_4 k x) (by exact EoZ k x p) ?_;intro w3 hc1 ho1 hs1;have H3:=η (And.intro hc1 ((Oth.of_below HB2.o).trans ho1));clear hc1 ho1 hs1))
  go_ret;exact ⟨rfl,H3.o.1,H3.o.2⟩
theorem AoK (E:Int) (w:World):Calls prog 79 #[.int .i64 E] w fun e w'=>e=.returned (ocV (drp E) none 0)∧Below w.heap.size w w':=by
 go_enter func79,ntmps79
 go_wp2_with (first
  | (refine atd 2 rfl ?_;refine AaZ AcY rfl rfl ?_;intro w1 q hc1 hb1 hx1;have H1:=η (And.intro hc1 (And.intro hb1 hx1));clear hc1 hb1 hx1)
  | (with_reducible show wpList _ _ _ (⟨none,.store _ _ _,_,_,_,none⟩::_) _ _;refine AaV AcY rfl (.tmp 2) (.tmp 4) rfl q rfl (drp E) none 0 (.agg #[.int .i64 2,.bool false,.int .i64 E,.slice none 0 0,.int .i64 0]) rfl (by exact oc_drp E) zOc (by exact H1.o.1) (by exact AeW) ?_;intro w2 hc1 ho1 hs1;have H2:=η (And.intro hc1 (AfW H1.o.2.1 H1.o.2.2 ho1));clear hc1 ho1 hs1))
 exact bodyPost_ret (v:=ocV (drp E) none 0) (AbK AcY rfl _ _ q (ocC (drp E) none 0) rfl H2.o.1 rfl) rfl ⟨rfl,H2.o.2⟩
theorem AgY (E:Int) (w:World):Calls prog 109 #[.int .i64 E] w fun e w'=>e=.returned (ocV (drp E) none 0)∧Below w.heap.size w w':=by
 go_enter func109,ntmps109
 go_wp2_with (first
  | (refine atd 2 rfl ?_;refine AaZ AbV rfl rfl ?_;intro w1 q hc1 hb1 hx1;have H1:=η (And.intro hc1 (And.intro hb1 hx1));clear hc1 hb1 hx1)
  | (with_reducible show wpList _ _ _ (⟨none,.store _ _ _,_,_,_,none⟩::_) _ _;refine AaV AbV rfl (.tmp 2) (.tmp 4) rfl q rfl (drp E) none 0 (.agg #[.int .i64 2,.bool false,.int .i64 E,.slice none 0 0,.int .i64 0]) rfl (by exact oc_drp E) zOc (by exact H1.o.1) (by exact AeW) ?_;intro w2 hc1 ho1 hs1;have H2:=η (And.intro hc1 (AfW H1.o.2.1 H1.o.2.2 ho1));clear hc1 ho1 hs1))
 exact bodyPost_ret (v:=ocV (drp E) none 0) (AbK AbV rfl _ _ q (ocC (drp E) none 0) rfl H2.o.1 rfl) rfl ⟨rfl,H2.o.2⟩
theorem DaX (now life:Nat) (hn:now<2 ^ 64) (hl:life<2 ^ 64) (w:World):Calls prog 114 #[.int .u64 (now:Int),.int .u64 (life:Int)] w fun e w'=>e=.returned (.int .u64 (AgZ now life:Int))∧w=w':=by
 obtain ⟨z,hz⟩:∃ z:Nat,18446744073709551615 - now=z:=⟨_,rfl⟩
 have r1:(18446744073709551615:Int) - (now:Int)=(z:Int):=by omega
 by_cases h:now+life<18446744073709551616
 ·have e1:AgZ now life=now+life:=by unfold AgZ;rw [if_pos h]
  have d1:decide (life>z)=false:=decide_eq_false (by omega);have d2:decide ((life:Int)>(z:Int))=false:=decide_eq_false (by omega);rw [e1];clear e1;obtain ⟨s,hs⟩:∃ s:Nat,now+life=s:=⟨_,rfl⟩;have r2:(now:Int)+(life:Int)=(s:Int):=by omega
  rw [hs];have bs:s<18446744073709551616:=by omega
  have bz:z<18446744073709551616:=by omega
  clear hs hz h;go_enter func114,ntmps114;go_wp2_with fail;go_ret;exact ⟨rfl,rfl⟩
 ·have e1:AgZ now life=18446744073709551615:=by unfold AgZ;rw [if_neg h]
  have d1:decide (life>z)=true:=decide_eq_true (by omega);have d2:decide ((life:Int)>(z:Int))=true:=decide_eq_true (by omega);have bz:z<18446744073709551616:=by omega
  rw [e1];clear e1 h hz;go_enter func114,ntmps114;go_wp2_with fail;go_ret;exact ⟨rfl,rfl⟩
theorem EeQ (mi x:Nat) (k:Ms) (w:World) (h:Blk 71 w mi (AfK k x)):Calls prog 50 #[.pointer (some ⟨mi,0,none⟩),.int .i64 0] w fun e w'=>e=.returned (.int .i64 k.f)∧w=w':=by
 have c7:w.cell? ⟨mi,7,none⟩=some (.int .i64 k.f):=h.cell 7
 clear h
 go_enter func50,ntmps50
 go_wp2_with fail
 refine (BwZ _ k.f w (by exact c7)).mono ?_
 rintro e w2 ⟨rfl,rfl⟩
 go_wp2_with fail
 go_ret
 exact ⟨rfl,rfl⟩
theorem EeK (mi x:Nat) (k:Ms) (w:World) (h:Blk 71 w mi (AfK k x)):Calls prog 50 #[.pointer (some ⟨mi,0,none⟩),.int .i64 1] w fun e w'=>e=.returned (.int .i64 k.m)∧w=w':=by
 have c7:w.cell? ⟨mi,8,none⟩=some (.int .i64 k.m):=h.cell 8
 clear h
 go_enter func50,ntmps50
 go_wp2_with fail
 refine (BwZ _ k.m w (by exact c7)).mono ?_
 rintro e w2 ⟨rfl,rfl⟩
 go_wp2_with fail
 go_ret
 exact ⟨rfl,rfl⟩
theorem EeJ (mi x:Nat) (k:Ms) (w:World) (h:Blk 71 w mi (AfK k x)):Calls prog 50 #[.pointer (some ⟨mi,0,none⟩),.int .i64 2] w fun e w'=>e=.returned (.int .i64 k.d)∧w=w':=by
 have c7:w.cell? ⟨mi,9,none⟩=some (.int .i64 k.d):=h.cell 9
 clear h
 go_enter func50,ntmps50
 go_wp2_with fail
 refine (BwZ _ k.d w (by exact c7)).mono ?_
 rintro e w2 ⟨rfl,rfl⟩
 go_wp2_with fail
 go_ret
 exact ⟨rfl,rfl⟩
theorem BcX (mi x:Nat) (k:Ms) (w:World) (h:Blk 71 w mi (AfK k x)):Calls prog 21 #[.pointer (some ⟨mi,0,none⟩)] w fun e w'=>e=.returned (.tuple #[.int .i64 k.f,.int .i64 k.m,.int .i64 k.d])∧w=w':=by
 have H:=η h
 clear h
 go_enter func21,ntmps21
 go_wp2_with fail
 refine (EeQ mi x k w (by exact H.o)).mono ?_
 rintro e w2 ⟨rfl,rfl⟩
 go_wp2_with fail
 refine (EeK mi x k _ (by exact H.o)).mono ?_
 rintro e w2 ⟨rfl,rfl⟩
 go_wp2_with fail
 refine (EeJ mi x k _ (by exact H.o)).mono ?_
 rintro e w2 ⟨rfl,rfl⟩
 go_wp2_with fail
 go_ret3
 exact ⟨rfl,rfl⟩
