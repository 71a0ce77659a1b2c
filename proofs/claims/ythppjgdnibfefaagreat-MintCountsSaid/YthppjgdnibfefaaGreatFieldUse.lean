import Derived.Test.YthppjgdnibfefaaGreatClone
import Derived.WalkKit
import Derived.Lib.Hide
import Derived.Test.YthppjgdnibfefaaGreatFieldAll
import Derived.Test.YthppjgdnibfefaaGreatMemAll
import Derived.Deep.RegionWith
import Derived.Laws.Tables
set_option linter.all false
set_option maxRecDepth 100000
set_option maxHeartbeats 32000000
namespace Go.Proofs.YthppjgdnibfefaaGreat
open Tryz
open Go.RowKit
open Go.RowKit
def DeX (b o:Nat) (R:World→Prop):Prop:=∀ w',R w'→w'.cell? ⟨b,o,none⟩=some (.int .u32 0)∧w'.cell? ⟨b,o+1,none⟩=some (.int .i32 1)∧w'.frozen? ⟨b,o,none⟩=false∧w'.frozen? ⟨b,o+1,none⟩=false
def RetR (R:World→Prop) (e:Ending) (w':World):Prop:=e=.returned (.tuple #[])∧R w'
def FcQ (b o:Nat) (R:World→Prop) (w':World):Prop:=∃ w1,R w1∧w'=(w1.drew.setCell ⟨b,o,none⟩ (.int .u32 1)).setCell ⟨b,o+1,none⟩ (.int .i32 0)
theorem ErZ (b o:Nat) (v:Value) (R:World→Prop) (w:World)
  (h0:w.cell? ⟨b,o,none⟩=some (.int .u32 0)) (h1:w.cell? ⟨b,o+1,none⟩=some (.int .i32 0))
  (f0:w.frozen? ⟨b,o,none⟩=false) (f1:w.frozen? ⟨b,o+1,none⟩=false)
  (hcall:Calls prog 214 #[v] (w.setCell ⟨b,o+1,none⟩ (.int .i32 1)) (RetR R)) (hkeep:DeX b o R) :
  Calls prog 221 #[.pointer (some ⟨b,o,none⟩),.func (.func 214) #[v] #[]] w (RetR (FcQ b o R)):=by
 have HC:=η hcall
 have HK:=η hkeep
 clear hcall hkeep
 have hnot:∀ (x:Bool) (w:World),(Op.unary .not (.bool x)).run prog w=.ok (.bool (!x)) w:=fun _ _=>rfl
 have hl:(w.setCell ⟨b,o+1,none⟩ (.int .i32 1)).cell? ⟨b,o,none⟩=some (.int .u32 0):=(World.cell?_setCell_other _ ⟨b,o+1,none⟩ ⟨b,o,none⟩ _ (by simp)).trans h0
 go_enter_defers func221,ntmps221
 go_wp2_with fail
 refine (EkQ ⟨b,o+1,none⟩ _ h1 f1).mono ?_
 rintro e w' ⟨rfl,rfl⟩
 go_wp2_with fail
 refine (BpK ⟨b,o,none⟩ 0 false _ hl rfl).mono ?_
 rintro e w' ⟨rfl,rfl⟩
 go_wp2_with fail
 refine HC.o.mono ?_
 rintro e w1 ⟨rfl,hR⟩
 obtain ⟨k0,k1,z0,z1⟩:=HK.o w1 hR
 go_wp2_with fail
 refine leaves_cons (f:=230) (args:=#[.pointer (some ⟨b,o,none⟩),.bool true]) (by simp) (by simp [go_sem]) ?_
 refine (AxZ ⟨b,o,none⟩ (.int .u32 0) .returning _ k0 z0).mono ?_
 rintro e u' w'' ⟨rfl,rfl,rfl⟩
 refine leaves_cons (f:=229) (args:=#[.pointer (some ⟨b,o+1,none⟩)]) (by simp [settle]) (by simp [go_sem]) ?_
 refine (AvW ⟨b,o+1,none⟩ _ _ ?_ (by simp [z1])).mono ?_
 ·refine (World.cell?_setCell_other _ ⟨b,o,none⟩ ⟨b,o+1,none⟩ _ (by simp)).trans ?_
  rw [World.cell?_drew];exact k1
 rintro e u' w'' ⟨rfl,rfl,rfl⟩
 simp only [Leaves,settle]
 exact ⟨_,results_none rfl _ _ _,rfl,w1,hR,rfl⟩
theorem EdJ (b o:Nat) (v:Value) (R:World→Prop) (w:World)
  (h0:w.cell? ⟨b,o,none⟩=some (.int .u32 0)) (h1:w.cell? ⟨b,o+1,none⟩=some (.int .i32 0))
  (f0:w.frozen? ⟨b,o,none⟩=false) (f1:w.frozen? ⟨b,o+1,none⟩=false)
  (hcall:Calls prog 214 #[v] (w.setCell ⟨b,o+1,none⟩ (.int .i32 1)) (RetR R)) (hkeep:DeX b o R) :
  Calls prog 213 #[.pointer (some ⟨b,o,none⟩),.func (.func 214) #[v] #[]] w (RetR (FcQ b o R)):=by
 have HC:=η (ErZ b o v R w h0 h1 f0 f1 hcall hkeep)
 clear hcall hkeep
 have hnot:∀ (x:Bool) (w:World),(Op.unary .not (.bool x)).run prog w=.ok (.bool (!x)) w:=fun _ _=>rfl
 go_enter func213,ntmps213
 go_wp2_with fail
 refine (BpK ⟨b,o,none⟩ 0 false _ h0 rfl).mono ?_
 rintro e w' ⟨rfl,rfl⟩
 go_wp2_with fail
 refine HC.o.mono ?_
 rintro e w1 ⟨rfl,hR⟩
 go_wp2_with fail
 go_end0
 exact ⟨rfl,hR⟩
theorem EsJ (a:Addr) (fv:Value) (w:World) (h0:w.cell? a=some (.int .u32 1)) :
  Calls prog 213 #[.pointer (some a),fv] w fun e w'=>e=.returned (.tuple #[])∧w=w':=by
 have hnot:∀ (x:Bool) (w:World),(Op.unary .not (.bool x)).run prog w=.ok (.bool (!x)) w:=fun _ _=>rfl
 go_enter func213,ntmps213
 go_wp2_with fail
 refine (BpK a 1 true _ h0 rfl).mono ?_
 rintro e w' ⟨rfl,rfl⟩
 go_wp2_with fail
 go_end0
 exact ⟨rfl,rfl⟩
open Go.RowKit
def BoV:Array Value:=Array.replicate 256 (.int .u8 0)
theorem zero_row (w:World):(zeroValue 278).run prog w=.ok (.agg BoV) w:=by
 have h:(prog.info? 278).bind (·.zero)=some (.agg BoV):=by kernel_rfl
 rcases hi:prog.info? 278 with _ | i
 ·rw [hi] at h;simp at h
 ·rw [hi] at h
  have hz:i.zero=some (.agg BoV):=h;simp [zeroValue,typeInfo,hi,hz]
def BdV (x:UInt8) (k:Nat):Nat→Value:=fun j=>if j<k then bv (mulB x (UInt8.ofNat j)) else bv 0
theorem DiW (x:UInt8) (k:Nat):upd (BdV x k) k (bv (mulB x (UInt8.ofNat k)))=BdV x (k+1):=by
 funext j
 unfold upd BdV
 by_cases h:j=k
 ·subst h;rw [if_pos rfl,if_pos (by omega)]
 ·rw [if_neg h]
  by_cases h2:j<k
  ·rw [if_pos h2,if_pos (by omega)]
  ·rw [if_neg h2,if_neg (by omega)]
def RetRow (x:UInt8) (w:World) (e:Ending) (w':World):Prop :=
 e=.returned (.pointer (some ⟨w.heap.size,0,none⟩))∧Below w.heap.size w w'∧w'.heap.size=w.heap.size+1∧Cells w' w.heap.size 256 (BdV x 256)
theorem CyQ (x:UInt8) (w:World) :
  Calls prog 223 #[.int .u8 (x.toNat:Int)] w (RetRow x w):=by
 have hzr:=zero_row
 have hnew:=Cells.new w BoV 278 256 rfl (BdV x 0) (fun j hj=>by
  unfold BoV BdV
  rw [if_neg (by omega),Array.getElem?_replicate,if_pos hj];rfl) w.heap.size rfl
 have HN:=η hnew
 have hbel:Below w.heap.size w (w.alloc (.cells BoV 278)):=(Below.refl _ _).alloc (Nat.le_refl _) _
 have HB:=η hbel
 clear hnew hbel
 go_enter func223,ntmps223
 go_wp2_with fail
 go_loopw [4,5] (fun _ i wr=>∃ k:Nat,k≤256∧i=.int .i64 k∧Hid (Cells wr w.heap.size 256 (BdV x k))∧Hid (Below w.heap.size w wr)∧Hid (wr.heap.size=w.heap.size+1)) (fun _ i _=>256 - (intOf i).toNat)
 case atStart=>exact ⟨0,by omega,rfl,HN,HB,η (by simp)⟩
 case round =>
  obtain ⟨k,hk,rfl,hc,hb,hs⟩:=hrel;by_cases hlt:k<256
  ·have h1:=hc.o.cell hlt
   have h2:=hc.o.free hlt;go_wp2_with fail;refine (mul_k x k hlt _).mono ?_;rintro e w' ⟨rfl,rfl⟩;go_wp2;go_roundw
   case rel =>
    have hs2:=hc.o.set hlt (bv (mulB x (UInt8.ofNat k)));rw [DiW] at hs2;exact ⟨k+1,by omega,by go_num,η hs2,η (hb.o.setCell (Nat.le_refl _) _),η (by simp [hs.o])⟩
   case measure=>simp [intOf];omega
  ·obtain rfl:k=256:=by omega
   go_wp2;go_ret;exact ⟨rfl,hb.o,hs.o,hc.o⟩
open Go.RowKit
def By (w:World) (lo b:Nat) (A:YA) (n:Nat) (l:YB):Prop :=
 l.length=n∧(0<n→∃ g,A=some ⟨g,0,none⟩∧lo≤g∧g≠b∧Cells w g n (fun j=>bv (l.getD j 0)))
def RowOk (w:World) (lo b:Nat) (y:UInt8) (v:Value):Prop :=
 v=.pointer none∨∃ p,v=.pointer (some ⟨p,0,none⟩)∧lo≤p∧p≠b∧Cells w p 256 (BdV y 256)
def Rest (w:World) (lo b:Nat) (f:Nat→Value) (l:YB):Prop :=
 ∃ A n c,f 0=.slice A n c∧n≤140737488355328∧By w lo b A n l∧∀ y,y<256→RowOk w lo b (UInt8.ofNat y) (f (517+y))
def Held (lo b:Nat) (w w':World):Prop:=∀ g n f,lo≤g→g≠b→0<n→Cells w g n f→Cells w' g n f
section
variable {w w':World} {lo b:Nat} {f f':Nat→Value} {l:YB}
theorem BaY (w:World) (lo b k:Nat) (v:Value):Held lo b w (w.setCell ⟨b,k,none⟩ v):=fun g n f _ hg _ h=>h.other (fun e=>hg e.symm) v
theorem BrY (h:Below w.heap.size w w'):Held lo b w w':=fun g n f _ _ hn hc=>hc.below h (hc.lt hn)
theorem Held.trans {w1:World} (h:Held lo b w w1) (h':Held lo b w1 w'):Held lo b w w':=fun g n f h1 h2 h3 hc=>h' g n f h1 h2 h3 (h g n f h1 h2 h3 hc)
theorem RowOk.keep {y:UInt8} {v:Value} (h:RowOk w lo b y v) (hk:Held lo b w w'):RowOk w' lo b y v:=by
 rcases h with h | ⟨p,h1,h2,h3,h4⟩
 ·exact .inl h
 ·exact .inr ⟨p,h1,h2,h3,hk p 256 _ h2 h3 (by omega) h4⟩
theorem Rest.keep (h:Rest w lo b f l) (hk:Held lo b w w') (e0:f' 0=f 0) (e1:∀ y,y<256→f' (517+y)=f (517+y)):Rest w' lo b f' l:=by
 obtain ⟨A,n,c,h1,h2,⟨h3,h4⟩,h5⟩:=h
 refine ⟨A,n,c,e0.trans h1,h2,⟨h3,fun hn=>?_⟩,fun y hy=>?_⟩
 ·obtain ⟨g,g1,g2,g3,g4⟩:=h4 hn
  exact ⟨g,g1,g2,g3,hk g n _ g2 g3 hn g4⟩
 ·rw [e1 y hy]
  exact (h5 y hy).keep hk
theorem Rest.step (h:Rest w lo b f l) (hk:Held lo b w w') (x:Nat) (hx:x<256) (v:Value) (hv:RowOk w' lo b (UInt8.ofNat x) v):Rest w' lo b (upd f (517+x) v) l:=by
 obtain ⟨A,n,c,h1,h2,⟨h3,h4⟩,h5⟩:=h
 refine ⟨A,n,c,(AaW _ _ _ _ (by omega)).trans h1,h2,⟨h3,fun hn=>?_⟩,fun y hy=>?_⟩
 ·obtain ⟨g,g1,g2,g3,g4⟩:=h4 hn
  exact ⟨g,g1,g2,g3,hk g n _ g2 g3 hn g4⟩
 ·by_cases e:y=x
  ·subst e;rw [AjW];exact hv
  ·rw [AaW _ _ _ _ (by omega)]
   exact (h5 y hy).keep hk
end
def Signs (f f1:Nat→Value) (k:Nat):Prop :=
 (∀ j,j<5→f1 j=f j)∧(∀ j,517≤j→f1 j=f j)∧(∀ a,a<k→f1 (5+a)=bv (subB (UInt8.ofNat a)))∧(∀ a,a<k→f1 (261+(subB (UInt8.ofNat a)).toNat)=bv (UInt8.ofNat a))
theorem EsQ (a b:Nat) (ha:a<256) (hb:b<256) (h:UInt8.ofNat a=UInt8.ofNat b):a=b:=by
 have:=congrArg UInt8.toNat h
 simp at this
 omega
theorem Signs.zero (f:Nat→Value):Signs f f 0:=⟨fun _ _=>rfl,fun _ _=>rfl,fun a h=>by omega,fun a h=>by omega⟩
theorem Signs.next {f f1:Nat→Value} {k:Nat} (h:Signs f f1 k) (hk:k<256) :
  Signs f (upd (upd f1 (5+k) (bv (subB (UInt8.ofNat k)))) (261+(subB (UInt8.ofNat k)).toNat) (bv (UInt8.ofNat k))) (k+1):=by
 have hs:=(subB (UInt8.ofNat k)).toNat_lt
 refine ⟨fun j hj=>?_,fun j hj=>?_,fun a ha=>?_,fun a ha=>?_⟩
 ·rw [AaW _ _ _ _ (by omega),AaW _ _ _ _ (by omega)];exact h.1 j hj
 ·rw [AaW _ _ _ _ (by omega),AaW _ _ _ _ (by omega)];exact h.2.1 j hj
 ·rw [AaW _ _ _ _ (by omega)]
  by_cases e:a=k
  ·subst e;rw [AjW]
  ·rw [AaW _ _ _ _ (by omega)];exact h.2.2.1 a (by omega)
 ·by_cases e:a=k
  ·subst e;rw [AjW]
  ·have ha2:=(subB (UInt8.ofNat a)).toNat_lt
   have hne:(subB (UInt8.ofNat a)).toNat≠(subB (UInt8.ofNat k)).toNat:=fun e2=>by
    have:=DoV _ _ (UInt8.toNat_inj.1 e2);exact e (EsQ a k (by omega) (by omega) this)
   rw [AaW _ _ _ _ (by omega),AaW _ _ _ _ (by omega)];exact h.2.2.2 a (by omega)
def Full (f:Nat→Value) (l:YB):Prop :=
 (∀ a:UInt8,f (5+a.toNat)=bv (subB a))∧(∀ a:UInt8,f (261+a.toNat)=bv (ByW a))∧∀ x,x∈l→f (517+x.toNat)≠.pointer none
theorem full_of {f f1 f2:Nat→Value} {l:YB} (h:Signs f f1 256) (h2:∀ j,j<517→f2 j=f1 j) (h3:∀ x,x∈l→f2 (517+x.toNat)≠.pointer none):Full f2 l:=by
 refine ⟨fun a=>?_,fun a=>?_,h3⟩
 ·have ha:=a.toNat_lt
  rw [h2 _ (by omega),h.2.2.1 a.toNat (by omega)];simp
 ·have ha:=a.toNat_lt
  have hu:=(ByW a).toNat_lt;have:=h.2.2.2 (ByW a).toNat (by omega);rw [show UInt8.ofNat (ByW a).toNat=ByW a by simp,EkZ] at this;rw [h2 _ (by omega),this]
theorem Full.upd4 {f:Nat→Value} {l:YB} {k:Nat} {v:Value} (h:Full f l) (hk:k<5:=by omega):Full (upd f k v) l :=
 ⟨fun a=>(AaW _ _ _ _ (by omega)).trans (h.1 a),fun a=>(AaW _ _ _ _ (by omega)).trans (h.2.1 a),fun x hx=>by rw [AaW _ _ _ _ (by omega)];exact h.2.2 x hx⟩
def Computed (w:World) (lo b:Nat) (f:Nat→Value) (l:YB) (w':World):Prop :=
 But b w w'∧∃ f',Cells w' b 773 f'∧Rest w' lo b f' l∧Full f' l∧f' 1=f 1∧f' 2=f 2∧f' 4=.int .i64 1
theorem DlK (b lo:Nat) (l:YB) (f:Nat→Value) (w:World) (hlo:lo≤b) (hc:Cells w b 773 f) (hr:Rest w lo b f l) (hm:f 4=.int .i64 0) :
  Calls prog 214 #[.pointer (some ⟨b,0,none⟩)] w (RetR (Computed w lo b f l)):=by
 have HC:=η hc
 have HR:=η hr
 have HM:=η hm
 clear hc hr hm
 go_enter func214,ntmps214
 go_wp2_with fail
 go_loopw [2,3,6] (fun _ _ i wr=>∃ (k:Nat) (f1:Nat→Value),k≤256∧i=.int .i64 k∧Hid (Cells wr b 773 f1)∧Hid (Rest wr lo b f1 l)∧Hid (Signs f f1 k)∧Hid (But b w wr)) (fun _ _ i _=>256 - (intOf i).toNat)
 case atStart=>exact ⟨0,f,by omega,rfl,HC,HR,η (Signs.zero f),η (But.refl _ _)⟩
 case round =>
  obtain ⟨k,f1,hk,rfl,hc1,hr1,hs1,hb1⟩:=hrel;by_cases hlt:k<256
  ·obtain ⟨s,HS⟩:∃ s,Hid (s=subB (UInt8.ofNat k)):=⟨_,η rfl⟩
   have hsl:=s.toNat_lt;have hsi:=AeZ s;have e:(k:Int)=((UInt8.ofNat k).toNat:Int):=by simp;omega
   have HE:=η e;clear e;go_wp2_with fail;rw [HE.o];refine (sign_any _ _).mono ?_;rintro e w1 ⟨rfl,hb2⟩;rw [←HS.o,←HE.o];have hc2:=hc1.o.below hb2 (hc1.o.lt (by omega));have h1:=hc2.cell (show 5+k<773 by omega);have h2:=hc2.free (show 5+k<773 by omega);have h3:=hc2.cell (show 261+s.toNat<773 by omega);have h4:=hc2.free (show 261+s.toNat<773 by omega);have HC2:=η hc2;clear hc2;go_wp2;go_roundw
   case rel =>
    have c1:=(HC2.o.set (show 5+k<773 by omega) (bv s)).set (show 261+s.toNat<773 by omega) (bv (UInt8.ofNat k));have hn:=hs1.o.next hlt;have r1:=(hr1.o.keep (BrY hb2) rfl (fun _ _=>rfl));have r2:=r1.keep (BaY w1 lo b (5+k) (bv s)) (f':=upd f1 (5+k) (bv s)) (AaW _ _ _ _ (by omega)) (fun y hy=>AaW _ _ _ _ (by omega));have r3:=r2.keep (BaY _ lo b (261+s.toNat) (bv (UInt8.ofNat k))) (f':=upd (upd f1 (5+k) (bv s)) (261+s.toNat) (bv (UInt8.ofNat k))) (AaW _ _ _ _ (by omega)) (fun y hy=>AaW _ _ _ _ (by omega));have hbl:=hb1.o.trans (But.of_below hb2);rw [←HS.o] at hn;have ek:(Value.int .u8 (k:Int))=bv (UInt8.ofNat k):=by unfold bv;rw [←HE.o]
    rw [ek];exact ⟨k+1,_,by omega,by go_num,η c1,η r3,η hn,η ((hbl.self _ _).self _ _)⟩
   case measure=>simp [intOf];omega
  ·obtain rfl:k=256:=by omega
   obtain ⟨A,n,c,e0,hn,hby,htm⟩:=hr1.o;have h0:=hc1.o.cell (show 0<773 by omega);rw [e0] at h0;have HE0:=η e0;have HBY:=η hby;clear e0 hby htm hlt;have e256:((256:Nat):Int)=256:=rfl;rw [e256];clear e256;go_wp2
   go_loopw [5,31] (fun _ i wr2=>∃ (k:Nat) (f2:Nat→Value),k≤n∧i=.int .i64 k∧Hid (Cells wr2 b 773 f2)∧Hid (Rest wr2 lo b f2 l)∧Hid (∀ j,j<517→f2 j=f1 j)∧Hid (∀ x,x∈l.take k→f2 (517+x.toNat)≠.pointer none)∧Hid (But b w wr2)) (fun _ i _=>n - (intOf i).toNat)
   case atStart=>exact ⟨0,f1,by omega,rfl,hc1,hr1,η (fun _ _=>rfl),η (by simp),hb1⟩
   case round =>
    obtain ⟨k,f2,hk2,rfl,hc2,hr2,hs2,hx2,hb2⟩:=hrel;by_cases hlt:k<n
    ·obtain ⟨A',n',c',e0,hn',⟨hll,hby2⟩,htm⟩:=hr2.o
     have e1:=(hs2.o 0 (by omega)).symm.trans e0;rw [HE0.o] at e1;injection e1 with ea en ec;subst ea;subst en;subst ec;obtain ⟨g,rfl,hg1,hg2,hcl⟩:=hby2 (by omega);have hcx:=hcl.cell hlt;obtain ⟨x,hx⟩:∃ x,l[k]?=some x:=⟨l[k]'(by omega),List.getElem?_eq_getElem (by omega)⟩;have egd:l.getD k 0=x:=by simp [List.getD,hx]
     rw [egd] at hcx;have hxi:=AeZ x;have hxl:=x.toNat_lt;have hrow:=htm x.toNat hxl;rw [show UInt8.ofNat x.toNat=x by simp] at hrow;have hq:=hc2.o.cell (show 517+x.toNat<773 by omega);have hqf:=hc2.o.free (show 517+x.toNat<773 by omega);have HX:=η hx;have HROW:=η hrow;unfold bv at hcx;clear hx hrow hby2 htm e0 egd hcl hll;have hrow:=HROW.o;rcases hrow with h | ⟨p,h,h1,h2,h3⟩
     ·rw [h] at hq
      have HH:=η h;clear h;go_wp2_with fail;have hbl:b<wr.heap.size:=hc2.o.lt (by omega);go_region_with (go_at_call 223;refine (CyQ x _).mono ?_;rintro e w1 ⟨rfl,hbp,hsp,hcp⟩;have hq1:w1.cell? ⟨b,517+x.toNat,none⟩=some (.pointer none):=(hbp.cell (p:=⟨b,517+x.toNat,none⟩) hbl).trans hq;have hqf1:w1.frozen? ⟨b,517+x.toNat,none⟩=false:=(hbp.frozen (p:=⟨b,517+x.toNat,none⟩) hbl).trans hqf;have HSP:=η hsp;clear hsp);go_wp2;go_roundw
      case rel =>
       have hbl2:b<w1.heap.size:=by rw [HSP.o];exact Nat.lt_succ_of_lt hbl
       have k1:Held lo b wr w1:=Held.trans (w1:=wr.drew) (fun _ _ _ _ _ _ hh=>hh.drew) (BrY hbp);have k2:=k1.trans (BaY w1 lo b (517+x.toNat) (.pointer (some ⟨wr.heap.size,0,none⟩)));have c1:=(hc2.o.drew.below hbp hbl).set (show 517+x.toNat<773 by omega) (.pointer (some ⟨wr.heap.size,0,none⟩));have hlo2:lo≤wr.heap.size:=by omega
       have cp:=hcp.other (a:=⟨b,517+x.toNat,none⟩) (show b≠wr.heap.size by omega) (.pointer (some ⟨wr.heap.size,0,none⟩));refine ⟨k+1,_,by omega,by go_num,η c1,η (hr2.o.step k2 x.toNat hxl _ (.inr ⟨wr.heap.size,rfl,hlo2,by omega,?_⟩)),η (fun j hj=>(AaW _ _ _ _ (by omega)).trans (hs2.o j hj)),η (fun y hy=>?_),η ((hb2.o.drew.trans (But.of_below hbp)).self _ _)⟩
       ·simpa using cp
       ·rw [AgY HX.o] at hy
        by_cases e:y=x
        ·subst e;rw [AjW];simp
        ·rw [AaW _ _ _ _ (fun e2=>e (UInt8.toNat_inj.1 (by omega)))]
         refine hx2.o y ?_;simpa [e] using hy
      case measure=>simp [intOf];omega
     ·rw [h] at hq
      have HH:=η h;have HC3:=η h3;clear h h3;go_wp2;go_roundw
      case rel =>
       refine ⟨k+1,f2,by omega,by go_num,hc2,hr2,hs2,η (fun y hy=>?_),hb2⟩;rw [AgY HX.o] at hy;by_cases e:y=x
       ·subst e;rw [HH.o];simp
       ·refine hx2.o y ?_
        simpa [e] using hy
      case measure=>simp [intOf];omega
    ·obtain rfl:k=n:=by omega
     have hm4:=hc2.o.cell (show 4<773 by omega);have hz4:=hc2.o.free (show 4<773 by omega);rw [hs2.o 4 (by omega),hs1.o.1 4 (by omega),HM.o] at hm4;have hfull:=full_of hs1.o hs2.o (l:=l) (fun x hx=>hx2.o x (by rw [List.take_of_length_le (by have:=HBY.o.1;omega)];exact hx));have HF:=η hfull;have e1:=(hs2.o 1 (by omega)).trans (hs1.o.1 1 (by omega));have e2:=(hs2.o 2 (by omega)).trans (hs1.o.1 2 (by omega));have HE1:=η e1;have HE2:=η e2;clear hfull e1 e2;have hadd:∀ W:World,(Op.intArith .add .i64 0 1).run prog W=.ok (.int .i64 1) W:=fun W=>by simp [go_sem];rfl
     go_wp2_with fail;refine (AzZ ⟨b,4,none⟩ 0 1 1 _ hm4 hz4 (hadd _)).mono ?_;rintro e w1 ⟨rfl,rfl⟩;go_wp2_with fail;go_end0;exact ⟨rfl,(hb2.o.self _ _),_,hc2.o.set (show 4<773 by omega) _,(hr2.o.keep (BaY wr lo b 4 (.int .i64 1)) (AaW _ _ _ _ (by omega)) (fun y hy=>AaW _ _ _ _ (by omega))),HF.o.upd4,(AaW _ _ _ _ (by omega)).trans HE1.o,(AaW _ _ _ _ (by omega)).trans HE2.o,AjW _ _ _⟩
open Go.RowKit
def BlQ (A:YA) (n c:Nat):Array Value :=
 #[.slice A n c,.int .u32 0,.int .i32 0,.int .u32 0,.int .i64 0]++Array.replicate 512 (.int .u8 0)++Array.replicate 256 (.pointer none)
def tabF (A:YA) (n c:Nat):Nat→Value:=fun j =>
 if j<5 then (#[Value.slice A n c,.int .u32 0,.int .i32 0,.int .u32 0,.int .i64 0]:Array Value).getD j undef else if j<517 then .int .u8 0 else .pointer none
theorem EkJ (A:YA) (n c:Nat):prog.built 282 [(0,.slice A n c)]=some (BlQ A n c):=by kernel_rfl
theorem DgJ (A:YA) (n c j:Nat) (hj:j<773):(BlQ A n c)[j]?=some (tabF A n c j):=by
 unfold BlQ tabF
 by_cases h:j<5
 ·rw [if_pos h,Array.getElem?_append_left (by simp;omega),Array.getElem?_append_left (by simp;omega)]
  rcases (show j=0∨j=1∨j=2∨j=3∨j=4 by omega) with rfl | rfl | rfl | rfl | rfl <;> rfl
 ·rw [if_neg h]
  by_cases h2:j<517
  ·rw [if_pos h2,Array.getElem?_append_left (by simp;omega),Array.getElem?_append_right (by simp;omega),Array.getElem?_replicate,if_pos (by simp;omega)]
  ·rw [if_neg h2,Array.getElem?_append_right (by simp;omega),Array.getElem?_replicate,if_pos (by simp;omega)]
theorem DxV {w:World} {ops:Array Oper} {rest:List Oper} {o:Oper} {a:Act} {Q:Exit→Act→World→Prop} (hgd:o.guard=none) (x:Operand) (hop:o.op=.build 282 #[(0,x)])
  (A:YA) (n c:Nat) (hx:a.eval x=.slice A n c) (h:wpList prog ops Q rest (a.put o.dst (.agg (BlQ A n c))) w):wpList prog ops Q (o::rest) a w:=by
 refine wpList_plain hgd fun K hK=>?_
 unfold Oper.wp execOp
 simp only [hop,List.map_toArray,List.map_cons,List.map_nil,hx,Sem.run_bind,run_build w _ #[(0,.slice A n c)] _ (EkJ A n c),Result.andThen_ok]
 exact hK _ _ h
open Go.RowKit
def Tab (w:World) (lo b:Nat) (l:YB) (d:Bool):Prop :=
 ∃ f,lo≤b∧Cells w b 773 f∧Rest w lo b f l∧f 1=.int .u32 (if d then 1 else 0)∧f 2=.int .i32 0∧f 4=.int .i64 (if d then 1 else 0)∧(d=true→Full f l)
def RetTab (l:YB) (w:World) (e:Ending) (w':World):Prop :=
 ∃ b,e=.returned (.pointer (some ⟨b,0,none⟩))∧Below w.heap.size w w'∧Tab w' w.heap.size b l false
theorem By.of_own {w:World} {base n c b:Nat} {A:YA} {l:YB} (h:OwnB w base A n c l) (hb:w.heap.size≤b):By w base b A n l:=by
 refine ⟨h.len,fun hn=>?_⟩
 obtain ⟨g,rfl,h1,h2⟩:=h.form hn
 refine ⟨g,rfl,h1,by omega,fun j hj=>⟨?_,h.freeAt j⟩⟩
 have hl:j<l.length:=by rw [h.len];exact hj
 rw [h.cellAt (List.getElem?_eq_getElem hl)]
 simp [bv,List.getD,hl]
theorem new_any (A:YA) (n c B:Nat) (l:YB) (w:World) (h:RB w B A n l) (hB:B≤w.heap.size) (hn:n≤140737488355328) :
  Calls prog 167 #[.slice A n c] w (RetTab l w):=by
 go_enter func167,ntmps167
 go_wp2_with fail
 refine (CfJ A n c B l _ h hB hn).mono ?_
 rintro e w1 ⟨A2,c2,rfl,hown,hb1⟩
 go_wp2_with (refine DxV rfl (.tmp 4) rfl A2 n c2 rfl ?_)
 go_ret
 have hr:Rest w1 w.heap.size w1.heap.size (tabF A2 n c2) l:=⟨A2,n,c2,rfl,hn,By.of_own hown (Nat.le_refl _),fun y hy=>.inl (by unfold tabF;rw [if_neg (by omega),if_neg (by omega)])⟩
 exact ⟨_,rfl,hb1.alloc hb1.size _,_,hb1.size,Cells.new w1 _ _ 773 (by simp [BlQ]) (tabF A2 n c2) (DgJ A2 n c2) _ rfl,hr.keep (BrY (AaK w1 _)) rfl (fun _ _=>rfl),rfl,rfl,rfl,fun h=>absurd h (by simp)⟩
def UseTab (v:Value) (lo b:Nat) (l:YB) (w:World) (e:Ending) (w':World):Prop:=e=.returned v∧Below lo w w'∧Tab w' lo b l true
def UseAt (v:Value) (lo b:Nat) (l:YB) (d:Bool) (w:World) (e:Ending) (w':World):Prop:=e=.returned v∧But b w w'∧Tab w' lo b l true∧(d=true→Below w.heap.size w w')
theorem EsK (lo b:Nat) (l:YB) (d:Bool) (w:World) (h:Tab w lo b l d) :
  Calls prog 213 #[.pointer (some ⟨b,1,none⟩),.func (.func 214) #[.pointer (some ⟨b,0,none⟩)] #[]] w (UseAt (.tuple #[]) lo b l d w):=by
 obtain ⟨f,hlo,hc,hr,h1,h2,h4,hd⟩:=h
 have c1:=hc.cell (show 1<773 by omega)
 have c2:=hc.cell (show 1+1<773 by omega)
 rw [h1] at c1
 rw [h2] at c2
 rcases d with _ | _
 ·have hcomp:=DlK b lo l (upd f 2 (.int .i32 1)) (w.setCell ⟨b,2,none⟩ (.int .i32 1)) hlo (hc.set (show 2<773 by omega) _) (hr.keep (BaY w lo b 2 _) (AaW _ _ _ _ (by omega)) (fun y hy=>AaW _ _ _ _ (by omega))) ((AaW _ _ _ _ (by omega)).trans h4)
  refine (EdJ b 1 _ _ w c1 c2 (hc.free (by omega)) (hc.free (by omega)) hcomp ?_).mono ?_
  ·rintro w' ⟨hb,f',k1,k2,k3,e1,e2,e4⟩
   have q1:=k1.cell (show 1<773 by omega);have q2:=k1.cell (show 1+1<773 by omega);rw [e1,AaW _ _ _ _ (by omega),h1] at q1;rw [e2,AjW] at q2;exact ⟨q1,q2,k1.free (by omega),k1.free (by omega)⟩
  ·rintro e w' ⟨rfl,w1,⟨hb,f',k1,k2,k3,e1,e2,e4⟩,rfl⟩
   refine ⟨rfl,?_,?_,fun hd=>absurd hd (by simp)⟩
   ·exact ((((But.refl b w).self _ _).trans hb).drew.self _ _).self _ _
   ·refine ⟨upd (upd f' 1 (.int .u32 1)) 2 (.int .i32 0),hlo,(k1.drew.set (show 1<773 by omega) _).set (show 2<773 by omega) _,?_,?_,AjW _ _ _,?_,fun _=>(k3.upd4 (k:=1)).upd4 (k:=2)⟩
    ·refine (k2.keep (w':=(w1.drew.setCell ⟨b,1,none⟩ (.int .u32 1)).setCell ⟨b,2,none⟩ (.int .i32 0)) ?_ ?_ ?_)
     ·exact Held.trans (w1:=w1.drew) (fun _ _ _ _ _ _ hh=>hh.drew) ((BaY _ lo b 1 _).trans (BaY _ lo b 2 _))
     ·rw [AaW _ _ _ _ (by omega),AaW _ _ _ _ (by omega)]
     ·intro y hy;rw [AaW _ _ _ _ (by omega),AaW _ _ _ _ (by omega)]
    ·rw [AaW _ _ _ _ (by omega),AjW];rfl
    ·rw [AaW _ _ _ _ (by omega),AaW _ _ _ _ (by omega),e4];rfl
 ·refine (EsJ _ _ w c1).mono ?_
  rintro e w' ⟨rfl,rfl⟩;exact ⟨rfl,But.refl _ _,⟨f,hlo,hc,hr,h1,h2,h4,hd⟩,fun _=>Below.refl _ _⟩
theorem UseAt.tab {v:Value} {lo b:Nat} {l:YB} {d:Bool} {w w':World} {e:Ending} (h:UseAt v lo b l d w e w') (ht:Tab w lo b l d):UseTab v lo b l w e w':=by
 obtain ⟨f,hlo,hc,_⟩:=ht
 exact ⟨h.1,h.2.1.below hlo (hc.lt (by omega)),h.2.2.1⟩
open Go.RowKit
open Go.RowKit
theorem Tab.keep {w w':World} {lo b:Nat} {l:YB} {d:Bool} (h:Tab w lo b l d) (hk:∀ g n f,lo≤g→0<n→Cells w g n f→Cells w' g n f):Tab w' lo b l d:=by
 obtain ⟨f,hlo,hc,hr,h1,h2,h4,hd⟩:=h
 exact ⟨f,hlo,hk b 773 f hlo (by omega) hc,hr.keep (fun g n f hg _ hn hc=>hk g n f hg hn hc) rfl (fun _ _=>rfl),h1,h2,h4,hd⟩
theorem Tab.below {w w':World} {lo b:Nat} {l:YB} {d:Bool} (h:Tab w lo b l d) (hb:Below w.heap.size w w'):Tab w' lo b l d :=
 h.keep fun g n f _ hn hc=>hc.below hb (hc.lt hn)
def RetI (k:IntKind) (z:Int) (w:World) (e:Ending) (w':World):Prop:=e=.returned (.int k z)∧w=w'
theorem pow_lit (X N Z:Int) (x:UInt8) (n:Nat) (hx:(x.toNat:Int)=X) (hn:(n:Int)=N) (hm:n≤18446744073709551615) (hz:((powN x n).toNat:Int)=Z) (w:World) :
  Calls prog 212 #[.int .u8 X,.int .u64 N] w (RetI .u8 Z w):=by subst hx;subst hn;subst hz;exact EqV x n w hm
theorem sum_lit (Z:Int) (A:YA) (n c B:Nat) (l:YB) (w:World) (h:RB w B A n l) (hn:n≤140737488355328) (hz:((sumL l).toNat:Int)=Z) :
  Calls prog 211 #[.slice A n c] w (RetI .u8 Z w):=by subst hz;exact EkV A n c B l w h (by unfold maxLen;omega)
