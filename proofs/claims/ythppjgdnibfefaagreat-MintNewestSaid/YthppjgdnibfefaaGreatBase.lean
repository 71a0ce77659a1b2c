import Derived.WalkKit
import Derived.WalkSpells
import Derived.WalkLawsBesides
import Derived.Deep.QuietTactic
import Derived.BigQuiet
import Derived.Deep.Draws
import Derived.Lib.Hide
import Derived.Lib.QuietBelow
import Derived.Deep.RegionHeld
set_option linter.all false
set_option maxRecDepth 100000
set_option maxHeartbeats 32000000
theorem Go.RowKit.Hid.o {p : Prop} (h : Go.RowKit.Hid p) : p := h
theorem Go.Shut.o {p : Prop} (h : Go.Shut p) : p := h
namespace Go.Proofs.YthppjgdnibfefaaGreat
open Go.RowKit
theorem η {p:Prop} (h:p):Hid p:=Lib.hid h
theorem rxT {α:Type}:(∀ {xs:List α} {i:Nat} (h:i<xs.toArray.size),xs.toArray[i]=xs[i]'(by simpa using h))∧(∀ (a:α) (as:List α) (h:0<(a::as).length),(a::as)[0]=a)∧(∀ (a:α) (as:List α) (i:Nat) (h:i+1<(a::as).length),(a::as)[i+1]=as[i]'(by simpa using h)):=⟨@List.getElem_toArray α,@List.getElem_cons_zero α,@List.getElem_cons_succ α⟩
theorem sxT {α:Type}:(∀ (l:List α) (i:Nat) (a:α),l.toArray.setIfInBounds i a=(l.set i a).toArray)∧(∀ {x:α} {xs:List α} {a:α},(x::xs).set 0 a=a::xs)∧(∀ {x:α} {xs:List α} {i:Nat} {a:α},(x::xs).set (i+1) a=x::xs.set i a):=⟨@List.setIfInBounds_toArray α,@List.set_cons_zero α,@List.set_cons_succ α⟩
theorem atd {P : Program} {ops : Array Oper} {Q : Exit → Act → World → Prop} {r : List Oper} {o : Oper} {a : Act} {w : World} (d : Nat) (h : o.dst = some d) (k : wpList P ops Q (o :: r) a w) : wpList P ops Q (o :: r) a w := k
section
variable {P:Program} {ops:Array Oper} {Q:Exit→Act→World→Prop} {md:Region.Mode} {S:World→Prop}
theorem tkI (i:Nat) {oi:Oper} {v:Value} {fuel:Nat} {listed:Array Bool} {a:Act} {w:World} (hi:ops[i]?=some oi) (hy:Region.wanted oi (yielded ops a.tmps)=true∧∀ w,S w→(execOp a.eval oi).run P w=.ok (.value v) w) (hS:S w)
  (h:wpAnyH P md ops Q S fuel (listed.setIfInBounds i true) (a.put oi.dst v) w) (hs:Region.noSelect ops=true:=by kernel_rfl) (hf:Region.free md ops listed i=true:=by kernel_rfl) (hr:(Region.ready md ops listed).contains i=true:=by kernel_rfl)
  (hQ:∀ c a w,Q (.panic c) (a.put oi.dst v) w→Q (.panic c) a w:=by exact fun _ _ _ h=>h):wpAnyH P md ops Q S (fuel+1) listed a w:=wpAnyH_take hi hs hf hr hQ (Or.inl hy) hS h
abbrev YB := List UInt8
abbrev YA := Option Addr
theorem an {a b : Prop} (h : a) (k : b) : a ∧ b := ⟨h, k⟩
theorem tkJ (i : Nat) {oi : Oper} {v : Value} {fuel : Nat} {listed : Array Bool} {a : Act} {w : World} (hi : ops[i]? = some oi) (hS : S w)
    (h : wpAnyH P md ops Q S fuel (listed.setIfInBounds i true) (a.put oi.dst v) w) (hw : Region.wanted oi (yielded ops a.tmps) = true := by rfl) (hy : ∀ w, S w → (execOp a.eval oi).run P w = .ok (.value v) w := by intro w z; (try have q := Ω.o w z); (try simp only [Act.put, rxT, sxT]); go_simp <;> with_reducible rfl) (hs : Region.noSelect ops = true := by kernel_rfl) (hf : Region.free md ops listed i = true := by kernel_rfl) (hr : (Region.ready md ops listed).contains i = true := by kernel_rfl)
    (hQ : ∀ c a w, Q (.panic c) (a.put oi.dst v) w → Q (.panic c) a w := by exact fun _ _ _ h => h) : wpAnyH P md ops Q S (fuel + 1) listed a w := tkI i hi ⟨hw, hy⟩ hS h hs hf hr hQ
theorem rdI (i:Nat) {o:Oper} {fuel:Nat} {listed:Array Bool} {a:Act} {w:World} (ho:ops[i]?=some o)
  (h:∀ K':Act→World→Prop,Shut (∀ a w,S w→(S w→wpAnyH P md ops Q S fuel (listed.setIfInBounds i true) a w)→K' a w)→if Region.wanted o (yielded ops a.tmps)=true then Oper.wp P o a w K' Q else K' (a.put o.dst undef) w)
  (hr:Region.ready md ops listed=[i]:=by kernel_rfl):wpAnyH P md ops Q S (fuel+1) listed a w:=wpAnyH_ready hr (by simp) (AllReadyH.cons ho h AllReadyH.nil)
end
def bv (b:UInt8):Value:=.int .u8 (b.toNat:Int)
def bvs (l:List UInt8):List Value:=l.map bv
theorem AaY (l:List UInt8):(bvs l).length=l.length:=by simp [bvs]
theorem CkW (a b:List UInt8):bvs (a++b)=bvs a++bvs b:=by simp [bvs]
theorem BkK (l:List UInt8):∀ u∈bvs l,u.oneCell'=true:=by
 intro u hu
 obtain ⟨_,_,rfl⟩:=List.mem_map.1 hu
 rfl
def RB (w:World) (B:Nat) (A:Option Addr) (n:Nat) (l:List UInt8):Prop :=
 l.length=n∧(0<n→∃ b o,A=some ⟨b,o,none⟩∧b<B∧∀ i (h:i<l.length),w.cell? ⟨b,o+i,none⟩=some (bv l[i]))
section
variable {w w':World} {B B' n:Nat} {A:Option Addr} {l:List UInt8}
theorem RB.len (h:RB w B A n l):l.length=n:=h.1
theorem RB.nil_:RB w B A 0 []:=⟨rfl,fun h=>absurd h (by omega)⟩
theorem RB.at_ {k:Nat} (h:RB w B A n l) (hk:k<n):∃ b o,A=some ⟨b,o,none⟩∧b<B∧∃ x:UInt8,l[k]?=some x∧w.cell? ⟨b,o+k,none⟩=some (.int .u8 (x.toNat:Int)):=by
 obtain ⟨b,o,e,hb,hc⟩:=h.2 (by omega)
 have hl:k<l.length:=by rw [h.1];exact hk
 exact ⟨b,o,e,hb,l[k],List.getElem?_eq_getElem hl,hc k hl⟩
theorem RB.keep (h:RB w B A n l) (hk:∀ p:Addr,p.block<B→w'.cell? p=w.cell? p):RB w' B A n l :=
 ⟨h.1,fun hn=>by
  obtain ⟨b,o,e,hb,hc⟩:=h.2 hn
  exact ⟨b,o,e,hb,fun i hi=>(hk _ hb).trans (hc i hi)⟩⟩
theorem RB.more (h:RB w B A n l) (hB:B≤B'):RB w B' A n l :=
 ⟨h.1,fun hn=>by
  obtain ⟨b,o,e,hb,hc⟩:=h.2 hn
  exact ⟨b,o,e,by omega,hc⟩⟩
theorem RB.below (h:RB w B A n l) (hb:Below B w w'):RB w' B A n l:=h.keep fun _ hp=>hb.cell hp
theorem RB.drew (h:RB w B A n l):RB w.drew B A n l:=h
theorem RB.alloc (h:RB w B A n l) (hB:B≤w.heap.size) (o:Obj):RB (w.alloc o) B A n l:=h.keep fun p hp=>World.cell?_alloc_lt w o p (by omega)
theorem RB.of_own {base c:Nat} {e:TypeId} (h:w.ownsRow base e 1 (.slice A n c) n (bvs l)):RB w w.heap.size A n l:=by
 have hl:l.length=n:=by have:=h.1;simpa [bvs] using this
 refine ⟨hl,fun hn=>?_⟩
 rcases h.2 with ⟨_,h0⟩ | ⟨g,cap,cur,hv,hbg,hh,_⟩
 ·omega
 ·have hA:A=some ⟨g,0,none⟩:=by injection hv
  subst hA;refine ⟨g,0,rfl,(Array.getElem?_eq_some_iff.1 hh).1,fun i hi=>?_⟩;have:=h.cells (g:=g) rfl i (bv l[i]) (by simp [bvs,List.getElem?_eq_getElem hi]);have hadd:(⟨g,0,none⟩:Addr).add i=⟨g,0+i,none⟩:=by unfold Addr.add;split <;> simp_all
  rw [hadd] at this;exact this
theorem RB.cut (h:RB w B A n l) {i j cap:Nat} (hij:i≤j) (hj:j≤n) (hc:n≤cap) :
  RB w B (if cap=i then A else A.map (·.add i)) (j - i) ((l.take j).drop i):=by
 refine ⟨by rw [List.length_drop,List.length_take,h.1];omega,fun hn=>?_⟩
 obtain ⟨b,o,rfl,hb,hcell⟩:=h.2 (by omega)
 rw [if_neg (by omega)]
 refine ⟨b,o+i,by simp [Addr.add],hb,fun k hk=>?_⟩
 rw [List.length_drop,List.length_take,h.1] at hk
 have:=hcell (i+k) (by rw [h.1];omega)
 rw [Nat.add_assoc,this]
 simp
end
theorem RB.front {w:World} {B n j:Nat} {A:Option Addr} {l:List UInt8} (h:RB w B A n l) (hj:j≤n):RB w B A j (l.take j):=by
 refine ⟨by rw [List.length_take,h.1];omega,fun hn=>?_⟩
 obtain ⟨b,o,e,hb,hc⟩:=h.2 (by omega)
 exact ⟨b,o,e,hb,fun i hi=>by rw [List.getElem_take];exact hc i (by rw [List.length_take] at hi;omega)⟩
theorem AdV {B:Nat} {a w:World} (h:Below B a w) (n:Nat):Below B a (w.drewN n):=⟨h.os,h.tape,h.output,h.size,h.block⟩
def numL (l:List UInt8):Nat:=l.foldl (fun n b=>n*256+b.toNat) 0
theorem AkZ (l:List UInt8) (x:UInt8):numL (l++[x])=numL l*256+x.toNat:=by simp [numL]
theorem AgY {l:List UInt8} {k:Nat} {x:UInt8} (h:l[k]?=some x):l.take (k+1)=l.take k++[x]:=by
 rw [List.take_add_one,h];rfl
theorem AeZ (x:UInt8):(x.toNat:Int)<256:=by have:=x.toNat_lt;omega
theorem BdX:∀ (k:Nat) (l:List UInt8),l.length=k→numL l<256 ^ k:=by
 intro k
 induction k with
 | zero=>intro l h;rw [List.eq_nil_of_length_eq_zero h];simp [numL]
 | succ k ih =>
  intro l h;have hne:l≠[]:=by intro e;subst e;simp at h
  obtain ⟨a,x,rfl⟩:∃ a x,l=a++[x]:=⟨l.dropLast,l.getLast hne,(List.dropLast_concat_getLast hne).symm⟩;have hx:=x.toNat_lt;have:=ih a (by simpa using h);rw [AkZ,Nat.pow_succ];omega
theorem DsQ (l:List UInt8) (k:Nat) (hk:k<8):(numL (l.take k):Int)<72057594037927936:=by
 have h1:=BdX _ (l.take k) rfl
 have h2:(l.take k).length≤7:=by rw [List.length_take];omega
 have h3:256 ^ (l.take k).length≤256 ^ 7:=Nat.pow_le_pow_right (by omega) h2
 have h4:(256:Nat) ^ 7=72057594037927936:=by decide
 omega
theorem or_byte (a:Nat) (x:UInt8) (h:(a:Int)<72057594037927936):bits .or .u64 ((a:Int)*256) (x.toNat:Int)=((a*256+x.toNat:Nat):Int):=by
 have hx:=x.toNat_lt
 have e:(a:Int)*256=((a*256:Nat):Int):=by omega
 rw [e,u64_or_nat _ _ (by omega) (by omega),nat_join 8 _ _ (by omega) (by omega)]
theorem CiZ {P:Program} {f:FuncId} {args:Array Value} {w:World} {n:Nat} {v:Value} (h:Calls P f args (w.drewN n) fun e w'=>e=.returned v∧w.drewN n=w') :
  Calls P f args (w.drewN n) fun e w''=>e=.returned v∧∃ m,w''=w.drewN m :=
 h.mono fun _ _ ⟨he,hm⟩=>⟨he,n,hm.symm⟩
theorem BaV {k:IntKind} {a b:Int} (h:a=b):Ending.returned (.int k a)=.returned (.int k b):=by rw [h]
theorem ret1b {a b:Bool} (h:a=b):Ending.returned (.bool a)=.returned (.bool b):=by rw [h]
theorem ret2 {k k':IntKind} {a b a' b':Int} (h:a=b) (h':a'=b'):Ending.returned (.tuple #[.int k a,.int k' a'])=.returned (.tuple #[.int k b,.int k' b']):=by rw [h,h']
