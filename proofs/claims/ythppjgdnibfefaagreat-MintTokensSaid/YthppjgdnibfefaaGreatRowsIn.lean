import Derived.Test.YthppjgdnibfefaaGreatBytes
set_option linter.all false
set_option maxRecDepth 100000
set_option maxHeartbeats 32000000
namespace Go.Proofs.YthppjgdnibfefaaGreat
open Tryz
open Go.RowKit
theorem AdX (A:YA) (n c B:Nat) (l:YB) (w:World) (h:RB w w.heap.size A n l) (hm:n≤140737488355328) :
  Calls prog 25 #[.slice A n c] w (RetB n l w):=by
 go_enter func25,ntmps25
 go_wp2_with (first
  | (at_builtin;refine AcQ rfl (.tmp 3) (.tmp 4) rfl w.heap.size _ _ _ [] rfl (OwnB.lit w _ [] #[] 0 rfl rfl (by unfold maxLen;omega) (Nat.le_refl _)) w.heap.size A n c l rfl (h.alloc (Nat.le_refl _) _) (by omega) (by simp) ?_;intro A1 c1 w1 hown1 _ hb1))
 go_ret
 exact ⟨A1,c1,rfl,by simpa using hown1,((Below.refl _ _).alloc (Nat.le_refl _) _).trans hb1⟩
theorem BgJ (A A':YA) (n c n' c' B B':Nat) (l l':YB) (w:World) (h:RB w B A n l) (h':RB w B' A' n' l') (hm:n≤maxLen) (hm':n'≤maxLen) :
  Calls prog 29 #[.slice A n c,.slice A' n' c'] w fun e w'=>e=.returned (.bool (l == l'))∧∃ q,w'=w.drewN q:=by
 unfold maxLen at hm hm'
 by_cases hne:n=n'
 ·subst hne
  go_enter func29,ntmps29;go_wp2
  go_loopw [5] (fun i wr=>∃ k q:Nat,k≤n∧i=.int .i64 k∧wr=w.drewN q∧Hid (l.take k=l'.take k)) (fun i _=>n - (intOf i).toNat)
  case atStart=>exact ⟨0,0,Nat.zero_le _,rfl,rfl,rfl⟩
  case round =>
   obtain ⟨k,q,hk,rfl,rfl,he⟩:=hrel;by_cases hlt:k<n
   ·obtain ⟨b,o,rfl,hb,x,hx,hc⟩:=h.at_ hlt
    obtain ⟨b',o',rfl,hb',x',hx',hc'⟩:=h'.at_ hlt;have HX:=η hx;have HX':=η hx';clear hx hx';by_cases hxx:x=x'
    ·subst hxx
     go_wp2;go_quiet (fail);go_wp2;go_roundw
     case rel=>exact ⟨k+1,_,by omega,by go_num,rfl,η (by rw [AgY HX.o,AgY HX'.o,he.o])⟩
     case measure=>simp [intOf];omega
    ·have hb1:((x.toNat:Int) != (x'.toNat:Int))=true:=by
      rw [bne_iff_ne];intro e;exact hxx (UInt8.toNat_inj.1 (by omega))
     go_wp2;go_quiet (fail);go_wp2;go_ret
     exact ⟨ret1b (by
      symm
      rw [Bool.eq_false_iff]
      intro e
      have e':=eq_of_beq e
      have p:=HX.o
      rw [e',HX'.o] at p
      exact hxx (Option.some.inj p).symm),q+nq,World.drewN_drewN _ _ _⟩
   ·go_wp2
    go_ret
    exact ⟨ret1b (by
     have e:l=l':=by
      have:=he.o
      rwa [List.take_of_length_le (by have:=h.len;omega),List.take_of_length_le (by have:=h'.len;omega)] at this
     rw [e]
     simp),_,rfl⟩
 ·have hne2:((n:Int) != (n':Int))=true:=by rw [bne_iff_ne];omega
  go_enter func29,ntmps29;go_wp2;go_ret;exact ⟨ret1b (by symm;rw [Bool.eq_false_iff];intro e;exact hne (by rw [←h.len,←h'.len,eq_of_beq e])),0,rfl⟩
theorem al_same (A A':YA) (n c n' c':Nat) (l l':YB) (w:World) (h:RB w w.heap.size A n l) (h':RB w w.heap.size A' n' l') (hm:n≤maxLen) (hm':n'≤maxLen) (v:Bool) (hv:(l == l')=v) :
  Calls prog 29 #[.slice A n c,.slice A' n' c'] w fun e w'=>e=.returned (.bool v)∧Below w.heap.size w w' :=
 (BgJ A A' n c n' c' _ _ l l' w h h' hm hm').mono fun e w' ⟨he,q,hq⟩=>by
  subst hv;subst hq;exact ⟨he,AdV (Below.refl _ _) _⟩
open Go.RowKit
def RR (w:World) (B:Nat) (A:YA) (n:Nat) (ps:List (YB)):Prop :=
 ps.length=n∧(0<n→∃ b o,A=some ⟨b,o,none⟩∧b<B∧∀ i p,ps[i]?=some p→∃ Ai ci,w.cell? ⟨b,o+i,none⟩=some (.slice Ai p.length ci)∧RB w B Ai p.length p)
section
variable {w w':World} {B n:Nat} {A:YA} {ps:List (YB)}
theorem RR.len (h:RR w B A n ps):ps.length=n:=h.1
theorem RR.keep (h:RR w B A n ps) (hk:∀ p:Addr,p.block<B→w'.cell? p=w.cell? p):RR w' B A n ps :=
 ⟨h.1,fun hn=>by
  obtain ⟨b,o,e,hb,hc⟩:=h.2 hn
  refine ⟨b,o,e,hb,fun i p hp=>?_⟩
  obtain ⟨Ai,ci,h1,h2⟩:=hc i p hp
  exact ⟨Ai,ci,(hk _ hb).trans h1,h2.keep hk⟩⟩
theorem RR.below (h:RR w B A n ps) (hb:Below B w w'):RR w' B A n ps:=h.keep fun _ hp=>hb.cell hp
theorem RR.at_ {k:Nat} (h:RR w B A n ps) (hk:k<n):∃ b o,A=some ⟨b,o,none⟩∧b<B∧∃ p,ps[k]?=some p∧∃ Ai ci,w.cell? ⟨b,o+k,none⟩=some (.slice Ai p.length ci)∧RB w B Ai p.length p:=by
 obtain ⟨b,o,e,hb,hc⟩:=h.2 (by omega)
 have hl:k<ps.length:=by rw [h.1];exact hk
 exact ⟨b,o,e,hb,ps[k],List.getElem?_eq_getElem hl,hc k _ (List.getElem?_eq_getElem hl)⟩
end
theorem RR.lit (w:World) (rows:List (Option Addr×Nat×List UInt8)) (cs:Array Value) (e:TypeId) (n g:Nat) (hc:cs=(rows.map fun r=>Value.slice r.1 r.2.2.length r.2.1).toArray) (hn:rows.length=n) (hg:g=w.heap.size)
  (hr:∀ r∈rows,RB w w.heap.size r.1 r.2.2.length r.2.2):RR (w.alloc (.cells cs e)) (w.alloc (.cells cs e)).heap.size (some ⟨g,0,none⟩) n (rows.map fun r=>r.2.2):=by
 subst hn
 subst hg
 refine ⟨by simp,fun _=>⟨w.heap.size,0,rfl,by simp,fun i p hp=>?_⟩⟩
 rw [List.getElem?_map] at hp
 obtain ⟨r,hri,rfl⟩:=Option.map_eq_some_iff.1 hp
 refine ⟨r.1,r.2.1,?_,(hr r (List.mem_of_getElem? hri)).step (AaK _ _)⟩
 subst hc
 rw [cell_of_row (w.alloc (.cells _ e)) w.heap.size (0+i) _ e (0,0) (heap_alloc_new w _)]
 simp [hri]
def totL (ps:List (YB)):Nat:=(ps.map List.length).sum
theorem EiY (ps:List (YB)) (p:YB):totL (ps++[p])=totL ps+p.length:=by simp [totL]
theorem EiZ (ps:List (YB)):ps.flatten.length=totL ps:=by simp [totL,List.length_flatten]
theorem totL_app (a b:List (YB)):totL (a++b)=totL a+totL b:=by simp [totL]
theorem BlK (ps:List (YB)) (k:Nat):totL (ps.take k)≤totL ps:=by
 have:=totL_app (ps.take k) (ps.drop k)
 rw [List.take_append_drop] at this
 omega
theorem BvV {ps:List (YB)} {k:Nat} {p:YB} (h:ps[k]?=some p):ps.take (k+1)=ps.take k++[p]:=by
 rw [List.take_add_one,h];rfl
theorem CtZ {ps:List (YB)} {k:Nat} {p:YB} (h:ps[k]?=some p):totL (ps.take (k+1))=totL (ps.take k)+p.length:=by rw [BvV h,EiY]
theorem ExW {ps:List (YB)} {k:Nat} {p:YB} (h:ps[k]?=some p):(ps.take (k+1)).flatten=(ps.take k).flatten++p:=by rw [BvV h];simp
open Go.RowKit
