/- What the references share on bytes: SameBytes compares them, CopyBytes copies them. Condition: the slices' cells are readable. -/
import Derived.Test.YthppjgdnibfefaaGreatBytes
set_option linter.unusedVariables false
set_option linter.unusedSimpArgs false
set_option maxRecDepth 100000
set_option maxHeartbeats 32000000
namespace Go.Proofs.YthppjgdnibfefaaGreat
open Go.RowKit
end Go.Proofs.YthppjgdnibfefaaGreat
namespace Go.Proofs.YthppjgdnibfefaaGreat
open Go.RowKit
def RR (w:World) (B:Nat) (A:Option Addr) (n:Nat) (ps:List (List UInt8)):Prop :=
 ps.length=n∧(0<n→∃ b o,A=some ⟨b,o,none⟩∧b<B∧∀ i p,ps[i]?=some p→∃ Ai ci,w.cell? ⟨b,o+i,none⟩=some (.slice Ai p.length ci)∧RB w B Ai p.length p)
section
variable {w w':World} {B n:Nat} {A:Option Addr} {ps:List (List UInt8)}
theorem RR.len (h:RR w B A n ps):ps.length=n:=h.1
theorem RR.keep (h:RR w B A n ps) (hk:∀ p:Addr,p.block<B→w'.cell? p=w.cell? p):RR w' B A n ps :=
 ⟨h.1,fun hn=>by
  obtain ⟨b,o,e,hb,hc⟩:=h.2 hn
  refine ⟨b,o,e,hb,fun i p hp=>?_⟩
  obtain ⟨Ai,ci,h1,h2⟩:=hc i p hp
  exact ⟨Ai,ci,(hk _ hb).trans h1,h2.keep hk⟩⟩
theorem RR.below (h:RR w B A n ps) (hb:Below B w w'):RR w' B A n ps:=h.keep fun _ hp=>hb.cell hp
theorem RR.drew (h:RR w B A n ps):RR w.drew B A n ps:=h
theorem RR.at_ {k:Nat} (h:RR w B A n ps) (hk:k<n):∃ b o,A=some ⟨b,o,none⟩∧b<B∧∃ p,ps[k]?=some p∧∃ Ai ci,w.cell? ⟨b,o+k,none⟩=some (.slice Ai p.length ci)∧RB w B Ai p.length p:=by
 obtain ⟨b,o,e,hb,hc⟩:=h.2 (by omega)
 have hl:k<ps.length:=by rw [h.1];exact hk
 exact ⟨b,o,e,hb,ps[k],List.getElem?_eq_getElem hl,hc k _ (List.getElem?_eq_getElem hl)⟩
end
theorem RR.lit (w:World) (rows:List (Option Addr×Nat×List UInt8)) (cs:Array Value) (e:TypeId) (n g:Nat) (hc:cs=(rows.map fun r=>Value.slice r.1 r.2.2.length r.2.1).toArray) (hn:rows.length=n) (hg:g=w.heap.size)
  (hr:∀ r∈rows,RB w w.heap.size r.1 r.2.2.length r.2.2):RR (w.alloc (.cells cs e)) (w.alloc (.cells cs e)).heap.size (some ⟨g,0,none⟩) n (rows.map fun r=>r.2.2):=by
 subst hn
 subst hg
 refine ⟨by simp,fun _=>⟨w.heap.size,0,rfl,by simp,fun i p hp=>?_⟩⟩
 rw [List.getElem?_map] at hp
 obtain ⟨r,hri,rfl⟩:=Option.map_eq_some_iff.1 hp
 refine ⟨r.1,r.2.1,?_,(hr r (List.mem_of_getElem? hri)).step (below_alloc _ _)⟩
 subst hc
 rw [cell_of_row (w.alloc (.cells _ e)) w.heap.size (0+i) _ e (0,0) (heap_alloc_new w _)]
 simp [hri]
def totL (ps:List (List UInt8)):Nat:=(ps.map List.length).sum
theorem totL_snoc (ps:List (List UInt8)) (p:List UInt8):totL (ps++[p])=totL ps+p.length:=by simp [totL]
theorem totL_flat (ps:List (List UInt8)):ps.flatten.length=totL ps:=by simp [totL,List.length_flatten]
theorem totL_app (a b:List (List UInt8)):totL (a++b)=totL a+totL b:=by simp [totL]
theorem totL_take (ps:List (List UInt8)) (k:Nat):totL (ps.take k)≤totL ps:=by
 have:=totL_app (ps.take k) (ps.drop k)
 rw [List.take_append_drop] at this
 omega
theorem take_row {ps:List (List UInt8)} {k:Nat} {p:List UInt8} (h:ps[k]?=some p):ps.take (k+1)=ps.take k++[p]:=by
 rw [List.take_add_one,h];rfl
theorem totL_step {ps:List (List UInt8)} {k:Nat} {p:List UInt8} (h:ps[k]?=some p):totL (ps.take (k+1))=totL (ps.take k)+p.length:=by rw [take_row h,totL_snoc]
theorem flat_step {ps:List (List UInt8)} {k:Nat} {p:List UInt8} (h:ps[k]?=some p):(ps.take (k+1)).flatten=(ps.take k).flatten++p:=by rw [take_row h];simp
end Go.Proofs.YthppjgdnibfefaaGreat
namespace Go.Proofs.YthppjgdnibfefaaGreat
open Go.RowKit
def longB (ps:List (List UInt8)) (m:Nat):Bool:=decide (m<ps.length∨m<totL ps)
end Go.Proofs.YthppjgdnibfefaaGreat
