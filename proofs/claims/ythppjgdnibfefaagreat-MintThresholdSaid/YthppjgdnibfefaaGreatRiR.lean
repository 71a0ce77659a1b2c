/- Layer 19: the reference's ring in memory; its Find, Install, Retire, Copy. Condition: what is said of the ring. -/
import Derived.Test.YthppjgdnibfefaaGreatRiL
set_option linter.unusedVariables false
set_option linter.unusedSimpArgs false
set_option maxRecDepth 100000
set_option maxHeartbeats 32000000
namespace Go.Proofs.YthppjgdnibfefaaGreat
open Go.RowKit
structure KR where
 q:Int
 A:Option Addr
 c:Nat
 key:List UInt8
def rowK (k:KR):List Value:=[.int .i64 k.q,.slice k.A 16 k.c]
def rgK (ks:List KR):Rg:=ks.map fun k=>(k.q,k.key)
theorem rgK_len (ks:List KR):(rgK ks).length=ks.length:=List.length_map _
abbrev GR (w:World) (base:Nat) (B:Option Addr) (d:Nat) (ks:List KR):Prop:=Grd 142 2 w base B ks.length d (ks.map rowK)
structure Rs (base:Nat) (w:World) (y:Nat) (B:Option Addr) (d:Nat) (ks:List KR):Prop where
 blk:Blk 102 w y [.slice B ks.length d]
 grd:GR w base B d ks
 key:∀ k∈ks,OwnB w 0 k.A 16 k.c k.key
 low:base≤y
section
variable {base:Nat} {w w':World} {y d:Nat} {B:Option Addr} {ks:List KR} {S:List Nat}
theorem Rs.off (h:Rs base w y B d ks) (ho:Oth S w w') (hy:y∉S) (hB:∀ g∈blkO B,g∉S) (hk:∀ k∈ks,∀ g∈blkO k.A,g∉S):Rs base w' y B d ks :=
 ⟨h.blk.oth ho hy,h.grd.oth ho hB,fun k hm=>(h.key k hm).oth ho (fun g o e=>hk k hm g (by rw [e];simp [blkO])),h.low⟩
theorem Rs.step (h:Rs base w y B d ks) (hb:Below w.heap.size w w'):Rs base w' y B d ks:=h.off (Oth.of_below (S:=[]) hb) (by simp) (fun g hg=>by simp) (fun k hm g hg=>by simp)
theorem Rs.c0 (h:Rs base w y B d ks):w.cell? ⟨y,0,none⟩=some (.slice B ks.length d):=h.blk.cell 0
theorem Rs.at_ (h:Rs base w y B d ks) {i:Nat} (hi:i<ks.length):∃ g k,B=some ⟨g,0,none⟩∧g∈blkO B∧ks[i]?=some k∧k∈ks∧w.cell? ⟨g,i*2,none⟩=some (.int .i64 k.q)∧w.cell? ⟨g,i*2+1,none⟩=some (.slice k.A 16 k.c):=by
 obtain ⟨g,r,eA,hg,hr,hl,hrg,hm⟩:=h.grd.at_ hi
 rw [List.getElem?_map,List.getElem?_eq_getElem hi] at hr
 injection hr with hr
 subst hr
 exact ⟨g,ks[i],eA,hm,List.getElem?_eq_getElem hi,List.getElem_mem hi,hrg 0 _ rfl,hrg 1 _ rfl⟩
end
theorem Rs.new {w w':World} {y:Nat} (h:Blk 102 w' y [.slice none 0 0]) (hy:w.heap.size≤y):Rs w.heap.size w' y none 0 [] :=
 ⟨h,Grd.nil_ _ _ _ _,fun k hk=>(by cases hk),hy⟩
def RetRs (base y:Nat) (B:Option Addr) (ks:List KR) (s:Rg) (w w':World):Prop :=
 ∃ (B':Option Addr) (d':Nat) (ks':List KR),Rs base w' y B' d' ks'∧rgK ks'=s∧Oth (y::blkO B) w w'∧(∀ k∈ks',k∈ks∨∀ g∈blkO k.A,w.heap.size≤g)∧(∀ g∈blkO B',g∈blkO B∨w.heap.size≤g)
theorem RetRs.same {base y:Nat} {B:Option Addr} {d:Nat} {ks:List KR} {w w':World} (h:Rs base w y B d ks) (hb:Below w.heap.size w w'):RetRs base y B ks (rgK ks) w w' :=
 ⟨B,d,ks,h.step hb,rfl,Oth.of_below hb,fun e he=>.inl he,fun g hg=>.inl hg⟩
end Go.Proofs.YthppjgdnibfefaaGreat
