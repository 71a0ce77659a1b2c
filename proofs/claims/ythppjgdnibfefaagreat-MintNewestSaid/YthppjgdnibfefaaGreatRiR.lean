import Derived.Test.YthppjgdnibfefaaGreatRiL
set_option linter.all false
set_option maxRecDepth 100000
set_option maxHeartbeats 32000000
namespace Go.Proofs.YthppjgdnibfefaaGreat
open Tryz
open Go.RowKit
structure KR where
 q:Int
 A:Option Addr
 c:Nat
 key:List UInt8
def rowK (k:KR):List Value:=[.int .i64 k.q,.slice k.A 16 k.c]
def rgK (ks:List KR):Rg:=ks.map fun k=>(k.q,k.key)
theorem BaQ (ks:List KR):(rgK ks).length=ks.length:=List.length_map _
theorem rowK_one (k:KR):ones (rowK k):=by
 intro v hv
 unfold rowK at hv
 simp only [List.mem_cons,List.not_mem_nil,or_false] at hv
 rcases hv with rfl | rfl <;> rfl
theorem DbQ:GT 142 100 [.int .i64 0,.slice none 0 0] 32:=⟨underlying100,AsJ (by kernel_rfl),by kernel_rfl,by decide,fun v hv=>by
 simp only [List.mem_cons,List.not_mem_nil,or_false] at hv
 rcases hv with rfl | rfl <;> rfl⟩
abbrev GR (w:World) (base:Nat) (B:YA) (d:Nat) (ks:List KR):Prop:=Grd 142 2 w base B ks.length d (ks.map rowK)
structure Rs (base:Nat) (w:World) (y:Nat) (B:YA) (d:Nat) (ks:List KR):Prop where
 blk:Blk 102 w y [.slice B ks.length d]
 grd:GR w base B d ks
 key:∀ k∈ks,OwnB w 0 k.A 16 k.c k.key
 low:base≤y
section
variable {base:Nat} {w w':World} {y d:Nat} {B:YA} {ks:List KR} {S:List Nat}
theorem Rs.ny (h:Rs base w y B d ks):y∉blkO B:=h.grd.away h.blk (by decide)
theorem Rs.off (h:Rs base w y B d ks) (ho:Oth S w w') (hy:y∉S) (hB:∀ g∈blkO B,g∉S) (hk:∀ k∈ks,∀ g∈blkO k.A,g∉S):Rs base w' y B d ks :=
 ⟨h.blk.oth ho hy,h.grd.oth ho hB,fun k hm=>(h.key k hm).oth ho (fun g o e=>hk k hm g (by rw [e];simp [blkO])),h.low⟩
theorem Rs.step (h:Rs base w y B d ks) (hb:Below w.heap.size w w'):Rs base w' y B d ks:=h.off (Oth.of_below (S:=[]) hb) (by simp) (fun g hg=>by simp) (fun k hm g hg=>by simp)
theorem Rs.c0 (h:Rs base w y B d ks):w.cell? ⟨y,0,none⟩=some (.slice B ks.length d):=h.blk.cell 0
theorem Rs.at_ (h:Rs base w y B d ks) {i:Nat} (hi:i<ks.length):∃ g k,B=some ⟨g,0,none⟩∧g∈blkO B∧ks[i]?=some k∧k∈ks∧w.cell? ⟨g,i*2,none⟩=some (.int .i64 k.q)∧w.cell? ⟨g,i*2+1,none⟩=some (.slice k.A 16 k.c):=by
 obtain ⟨g,r,eA,hg,hr,hl,hrg,hm⟩:=h.grd.at_ hi
 rw [List.getElem?_map,List.getElem?_eq_getElem hi] at hr
 injection hr with hr
 subst hr
 exact ⟨g,ks[i],eA,hm,List.getElem?_eq_getElem hi,List.getElem_mem hi,hrg 0 _ rfl,hrg 1 _ rfl⟩
end
theorem Rs.new {w w':World} {y:Nat} (h:Blk 102 w' y [.slice none 0 0]) (hy:w.heap.size≤y):Rs w.heap.size w' y none 0 [] :=
 ⟨h,Grd.nil_ _ _ _ _,fun k hk=>(by cases hk),hy⟩
def RetRs (base y:Nat) (B:YA) (ks:List KR) (s:Rg) (w w':World):Prop :=
 ∃ (B':YA) (d':Nat) (ks':List KR),Rs base w' y B' d' ks'∧rgK ks'=s∧Oth (y::blkO B) w w'∧(∀ k∈ks',k∈ks∨∀ g∈blkO k.A,w.heap.size≤g)∧(∀ g∈blkO B',g∈blkO B∨w.heap.size≤g)
theorem RetRs.same {base y:Nat} {B:YA} {d:Nat} {ks:List KR} {w w':World} (h:Rs base w y B d ks) (hb:Below w.heap.size w w'):RetRs base y B ks (rgK ks) w w' :=
 ⟨B,d,ks,h.step hb,rfl,Oth.of_below hb,fun e he=>.inl he,fun g hg=>.inl hg⟩
theorem AkY (base y:Nat) (B:YA) (d:Nat) (ks:List KR) (q:Int) (w:World) (h:Rs base w y B d ks) (hn:ks.length≤1000) :
  Calls prog 110 #[.pointer (some ⟨y,0,none⟩),.int .i64 q] w fun e w'=>e=.returned (.int .i64 (idxR (rgK ks) q))∧w=w':=by
 have H:=η h
 obtain ⟨n,HN⟩:∃ n,Hid (ks.length=n):=⟨_,η rfl⟩
 have hc0:=h.c0
 rw [HN.o] at hn hc0
 clear h
 go_enter func110,ntmps110
 go_wp2_with fail
 go_loopw [5] (fun i wr=>∃ k:Nat,k≤n∧i=.int .i64 (k:Int)∧w=wr∧Hid (∀ j e,j<k→ks[j]?=some e→e.q≠q)) (fun i _=>n - (intOf i).toNat)
 case atStart=>exact ⟨0,by omega,rfl,rfl,η (fun j e hj=>absurd hj (by omega))⟩
 case round =>
  obtain ⟨k,hk,rfl,rfl,HK⟩:=hrel;by_cases hlt:k<n
  ·obtain ⟨g,e0,rfl,_,he,hm,hc1,_⟩:=H.o.at_ (i:=k) (by rw [HN.o];exact hlt)
   have HE:=η he;obtain ⟨v,HV⟩:∃ v,Hid ((e0.q == q)=v):=⟨_,η rfl⟩;have hv:=HV.o;clear he hm;rcases v with _ | _
   ·go_wp2_with fail
    go_roundw
    case rel=>exact ⟨k+1,by omega,by go_num,trivial,η (fun j e hj he=>by
     rcases Nat.lt_or_ge j k with h | h
     ·exact HK.o j e h he
     ·obtain rfl:j=k:=by omega
      rw [HE.o] at he
      injection he with he
      subst he
      exact beq_eq_false_iff_ne.1 HV.o)⟩
    case measure=>simp [intOf];omega
   ·go_wp2_with fail
    go_ret;refine ⟨?_,rfl⟩
    have hf:BbZ (rgK ks) q=some k:=by
     unfold BbZ rgK;rw [List.findIdx?_eq_some_iff_getElem];have hkl:k<ks.length:=by rw [HN.o];exact hlt
     refine ⟨by rw [List.length_map];exact hkl,?_,fun j hj=>?_⟩
     ·rw [List.getElem_map]
      have:ks[k]=e0:=by have:=HE.o;rw [List.getElem?_eq_getElem hkl] at this;injection this
      rw [this];exact HV.o
     ·rw [List.getElem_map]
      have:=HK.o j ks[j] hj (List.getElem?_eq_getElem (by omega));simpa using this
    unfold idxR;rw [hf];rfl
  ·have hkn:k=n:=by omega
   subst hkn;go_wp2_with fail;go_ret;refine ⟨?_,rfl⟩
   have hf:hasR (rgK ks) q=false:=by
    rw [CpW];unfold BhX rgK;rw [List.map_map];intro hm;obtain ⟨e0,he,e1⟩:=List.mem_map.1 hm;obtain ⟨j,hj,hje⟩:=List.getElem_of_mem he;exact HK.o j e0 (by rw [←HN.o];exact hj) (by rw [List.getElem?_eq_getElem hj,hje]) e1
   rw [AxV hf];rfl
theorem EoX (base y:Nat) (B:YA) (d:Nat) (ks:List KR) (q:Int) (A2:YA) (c2:Nat) (l:YB) (w w2:World) (n:Nat) (H:Rs base w y B d ks) (HN:ks.length=n) (hn:n≤1000) (HBW:base≤w.heap.size) (B2:Below w.heap.size w w2) (O2:OwnB w2 w.heap.size A2 16 c2 l) :
  ∃ B' d' W,(∀ ty,(Builtin.append_ #[100,100] ty #[.slice B n d,.slice (some ⟨w2.heap.size,0,none⟩) 1 1]).run prog (w2.alloc (.cells #[.int .i64 q,.slice A2 16 c2] 142))=.ok (.slice B' (n+1) d') W)∧RetRs base y B ks (rgK ks++[(q,l)]) w (W.setCell ⟨y,0,none⟩ (.slice B' (n+1) d'))∧W.cell? ⟨y,0,none⟩=some (.slice B n d)∧W.frozen? ⟨y,0,none⟩=false:=by
 have HW3:=AaK w2 (.cells (rowK ⟨q,A2,c2,l⟩).toArray 142)
 have HB3:=AaJ B2 HW3
 obtain ⟨B',d',W,hrun,hG,hO,hB'⟩:=BvX DbQ 0 (d:=1) (H.grd.step HB3) (RdG.lit1 142 w2 (rowK ⟨q,A2,c2,l⟩) (rowK_one _)) (by rw [HN];omega) (by omega) (Nat.le_trans HBW HB3.size)
 rw [HN] at hrun hG
 have hoW:Oth (blkO B) w W:=(Oth.of_below HB3).trans hO
 have hyW:=H.blk.oth hoW H.ny
 refine ⟨B',d',W,fun ty=>by rw [DwW _ ty 0];exact hrun,?_,by have h:=hyW.cell 0;rw [HN] at h;exact h,hyW.free 0⟩
 have hox:Oth [y] W (W.setCell ⟨y,0,none⟩ (.slice B' (n+1) d')):=(Oth.refl [y] W).set (by simp) 0 _
 have hall:Oth (y::blkO B) w (W.setCell ⟨y,0,none⟩ (.slice B' (n+1) d')):=(hoW.more (fun k hk=>.tail _ hk)).trans (hox.more (fun k hk=>by rw [List.mem_singleton.1 hk];exact .head _))
 have hyB:y∉blkO B':=hG.away hyW (by decide)
 have hn1:(ks++[(⟨q,A2,c2,l⟩:KR)]).length=n+1:=by rw [List.length_append,HN];rfl
 have hnob:NoB (y::blkO B) w:=fun j hj cs fr e=>by
  rcases List.mem_cons.1 hj with rfl | hj
  ·exact H.blk.nob (by decide) j (by simp) cs fr e
  ·exact H.grd.nob (by decide) j hj cs fr e
 refine ⟨B',d',ks++[⟨q,A2,c2,l⟩],⟨?_,?_,fun k hk=>?_,H.low⟩,?_,hall,fun k hk=>?_,fun g hg=>(hB' g hg).imp id (fun z=>Nat.le_trans HB3.size z)⟩
 ·rw [hn1];exact hyW.set 0 _
 ·show Grd _ 2 _ base B' (ks++[(⟨q,A2,c2,l⟩:KR)]).length d' ((ks++[(⟨q,A2,c2,l⟩:KR)]).map rowK)
  rw [hn1,List.map_append];exact hG.oth hox (fun g hg hm=>hyB (by rw [List.mem_singleton] at hm;rw [←hm];exact hg))
 ·rcases List.mem_append.1 hk with hk | hk
  ·exact (H.key k hk).offS hall hnob
  ·rw [List.mem_singleton.1 hk]
   have h3:=O2.below HW3;have hnw:=(H.grd.step HB3).nob (by decide);exact ((h3.offS hO hnw).offS hox (hyW.nob (by decide))).base_le (Nat.zero_le _)
 ·unfold rgK;rw [List.map_append];rfl
 ·rcases List.mem_append.1 hk with hk | hk
  ·exact .inl hk
  ·right
   rw [List.mem_singleton.1 hk];intro g hg;obtain ⟨a,ea,hga⟩:=AwQ hg;exact (World.ownsRow.lt O2 g (by show Value.ownBlock (.slice A2 16 c2)=some g;rw [show A2=some a from ea];exact congrArg some hga)).1
theorem EoY (base y:Nat) (B:YA) (d:Nat) (ks:List KR) (q:Int) (KA:YA) (m c:Nat) (l:YB) (w:World) (h:Rs base w y B d ks) (hn:ks.length≤16) (hk:RB w w.heap.size KA m l) (hbw:base≤w.heap.size) :
  Calls prog 72 #[.pointer (some ⟨y,0,none⟩),.int .i64 q,.slice KA m c] w fun e w'=>e=.returned (.int .i64 (AlJ (rgK ks) q l).2)∧RetRs base y B ks (AlJ (rgK ks) q l).1 w w':=by
 have H:=η h
 have HK:=η hk
 have hlen:=hk.len
 have HBW:=η hbw
 obtain ⟨n,HN⟩:∃ n,Hid (ks.length=n):=⟨_,η rfl⟩
 have HI:=η (AkY base y B d ks q w h (by omega))
 have hn2:n≤16:=by rw [←HN.o];exact hn
 have hc0:=h.c0
 rw [HN.o] at hc0
 clear h hk hbw hn
 by_cases q0:q<0
 ·have hq:isSq q=false:=by unfold isSq;exact decide_eq_false (by omega)
  have d0:decide (q<0)=true:=decide_eq_true q0;rw [BrX hq];clear hq;go_enter func72,ntmps72;go_wp2_with fail;go_ret;exact ⟨rfl,RetRs.same H.o (Below.refl _ _)⟩
 have d0:decide (q<0)=false:=decide_eq_false q0
 by_cases q1:q>127
 ·have hq:isSq q=false:=by unfold isSq;exact decide_eq_false (by omega)
  have d1:decide (q>127)=true:=decide_eq_true q1;rw [BrX hq];clear hq;go_enter func72,ntmps72;go_wp2_with fail;go_ret;exact ⟨rfl,RetRs.same H.o (Below.refl _ _)⟩
 have d1:decide (q>127)=false:=decide_eq_false q1
 have hs:isSq q=true:=by unfold isSq;exact decide_eq_true (by omega)
 by_cases hm:m=16
 ·subst hm
  cases hv:hasR (rgK ks) q
  ·rw [AxV hv] at HI
   by_cases hl:n=16
   ·rw [DaX hs hlen hv (by rw [BaQ,HN.o];exact hl)]
    subst hl;clear hs hv;go_enter func72,ntmps72;go_wp2_with fail;refine HI.o.mono ?_;rintro e w1 ⟨rfl,rfl⟩;go_wp2_with fail;go_ret;exact ⟨rfl,RetRs.same H.o (Below.refl _ _)⟩
   ·rw [DaY hs hlen hv (by rw [BaQ,HN.o];exact hl)]
    have hne:((n:Int) == 16)=false:=by rw [beq_eq_false_iff_ne];omega
    clear hs hv;go_enter func72,ntmps72;go_wp2_with fail;refine HI.o.mono ?_;rintro e w1 ⟨rfl,rfl⟩;go_wp2_with fail;have hca:=((AaK w (.cells #[] 5)).cell (p:=⟨y,0,none⟩) H.o.blk.lt).trans hc0;have O1:=η (OwnB.lit w w.heap.size [] #[] 0 rfl rfl (by unfold maxLen;omega) (Nat.le_refl _));have B1:=η (AaK w (.cells #[] 5))
    go_region_law (first
     | (refine DoW rfl (.tmp 34) (.tmp 35) rfl w.heap.size _ _ _ [] rfl (by first | exact O1.o | exact O1.o.drew) _ KA 16 c l rfl (by first | exact HK.o.step B1.o | exact (HK.o.step B1.o).drew) (by omega) (by first | exact B1.o.size | exact B1.o.drew.size) ?_;intro A2 c2 w2 ho hg hb;have B2:Hid (Below w.heap.size w w2):=η (by first | exact B1.o.trans hb | exact B1.o.drew.trans hb);have O2:Hid (OwnB w2 w.heap.size A2 (0+16) c2 l):=η (by have h:=ho;simp only [List.nil_append] at h;exact h);have hc2:=(B2.o.cell (p:=⟨y,0,none⟩) H.o.blk.lt).trans hc0;have hc3:=((AaK w2 (.cells #[Value.int .i64 q,.slice A2 (0+16) c2] 142)).cell (p:=⟨y,0,none⟩) (Nat.lt_of_lt_of_le H.o.blk.lt B2.o.size)).trans hc2;obtain ⟨B',d',W,hrun,hend,hcW,hfW⟩:=EoX base y B d ks q A2 c2 l w w2 n H.o HN.o (by omega) HBW.o B2.o O2.o;have HRUN:=η hrun;have HEND:=η hend;clear ho hg hb hrun hend)
     | (refine BlV rfl (.tmp 32) (.tmp 38) 100 rfl _ _ _ rfl rfl HRUN.o ?_))
    all_goals (go_wp2_with fail;go_ret;exact ⟨rfl,HEND.o⟩)
  ·rw [CjX hs hlen hv]
   obtain ⟨i,hi,_,_⟩:=CcW hv;rw [hi] at HI;have hge:decide ((i:Int)≥0)=true:=decide_eq_true (by omega);clear hs hv hi;go_enter func72,ntmps72;go_wp2_with fail;refine HI.o.mono ?_;rintro e w1 ⟨rfl,rfl⟩;go_wp2_with fail;go_ret;exact ⟨rfl,RetRs.same H.o (Below.refl _ _)⟩
 ·rw [DaW (by omega)]
  have hne:((m:Int) == 16)=false:=by rw [beq_eq_false_iff_ne];omega
  have hne2:((m:Int) != 16)=true:=by simp [bne,hne]
  clear hs;go_enter func72,ntmps72;go_wp2_with fail;go_ret;exact ⟨rfl,RetRs.same H.o (Below.refl _ _)⟩
theorem rret_end (base y:Nat) (B:YA) (d:Nat) (ks:List KR) (w:World) (n m i:Nat) (H:Rs base w y B d ks) (HN:ks.length=n) (hn:n≤1000) (hm:n=m+1) (hi:i<n) (HBW:base≤w.heap.size) :
  ∃ A1 c1 W1 A2 c2 W2,(∀ ty,(Builtin.append_ #[100,100] ty #[.slice (some ⟨w.heap.size,0,none⟩) 0 0,.slice B i d]).run prog (w.drew.alloc (.cells #[] 142))=.ok (.slice A1 i c1) W1)∧(∀ ty,(Builtin.append_ #[100,100] ty #[.slice A1 i c1,.slice (if d=i+1 then B else B.map (·.add ((i+1)*2))) (n - (i+1)) (d - (i+1))]).run prog W1=.ok (.slice A2 m c2) W2)∧W1.cell? ⟨y,0,none⟩=some (.slice B n d)∧W2.cell? ⟨y,0,none⟩=some (.slice B n d)∧W2.frozen? ⟨y,0,none⟩=false∧RetRs base y B ks ((rgK ks).eraseIdx i) w (W2.setCell ⟨y,0,none⟩ (.slice A2 m c2)):=by
 have hb0:Below w.heap.size w (w.drew.alloc (.cells #[] 142)):=(Below.refl _ _).drew.trans (AaK w.drew (.cells #[] 142))
 have hl0:Grd 142 2 (w.drew.alloc (.cells #[] 142)) w.heap.size (some ⟨w.heap.size,0,none⟩) 0 0 []:=Grd.lit0 _ 2 w.drew w.heap.size (Nat.le_refl _)
 have hr0:=H.grd.rd
 rw [HN] at hr0
 have hcap:=H.grd.cap
 rw [HN] at hcap
 obtain ⟨A1,c1,W1,hrun1,hG1,hO1,hA1⟩:=BvX DbQ 0 (d:=d) hl0 ((hr0.front (i:=i) (by omega)).step hb0) (by omega) (by omega) hb0.size
 rw [Nat.zero_add,List.nil_append] at hG1
 rw [Nat.zero_add] at hrun1
 have hb1:Below w.heap.size w W1:=hb0.trans (hO1.below (fun g hg=>(hl0.lt g hg).1) hb0.size)
 obtain ⟨A2,c2,W2,hrun2,hG2,hO2,hA2⟩:=BvX DbQ 0 (d:=d - (i+1)) hG1 ((hr0.back (i:=i+1) (c:=d) (by omega) hcap.1).step hb1) (by omega) (by omega) hb1.size
 rw [show i+(n - (i+1))=m by omega] at hrun2 hG2
 have hb2:Below w.heap.size w W2:=hb1.trans (hO2.below (fun g hg=>(hG1.lt g hg).1) hb1.size)
 have hy1:=H.blk.step hb1
 have hy2:=H.blk.step hb2
 refine ⟨A1,c1,W1,A2,c2,W2,fun ty=>by rw [DwW _ ty 0];exact hrun1,fun ty=>by rw [DwW _ ty 0];exact hrun2,by have h:=hy1.cell 0;rw [HN] at h;exact h,by have h:=hy2.cell 0;rw [HN] at h;exact h,hy2.free 0,?_⟩
 have hox:Oth [y] W2 (W2.setCell ⟨y,0,none⟩ (.slice A2 m c2)):=(Oth.refl [y] W2).set (by simp) 0 _
 have hall:Oth [y] w (W2.setCell ⟨y,0,none⟩ (.slice A2 m c2)):=(Oth.of_below hb2).trans hox
 have hl:(ks.eraseIdx i).length=m:=by rw [List.length_eraseIdx_of_lt (by omega),HN];omega
 have hyA:y∉blkO A2:=hG2.away hy2 (by decide)
 refine ⟨A2,c2,ks.eraseIdx i,⟨?_,?_,fun k hk=>(H.key k (List.mem_of_mem_eraseIdx hk)).offS hall (H.blk.nob (by decide)),H.low⟩,?_,hall.more (fun k hk=>by rw [List.mem_singleton.1 hk];exact .head _),fun k hk=>.inl (List.mem_of_mem_eraseIdx hk),fun g hg=>.inr (hG2.lt g hg).1⟩
 ·rw [hl];exact hy2.set 0 _
 ·show Grd _ 2 _ base A2 (ks.eraseIdx i).length c2 ((ks.eraseIdx i).map rowK)
  rw [hl,show (ks.eraseIdx i).map rowK=(ks.map rowK).take i++(ks.map rowK).drop (i+1) by simp only [List.eraseIdx_eq_take_drop_succ,List.map_append,List.map_take,List.map_drop]];exact (hG2.base_le HBW).oth hox (fun g hg hm=>hyA (by rw [List.mem_singleton] at hm;rw [←hm];exact hg))
 ·unfold rgK;simp only [List.eraseIdx_eq_take_drop_succ,List.map_append,List.map_take,List.map_drop]
theorem rret_any (base y:Nat) (B:YA) (d:Nat) (ks:List KR) (q:Int) (w:World) (h:Rs base w y B d ks) (hn:ks.length≤16) (hbw:base≤w.heap.size) :
  Calls prog 74 #[.pointer (some ⟨y,0,none⟩),.int .i64 q] w fun e w'=>e=.returned (.int .i64 (retR (rgK ks) q).2)∧RetRs base y B ks (retR (rgK ks) q).1 w w':=by
 have H:=η h
 have HBW:=η hbw
 obtain ⟨n,HN⟩:∃ n,Hid (ks.length=n):=⟨_,η rfl⟩
 have HI:=η (AkY base y B d ks q w h (by omega))
 have hn2:n≤16:=by rw [←HN.o];exact hn
 have hc0:=h.c0
 rw [HN.o] at hc0
 clear h hbw hn
 by_cases q0:q<0
 ·have hq:isSq q=false:=by unfold isSq;exact decide_eq_false (by omega)
  have d0:decide (q<0)=true:=decide_eq_true q0;rw [CbK hq];clear hq;go_enter func74,ntmps74;go_wp2_with fail;go_ret;exact ⟨rfl,RetRs.same H.o (Below.refl _ _)⟩
 have d0:decide (q<0)=false:=decide_eq_false q0
 by_cases q1:q>127
 ·have hq:isSq q=false:=by unfold isSq;exact decide_eq_false (by omega)
  have d1:decide (q>127)=true:=decide_eq_true q1;rw [CbK hq];clear hq;go_enter func74,ntmps74;go_wp2_with fail;go_ret;exact ⟨rfl,RetRs.same H.o (Below.refl _ _)⟩
 have d1:decide (q>127)=false:=decide_eq_false q1
 have hs:isSq q=true:=by unfold isSq;exact decide_eq_true (by omega)
 cases hv:hasR (rgK ks) q
 ·rw [AxV hv] at HI
  rw [DpV hs hv];clear hs hv;go_enter func74,ntmps74;go_wp2_with fail;refine HI.o.mono ?_;rintro e w1 ⟨rfl,rfl⟩;go_wp2_with fail;go_ret;exact ⟨rfl,RetRs.same H.o (Below.refl _ _)⟩
 ·obtain ⟨i,hi,hf,hl⟩:=CcW hv
  rw [hi] at HI;rw [DpW hs hf];rw [BaQ,HN.o] at hl;obtain ⟨m,HM⟩:∃ m,Hid (n=m+1):=⟨n - 1,η (by omega)⟩;have hlt:decide ((i:Int)<0)=false:=decide_eq_false (by omega);have hcap:=H.o.grd.cap;rw [HN.o] at hcap;have c24:=cutG_h DbQ (n:=n) (c:=d) (A:=B) (show i≤d by omega)
  have wi:IntKind.i64.wrap ((i:Int)+1)=((i+1:Nat):Int):=by
   rw [Int.natCast_add];exact IntWalk.i64_in _ (by omega)
  have c32:∀ W:World,(Instr.slice 100 (.slice B n d) (some (.int .i64 (IntKind.i64.wrap ((i:Int)+1)))) none none).run prog W=.ok (.slice (if d=i+1 then B else B.map (·.add ((i+1)*2))) (n - (i+1)) (d - (i+1))) W:=by
   rw [wi];exact cutG_l DbQ (n:=n) (c:=d) (A:=B) (show i+1≤n by omega)
  obtain ⟨A1,c1,W1,A2,c2,W2,h1,h2,hc1,hc2,hf2,hend⟩:=rret_end base y B d ks w n m i H.o HN.o (by omega) HM.o hl HBW.o;generalize (if d=i+1 then B else B.map (·.add ((i+1)*2)))=X at c32 h2;generalize n - (i+1)=M at c32 h2;generalize d - (i+1)=D at c32 h2;have H1:=η h1;have H2:=η h2;have HEND:=η hend;have hca:=((AaK w (.cells #[] 142)).cell (p:=⟨y,0,none⟩) H.o.blk.lt).trans hc0;clear hs hv hi hf h1 h2 hend hcap wi;go_enter func74,ntmps74;go_wp2_with fail;refine HI.o.mono ?_;rintro e w1 ⟨rfl,rfl⟩;go_wp2_with fail
  go_region_law (first
   | (refine BlV rfl (.tmp 18) (.tmp 24) 100 rfl _ _ _ rfl rfl H1.o ?_)
   | (refine BlV rfl (.tmp 25) (.tmp 32) 100 rfl _ _ _ rfl rfl H2.o ?_))
  all_goals (go_wp2_with fail;go_ret;exact ⟨rfl,HEND.o⟩)
