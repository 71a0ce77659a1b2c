import Derived.Test.YthppjgdnibfefaaGreatGcmAll
set_option linter.all false
set_option maxRecDepth 100000
set_option maxHeartbeats 32000000
namespace Go.Proofs.YthppjgdnibfefaaGreat
def zr16:List UInt8:=List.replicate 16 0
def zr12:List UInt8:=List.replicate 12 0
def e1L:List UInt8:=[0x58,0xe2,0xfc,0xce,0xfa,0x7e,0x30,0x61,0x36,0x7f,0x1d,0x57,0xa4,0xe7,0x45,0x5a]
def tgL:List UInt8:=[0xab,0x6e,0x47,0xd4,0x2c,0xec,0x13,0xbd,0xf5,0x3a,0x67,0xb2,0x12,0x57,0xbd,0xdf]
def tg1L:List UInt8:=[0xb6,0x90,0xd3,0x4d,0xcd,0x5a,0xf3,0x0c,0xa2,0x9b,0x1b,0x5c,0xa5,0x7e,0x85,0x44]
def wantG:List UInt8:=textL++tgL
theorem EyX:(encL zr16 tableL zr16,encL zr16 tableL (fstL zr12),ApQ zr16 (aftL (fstL zr12) 1) 16)=(keyL,e1L,textL):=by decide +kernel
theorem hk_shown:hkL zr16=keyL:=by
 have h:=congrArg (fun r=>r.1) EyX
 unfold hkL
 exact h
attribute [local irreducible] wsW AeW keyF ArX AvQ AiY BoJ aftL encL tableL AoQ blkL ApQ putL numL xorL AlZ fstL hkL tagL trnL bB sumG nB ApW AmK tagR
open Go.RowKit
attribute [local irreducible] zr16 zr12 wantG textL tgL keyL e1L tg1L
def RetU (p:BP) (n f N:Nat) (L:YB) (E:Int) (w:World) (e:Ending) (w':World):Prop :=
 ∃ A c,e=.returned (.tuple #[.slice A N c,.int .i64 E])∧OwnB w' w.heap.size A N c L∧Off p.S w w'∧Bz p n f w'
theorem RetO.to {p:BP} {n f:Nat} {R:List UInt8×Int} {w w':World} {e:Ending} (h:RetO p n f R w e w') (f2 N:Nat) (L:YB) (E:Int) (hf:f=f2) (hR:R=(L,E)) (hN:L.length=N):RetU p n f2 N L E w e w':=by
 subst hf
 subst hN
 subst hR
 exact h
theorem RetQ.to {R:List UInt8×Int} {w w':World} {e:Ending} (h:RetQ R w e w') (N:Nat) (L:YB) (E:Int) (hR:R=(L,E)) (hN:L.length=N):AhW N L E w e w':=by
 subst hN
 subst hR
 exact h
structure KG (v:World) (p:BP) (n f:Nat) (rows:List (Option Addr×Nat×List UInt8)) (w:World):Prop where
 bel:Below v.heap.size v w
 low:∀ y∈p.S,v.heap.size≤y
 box:Bz p n f w
 row:∀ r∈rows,RB w w.heap.size r.1 r.2.1 r.2.2∧(0<r.2.1→AwayS r.1 p.S)
section
variable {v w w':World} {p:BP} {n f n' f' N c:Nat} {rows:List (Option Addr×Nat×List UInt8)} {A:YA} {l L:YB} {E:Int} {e:Ending}
theorem KG.off (h:KG v p n f rows w) (hf:Off p.S w w') (hx:Bz p n' f' w'):KG v p n' f' rows w' :=
 ⟨h.bel.trans (hf.below h.low h.bel.size),h.low,hx,fun r hr=>⟨(h.row r hr).1.off hf (h.row r hr).2,(h.row r hr).2⟩⟩
theorem KG.push (h:KG v p n f rows w) (hr:RB w w.heap.size A N l) (ha:0<N→AwayS A p.S):KG v p n f ((A,N,l)::rows) w :=
 ⟨h.bel,h.low,h.box,fun r hm=>by
  rcases List.mem_cons.1 hm with rfl | hm
  ·exact ⟨hr,ha⟩
  ·exact h.row r hm⟩
theorem KG.start {key:YB} (hb:Below v.heap.size v w) (hx:RetX key w e w'):∃ p:BP,e=.returned (.tuple #[.pointer (some ⟨p.x,0,none⟩),.int .i64 0])∧p.key=key∧KG v p 1 0 [] w':=by
 obtain ⟨p,he,hk,hb2,hs,hx⟩:=hx
 exact ⟨p,he,hk,AaJ hb hb2,fun y hy=>Nat.le_trans hb.size (hs y hy),hx,fun r hr=>absurd hr (by simp)⟩
theorem KG.arg (h:KG v p n f rows w) (hr:RB v v.heap.size A N l):KG v p n f ((A,N,l)::rows) w:=h.push (hr.step h.bel) (hr.afar h.low)
end
