/- The reference of layer 4 (poly): rows of 128 coefficients as values; sums. No conditions. -/
import Derived.Test.YthppjgdnibfefaaGreatMemAll
import Derived.Deep.RegionWith
import Derived.Laws.Tables
import Derived.Test.YthppjgdnibfefaaGreatBase
import Derived.ChangeKeysEq
import Derived.Laws.StructEq
set_option linter.unusedVariables false
set_option linter.unusedSimpArgs false
set_option maxRecDepth 100000
set_option maxHeartbeats 32000000
namespace Go.Proofs.YthppjgdnibfefaaGreat
open Go.RowKit
def zP:List Bool:=List.replicate 128 false
def RetT (l:List Bool) (w:World) (e:Ending) (w':World):Prop:=e=.returned (BV l)∧Below w.heap.size w w'
section
variable {w:World} {ops:Array Oper} {rest:List Oper} {o:Oper} {a:Act} {Q:Exit→Act→World→Prop}
end
def upT (r l:List Bool) (k:Nat):List Bool:=r.take k++l.drop k
theorem Br.new1 (w:World) (n:Nat) (hn:n=w.heap.size) (l:List Bool) (T:TypeId):Br (w.alloc (.cells (tvs l).toArray T)) n 0 l:=by rw [hn];exact Br.new w l T
def V3 (l m z:List Bool) (T:TypeId) (w:World):World:=((w.alloc (.cells (tvs l).toArray T)).alloc (.cells (tvs m).toArray T)).alloc (.cells (tvs z).toArray T)
def V2 (l z:List Bool) (T:TypeId) (w:World):World:=(w.alloc (.cells (tvs l).toArray T)).alloc (.cells (tvs z).toArray T)
def addT (a b:List Bool):List Bool:=List.zipWith (· != ·) a b
end Go.Proofs.YthppjgdnibfefaaGreat
namespace Go.Proofs.YthppjgdnibfefaaGreat
open Go.RowKit
def bitOf (l:List UInt8) (i:Nat):Bool:=decide ((l.getD (i / 8) 0).toNat / 2 ^ (7 - i % 8) % 2=1)
def bitsOf (l:List UInt8):List Bool:=(List.range 128).map (bitOf l)
end Go.Proofs.YthppjgdnibfefaaGreat
namespace Go.Proofs.YthppjgdnibfefaaGreat
open Go.RowKit
def topB (x:UInt8) (t:Nat):UInt8:=UInt8.ofNat (x.toNat / 2 ^ (8 - t)*2 ^ (8 - t))
def outK (l:List UInt8) (k:Nat):List UInt8:=(List.range 16).map fun q=>topB (l.getD q 0) (min 8 (k - 8*q))
end Go.Proofs.YthppjgdnibfefaaGreat
namespace Go.Proofs.YthppjgdnibfefaaGreat
def gNext (a:Nat):Nat:=(a / 2) ^^^ (a % 2*299076299051606071403356588563077529600)
def gIter (a:Nat):Nat→Nat | 0=>a | k+1=>gNext (gIter a k)
def gBit (a k:Nat):Nat:=a / 2 ^ (127 - k) % 2
def gUp (a b:Nat):Nat→Nat | 0=>0 | k+1=>gUp a b k ^^^ (gBit b k*gIter a k)
def gMul (a b:Nat):Nat:=gUp a b 128
def gOne:Nat:=2 ^ 127
def gE (k:Nat):Nat:=2 ^ (127 - k)
theorem bit01 (n:Nat):n % 2=0∨n % 2=1:=Nat.mod_two_eq_zero_or_one n
theorem xor4 (p q s t:Nat):(p ^^^ q) ^^^ (s ^^^ t)=(p ^^^ s) ^^^ (q ^^^ t):=by
 rw [Nat.xor_assoc,Nat.xor_assoc,←Nat.xor_assoc q s t,Nat.xor_comm q s,Nat.xor_assoc s q t]
theorem half_xor (a b:Nat):(a ^^^ b) / 2=a / 2 ^^^ b / 2:=by
 have h2:∀ n:Nat,n / 2=n >>> 1:=fun n=>by simp [Nat.shiftRight_eq_div_pow]
 rw [h2,h2,h2,Nat.shiftRight_xor_distrib]
theorem odd_xor (a b:Nat):(a ^^^ b) % 2=(a % 2+b % 2) % 2:=by
 have h1:=Nat.xor_mod_two_pow (a:=a) (b:=b) (n:=1)
 rw [Nat.pow_one] at h1
 rw [h1]
 rcases bit01 a with e | e <;> rcases bit01 b with e' | e' <;> rw [e,e'] <;> rfl
theorem gBit01 (a k:Nat):gBit a k=0∨gBit a k=1:=bit01 _
theorem bits_mul (x y v:Nat) (hx:x=0∨x=1) (hy:y=0∨y=1):(x+y) % 2*v=x*v ^^^ y*v:=by
 rcases hx with rfl | rfl <;> rcases hy with rfl | rfl <;> simp
theorem bit_mul (c v w:Nat) (hc:c=0∨c=1):c*(v ^^^ w)=c*v ^^^ c*w:=by rcases hc with rfl | rfl <;> simp
theorem gNext_xor (a b:Nat):gNext (a ^^^ b)=gNext a ^^^ gNext b:=by
 unfold gNext
 rw [half_xor,odd_xor,bits_mul _ _ _ (bit01 a) (bit01 b),xor4]
theorem gNext_zero:gNext 0=0:=by decide
theorem gNext_bit (c a:Nat) (hc:c=0∨c=1):gNext (c*a)=c*gNext a:=by
 rcases hc with rfl | rfl
 ·rw [Nat.zero_mul,Nat.zero_mul,gNext_zero]
 ·rw [Nat.one_mul,Nat.one_mul]
theorem gIter_xor (a b:Nat):∀ k,gIter (a ^^^ b) k=gIter a k ^^^ gIter b k
 | 0=>rfl
 | k+1=>by rw [gIter,gIter_xor a b k,gNext_xor];rfl
theorem gIter_next (a:Nat):∀ k,gIter (gNext a) k=gNext (gIter a k)
 | 0=>rfl
 | k+1=>by rw [gIter,gIter_next a k];rfl
theorem gIter_zero:∀ k,gIter 0 k=0
 | 0=>rfl
 | k+1=>by rw [gIter,gIter_zero k,gNext_zero]
theorem gUp_left (a a' b:Nat):∀ k,gUp (a ^^^ a') b k=gUp a b k ^^^ gUp a' b k
 | 0=>by simp [gUp]
 | k+1=>by rw [gUp,gUp,gUp,gUp_left a a' b k,gIter_xor,bit_mul _ _ _ (gBit01 b k),xor4]
theorem gUp_next (a b:Nat):∀ k,gUp (gNext a) b k=gNext (gUp a b k)
 | 0=>by rw [gUp,gUp,gNext_zero]
 | k+1=>by rw [gUp,gUp,gUp_next a b k,gNext_xor,gNext_bit _ _ (gBit01 b k),gIter_next]
theorem gUp_zero (b:Nat):∀ k,gUp 0 b k=0
 | 0=>rfl
 | k+1=>by rw [gUp,gUp_zero b k,gIter_zero];simp
theorem gMul_left (a a' b:Nat):gMul (a ^^^ a') b=gMul a b ^^^ gMul a' b:=gUp_left a a' b 128
theorem gMul_next (a b:Nat):gMul (gNext a) b=gNext (gMul a b):=gUp_next a b 128
theorem gMul_iter (a b:Nat):∀ k,gMul (gIter a k) b=gIter (gMul a b) k
 | 0=>rfl
 | k+1=>by rw [gIter,gMul_next,gMul_iter a b k];rfl
theorem gMul_zero' (b:Nat):gMul 0 b=0:=gUp_zero b 128
theorem gNext_lt (a:Nat) (h:a<2 ^ 128):gNext a<2 ^ 128:=by
 unfold gNext
 refine Nat.xor_lt_two_pow ?_ ?_
 ·omega
 ·rcases bit01 a with e | e <;> rw [e] <;> decide
theorem gIter_lt (a:Nat) (h:a<2 ^ 128):∀ k,gIter a k<2 ^ 128
 | 0=>h
 | k+1=>gNext_lt _ (gIter_lt a h k)
theorem bit_lt (c v n:Nat) (hc:c=0∨c=1) (h:v<n):c*v<n:=by rcases hc with rfl | rfl <;> omega
theorem gUp_lt (a b:Nat) (h:a<2 ^ 128):∀ k,gUp a b k<2 ^ 128
 | 0=>by rw [gUp];decide
 | k+1=>Nat.xor_lt_two_pow (gUp_lt a b h k) (bit_lt _ _ _ (gBit01 b k) (gIter_lt a h k))
theorem gMul_lt (a b:Nat) (h:a<2 ^ 128):gMul a b<2 ^ 128:=gUp_lt a b h 128
theorem gE_next (k:Nat) (hk:k<127):gNext (gE k)=gE (k+1):=by
 unfold gNext gE
 obtain ⟨m,hm⟩:∃ m,127 - k=m+1:=⟨126 - k,by omega⟩
 rw [hm,show 127 - (k+1)=m by omega,Nat.pow_succ,Nat.mul_mod_left,Nat.mul_div_cancel _ (by omega)]
 simp
theorem gE_iter:∀ k,k<128→gIter gOne k=gE k
 | 0,_=>rfl
 | k+1,h=>by rw [gIter,gE_iter k (by omega),gE_next k (by omega)]
theorem gTop (b:Nat) (hb:b<2 ^ 128):∀ k,k≤128→gUp gOne b k=b / 2 ^ (128 - k)*2 ^ (128 - k)
 | 0,_=>by rw [gUp,Nat.div_eq_of_lt hb,Nat.zero_mul]
 | k+1,h=>by
  rw [gUp,gTop b hb k (by omega),gE_iter k (by omega)]
  unfold gBit gE
  obtain ⟨m,hm⟩:∃ m,127 - k=m:=⟨_,rfl⟩
  rw [hm,show 128 - k=m+1 by omega,show 128 - (k+1)=m by omega]
  have h1:b / 2 ^ (m+1)=b / 2 ^ m / 2:=by rw [Nat.pow_succ,Nat.div_div_eq_div_mul]
  rw [h1]
  obtain ⟨q,hq⟩:∃ q,b / 2 ^ m=q:=⟨_,rfl⟩
  rw [hq,Nat.pow_succ,Nat.mul_comm (2 ^ m) 2,←Nat.mul_assoc]
  rw [←Nat.shiftLeft_eq,←Nat.shiftLeft_eq,←Nat.shiftLeft_eq,←Nat.shiftLeft_xor_distrib]
  congr 1
  have h3:q / 2*2 ^^^ q % 2=q:=by
   have h4:=Nat.two_pow_add_eq_or_of_lt (i:=1) (b:=q % 2) (by omega) (q / 2)
   apply Nat.eq_of_testBit_eq
   intro i
   rw [Nat.testBit_xor]
   cases i with
   | zero=>simp [Nat.testBit_zero]
   | succ i =>
    rw [Nat.testBit_succ,Nat.testBit_succ,Nat.testBit_succ,Nat.mul_div_cancel _ (by omega),show q % 2 / 2=0 by omega]
    simp
  exact h3
theorem gMul_one' (b:Nat) (hb:b<2 ^ 128):gMul gOne b=b:=by
 unfold gMul
 rw [gTop b hb 128 (Nat.le_refl _)]
 simp
end Go.Proofs.YthppjgdnibfefaaGreat
namespace Go.Proofs.YthppjgdnibfefaaGreat
def gPow (a:Nat):Nat→Nat | 0=>gOne | n+1=>gMul (gPow a n) a
def gSq (a:Nat):Nat:=gMul a a
def gSqs (a:Nat):Nat→Nat | 0=>a | k+1=>gSq (gSqs a k)
def gLoop (b:Nat):Nat→Nat→Nat→Nat | 0,a,acc=>acc | k+1,a,acc=>gLoop b k (gNext a) (acc ^^^ (b / 2 ^ k % 2*a))
def gSqF (a:Nat):Nat:=gLoop a 128 a 0
def gSqsF (a:Nat):Nat→Nat | 0=>a | k+1=>gSqF (gSqsF a k)
def gLin (a:Nat):List Nat→Nat→Nat | [],_=>0 | v::l,k=>(gBit a k*v) ^^^ gLin a l (k+1)
def gUndo:List Nat:=[22349210433241643211303706255459310228,42781086895802961305837899807692839847,127851678626037577171681551665634892711,64161864867486123575827494532326627698,85316382760920269238759725736663866279,114910088095513088234682618273958557012,42894216934927469609366581567841114482,32564043359013102798989312672802603315,95950206727199596221990182218906622887,46326064391129892899928697286047832434,109593176112373424743067390032837178708,142223934881672753734463413618344281941,45552672926497301355174195688401803634,94354540392079830942767997527157175399,33893271354798018671893119733082947891,133492860460135582475628106552095754965,96614820725092054158442085749046795175,123504943270841248069084356367027567956,45993757392183663931702745520977746290,84108166368187411435240813705953482624,109427022612900310258954414150302135636,65334698174074460006561831602428846656,142140858131936196492406925677076760405,26944648382676130012539518143993095923,45594211301365579976202439659035564402,34751615226583747878589791662865156403,94333771204645691632253875541840295015,58594332839845026287895736368243621554,33882886761080949016636058740424507699,49689517202507746048320574050840187699,133487668163277047647999576055766534869,87518597506017800282691648887090017190,96617416873521321572256350997211405223,123492369287794167071922631989304127700,123506241345055881775991488991109872980,88394181544543220452557894239097387942,45994406429290980785156311833018898802,49921000057622566873658450198655872755,84108490886741069861967596861974058880,35809052500604244266195401481916326771,109427184872177139472317805728312423764,79569572989071969373811419141996187585,65334779303712874613243527391433990720,4726979706471076424241489524707209152,142140898696755403795747773571579332437,58275656592714443450777541729474286387,26944628100266526360869094196741809907,140308235276560358896028355552301283989,45594221442570381802037651632661207410,44935323831971706514111515550899780402,34751610155981346965672185676052334899,115575792119390803779456185938199600469,94333773739946892088712678535246705767,159324042485362573657552647614603385767,58594334107495626516125137864946826930,153238470225796900814681174335121648678,33882886127255648902521357992072905011,59792954277794325190837842541115644722,49689517519420396105377924425015989043,72978216601350599591347508359916847681,133487668004820722619470900868678634197,163309321578052146805450802438263305319,87518597585245962796955986480633967526,6161591008139076220601646446843146177,96617416833907240315124182200439430055,67288019353279926038130604499846823936,123492369307601207700488716387690115284,72992884249465865451566362034747193217,123506241354959402090274531190302866772,93226277353508642900164249188457535015,88394181539591460295416373139500891046,6116654749483988959971426010360459777,45994406431766860863727072382817147250,113870918609522322281985099445019275925,49921000058860506912943830473554996979,161537358671016203777973217828391545831,84108490886122099842324906724524496768,63089105448741488643398279942380763954,35809052500294759256374056413191545715,96504253903287235160744645914913229863,109427184872331881977228478262674814292,9537274821874957483351388617584152641,79569572988994598121356082874814992321,122557457634345817322758110469731963540,65334779303751560239471195525024588352,161542955870533464563010084267448332775,4726979706490419237355323591502507968,53639910565545342273528145980335791795,142140898696765075202304690604976981845,51613027339492204128265575524803459891,58275656592719279154056000246173111091,81071795988965022717357904530596407232,26944628100264108509229864938392397555,92325303522414418149753570460923091879,140308235276559149970208740923126577813,100983558286137050684044238585428660711,45594221442569777339127844318073854322,132003651752985294974180122299820886164,44935323831972008745566419208193456946,100972845268357601278728964017462078439,34751610155981195849944733847405496627,133436244703473040169882794575366898389,115575792119390728221592460023876181333,161752945482599484730126084874801441767,94333773739946854309780815578084996199,149021274876537960721224429182834492454,159324042485362592547018579093184240551,5725366257701666555538562805218717057,58594334107495617071392172125656399538,127777348636302309636952298273557535380,153238470225796905537047657204766862374,133385434108064708788808215410435911893,33882886127255646541338116557250298163,275464514806027128612938827324864,59792954277794326371429463258526948146,12764899024296983899235621676887115841,49689517519420395515082114066310337331,126976600203468727039316187211004055892,72978216601350599296199603180564021825,108887185710678174598840578861931466132,133487668004820722767044853458355047125,126814247099887467207929949960147586332,163309321578052146879237778733101511783,72921817864677867521778898634038080609,87518597585245962833849474628053070758,71430717218983613641036104277415506289,6161591008139076202154902373133594561,0]
def gBack (a:Nat):Nat:=gLin a gUndo 0
def gFree (a:Nat):Nat:=a ^^^ (gBit a 0*gOne)
def gProd (a:Nat):Nat→Nat | 0=>gOne | k+1=>gMul (gProd a k) (gSqs a k)
def gInv (a:Nat):Nat:=gProd (gSq a) 127
end Go.Proofs.YthppjgdnibfefaaGreat
namespace Go.Proofs.YthppjgdnibfefaaGreat
def gVal (F:Nat→Bool):Nat→Nat | 0=>0 | n+1=>gVal F n ^^^ (if F n then gIter gOne n else 0)
def cvF (A B:Nat→Bool):Nat→Nat→Bool | 0,_=>false | i+1,p=>cvF A B i p != (A i && (decide (i≤p) && (decide (p<i+128) && B (p - i))))
def modE (k p:Nat):Bool:=(p == k) != ((p == k - 128) != ((p == k - 127) != ((p == k - 126) != (p == k - 121))))
def rdF (F:Nat→Bool) (k p:Nat):Bool:=F p != (F k && modE k p)
def rdUp (F:Nat→Bool):Nat→Nat→Bool | 0=>F | m+1=>rdF (rdUp F m) (254 - m)
def coF (x p:Nat):Bool:=gBit x p == 1
end Go.Proofs.YthppjgdnibfefaaGreat
namespace Go.Proofs.YthppjgdnibfefaaGreat
open Go.RowKit
def fl (n:Nat) (F:Nat→Bool):List Bool:=(List.range n).map F
theorem fl_len (n:Nat) (F:Nat→Bool):(fl n F).length=n:=by simp [fl]
theorem fl_at (n:Nat) (F:Nat→Bool) (p:Nat) (hp:p<n):(fl n F)[p]?=some (F p):=by simp [fl,hp]
def upB (F:Nat→Bool) (k:Nat) (v:Bool) (p:Nat):Bool:=if p=k then v else F p
theorem fl_set (n:Nat) (F:Nat→Bool) (k:Nat) (v:Bool) (hk:k<n):(fl n F).set k v=fl n (upB F k v):=by
 apply List.ext_getElem?
 intro j
 rw [List.getElem?_set,fl_len]
 by_cases hj:j<n
 ·rw [fl_at n _ j hj,fl_at n _ j hj]
  unfold upB
  by_cases e:k=j
  ·subst e;rw [if_pos rfl,if_pos hj,if_pos rfl]
  ·rw [if_neg e,if_neg (fun h=>e h.symm)]
 ·rw [List.getElem?_eq_none (by rw [fl_len];omega),List.getElem?_eq_none (by rw [fl_len];omega)]
  by_cases e:k=j
  ·omega
  ·rw [if_neg e]
theorem Br.put {w:World} {g n:Nat} {F:Nat→Bool} (h:Br w g 0 (fl n F)) (k:Nat) (v:Bool) (hk:k<n):Br (w.setCell ⟨g,k,none⟩ (.bool v)) g 0 (fl n (upB F k v)):=by
 have h1:=h.set (k:=k) (by rw [fl_len];exact hk) v
 rw [fl_set n F k v hk,Nat.zero_add] at h1
 exact h1
def zN:List Bool:=List.replicate 255 false
def cvI (A B:Nat→Bool) (i k p:Nat):Bool:=if i≤p∧p<i+k then cvF A B i p != B (p - i) else cvF A B i p
attribute [local irreducible] cvF rdUp rdF cvI
end Go.Proofs.YthppjgdnibfefaaGreat
namespace Go.Proofs.YthppjgdnibfefaaGreat
open Go.RowKit
def co (x:Nat):List Bool:=fl 128 (coF x)
attribute [local irreducible] co gMul gPow
end Go.Proofs.YthppjgdnibfefaaGreat
namespace Go.Proofs.YthppjgdnibfefaaGreat
open Go.RowKit
def wB (x k:Nat):List UInt8:=(List.range k).map fun q=>UInt8.ofNat (x / 2 ^ (56 - 8*q))
theorem wB_len (x k:Nat):(wB x k).length=k:=by simp [wB]
def eB (h l:Nat):List UInt8:=wB h 8++wB l 8
theorem eB_len (h l:Nat):(eB h l).length=16:=by simp [eB,wB_len]
def EV (h l:Nat):Value:=.agg #[.int .u64 (h:Int),.int .u64 (l:Int)]
attribute [local irreducible] co wB eB bitsOf
end Go.Proofs.YthppjgdnibfefaaGreat
namespace Go.Proofs.YthppjgdnibfefaaGreat
open Go.RowKit
end Go.Proofs.YthppjgdnibfefaaGreat
namespace Go.Proofs.YthppjgdnibfefaaGreat
def hl (h l:Nat):Nat:=h*2 ^ 64+l
theorem hl_lt (h l:Nat) (hh:h<2 ^ 64) (hl':l<2 ^ 64):hl h l<2 ^ 128:=by unfold hl;omega
theorem hl_inj (h l h' l':Nat) (h1:l<2 ^ 64) (h2:l'<2 ^ 64) (e:hl h l=hl h' l'):h=h'∧l=l':=by unfold hl at e;omega
theorem hl_xor (h l h' l':Nat) (h1:l<2 ^ 64) (h2:l'<2 ^ 64):hl h l ^^^ hl h' l'=hl (h ^^^ h') (l ^^^ l'):=by
 have h3:l ^^^ l'<2 ^ 64:=Nat.xor_lt_two_pow h1 h2
 unfold hl
 rw [Nat.mul_comm h,Nat.mul_comm h',Nat.mul_comm (h ^^^ h')]
 apply Nat.eq_of_testBit_eq
 intro j
 rw [Nat.testBit_xor,Nat.testBit_two_pow_mul_add _ h1,Nat.testBit_two_pow_mul_add _ h2,Nat.testBit_two_pow_mul_add _ h3]
 by_cases hj:j<64
 ·rw [if_pos hj,if_pos hj,if_pos hj,Nat.testBit_xor]
 ·rw [if_neg hj,if_neg hj,if_neg hj,Nat.testBit_xor]
theorem hl_next (h l:Nat) (h2:l<2 ^ 64):gNext (hl h l)=hl (h / 2 ^^^ (l % 2*16212958658533785600)) (h % 2*2 ^ 63+l / 2):=by
 unfold gNext
 have e1:hl h l / 2=hl (h / 2) (h % 2*2 ^ 63+l / 2):=by unfold hl;omega
 have e2:hl h l % 2*299076299051606071403356588563077529600=hl (l % 2*16212958658533785600) 0:=by unfold hl;omega
 rw [e1,e2,hl_xor _ _ _ _ (by omega) (by omega),Nat.xor_zero]
def gSum:List Nat→Nat→Nat | [],s=>s | x::l,s=>gSum l (s ^^^ x)
theorem gSum_snoc (l:List Nat) (x:Nat):∀ s,gSum (l++[x]) s=gSum l s ^^^ x:=by
 induction l with
 | nil=>intro s;rfl
 | cons y l ih=>intro s;exact ih (s ^^^ y)
end Go.Proofs.YthppjgdnibfefaaGreat
