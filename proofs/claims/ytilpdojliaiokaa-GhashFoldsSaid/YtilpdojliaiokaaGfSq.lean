/- The field with 2^128 elements: powers, squares; squared 128 times an element is as it was; each but 0 has an inverse. Conditions: numbers below 2^128. Nothing is claimed of the program here. -/
import Derived.Test.YtilpdojliaiokaaGf
namespace Go.Proofs.Ytilpdojliaiokaa
set_option linter.unusedVariables false

/-- a, multiplied with itself n times. -/
def gPow (a : Nat) : Nat → Nat | 0 => gOne | n + 1 => gMul (gPow a n) a
def gSq (a : Nat) : Nat := gMul a a
/-- Squared k times. -/
def gSqs (a : Nat) : Nat → Nat | 0 => a | k + 1 => gSq (gSqs a k)
theorem gOne_lt : gOne < 2 ^ 128 := by decide
theorem gPow_lt (a : Nat) (ha : a < 2 ^ 128) : ∀ n, gPow a n < 2 ^ 128
  | 0 => gOne_lt
  | n + 1 => gMul_lt _ _ (gPow_lt a ha n)
theorem gSq_lt (a : Nat) (ha : a < 2 ^ 128) : gSq a < 2 ^ 128 := gMul_lt a a ha
theorem gSqs_lt (a : Nat) (ha : a < 2 ^ 128) : ∀ k, gSqs a k < 2 ^ 128
  | 0 => ha
  | k + 1 => gSq_lt _ (gSqs_lt a ha k)
theorem gPow_succ (a n : Nat) : gPow a (n + 1) = gMul (gPow a n) a := rfl
theorem gPow_one (a : Nat) (ha : a < 2 ^ 128) : gPow a 1 = a := gMul_one' a ha
theorem gPow_add (a m : Nat) (ha : a < 2 ^ 128) : ∀ n, gPow a (m + n) = gMul (gPow a m) (gPow a n)
  | 0 => (gMul_one _ (gPow_lt a ha m)).symm
  | n + 1 => by rw [← Nat.add_assoc, gPow_succ, gPow_add a m ha n, gMul_assoc _ _ _ (gPow_lt a ha m) (gPow_lt a ha n)]; rfl
theorem gPow_mul (a m : Nat) (ha : a < 2 ^ 128) : ∀ n, gPow (gPow a m) n = gPow a (m * n)
  | 0 => rfl
  | n + 1 => by rw [gPow_succ, gPow_mul a m ha n, Nat.mul_succ, gPow_add a _ ha m]
theorem gPow_two (a : Nat) (ha : a < 2 ^ 128) : gPow a 2 = gSq a := by rw [show (2 : Nat) = 1 + 1 from rfl, gPow_add a 1 ha 1, gPow_one a ha]; rfl
theorem gPow_half (a : Nat) (ha : a < 2 ^ 128) (n : Nat) : gPow a n = gMul (gPow a (n % 2)) (gPow (gSq a) (n / 2)) := by
  rw [← gPow_two a ha, gPow_mul a 2 ha, ← gPow_add a _ ha, Nat.add_comm, Nat.div_add_mod]
theorem xor_mid (p q s : Nat) : (p ^^^ q) ^^^ (q ^^^ s) = p ^^^ s := by
  rw [Nat.xor_assoc, ← Nat.xor_assoc q q s, Nat.xor_self, Nat.zero_xor]
theorem gSq_xor (a b : Nat) (ha : a < 2 ^ 128) (hb : b < 2 ^ 128) : gSq (a ^^^ b) = gSq a ^^^ gSq b := by
  unfold gSq
  rw [gMul_left, gMul_right, gMul_right, gMul_comm b a hb ha, xor_mid]
theorem mul4 (a b c d : Nat) (ha : a < 2 ^ 128) (hb : b < 2 ^ 128) (hc : c < 2 ^ 128) : gMul (gMul a b) (gMul c d) = gMul (gMul a c) (gMul b d) := by
  rw [gMul_assoc a b _ ha hb, ← gMul_assoc b c d hb hc, gMul_comm b c hb hc, gMul_assoc c b d hc hb, ← gMul_assoc a c _ ha hc]
theorem gSq_mul (a b : Nat) (ha : a < 2 ^ 128) (hb : b < 2 ^ 128) : gSq (gMul a b) = gMul (gSq a) (gSq b) := mul4 a b a b ha hb ha
theorem gSqs_xor (a b : Nat) (ha : a < 2 ^ 128) (hb : b < 2 ^ 128) : ∀ k, gSqs (a ^^^ b) k = gSqs a k ^^^ gSqs b k
  | 0 => rfl
  | k + 1 => by rw [gSqs, gSqs_xor a b ha hb k, gSq_xor _ _ (gSqs_lt a ha k) (gSqs_lt b hb k)]; rfl
theorem gSqs_mul (a b : Nat) (ha : a < 2 ^ 128) (hb : b < 2 ^ 128) : ∀ k, gSqs (gMul a b) k = gMul (gSqs a k) (gSqs b k)
  | 0 => rfl
  | k + 1 => by rw [gSqs, gSqs_mul a b ha hb k, gSq_mul _ _ (gSqs_lt a ha k) (gSqs_lt b hb k)]; rfl
theorem gSq_zero : gSq 0 = 0 := gMul_zero' 0
theorem gSqs_zero : ∀ k, gSqs 0 k = 0
  | 0 => rfl
  | k + 1 => by rw [gSqs, gSqs_zero k, gSq_zero]
theorem gSqs_bit (c a : Nat) (hc : c = 0 ∨ c = 1) (k : Nat) : gSqs (c * a) k = c * gSqs a k := by
  rcases hc with rfl | rfl
  · rw [Nat.zero_mul, Nat.zero_mul, gSqs_zero]
  · rw [Nat.one_mul, Nat.one_mul]
theorem gSq_one : gSq gOne = gOne := gMul_one gOne gOne_lt
theorem gSqs_one : ∀ k, gSqs gOne k = gOne
  | 0 => rfl
  | k + 1 => by rw [gSqs, gSqs_one k, gSq_one]
theorem gSqs_one_more (a : Nat) : ∀ k, gSqs (gSq a) k = gSq (gSqs a k)
  | 0 => rfl
  | k + 1 => by rw [gSqs, gSqs_one_more a k]; rfl

/-- The product, for the kernel: k rounds are still to be done. -/
def gLoop (b : Nat) : Nat → Nat → Nat → Nat | 0, a, acc => acc | k + 1, a, acc => gLoop b k (gNext a) (acc ^^^ (b / 2 ^ k % 2 * a))
theorem gLoop_eq (a b : Nat) : ∀ k, k ≤ 128 → gLoop b k (gIter a (128 - k)) (gUp a b (128 - k)) = gMul a b
  | 0, _ => rfl
  | k + 1, h => by
    have ih := gLoop_eq a b k (by omega)
    obtain ⟨m, hm⟩ : ∃ m, 128 - (k + 1) = m := ⟨_, rfl⟩
    rw [gLoop, hm]
    rw [show 128 - k = m + 1 by omega, gIter, gUp] at ih
    unfold gBit at ih
    rw [show 127 - m = k by omega] at ih
    exact ih
theorem gMul_loop (a b : Nat) : gMul a b = gLoop b 128 a 0 := (gLoop_eq a b 128 (Nat.le_refl _)).symm
def gSqF (a : Nat) : Nat := gLoop a 128 a 0
theorem gSq_fast (a : Nat) : gSq a = gSqF a := gMul_loop a a
def gSqsF (a : Nat) : Nat → Nat | 0 => a | k + 1 => gSqF (gSqsF a k)
theorem gSqs_fast (a : Nat) : ∀ k, gSqs a k = gSqsF a k
  | 0 => rfl
  | k + 1 => by rw [gSqs, gSqs_fast a k, gSq_fast]; rfl
/-- x, squared 128 times. -/
theorem x_cycle : gSqs (gE 1) 128 = gE 1 := by
  rw [gSqs_fast]
  decide +kernel
theorem gE_lt (k : Nat) : gE k < 2 ^ 128 := Nat.pow_lt_pow_right (by omega) (by omega)
theorem gE_pow : ∀ k, k < 128 → gE k = gPow (gE 1) k
  | 0, _ => rfl
  | k + 1, h => by
    rw [gPow_succ, ← gE_pow k (by omega), ← gE_next k (by omega), ← gE_next 0 (by omega)]
    rw [gMul_next' _ _ (gE_lt k) (gE_lt 0), show gE 0 = gOne from rfl, gMul_one _ (gE_lt k)]
theorem gSqs_pow (a : Nat) (ha : a < 2 ^ 128) (k : Nat) : ∀ n, gSqs (gPow a n) k = gPow (gSqs a k) n
  | 0 => gSqs_one k
  | n + 1 => by rw [gPow_succ, gSqs_mul _ _ (gPow_lt a ha n) ha, gSqs_pow a ha k n]; rfl
theorem e_cycle (k : Nat) (hk : k < 128) : gSqs (gE k) 128 = gE k := by
  rw [gE_pow k hk, gSqs_pow _ (gE_lt 1), x_cycle]
theorem up_cycle (a : Nat) : ∀ k, k ≤ 128 → gSqs (gUp gOne a k) 128 = gUp gOne a k
  | 0, _ => gSqs_zero 128
  | k + 1, h => by
    rw [gUp, gSqs_xor _ _ (gUp_lt _ _ gOne_lt k) (bit_lt _ _ _ (gBit01 a k) (gIter_lt _ gOne_lt k)), up_cycle a k (by omega), gSqs_bit _ _ (gBit01 a k), gE_iter k (by omega), e_cycle k (by omega)]
/-- Squared 128 times an element is as it was. -/
theorem cycle128 (a : Nat) (ha : a < 2 ^ 128) : gSqs a 128 = a := by
  have h := up_cycle a 128 (Nat.le_refl _)
  rw [show gUp gOne a 128 = a from gMul_one' a ha] at h
  exact h

/-- A linear function, told by its values at the powers of x. -/
def gLin (a : Nat) : List Nat → Nat → Nat | [], _ => 0 | v :: l, k => (gBit a k * v) ^^^ gLin a l (k + 1)
theorem gLin_xor (a b : Nat) : ∀ (l : List Nat) (k : Nat), gLin (a ^^^ b) l k = gLin a l k ^^^ gLin b l k
  | [], k => by simp [gLin]
  | v :: l, k => by rw [gLin, gLin, gLin, gLin_xor a b l, gBit_xor, bits_mul _ _ _ (gBit01 a k) (gBit01 b k), xor4]
theorem gLin_zero : ∀ (l : List Nat) (k : Nat), gLin 0 l k = 0
  | [], k => rfl
  | v :: l, k => by rw [gLin, gLin_zero l]; simp [gBit]
/-- Undoes a -> a^2 + a, but for the coefficient of x^0. -/
def gUndo : List Nat := [22349210433241643211303706255459310228, 42781086895802961305837899807692839847, 127851678626037577171681551665634892711, 64161864867486123575827494532326627698, 85316382760920269238759725736663866279, 114910088095513088234682618273958557012, 42894216934927469609366581567841114482, 32564043359013102798989312672802603315, 95950206727199596221990182218906622887, 46326064391129892899928697286047832434, 109593176112373424743067390032837178708, 142223934881672753734463413618344281941, 45552672926497301355174195688401803634, 94354540392079830942767997527157175399, 33893271354798018671893119733082947891, 133492860460135582475628106552095754965, 96614820725092054158442085749046795175, 123504943270841248069084356367027567956, 45993757392183663931702745520977746290, 84108166368187411435240813705953482624, 109427022612900310258954414150302135636, 65334698174074460006561831602428846656, 142140858131936196492406925677076760405, 26944648382676130012539518143993095923, 45594211301365579976202439659035564402, 34751615226583747878589791662865156403, 94333771204645691632253875541840295015, 58594332839845026287895736368243621554, 33882886761080949016636058740424507699, 49689517202507746048320574050840187699, 133487668163277047647999576055766534869, 87518597506017800282691648887090017190, 96617416873521321572256350997211405223, 123492369287794167071922631989304127700, 123506241345055881775991488991109872980, 88394181544543220452557894239097387942, 45994406429290980785156311833018898802, 49921000057622566873658450198655872755, 84108490886741069861967596861974058880, 35809052500604244266195401481916326771, 109427184872177139472317805728312423764, 79569572989071969373811419141996187585, 65334779303712874613243527391433990720, 4726979706471076424241489524707209152, 142140898696755403795747773571579332437, 58275656592714443450777541729474286387, 26944628100266526360869094196741809907, 140308235276560358896028355552301283989, 45594221442570381802037651632661207410, 44935323831971706514111515550899780402, 34751610155981346965672185676052334899, 115575792119390803779456185938199600469, 94333773739946892088712678535246705767, 159324042485362573657552647614603385767, 58594334107495626516125137864946826930, 153238470225796900814681174335121648678, 33882886127255648902521357992072905011, 59792954277794325190837842541115644722, 49689517519420396105377924425015989043, 72978216601350599591347508359916847681, 133487668004820722619470900868678634197, 163309321578052146805450802438263305319, 87518597585245962796955986480633967526, 6161591008139076220601646446843146177, 96617416833907240315124182200439430055, 67288019353279926038130604499846823936, 123492369307601207700488716387690115284, 72992884249465865451566362034747193217, 123506241354959402090274531190302866772, 93226277353508642900164249188457535015, 88394181539591460295416373139500891046, 6116654749483988959971426010360459777, 45994406431766860863727072382817147250, 113870918609522322281985099445019275925, 49921000058860506912943830473554996979, 161537358671016203777973217828391545831, 84108490886122099842324906724524496768, 63089105448741488643398279942380763954, 35809052500294759256374056413191545715, 96504253903287235160744645914913229863, 109427184872331881977228478262674814292, 9537274821874957483351388617584152641, 79569572988994598121356082874814992321, 122557457634345817322758110469731963540, 65334779303751560239471195525024588352, 161542955870533464563010084267448332775, 4726979706490419237355323591502507968, 53639910565545342273528145980335791795, 142140898696765075202304690604976981845, 51613027339492204128265575524803459891, 58275656592719279154056000246173111091, 81071795988965022717357904530596407232, 26944628100264108509229864938392397555, 92325303522414418149753570460923091879, 140308235276559149970208740923126577813, 100983558286137050684044238585428660711, 45594221442569777339127844318073854322, 132003651752985294974180122299820886164, 44935323831972008745566419208193456946, 100972845268357601278728964017462078439, 34751610155981195849944733847405496627, 133436244703473040169882794575366898389, 115575792119390728221592460023876181333, 161752945482599484730126084874801441767, 94333773739946854309780815578084996199, 149021274876537960721224429182834492454, 159324042485362592547018579093184240551, 5725366257701666555538562805218717057, 58594334107495617071392172125656399538, 127777348636302309636952298273557535380, 153238470225796905537047657204766862374, 133385434108064708788808215410435911893, 33882886127255646541338116557250298163, 275464514806027128612938827324864, 59792954277794326371429463258526948146, 12764899024296983899235621676887115841, 49689517519420395515082114066310337331, 126976600203468727039316187211004055892, 72978216601350599296199603180564021825, 108887185710678174598840578861931466132, 133487668004820722767044853458355047125, 126814247099887467207929949960147586332, 163309321578052146879237778733101511783, 72921817864677867521778898634038080609, 87518597585245962833849474628053070758, 71430717218983613641036104277415506289, 6161591008139076202154902373133594561, 0]
def gBack (a : Nat) : Nat := gLin a gUndo 0
theorem gBack_xor (a b : Nat) : gBack (a ^^^ b) = gBack a ^^^ gBack b := gLin_xor a b gUndo 0
theorem gBack_zero : gBack 0 = 0 := gLin_zero gUndo 0
theorem undo_all : ((List.range 128).all fun i => gBack (gSqF (gE i) ^^^ gE i) == (gE i ^^^ (gBit (gE i) 0 * gOne))) = true := by decide +kernel
theorem undo_e (i : Nat) (hi : i < 128) : gBack (gSq (gE i) ^^^ gE i) = gE i ^^^ (gBit (gE i) 0 * gOne) := by
  rw [gSq_fast]
  exact eq_of_beq (List.all_eq_true.1 undo_all i (List.mem_range.2 hi))
def gFree (a : Nat) : Nat := a ^^^ (gBit a 0 * gOne)
theorem gFree_zero : gFree 0 = 0 := by decide +kernel
theorem gFree_xor (a b : Nat) : gFree (a ^^^ b) = gFree a ^^^ gFree b := by
  unfold gFree
  rw [gBit_xor, bits_mul _ _ _ (gBit01 a 0) (gBit01 b 0), xor4]
theorem undo_zero : gBack (gSq 0 ^^^ 0) = gFree 0 := by rw [gSq_zero, Nat.xor_self, gBack_zero, gFree_zero]
theorem undo_bit (c i : Nat) (hc : c = 0 ∨ c = 1) (hi : i < 128) : gBack (gSq (c * gE i) ^^^ (c * gE i)) = gFree (c * gE i) := by
  rcases hc with rfl | rfl
  · rw [Nat.zero_mul]; exact undo_zero
  · rw [Nat.one_mul]; exact undo_e i hi
theorem undo_up (a : Nat) : ∀ k, k ≤ 128 → gBack (gSq (gUp gOne a k) ^^^ gUp gOne a k) = gFree (gUp gOne a k)
  | 0, _ => undo_zero
  | k + 1, h => by
    have hl : gBit a k * gE k < 2 ^ 128 := bit_lt _ _ _ (gBit01 a k) (gE_lt k)
    rw [gUp, gE_iter k (by omega), gSq_xor _ _ (gUp_lt _ _ gOne_lt k) hl, xor4, gBack_xor, undo_up a k (by omega), gFree_xor, undo_bit _ k (gBit01 a k) (by omega)]
theorem undo (a : Nat) (ha : a < 2 ^ 128) : gBack (gSq a ^^^ a) = gFree a := by
  have h := undo_up a 128 (Nat.le_refl _)
  rw [show gUp gOne a 128 = a from gMul_one' a ha] at h
  exact h
/-- What is its own square is 0 or 1. -/
theorem idem (a : Nat) (ha : a < 2 ^ 128) (h : gSq a = a) : a = 0 ∨ a = gOne := by
  have h1 := undo a ha
  rw [h, Nat.xor_self, gBack_zero] at h1
  unfold gFree at h1
  have h2 : a = gBit a 0 * gOne := by
    have := congrArg (· ^^^ (gBit a 0 * gOne)) h1
    simp only [Nat.zero_xor, Nat.xor_assoc, Nat.xor_self, Nat.xor_zero] at this
    exact this.symm
  rcases gBit01 a 0 with e | e
  · left; rw [h2, e, Nat.zero_mul]
  · right; rw [h2, e, Nat.one_mul]

/-- The product of a's first k squares (a itself the first). -/
def gProd (a : Nat) : Nat → Nat | 0 => gOne | k + 1 => gMul (gProd a k) (gSqs a k)
theorem gProd_lt (a : Nat) (ha : a < 2 ^ 128) : ∀ k, gProd a k < 2 ^ 128
  | 0 => gOne_lt
  | k + 1 => gMul_lt _ _ (gProd_lt a ha k)
theorem gProd_a (a : Nat) (ha : a < 2 ^ 128) : ∀ k, gMul (gProd a k) a = gSqs a k
  | 0 => gMul_one' a ha
  | k + 1 => by
    rw [gProd, gMul_assoc _ _ _ (gProd_lt a ha k) (gSqs_lt a ha k), gMul_comm (gSqs a k) a (gSqs_lt a ha k) ha, ← gMul_assoc _ _ _ (gProd_lt a ha k) ha, gProd_a a ha k]
    rfl
/-- The product of a's squares from the second on. -/
theorem gProd_sq (a : Nat) (ha : a < 2 ^ 128) : ∀ k, gProd a (k + 1) = gMul a (gProd (gSq a) k)
  | 0 => by rw [gProd, gProd, gProd, gSqs, gMul_one' a ha, gMul_one a ha]
  | k + 1 => by
    have e : gMul (gProd (gSq a) k) (gSqs a (k + 1)) = gProd (gSq a) (k + 1) := by
      show _ = gMul (gProd (gSq a) k) (gSqs (gSq a) k)
      rw [gSqs_one_more]
      rfl
    show gMul (gProd a (k + 1)) (gSqs a (k + 1)) = _
    rw [gProd_sq a ha k, gMul_assoc _ _ _ ha (gProd_lt _ (gSq_lt a ha) k), e]
theorem prod_idem (a : Nat) (ha : a < 2 ^ 128) : gSq (gProd a 128) = gProd a 128 := by
  have h1 := gProd_a a ha 128
  rw [cycle128 a ha] at h1
  have h2 := gProd_sq a ha 127
  unfold gSq
  conv => lhs; rw [show gMul (gProd a 128) (gProd a 128) = gMul (gProd a 128) (gMul a (gProd (gSq a) 127)) by rw [← h2]]
  rw [← gMul_assoc _ _ _ (gProd_lt a ha 128) ha, h1, ← h2]
theorem prod_one (a : Nat) (ha : a < 2 ^ 128) (h0 : a ≠ 0) : gProd a 128 = gOne := by
  rcases idem _ (gProd_lt a ha 128) (prod_idem a ha) with h | h
  · have h1 := gProd_a a ha 128
    rw [cycle128 a ha, h, gMul_zero'] at h1
    exact absurd h1.symm h0
  · exact h
/-- The inverse: the product of the squares from the second on. -/
def gInv (a : Nat) : Nat := gProd (gSq a) 127
theorem gInv_lt (a : Nat) (ha : a < 2 ^ 128) : gInv a < 2 ^ 128 := gProd_lt _ (gSq_lt a ha) 127
theorem gMul_inv (a : Nat) (ha : a < 2 ^ 128) (h0 : a ≠ 0) : gMul a (gInv a) = gOne := by
  unfold gInv
  rw [← gProd_sq a ha 127, prod_one a ha h0]
theorem gMul_cancel (a b : Nat) (ha : a < 2 ^ 128) (hb : b < 2 ^ 128) (h : gMul a b = 0) : a = 0 ∨ b = 0 := by
  by_cases h0 : a = 0
  · exact .inl h0
  · right
    have h1 : gMul (gMul (gInv a) a) b = b := by rw [gMul_comm _ a (gInv_lt a ha) ha, gMul_inv a ha h0, gMul_one' b hb]
    rw [gMul_assoc _ _ _ (gInv_lt a ha) ha, h, gMul_zero _ (gInv_lt a ha)] at h1
    exact h1.symm
theorem gProd_zero : ∀ k, gProd 0 (k + 1) = 0
  | 0 => by rw [gProd, gProd, gSqs, gMul_zero _ gOne_lt]
  | k + 1 => by rw [gProd, gProd_zero k, gMul_zero']
end Go.Proofs.Ytilpdojliaiokaa
