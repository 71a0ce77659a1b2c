/- octet.Unhex and the reference's Unhex give the bytes of digits in new memory, and refuse what is no digits' text. Condition: the text has fewer than 2^46 letters. -/
import Derived.Test.YtdkdgcpknephnaaGreatOctAll
import Derived.Lib.Strings
import Derived.Lib.Bytealg
namespace Go.Proofs.YtdkdgcpknephnaaGreat
open Go.RowKit
set_option linter.unusedVariables false

/-- A digit's value; -1: it is none. -/
def valL (c : UInt8) : Int := if 48 ≤ c.toNat ∧ c.toNat ≤ 57 then (c.toNat : Int) - 48 else if 97 ≤ c.toNat ∧ c.toNat ≤ 102 then (c.toNat : Int) - 87 else -1
theorem valL_range (c : UInt8) : -1 ≤ valL c ∧ valL c ≤ 15 := by unfold valL; split <;> (try split) <;> omega
theorem valL_index (c : UInt8) : Lib.indexByte [48, 49, 50, 51, 52, 53, 54, 55, 56, 57, 97, 98, 99, 100, 101, 102] c = valL c := by
  have h : ∀ n : Fin 256, Lib.indexByte [48, 49, 50, 51, 52, 53, 54, 55, 56, 57, 97, 98, 99, 100, 101, 102] (UInt8.ofNat n.val) = valL (UInt8.ofNat n.val) := by decide +kernel
  have := h ⟨c.toNat, c.toNat_lt⟩
  simpa using this
def unhexL : List UInt8 → Option (List UInt8)
  | [] => some []
  | [_] => none
  | a :: b :: r => if valL a < 0 ∨ valL b < 0 then none else (unhexL r).map fun d => UInt8.ofNat (16 * valL a + valL b).toNat :: d
theorem unhexL_two (a b : UInt8) (r : List UInt8) : unhexL (a :: b :: r) = if valL a < 0 ∨ valL b < 0 then none else (unhexL r).map fun d => UInt8.ofNat (16 * valL a + valL b).toNat :: d := by rw [unhexL]
theorem unhexL_app : ∀ (k : Nat) (p r d : List UInt8), p.length = 2 * k → unhexL p = some d → unhexL (p ++ r) = (unhexL r).map (d ++ ·)
  | 0, p, r, d, hp, h => by
    have : p = [] := List.eq_nil_of_length_eq_zero (by omega)
    subst this
    simp only [unhexL, Option.some.injEq] at h
    subst h
    simp
  | k + 1, p, r, d, hp, h => by
    match p, hp with
    | a :: b :: p', hp =>
      rw [unhexL_two] at h
      rw [List.cons_append, List.cons_append, unhexL_two]
      by_cases hc : valL a < 0 ∨ valL b < 0
      · rw [if_pos hc] at h; cases h
      · rw [if_neg hc] at h ⊢
        obtain ⟨d', hd', rfl⟩ := Option.map_eq_some_iff.1 h
        rw [unhexL_app k p' r d' (by simp at hp; omega) hd', Option.map_map]
        rfl
theorem unhexL_odd : ∀ (k : Nat) (p : List UInt8), p.length = 2 * k + 1 → unhexL p = none
  | 0, p, hp => by
    match p, hp with
    | [a], _ => rfl
  | k + 1, p, hp => by
    match p, hp with
    | a :: b :: p', hp =>
      rw [unhexL_two, unhexL_odd k p' (by simp at hp; omega)]
      simp
theorem unhexL_snoc {k : Nat} {l d : List UInt8} {x y : UInt8} (h : unhexL (l.take (2 * k)) = some d) (hx : l[2 * k]? = some x) (hy : l[2 * k + 1]? = some y) (h1 : 0 ≤ valL x) (h2 : 0 ≤ valL y) :
    unhexL (l.take (2 * (k + 1))) = some (d ++ [UInt8.ofNat (16 * valL x + valL y).toNat]) := by
  have hl : 2 * k < l.length := (List.getElem?_eq_some_iff.1 hx).1
  rw [show 2 * (k + 1) = 2 * k + 1 + 1 from by omega, take_snoc hy, take_snoc hx, List.append_assoc, unhexL_app k _ _ d (by rw [List.length_take]; omega) h]
  simp only [List.cons_append, List.nil_append]
  rw [unhexL_two, if_neg (by omega)]
  rfl
theorem unhexL_bad {k : Nat} {l d : List UInt8} {x y : UInt8} (h : unhexL (l.take (2 * k)) = some d) (hx : l[2 * k]? = some x) (hy : l[2 * k + 1]? = some y) (hb : valL x < 0 ∨ valL y < 0) : unhexL l = none := by
  have hl : 2 * k + 1 < l.length := (List.getElem?_eq_some_iff.1 hy).1
  have e : l = l.take (2 * k) ++ x :: y :: l.drop (2 * k + 1 + 1) := by
    have e1 : l.drop (2 * k) = x :: l.drop (2 * k + 1) := by
      rw [List.drop_eq_getElem_cons (by omega)]
      rw [List.getElem?_eq_getElem (by omega)] at hx
      rw [Option.some.inj hx]
    have e2 : l.drop (2 * k + 1) = y :: l.drop (2 * k + 1 + 1) := by
      rw [List.drop_eq_getElem_cons hl]
      rw [List.getElem?_eq_getElem hl] at hy
      rw [Option.some.inj hy]
    rw [← e2, ← e1, List.take_append_drop]
  rw [e, unhexL_app k _ _ d (by rw [List.length_take]; omega) h, unhexL_two, if_pos hb]
  rfl

/-- A letter of a text. -/
theorem str_index {s : ByteArray} {l : List UInt8} (hl : s.data.toList = l) {i : Nat} {x : UInt8} (hx : l[i]? = some x) (k : IntKind) (z : Int) (hz : z = (i : Int)) :
    ∀ W : World, (Instr.index 9 (.string s) (.int k z)).run Tryz.prog W = .ok (.int .u8 (x.toNat : Int)) W := by
  intro W
  subst hl
  subst hz
  have hi : i < s.size := by have := (List.getElem?_eq_some_iff.1 hx).1; simpa using this
  have hx' : s[i] = x := by
    have := (List.getElem?_eq_some_iff.1 hx).2
    rw [← this]
    rfl
  simp [Instr.index, go_sem, hi, hx']

set_option maxRecDepth 100000 in
set_option maxHeartbeats 400000 in
theorem idx_lite (x : UInt8) (v : Int) (hv : valL x = v) (w : World) :
    Calls Tryz.prog 86 #[.string ⟨#[48, 49, 50, 51, 52, 53, 54, 55, 56, 57, 97, 98, 99, 100, 101, 102]⟩, .int .u8 (x.toNat : Int)] w fun e w' => e = .returned (.int .i64 v) ∧ w = w' := by
  have H := Lib.hid hv
  clear hv
  go_enter Tryz.func86, Tryz.ntmps86
  go_wp2
  rw [run_callFunc_extern Tryz.func107 (by kernel_rfl) (by kernel_rfl) (by kernel_rfl) (e := Extern.BytealgIndexByte.indexByte) (by kernel_rfl), Lib.run_indexByteString]
  simp only [Result.andThen]
  rw [Oper.upon_value]
  go_wp2
  go_ret
  refine ⟨?_, rfl⟩
  rw [← H.out, ← valL_index]
  simp
set_option maxRecDepth 100000 in
set_option maxHeartbeats 400000 in
theorem idx_any (x : UInt8) (v : Int) (hv : valL x = v) (w : World) :
    Calls Tryz.prog 71 #[.string ⟨#[48, 49, 50, 51, 52, 53, 54, 55, 56, 57, 97, 98, 99, 100, 101, 102]⟩, .int .u8 (x.toNat : Int)] w fun e w' => e = .returned (.int .i64 v) ∧ w = w' := by
  have H := Lib.hid hv
  clear hv
  go_enter Tryz.func71, Tryz.ntmps71
  go_wp2_with (go_at_call 86; refine (idx_lite x v H.out _).mono ?_; rintro e w' ⟨rfl, rfl⟩)
  go_ret
  exact ⟨rfl, rfl⟩

theorem nib_or (p q : Nat) (hp : p < 16) (hq : q < 16) : bits .or .i64 ((p : Int) * 16) (q : Int) = ((16 * p + q : Nat) : Int) := by
  have h : ∀ a b : Fin 16, bits .or .i64 ((a.val : Int) * 16) (b.val : Int) = ((16 * a.val + b.val : Nat) : Int) := by decide +kernel
  exact h ⟨p, hp⟩ ⟨q, hq⟩
theorem nib_byte {p q : Nat} {x y : UInt8} (hx : valL x = p) (hy : valL y = q) (hp : p < 16) (hq : q < 16) : (((UInt8.ofNat (16 * valL x + valL y).toNat).toNat : Nat) : Int) = ((16 * p + q : Nat) : Int) := by
  rw [hx, hy, show ((16 : Int) * (p : Int) + (q : Int)).toNat = 16 * p + q from by omega]
  simp
  omega

/-- What a call of Unhex gives. -/
def UnhexPost (l : List UInt8) (w : World) (e : Ending) (w' : World) : Prop :=
  (∃ d, unhexL l = some d ∧ RetBE (l.length / 2) d 0 w e w') ∨ (unhexL l = none ∧ e = .returned (.tuple #[.slice none 0 0, .int .i64 10]) ∧ Below w.heap.size w w')

set_option maxHeartbeats 1000000 in
theorem unhex_any (s : ByteArray) (l : List UInt8) (w : World) (hl : s.data.toList = l) (hm : s.size ≤ 70368744177664) :
    Calls Tryz.prog 52 #[.string s] w (UnhexPost l w) := by
  have hsz : s.size = l.length := by rw [← hl]; simp
  rcases Nat.mod_two_eq_zero_or_one s.size with hpar | hpar
  · obtain ⟨m, hlen⟩ : ∃ m, Hid (s.size = 2 * m) := ⟨s.size / 2, Lib.hid (by omega)⟩
    have hev : ((s.size : Int) % 2 != 0) = false := by simp; omega
    clear hpar
    have HL := Lib.hid hl
    have HS := Lib.hid hsz
    clear hl hsz
    go_enter Tryz.func52, Tryz.ntmps52
    go_wp2_with (first
      | (at_make; refine wpList_mk0 rfl _ _ rfl w.heap.size .i64 .i64 _ (s.size / 2) rfl rfl (by omega) (by omega) (Nat.le_refl _) ?_; intro w1 hown1 hb1))
    go_loopw [4, 5, 6, 7] (fun v i _ _ wr => ∃ (k c1 : Nat) (A1 : Option Addr) (d : List UInt8), 2 * k ≤ s.size ∧ i = .int .i64 (2 * (k : Int)) ∧ v = .slice A1 k c1 ∧ Hid (unhexL (l.take (2 * k)) = some d) ∧ OwnB wr w.heap.size A1 k c1 d ∧ Below w.heap.size w wr) (fun _ i _ _ _ => s.size - (intOf i).toNat)
    case atStart => exact ⟨0, _, _, [], Nat.zero_le _, rfl, rfl, Lib.hid rfl, hown1, hb1⟩
    case round =>
      obtain ⟨k, c1, A1, d, hk, rfl, rfl, hd, hown, hbel⟩ := hrel
      have hwr := hbel.size
      by_cases hlt : 2 * k < s.size
      · have hlt2 : 2 * k + 1 < s.size := by have := hlen.out; omega
        obtain ⟨x, hx⟩ : ∃ x, l[2 * k]? = some x := ⟨_, List.getElem?_eq_getElem (by rw [← HS.out]; exact hlt)⟩
        obtain ⟨y, hy⟩ : ∃ y, l[2 * k + 1]? = some y := ⟨_, List.getElem?_eq_getElem (by rw [← HS.out]; exact hlt2)⟩
        have hi1 := str_index HL.out hx .i64 (2 * (k : Int)) (by omega)
        have hi2 := str_index HL.out hy .i64 (2 * (k : Int) + 1) (by omega)
        have HX := Lib.hid hx
        have HY := Lib.hid hy
        clear hx hy
        by_cases hbad : valL x < 0 ∨ valL y < 0
        · go_wp2_with (first
            | (go_at_call 71; refine (idx_any _ _ rfl _).mono ?_; rintro e w' ⟨rfl, rfl⟩))
          all_goals
            go_ret2
            exact .inr ⟨unhexL_bad hd.out HX.out HY.out hbad, rfl, hbel⟩
        · obtain ⟨p, hp, hp16⟩ : ∃ p : Nat, Hid (valL x = p) ∧ p < 16 := ⟨(valL x).toNat, Lib.hid (by omega), by have := valL_range x; omega⟩
          obtain ⟨q, hq, hq16⟩ : ∃ q : Nat, Hid (valL y = q) ∧ q < 16 := ⟨(valL y).toNat, Lib.hid (by omega), by have := valL_range y; omega⟩
          go_wp2_with fail
          refine (idx_any _ _ hp.out _).mono ?_
          rintro e w' ⟨rfl, rfl⟩
          go_wp2_with fail
          refine (idx_any _ _ hq.out _).mono ?_
          rintro e w' ⟨rfl, rfl⟩
          have hor := nib_or p q hp16 hq16
          go_wp2_with (first
            | (at_builtin; refine wpList_app rfl (.tmp 37) (.tmp 43) rfl w.heap.size _ _ _ _ rfl (hown.alloc _) (wr.heap.size + 1) (some ⟨wr.heap.size, 0, none⟩) 1 1 [UInt8.ofNat (16 * valL x + valL y).toNat] rfl (RB.new wr _ _ _ (by simp only [bvs, bv, List.map_cons, List.map_nil]; rw [nib_byte hp.out hq.out hp16 hq16]; rfl)) (by omega) (by simp; omega) ?_; intro A2 c2 w2 hown2 _ hb2))
          go_roundw
          case rel => exact ⟨k + 1, c2, A2, _, by omega, by go_num, rfl, Lib.hid (unhexL_snoc hd.out HX.out HY.out (by rw [hp.out]; omega) (by rw [hq.out]; omega)), hown2, (hbel.alloc hwr _).trans hb2⟩
          case measure => simp [intOf]; omega
      · go_wp2
        go_ret2
        have h1 := hlen.out
        have h2 := HS.out
        obtain rfl : k = m := by omega
        have hd' := hd.out
        rw [List.take_of_length_le (by omega)] at hd'
        have hfin : UnhexPost l w (.returned (.tuple #[.slice A1 k c1, .int .i64 0])) wr := by
          refine .inl ⟨d, hd', ?_⟩
          rw [show l.length / 2 = k from by omega]
          exact ⟨A1, c1, rfl, hown, hbel⟩
        exact hfin
  · have hod : ((s.size : Int) % 2 != 0) = true := by simp; omega
    go_enter Tryz.func52, Tryz.ntmps52
    go_wp2
    go_ret2
    exact .inr ⟨unhexL_odd (s.size / 2) l (by omega), rfl, Below.refl _ _⟩

theorem valL_at (x : UInt8) (k : Nat) (hk : k < 16) (h : [48, 49, 50, 51, 52, 53, 54, 55, 56, 57, 97, 98, 99, 100, 101, 102][k]? = some x) : valL x = k := by
  have H : ∀ k : Fin 16, ∀ n : Fin 256, ([48, 49, 50, 51, 52, 53, 54, 55, 56, 57, 97, 98, 99, 100, 101, 102] : List UInt8)[k.val]? = some (UInt8.ofNat n.val) → valL (UInt8.ofNat n.val) = (k.val : Int) := by decide +kernel
  have e : UInt8.ofNat x.toNat = x := by simp
  have := H ⟨k, hk⟩ ⟨x.toNat, x.toNat_lt⟩
  rw [e] at this
  exact this h
/-- The letter of place k among the digits. -/
def digAt (k : Nat) : UInt8 := ([48, 49, 50, 51, 52, 53, 54, 55, 56, 57, 97, 98, 99, 100, 101, 102] : List UInt8).getD k 0
theorem valL_none (x : UInt8) (h : ∀ k, k < 16 → digAt k ≠ x) : valL x = -1 := by
  have H : ∀ n : Fin 256, valL (UInt8.ofNat n.val) ≠ -1 → ∃ k : Fin 16, digAt k.val = UInt8.ofNat n.val := by decide +kernel
  have e : UInt8.ofNat x.toNat = x := by simp
  have := H ⟨x.toNat, x.toNat_lt⟩
  rw [e] at this
  rcases Classical.em (valL x = -1) with h0 | h0
  · exact h0
  · obtain ⟨k, hk⟩ := this h0
    exact absurd hk (h k.val k.isLt)
set_option maxHeartbeats 1000000 in
theorem digit_any (x : UInt8) (v : Int) (hv : valL x = v) (w : World) :
    Calls Tryz.prog 44 #[.int .u8 (x.toNat : Int)] w fun e w' => e = .returned (.int .i64 v) ∧ w = w' := by
  have H := Lib.hid hv
  clear hv
  go_enter Tryz.func44, Tryz.ntmps44
  go_wp2
  go_loop [3] (fun i => ∃ k : Nat, k ≤ 16 ∧ i = .int .i64 k ∧ Hid (∀ j, j < k → digAt j ≠ x)) (fun i => 16 - (intOf i).toNat)
  case atStart => exact ⟨0, by omega, rfl, Lib.hid (fun j hj => absurd hj (by omega))⟩
  case round =>
    obtain ⟨k, hk, rfl, hno⟩ := hrel
    by_cases hlt : k < 16
    · have hi := str_index (s := ⟨#[48, 49, 50, 51, 52, 53, 54, 55, 56, 57, 97, 98, 99, 100, 101, 102]⟩) rfl (i := k) (x := digAt k) (by rw [List.getElem?_eq_getElem (by simpa using hlt)]; simp [digAt, hlt]) .i64 (k : Int) rfl
      by_cases he : digAt k = x
      · have hb : (((digAt k).toNat : Int) == (x.toNat : Int)) = true := by rw [he]; simp
        have hval : valL x = k := valL_at x k hlt (by rw [← he]; rw [List.getElem?_eq_getElem (by simpa using hlt)]; simp [digAt, hlt])
        have HV := Lib.hid hval
        have HE := Lib.hid he
        clear hval he
        go_wp2
        go_ret
        exact ⟨ret1i (by rw [← H.out, HV.out]), rfl⟩
      · have hb : (((digAt k).toNat : Int) == (x.toNat : Int)) = false := by
          rw [beq_eq_false_iff_ne]; intro e; exact he (UInt8.toNat_inj.1 (by omega))
        go_wp2
        go_round
        case rel => exact ⟨k + 1, by omega, by go_num, Lib.hid (fun j hj => by
          rcases Nat.lt_or_ge j k with h | h
          · exact hno.out j h
          · obtain rfl : j = k := by omega
            exact he)⟩
        case measure => simp [intOf]; omega
    · go_wp2
      go_ret
      have hk16 : k = 16 := by omega
      exact ⟨ret1i (by rw [← H.out, valL_none x (fun j hj => hno.out j (by omega))]), rfl⟩

set_option maxHeartbeats 1000000 in
theorem runhex_any (s : ByteArray) (l : List UInt8) (w : World) (hl : s.data.toList = l) (hm : s.size ≤ 70368744177664) :
    Calls Tryz.prog 22 #[.string s] w (UnhexPost l w) := by
  have hsz : s.size = l.length := by rw [← hl]; simp
  rcases Nat.mod_two_eq_zero_or_one s.size with hpar | hpar
  · obtain ⟨m, hlen⟩ : ∃ m, Hid (s.size = 2 * m) := ⟨s.size / 2, Lib.hid (by omega)⟩
    have hev : ((s.size : Int) % 2 == 1) = false := by simp; omega
    clear hpar
    have HL := Lib.hid hl
    have HS := Lib.hid hsz
    clear hl hsz
    go_enter Tryz.func22, Tryz.ntmps22
    go_wp2
    go_loopw [4, 5, 6, 7] (fun v i _ _ wr => ∃ (k c1 : Nat) (A1 : Option Addr) (d : List UInt8), 2 * k ≤ s.size ∧ i = .int .i64 (2 * (k : Int)) ∧ v = .slice A1 k c1 ∧ Hid (unhexL (l.take (2 * k)) = some d) ∧ OwnB wr w.heap.size A1 k c1 d ∧ Below w.heap.size w wr) (fun _ i _ _ _ => s.size - (intOf i).toNat)
    case atStart => exact ⟨0, _, _, [], Nat.zero_le _, rfl, rfl, Lib.hid rfl, OwnB.lit w _ [] #[] 0 rfl rfl (by unfold maxLen; omega) (Nat.le_refl _), (Below.refl _ _).alloc (Nat.le_refl _) _⟩
    case round =>
      obtain ⟨k, c1, A1, d, hk, rfl, rfl, hd, hown, hbel⟩ := hrel
      have hwr := hbel.size
      by_cases hlt : 2 * k < s.size
      · have hlt2 : 2 * k + 1 < s.size := by have := hlen.out; omega
        obtain ⟨x, hx⟩ : ∃ x, l[2 * k]? = some x := ⟨_, List.getElem?_eq_getElem (by rw [← HS.out]; exact hlt)⟩
        obtain ⟨y, hy⟩ : ∃ y, l[2 * k + 1]? = some y := ⟨_, List.getElem?_eq_getElem (by rw [← HS.out]; exact hlt2)⟩
        have hi1 := str_index HL.out hx .i64 (2 * (k : Int)) (by omega)
        have hi2 := str_index HL.out hy .i64 (2 * (k : Int) + 1) (by omega)
        have HX := Lib.hid hx
        have HY := Lib.hid hy
        clear hx hy
        by_cases hbad : valL x < 0 ∨ valL y < 0
        · go_wp2_with (first
            | (go_at_call 44; refine (digit_any _ _ rfl _).mono ?_; rintro e w' ⟨rfl, rfl⟩))
          all_goals
            go_ret2
            exact .inr ⟨unhexL_bad hd.out HX.out HY.out hbad, rfl, hbel⟩
        · obtain ⟨p, hp, hp16⟩ : ∃ p : Nat, Hid (valL x = p) ∧ p < 16 := ⟨(valL x).toNat, Lib.hid (by omega), by have := valL_range x; omega⟩
          obtain ⟨q, hq, hq16⟩ : ∃ q : Nat, Hid (valL y = q) ∧ q < 16 := ⟨(valL y).toNat, Lib.hid (by omega), by have := valL_range y; omega⟩
          go_wp2_with fail
          refine (digit_any _ _ hp.out _).mono ?_
          rintro e w' ⟨rfl, rfl⟩
          go_wp2_with fail
          refine (digit_any _ _ hq.out _).mono ?_
          rintro e w' ⟨rfl, rfl⟩
          go_wp2_with (first
            | (at_builtin; refine wpList_app rfl (.tmp 34) (.tmp 40) rfl w.heap.size _ _ _ _ rfl (hown.alloc _) (wr.heap.size + 1) (some ⟨wr.heap.size, 0, none⟩) 1 1 [UInt8.ofNat (16 * valL x + valL y).toNat] rfl (RB.new wr _ _ _ (by simp only [bvs, bv, List.map_cons, List.map_nil]; rw [nib_byte hp.out hq.out hp16 hq16]; rfl)) (by omega) (by simp; omega) ?_; intro A2 c2 w2 hown2 _ hb2))
          go_roundw
          case rel => exact ⟨k + 1, c2, A2, _, by omega, by go_num, rfl, Lib.hid (unhexL_snoc hd.out HX.out HY.out (by rw [hp.out]; omega) (by rw [hq.out]; omega)), hown2, (hbel.alloc hwr _).trans hb2⟩
          case measure => simp [intOf]; omega
      · go_wp2
        go_ret2
        have h1 := hlen.out
        have h2 := HS.out
        obtain rfl : k = m := by omega
        have hd' := hd.out
        rw [List.take_of_length_le (by omega)] at hd'
        have hfin : UnhexPost l w (.returned (.tuple #[.slice A1 k c1, .int .i64 0])) wr := by
          refine .inl ⟨d, hd', ?_⟩
          rw [show l.length / 2 = k from by omega]
          exact ⟨A1, c1, rfl, hown, hbel⟩
        exact hfin
  · have hod : ((s.size : Int) % 2 == 1) = true := by simp; omega
    go_enter Tryz.func22, Tryz.ntmps22
    go_wp2
    go_ret2
    exact .inr ⟨unhexL_odd (s.size / 2) l (by omega), rfl, Below.refl _ _⟩
end Go.Proofs.YtdkdgcpknephnaaGreat
