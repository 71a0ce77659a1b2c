/- An element as the references have it (layer 4's law's 'of'). No conditions. -/
import Derived.Test.YtdhgofolcggleaaRefPolyPow
namespace Go.Proofs.Ytdhgofolcggleaa
open Go.RowKit
set_option linter.unusedVariables false

/-- The first k of a word's eight bytes. -/
def wB (x k : Nat) : List UInt8 := (List.range k).map fun q => UInt8.ofNat (x / 2 ^ (56 - 8 * q))
theorem wB_len (x k : Nat) : (wB x k).length = k := by simp [wB]
theorem wB_snoc (x k : Nat) : wB x (k + 1) = wB x k ++ [UInt8.ofNat (x / 2 ^ (56 - 8 * k))] := by simp [wB, List.range_succ]
/-- An element's sixteen bytes. -/
def eB (h l : Nat) : List UInt8 := wB h 8 ++ wB l 8
theorem eB_len (h l : Nat) : (eB h l).length = 16 := by simp [eB, wB_len]
theorem byte_bit (x s r : Nat) (hr : r < 8) : (UInt8.ofNat (x / 2 ^ s)).toNat / 2 ^ (7 - r) % 2 = x / 2 ^ (s + 7 - r) % 2 := by
  rw [show (UInt8.ofNat (x / 2 ^ s)).toNat = x / 2 ^ s % 256 by simp]
  rw [show s + 7 - r = s + (7 - r) by omega, Nat.pow_add, ← Nat.div_div_eq_div_mul]
  generalize x / 2 ^ s = y
  obtain rfl | rfl | rfl | rfl | rfl | rfl | rfl | rfl : r = 0 ∨ r = 1 ∨ r = 2 ∨ r = 3 ∨ r = 4 ∨ r = 5 ∨ r = 6 ∨ r = 7 := by omega
  all_goals simp only [Nat.sub_zero, Nat.reduceSub, Nat.reducePow]; omega
theorem bits_e (h l : Nat) (hl : l < 2 ^ 64) : bitsOf (eB h l) = co (h * 2 ^ 64 + l) := by
  apply List.ext_getElem?
  intro i
  by_cases hi : i < 128
  · rw [bitsOf_at _ i hi, co_at _ i hi]
    congr 1
    unfold bitOf coF gBit
    by_cases h8 : i < 64
    · have e : (eB h l).getD (i / 8) 0 = UInt8.ofNat (h / 2 ^ (56 - 8 * (i / 8))) := by
        rw [List.getD_eq_getElem?_getD, eB, List.getElem?_append_left (by rw [wB_len]; omega)]
        simp [wB, show i / 8 < 8 by omega]
      rw [e, byte_bit _ _ _ (Nat.mod_lt _ (by omega)), show 56 - 8 * (i / 8) + 7 - i % 8 = 63 - i by omega]
      have e2 : (h * 2 ^ 64 + l) / 2 ^ (127 - i) = h / 2 ^ (63 - i) := by
        rw [show 127 - i = 64 + (63 - i) by omega, Nat.pow_add, ← Nat.div_div_eq_div_mul]
        congr 1
        omega
      rw [e2]
      rcases Nat.mod_two_eq_zero_or_one (h / 2 ^ (63 - i)) with q | q <;> rw [q] <;> rfl
    · have e : (eB h l).getD (i / 8) 0 = UInt8.ofNat (l / 2 ^ (56 - 8 * (i / 8 - 8))) := by
        rw [List.getD_eq_getElem?_getD, eB, List.getElem?_append_right (by rw [wB_len]; omega), wB_len]
        simp [wB, show i / 8 - 8 < 8 by omega]
      rw [e, byte_bit _ _ _ (Nat.mod_lt _ (by omega)), show 56 - 8 * (i / 8 - 8) + 7 - i % 8 = 127 - i by omega]
      have e2 : (h * 2 ^ 64 + l) / 2 ^ (127 - i) % 2 = l / 2 ^ (127 - i) % 2 := by
        obtain ⟨d, hd⟩ : ∃ d, 64 = (127 - i) + (d + 1) := ⟨63 - (127 - i), by omega⟩
        have : h * 2 ^ 64 = 2 ^ (127 - i) * (h * 2 ^ d * 2) := by
          rw [show (2:Nat) ^ 64 = 2 ^ ((127 - i) + (d + 1)) from congrArg (2 ^ ·) hd, Nat.pow_add, Nat.pow_succ]
          rw [Nat.mul_left_comm, Nat.mul_assoc]
        rw [this, Nat.mul_add_div (Nat.pow_pos (by omega))]
        omega
      rw [e2]
      rcases Nat.mod_two_eq_zero_or_one (l / 2 ^ (127 - i)) with q | q <;> rw [q] <;> rfl
  · rw [List.getElem?_eq_none (by rw [bitsOf_len]; omega), List.getElem?_eq_none (by rw [co_len]; omega)]
/-- An element as a value. -/
def EV (h l : Nat) : Value := .agg #[.int .u64 (h : Int), .int .u64 (l : Int)]
theorem byte_at (x k : Nat) : IntKind.u8.wrap ((x : Int) / 2 ^ (56 - 8 * k)) = (((UInt8.ofNat (x / 2 ^ (56 - 8 * k))).toNat : Nat) : Int) := by
  have e : ((x : Int) / 2 ^ (56 - 8 * k)) = ((x / 2 ^ (56 - 8 * k) : Nat) : Int) := by simp
  rw [e]
  generalize x / 2 ^ (56 - 8 * k) = y
  rw [show (UInt8.ofNat y).toNat = y % 256 by simp, IntKind.wrap_u8]
  omega
attribute [local irreducible] co wB eB bitsOf
set_option maxRecDepth 100000 in
set_option maxHeartbeats 2000000 in
theorem of_any (h l : Nat) (w : World) (hh : h < 2 ^ 64) (hl : l < 2 ^ 64) :
    Calls Try.prog 10 #[EV h l] w (RetT (co (h * 2 ^ 64 + l)) w) := by
  obtain ⟨R, HR⟩ : ∃ R, Hid (R = co (h * 2 ^ 64 + l)) := ⟨_, Lib.hid rfl⟩
  rw [← HR.out]
  have HRB : Hid (R = bitsOf (eB h l)) := Lib.hid (by rw [HR.out]; exact (bits_e h l hl).symm)
  have hz := zero_poly
  have h1 : (h : Int) < 18446744073709551616 := by omega
  have l1 : (l : Int) < 18446744073709551616 := by omega
  obtain ⟨G, HG⟩ : ∃ G, Hid (G = w.heap.size) := ⟨_, Lib.hid rfl⟩
  clear hh hl
  unfold EV
  go_enter Try.func10, Try.ntmps10
  go_wp2_with fail
  obtain ⟨W0, HW0⟩ : ∃ W0, Hid (W0 = ((w.alloc (.cells #[.int .u64 (h : Int), .int .u64 (l : Int)] 24)).alloc (.cells (tvs zP).toArray 28)).alloc (.cells #[] 5)) := ⟨_, Lib.hid rfl⟩
  have HB0 : Hid (Below w.heap.size w W0) := Lib.hid (by rw [HW0.out]; exact ((below_alloc w _).alloc (by simp) _).alloc (by simp; omega) _)
  have HS0 : Hid (W0.heap.size = G + 1 + 1 + 1) := Lib.hid (by rw [HW0.out, HG.out]; simp)
  have HH : Hid (W0.cell? ⟨G, 0, none⟩ = some (.int .u64 (h : Int))) := Lib.hid (by
    rw [HW0.out, HG.out]
    have hb := ((Below.refl (w.heap.size + 1) (w.alloc (.cells #[.int .u64 (h : Int), .int .u64 (l : Int)] 24))).alloc (by simp) (.cells (tvs zP).toArray 28)).alloc (by simp) (.cells #[] 5)
    refine (hb.cell (p := ⟨w.heap.size, 0, none⟩) (by show w.heap.size < w.heap.size + 1; omega)).trans ?_
    rw [World.cell?_alloc_at _ _ _ _ rfl]; rfl)
  have HL : Hid (W0.cell? ⟨G, 1, none⟩ = some (.int .u64 (l : Int))) := Lib.hid (by
    rw [HW0.out, HG.out]
    have hb := ((Below.refl (w.heap.size + 1) (w.alloc (.cells #[.int .u64 (h : Int), .int .u64 (l : Int)] 24))).alloc (by simp) (.cells (tvs zP).toArray 28)).alloc (by simp) (.cells #[] 5)
    refine (hb.cell (p := ⟨w.heap.size, 1, none⟩) (by show w.heap.size < w.heap.size + 1; omega)).trans ?_
    rw [World.cell?_alloc_at _ _ _ _ rfl]; rfl)
  have HR0 : Hid (Br W0 (G + 1) 0 zP) := Lib.hid (by rw [HW0.out, HG.out]; exact (Br.new1 _ _ (by simp) zP _).alloc (by simp) _)
  have HO0 : Hid (OwnB W0 (G + 1 + 1) (some ⟨G + 1 + 1, 0, none⟩) 0 0 (wB h 0)) := Lib.hid (by
    have h0 := OwnB.lit ((w.alloc (.cells #[.int .u64 (h : Int), .int .u64 (l : Int)] 24)).alloc (.cells (tvs zP).toArray 28)) (w.heap.size + 1 + 1) [] #[] 0 rfl rfl (by unfold maxLen; omega) (by simp)
    rw [HW0.out, HG.out, show wB h 0 = [] by unfold wB; rfl]
    simp only [World.size_alloc] at h0
    exact h0)
  rw [← HW0.out, ← HG.out]
  clear HW0
  go_loopw [3, 4] (fun v i wr => ∃ (k c1 : Nat) (A1 : Option Addr), k ≤ 8 ∧ i = .int .i64 (7 - (k : Int)) ∧ v = .slice A1 k c1 ∧ Hid (OwnB wr (G + 1 + 1) A1 k c1 (wB h k)) ∧ Hid (Below (G + 1 + 1) W0 wr)) (fun _ i _ => (intOf i + 1).toNat)
  case atStart => exact ⟨0, 0, _, Nat.zero_le _, rfl, rfl, HO0, Lib.hid (Below.refl _ _)⟩
  case round =>
    obtain ⟨k, c1, A1, hk, rfl, rfl, ho, hb⟩ := hrel
    clear HO0
    have hsz : G + 1 + 1 + 1 ≤ wr.heap.size := by have := hb.out.size; rw [HS0.out] at this; exact this
    by_cases hlt : k < 8
    · have cx : wr.cell? ⟨G, 0, none⟩ = some (.int .u64 (h : Int)) := (hb.out.cell (p := ⟨G, 0, none⟩) (by show G < G + 1 + 1; omega)).trans HH.out
      obtain ⟨s, HS, hs⟩ : ∃ s : Nat, Hid (s = 56 - 8 * k) ∧ s ≤ 56 := ⟨_, Lib.hid rfl, by omega⟩
      obtain ⟨z, HZ, hz0, hz7⟩ : ∃ z : Int, Hid (z = 7 - (k : Int)) ∧ 0 ≤ z ∧ z ≤ 7 := ⟨_, Lib.hid rfl, by omega, by omega⟩
      have b1 : IntKind.i64.wrap (8 * z) = ((s : Nat) : Int) := by rw [IntWalk.i64_in _ (by omega), HS.out, HZ.out]; omega
      have hd : decide (z ≥ 0) = true := decide_eq_true (by omega)
      rw [← HZ.out]
      obtain ⟨y, HY⟩ : ∃ y, Hid (y = UInt8.ofNat (h / 2 ^ (56 - 8 * k))) := ⟨_, Lib.hid rfl⟩
      have hy : IntKind.u8.wrap ((h : Int) / 2 ^ s) = (y.toNat : Int) := by rw [HS.out, HY.out]; exact byte_at h k
      have hr1 := RB.new wr [y] #[.int .u8 (y.toNat : Int)] 5 rfl
      have ho1 := ho.out.alloc (.cells #[.int .u8 (y.toNat : Int)] 5)
      go_wp2_with (at_builtin; refine wpList_app rfl (.tmp 11) (.tmp 19) rfl (G + 1 + 1) _ _ _ _ rfl (by exact ho1) (wr.heap.size + 1) (some ⟨wr.heap.size, 0, none⟩) 1 1 [y] rfl (by exact hr1) (by omega) (by simp; omega) ?_; intro A2 c2 w2 hown2 _ hb3)
      go_roundw
      case rel =>
        refine ⟨k + 1, c2, A2, by omega, by rw [show z - 1 = 7 - ((k + 1 : Nat) : Int) by rw [HZ.out]; omega], rfl, Lib.hid ?_, Lib.hid ((hb.out.alloc (by omega) _).trans hb3)⟩
        rw [wB_snoc, ← HY.out]
        exact hown2
      case measure => simp [intOf]; omega
    · obtain rfl : k = 8 := by omega
      have e4 : (7 : Int) - ((8 : Nat) : Int) = -1 := by omega
      have HO8 : Hid (OwnB wr (G + 1 + 1) A1 (8 + 0) c1 (wB h 8 ++ wB l 0)) := Lib.hid (by rw [show wB l 0 = [] by unfold wB; rfl, List.append_nil]; exact ho.out)
      rw [e4]
      clear e4
      go_wp2_with fail
      go_loopw [3, 5] (fun v i wr => ∃ (k c1 : Nat) (A1 : Option Addr), k ≤ 8 ∧ i = .int .i64 (7 - (k : Int)) ∧ v = .slice A1 (8 + k) c1 ∧ Hid (OwnB wr (G + 1 + 1) A1 (8 + k) c1 (wB h 8 ++ wB l k)) ∧ Hid (Below (G + 1 + 1) W0 wr)) (fun _ i _ => (intOf i + 1).toNat)
      case atStart => exact ⟨0, c1, A1, Nat.zero_le _, rfl, rfl, HO8, hb⟩
      case round =>
        clear ho hb HO8
        obtain ⟨k, c1, A1, hk, rfl, rfl, ho, hb⟩ := hrel
        have hsz : G + 1 + 1 + 1 ≤ wr.heap.size := by have := hb.out.size; rw [HS0.out] at this; exact this
        by_cases hlt : k < 8
        · have cx : wr.cell? ⟨G, 1, none⟩ = some (.int .u64 (l : Int)) := (hb.out.cell (p := ⟨G, 1, none⟩) (by show G < G + 1 + 1; omega)).trans HL.out
          obtain ⟨s, HS, hs⟩ : ∃ s : Nat, Hid (s = 56 - 8 * k) ∧ s ≤ 56 := ⟨_, Lib.hid rfl, by omega⟩
          obtain ⟨z, HZ, hz0, hz7⟩ : ∃ z : Int, Hid (z = 7 - (k : Int)) ∧ 0 ≤ z ∧ z ≤ 7 := ⟨_, Lib.hid rfl, by omega, by omega⟩
          have b1 : IntKind.i64.wrap (8 * z) = ((s : Nat) : Int) := by rw [IntWalk.i64_in _ (by omega), HS.out, HZ.out]; omega
          have hd : decide (z ≥ 0) = true := decide_eq_true (by omega)
          rw [← HZ.out]
          obtain ⟨y, HY⟩ : ∃ y, Hid (y = UInt8.ofNat (l / 2 ^ (56 - 8 * k))) := ⟨_, Lib.hid rfl⟩
          have hy : IntKind.u8.wrap ((l : Int) / 2 ^ s) = (y.toNat : Int) := by rw [HS.out, HY.out]; exact byte_at l k
          have hr1 := RB.new wr [y] #[.int .u8 (y.toNat : Int)] 5 rfl
          have ho1 := ho.out.alloc (.cells #[.int .u8 (y.toNat : Int)] 5)
          go_wp2_with (at_builtin; refine wpList_app rfl (.tmp 25) (.tmp 33) rfl (G + 1 + 1) _ _ _ _ rfl (by exact ho1) (wr.heap.size + 1) (some ⟨wr.heap.size, 0, none⟩) 1 1 [y] rfl (by exact hr1) (by omega) (by simp; omega) ?_; intro A2 c2 w2 hown2 _ hb3)
          go_roundw
          case rel =>
            refine ⟨k + 1, c2, A2, by omega, by rw [show z - 1 = 7 - ((k + 1 : Nat) : Int) by rw [HZ.out]; omega], rfl, Lib.hid ?_, Lib.hid ((hb.out.alloc (by omega) _).trans hb3)⟩
            rw [wB_snoc l k, ← HY.out, ← List.append_assoc]
            exact hown2
          case measure => simp [intOf]; omega
        · obtain rfl : k = 8 := by omega
          have e4 : (7 : Int) - ((8 : Nat) : Int) = -1 := by omega
          have HOE : Hid (OwnB wr (G + 1 + 1) A1 16 c1 (eB h l)) := Lib.hid (by unfold eB; exact ho.out)
          have HRR : Hid (Br wr (G + 1) 0 zP) := Lib.hid (HR0.out.below hb.out (by omega))
          have HBW : Hid (Below w.heap.size w wr) := Lib.hid (HB0.out.trans (hb.out.mono (by rw [HG.out]; omega)))
          have HCO : Hid (∀ v A c, RB v v.heap.size A 16 (eB h l) → Calls Try.prog 23 #[.slice A 16 c] v (RetT R v)) := Lib.hid (fun v A c hv => by rw [HRB.out]; exact pof_any A c (eB h l) v hv)
          have HRL : Hid (R.length = 128) := Lib.hid (by rw [HRB.out]; exact bitsOf_len _)
          rw [e4]
          clear e4 HR0 HB0
          go_wp2_with (first | (go_at_call 23; refine (HCO.out _ _ _ (by exact HOE.out.rb)).mono ?_; rintro e w1 ⟨rfl, hb1⟩; have hr1 := Lib.hid (HRR.out.below hb1 (by omega)); have hbb := Lib.hid (HBW.out.trans (hb1.mono (by rw [HG.out] at hsz; omega))); clear hb1) | (refine wpList_stT rfl _ (.tmp 2) (.tmp 36) rfl (G + 1) 0 rfl R zP rfl (by exact hr1.out) (by rw [HRL.out]; exact zP_len) (by rw [HRL.out]; exact sz_poly) ?_))
          refine bodyPost_ret (v := BV R) (res_cellT rfl _ _ (G + 1) 128 _ R rfl (hr1.out.whole R (by rw [HRL.out]; exact zP_len.symm)) up_poly (by rw [HRL.out]; exact sz_poly)) rfl ⟨rfl, ?_⟩
          exact below_setCells hbb.out (by rw [HG.out]; omega) 0 (tvs R)
end Go.Proofs.Ytdhgofolcggleaa
