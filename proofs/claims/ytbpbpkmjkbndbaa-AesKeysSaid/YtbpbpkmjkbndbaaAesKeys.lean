/- aes's Keys: the rounds' keys, new, each in a block of its own. Condition: the cipher is as New, or an earlier call, left it. -/
import Derived.Test.YtbpbpkmjkbndbaaAesUse
import Derived.Test.YtbpbpkmjkbndbaaRowsOwn
import Derived.Test.YtbpbpkmjkbndbaaRefAesKeys
namespace Go.Proofs.Ytbpbpkmjkbndbaa
attribute [local irreducible] wsW keyUpTo keyF lastW turn0 encUp decUp
open Go.RowKit
set_option linter.unusedVariables false

theorem up_keys : Try.prog.underlying 50 = some (.array 11 49) := by kernel_rfl
theorem sz_keys : (Try.prog.info? 50).map (·.size) = some 176 := by kernel_rfl
theorem kidx (l : List UInt8) (hl : l.length = 176) (k : Nat) (hk : k < 11) (W : World) : (Instr.index 50 (AV l) (.int .i64 (k : Int))).run Try.prog W = .ok (AV (cutL l (16 * k) 16)) W := by
  obtain ⟨i0, hi0, hz0⟩ : ∃ i, Try.prog.info? 49 = some i ∧ i.size = 16 := by
    have h := sz_sq
    rcases hi : Try.prog.info? 49 with _ | i
    · rw [hi] at h; simp at h
    · rw [hi] at h; exact ⟨i, rfl, by simpa using h⟩
  have hagg : (isAgg 49).run Try.prog W = .ok true W := by
    unfold isAgg
    rw [Sem.run_bind, run_underlying up_sq W]
    rfl
  have hsz : (sizeOf 49).run Try.prog W = .ok 16 W := by
    simp [sizeOf, typeInfo, hi0, hz0]
  have hk2 : (0 : Int) ≤ (k : Int) ∧ (k : Int) < ((11 : Nat) : Int) := by omega
  unfold Instr.index AV
  simp only [asIntOf, Sem.run_bind, Sem.run_pure, Result.andThen_ok, run_underlying up_keys W]
  have e : (bvs l).toArray.extract (k * 16) (k * 16 + 16) = (bvs (cutL l (16 * k) 16)).toArray := by
    apply Array.ext'
    rw [Array.toList_extract]
    unfold cutL bvs
    rw [List.extract_eq_take_drop, List.map_take, List.map_drop, show k * 16 + 16 - k * 16 = 16 by omega, Nat.mul_comm]
  rw [if_pos hk2]
  unfold part
  simp only [Sem.run_bind, hagg, hsz, Result.andThen_ok, Sem.run_pure, if_true, Int.toNat_natCast, e]

set_option maxRecDepth 100000 in
/-- append of one value to a row of the call's own, whatever the row's values. -/
theorem wp_appV {w : World} {o : Oper} {a : Act} {K : Act → World → Prop} {Q : Exit → Act → World → Prop} (s x : Operand)
    (ho : o.op = .call { callee := .builtin .append, args := #[s, x], argTypes := #[31, 31] })
    (base : Nat) (A : Option Addr) (n c : Nat) (vs : List Value) (hs : a.eval s = .slice A n c) (hown : w.ownsRow base 22 1 (.slice A n c) n vs)
    (g c' : Nat) (Ax : Option Addr) (m cx : Nat) (hx : a.eval x = .slice (some ⟨g, 0, none⟩) 1 c') (hcell : w.cell? ⟨g, 0, none⟩ = some (.slice Ax m cx))
    (hsum : n + 1 ≤ 4000000000000) (hbase : base ≤ w.heap.size)
    (h : ∀ A'' c'' w', w'.ownsRow base 22 1 (.slice A'' (n + 1) c'') (n + 1) (vs ++ [.slice Ax m cx]) → KeepsB w w' → Below base w w' → K (a.put o.dst (.slice A'' (n + 1) c'')) w') : o.wp Try.prog a w K Q := by
  obtain ⟨i0, hi0, hz0, hz1, hz2⟩ := info_parts row_info
  obtain ⟨v', w', hrun, k1, k2, _⟩ := run_append_own (P := Try.prog) w base 31 o.type 22 i0 (.slice none 0 0) 1 24 Try.underlying31 hi0 hz0 hz1 hz2 rfl (by omega) (.slice A n c) n vs hown
    ⟨g, 0, none⟩ 1 c' [.slice Ax m cx] rfl (fun j u hu => by
      have hj : j = 0 := by
        have := (List.getElem?_eq_some_iff.1 hu).1
        simp at this
        exact this
      subst hj
      simp at hu
      subst hu
      exact hcell) (by intro u hu; simp at hu; subst hu; rfl) (by unfold maxLen; omega) (by omega) hbase
  have hkb := keepsB_grown hown k2
  obtain ⟨A'', c'', rfl⟩ : ∃ A'' c'', v' = .slice A'' (n + 1) c'' := by
    rcases k1.2 with ⟨rfl, h0⟩ | ⟨g, cap, cur, rfl, _⟩
    · omega
    · exact ⟨_, _, rfl⟩
  unfold Oper.wp execOp
  simp only [ho, resolve, invoke, builtin, Sem.run_bind, Sem.run_pure, Result.andThen_ok, List.map_toArray, List.map_cons, List.map_nil, hs, hx, hrun]
  exact h A'' c'' w' k1 hkb ((Below.refl _ _).grown k2 hbase (fun k hk => (World.ownsRow.lt hown k hk).1))
theorem wpList_appV {w : World} {ops : Array Oper} {rest : List Oper} {o : Oper} {a : Act} {Q : Exit → Act → World → Prop} (hgd : o.guard = none) (s x : Operand)
    (ho : o.op = .call { callee := .builtin .append, args := #[s, x], argTypes := #[31, 31] })
    (base : Nat) (A : Option Addr) (n c : Nat) (vs : List Value) (hs : a.eval s = .slice A n c) (hown : w.ownsRow base 22 1 (.slice A n c) n vs)
    (g c' : Nat) (Ax : Option Addr) (m cx : Nat) (hx : a.eval x = .slice (some ⟨g, 0, none⟩) 1 c') (hcell : w.cell? ⟨g, 0, none⟩ = some (.slice Ax m cx))
    (hsum : n + 1 ≤ 4000000000000) (hbase : base ≤ w.heap.size)
    (h : ∀ A'' c'' w', w'.ownsRow base 22 1 (.slice A'' (n + 1) c'') (n + 1) (vs ++ [.slice Ax m cx]) → KeepsB w w' → Below base w w' → wpList Try.prog ops Q rest (a.put o.dst (.slice A'' (n + 1) c'')) w') : wpList Try.prog ops Q (o :: rest) a w :=
  wpList_plain hgd fun _ hK => wp_appV s x ho base A n c vs hs hown g c' Ax m cx hx hcell hsum hbase fun A'' c'' w' h2 h3 h4 => hK _ _ (h A'' c'' w' h2 h3 h4)
theorem wpList_mkR0 {w : World} {ops : Array Oper} {rest : List Oper} {o : Oper} {a : Act} {Q : Exit → Act → World → Prop} (hgd : o.guard = none) (lo co : Operand) (hop : o.op = Op.makeSlice 31 lo co)
    (base : Nat) (kl kc : IntKind) (C : Int) (n : Nat) (hl : a.eval lo = .int kl 0) (hc : a.eval co = .int kc C) (hC : C = (n : Int)) (hn : n ≤ 4000000000000) (hbase : base ≤ w.heap.size)
    (hK : ∀ w', w'.ownsRow base 22 1 (.slice (some ⟨w.heap.size, 0, none⟩) 0 n) 0 [] → Below w.heap.size w w' → wpList Try.prog ops Q rest (a.put o.dst (.slice (some ⟨w.heap.size, 0, none⟩) 0 n)) w') :
    wpList Try.prog ops Q (o :: rest) a w := by
  obtain ⟨i0, hi0, hz0, hz1, hz2⟩ := info_parts row_info
  exact wpList_make_own w hgd lo co 31 hop base 22 i0 _ 1 Try.underlying31 hi0 hz0 hz1 kl kc C n hl hc hC (by rw [hz2]; omega) (by unfold maxLen; omega) hbase
    fun w' h1 h2 => hK w' h1 ((Below.refl _ _).grown h2 (Nat.le_refl _) (by simp))
/-- k rows, row i of the call's own in block rb i, the blocks one behind the other. -/
structure KRows (w : World) (base : Nat) (key : List UInt8) (rb cp : Nat → Nat) (k : Nat) (vs : List Value) : Prop where
  len : vs.length = k
  row : ∀ i, i < k → vs[i]? = some (.slice (some ⟨rb i, 0, none⟩) 16 (cp i)) ∧ OwnB w base (some ⟨rb i, 0, none⟩) 16 (cp i) (keyF key tableL i)
  lt : ∀ i j, i < j → j < k → rb i < rb j
theorem KRows.keep {w w' : World} {base k : Nat} {key : List UInt8} {rb cp : Nat → Nat} {vs : List Value} (h : KRows w base key rb cp k vs) (hk : KeepsB w w') : KRows w' base key rb cp k vs :=
  ⟨h.len, fun i hi => ⟨(h.row i hi).1, hk _ _ _ _ _ (h.row i hi).2⟩, h.lt⟩
theorem OwnB.blk {w : World} {base n c g : Nat} {l : List UInt8} (h : OwnB w base (some ⟨g, 0, none⟩) n c l) : base ≤ g ∧ g < w.heap.size := World.ownsRow.lt h g rfl
theorem KRows.push {w : World} {base k : Nat} {key : List UInt8} {rb cp : Nat → Nat} {vs : List Value} (h : KRows w base key rb cp k vs) (g c : Nat) (ho : OwnB w base (some ⟨g, 0, none⟩) 16 c (keyF key tableL k)) (hlt : ∀ i, i < k → rb i < g) :
    KRows w base key (fun i => if i = k then g else rb i) (fun i => if i = k then c else cp i) (k + 1) (vs ++ [.slice (some ⟨g, 0, none⟩) 16 c]) := by
  refine ⟨by simp [h.len], fun i hi => ?_, fun i j hij hj => ?_⟩
  · have hl := h.len
    by_cases e : i = k
    · subst e
      simp only [if_true]
      refine ⟨?_, ho⟩
      rw [List.getElem?_append_right (by omega), show i - vs.length = 0 by omega]; rfl
    · simp only [if_neg e]
      obtain ⟨h1, h2⟩ := h.row i (by omega)
      exact ⟨by rw [List.getElem?_append_left (by omega)]; exact h1, h2⟩
  · simp only [if_neg (show ¬ i = k by omega)]
    by_cases e : j = k
    · subst e; simp only [if_true]; exact hlt i hij
    · simp only [if_neg e]; exact h.lt i j hij (by omega)
/-- A call that gives the rounds' keys. -/
def RetK (key : List UInt8) (w : World) (e : Ending) (w' : World) : Prop :=
  ∃ A c vs rb cp, e = .returned (.slice A 11 c) ∧ w'.ownsRow w.heap.size 22 1 (.slice A 11 c) 11 vs ∧ KRows w' w.heap.size key rb cp 11 vs ∧ Below w.heap.size w w'

set_option maxRecDepth 100000 in
set_option maxHeartbeats 2000000 in
theorem keysr_any (cb b lo n : Nat) (key : List UInt8) (w : World) (h : Ob cb b lo key n w) :
    Calls Try.prog 13 #[.pointer (some ⟨cb, 0, none⟩)] w (RetK key w) := by
  have HO := Lib.hid h
  obtain ⟨L, HL⟩ : ∃ L, Hid (L = keysF key tableL) := ⟨_, Lib.hid rfl⟩
  have HL176 : Hid (L.length = 176) := Lib.hid (by rw [HL.out]; exact h.cf.len)
  clear h
  go_enter Try.func13, Try.ntmps13
  go_wp2_with (first | (refine wpList_mkR0 rfl _ _ rfl w.heap.size .i64 .i64 11 11 rfl rfl rfl (by omega) (Nat.le_refl _) ?_; intro w1 hown hb1; have HOW := Lib.hid hown; have HB1 := Lib.hid hb1; have HC1 : Hid (Ar w1 cb 1 L) := Lib.hid (by rw [HL.out]; exact (HO.out.below hb1).cf.ar); clear hown hb1) | (refine wpList_ldA rfl _ (.tmp 9) rfl cb 1 11 _ rfl L (by exact HC1.out) up_keys (by rw [HL176.out]; exact sz_keys) ?_))
  go_loopw [3, 11] (fun v i wr => ∃ (k c1 : Nat) (A1 : Option Addr) (vs : List Value) (rb cp : Nat → Nat), k ≤ 11 ∧ i = .int .i64 k ∧ v = .slice A1 k c1 ∧ Hid (wr.ownsRow w.heap.size 22 1 (.slice A1 k c1) k vs) ∧ Hid (KRows wr w.heap.size key rb cp k vs) ∧ Hid (Below w.heap.size w wr)) (fun _ i _ => 11 - (intOf i).toNat)
  case atStart => exact ⟨0, 11, _, [], fun _ => 0, fun _ => 0, by omega, rfl, rfl, HOW, Lib.hid ⟨rfl, fun i hi => absurd hi (by omega), fun i j h1 h2 => absurd h2 (by omega)⟩, HB1⟩
  case round =>
    clear HOW HB1 HC1
    obtain ⟨k, c1, A1, vs, rb, cp, hk, rfl, rfl, ho, hr, hb⟩ := hrel
    by_cases hlt : k < 11
    · obtain ⟨kk, HKK⟩ : ∃ kk, Hid (kk = keyF key tableL k) := ⟨_, Lib.hid rfl⟩
      have HK16 : Hid (kk.length = 16) := Lib.hid (by rw [HKK.out]; exact keyF_len key tableL HO.out.len k hlt)
      have hidx : ∀ W : World, (Instr.index 50 (AV L) (.int .i64 (k : Int))).run Try.prog W = .ok (AV kk) W := fun W => by
        rw [kidx L HL176.out k hlt W, HL.out, HKK.out]
        unfold keysF
        rw [keyUpTo_cut16 key tableL HO.out.len k 44 (by omega) (by omega)]
      have HZ : Hid (Ar (wr.alloc (.cells (bvs zeros16).toArray 49)) wr.heap.size 0 zeros16) := Lib.hid (Ar.new _ _ _)
      have hb5 : Below wr.heap.size wr ((wr.alloc (.cells (bvs zeros16).toArray 49)).setCells wr.heap.size 0 (bvs kk)) := below_setCells (below_alloc wr _) (Nat.le_refl _) _ _
      have HB5 := Lib.hid hb5
      have HA5 : Hid (Ar ((wr.alloc (.cells (bvs zeros16).toArray 49)).setCells wr.heap.size 0 (bvs kk)) wr.heap.size 0 kk) := Lib.hid (HZ.out.whole kk (by rw [HK16.out]; rfl))
      clear hb5
      go_wp2_with (first | (refine wpList_stA rfl _ (.tmp 5) (.tmp 13) rfl wr.heap.size 0 rfl kk zeros16 rfl (by exact HZ.out) (by rw [HK16.out]; rfl) (by rw [HK16.out]; exact sz_sq) ?_) | (refine wpList_ldA rfl _ (.tmp 5) rfl wr.heap.size 0 4 _ rfl kk (by exact HA5.out) up_sq (by rw [HK16.out]; exact sz_sq) ?_))
      refine (sbytes_any kk _ HK16.out).mono ?_
      rintro e w2 ⟨A2, c2, rfl, ho2, hb2⟩
      have hb2' : Below wr.heap.size wr w2 := HB5.out.trans (hb2.mono HB5.out.size)
      have ho2' : OwnB w2 wr.heap.size A2 16 c2 kk := ho2.base_le HB5.out.size
      obtain ⟨g2, rfl, hg2a, hg2b⟩ := ho2'.form (by omega)
      have HO2 := Lib.hid ho2'
      have HB2 := Lib.hid hb2'
      clear ho2 hb2 ho2' hb2' HA5 HZ HB5
      have HBW : Hid (w.heap.size ≤ wr.heap.size) := Lib.hid hb.out.size
      go_wp2_with (at_builtin; refine wpList_appV rfl (.tmp 14) (.tmp 17) rfl w.heap.size A1 k c1 vs rfl (by exact ownsRow_below ho.out (HB2.out.trans ((below_alloc w2 _).mono HB2.out.size))) w2.heap.size 1 (some ⟨g2, 0, none⟩) 16 c2 rfl (by exact cell_one _ _ _) (by omega) (by exact Nat.le_trans HBW.out (Nat.le_trans HB2.out.size (by simp))) ?_; intro A3 c3 w3 hown3 hk3 hb3)
      go_roundw
      case rel =>
        have hkeep : KeepsB wr w3 := ((keepsB_below HB2.out).trans (keepsB_below (below_alloc w2 _))).trans hk3
        have ho3 : OwnB w3 w.heap.size (some ⟨g2, 0, none⟩) 16 c2 (keyF key tableL k) := by
          rw [← HKK.out]
          exact hk3 _ _ _ _ _ ((HO2.out.base_le HBW.out).below (below_alloc w2 _))
        refine ⟨k + 1, c3, A3, _, _, _, by omega, by go_num, rfl, Lib.hid hown3, Lib.hid ((hr.out.keep hkeep).push g2 c2 ho3 (fun i hi => ?_)), Lib.hid (((hb.out.trans (HB2.out.mono HBW.out)).trans ((below_alloc w2 _).mono (Nat.le_trans HBW.out HB2.out.size))).trans hb3)⟩
        have := (hr.out.row i hi).2.blk
        omega
      case measure => simp [intOf]; omega
    · obtain rfl : k = 11 := by omega
      go_wp2
      go_ret
      exact ⟨A1, c1, vs, rb, cp, rfl, ho.out, hr.out, hb.out⟩
/-- The same as rows of bytes. -/
theorem keys_rows {key : List UInt8} {w w' : World} {e : Ending} (h : RetK key w e w') : ∃ A c, e = .returned (.slice A 11 c) ∧ OwnR w' w.heap.size A 11 c (keysL key tableL) ∧ Below w.heap.size w w' := by
  obtain ⟨A, c, vs, rb, cp, he, ho, hr, hb⟩ := h
  refine ⟨A, c, he, ⟨vs, ho, by rw [hr.len, keysL_len], fun i p hp => ?_⟩, hb⟩
  have hi : i < 11 := by have := (List.getElem?_eq_some_iff.1 hp).1; rw [keysL_len] at this; exact this
  rw [keysL_at key tableL i hi] at hp
  injection hp with hp
  subst hp
  obtain ⟨h1, h2⟩ := hr.row i hi
  rw [h2.len]
  exact ⟨_, _, h1, h2⟩
end Go.Proofs.Ytbpbpkmjkbndbaa
