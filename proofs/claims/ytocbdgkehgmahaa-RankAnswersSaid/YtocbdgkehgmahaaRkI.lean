/- Layer 23: sorting by compare; the program's Order. Conditions: what they read is readable. -/
import Derived.Test.YtocbdgkehgmahaaRkT
import Derived.Test.YtocbdgkehgmahaaRkY
import Derived.Test.YtocbdgkehgmahaaRkLay
import Derived.Shelf.SlSortCmp.NoneTotal
namespace Go.Proofs.Ytocbdgkehgmahaa
open Go.RowKit Go.Maps
set_option linter.unusedVariables false
set_option linter.unusedSimpArgs false
attribute [local irreducible] mixF scF scE scA okE tabE bestT ordA ordT leftT keepE cmpS cmpI ltS
theorem lt_cmpS : (Go.Proofs.ltOf cmpS) = ltS := by
  funext a b
  exact cmpS_lt a b
theorem swo_cmpS : Go.Sort.SWO (Go.Proofs.ltOf cmpS) := by
  rw [lt_cmpS]
  refine ⟨fun x => ?_, fun x y z h1 h2 => ?_, fun x y z h1 h2 => ?_⟩
  · rw [ltS_no]; omega
  · rw [ltS_iff] at *; omega
  · rw [ltS_no] at *; omega
set_option maxHeartbeats 1000000 in
theorem sort_any (base : Nat) (A : Option Addr) (n c : Nat) (l : List (Int × Int)) (w : World) (h : OwnS w base A n c l) (hb : base ≤ w.heap.size) (hn : n ≤ 64) :
    Calls Try.prog 26 #[.slice A n c, .func (.func 27) #[] #[]] w fun r w' => r = .returned (.tuple #[]) ∧ ∃ l' : List (Int × Int), l.Perm l' ∧ l'.Pairwise (fun a b => ltS b a = false) ∧ OwnS w' base A n c l' ∧ Below base w w' := by
  have hlen := h.len
  rcases Nat.eq_zero_or_pos n with h0 | h0
  · subst h0
    obtain rfl := List.eq_nil_of_length_eq_zero hlen
    refine (AnyF.slices_SortFunc_none sortL A c (.func (.func 27) #[] #[]) w).mono ?_
    rintro e w' ⟨rfl, rfl⟩
    exact ⟨rfl, [], List.Perm.refl _, List.Pairwise.nil, h, Below.refl _ _⟩
  · obtain ⟨g, rfl, _⟩ := Grd.spot h h0
    have hg := (Grd.blk h (g := g) (by simp [blkO])).2.2.1
    have eg : ∀ args w, (callFunc 27 args).run Try.prog w = .ok (.enter 27 args) w := enters_of Try.func27 (by kernel_rfl) rfl
    have hsz : l.toArray.size = n := by simpa using hlen
    have hcon := AnyQ.slices_SortFunc_total sortL 2 (fun w => by kernel_rfl) (fun w => by kernel_rfl) sco sco_len (fun x => sco_one x) cmpS swo_cmpS 27 #[] g 0 c l.toArray w eg (fun _ _ _ _ x y => compare_any x y _) h.holds hg (by omega) (fun x y h1 h2 => by rw [lt_cmpS] at h1 h2; exact ltS_total x y h1 h2)
    rw [hsz] at hcon
    refine Calls.mono hcon ?_
    rintro e w' ⟨rfl, m, os, rfl⟩
    obtain ⟨L, hL⟩ : ∃ L, L = (l.toArray.toList.mergeSort fun x y => !(Go.Proofs.ltOf cmpS) y x) := ⟨_, rfl⟩
    have hp : l.Perm L := by rw [hL]; exact (List.mergeSort_perm ..).symm
    have hs : L.Pairwise (fun a b => ltS b a = false) := by
      have := List.pairwise_mergeSort (le := fun x y => !(Go.Proofs.ltOf cmpS) y x) (fun a b c h1 h2 => by
        rw [lt_cmpS] at *
        simp only [Bool.not_eq_true'] at *
        rw [ltS_no] at *
        omega) (fun a b => by
        rw [lt_cmpS]
        rcases hab : ltS b a with _ | _
        · rfl
        · have h1 := ltS_iff.1 hab
          have : ltS a b = false := by rw [ltS_no]; omega
          rw [this]; rfl) l.toArray.toList
      rw [← hL] at this
      exact this.imp fun {a b} h => by rw [lt_cmpS] at h; simpa using h
    rw [← hL]
    obtain ⟨h1, h2⟩ := h.sorted (m := m) (os := os) (l' := L) hb (by rw [← hlen]; exact hp.length_eq.symm)
    exact ⟨rfl, L, hp, hs, h1, h2⟩
theorem low_i64 {T : Nat → Option Nat} {L : List (Int × Int)} (h : Says T L) : ∀ x ∈ L, -9223372036854775808 ≤ x.1 ∧ x.1 ≤ 9223372036854775807 := fun x hx => by
  obtain ⟨i, t, rfl, hi⟩ := h.low x hx
  simp only
  omega
theorem wpList_mkZ {w : World} {ops : Array Oper} {rest : List Oper} {o : Oper} {a : Act} {Q : Exit → Act → World → Prop} (hgd : o.guard = none) (lo co : Operand) (hop : o.op = Op.makeSlice 41 lo co)
    (base : Nat) (kl kc : IntKind) (C : Int) (n : Nat) (hl : a.eval lo = .int kl 0) (hc : a.eval co = .int kc C) (hC : C = (n : Int)) (hn : n ≤ 1000000) (hbase : base ≤ w.heap.size)
    (hK : ∀ w', OwnZ w' base (some ⟨w.heap.size, 0, none⟩) 0 n [] → Below w.heap.size w w' → wpList Try.prog ops Q rest (a.put o.dst (.slice (some ⟨w.heap.size, 0, none⟩) 0 n)) w') :
    wpList Try.prog ops Q (o :: rest) a w := by
  obtain ⟨i0, hi0, hz0, hz1, hz2⟩ := info_parts i64_info
  exact wpList_make_own w hgd lo co 41 hop base 3 i0 _ 1 Try.underlying41 hi0 hz0 hz1 kl kc C n hl hc hC (by rw [hz2]; omega) (by unfold maxLen; omega) hbase
    fun w' h1 h2 => hK w' ⟨h1, fun x hx => by cases hx⟩ ((Below.refl _ _).grown h2 (Nat.le_refl _) (by simp))
set_option maxRecDepth 100000 in
set_option maxHeartbeats 4000000 in
theorem order_any (s : Nat) (A : Option Addr) (n c : Nat) (l : List UInt8) (Ae : Option Addr) (ne ce : Nat) (es : List (Int × Int)) (w : World) (hs : s < 18446744073709551616) (h : RB w w.heap.size A n l) (hn : n ≤ maxLen) (he : EL w w.heap.size Ae ne es) (hne : ne ≤ 1000000) :
    Calls Try.prog 15 #[.int .u64 (s : Int), .slice A n c, .slice Ae ne ce] w fun r w' => ∃ (Ao : Option Addr) (co : Nat), r = .returned (.slice Ao (ordA (tabE (scE s l) es)).length co) ∧ OwnZ w' w.heap.size Ao (ordA (tabE (scE s l) es)).length co (intsN (ordA (tabE (scE s l) es))) ∧ Below w.heap.size w w' := by
  have HR := Lib.hid h
  have HC := Lib.hid (counting_any Ae ne ce es w he hne)
  rw [← keep_tab (f := scE s l) (es := es)]
  have hu := keep_unl (es := es)
  have h64 := keep_64 (es := es)
  generalize keepE es = K at HC hu h64 ⊢
  obtain ⟨m, HM⟩ : ∃ m, Hid (m = K.length) := ⟨_, Lib.hid rfl⟩
  rw [← HM.out] at HC h64
  have HSY := Lib.hid (says_rows (f := scE s l) hu)
  have HSC := Lib.hid (fun Ao co W hR hE => scores_any s A n c l Ao m co K W hs hR hn hE h64 hu.1)
  have HRL : Hid ((rowS (scE s l) K).length = m) := Lib.hid (by unfold rowS; rw [List.length_map]; exact HM.out.symm)
  generalize tabE (scE s l) K = T at HSY ⊢
  generalize rowS (scE s l) K = R at HSY HSC HRL
  obtain ⟨O, HO⟩ : ∃ O, Hid (O = ordA T) := ⟨_, Lib.hid rfl⟩
  rw [← HO.out]
  clear h he hu
  go_enter Try.func15, Try.ntmps15
  go_wp2_with fail
  refine HC.out.mono ?_
  rintro r w1 ⟨Ak, ck, rfl, ho, hb⟩
  have HEK := Lib.hid ho.el
  have HB1 := Lib.hid hb
  clear ho hb
  go_wp2_with fail
  refine (HSC.out Ak ck w1 (by exact HR.out.step HB1.out) (by exact HEK.out)).mono ?_
  rintro r w2 ⟨As, cs, rfl, ho, hb⟩
  have HOS := Lib.hid ho
  have HB2 := Lib.hid (bel_next HB1.out hb)
  clear ho hb
  go_wp2_with fail
  refine (sort_any w.heap.size As m cs R w2 (by exact HOS.out.base_le HB1.out.size) (by exact HB2.out.size) h64).mono ?_
  rintro r w3 ⟨rfl, L, hp, hsd, ho, hb⟩
  have HOL := Lib.hid ho
  have HB3 := Lib.hid (HB2.out.trans hb)
  have hSL := HSY.out.perm hp
  have HLO := Lib.hid (low_i64 hSL)
  have HLL : Hid (L.length = m) := Lib.hid (by rw [← hp.length_eq]; exact HRL.out)
  have HOR : Hid (L.map (·.1) = intsN O) := Lib.hid (by rw [says_order L T hSL hsd, HO.out]; rfl)
  have HOL2 : Hid (O.length = m) := Lib.hid (by rw [HO.out, says_len hSL hsd]; exact HLL.out)
  clear ho hb hp hsd hSL
  go_wp2_with (at_make; refine wpList_mkZ rfl _ _ rfl w.heap.size .i64 .i64 _ m rfl rfl rfl (by omega) (by exact HB3.out.size) ?_; intro w4 z4 hb4; have Z4 := Lib.hid z4; have S4 := Lib.hid (HOL.out.step hb4); have B4 := Lib.hid (bel_next HB3.out hb4); have HAP : Hid (w3.heap.size = w3.heap.size) := Lib.hid rfl; clear z4 hb4)
  go_loopw [8, 10, 23] (fun v _ i wr => ∃ (k : Nat) (A1 : Option Addr) (d1 : Nat), k ≤ m ∧ i = .int .i64 k ∧ v = .slice A1 k d1 ∧ Hid (OwnZ wr w.heap.size A1 k d1 ((L.take k).map (·.1))) ∧ Hid (OwnS wr w.heap.size As m cs L) ∧ Hid (Below w.heap.size w wr)) (fun _ _ i _ => m - (intOf i).toNat)
  case atStart => exact ⟨0, _, _, Nat.zero_le _, rfl, rfl, Z4, S4, B4⟩
  case round =>
    obtain ⟨k, A1, d1, hk, rfl, rfl, hz, hss, hb⟩ := hrel
    clear Z4 S4 B4
    by_cases hlt : k < m
    · obtain ⟨g, o, rfl, hg, hat⟩ := hss.out.all (Nat.lt_of_le_of_lt (Nat.zero_le _) hlt)
      obtain ⟨e, hek, hr⟩ := hat k hlt
      obtain ⟨x, y⟩ := e
      have HRG := Lib.hid hr
      have HI := Lib.hid (HLO.out (x, y) (List.mem_of_getElem? hek))
      have HTK : Hid ((L.take (k + 1)).map (·.1) = (L.take k).map (·.1) ++ [x]) := Lib.hid (by rw [List.take_add_one, hek, List.map_append]; rfl)
      have HAW : Hid (∀ q ∈ blkO (some (⟨g, o, none⟩ : Addr)), q ∉ blkO A1) := Lib.hid (fun q hq hm => by
        obtain ⟨_, cur, hh⟩ := hz.out.spot q hm
        obtain ⟨_, _, _, cur2, hh2, _⟩ := Grd.blk hss.out hq
        rw [hh] at hh2
        injection hh2 with hh2
        injection hh2 with _ hh2
        exact absurd hh2 (by decide))
      clear hat hr hek
      go_wp2_with (first
        | (refine wpList_ldS rfl (.tmp 25) rfl g (o + k * 2) (by first | rfl | simp [Act.eval, Act.put]) (x, y) HRG.out ?_)
        | (refine wpList_newB rt_sc rfl rfl ?_; intro w5 q5 k5 hb5 hx5; have K5 := Lib.hid k5; have B5 := Lib.hid (bel_next hb.out hb5); have Z5 := Lib.hid (hz.out.below hb5); have S5 := Lib.hid (hss.out.step hb5); have X5 := Lib.hid hx5; clear k5 hb5 hx5)
        | (refine wpList_stB rt_sc rfl (.tmp 10) (.tmp 26) rfl q5 0 rfl [.int .i64 0, .int .u64 0] (sco (x, y)) rfl (sco_one _) rfl K5.out (by decide) ?_; intro w6 k6 ho6 hs6; have c0 := k6.cell 0; simp only [sco, putsL, List.set_cons_zero, List.set_cons_succ, List.getElem?_cons_zero] at c0; have Z6 := Lib.hid (Z5.out.oth ho6 (fun q hq hm => by obtain ⟨_, cur, hh⟩ := hz.out.spot q hq; have := (Array.getElem?_eq_some_iff.1 hh).1; have := X5.out; have := List.mem_singleton.1 hm; omega)); have S6 : Hid (OwnS w6 w.heap.size (some ⟨g, o, none⟩) m cs L) := Lib.hid (Grd.oth S5.out ho6 (fun q hq hm => by have := (Grd.lt hss.out q hq).2; have := X5.out; have := List.mem_singleton.1 hm; omega)); have B6 := Lib.hid (B5.out.trans (ho6.below (fun j hj => by rw [List.mem_singleton.1 hj]; exact Nat.le_trans hb.out.size X5.out) B5.out.size)); clear k6 ho6 hs6)
        | (at_builtin; refine wpList_appZ rfl (.tmp 27) (.tmp 30) rfl w.heap.size _ _ _ _ rfl (by exact Z6.out.below (below_alloc _ _)) _ (some ⟨w6.heap.size, 0, none⟩) 1 1 [x] rfl (by exact ZL.lit w6 [x] _ 1 w6.heap.size _ (by rfl) rfl rfl (by intro y hy; rw [List.mem_singleton.1 hy]; exact HI.out)) (by omega) (by have := B6.out.size; rw [World.size_alloc]; omega) ?_; intro A7 c7 w7 ho7 hg7 hb7; have Z7 := Lib.hid ho7; have S7 : Hid (OwnS w7 w.heap.size (some ⟨g, o, none⟩) m cs L) := Lib.hid (Grd.oth (Grd.step S6.out (below_alloc w6 (.cells #[.int .i64 x] 3))) (Oth.of_grown hg7) HAW.out); have B7 := Lib.hid (B6.out.trans (((below_alloc w6 _).mono B6.out.size).trans hb7)); clear ho7 hg7 hb7))
      go_roundw
      case rel => exact ⟨k + 1, A7, c7, by omega, by go_num, rfl, Lib.hid (by rw [HTK.out]; exact Z7.out), S7, B7⟩
      case measure => simp [intOf]; omega
    · obtain rfl : k = m := by omega
      have HZ := hz.out
      rw [List.take_of_length_le (by have := HLL.out; omega)] at HZ
      have HZ := Lib.hid HZ
      go_wp2_with fail
      go_ret
      rw [HOL2.out, ← HOR.out]
      exact ⟨A1, d1, rfl, HZ.out, hb.out⟩
end Go.Proofs.Ytocbdgkehgmahaa
