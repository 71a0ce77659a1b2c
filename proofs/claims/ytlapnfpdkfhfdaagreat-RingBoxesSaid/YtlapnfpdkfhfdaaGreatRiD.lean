/- Layer 19: Install, Retire, Clone of a ring. Condition: what is said of the ring. -/
import Derived.Test.YtlapnfpdkfhfdaaGreatRiC
import Derived.Laws.Cover3
namespace Go.Proofs.YtlapnfpdkfhfdaaGreat
open Go.RowKit
set_option linter.unusedVariables false
set_option linter.unusedSimpArgs false
theorem sq_yes {q : Int} (h : isSq q = true) : 0 ≤ q ∧ q ≤ 127 := by unfold isSq at h; exact of_decide_eq_true h
theorem sq_no {q : Int} (h : isSq q = false) : ¬ (0 ≤ q ∧ q ≤ 127) := by unfold isSq at h; exact of_decide_eq_false h
section
variable {s : Rg} {q : Int} {k : List UInt8}
theorem inst_range (h : isSq q = false) : instR s q k = (s, 11) := by unfold instR; rw [if_pos (fun e => sq_no h ⟨e.1, e.2.1⟩)]
theorem inst_size (h : k.length ≠ 16) : instR s q k = (s, 11) := by unfold instR; rw [if_pos (fun e => h e.2.2)]
theorem inst_there (h : isSq q = true) (hk : k.length = 16) (hh : hasR s q = true) : instR s q k = (s, 16) := by
  unfold instR; rw [if_neg (fun e => e ⟨(sq_yes h).1, (sq_yes h).2, hk⟩), if_pos hh]
theorem inst_full (h : isSq q = true) (hk : k.length = 16) (hh : hasR s q = false) (hl : s.length = 16) : instR s q k = (s, 18) := by
  unfold instR; rw [if_neg (fun e => e ⟨(sq_yes h).1, (sq_yes h).2, hk⟩), if_neg (by rw [hh]; decide), if_pos hl]
theorem inst_done (h : isSq q = true) (hk : k.length = 16) (hh : hasR s q = false) (hl : s.length ≠ 16) : instR s q k = (s ++ [(q, k)], 0) := by
  unfold instR; rw [if_neg (fun e => e ⟨(sq_yes h).1, (sq_yes h).2, hk⟩), if_neg (by rw [hh]; decide), if_neg hl]
theorem ret_range (h : isSq q = false) : retR s q = (s, 11) := by unfold retR; rw [if_pos (sq_no h)]
theorem ret_gone (h : isSq q = true) (hh : hasR s q = false) : retR s q = (s, 17) := by
  unfold retR; rw [if_neg (fun e => e (sq_yes h)), if_neg (by rw [hh]; decide)]
theorem ret_done (h : isSq q = true) {i : Nat} (hf : findR s q = some i) : retR s q = (s.eraseIdx i, 0) := by
  have hh : hasR s q = true := by unfold hasR; rw [hf]; rfl
  unfold retR; rw [if_neg (fun e => e (sq_yes h)), if_pos hh, hf]; rfl
end
theorem RetRn.same {base x : Nat} {A : Option Addr} {c : Nat} {es : Ens} {N F : Nat} {w w' : World} (h : Rn base w x A c es N F) (hb : Below w.heap.size w w') : RetRn base x A es N F (rgE es) w w' :=
  ⟨A, c, es, h.step hb, rfl, Oth.of_below hb, fun e he => .inl he, fun g hg => .inl hg⟩
theorem RetRn.later {base x : Nat} {A : Option Addr} {es : Ens} {N F : Nat} {s : Rg} {w w1 w' : World} (hb : Below w.heap.size w w1) (h : RetRn base x A es N F s w1 w') : RetRn base x A es N F s w w' := by
  obtain ⟨A', c', es', h1, h2, h3, h4, h5⟩ := h
  exact ⟨A', c', es', h1, h2, (Oth.of_below hb).trans h3, fun e he => (h4 e he).imp id (fun k => Nat.le_trans hb.size k), fun g hg => (h5 g hg).imp id (fun k => Nat.le_trans hb.size k)⟩
theorem rb_range {w : World} {b o n : Nat} {l : List UInt8} (h : RB w w.heap.size (some ⟨b, o, none⟩) n l) (hn : 0 < n) : w.rangeAt b o (bvs l) := fun j v hv => by
  obtain ⟨b', o', e, _, hc⟩ := h.2 hn
  injection e with e
  injection e with e1 e2
  subst e1; subst e2
  have hj : j < l.length := by have := (List.getElem?_eq_some_iff.1 hv).1; simpa [bvs] using this
  rw [hc j hj, ← hv]
  simp [bvs, hj]
set_option maxRecDepth 100000 in
set_option maxHeartbeats 8000000 in
theorem install_any (base : Nat) (x : Nat) (A : Option Addr) (c : Nat) (es : Ens) (N F : Nat) (q : Int) (K : Option Addr) (m d : Nat) (l : List UInt8) (w : World) (h : Rn base w x A c es N F) (hn : es.length ≤ 16) (hk : RB w w.heap.size K m l) (hd : m ≤ d) (h1 : 1 ≤ N) (hbw : base ≤ w.heap.size) :
    Calls Tryz.prog 15 #[.pointer (some ⟨x, 0, none⟩), .int .i64 q, .slice K m d] w fun e w' => e = .returned (.int .i64 (instR (rgE es) q l).2) ∧ RetRn base x A es N F (instR (rgE es) q l).1 w w' := by
  have H := Lib.hid h
  have HK := Lib.hid hk
  have hlen := hk.len
  have HNN := Lib.hid (And.intro h1 hbw)
  obtain ⟨n, HN⟩ : ∃ n, Hid (es.length = n) := ⟨_, Lib.hid rfl⟩
  have HS := isSeq_any q
  have HI := Lib.hid (find_any base x A c es N F q w h (by omega))
  have hn2 : n ≤ 16 := by rw [← HN.out]; exact hn
  clear h hk h1 hbw hn
  cases hs : isSq q
  · rw [inst_range hs]
    rw [hs] at HS
    have HSS := Lib.hid HS
    clear hs HS
    go_enter Tryz.func15, Tryz.ntmps15
    go_wp2_with fail
    refine (HSS.out _).mono ?_
    rintro e w1 ⟨rfl, rfl⟩
    go_wp2_with fail
    go_ret
    exact ⟨rfl, RetRn.same H.out (Below.refl _ _)⟩
  · rw [hs] at HS
    have HSS := Lib.hid HS
    by_cases hm : m = 16
    · subst hm
      obtain ⟨b, o, rfl⟩ : ∃ b o, K = some ⟨b, o, none⟩ := by obtain ⟨b, o, e, _⟩ := HK.out.2 (by omega); exact ⟨b, o, e⟩
      cases hv : hasR (rgE es) q
      · rw [idx_neg hv] at HI
        by_cases hl : n = 16
        · rw [inst_full hs hlen hv (by rw [rg_len, HN.out]; exact hl)]
          subst hl
          clear hs HS hv
          go_enter Tryz.func15, Tryz.ntmps15
          go_wp2_with fail
          refine (HSS.out _).mono ?_
          rintro e w1 ⟨rfl, rfl⟩
          go_wp2_with fail
          refine HI.out.mono ?_
          rintro e w1 ⟨rfl, hb⟩
          have HB := Lib.hid hb
          have hc0 := (H.out.step hb).c0
          rw [HN.out] at hc0
          clear hb
          go_wp2_with fail
          go_ret
          exact ⟨rfl, RetRn.same H.out HB.out⟩
        · rw [inst_done hs hlen hv (by rw [rg_len, HN.out]; exact hl)]
          have hge : decide ((n : Int) ≥ 16) = false := decide_eq_false (by omega)
          have harr : ∀ W : World, (Instr.arrayAt 58 (.slice (some ⟨b, o, none⟩) 16 d)).run Tryz.prog W = .ok (.pointer (some ⟨b, o, none⟩)) W := fun W => run_arrayAt (P := Tryz.prog) W 58 _ 16 _ 16 d Tryz.underlying58 (Nat.le_refl _)
          clear hs HS hv
          go_enter Tryz.func15, Tryz.ntmps15
          go_wp2_with fail
          refine (HSS.out _).mono ?_
          rintro e w1 ⟨rfl, rfl⟩
          go_wp2_with fail
          refine HI.out.mono ?_
          rintro e w1 ⟨rfl, hb⟩
          have HB := Lib.hid hb
          have H1 := Lib.hid (H.out.step hb)
          have hc0 := H1.out.c0
          rw [HN.out] at hc0
          have HR := Lib.hid (rb_range (HK.out.step hb) (by omega))
          clear hb
          go_wp2_with (first
            | (refine wpList_ldR rt_key rfl (.tmp 28) rfl b o rfl (bvs l) HR.out (by rw [bvs_len, hlen]; rfl) ?_))
          refine (add_any base x A c es N F q l w1 (by exact H1.out) (by rw [HN.out]; omega) hlen HNN.out.1 (Nat.le_trans HNN.out.2 HB.out.size)).mono ?_
          rintro e w2 ⟨rfl, hr⟩
          have HR2 := Lib.hid (hr.later HB.out)
          clear hr
          go_wp2_with fail
          go_ret
          exact ⟨rfl, HR2.out⟩
      · rw [inst_there hs hlen hv]
        obtain ⟨i, hi, _, _⟩ := idx_pos hv
        rw [hi] at HI
        have hge : decide ((i : Int) ≥ 0) = true := decide_eq_true (by omega)
        clear hs HS hv hi
        go_enter Tryz.func15, Tryz.ntmps15
        go_wp2_with fail
        refine (HSS.out _).mono ?_
        rintro e w1 ⟨rfl, rfl⟩
        go_wp2_with fail
        refine HI.out.mono ?_
        rintro e w1 ⟨rfl, hb⟩
        have HB := Lib.hid hb
        clear hb
        go_wp2_with fail
        go_ret
        exact ⟨rfl, RetRn.same H.out HB.out⟩
    · rw [inst_size (by omega)]
      have hne : ((m : Int) == 16) = false := by rw [beq_eq_false_iff_ne]; omega
      have hne2 : ((m : Int) != 16) = true := by simp [bne, hne]
      clear hs HS
      go_enter Tryz.func15, Tryz.ntmps15
      go_wp2_with fail
      refine (HSS.out _).mono ?_
      rintro e w1 ⟨rfl, rfl⟩
      go_wp2_with fail
      go_ret
      exact ⟨rfl, RetRn.same H.out (Below.refl _ _)⟩
/-- What Retire leaves: the row lies where it lay. -/
def RetRnA (base x : Nat) (A : Option Addr) (es : Ens) (N F : Nat) (s : Rg) (w w' : World) : Prop :=
  ∃ (c' : Nat) (es' : Ens), Rn base w' x A c' es' N F ∧ rgE es' = s ∧ Oth (x :: blkO A) w w' ∧ ∀ e ∈ es', e ∈ es
theorem RetRnA.all {base x : Nat} {A : Option Addr} {es : Ens} {N F : Nat} {s : Rg} {w w' : World} (h : RetRnA base x A es N F s w w') : RetRn base x A es N F s w w' := by
  obtain ⟨c', es', h1, h2, h3, h4⟩ := h
  exact ⟨A, c', es', h1, h2, h3, fun e he => .inl (h4 e he), fun g hg => .inl hg⟩
theorem RetRnA.same {base x : Nat} {A : Option Addr} {c : Nat} {es : Ens} {N F : Nat} {w w' : World} (h : Rn base w x A c es N F) (hb : Below w.heap.size w w') : RetRnA base x A es N F (rgE es) w w' :=
  ⟨c, es, h.step hb, rfl, Oth.of_below hb, fun e he => he⟩
/-- What is done to blocks that were there before all of it. -/
theorem Rn.under {base : Nat} {w w' : World} {x c N F : Nat} {A : Option Addr} {es : Ens} {S : List Nat} (h : Rn base w x A c es N F) (ho : Oth S w w') (hS : ∀ g ∈ S, g < base) : Rn base w' x A c es N F :=
  h.off ho (fun hm => by have := hS x hm; have := h.low; omega) (fun g hg hm => by have := hS g hm; have := (h.grd.lt g hg).1; omega) (fun e he g hg => .inl (Nat.lt_of_lt_of_le (hS g hg) (h.ok e he).2.2.1))
/-- One entry is gone. -/
theorem RetRnA.cut {base x : Nat} {A : Option Addr} {c : Nat} {es : Ens} {N F i n : Nat} {w w1 W : World} (h : Rn base w1 x A c es N F) (hb : Below w.heap.size w w1) (hi : i < es.length) (hn : es.length = n) (hg : Grd 60 18 W base A (n - 1) c ((es.map enR).eraseIdx i)) (ho : Oth (blkO A) w1 W) :
    RetRnA base x A es N F ((rgE es).eraseIdx i) w (W.setCell ⟨x, 0, none⟩ (.slice A (n - 1) c)) := by
  have hl : (es.eraseIdx i).length = n - 1 := by rw [List.length_eraseIdx_of_lt hi, hn]
  have hox : Oth [x] W (W.setCell ⟨x, 0, none⟩ (.slice A (n - 1) c)) := (Oth.refl [x] W).set (by simp) 0 _
  have hall : Oth (x :: blkO A) w1 (W.setCell ⟨x, 0, none⟩ (.slice A (n - 1) c)) := (ho.more (fun k hk => .tail _ hk)).trans (hox.more (fun k hk => by rw [List.mem_singleton.1 hk]; exact .head _))
  have hx := h.blk.oth ho h.nx
  have hmem : ∀ e ∈ es.eraseIdx i, e ∈ es := fun e he => List.mem_of_mem_eraseIdx he
  refine ⟨c, es.eraseIdx i, ⟨?_, ?_, fun e he => ?_, h.pw.sublist (List.eraseIdx_sublist _ _), h.low⟩, ?_, (Oth.of_below hb).trans hall, hmem⟩
  · rw [hl]; exact hx.set 0 _
  · show Grd _ 18 _ base A (es.eraseIdx i).length c ((es.eraseIdx i).map enR)
    rw [hl, show (es.eraseIdx i).map enR = (es.map enR).eraseIdx i by simp only [List.eraseIdx_eq_take_drop_succ, List.map_append, List.map_take, List.map_drop]]
    exact hg.oth hox (fun g hg' hm => h.nx (by rw [List.mem_singleton] at hm; rw [← hm]; exact hg'))
  · obtain ⟨o1, o2, o3, o4, o5⟩ := h.ok e (hmem e he)
    refine ⟨o1.off hall (fun g hg => ?_), o2, o3, o4, o5⟩
    rcases List.mem_cons.1 hg with rfl | hg
    · exact o4
    · exact o5 g hg
  · unfold rgE; simp only [List.eraseIdx_eq_take_drop_succ, List.map_append, List.map_take, List.map_drop]
set_option maxRecDepth 100000 in
set_option maxHeartbeats 8000000 in
theorem retire2_any (base : Nat) (x : Nat) (A : Option Addr) (c : Nat) (es : Ens) (N F : Nat) (q : Int) (w : World) (h : Rn base w x A c es N F) (hn : es.length ≤ 16) :
    Calls Tryz.prog 18 #[.pointer (some ⟨x, 0, none⟩), .int .i64 q] w fun e w' => e = .returned (.int .i64 (retR (rgE es) q).2) ∧ RetRnA base x A es N F (retR (rgE es) q).1 w w' := by
  have H := Lib.hid h
  obtain ⟨n, HN⟩ : ∃ n, Hid (es.length = n) := ⟨_, Lib.hid rfl⟩
  have HS := isSeq_any q
  have HI := Lib.hid (find_any base x A c es N F q w h (by omega))
  have hn2 : n ≤ 16 := by rw [← HN.out]; exact hn
  clear h hn
  cases hs : isSq q
  · rw [ret_range hs]
    rw [hs] at HS
    have HSS := Lib.hid HS
    clear hs HS
    go_enter Tryz.func18, Tryz.ntmps18
    go_wp2_with fail
    refine (HSS.out _).mono ?_
    rintro e w1 ⟨rfl, rfl⟩
    go_wp2_with fail
    go_ret
    exact ⟨rfl, RetRnA.same H.out (Below.refl _ _)⟩
  · rw [hs] at HS
    have HSS := Lib.hid HS
    cases hv : hasR (rgE es) q
    · rw [idx_neg hv] at HI
      rw [ret_gone hs hv]
      clear hs HS hv
      go_enter Tryz.func18, Tryz.ntmps18
      go_wp2_with fail
      refine (HSS.out _).mono ?_
      rintro e w1 ⟨rfl, rfl⟩
      go_wp2_with fail
      refine HI.out.mono ?_
      rintro e w1 ⟨rfl, hb⟩
      have HB := Lib.hid hb
      clear hb
      go_wp2_with fail
      go_ret
      exact ⟨rfl, RetRnA.same H.out HB.out⟩
    · obtain ⟨i, hi, hf, hl⟩ := idx_pos hv
      rw [hi] at HI
      rw [ret_done hs hf]
      rw [rg_len, HN.out] at hl
      have hge : decide ((i : Int) < 0) = false := decide_eq_false (by omega)
      clear hs HS hv hi hf
      go_enter Tryz.func18, Tryz.ntmps18
      go_wp2_with fail
      refine (HSS.out _).mono ?_
      rintro e w1 ⟨rfl, rfl⟩
      go_wp2_with fail
      refine HI.out.mono ?_
      rintro e w1 ⟨rfl, hb⟩
      have HB := Lib.hid hb
      have H1 := Lib.hid (H.out.step hb)
      have hc0 := H1.out.c0
      rw [HN.out] at hc0
      clear hb
      go_wp2_with fail
      refine (del_any base A n c i _ (es.map enR) w1 (by have := H1.out.grd; unfold GE at this; rw [HN.out] at this; exact this) hl (by omega) (by first | rfl | simp)).mono ?_
      rintro e W ⟨rfl, hg, ho⟩
      have HR := Lib.hid (RetRnA.cut H1.out HB.out (by rw [HN.out]; exact hl) HN.out hg ho)
      have hcW := (H1.out.blk.oth ho H1.out.nx).cell 0
      rw [HN.out] at hcW
      have hcW2 : W.cell? ⟨x, 0, none⟩ = some (.slice A n c) := hcW
      have hfW := (H1.out.blk.oth ho H1.out.nx).free 0
      clear hg ho hcW
      go_wp2_with fail
      go_ret
      exact ⟨rfl, HR.out⟩
theorem retire_any (base : Nat) (x : Nat) (A : Option Addr) (c : Nat) (es : Ens) (N F : Nat) (q : Int) (w : World) (h : Rn base w x A c es N F) (hn : es.length ≤ 16) :
    Calls Tryz.prog 18 #[.pointer (some ⟨x, 0, none⟩), .int .i64 q] w fun e w' => e = .returned (.int .i64 (retR (rgE es) q).2) ∧ RetRn base x A es N F (retR (rgE es) q).1 w w' :=
  (retire2_any base x A c es N F q w h hn).mono fun e w' k => ⟨k.1, k.2.all⟩
/-! Clone. -/
set_option maxRecDepth 100000 in
set_option maxHeartbeats 8000000 in
theorem rclone_any (base : Nat) (x : Nat) (A : Option Addr) (c : Nat) (es : Ens) (N F : Nat) (w : World) (h : Rn base w x A c es N F) (hn : es.length ≤ 1000) :
    Calls Tryz.prog 17 #[.pointer (some ⟨x, 0, none⟩)] w fun e w' => ∃ (y : Nat) (B : Option Addr) (d : Nat) (fs : Ens), e = .returned (.pointer (some ⟨y, 0, none⟩)) ∧ Below w.heap.size w w' ∧ Rn w.heap.size w' y B d fs 1 0 ∧ rgE fs = rgE es := by
  have H := Lib.hid h
  obtain ⟨n, HN⟩ : ∃ n, Hid (es.length = n) := ⟨_, Lib.hid rfl⟩
  rw [HN.out] at hn
  clear h
  go_enter Tryz.func17, Tryz.ntmps17
  go_wp2_with fail
  refine (rnew_any w).mono ?_
  rintro e w1 ⟨y, rfl, hb1, hr1⟩
  have HB1 := Lib.hid hb1
  have HR1 := Lib.hid hr1
  have hc0 := (H.out.step hb1).c0
  rw [HN.out] at hc0
  clear hb1 hr1
  go_wp2_with fail
  go_loopw [12] (fun i wr => ∃ (k : Nat), k ≤ n ∧ i = .int .i64 (k : Int) ∧ Hid (Below w.heap.size w wr ∧ ∃ (B : Option Addr) (d : Nat) (fs : Ens), Rn w.heap.size wr y B d fs 1 0 ∧ rgE fs = (rgE es).take k)) (fun i _ => n - (intOf i).toNat)
  case atStart => exact ⟨0, by omega, rfl, Lib.hid ⟨HB1.out, none, 0, [], HR1.out, rfl⟩⟩
  case round =>
    obtain ⟨k, hk, rfl, HK⟩ := hrel
    by_cases hlt : k < n
    · have HG := Lib.hid (H.out.step HK.out.1)
      obtain ⟨g, e0, rfl, _, _, he, hm, hl, hrg, _, _⟩ := HG.out.at_ (i := k) (by rw [HN.out]; exact hlt)
      have HE := Lib.hid (And.intro he hm)
      have HR2 := Lib.hid (And.intro hl hrg)
      have HKL := Lib.hid (HG.out.ok e0 hm).2.1
      obtain ⟨B, d, fs, hfs, hfe⟩ := HK.out.2
      have HFS := Lib.hid (And.intro hfs hfe)
      clear he hl hrg hm hfs hfe
      go_wp2_with (first
        | (refine wpList_ldR rt_en rfl (.tmp 14) rfl g (k * 18) (by first | rfl | simp [Act.eval, Act.put]) (enR e0) HR2.out.2 HR2.out.1 ?_)
        | (refine wpList_newB rt_en rfl rfl ?_; intro w2 q2 k2 hb2 hq2; have K2 := Lib.hid k2; have HB2 := Lib.hid hb2; have HQ2 := Lib.hid hq2; clear k2 hb2 hq2)
        | (refine wpList_stB rt_en rfl (.tmp 5) (.tmp 15) rfl q2 0 rfl zEn (enR e0) rfl (enR_one e0) HR2.out.1 K2.out (by show 0 + 18 ≤ 18; omega) ?_; intro w3 k3 ho3 hs3; have K3 : Hid (Blk 60 w3 q2 (enR e0)) := Lib.hid (by have z := k3; rw [puts_all HR2.out.1] at z; exact z); have hc3 : w3.cell? ⟨q2, 1, none⟩ = some (.int .i64 e0.2) := (by have z := K3.out.cell 1; exact z); have HB3 := Lib.hid (HB2.out.trans (ho3.below (fun j hj => by rw [List.mem_singleton.1 hj]; exact HQ2.out) HB2.out.size)); clear k3 ho3 hs3)
        | (refine wpList_ldB rt_key rfl (.tmp 19) rfl q2 2 rfl (enR e0) (bvs e0.1.key) K3.out (by unfold enR; rw [List.drop_succ_cons, List.drop_succ_cons, List.drop_zero]; exact List.take_of_length_le (by rw [bvs_len, HKL.out]; exact Nat.le_refl _)) (by rw [bvs_len, HKL.out]; rfl) ?_))
      refine (add_any w.heap.size y B d fs 1 0 e0.2 e0.1.key w3 (by exact HFS.out.1.step HB3.out) (by have := congrArg List.length HFS.out.2; rw [rg_len, List.length_take] at this; omega) HKL.out (Nat.le_refl _) (Nat.le_trans HK.out.1.size HB3.out.size)).mono ?_
      rintro e w4 ⟨rfl, hr⟩
      obtain ⟨B4, d4, fs4, hr4, he4, ho4, _, hb4⟩ := hr
      have HR4 := Lib.hid hr4
      have HE4 : Hid (rgE fs4 = (rgE es).take (k + 1)) := Lib.hid (by
        rw [he4, HFS.out.2, List.take_add_one]
        congr 1
        unfold rgE
        rw [List.getElem?_map, HE.out.1]
        rfl)
      have HB4 : Hid (Below w.heap.size w w4) := Lib.hid ((bel_next HK.out.1 HB3.out).trans (ho4.below (fun j hj => by
        rcases List.mem_cons.1 hj with rfl | hj
        · exact HFS.out.1.low
        · exact (HFS.out.1.grd.lt j hj).1) (Nat.le_trans HK.out.1.size HB3.out.size)))
      clear hr4 he4 ho4 hb4
      go_wp2_with fail
      go_roundw
      case rel => exact ⟨k + 1, by omega, by go_num, Lib.hid ⟨HB4.out, B4, d4, fs4, HR4.out, HE4.out⟩⟩
      case measure => simp [intOf]; omega
    · have hkn : k = n := by omega
      subst hkn
      obtain ⟨B, d, fs, hfs, hfe⟩ := HK.out.2
      have HFS := Lib.hid (And.intro hfs hfe)
      clear hfs hfe
      go_wp2_with fail
      go_ret
      exact ⟨y, B, d, fs, rfl, HK.out.1, HFS.out.1, by rw [HFS.out.2]; exact List.take_of_length_le (by rw [rg_len, HN.out]; exact Nat.le_refl _)⟩
end Go.Proofs.YtlapnfpdkfhfdaaGreat
