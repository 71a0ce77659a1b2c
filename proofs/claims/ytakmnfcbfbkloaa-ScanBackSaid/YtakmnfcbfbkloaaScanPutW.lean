/- Layer 9's statements put the same part with both writers, case by case. Conditions: as in ScanPut. -/
import Derived.Test.YtakmnfcbfbkloaaScanPut
namespace Go.Proofs.Ytakmnfcbfbkloaa
open Go.RowKit
set_option linter.unusedVariables false
set_option linter.unusedSimpArgs false

section
variable {w0 w : World} {x y base base' q n c : Nat} {A0 D0 O A D : Option Addr} {p : Pt} {lo : List UInt8} {s t : Int × List UInt8}
theorem PK.b0 (h : PK w0 x y base base' A0 D0 q p O n c lo A D s t w) : w.cell? ⟨q, 0, none⟩ = some (.int .i64 p.what) := by rw [cell_of_row w q 0 _ _ (0, 0) h.box]; rfl
theorem PK.b1 (h : PK w0 x y base base' A0 D0 q p O n c lo A D s t w) : w.cell? ⟨q, 1, none⟩ = some (.int .i64 p.size) := by rw [cell_of_row w q 1 _ _ (0, 0) h.box]; rfl
theorem PK.b2 (h : PK w0 x y base base' A0 D0 q p O n c lo A D s t w) : w.cell? ⟨q, 2, none⟩ = some (.int .u64 (p.v : Int)) := by rw [cell_of_row w q 2 _ _ (0, 0) h.box]; rfl
theorem PK.b3 (h : PK w0 x y base base' A0 D0 q p O n c lo A D s t w) : w.cell? ⟨q, 3, none⟩ = some (.slice p.A p.b.length p.c) := by rw [cell_of_row w q 3 _ _ (0, 0) h.box]; rfl
theorem PK.more (h : PK w0 x y base base' A0 D0 q p O n c lo A D s t w) : w0.heap.size ≤ w.heap.size := h.oth.size
end
attribute [local irreducible] putS putN shortP longP rowR rowC
theorem own_away {w : World} {O A : Option Addr} (h : ∀ g ∈ blkO A, g ∉ blkO O) {n : Nat} : 0 < n → ∀ g o, O = some ⟨g, o, none⟩ → g ∉ blkO A := fun _ g o e hg => h g hg (by rw [e]; simp [blkO])
set_option maxRecDepth 100000 in
set_option maxHeartbeats 4000000 in
theorem put_0 (x y base base' : Nat) (A D : Option Addr) (s t : Int × List UInt8) (size : Int) (v : Nat) (PA : Option Addr) (pc : Nat) (pb : List UInt8) (w : World) (h1 : WrR w x base A s) (h2 : WrQ w y base' D t) (hd : ∀ g ∈ blkO A, g ∉ blkO D) (hp : Pt.ok w w.heap.size ⟨0, size, v, PA, pc, pb⟩) (hA : 0 < pb.length → ∀ g o, PA = some ⟨g, o, none⟩ → g ∉ blkO A) (hD : 0 < pb.length → ∀ g o, PA = some ⟨g, o, none⟩ → g ∉ blkO D)
    (hb : base ≤ w.heap.size) (hb' : base' ≤ w.heap.size) (hl : s.2.length ≤ 1000000) (hl' : t.2.length ≤ 1000000) (hm : pb.length ≤ 300) :
    Calls Try.prog 16 #[.pointer (some ⟨x, 0, none⟩), .pointer (some ⟨y, 0, none⟩), .agg #[.int .i64 0, .int .i64 size, .int .u64 (v : Int), .slice PA pb.length pc]] w (RetPut x y base base' A D (putP ⟨0, size, v, PA, pc, pb⟩ s) (putP ⟨0, size, v, PA, pc, pb⟩ t) w) := by
  have HS := Lib.hid (fun O n c lo w1 => @PK.start w w1 x y base base' A D ⟨0, size, v, PA, pc, pb⟩ s t O n c lo h1 h2 hd hp.rb hA hD)
  have hal := below_alloc w (.cells (Pt.cells ⟨0, size, v, PA, pc, pb⟩).toArray 48)
  have HP := Lib.hid (hp.rb.step hal)
  have hv64 := hp.v64
  have hsz := hp.size
  have hcp := hp.cap
  simp only at hv64 hsz hcp
  unfold I64 at hsz
  have HE : Hid (putP ⟨0, size, v, PA, pc, pb⟩ s = putS (putN v size).1 (putN v size).2 s) := Lib.hid rfl
  have HE' : Hid (putP ⟨0, size, v, PA, pc, pb⟩ t = putS (putN v size).1 (putN v size).2 t) := Lib.hid rfl
  clear h1 h2 hd hp hA hD hal
  have hwe := w_eql
  go_enter Try.func16, Try.ntmps16
  go_wp2_with fail
  refine (copy_any PA pb.length pc 0 pb _ (by exact HP.out) (by omega)).mono ?_
  rintro e w1 ⟨O, co, rfl, ho, hb1⟩
  have K1 := Lib.hid (HS.out O _ co pb w1 hb1 ho)
  have CO := ho.cap
  have b0 := K1.out.b0
  have b1 := K1.out.b1
  have b2 := K1.out.b2
  have b3 := K1.out.b3
  have z1 := K1.out.more
  clear ho hb1 HS
  go_wp2_with fail
  refine (wnum_any x base A v size s _ K1.out.wr (by omega) (by omega) hv64).mono ?_
  intro e w2 k
  obtain ⟨rfl, A2, k2⟩ := K1.out.real k
  have K2 := Lib.hid k2
  clear k k2
  clear b0 b1 b2 b3 z1
  have b1 := K2.out.b1
  have b2 := K2.out.b2
  have b3 := K2.out.b3
  have z1 := K2.out.more
  go_wp2_with fail
  refine (ynum_any y base' D v size t _ K2.out.wq (by omega) (by omega) hv64).mono ?_
  intro e w3 k
  obtain ⟨rfl, D3, k3⟩ := K2.out.ref k
  have K3 := Lib.hid k3
  clear k k3 b1 b2 b3 z1
  go_wp2_with fail
  go_loopw [10] (fun i wr => ∃ (k : Nat) (lo : List UInt8), k ≤ pb.length ∧ i = .int .i64 k ∧ Hid (PK w x y base base' A D w.heap.size ⟨0, size, v, PA, pc, pb⟩ O pb.length co lo A2 D3 (putS (putN v size).1 (putN v size).2 s) (putS (putN v size).1 (putN v size).2 t) wr)) (fun i _ => pb.length - (intOf i).toNat)
  case atStart => exact ⟨0, pb, by omega, rfl, K3⟩
  case round =>
    obtain ⟨k, lo, hk, rfl, K⟩ := hrel
    clear K3
    by_cases hlt : k < pb.length
    · have hlo := K.out.own.len
      obtain ⟨g, rfl, _⟩ := K.out.own.form (by omega)
      obtain ⟨z, hz⟩ : ∃ z, lo[k]? = some z := ⟨_, List.getElem?_eq_getElem (by omega)⟩
      have hc := K.out.own.cellAt hz
      have hf := K.out.own.freeAt k
      clear hz hlo
      go_wp2_with fail
      go_roundw
      case rel => exact ⟨k + 1, lo.set k (z + 1), by omega, by go_num, Lib.hid (K.out.poke rfl k (z + 1) _ (by unfold bv; rw [add_u8]))⟩
      case measure => simp [intOf]; omega
    · go_wp2_with fail
      go_ret
      rw [HE.out, HE'.out]
      exact K.out.done
set_option maxRecDepth 100000 in
set_option maxHeartbeats 4000000 in
theorem put_1 (x y base base' : Nat) (A D : Option Addr) (s t : Int × List UInt8) (size : Int) (v : Nat) (PA : Option Addr) (pc : Nat) (pb : List UInt8) (w : World) (h1 : WrR w x base A s) (h2 : WrQ w y base' D t) (hd : ∀ g ∈ blkO A, g ∉ blkO D) (hp : Pt.ok w w.heap.size ⟨1, size, v, PA, pc, pb⟩) (hA : 0 < pb.length → ∀ g o, PA = some ⟨g, o, none⟩ → g ∉ blkO A) (hD : 0 < pb.length → ∀ g o, PA = some ⟨g, o, none⟩ → g ∉ blkO D)
    (hb : base ≤ w.heap.size) (hb' : base' ≤ w.heap.size) (hl : s.2.length ≤ 1000000) (hl' : t.2.length ≤ 1000000) (hm : pb.length ≤ 300) :
    Calls Try.prog 16 #[.pointer (some ⟨x, 0, none⟩), .pointer (some ⟨y, 0, none⟩), .agg #[.int .i64 1, .int .i64 size, .int .u64 (v : Int), .slice PA pb.length pc]] w (RetPut x y base base' A D (putP ⟨1, size, v, PA, pc, pb⟩ s) (putP ⟨1, size, v, PA, pc, pb⟩ t) w) := by
  have HS := Lib.hid (fun O n c lo w1 => @PK.start w w1 x y base base' A D ⟨1, size, v, PA, pc, pb⟩ s t O n c lo h1 h2 hd hp.rb hA hD)
  have hal := below_alloc w (.cells (Pt.cells ⟨1, size, v, PA, pc, pb⟩).toArray 48)
  have HP := Lib.hid (hp.rb.step hal)
  have hv64 := hp.v64
  have hsz := hp.size
  have hcp := hp.cap
  simp only at hv64 hsz hcp
  unfold I64 at hsz
  have HE : Hid (putP ⟨1, size, v, PA, pc, pb⟩ s = putS pb 0 s) := Lib.hid rfl
  have HE' : Hid (putP ⟨1, size, v, PA, pc, pb⟩ t = putS pb 0 t) := Lib.hid rfl
  clear h1 h2 hd hp hA hD hal
  have hwe := w_eql
  go_enter Try.func16, Try.ntmps16
  go_wp2_with fail
  refine (copy_any PA pb.length pc 0 pb _ (by exact HP.out) (by omega)).mono ?_
  rintro e w1 ⟨O, co, rfl, ho, hb1⟩
  have K1 := Lib.hid (HS.out O _ co pb w1 hb1 ho)
  have CO := ho.cap
  have b0 := K1.out.b0
  have b1 := K1.out.b1
  have b2 := K1.out.b2
  have b3 := K1.out.b3
  have z1 := K1.out.more
  clear ho hb1 HS
  obtain ⟨h, hh⟩ : ∃ h : Nat, h = pb.length / 2 := ⟨_, rfl⟩
  have hq : (pb.length : Int) / 2 = (h : Int) := by omega
  have hhn : h ≤ pb.length := by omega
  have hcut := cut_h O pb.length co h (by omega)
  have hcut2 := cut_l O pb.length co h hhn
  clear hh
  go_wp2_with fail
  refine wp_region_held_drew (S := fun w' => True) (by kernel_rfl) trivial (fun hHeld => ?_)
  (try dsimp only at hHeld)
  have K1 := Lib.hid (K1.out.step (Below.refl _ _).drew)
  refine wpAnyH_take (i := 0) (v := ?v0_1) rfl (by kernel_rfl) (by kernel_rfl) (by kernel_rfl) (fun _ _ _ h => h) (Or.inl ⟨by rfl, ?hy0_1⟩) hHeld ?_
  case hy0_1 => (intro w hSw; (try dsimp only at hSw); (try simp only [List.getElem_toArray, List.getElem_cons_zero, List.getElem_cons_succ]); go_simp <;> with_reducible rfl)
  (try simp only [Act.put, List.getElem_toArray, List.getElem_cons_zero, List.getElem_cons_succ, List.setIfInBounds_toArray, List.set_cons_zero, List.set_cons_succ])
  refine wpAnyH_take (i := 1) (v := ?v1_2) rfl (by kernel_rfl) (by kernel_rfl) (by kernel_rfl) (fun _ _ _ h => h) (Or.inl ⟨by rfl, ?hy1_2⟩) hHeld ?_
  case hy1_2 => (intro w hSw; (try dsimp only at hSw); (try simp only [List.getElem_toArray, List.getElem_cons_zero, List.getElem_cons_succ]); go_simp <;> with_reducible rfl)
  (try simp only [Act.put, List.getElem_toArray, List.getElem_cons_zero, List.getElem_cons_succ, List.setIfInBounds_toArray, List.set_cons_zero, List.set_cons_succ])
  refine wpAnyH_take (i := 2) (v := ?v2_3) rfl (by kernel_rfl) (by kernel_rfl) (by kernel_rfl) (fun _ _ _ h => h) (Or.inl ⟨by rfl, ?hy2_3⟩) hHeld ?_
  case hy2_3 => (intro w hSw; (try dsimp only at hSw); (try simp only [List.getElem_toArray, List.getElem_cons_zero, List.getElem_cons_succ]); go_simp <;> with_reducible rfl)
  (try simp only [Act.put, List.getElem_toArray, List.getElem_cons_zero, List.getElem_cons_succ, List.setIfInBounds_toArray, List.set_cons_zero, List.set_cons_succ])
  refine wpAnyH_take (i := 3) (v := ?v3_4) rfl (by kernel_rfl) (by kernel_rfl) (by kernel_rfl) (fun _ _ _ h => h) (Or.inl ⟨by rfl, ?hy3_4⟩) hHeld ?_
  case hy3_4 => (intro w hSw; (try dsimp only at hSw); (try simp only [List.getElem_toArray, List.getElem_cons_zero, List.getElem_cons_succ]); go_simp <;> with_reducible rfl)
  (try simp only [Act.put, List.getElem_toArray, List.getElem_cons_zero, List.getElem_cons_succ, List.setIfInBounds_toArray, List.set_cons_zero, List.set_cons_succ])
  refine wpAnyH_take (i := 4) (v := ?v4_5) rfl (by kernel_rfl) (by kernel_rfl) (by kernel_rfl) (fun _ _ _ h => h) (Or.inl ⟨by rfl, ?hy4_5⟩) hHeld ?_
  case hy4_5 => (intro w hSw; (try dsimp only at hSw); (try simp only [List.getElem_toArray, List.getElem_cons_zero, List.getElem_cons_succ]); go_simp <;> with_reducible rfl)
  (try simp only [Act.put, List.getElem_toArray, List.getElem_cons_zero, List.getElem_cons_succ, List.setIfInBounds_toArray, List.set_cons_zero, List.set_cons_succ])
  refine wpAnyH_take (i := 5) (v := ?v5_6) rfl (by kernel_rfl) (by kernel_rfl) (by kernel_rfl) (fun _ _ _ h => h) (Or.inl ⟨by rfl, ?hy5_6⟩) hHeld ?_
  case hy5_6 => (intro w hSw; (try dsimp only at hSw); (try simp only [List.getElem_toArray, List.getElem_cons_zero, List.getElem_cons_succ]); go_simp <;> with_reducible rfl)
  (try simp only [Act.put, List.getElem_toArray, List.getElem_cons_zero, List.getElem_cons_succ, List.setIfInBounds_toArray, List.set_cons_zero, List.set_cons_succ])
  refine wpAnyH_take (i := 6) (v := ?v6_7) rfl (by kernel_rfl) (by kernel_rfl) (by kernel_rfl) (fun _ _ _ h => h) (Or.inl ⟨by rfl, ?hy6_7⟩) hHeld ?_
  case hy6_7 => (intro w hSw; (try dsimp only at hSw); (try simp only [List.getElem_toArray, List.getElem_cons_zero, List.getElem_cons_succ]); go_simp <;> with_reducible rfl)
  (try simp only [Act.put, List.getElem_toArray, List.getElem_cons_zero, List.getElem_cons_succ, List.setIfInBounds_toArray, List.set_cons_zero, List.set_cons_succ])
  refine wpAnyH_take (i := 9) (v := ?v9_8) rfl (by kernel_rfl) (by kernel_rfl) (by kernel_rfl) (fun _ _ _ h => h) (Or.inl ⟨by rfl, ?hy9_8⟩) hHeld ?_
  case hy9_8 => (intro w hSw; (try dsimp only at hSw); (try simp only [List.getElem_toArray, List.getElem_cons_zero, List.getElem_cons_succ]); go_simp <;> with_reducible rfl)
  (try simp only [Act.put, List.getElem_toArray, List.getElem_cons_zero, List.getElem_cons_succ, List.setIfInBounds_toArray, List.set_cons_zero, List.set_cons_succ])
  refine wpAnyH_ready (rs := [7]) (by kernel_rfl) (by simp) ?_
  refine AllReadyH.cons rfl (fun K hK => ?_) AllReadyH.nil
  (try simp only [List.getElem_toArray, List.getElem_cons_zero, List.getElem_cons_succ])
  go_simp
  refine hK.out _ _ trivial (fun _ => ?_)
  clear hK K
  (try simp only [Act.put, List.getElem_toArray, List.getElem_cons_zero, List.getElem_cons_succ, List.setIfInBounds_toArray, List.set_cons_zero, List.set_cons_succ])
  refine wpAnyH_ready (rs := [8]) (by kernel_rfl) (by simp) ?_
  refine AllReadyH.cons rfl (fun K hK => ?_) AllReadyH.nil
  (try simp only [List.getElem_toArray, List.getElem_cons_zero, List.getElem_cons_succ])
  go_simp
  have hal := below_alloc w1.drew (.cells #[.slice (cutA O co 0) h co, .slice (cutA O co h) (pb.length - h) (co - h)] 22)
  have K1a := Lib.hid (K1.out.step hal)
  have hown := K1.out.own.rb
  have p1 := hown.part (i := 0) (j := h) (c := co) (by omega) hhn CO.1
  have p2 := hown.part (i := h) (j := pb.length) (c := co) hhn (Nat.le_refl _) CO.1
  rw [Nat.sub_zero, List.drop_zero] at p1
  rw [List.take_of_length_le (Nat.le_refl _)] at p2
  have hrr := RR.lit w1.drew [(cutA O co 0, co, pb.take h), (cutA O co h, co - h, pb.drop h)] #[.slice (cutA O co 0) h co, .slice (cutA O co h) (pb.length - h) (co - h)] 22 2 w1.drew.heap.size (by simp [Nat.min_eq_left hhn]) rfl rfl (fun r hr => by
    simp only [List.mem_cons, List.not_mem_nil, or_false] at hr
    rcases hr with rfl | rfl
    · simp only [List.length_take, Nat.min_eq_left hhn]; exact p1
    · simp only [List.length_drop]; exact p2)
  have HK := Lib.hid (wbytes_any x base A _ 2 2 [pb.take h, pb.drop h] pb s _ K1a.out.wr hrr (by simp) (by omega) (by omega) (by have := K1a.out.more; omega) (by omega))
  clear hal hown p1 p2 hrr
  refine HK.out.mono ?_
  intro e w2 k
  obtain ⟨rfl, A2, k2⟩ := K1a.out.real k
  have K2 := Lib.hid k2
  clear k k2 HK
  (try go_wp2_with fail)
  refine hK.out _ _ trivial (fun _ => ?_)
  clear hK K
  (try simp only [Act.put, List.getElem_toArray, List.getElem_cons_zero, List.getElem_cons_succ, List.setIfInBounds_toArray, List.set_cons_zero, List.set_cons_succ])
  refine wpAnyH_take (i := 10) (v := ?v10_9) rfl (by kernel_rfl) (by kernel_rfl) (by kernel_rfl) (fun _ _ _ h => h) (Or.inl ⟨by rfl, ?hy10_9⟩) hHeld ?_
  case hy10_9 => (intro w hSw; (try dsimp only at hSw); (try simp only [List.getElem_toArray, List.getElem_cons_zero, List.getElem_cons_succ]); go_simp <;> with_reducible rfl)
  (try simp only [Act.put, List.getElem_toArray, List.getElem_cons_zero, List.getElem_cons_succ, List.setIfInBounds_toArray, List.set_cons_zero, List.set_cons_succ])
  refine wpAnyH_take (i := 11) (v := ?v11_10) rfl (by kernel_rfl) (by kernel_rfl) (by kernel_rfl) (fun _ _ _ h => h) (Or.inl ⟨by rfl, ?hy11_10⟩) hHeld ?_
  case hy11_10 => (intro w hSw; (try dsimp only at hSw); (try simp only [List.getElem_toArray, List.getElem_cons_zero, List.getElem_cons_succ]); go_simp <;> with_reducible rfl)
  (try simp only [Act.put, List.getElem_toArray, List.getElem_cons_zero, List.getElem_cons_succ, List.setIfInBounds_toArray, List.set_cons_zero, List.set_cons_succ])
  refine wpAnyH_done (by kernel_rfl) ?_ _
  clear b0 b1 b2 b3 z1
  have b1 := K2.out.b1
  have b2 := K2.out.b2
  have b3 := K2.out.b3
  have z1 := K2.out.more
  go_wp2_with fail
  refine (yput_any y base' D 0 PA pb.length pc pb t _ K2.out.wq (by exact K2.out.pb) (by omega) (by omega) (by omega)).mono ?_
  intro e w3 k
  obtain ⟨rfl, D3, k3⟩ := K2.out.ref k
  have K3 := Lib.hid k3
  clear k k3 b1 b2 b3 z1
  go_wp2_with fail
  go_loopw [10] (fun i wr => ∃ (k : Nat) (lo : List UInt8), k ≤ pb.length ∧ i = .int .i64 k ∧ Hid (PK w x y base base' A D w.heap.size ⟨1, size, v, PA, pc, pb⟩ O pb.length co lo A2 D3 (putS pb 0 s) (putS pb 0 t) wr)) (fun i _ => pb.length - (intOf i).toNat)
  case atStart => exact ⟨0, pb, by omega, rfl, K3⟩
  case round =>
    obtain ⟨k, lo, hk, rfl, K⟩ := hrel
    clear K3
    by_cases hlt : k < pb.length
    · have hlo := K.out.own.len
      obtain ⟨g, rfl, _⟩ := K.out.own.form (by omega)
      obtain ⟨z, hz⟩ : ∃ z, lo[k]? = some z := ⟨_, List.getElem?_eq_getElem (by omega)⟩
      have hc := K.out.own.cellAt hz
      have hf := K.out.own.freeAt k
      clear hz hlo
      go_wp2_with fail
      go_roundw
      case rel => exact ⟨k + 1, lo.set k (z + 1), by omega, by go_num, Lib.hid (K.out.poke rfl k (z + 1) _ (by unfold bv; rw [add_u8]))⟩
      case measure => simp [intOf]; omega
    · go_wp2_with fail
      go_ret
      rw [HE.out, HE'.out]
      exact K.out.done
set_option maxRecDepth 100000 in
set_option maxHeartbeats 4000000 in
theorem put_2 (x y base base' : Nat) (A D : Option Addr) (s t : Int × List UInt8) (size : Int) (v : Nat) (PA : Option Addr) (pc : Nat) (pb : List UInt8) (w : World) (h1 : WrR w x base A s) (h2 : WrQ w y base' D t) (hd : ∀ g ∈ blkO A, g ∉ blkO D) (hp : Pt.ok w w.heap.size ⟨2, size, v, PA, pc, pb⟩) (hA : 0 < pb.length → ∀ g o, PA = some ⟨g, o, none⟩ → g ∉ blkO A) (hD : 0 < pb.length → ∀ g o, PA = some ⟨g, o, none⟩ → g ∉ blkO D)
    (hb : base ≤ w.heap.size) (hb' : base' ≤ w.heap.size) (hl : s.2.length ≤ 1000000) (hl' : t.2.length ≤ 1000000) (hm : pb.length ≤ 300) :
    Calls Try.prog 16 #[.pointer (some ⟨x, 0, none⟩), .pointer (some ⟨y, 0, none⟩), .agg #[.int .i64 2, .int .i64 size, .int .u64 (v : Int), .slice PA pb.length pc]] w (RetPut x y base base' A D (putP ⟨2, size, v, PA, pc, pb⟩ s) (putP ⟨2, size, v, PA, pc, pb⟩ t) w) := by
  have HS := Lib.hid (fun O n c lo w1 => @PK.start w w1 x y base base' A D ⟨2, size, v, PA, pc, pb⟩ s t O n c lo h1 h2 hd hp.rb hA hD)
  have hal := below_alloc w (.cells (Pt.cells ⟨2, size, v, PA, pc, pb⟩).toArray 48)
  have HP := Lib.hid (hp.rb.step hal)
  have hv64 := hp.v64
  have hsz := hp.size
  have hcp := hp.cap
  simp only at hv64 hsz hcp
  unfold I64 at hsz
  have HE : Hid (putP ⟨2, size, v, PA, pc, pb⟩ s = putS (rowR [v, 7]) (rowC [v, 7]) s) := Lib.hid rfl
  have HE' : Hid (putP ⟨2, size, v, PA, pc, pb⟩ t = putS (rowR [v, 7]) (rowC [v, 7]) t) := Lib.hid rfl
  clear h1 h2 hd hp hA hD hal
  have hwe := w_eql
  go_enter Try.func16, Try.ntmps16
  go_wp2_with fail
  refine (copy_any PA pb.length pc 0 pb _ (by exact HP.out) (by omega)).mono ?_
  rintro e w1 ⟨O, co, rfl, ho, hb1⟩
  have K1 := Lib.hid (HS.out O _ co pb w1 hb1 ho)
  have CO := ho.cap
  have b0 := K1.out.b0
  have b1 := K1.out.b1
  have b2 := K1.out.b2
  have b3 := K1.out.b3
  have z1 := K1.out.more
  clear ho hb1 HS
  have K1a := Lib.hid (K1.out.step (below_alloc w1 (.cells #[.int .u64 (v : Int), .int .u64 7] 46)))
  go_wp2_with fail
  refine (wvari_any x base A _ 2 2 [v, 7] s _ K1a.out.wr (by exact UL.lit w1 [v, 7] _ 2 _ _ rfl rfl rfl (by simp; omega)) (by omega) (by have := K1a.out.more; omega) (by omega)).mono ?_
  intro e w2 k
  obtain ⟨rfl, A2, k2⟩ := K1a.out.real k
  have K2 := Lib.hid k2
  clear k k2
  clear b0 b1 b2 b3 z1
  have b1 := K2.out.b1
  have b2 := K2.out.b2
  have b3 := K2.out.b3
  have z1 := K2.out.more
  have K2a := Lib.hid (K2.out.step (below_alloc w2 (.cells #[.int .u64 (v : Int), .int .u64 7] 46)))
  go_wp2_with fail
  refine (yvari_any y base' D _ 2 2 [v, 7] t _ K2a.out.wq (by exact UL.lit w2 [v, 7] _ 2 _ _ rfl rfl rfl (by simp; omega)) (by omega) (by have := K2a.out.more; omega) (by omega)).mono ?_
  intro e w3 k
  obtain ⟨rfl, D3, k3⟩ := K2a.out.ref k
  have K3 := Lib.hid k3
  clear k k3 b1 b2 b3 z1
  go_wp2_with fail
  go_loopw [10] (fun i wr => ∃ (k : Nat) (lo : List UInt8), k ≤ pb.length ∧ i = .int .i64 k ∧ Hid (PK w x y base base' A D w.heap.size ⟨2, size, v, PA, pc, pb⟩ O pb.length co lo A2 D3 (putS (rowR [v, 7]) (rowC [v, 7]) s) (putS (rowR [v, 7]) (rowC [v, 7]) t) wr)) (fun i _ => pb.length - (intOf i).toNat)
  case atStart => exact ⟨0, pb, by omega, rfl, K3⟩
  case round =>
    obtain ⟨k, lo, hk, rfl, K⟩ := hrel
    clear K3
    by_cases hlt : k < pb.length
    · have hlo := K.out.own.len
      obtain ⟨g, rfl, _⟩ := K.out.own.form (by omega)
      obtain ⟨z, hz⟩ : ∃ z, lo[k]? = some z := ⟨_, List.getElem?_eq_getElem (by omega)⟩
      have hc := K.out.own.cellAt hz
      have hf := K.out.own.freeAt k
      clear hz hlo
      go_wp2_with fail
      go_roundw
      case rel => exact ⟨k + 1, lo.set k (z + 1), by omega, by go_num, Lib.hid (K.out.poke rfl k (z + 1) _ (by unfold bv; rw [add_u8]))⟩
      case measure => simp [intOf]; omega
    · go_wp2_with fail
      go_ret
      rw [HE.out, HE'.out]
      exact K.out.done
set_option maxRecDepth 100000 in
set_option maxHeartbeats 4000000 in
theorem put_3 (x y base base' : Nat) (A D : Option Addr) (s t : Int × List UInt8) (size : Int) (v : Nat) (PA : Option Addr) (pc : Nat) (pb : List UInt8) (w : World) (h1 : WrR w x base A s) (h2 : WrQ w y base' D t) (hd : ∀ g ∈ blkO A, g ∉ blkO D) (hp : Pt.ok w w.heap.size ⟨3, size, v, PA, pc, pb⟩) (hA : 0 < pb.length → ∀ g o, PA = some ⟨g, o, none⟩ → g ∉ blkO A) (hD : 0 < pb.length → ∀ g o, PA = some ⟨g, o, none⟩ → g ∉ blkO D)
    (hb : base ≤ w.heap.size) (hb' : base' ≤ w.heap.size) (hl : s.2.length ≤ 1000000) (hl' : t.2.length ≤ 1000000) (hm : pb.length ≤ 300) :
    Calls Try.prog 16 #[.pointer (some ⟨x, 0, none⟩), .pointer (some ⟨y, 0, none⟩), .agg #[.int .i64 3, .int .i64 size, .int .u64 (v : Int), .slice PA pb.length pc]] w (RetPut x y base base' A D (putP ⟨3, size, v, PA, pc, pb⟩ s) (putP ⟨3, size, v, PA, pc, pb⟩ t) w) := by
  have HS := Lib.hid (fun O n c lo w1 => @PK.start w w1 x y base base' A D ⟨3, size, v, PA, pc, pb⟩ s t O n c lo h1 h2 hd hp.rb hA hD)
  have hal := below_alloc w (.cells (Pt.cells ⟨3, size, v, PA, pc, pb⟩).toArray 48)
  have HP := Lib.hid (hp.rb.step hal)
  have hv64 := hp.v64
  have hsz := hp.size
  have hcp := hp.cap
  simp only at hv64 hsz hcp
  unfold I64 at hsz
  have HE : Hid (putP ⟨3, size, v, PA, pc, pb⟩ s = putS (shortP pb).1 (shortP pb).2 s) := Lib.hid rfl
  have HE' : Hid (putP ⟨3, size, v, PA, pc, pb⟩ t = putS (shortP pb).1 (shortP pb).2 t) := Lib.hid rfl
  clear h1 h2 hd hp hA hD hal
  have hwe := w_eql
  go_enter Try.func16, Try.ntmps16
  go_wp2_with fail
  refine (copy_any PA pb.length pc 0 pb _ (by exact HP.out) (by omega)).mono ?_
  rintro e w1 ⟨O, co, rfl, ho, hb1⟩
  have K1 := Lib.hid (HS.out O _ co pb w1 hb1 ho)
  have CO := ho.cap
  have b0 := K1.out.b0
  have b1 := K1.out.b1
  have b2 := K1.out.b2
  have b3 := K1.out.b3
  have z1 := K1.out.more
  clear ho hb1 HS
  go_wp2_with fail
  refine (wshort_any x base A O pb.length co pb s _ K1.out.wr (by exact K1.out.own.rb) (own_away (w := w) (fun g hg => (K1.out.dis g hg).2)) (by omega) (by omega) (by omega)).mono ?_
  intro e w2 k
  obtain ⟨rfl, A2, k2⟩ := K1.out.real k
  have K2 := Lib.hid k2
  clear k k2
  clear b0 b1 b2 b3 z1
  have b1 := K2.out.b1
  have b2 := K2.out.b2
  have b3 := K2.out.b3
  have z1 := K2.out.more
  go_wp2_with fail
  refine (yshort_any y base' D PA pb.length pc pb t _ K2.out.wq (by exact K2.out.pb) (by omega) (by omega) (by omega)).mono ?_
  intro e w3 k
  obtain ⟨rfl, D3, k3⟩ := K2.out.ref k
  have K3 := Lib.hid k3
  clear k k3 b1 b2 b3 z1
  go_wp2_with fail
  go_loopw [10] (fun i wr => ∃ (k : Nat) (lo : List UInt8), k ≤ pb.length ∧ i = .int .i64 k ∧ Hid (PK w x y base base' A D w.heap.size ⟨3, size, v, PA, pc, pb⟩ O pb.length co lo A2 D3 (putS (shortP pb).1 (shortP pb).2 s) (putS (shortP pb).1 (shortP pb).2 t) wr)) (fun i _ => pb.length - (intOf i).toNat)
  case atStart => exact ⟨0, pb, by omega, rfl, K3⟩
  case round =>
    obtain ⟨k, lo, hk, rfl, K⟩ := hrel
    clear K3
    by_cases hlt : k < pb.length
    · have hlo := K.out.own.len
      obtain ⟨g, rfl, _⟩ := K.out.own.form (by omega)
      obtain ⟨z, hz⟩ : ∃ z, lo[k]? = some z := ⟨_, List.getElem?_eq_getElem (by omega)⟩
      have hc := K.out.own.cellAt hz
      have hf := K.out.own.freeAt k
      clear hz hlo
      go_wp2_with fail
      go_roundw
      case rel => exact ⟨k + 1, lo.set k (z + 1), by omega, by go_num, Lib.hid (K.out.poke rfl k (z + 1) _ (by unfold bv; rw [add_u8]))⟩
      case measure => simp [intOf]; omega
    · go_wp2_with fail
      go_ret
      rw [HE.out, HE'.out]
      exact K.out.done
set_option maxRecDepth 100000 in
set_option maxHeartbeats 4000000 in
theorem put_4 (x y base base' : Nat) (A D : Option Addr) (s t : Int × List UInt8) (size : Int) (v : Nat) (PA : Option Addr) (pc : Nat) (pb : List UInt8) (w : World) (h1 : WrR w x base A s) (h2 : WrQ w y base' D t) (hd : ∀ g ∈ blkO A, g ∉ blkO D) (hp : Pt.ok w w.heap.size ⟨4, size, v, PA, pc, pb⟩) (hA : 0 < pb.length → ∀ g o, PA = some ⟨g, o, none⟩ → g ∉ blkO A) (hD : 0 < pb.length → ∀ g o, PA = some ⟨g, o, none⟩ → g ∉ blkO D)
    (hb : base ≤ w.heap.size) (hb' : base' ≤ w.heap.size) (hl : s.2.length ≤ 1000000) (hl' : t.2.length ≤ 1000000) (hm : pb.length ≤ 300) :
    Calls Try.prog 16 #[.pointer (some ⟨x, 0, none⟩), .pointer (some ⟨y, 0, none⟩), .agg #[.int .i64 4, .int .i64 size, .int .u64 (v : Int), .slice PA pb.length pc]] w (RetPut x y base base' A D (putP ⟨4, size, v, PA, pc, pb⟩ s) (putP ⟨4, size, v, PA, pc, pb⟩ t) w) := by
  have HS := Lib.hid (fun O n c lo w1 => @PK.start w w1 x y base base' A D ⟨4, size, v, PA, pc, pb⟩ s t O n c lo h1 h2 hd hp.rb hA hD)
  have hal := below_alloc w (.cells (Pt.cells ⟨4, size, v, PA, pc, pb⟩).toArray 48)
  have HP := Lib.hid (hp.rb.step hal)
  have hv64 := hp.v64
  have hsz := hp.size
  have hcp := hp.cap
  simp only at hv64 hsz hcp
  unfold I64 at hsz
  have HE : Hid (putP ⟨4, size, v, PA, pc, pb⟩ s = putS (longP pb) 0 s) := Lib.hid rfl
  have HE' : Hid (putP ⟨4, size, v, PA, pc, pb⟩ t = putS (longP pb) 0 t) := Lib.hid rfl
  clear h1 h2 hd hp hA hD hal
  have hwe := w_eql
  go_enter Try.func16, Try.ntmps16
  go_wp2_with fail
  refine (copy_any PA pb.length pc 0 pb _ (by exact HP.out) (by omega)).mono ?_
  rintro e w1 ⟨O, co, rfl, ho, hb1⟩
  have K1 := Lib.hid (HS.out O _ co pb w1 hb1 ho)
  have CO := ho.cap
  have b0 := K1.out.b0
  have b1 := K1.out.b1
  have b2 := K1.out.b2
  have b3 := K1.out.b3
  have z1 := K1.out.more
  clear ho hb1 HS
  go_wp2_with fail
  refine (wlong_any x base A O pb.length co pb s _ K1.out.wr (by exact K1.out.own.rb) (own_away (w := w) (fun g hg => (K1.out.dis g hg).2)) (by omega) (by omega) (by omega)).mono ?_
  intro e w2 k
  obtain ⟨rfl, A2, k2⟩ := K1.out.real k
  have K2 := Lib.hid k2
  clear k k2
  clear b0 b1 b2 b3 z1
  have b1 := K2.out.b1
  have b2 := K2.out.b2
  have b3 := K2.out.b3
  have z1 := K2.out.more
  go_wp2_with fail
  refine (ylong_any y base' D PA pb.length pc pb t _ K2.out.wq (by exact K2.out.pb) (by omega) (by omega) (by omega)).mono ?_
  intro e w3 k
  obtain ⟨rfl, D3, k3⟩ := K2.out.ref k
  have K3 := Lib.hid k3
  clear k k3 b1 b2 b3 z1
  go_wp2_with fail
  go_loopw [10] (fun i wr => ∃ (k : Nat) (lo : List UInt8), k ≤ pb.length ∧ i = .int .i64 k ∧ Hid (PK w x y base base' A D w.heap.size ⟨4, size, v, PA, pc, pb⟩ O pb.length co lo A2 D3 (putS (longP pb) 0 s) (putS (longP pb) 0 t) wr)) (fun i _ => pb.length - (intOf i).toNat)
  case atStart => exact ⟨0, pb, by omega, rfl, K3⟩
  case round =>
    obtain ⟨k, lo, hk, rfl, K⟩ := hrel
    clear K3
    by_cases hlt : k < pb.length
    · have hlo := K.out.own.len
      obtain ⟨g, rfl, _⟩ := K.out.own.form (by omega)
      obtain ⟨z, hz⟩ : ∃ z, lo[k]? = some z := ⟨_, List.getElem?_eq_getElem (by omega)⟩
      have hc := K.out.own.cellAt hz
      have hf := K.out.own.freeAt k
      clear hz hlo
      go_wp2_with fail
      go_roundw
      case rel => exact ⟨k + 1, lo.set k (z + 1), by omega, by go_num, Lib.hid (K.out.poke rfl k (z + 1) _ (by unfold bv; rw [add_u8]))⟩
      case measure => simp [intOf]; omega
    · go_wp2_with fail
      go_ret
      rw [HE.out, HE'.out]
      exact K.out.done
set_option maxRecDepth 100000 in
set_option maxHeartbeats 4000000 in
theorem put_no (x y base base' : Nat) (A D : Option Addr) (s t : Int × List UInt8) (what size : Int) (v : Nat) (PA : Option Addr) (pc : Nat) (pb : List UInt8) (w : World) (h1 : WrR w x base A s) (h2 : WrQ w y base' D t) (hd : ∀ g ∈ blkO A, g ∉ blkO D) (hp : Pt.ok w w.heap.size ⟨what, size, v, PA, pc, pb⟩) (hA : 0 < pb.length → ∀ g o, PA = some ⟨g, o, none⟩ → g ∉ blkO A) (hD : 0 < pb.length → ∀ g o, PA = some ⟨g, o, none⟩ → g ∉ blkO D)
    (hb : base ≤ w.heap.size) (hb' : base' ≤ w.heap.size) (hl : s.2.length ≤ 1000000) (hl' : t.2.length ≤ 1000000) (hm : pb.length ≤ 300) (hk : what ≠ 0 ∧ what ≠ 1 ∧ what ≠ 2 ∧ what ≠ 3 ∧ what ≠ 4) :
    Calls Try.prog 16 #[.pointer (some ⟨x, 0, none⟩), .pointer (some ⟨y, 0, none⟩), .agg #[.int .i64 what, .int .i64 size, .int .u64 (v : Int), .slice PA pb.length pc]] w (RetPut x y base base' A D (putP ⟨what, size, v, PA, pc, pb⟩ s) (putP ⟨what, size, v, PA, pc, pb⟩ t) w) := by
  have HS := Lib.hid (fun O n c lo w1 => @PK.start w w1 x y base base' A D ⟨what, size, v, PA, pc, pb⟩ s t O n c lo h1 h2 hd hp.rb hA hD)
  have hal := below_alloc w (.cells (Pt.cells ⟨what, size, v, PA, pc, pb⟩).toArray 48)
  have HP := Lib.hid (hp.rb.step hal)
  have hv64 := hp.v64
  have hsz := hp.size
  have hcp := hp.cap
  simp only at hv64 hsz hcp
  unfold I64 at hsz
  have e0 : (what == 0) = false := by rw [beq_eq_false_iff_ne]; exact hk.1
  have e1 : (what == 1) = false := by rw [beq_eq_false_iff_ne]; exact hk.2.1
  have e2 : (what == 2) = false := by rw [beq_eq_false_iff_ne]; exact hk.2.2.1
  have e3 : (what == 3) = false := by rw [beq_eq_false_iff_ne]; exact hk.2.2.2.1
  have e4 : (what == 4) = false := by rw [beq_eq_false_iff_ne]; exact hk.2.2.2.2
  have hE : ∀ u, putP ⟨what, size, v, PA, pc, pb⟩ u = u := fun u => by
    have : encP ⟨what, size, v, PA, pc, pb⟩ = ([], 0) := by
      unfold encP
      rw [if_neg hk.1, if_neg hk.2.1, if_neg hk.2.2.1, if_neg hk.2.2.2.1, if_neg hk.2.2.2.2]
    unfold putP
    rw [this]
    exact putS_nil u
  have HE := Lib.hid (hE s)
  have HE' := Lib.hid (hE t)
  clear hE hk
  clear h1 h2 hd hp hA hD hal
  have hwe := w_eql
  go_enter Try.func16, Try.ntmps16
  go_wp2_with fail
  refine (copy_any PA pb.length pc 0 pb _ (by exact HP.out) (by omega)).mono ?_
  rintro e w1 ⟨O, co, rfl, ho, hb1⟩
  have K1 := Lib.hid (HS.out O _ co pb w1 hb1 ho)
  have CO := ho.cap
  have b0 := K1.out.b0
  have b1 := K1.out.b1
  have b2 := K1.out.b2
  have b3 := K1.out.b3
  have z1 := K1.out.more
  clear ho hb1 HS
  go_wp2_with fail
  go_loopw [10] (fun i wr => ∃ (k : Nat) (lo : List UInt8), k ≤ pb.length ∧ i = .int .i64 k ∧ Hid (PK w x y base base' A D w.heap.size ⟨what, size, v, PA, pc, pb⟩ O pb.length co lo A D s t wr)) (fun i _ => pb.length - (intOf i).toNat)
  case atStart => exact ⟨0, pb, by omega, rfl, K1⟩
  case round =>
    obtain ⟨k, lo, hk, rfl, K⟩ := hrel
    clear K1
    by_cases hlt : k < pb.length
    · have hlo := K.out.own.len
      obtain ⟨g, rfl, _⟩ := K.out.own.form (by omega)
      obtain ⟨z, hz⟩ : ∃ z, lo[k]? = some z := ⟨_, List.getElem?_eq_getElem (by omega)⟩
      have hc := K.out.own.cellAt hz
      have hf := K.out.own.freeAt k
      clear hz hlo
      go_wp2_with fail
      go_roundw
      case rel => exact ⟨k + 1, lo.set k (z + 1), by omega, by go_num, Lib.hid (K.out.poke rfl k (z + 1) _ (by unfold bv; rw [add_u8]))⟩
      case measure => simp [intOf]; omega
    · go_wp2_with fail
      go_ret
      rw [HE.out, HE'.out]
      exact K.out.done
theorem put_any (x y base base' : Nat) (A D : Option Addr) (s t : Int × List UInt8) (p : Pt) (w : World) (h1 : WrR w x base A s) (h2 : WrQ w y base' D t) (hd : ∀ g ∈ blkO A, g ∉ blkO D) (hp : p.ok w w.heap.size) (hA : 0 < p.b.length → ∀ g o, p.A = some ⟨g, o, none⟩ → g ∉ blkO A) (hD : 0 < p.b.length → ∀ g o, p.A = some ⟨g, o, none⟩ → g ∉ blkO D)
    (hb : base ≤ w.heap.size) (hb' : base' ≤ w.heap.size) (hl : s.2.length ≤ 1000000) (hl' : t.2.length ≤ 1000000) (hm : p.b.length ≤ 300) :
    Calls Try.prog 16 #[.pointer (some ⟨x, 0, none⟩), .pointer (some ⟨y, 0, none⟩), p.val] w (RetPut x y base base' A D (putP p s) (putP p t) w) := by
  obtain ⟨what, size, v, PA, pc, pb⟩ := p
  by_cases k0 : what = 0
  · subst k0; exact put_0 x y base base' A D s t size v PA pc pb w h1 h2 hd hp hA hD hb hb' hl hl' hm
  by_cases k1 : what = 1
  · subst k1; exact put_1 x y base base' A D s t size v PA pc pb w h1 h2 hd hp hA hD hb hb' hl hl' hm
  by_cases k2 : what = 2
  · subst k2; exact put_2 x y base base' A D s t size v PA pc pb w h1 h2 hd hp hA hD hb hb' hl hl' hm
  by_cases k3 : what = 3
  · subst k3; exact put_3 x y base base' A D s t size v PA pc pb w h1 h2 hd hp hA hD hb hb' hl hl' hm
  by_cases k4 : what = 4
  · subst k4; exact put_4 x y base base' A D s t size v PA pc pb w h1 h2 hd hp hA hD hb hb' hl hl' hm
  exact put_no x y base base' A D s t what size v PA pc pb w h1 h2 hd hp hA hD hb hb' hl hl' hm ⟨k0, k1, k2, k3, k4⟩
end Go.Proofs.Ytakmnfcbfbkloaa
