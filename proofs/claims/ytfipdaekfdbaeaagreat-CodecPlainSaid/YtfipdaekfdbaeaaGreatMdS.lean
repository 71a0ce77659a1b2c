/- Layer 16: stores into a configuration. No condition; nothing is claimed of the program here. -/
import Derived.Test.YtfipdaekfdbaeaaGreatMdA
import Derived.Laws.IdiomCopy
namespace Go.Proofs.YtfipdaekfdbaeaaGreat
open Go.RowKit
set_option linter.unusedVariables false
set_option linter.unusedSimpArgs false
theorem putsL_eq : ∀ (vs cs : List Value) (o : Nat), o + vs.length ≤ cs.length → putsL cs o vs = cs.take o ++ (vs ++ cs.drop (o + vs.length))
  | [], cs, o, h => by simp [putsL]
  | v :: r, cs, o, h => by
    simp only [List.length_cons] at h
    rw [putsL, putsL_eq r _ _ (by rw [List.length_set]; omega)]
    have e : cs.set o v = cs.take o ++ v :: cs.drop (o + 1) := by rw [List.set_eq_take_append_cons_drop, if_pos (by omega)]
    have hA : (cs.take o).length = o := by rw [List.length_take]; omega
    have e1 : (cs.take o ++ v :: cs.drop (o + 1)).take (o + 1) = cs.take o ++ [v] := by
      rw [List.take_append, hA, List.take_of_length_le (by omega), show o + 1 - o = 1 by omega]
      rfl
    have e2 : (cs.take o ++ v :: cs.drop (o + 1)).drop (o + 1 + r.length) = cs.drop (o + (v :: r).length) := by
      rw [List.drop_append, hA, List.drop_of_length_le (by omega), List.nil_append, show o + 1 + r.length - o = r.length + 1 by omega, List.drop_succ_cons, List.drop_drop, List.length_cons]
      congr 1
      omega
    rw [e, e1, e2]
    simp
theorem puts_whole (vs cs : List Value) (h : vs.length = cs.length) : putsL cs 0 vs = vs := by
  rw [putsL_eq vs cs 0 (by omega)]
  simp [h]
theorem puts_key (m s n : Int) (k k' : List UInt8) (h : k'.length = k.length) : putsL (Cfg.cells ⟨m, s, n, k⟩) 3 (bvs k') = Cfg.cells ⟨m, s, n, k'⟩ := by
  have hl : (Cfg.cells ⟨m, s, n, k⟩).length = 3 + k.length := by simp [Cfg.cells, bvs_length]; omega
  rw [putsL_eq _ _ _ (by rw [hl, bvs_length]; omega), bvs_length, List.drop_of_length_le (by rw [hl]; omega), List.append_nil]
  rfl
theorem set_key (m s n : Int) (k : List UInt8) (i : Nat) (x : UInt8) : (Cfg.cells ⟨m, s, n, k⟩).set (3 + i) (bv x) = Cfg.cells ⟨m, s, n, k.set i x⟩ := by
  rw [show 3 + i = i + 1 + 1 + 1 by omega]
  simp [Cfg.cells, bvs, List.map_set]
theorem zero_lit : (Value.agg #[.int .i64 0, .int .i64 0, .int .i64 0, .int .u8 0, .int .u8 0, .int .u8 0, .int .u8 0, .int .u8 0, .int .u8 0, .int .u8 0, .int .u8 0, .int .u8 0, .int .u8 0, .int .u8 0, .int .u8 0, .int .u8 0, .int .u8 0, .int .u8 0, .int .u8 0]) = .agg zeroC.cells.toArray := rfl
theorem three_lit (m s n : Int) : (Value.agg #[.int .i64 m, .int .i64 s, .int .i64 n, .int .u8 0, .int .u8 0, .int .u8 0, .int .u8 0, .int .u8 0, .int .u8 0, .int .u8 0, .int .u8 0, .int .u8 0, .int .u8 0, .int .u8 0, .int .u8 0, .int .u8 0, .int .u8 0, .int .u8 0, .int .u8 0]) = Cfg.val ⟨m, s, n, zK⟩ := rfl
theorem ex_stC (ev : Operand → Value) (x y : Operand) (d : Option Tmp) (ty : TypeId) (ps : String) (af : Array Edge) (g : Option (Nat × Bool)) (w : World) : (execOp ev ⟨d, .store 24 x y, ty, ps, af, g⟩).run Tryz.prog w = stHd 24 (ev x) (ev y) w := rfl
theorem ex_stR (ev : Operand → Value) (x y : Operand) (d : Option Tmp) (ty : TypeId) (ps : String) (af : Array Edge) (g : Option (Nat × Bool)) (w : World) : (execOp ev ⟨d, .store 32 x y, ty, ps, af, g⟩).run Tryz.prog w = stHd 32 (ev x) (ev y) w := rfl
/-- A whole configuration stored over another one. -/
theorem st_cfg {T : TypeId} (rt : RT T zeroC.cells) {w : World} {q : Nat} {c d : Cfg} (k : Blk T w q c.cells) (hc : c.ok) (hd : d.ok) : stHd T (.pointer (some ⟨q, 0, none⟩)) d.val w = .ok .skip (w.setCells q 0 d.cells) := by
  rw [val_agg]
  exact stB_m rt k (cells_one d) (by rw [Cfg.cells_len hd, zeroC_len]) (by rw [Cfg.cells_len hc, zeroC_len]; omega)
theorem blk_put {T : TypeId} {w : World} {q : Nat} {c d : Cfg} (k : Blk T w q c.cells) (hc : c.ok) (hd : d.ok) : Blk T (w.setCells q 0 d.cells) q d.cells := by
  have h := k.puts d.cells 0
  rwa [puts_whole _ _ (by rw [Cfg.cells_len hd, Cfg.cells_len hc])] at h
theorem blk_new (T : TypeId) (w : World) : Blk T (w.alloc (.cells zeroC.cells.toArray T)) w.heap.size zeroC.cells := Blk.new _ _ _ _ rfl
theorem three_ok (x0 x1 x2 : UInt8) (k : List UInt8) (h : k.length = 16) : Cfg.ok ⟨(x0.toNat : Int), (x1.toNat : Int), (x2.toNat : Int), k⟩ := by
  have h0 := x0.toNat_lt
  have h1 := x1.toNat_lt
  have h2 := x2.toNat_lt
  exact ⟨h, by simp only; omega, by simp only; omega, by simp only; omega⟩
/-- Twenty bytes and more, and the configuration that they begin with. -/
theorem head_at {l : List UInt8} {x0 x1 x2 : UInt8} (h0 : l[0]? = some x0) (h1 : l[1]? = some x1) (h2 : l[2]? = some x2) : headC l = ⟨(x0.toNat : Int), (x1.toNat : Int), (x2.toNat : Int), (l.drop 4).take 16⟩ := by
  unfold headC
  simp [List.getD, h0, h1, h2]
/-- The key, its first k bytes laid. -/
def keyTo (l : List UInt8) (k : Nat) : List UInt8 := (l.drop 4).take k ++ zK.drop k
theorem keyTo_0 (l : List UInt8) : keyTo l 0 = zK := rfl
theorem keyTo_16 (l : List UInt8) : keyTo l 16 = (l.drop 4).take 16 := by unfold keyTo; rw [show zK.drop 16 = [] from rfl, List.append_nil]
theorem keyTo_len (l : List UInt8) (k : Nat) (h : 20 ≤ l.length) (hk : k ≤ 16) : (keyTo l k).length = 16 := by unfold keyTo; simp [zK]; omega
theorem keyTo_set {l : List UInt8} {k : Nat} {x : UInt8} (h : 20 ≤ l.length) (hk : k < 16) (hx : l[4 + k]? = some x) : (keyTo l k).set k x = keyTo l (k + 1) := by
  have hl : ((l.drop 4).take k).length = k := by simp; omega
  unfold keyTo
  rw [List.set_append_right _ _ (by omega), hl, Nat.sub_self]
  have e1 : (l.drop 4)[k]? = some x := by rw [List.getElem?_drop]; exact hx
  rw [take_snoc e1, List.append_assoc]
  congr 1
  have hz : zK.drop k = 0 :: zK.drop (k + 1) := by
    rw [List.drop_eq_getElem_cons (by rw [zK_len]; omega)]
    have hz0 : ∀ h, zK[k]'h = 0 := fun h => List.getElem_replicate ..
    rw [hz0]
  rw [hz]
  rfl
end Go.Proofs.YtfipdaekfdbaeaaGreat
