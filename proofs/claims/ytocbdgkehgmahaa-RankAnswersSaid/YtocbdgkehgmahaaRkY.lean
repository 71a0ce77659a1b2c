/- Layer 23: what sorting leaves in memory of Ids with scores. Nothing is claimed of the program here. -/
import Derived.Test.YtocbdgkehgmahaaRkJ
import Derived.Shelf.GgSortFunc.InsertionK
namespace Go.Proofs.Ytocbdgkehgmahaa
open Go.RowKit Go.Sort
set_option linter.unusedVariables false
set_option linter.unusedSimpArgs false
theorem flat_sco (l : List (Int × Int)) {j : Nat} (hj : j < l.length * 2) : (l.map sco).flatten[j]? = some (flatK sco 2 l.toArray)[j]! := by
  rw [get_flatK sco 2 l.toArray j (by simpa using hj)]
  have hlt : j / 2 < l.length := by omega
  obtain ⟨p, hp⟩ : ∃ p, l[j / 2]? = some p := ⟨l[j / 2], List.getElem?_eq_getElem hlt⟩
  have hf := flat_row (scos_recs l) (i := j / 2) (r := sco p) (j := j % 2) (by rw [List.getElem?_map, hp]; rfl) (by omega)
  have ej : j / 2 * 2 + j % 2 = j := by omega
  rw [ej] at hf
  rw [hf]
  have hd : l.toArray[j / 2]! = p := by
    rw [getElem!_pos _ _ (by simpa using hlt)]
    obtain ⟨h1, h2⟩ := List.getElem?_eq_some_iff.1 hp
    simpa using h2
  rw [hd]
  have h2 : j % 2 < (sco p).length := by rw [sco_len]; omega
  rw [List.getElem?_eq_getElem h2]
  exact congrArg some (getElem!_pos (sco p) (j % 2) h2).symm
section
variable {w : World} {base g n c m : Nat} {l l' : List (Int × Int)} {os : Array Obj}
theorem OwnS.holds (h : OwnS w base (some ⟨g, 0, none⟩) n c l) : HoldsK sco 2 w g 0 l.toArray := by
  have hl := h.len
  obtain ⟨_, _, _, cur, hh, hs, ht⟩ := Grd.blk h (g := g) (by simp [blkO])
  intro j hj
  have hj2 : j < l.length * 2 := by simpa using hj
  refine ⟨?_, frozen_of_row w g _ _ _ hh⟩
  rw [Nat.zero_add, cell_of_row w g j _ _ (0, 0) hh, ← Array.getElem?_toList]
  have := flat_sco l hj2
  rw [← ht, List.getElem?_take, if_pos (by omega)] at this
  exact this
theorem put_cells (F cur : Array Value) (h : F.size ≤ cur.size) : (putCells id 0 F cur).size = cur.size ∧ (putCells id 0 F cur).toList.take F.size = F.toList := by
  have h1 : (putCells id 0 F cur).size = cur.size := by unfold putCells; simp
  refine ⟨h1, List.ext_getElem? fun j => ?_⟩
  rw [List.getElem?_take]
  by_cases hj : j < F.size
  · rw [if_pos hj, Array.getElem?_toList, Array.getElem?_toList, Array.getElem?_eq_getElem (by omega), Array.getElem?_eq_getElem hj]
    unfold putCells
    simp only [Array.getElem_mapIdx]
    rw [if_pos ⟨Nat.zero_le _, by omega⟩]
    simp [getElem!_pos F j hj]
  · rw [if_neg hj, List.getElem?_eq_none (by simpa using hj)]
theorem OwnS.sorted (h : OwnS w base (some ⟨g, 0, none⟩) n c l) (hb : base ≤ w.heap.size) (hl' : l'.length = n) :
    OwnS (sortWorldK sco 2 w g 0 m l'.toArray os) base (some ⟨g, 0, none⟩) n c l' ∧ Below base w (sortWorldK sco 2 w g 0 m l'.toArray os) := by
  have hcap := Grd.cap h
  obtain ⟨_, hbg, hg, cur, hh, hs, ht⟩ := Grd.blk h (g := g) (by simp [blkO])
  have hF : (flatK sco 2 l'.toArray).size = n * 2 := by simp [hl']
  obtain ⟨p1, p2⟩ := put_cells (flatK sco 2 l'.toArray) cur (by rw [hF, hs]; omega)
  have hheap : (sortWorldK sco 2 w g 0 m l'.toArray os).heap = (w.heap.modify g (onCells (putCells id 0 (flatK sco 2 l'.toArray)))) ++ os := rfl
  have hat : (sortWorldK sco 2 w g 0 m l'.toArray os).heap[g]? = some (.cells (putCells id 0 (flatK sco 2 l'.toArray) cur) 61 (0, 0)) := by
    rw [hheap, Array.getElem?_append_left (by simpa using hg), Array.getElem?_modify, if_pos rfl, hh]
    rfl
  have ho : Oth [g] w (sortWorldK sco 2 w g 0 m l'.toArray os) := ⟨rfl, rfl, rfl, by rw [hheap]; simp, fun k hk hn => by
    rw [hheap, Array.getElem?_append_left (by simpa using hk), Array.getElem?_modify, if_neg (fun e => hn (List.mem_singleton.2 e.symm))]⟩
  refine ⟨⟨⟨?_, .inr ⟨g, c, _, rfl, hbg, hat, hcap.1, hcap.2, by rw [p1, hs], ?_⟩⟩, by rw [List.length_map, hl'], scos_recs l'⟩, ho.below (fun k hk => by rw [List.mem_singleton.1 hk]; exact hbg) hb⟩
  · rw [(scos_recs l').len, List.length_map, hl']
  · rw [hF] at p2
    rw [p2]
    apply List.ext_getElem?
    intro j
    by_cases hj : j < n * 2
    · rw [flat_sco l' (by rw [hl']; exact hj), Array.getElem?_toList, Array.getElem?_eq_getElem (by rw [hF]; exact hj), getElem!_pos _ j (by rw [hF]; exact hj)]
    · rw [List.getElem?_eq_none (by rw [Array.length_toList, hF]; omega), List.getElem?_eq_none (by rw [(scos_recs l').len, List.length_map, hl']; omega)]
end
theorem ltS_total (x y : Int × Int) (h1 : ltS x y = false) (h2 : ltS y x = false) : x = y := by
  rw [ltS_no] at h1 h2
  exact Prod.ext (by omega) (by omega)
end Go.Proofs.Ytocbdgkehgmahaa
