/-
  The index: rows sorted by their sums.
-/
import Derived.Test.YtdjmcehoaneekaaDoorIRdr
import Derived.Test.YtdjmcehoaneekaaDoorISort
namespace Go.Proofs.YtdjmcehoaneekaaDoor.Ix
open Go.Proofs.YtdjmcehoaneekaaDoor
open Go Go.RowKit Go.Shelf Go.Sort

theorem frozen_of {W : World} {b i : Nat} {cs : Array Value} {t : TypeId} (h : W.heap[b]? = some (.cells cs t (0, 0))) : W.frozen? ⟨b, i, none⟩ = false := by
  simp [World.frozen?, h]
def noRw : Rw := ⟨[], 0⟩
theorem own_of_cells {w : World} {B g cap : Nat} {cur : Array Value} {l : List Rw} (hB : B ≤ g) (hg : w.heap[g]? = some (.cells cur 48 (0, 0))) (h1 : l.length ≤ cap) (h2 : cap ≤ maxLen) (h3 : cur.size = cap * 33)
    (hc : ∀ j, j < l.length → ∀ i, i < 33 → cur[j * 33 + i]? = (rowC (l.getD j noRw))[i]?) : OwK 48 33 rowC w B (.slice (some ⟨g, 0, none⟩) l.length cap) l := by
  refine ⟨flat_length rowC_len l, .inr ⟨g, cap, cur, rfl, hB, hg, h1, h2, h3, ?_⟩⟩
  apply List.ext_getElem?
  intro t
  by_cases ht : t < l.length * 33
  · rw [List.getElem?_take_of_lt ht, Array.getElem?_toList]
    have hq : t / 33 < l.length := by omega
    have hr : t % 33 < 33 := by omega
    have e : t / 33 * 33 + t % 33 = t := by omega
    have := hc (t / 33) hq (t % 33) hr
    rw [e] at this
    have h4 := flat_get rowC_len l (t / 33) _ (List.getElem?_eq_getElem hq) (t % 33) hr
    rw [e] at h4
    rw [this, h4, List.getD_eq_getElem?_getD, List.getElem?_eq_getElem hq]; rfl
  · rw [List.getElem?_take_eq_none (by omega), List.getElem?_eq_none (by rw [flat_length rowC_len]; omega)]
theorem cells_of_own {w : World} {B g c n : Nat} {l : List Rw} (h : OwK 48 33 rowC w B (.slice (some ⟨g, 0, none⟩) n c) l) : ∃ cur, n = l.length ∧ B ≤ g ∧ w.heap[g]? = some (.cells cur 48 (0, 0)) ∧ l.length ≤ c ∧ c ≤ maxLen ∧ cur.size = c * 33 ∧ ∀ j, j < l.length → ∀ i, i < 33 → cur[j * 33 + i]? = (rowC (l.getD j noRw))[i]? := by
  have hr := own_rd rowC_len h
  rcases h.2 with ⟨h0, _⟩ | ⟨g', cap, cur, e, hbg, hg, hnc, hcm, hcs, _⟩
  · cases h0
  · cases e
    refine ⟨cur, rfl, hbg, hg, hnc, hcm, hcs, fun j hj i hi => ?_⟩
    rcases hr with ⟨⟨A, c', e⟩, rfl⟩ | ⟨g2, o2, c2, e, _, _, hcell⟩
    · cases hj
    · cases e
      have := hcell j hj _ (List.getElem?_eq_getElem hj) i hi
      rw [cell_of_row w g _ cur _ _ hg, Nat.zero_add] at this
      rw [this, List.getD_eq_getElem?_getD, List.getElem?_eq_getElem hj]; rfl
theorem holdsK_of {w : World} {g : Nat} {cur : Array Value} {l : List Rw} (hg : w.heap[g]? = some (.cells cur 48 (0, 0))) (hc : ∀ j, j < l.length → ∀ i, i < 33 → cur[j * 33 + i]? = (rowC (l.getD j noRw))[i]?) :
    HoldsK rowC 33 w g 0 l.toArray := by
  intro t ht
  rw [size_flatK] at ht
  have hs : l.toArray.size = l.length := by simp
  rw [hs] at ht
  refine ⟨?_, frozen_of hg⟩
  have hq : t / 33 < l.length := by omega
  have hr : t % 33 < 33 := by omega
  have e : t / 33 * 33 + t % 33 = t := by omega
  have := hc (t / 33) hq (t % 33) hr
  rw [e] at this
  rw [get_flatK rowC 33 l.toArray t (by rw [hs]; exact ht), Nat.zero_add, cell_of_row w g t cur _ _ hg, this]
  have e2 : l.toArray[t / 33]! = l.getD (t / 33) noRw := by
    rw [getElem!_pos _ _ (by simpa using hq), List.getD_eq_getElem?_getD, List.getElem?_eq_getElem hq]; simp
  rw [e2]
  have hl := rowC_len (l.getD (t / 33) noRw)
  rw [List.getElem?_eq_getElem (by omega), getElem!_pos _ _ (by omega)]; rfl
theorem heap_sortedK {w : World} {g n : Nat} {os : Array Obj} {cur : Array Value} {e : TypeId} {fr : Nat × Nat} (d : Array Rw) (hb : w.heap[g]? = some (.cells cur e fr)) :
    (sortWorldK rowC 33 w g 0 n d os).heap[g]? = some (.cells (putCells id 0 (flatK rowC 33 d) cur) e fr) := by
  have hg : g < w.heap.size := (Array.getElem?_eq_some_iff.1 hb).1
  unfold sortWorldK putRowK
  rw [heap_grow_old _ _ (by simpa using hg)]
  simp [putRow, mapBlock, Sort.ahead, Array.getElem?_modify, hb, onCells]
theorem but_sortedK {w : World} {g n : Nat} {os : Array Obj} (d : Array Rw) : Dl.But (fun k => some g = some k) w (sortWorldK rowC 33 w g 0 n d os) := by
  unfold sortWorldK putRowK
  refine ⟨rfl, rfl, rfl, by simp, fun k hk hne => ?_⟩
  rw [heap_grow_old _ _ (by simpa using hk)]
  have : g ≠ k := fun e => hne (by rw [e])
  simp [putRow, mapBlock, Sort.ahead, Array.getElem?_modify, this]
theorem own_sortedK {w : World} {B g c n : Nat} {l : List Rw} (h : OwK 48 33 rowC w B (.slice (some ⟨g, 0, none⟩) l.length c) l) (d : Array Rw) (hd : d.size = l.length) (os : Array Obj) :
    OwK 48 33 rowC (sortWorldK rowC 33 w g 0 n d os) B (.slice (some ⟨g, 0, none⟩) l.length c) d.toList := by
  obtain ⟨cur, _, hB, hg, h1, h2, h3, hc⟩ := cells_of_own h
  have := own_of_cells (l := d.toList) hB (heap_sortedK (n := n) (os := os) d hg) (by simp [hd]; exact h1) h2 (by simp [putCells, h3]) (fun j hj i hi => ?_)
  · simpa [hd] using this
  · have hj' : j < d.size := by simpa using hj
    have h5 : j * 33 + i < cur.size := by omega
    have h6 : j * 33 + i < d.size * 33 := by omega
    have e1 : (j * 33 + i) / 33 = j := by omega
    have e2 : (j * 33 + i) % 33 = i := by omega
    rw [putCells, Array.getElem?_mapIdx, Array.getElem?_eq_getElem h5]
    simp only [Option.map_some, Nat.zero_le, Nat.zero_add, size_flatK, h6, and_self, if_true, Nat.sub_zero, id_eq]
    rw [get_flatK rowC 33 d _ h6, e1, e2, getElem!_pos d j hj', List.getD_eq_getElem?_getD, List.getElem?_eq_getElem hj]
    have hl := rowC_len (d.toList[j])
    simp only [Option.getD_some]
    rw [List.getElem?_eq_getElem (by omega), getElem!_pos _ _ (by rw [show d[j] = d.toList[j] by simp]; omega)]
    simp

theorem rowOne (x : Rw) : ∀ v ∈ rowC x, v.oneCell' = true := fun u hu => Array.all_eq_true_iff_forall_mem.1 (rowA_one x) u (by unfold rowC at hu; simpa using hu)
theorem ltR (x y : Rw) : ltOf cmpR x y = decide (nrm x.sum < nrm y.sum) := by
  unfold ltOf cmpR
  rw [decide_eq_decide]; exact cmp_lt _ _
theorem swoR : SWO (ltOf cmpR) where
  irrefl x := by rw [ltR]; exact decide_eq_false (lt_irrefl_bs _)
  trans x y z h1 h2 := by rw [ltR] at *; exact decide_eq_true (lt_trans_bs (of_decide_eq_true h1) (of_decide_eq_true h2))
  ntrans x y z h1 h2 := by
    rw [ltR] at *
    have a := of_decide_eq_false h1
    have b := of_decide_eq_false h2
    refine decide_eq_false fun h => ?_
    by_cases e : nrm y.sum = nrm x.sum
    · rw [← e] at h; exact b h
    · exact b (lt_trans_bs (lt_total_bs a (Ne.symm e)) h)
def SrtPost (B : Nat) (l : List Rw) (v : Value) (w : World) (e : Ending) (w' : World) : Prop :=
  e = .returned (.tuple #[]) ∧ ∃ m, m.Perm l ∧ (sumsOf m).Pairwise (fun a b => ¬ b < a) ∧ OwK 48 33 rowC w' B v m ∧ Dl.But (fun k => v.ownBlock = some k) w w'
theorem sorted_pair {d : Array Rw} (hf : Fit d.toList) (h : SortedIn (ltOf cmpR) 0 d.size d) : (sumsOf d.toList).Pairwise fun a b => ¬ b < a := by
  unfold sumsOf
  rw [List.pairwise_map, List.pairwise_iff_getElem]
  intro i j hi hj hij
  have := h i j (Nat.zero_le _) hij (by simpa using hj)
  rw [ltR, decide_eq_false_iff_not] at this
  have hi' : i < d.size := by simpa using hi
  have hj' : j < d.size := by simpa using hj
  rw [getElem!_pos d i hi', getElem!_pos d j hj'] at this
  have f1 := hf d[i] (by simp)
  have f2 := hf d[j] (by simp)
  rw [nrm_eq f1, nrm_eq f2] at this
  simpa using this
set_option maxHeartbeats 1000000 in
theorem sortRows_any {w : World} {B : Nat} {v : Value} {l : List Rw} (h : OwK 48 33 rowC w B v l) (hf : Fit l) (hl : l.length ≤ 1000000) : Calls Tryd.prog 24 #[v] w (SrtPost B l v w) := by
  have hsf : Calls Tryd.prog 39 #[v, .func (.func 40) #[] #[]] w (SrtPost B l v w) := by
    have h0 := h
    rcases h.2 with ⟨rfl, hz⟩ | ⟨g, cap, cur, rfl, _⟩
    · obtain rfl : l = [] := List.eq_nil_of_length_eq_zero hz
      have H := Lib.hid h0
      have hp := fun lim W => pdq_none none 0 lim (.func (.func 40) #[] #[]) W
      have hb : ∀ W, Calls Tryd.prog 50 #[.int .u64 0] W fun e w' => e = .returned (.int .i64 (Lib.bitLen 0 : Nat)) ∧ w' = W := fun W => by
        have h := Any.bits_Len (SlLaysF0.n15.bits { Tryd.sortA with }) 0 W (by omega) (by omega)
        exact h
      have HP := Lib.hid hp; have HB := Lib.hid hb
      clear hp hb h0 hz h hf hl
      go_enter Tryd.func39, Tryd.ntmps39
      go_wp2_with fail
      refine (HB.out _).mono ?_
      rintro e w' ⟨rfl, rfl⟩
      go_wp2_with fail
      refine (HP.out _ _).mono ?_
      rintro e w' ⟨rfl, rfl⟩
      go_wp2
      go_end0
      exact ⟨rfl, [], List.Perm.refl _, List.Pairwise.nil, H.out, Dl.But.refl _ _⟩
    · obtain ⟨cur', _, hB, hg, h1, h2, h3, hc⟩ := cells_of_own h
      have eg : ∀ args w, (callFunc 40 args).run Tryd.prog w = .ok (.enter 40 args) w := fun args w => by kernel_rfl
      have hcon := AnyQ.slices_SortFunc Tryd.sortA 33 (fun w => by kernel_rfl) (fun w => by kernel_rfl) rowC rowC_len rowOne cmpR swoR 40 #[] g 0 cap l.toArray w eg (fun m os dk _ x y => closure_any x y _) (holdsK_of hg hc) (lt_heap hg) (by simp; omega)
      rw [show l.toArray.size = l.length by simp] at hcon
      refine hcon.mono ?_
      rintro e w' ⟨rfl, d', n, os, hp, hs, rfl⟩
      have hsz : d'.size = l.length := by have := hp.1; simpa using this
      have hpm : d'.toList.Perm l := by
        have := hp.2.2
        rw [Array.extract_eq_self_of_le (by omega), Array.extract_eq_self_of_le (by simp)] at this
        simpa using this
      refine ⟨rfl, d'.toList, hpm, sorted_pair (hf.perm hpm.symm) (by rw [hsz]; exact hs), own_sortedK h d' hsz os, but_sortedK d'⟩
  obtain ⟨A, c, rfl⟩ := (own_rd rowC_len h).shape
  have HS := Lib.hid hsf
  clear hsf h
  go_enter Tryd.func24, Tryd.ntmps24
  go_wp2_with fail
  refine HS.out.mono ?_
  rintro e w2 ⟨rfl, hr⟩
  have HR := Lib.hid hr
  clear hr
  go_wp2_with fail
  go_end0
  exact ⟨rfl, HR.out⟩
end Go.Proofs.YtdjmcehoaneekaaDoor.Ix
