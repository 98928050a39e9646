/-
  slices.CompactFunc, of neighbours of one name.
-/
import Derived.Test.YtngphfogomchfaaGreatDoorC33
import Derived.Test.YtngphfogomchfaaGreatDoorC28

namespace Go.Proofs.YtngphfogomchfaaGreatDoor
open Go Go.RowKit Go.Maps Go.Sort

theorem runs_snoc (y : Hld) : ∀ (l : List Hld) (p : Bs), runs p (l ++ [y]) = runs p l ++ if y.id = ((l.getLast?.map Hld.id).getD p) then [] else [y]
  | [], p => by
    show (if y.id = p then runs y.id [] else y :: runs y.id []) = _
    by_cases e : y.id = p
    · rw [if_pos e]; simp [runs, e]
    · rw [if_neg e]; simp [runs, e]
  | x :: l, p => by
    show (if x.id = p then runs x.id (l ++ [y]) else x :: runs x.id (l ++ [y])) = (if x.id = p then runs x.id l else x :: runs x.id l) ++ _
    have hl : ((x :: l).getLast?.map Hld.id).getD p = (l.getLast?.map Hld.id).getD x.id := by
      cases l with
      | nil => rfl
      | cons z l =>
        rw [List.getLast?_cons_cons]
        cases hq : (z :: l).getLast? with
        | none => simp at hq
        | some u => rfl
    rw [hl, runs_snoc y l x.id]
    by_cases e : x.id = p
    · rw [if_pos e, if_pos e]
    · rw [if_neg e, if_neg e]; rfl
theorem dedup_snoc {l : List Hld} {i : Nat} (h0 : 1 ≤ i) (hi : i < l.length) : dedup (l.take (i + 1)) = dedup (l.take i) ++ if (l.getD i noHld).id = (l.getD (i - 1) noHld).id then [] else [l.getD i noHld] := by
  rw [take_getD l noHld i hi]
  have hlen : (l.take i).length = i := by rw [List.length_take]; omega
  have hlast : (l.take i).getLast? = some (l.getD (i - 1) noHld) := by
    rw [List.getLast?_eq_getElem?, hlen, List.getElem?_take, if_pos (by omega), List.getD_eq_getElem?_getD, List.getElem?_eq_getElem (by omega)]; rfl
  cases ht : l.take i with
  | nil => rw [ht] at hlen; simp at hlen; omega
  | cons x m =>
    show x :: runs x.id (m ++ [l.getD i noHld]) = (x :: runs x.id m) ++ _
    rw [runs_snoc]
    have h2 : ((m.getLast?.map Hld.id).getD x.id) = (l.getD (i - 1) noHld).id := by
      rw [ht] at hlast
      cases m with
      | nil => rw [← Option.some.inj (show some x = some _ from hlast)]; rfl
      | cons z m =>
        rw [List.getLast?_cons_cons] at hlast
        rw [hlast]; rfl
    rw [h2]; rfl
theorem dedup_len (l : List Hld) : (dedup l).length ≤ l.length := by
  have hr : ∀ (l : List Hld) (p : Bs), (runs p l).length ≤ l.length := fun l => by
    induction l with
    | nil => intro p; exact Nat.le_refl _
    | cons x l ih =>
      intro p
      unfold runs
      by_cases e : x.id = p
      · rw [if_pos e]; have := ih x.id; simp only [List.length_cons]; omega
      · rw [if_neg e]; have := ih x.id; simp only [List.length_cons]; omega
  cases l with
  | nil => exact Nat.le_refl _
  | cons x l => have := hr l x.id; simp only [dedup, List.length_cons]; omega
theorem dedup_few {l : List Hld} (h : l.length < 2) : dedup l = l := by
  match l, h with
  | [], _ => rfl
  | [x], _ => rfl
theorem setMany_lt : ∀ (vs : List Value) (F : Array Value) (s i : Nat), i < s → (setMany F s vs)[i]? = F[i]?
  | [], _, _, _, _ => rfl
  | v :: r, F, s, i, h => by rw [setMany, setMany_lt r _ (s + 1) i (by omega), Array.getElem?_setIfInBounds_ne (by omega)]
theorem blk_setCells {b : Nat} {t : TypeId} {fr : Nat × Nat} : ∀ (vs : List Value) (W : World) (o : Nat) (cs : Array Value), W.heap[b]? = some (.cells cs t fr) → (W.setCells b o vs).heap[b]? = some (.cells (setMany cs o vs) t fr)
  | [], _, _, _, h => h
  | v :: r, _, o, _, h => blk_setCells r _ (o + 1) _ (blk_setCell h v)
theorem but_setCells {b : Nat} {S : Nat → Prop} (hS : S b) : ∀ (vs : List Value) (W : World) (o : Nat), But S W (W.setCells b o vs)
  | [], W, _ => But.refl _ W
  | v :: r, W, o => (But.setCell (But.refl S W) (p := ⟨b, o, none⟩) hS v).trans (but_setCells hS r _ (o + 1))
theorem l_held (W : World) (b o : Nat) (x : Hld) (h0 : W.cell? ⟨b, o, none⟩ = some (SV x.id)) (h1 : W.cell? ⟨b, o + 1, none⟩ = some (.int .i64 x.kind)) (h2 : W.cell? ⟨b, o + 2, none⟩ = some (SV x.data)) :
    (Instr.loadAt 51 (.pointer (some ⟨b, o, none⟩))).run Tryz.prog W = .ok (.agg (heldC x).toArray) W := by
  obtain ⟨xi, xk, xd⟩ := x
  unfold heldC
  unfold SV at h0 h2 ⊢
  simp only at h0 h1 h2 ⊢
  go_simp
theorem zeroHeld (W : World) : (zeroValue 51).run Tryz.prog W = .ok (.agg #[.string ⟨#[]⟩, .int .i64 0, .string ⟨#[]⟩]) W := by kernel_rfl
theorem run_clearH {W : World} {g k n c ty : Nat} {cur : Array Value} (hg : W.heap[g]? = some (.cells cur 51 (0, 0))) (hn : 0 < n) (hk : k * 3 + n * 3 ≤ cur.size) :
    ∃ vs, (Builtin.clear_ #[22] ty #[.slice (some ⟨g, k * 3, none⟩) n c]).run Tryz.prog W = .ok (.tuple #[]) (W.setCells g (k * 3) vs) := by
  obtain ⟨m, rfl⟩ : ∃ m, n = m + 1 := ⟨n - 1, by omega⟩
  have hz := zeroHeld W
  refine ⟨(Builtin.zeroCells (Value.agg #[.string ⟨#[]⟩, .int .i64 0, .string ⟨#[]⟩]).cells (m + 1)).toList, ?_⟩
  have hlen : (Builtin.zeroCells (Value.agg #[.string ⟨#[]⟩, .int .i64 0, .string ⟨#[]⟩]).cells (m + 1)).toList.length = (m + 1) * 3 := by
    rw [Array.length_toList, size_zeroCells]; rfl
  have hst := run_storeCells_cells (P := Tryz.prog) g (k * 3) (Builtin.zeroCells (Value.agg #[.string ⟨#[]⟩, .int .i64 0, .string ⟨#[]⟩]).cells (m + 1)).toList 0 W
    (fun j hj => by rw [hlen] at hj; rw [cell_of_row W g _ cur _ _ hg, Array.getElem?_eq_getElem (by omega)]; rfl) (fun j _ => frozen_of hg)
    (fun v hv => by
      have : ∀ (z : Array Value) (n : Nat), 0 < z.size → (∀ v ∈ z.toList, v.oneCell' = true) → ∀ v ∈ (Builtin.zeroCells z n).toList, v.oneCell' = true := fun z n h0 hz v hv => by
        unfold Builtin.zeroCells at hv
        simp at hv
        obtain ⟨q, _, hv⟩ := hv
        have hq : q % z.size < z.size := Nat.mod_lt _ h0
        rw [getElem!_pos z _ hq] at hv
        exact hz v (by rw [← hv]; simp)
      refine this _ _ (by decide) (fun v hv => ?_) v hv
      have hv2 : v ∈ [Value.string ⟨#[]⟩, Value.int .i64 0, Value.string ⟨#[]⟩] := hv
      simp only [List.mem_cons, List.not_mem_nil, or_false] at hv2
      rcases hv2 with rfl | rfl | rfl <;> rfl)
  simp only [Nat.add_zero] at hst
  simp [Builtin.clear_, run_underlying Tryz.underlying22, hz, hst]
end Go.Proofs.YtngphfogomchfaaGreatDoor
