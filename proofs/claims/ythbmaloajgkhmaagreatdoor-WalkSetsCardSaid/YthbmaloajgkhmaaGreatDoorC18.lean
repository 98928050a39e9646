/-
  Steps of regions that draw their order, more: a store, a look-up, an alloc, a call beside what makes memory.
  slices.CompactFunc, of neighbours of one name.
  ObjectBack, walked.
  The document's line, RightLabel, PutLabel, RightChange, PutChange.
-/
import Derived.Test.YthbmaloajgkhmaaGreatDoorC15
import Derived.Test.YthbmaloajgkhmaaGreatDoorC16
import Derived.Test.YthbmaloajgkhmaaGreatDoorC17
import Derived.Deep.QuietTactic
import Derived.BigQuiet
import Derived.IntWalk
import Derived.Deep.Slices
import Derived.ChangeArms
import Derived.DataShut
import Derived.SizedLaws
import Derived.Test.YthbmaloajgkhmaaGreatDoorC14
import Derived.Test.YthbmaloajgkhmaaGreatDoorC06
import Derived.Test.YthbmaloajgkhmaaGreatDoorC07
import Derived.Test.YthbmaloajgkhmaaGreatDoorC08

namespace Go.Proofs.YthbmaloajgkhmaaGreatDoor
open Go Go.RowKit Go.Maps
section
variable {P : Program} {ops : Array Oper} {Q : Exit → Go.Act → World → Prop} {b : Nat} {w0 : World}
theorem AnyK.store (i : Nat) (w' : World) {oi : Oper} {fuel : Nat} {listed : Array Bool} {a : Go.Act} {w : World} (hr : Region.ready .any ops listed = [i]) (hi : ops[i]? = some oi)
    (hw : Region.wanted oi (yielded ops a.tmps) = true) (he : (execOp a.eval oi).run P w = .ok .skip w') (hb : Below b w0 w') (h : AnyK P ops Q b w0 fuel (listed.setIfInBounds i true) (a.put oi.dst undef) w') : AnyK P ops Q b w0 (fuel + 1) listed a w :=
  held_one hr (held_store w' hi hw he hb h)
/-- A call, or what makes memory: either may come first. -/
theorem AnyK.callop (i j : Nat) {fuel : Nat} {listed : Array Bool} {a : Go.Act} {w : World} (hr : Region.ready .any ops listed = [i, j]) {oi oj : Oper} (f : FuncId) (vs : Array Value) (v' : Value) (w2 : World) (hi : ops[i]? = some oi) (hj : ops[j]? = some oj)
    (hwi : Region.wanted oi (yielded ops a.tmps) = true) (hwj : Region.wanted oj (yielded ops a.tmps) = true) (he : (execOp a.eval oi).run P w = .ok (.enter f vs) w) (hej : (execOp a.eval oj).run P w = .ok (.value v') w2) (hb2 : Below b w0 w2)
    (hc : Calls P f vs w fun e w' => ∃ v, e = .returned v ∧ Below b w0 w' ∧ AnyK P ops Q b w0 fuel (listed.setIfInBounds i true) (a.put oi.dst v) w')
    (h2 : AnyK P ops Q b w0 fuel (listed.setIfInBounds j true) (a.put oj.dst v') w2) : AnyK P ops Q b w0 (fuel + 1) listed a w := by
  refine wpAnyH_ready hr (by simp) (AllReadyH.cons hi (fun K hK => ?_) (AllReadyH.cons hj (fun K hK => ?_) AllReadyH.nil))
  · rw [if_pos hwi]
    unfold Oper.wp
    rw [he, Oper.upon_enter]
    refine hc.mono ?_
    rintro e w' ⟨v, rfl, hb, h⟩
    exact hK.out _ _ hb fun _ => h
  · rw [if_pos hwj]
    unfold Oper.wp
    rw [hej, Oper.upon_value]
    exact hK.out _ _ hb2 fun _ => h2
end
section
variable {P : Program} {a : Go.Act} {o : Oper} {W : World}
theorem y_lookup {t : TypeId} {m x : Operand} {c : Bool} {mv xv r : Value} (ho : o.op = .lookup t m x c) (hm : a.eval m = mv) (hx : a.eval x = xv) (h : (Instr.lookup t mv xv c).run P W = .ok r W) : (execOp a.eval o).run P W = .ok (.value r) W := by
  subst hm hx
  simp only [execOp, ho]
  simp [h, Result.andThen]
theorem y_alloc {t : TypeId} {r : Value} {W' : World} (ho : o.op = .alloc t) (h : (Instr.alloc t true (.tuple #[])).run P W = .ok r W') : (execOp a.eval o).run P W = .ok (.value r) W' := by
  simp only [execOp, ho]
  simp [h, Result.andThen]
end
theorem at_str (W : World) (g o n c k : Nat) (hk : k < n) : (Instr.indexAt 44 (.slice (some ⟨g, o, none⟩) n c) (.int .i64 (k : Int))).run Tryz.prog W = .ok (.pointer (some ⟨g, o + k, none⟩)) W := by
  have h1 : (k : Int) < (n : Int) := by omega
  simp [go_sem, h1]
theorem at_held (W : World) (g o n c k : Nat) (hk : k < n) : (Instr.indexAt 23 (.slice (some ⟨g, o, none⟩) n c) (.int .i64 (k : Int))).run Tryz.prog W = .ok (.pointer (some ⟨g, o + k * 3, none⟩)) W := by
  have h1 : (k : Int) < (n : Int) := by omega
  simp [go_sem, h1]
theorem l_strs (W : World) (b o : Nat) (A : Option Addr) (n c : Nat) (h : W.cell? ⟨b, o, none⟩ = some (.slice A n c)) : (Instr.loadAt 44 (.pointer (some ⟨b, o, none⟩))).run Tryz.prog W = .ok (.slice A n c) W := by
  go_simp
theorem l_ofmap (W : World) (b o : Nat) (m : Nat) (h : W.cell? ⟨b, o, none⟩ = some (.map (some m))) : (Instr.loadAt 63 (.pointer (some ⟨b, o, none⟩))).run Tryz.prog W = .ok (.map (some m)) W := by
  go_simp
theorem l_obj (W : World) (b o : Nat) (k : Int) (d : ByteArray) (h : W.cell? ⟨b, o, none⟩ = some (.int .i64 k)) (h1 : W.cell? ⟨b, o + 1, none⟩ = some (.string d)) : (Instr.loadAt 26 (.pointer (some ⟨b, o, none⟩))).run Tryz.prog W = .ok (.agg #[.int .i64 k, .string d]) W := by
  go_simp
theorem alloc_obj (W : World) : (Instr.alloc 26 true (.tuple #[])).run Tryz.prog W = .ok (.pointer (some ⟨W.heap.size, 0, none⟩)) (W.alloc (.cells #[.int .i64 0, .string ⟨#[]⟩] 26)) := by
  simp [go_sem]
theorem store_obj (W : World) (k : Int) (d : ByteArray) : (Instr.storeAt 26 (.pointer (some ⟨W.heap.size, 0, none⟩)) (.agg #[.int .i64 k, .string d])).run Tryz.prog (W.alloc (.cells #[.int .i64 0, .string ⟨#[]⟩] 26)) = .ok () (W.alloc (.cells #[.int .i64 k, .string d] 26)) := by
  go_simp
theorem alloc_met (W : World) : (Instr.alloc 67 true (.tuple #[])).run Tryz.prog W = .ok (.pointer (some ⟨W.heap.size, 0, none⟩)) (W.alloc (.cells #[.string ⟨#[]⟩, .bool false, .slice none 0 0] 67)) := by
  simp [go_sem]
theorem store_met (W : World) (s : ByteArray) (b : Bool) (A : Option Addr) (n c : Nat) : (Instr.storeAt 67 (.pointer (some ⟨W.heap.size, 0, none⟩)) (.agg #[.string s, .bool b, .slice A n c])).run Tryz.prog (W.alloc (.cells #[.string ⟨#[]⟩, .bool false, .slice none 0 0] 67)) = .ok () (W.alloc (.cells #[.string s, .bool b, .slice A n c] 67)) := by
  go_simp
theorem blk_setCell {W : World} {b i : Nat} {cs : Array Value} {t : TypeId} {fr : Nat × Nat} (h : W.heap[b]? = some (.cells cs t fr)) (v : Value) : (W.setCell ⟨b, i, none⟩ v).heap[b]? = some (.cells (cs.setIfInBounds i v) t fr) := by
  obtain ⟨hlt, hk⟩ := Array.getElem?_eq_some_iff.1 h
  show (W.heap.modify b _)[b]? = _
  rw [Array.getElem?_eq_getElem (by rw [Array.size_modify]; exact hlt), Array.getElem_modify_self, hk]
  rfl
theorem store_met_at (W : World) (b : Nat) (v0 v1 v2 : Value) (h : W.heap[b]? = some (.cells #[v0, v1, v2] 67 (0, 0))) (s : ByteArray) (t : Bool) (A : Option Addr) (n c : Nat) :
    ∃ w', (Instr.storeAt 67 (.pointer (some ⟨b, 0, none⟩)) (.agg #[.string s, .bool t, .slice A n c])).run Tryz.prog W = .ok () w' ∧ w'.heap[b]? = some (.cells #[.string s, .bool t, .slice A n c] 67 (0, 0)) ∧ But (fun k => k = b) W w' := by
  have c0 : W.cell? ⟨b, 0, none⟩ = some v0 := (cell_of_row W _ 0 _ _ _ h).trans rfl
  have c1 : W.cell? ⟨b, 1, none⟩ = some v1 := (cell_of_row W _ 1 _ _ _ h).trans rfl
  have c2 : W.cell? ⟨b, 2, none⟩ = some v2 := (cell_of_row W _ 2 _ _ _ h).trans rfl
  have f0 := frozen_of (i := 0) h
  have f1 := frozen_of (i := 1) h
  have f2 := frozen_of (i := 2) h
  refine ⟨((W.setCell ⟨b, 0, none⟩ (.string s)).setCell ⟨b, 1, none⟩ (.bool t)).setCell ⟨b, 2, none⟩ (.slice A n c), ?_, ?_, ?_⟩
  · go_simp
  · exact blk_setCell (blk_setCell (blk_setCell h _) _) _
  · exact (((But.refl (fun k => k = b) W).setCell (p := ⟨b, 0, none⟩) rfl _).setCell (p := ⟨b, 1, none⟩) rfl _).setCell (p := ⟨b, 2, none⟩) rfl _
end Go.Proofs.YthbmaloajgkhmaaGreatDoor


namespace Go.Proofs.YthbmaloajgkhmaaGreatDoor
open Go Go.RowKit Go.Maps Go.Sort
theorem runs_snoc (y : Hld) : ∀ (l : List Hld) (p : Bs), runs p (l ++ [y]) = runs p l ++ if y.id = ((l.getLast?.map Hld.id).getD p) then [] else [y]
  | [], p => by
    show (if y.id = p then runs y.id [] else y :: runs y.id []) = _
    by_cases e : y.id = p
    · rw [if_pos e]; simp [runs, e]
    · rw [if_neg e]; simp [runs, e]
  | x :: l, p => by
    show (if x.id = p then runs x.id (l ++ [y]) else x :: runs x.id (l ++ [y])) = (if x.id = p then runs x.id l else x :: runs x.id l) ++ _
    have hl : ((x :: l).getLast?.map Hld.id).getD p = (l.getLast?.map Hld.id).getD x.id := by
      cases l with
      | nil => rfl
      | cons z l =>
        rw [List.getLast?_cons_cons]
        cases hq : (z :: l).getLast? with
        | none => simp at hq
        | some u => rfl
    rw [hl, runs_snoc y l x.id]
    by_cases e : x.id = p
    · rw [if_pos e, if_pos e]
    · rw [if_neg e, if_neg e]; rfl
theorem dedup_snoc {l : List Hld} {i : Nat} (h0 : 1 ≤ i) (hi : i < l.length) : dedup (l.take (i + 1)) = dedup (l.take i) ++ if (l.getD i noHld).id = (l.getD (i - 1) noHld).id then [] else [l.getD i noHld] := by
  rw [take_getD l noHld i hi]
  have hlen : (l.take i).length = i := by rw [List.length_take]; omega
  have hlast : (l.take i).getLast? = some (l.getD (i - 1) noHld) := by
    rw [List.getLast?_eq_getElem?, hlen, List.getElem?_take, if_pos (by omega), List.getD_eq_getElem?_getD, List.getElem?_eq_getElem (by omega)]; rfl
  cases ht : l.take i with
  | nil => rw [ht] at hlen; simp at hlen; omega
  | cons x m =>
    show x :: runs x.id (m ++ [l.getD i noHld]) = (x :: runs x.id m) ++ _
    rw [runs_snoc]
    have h2 : ((m.getLast?.map Hld.id).getD x.id) = (l.getD (i - 1) noHld).id := by
      rw [ht] at hlast
      cases m with
      | nil => rw [← Option.some.inj (show some x = some _ from hlast)]; rfl
      | cons z m =>
        rw [List.getLast?_cons_cons] at hlast
        rw [hlast]; rfl
    rw [h2]; rfl
theorem dedup_few {l : List Hld} (h : l.length < 2) : dedup l = l := by
  match l, h with
  | [], _ => rfl
  | [x], _ => rfl
theorem setMany_lt : ∀ (vs : List Value) (F : Array Value) (s i : Nat), i < s → (setMany F s vs)[i]? = F[i]?
  | [], _, _, _, _ => rfl
  | v :: r, F, s, i, h => by rw [setMany, setMany_lt r _ (s + 1) i (by omega), Array.getElem?_setIfInBounds_ne (by omega)]
theorem blk_setCells {b : Nat} {t : TypeId} {fr : Nat × Nat} : ∀ (vs : List Value) (W : World) (o : Nat) (cs : Array Value), W.heap[b]? = some (.cells cs t fr) → (W.setCells b o vs).heap[b]? = some (.cells (setMany cs o vs) t fr)
  | [], _, _, _, h => h
  | v :: r, _, o, _, h => blk_setCells r _ (o + 1) _ (blk_setCell h v)
theorem but_setCells {b : Nat} {S : Nat → Prop} (hS : S b) : ∀ (vs : List Value) (W : World) (o : Nat), But S W (W.setCells b o vs)
  | [], W, _ => But.refl _ W
  | v :: r, W, o => (But.setCell (But.refl S W) (p := ⟨b, o, none⟩) hS v).trans (but_setCells hS r _ (o + 1))
theorem l_held (W : World) (b o : Nat) (x : Hld) (h0 : W.cell? ⟨b, o, none⟩ = some (SV x.id)) (h1 : W.cell? ⟨b, o + 1, none⟩ = some (.int .i64 x.kind)) (h2 : W.cell? ⟨b, o + 2, none⟩ = some (SV x.data)) :
    (Instr.loadAt 35 (.pointer (some ⟨b, o, none⟩))).run Tryz.prog W = .ok (.agg (heldC x).toArray) W := by
  obtain ⟨xi, xk, xd⟩ := x
  unfold heldC
  unfold SV at h0 h2 ⊢
  simp only at h0 h1 h2 ⊢
  go_simp
theorem zeroHeld (W : World) : (zeroValue 35).run Tryz.prog W = .ok (.agg #[.string ⟨#[]⟩, .int .i64 0, .string ⟨#[]⟩]) W := by kernel_rfl
theorem run_clearH {W : World} {g k n c ty : Nat} {cur : Array Value} (hg : W.heap[g]? = some (.cells cur 35 (0, 0))) (hn : 0 < n) (hk : k * 3 + n * 3 ≤ cur.size) :
    ∃ vs, (Builtin.clear_ #[23] ty #[.slice (some ⟨g, k * 3, none⟩) n c]).run Tryz.prog W = .ok (.tuple #[]) (W.setCells g (k * 3) vs) := by
  obtain ⟨m, rfl⟩ : ∃ m, n = m + 1 := ⟨n - 1, by omega⟩
  have hz := zeroHeld W
  refine ⟨(Builtin.zeroCells (Value.agg #[.string ⟨#[]⟩, .int .i64 0, .string ⟨#[]⟩]).cells (m + 1)).toList, ?_⟩
  have hlen : (Builtin.zeroCells (Value.agg #[.string ⟨#[]⟩, .int .i64 0, .string ⟨#[]⟩]).cells (m + 1)).toList.length = (m + 1) * 3 := by
    rw [Array.length_toList, size_zeroCells]; rfl
  have hst := run_storeCells_cells (P := Tryz.prog) g (k * 3) (Builtin.zeroCells (Value.agg #[.string ⟨#[]⟩, .int .i64 0, .string ⟨#[]⟩]).cells (m + 1)).toList 0 W
    (fun j hj => by rw [hlen] at hj; rw [cell_of_row W g _ cur _ _ hg, Array.getElem?_eq_getElem (by omega)]; rfl) (fun j _ => frozen_of hg)
    (fun v hv => by
      have : ∀ (z : Array Value) (n : Nat), 0 < z.size → (∀ v ∈ z.toList, v.oneCell' = true) → ∀ v ∈ (Builtin.zeroCells z n).toList, v.oneCell' = true := fun z n h0 hz v hv => by
        unfold Builtin.zeroCells at hv
        simp at hv
        obtain ⟨q, _, hv⟩ := hv
        have hq : q % z.size < z.size := Nat.mod_lt _ h0
        rw [getElem!_pos z _ hq] at hv
        exact hz v (by rw [← hv]; simp)
      refine this _ _ (by decide) (fun v hv => ?_) v hv
      have hv2 : v ∈ [Value.string ⟨#[]⟩, Value.int .i64 0, Value.string ⟨#[]⟩] := hv
      simp only [List.mem_cons, List.not_mem_nil, or_false] at hv2
      rcases hv2 with rfl | rfl | rfl <;> rfl)
  simp only [Nat.add_zero] at hst
  simp [Builtin.clear_, run_underlying Tryz.underlying23, hz, hst]
end Go.Proofs.YthbmaloajgkhmaaGreatDoor


namespace Go.Proofs.YthbmaloajgkhmaaGreatDoor
open Go Go.RowKit Go.Shelf
/-- A commit's box alone. -/
theorem one_box (w : World) (a0 a1 a2 a3 : Value) (W : World) (hW : Below (w.alloc (.cells #[a0, a1, a2, a3] 86)).heap.size (w.alloc (.cells #[a0, a1, a2, a3] 86)) W) :
    W.cell? ⟨w.heap.size, 0, none⟩ = some a0 ∧ W.cell? ⟨w.heap.size, 1, none⟩ = some a1 ∧ W.cell? ⟨w.heap.size, 2, none⟩ = some a2 ∧ W.cell? ⟨w.heap.size, 3, none⟩ = some a3 :=
  ⟨(hW.cell (p := ⟨w.heap.size, 0, none⟩) (by simp)).trans (by simp), (hW.cell (p := ⟨w.heap.size, 1, none⟩) (by simp)).trans (by simp), (hW.cell (p := ⟨w.heap.size, 2, none⟩) (by simp)).trans (by simp), (hW.cell (p := ⟨w.heap.size, 3, none⟩) (by simp)).trans (by simp)⟩
end Go.Proofs.YthbmaloajgkhmaaGreatDoor


namespace Go.Proofs.YthbmaloajgkhmaaGreatDoor
open Go Go.RowKit Go.Shelf
theorem cut_two (W : World) (s t : List UInt8) (lo hi : Nat) (h1 : lo ≤ hi) (h2 : hi ≤ s.length) (ht : (⟨s.toArray⟩ : ByteArray).extract lo hi = ⟨t.toArray⟩) : (Instr.sliceAt 9 (.string ⟨s.toArray⟩) (some (.int .i64 (lo : Int))) (some (.int .i64 (hi : Int))) none).run Tryz.prog W = .ok (.string ⟨t.toArray⟩) W := by
  rw [run_sliceAt_string W _ _ _ _ _ Tryz.underlying9, run_slice_string W _ _ _ _ _ _ Tryz.underlying9 (by omega) (by omega) (by show (hi : Int) ≤ (s.length : Int); omega), Int.toNat_natCast, Int.toNat_natCast, ht]
theorem cut_from (W : World) (s t : List UInt8) (lo : Nat) (h1 : lo ≤ s.length) (ht : (⟨s.toArray⟩ : ByteArray).extract lo s.length = ⟨t.toArray⟩) : (Instr.sliceAt 9 (.string ⟨s.toArray⟩) (some (.int .i64 (lo : Int))) none none).run Tryz.prog W = .ok (.string ⟨t.toArray⟩) W := by
  rw [run_sliceAt_string W _ _ _ _ _ Tryz.underlying9, run_slice_string_from_if W _ _ _ _ Tryz.underlying9, if_pos ⟨by omega, by show (lo : Int) ≤ (s.length : Int); omega⟩, Int.toNat_natCast, show (⟨s.toArray⟩ : ByteArray).size = s.length from rfl, ht]
theorem u8_ne {c d : UInt8} (h : ¬ c = d) : ¬ (c.toNat : Int) = (d.toNat : Int) := fun e => h (UInt8.toNat_inj.1 (by omega))
def lineV : Option (List UInt8 × List UInt8) → Value
  | some (a, r) => .tuple #[.string ⟨a.toArray⟩, .string ⟨r.toArray⟩, .bool true]
  | none => .tuple #[.string ⟨#[]⟩, .string ⟨#[]⟩, .bool false]
theorem lineP_not {word s : List UInt8} (h : s.take word.length ≠ word) : lineP (word ++ [32]) s = none := by
  cases hl : lineP (word ++ [32]) s with
  | none => rfl
  | some p =>
    obtain ⟨a, r⟩ := p
    have e := (lineP_some hl).1
    exact absurd (by rw [e, List.append_assoc, List.take_left]) h
theorem lineP_not32 {word s : List UInt8} (hl : word.length < s.length) (h : s[word.length] ≠ 32) : lineP (word ++ [32]) s = none := by
  cases hq : lineP (word ++ [32]) s with
  | none => rfl
  | some p =>
    obtain ⟨a, r⟩ := p
    have e := (lineP_some hq).1
    refine absurd ?_ h
    have e2 : s[word.length]? = some 32 := by rw [e]; simp
    exact Option.some.inj ((List.getElem?_eq_getElem hl).symm.trans e2)
theorem lineP_split {word s : List UInt8} (hl : word.length < s.length) (h1 : s.take word.length = word) (h2 : s[word.length] = 32) : s = (word ++ [32]) ++ s.drop (word.length + 1) := by
  have e := (List.take_append_drop (word.length + 1) s).symm
  rw [List.take_succ_eq_append_getElem hl, h1, h2] at e
  exact e
theorem lineP_at {word s : List UInt8} {i : Nat} (hl : word.length < s.length) (h1 : s.take word.length = word) (h2 : s[word.length] = 32) (hi : i < s.length) (hwi : word.length < i) (h10 : s[i] = 10)
    (hno : (10 : UInt8) ∉ (s.take i).drop (word.length + 1)) : lineP (word ++ [32]) s = some ((s.take i).drop (word.length + 1), s.drop (i + 1)) := by
  have e : s = (word ++ [32]) ++ ((s.take i).drop (word.length + 1) ++ 10 :: s.drop (i + 1)) := by
    have e1 := lineP_split hl h1 h2
    have e2 : s.drop (word.length + 1) = (s.take i).drop (word.length + 1) ++ 10 :: s.drop (i + 1) := by
      have e3 : s = s.take i ++ (10 :: s.drop (i + 1)) := by
        have := (List.take_append_drop (i + 1) s).symm
        rw [List.take_succ_eq_append_getElem hi, h10, List.append_assoc] at this
        exact this
      have e4 : s.drop (word.length + 1) = (s.take i ++ (10 :: s.drop (i + 1))).drop (word.length + 1) := by rw [← e3]
      rw [e4, List.drop_append_of_le_length (by rw [List.length_take]; omega)]
    rw [← e2]; exact e1
  have h := lineP_mk (pre := word ++ [32]) (r := s.drop (i + 1)) hno
  rw [← e] at h; exact h
theorem lineP_never {word s : List UInt8} (hno : (10 : UInt8) ∉ s.drop (word.length + 1)) : lineP (word ++ [32]) s = none := by
  cases hq : lineP (word ++ [32]) s with
  | none => rfl
  | some p =>
    obtain ⟨a, r⟩ := p
    have e := (lineP_some hq).1
    refine absurd ?_ hno
    have e2 : s.drop (word.length + 1) = a ++ 10 :: r := by
      rw [e, show word.length + 1 = (word ++ [32]).length by simp, List.drop_left]
    rw [e2]; simp
theorem no10_more {s : List UInt8} {i n : Nat} (hi : i < s.length) (hn : n ≤ i) (h : (10 : UInt8) ∉ (s.take i).drop n) (h10 : s[i] ≠ 10) : (10 : UInt8) ∉ (s.take (i + 1)).drop n := by
  rw [List.take_succ_eq_append_getElem hi, List.drop_append_of_le_length (by rw [List.length_take]; omega)]
  simp only [List.mem_append, List.mem_singleton, not_or]
  exact ⟨h, fun e => h10 e.symm⟩
set_option maxRecDepth 100000 in
set_option maxHeartbeats 4000000 in
theorem Rline_any (s word : List UInt8) (hs : s.length ≤ 1000000) (hwd : word.length ≤ 100) (w : World) :
    Calls Tryz.prog 61 #[.string ⟨s.toArray⟩, .string ⟨word.toArray⟩] w (RetBelow (lineV (lineP (word ++ [32]) s)) w) := by
  by_cases h1 : s.length < word.length + 1
  · have HL : Hid (lineP (word ++ [32]) s = none) := Lib.hid (lineP_short (by rw [List.length_append]; exact h1))
    rw [HL.out]
    go_enter Tryz.func61, Tryz.ntmps61
    go_wp2_with fail
    go_ret3
    exact ⟨rfl, Below.refl _ _⟩
  have hlt : word.length < s.length := by omega
  have x0 : (⟨s.toArray⟩ : ByteArray).extract 0 word.length = ⟨(s.take word.length).toArray⟩ := by rw [extract_S]; rfl
  by_cases h2 : s.take word.length = word
  case neg =>
    have HL : Hid (lineP (word ++ [32]) s = none) := Lib.hid (lineP_not h2)
    rw [HL.out]
    obtain ⟨tk, htk⟩ : ∃ tk, tk = s.take word.length := ⟨_, rfl⟩
    rw [← htk] at x0 h2
    have b1 : (tk == word) = false := by simpa using h2
    have b2 : (tk != word) = true := by simpa using h2
    clear h2 htk HL
    go_enter Tryz.func61, Tryz.ntmps61
    go_wp2_with fail
    go_ret3
    exact ⟨rfl, Below.refl _ _⟩
  obtain ⟨c, hc⟩ : ∃ c, c = s[word.length] := ⟨_, rfl⟩
  have gc : ∀ h, ((⟨s.toArray⟩ : ByteArray)[word.length]'h) = c := fun h => hc.symm
  rw [h2] at x0
  by_cases h3 : c = 32
  case neg =>
    have HL : Hid (lineP (word ++ [32]) s = none) := Lib.hid (lineP_not32 hlt (by rw [← hc]; exact h3))
    rw [HL.out]
    have b3 : ¬ (c.toNat : Int) = 32 := u8_ne (d := 32) h3
    have b4 : ((c.toNat : Int) != 32) = true := by simpa using b3
    clear h2 hc h3 HL
    go_enter Tryz.func61, Tryz.ntmps61
    go_wp2_with fail
    go_ret3
    exact ⟨rfl, Below.refl _ _⟩
  have H2 := Lib.hid h2
  have Hc : Hid (s[word.length] = 32) := Lib.hid (by rw [← hc]; exact h3)
  subst h3
  clear h2 hc
  go_enter Tryz.func61, Tryz.ntmps61
  go_wp2_with fail
  clear gc x0
  go_loop [7] (fun vi => ∃ k : Nat, word.length + 1 ≤ k ∧ k ≤ s.length ∧ vi = .int .i64 k ∧ Hid ((10 : UInt8) ∉ (s.take k).drop (word.length + 1))) (fun vi => s.length - (intOf vi).toNat)
  case atStart => exact ⟨word.length + 1, Nat.le_refl _, by omega, by go_num, Lib.hid (by rw [List.drop_eq_nil_of_le (by rw [List.length_take]; omega)]; simp)⟩
  case round =>
    obtain ⟨k, hk1, hk, rfl, hno⟩ := hrel
    by_cases hkl : k < s.length
    · obtain ⟨c, hc⟩ : ∃ c, c = s[k] := ⟨_, rfl⟩
      have gc : ∀ h, ((⟨s.toArray⟩ : ByteArray)[k]'h) = c := fun h => hc.symm
      by_cases h10 : c = 10
      · have HL : Hid (lineP (word ++ [32]) s = some ((s.take k).drop (word.length + 1), s.drop (k + 1))) := Lib.hid (lineP_at hlt H2.out Hc.out hkl (by omega) (by rw [← hc]; exact h10) hno.out)
        have x1 : (⟨s.toArray⟩ : ByteArray).extract (word.length + 1) k = ⟨((s.take k).drop (word.length + 1)).toArray⟩ := extract_S _ _ _
        have x2 : (⟨s.toArray⟩ : ByteArray).extract (k + 1) s.length = ⟨(s.drop (k + 1)).toArray⟩ := by rw [extract_S, List.take_length]
        obtain ⟨ta, hta⟩ : ∃ ta, ta = (s.take k).drop (word.length + 1) := ⟨_, rfl⟩
        obtain ⟨td, htd⟩ : ∃ td, td = s.drop (k + 1) := ⟨_, rfl⟩
        rw [← hta] at x1 HL
        rw [← htd] at x2 HL
        have e1 : IntKind.i64.wrap ((word.length : Int) + 1) = ((word.length + 1 : Nat) : Int) := by rw [IntWalk.i64_in _ (by omega)]; omega
        have e2 : IntKind.i64.wrap ((k : Int) + 1) = ((k + 1 : Nat) : Int) := by rw [IntWalk.i64_in _ (by omega)]; omega
        have p1 : ((word.length + 1 : Nat) : Int) ≤ (k : Int) := by omega
        have p2 : ((k + 1 : Nat) : Int) ≤ (s.length : Int) := by omega
        subst h10
        clear hc hno hta htd
        go_wp2_with fail
        refine AnyB.start (by kernel_rfl) ?_
        refine AnyB.take 0 (.string ⟨s.toArray⟩) rfl (by kernel_rfl) (by kernel_rfl) (by kernel_rfl) (fun _ _ _ h => h) (by kernel_rfl) (fun W hW => by kernel_rfl) ?_
        refine AnyB.take 1 (.string ⟨word.toArray⟩) rfl (by kernel_rfl) (by kernel_rfl) (by kernel_rfl) (fun _ _ _ h => h) (by kernel_rfl) (fun W hW => by kernel_rfl) ?_
        refine AnyB.take 2 (.int .i64 (word.length : Int)) rfl (by kernel_rfl) (by kernel_rfl) (by kernel_rfl) (fun _ _ _ h => h) (by kernel_rfl) (fun W hW => by kernel_rfl) ?_
        refine AnyB.take 3 (.int .i64 ((word.length + 1 : Nat) : Int)) rfl (by kernel_rfl) (by kernel_rfl) (by kernel_rfl) (fun _ _ _ h => h) (by kernel_rfl) (fun W hW => y_bin (x := .int .i64 (word.length : Int)) (y := .int .i64 1) rfl (by kernel_rfl) (by kernel_rfl) rfl (add_i64 W _ _ _ e1)) ?_
        refine AnyB.take 4 (.int .i64 (k : Int)) rfl (by kernel_rfl) (by kernel_rfl) (by kernel_rfl) (fun _ _ _ h => h) (by kernel_rfl) (fun W hW => by kernel_rfl) ?_
        refine AnyB.take 5 (.string ⟨ta.toArray⟩) rfl (by kernel_rfl) (by kernel_rfl) (by kernel_rfl) (fun _ _ _ h => h) (by kernel_rfl) (fun W hW => y_slice (xv := .string ⟨s.toArray⟩) (lv := some (.int .i64 ((word.length + 1 : Nat) : Int))) (hv := some (.int .i64 (k : Int))) (mv := none) rfl (by kernel_rfl) (by kernel_rfl) (by kernel_rfl) rfl (cut_two W s ta (word.length + 1) k (by omega) (by omega) x1)) ?_
        refine AnyB.take 6 (.string ⟨s.toArray⟩) rfl (by kernel_rfl) (by kernel_rfl) (by kernel_rfl) (fun _ _ _ h => h) (by kernel_rfl) (fun W hW => by kernel_rfl) ?_
        refine AnyB.take 7 (.int .i64 (k : Int)) rfl (by kernel_rfl) (by kernel_rfl) (by kernel_rfl) (fun _ _ _ h => h) (by kernel_rfl) (fun W hW => by kernel_rfl) ?_
        refine AnyB.take 8 (.int .i64 ((k + 1 : Nat) : Int)) rfl (by kernel_rfl) (by kernel_rfl) (by kernel_rfl) (fun _ _ _ h => h) (by kernel_rfl) (fun W hW => y_bin (x := .int .i64 (k : Int)) (y := .int .i64 1) rfl (by kernel_rfl) (by kernel_rfl) rfl (add_i64 W _ _ _ e2)) ?_
        refine AnyB.take 9 (.string ⟨td.toArray⟩) rfl (by kernel_rfl) (by kernel_rfl) (by kernel_rfl) (fun _ _ _ h => h) (by kernel_rfl) (fun W hW => y_slice (xv := .string ⟨s.toArray⟩) (lv := some (.int .i64 ((k + 1 : Nat) : Int))) (hv := none) (mv := none) rfl (by kernel_rfl) (by kernel_rfl) rfl rfl (cut_from W s td (k + 1) (by omega) x2)) ?_
        refine AnyB.take 10 (.string ⟨ta.toArray⟩) rfl (by kernel_rfl) (by kernel_rfl) (by kernel_rfl) (fun _ _ _ h => h) (by kernel_rfl) (fun W hW => by kernel_rfl) ?_
        refine AnyB.take 11 (.string ⟨td.toArray⟩) rfl (by kernel_rfl) (by kernel_rfl) (by kernel_rfl) (fun _ _ _ h => h) (by kernel_rfl) (fun W hW => by kernel_rfl) ?_
        refine AnyB.take 12 (.bool true) rfl (by kernel_rfl) (by kernel_rfl) (by kernel_rfl) (fun _ _ _ h => h) (by kernel_rfl) (fun W hW => by kernel_rfl) ?_
        refine AnyB.done _ (by kernel_rfl) ?_
        go_simp
        go_wp2_with fail
        go_ret3
        exact ⟨by rw [HL.out]; rfl, (Below.refl _ _).drew⟩
      · have b3 : ¬ (c.toNat : Int) = 10 := u8_ne (d := 10) h10
        have b4 : ¬ c.toNat = 10 := by omega
        have HN := Lib.hid (no10_more hkl (by omega) hno.out (by rw [← hc]; exact h10))
        clear hc h10 hno
        go_wp2_with fail
        go_round
        case rel => exact ⟨k + 1, by omega, by omega, by go_num, HN⟩
        case measure => simp [intOf]; omega
    · obtain rfl : k = s.length := by omega
      have HL : Hid (lineP (word ++ [32]) s = none) := Lib.hid (lineP_never (by have := hno.out; rwa [List.take_length] at this))
      clear hno
      go_wp2_with fail
      go_ret3
      exact ⟨by rw [HL.out]; rfl, Below.refl _ _⟩
set_option maxRecDepth 100000 in
set_option maxHeartbeats 4000000 in
theorem RRightLabel_any (l : Lbl) (w : World) (hs : l.id.length ≤ 1000000 ∧ l.name.length ≤ 1000000) :
    Calls Tryz.prog 90 #[.agg #[.string ⟨l.id.toArray⟩, .int .i64 l.kind, .string ⟨l.name.toArray⟩, .string ⟨l.text.toArray⟩]] w (RetBelow (.bool (rightL l)) w) := by
  obtain ⟨i, k, n, x⟩ := l
  obtain ⟨s1, s2⟩ := hs
  simp only at s1 s2 ⊢
  have hnd := fun W => RNamed_any i W (by unfold maxLen; omega)
  have hpt := fun W => RPart_any n s2 W
  unfold SV at hnd hpt
  have HB := Lib.hid (below_new w (.cells #[.string ⟨i.toArray⟩, .int .i64 k, .string ⟨n.toArray⟩, .string ⟨x.toArray⟩] 90))
  have HR : Hid (rightL ⟨i, k, n, x⟩ = (namedB i && (decide (1 ≤ k) && decide (k ≤ 4)) && partB n)) := Lib.hid rfl
  cases hn : namedB i
  · have H1 : Hid (rightL ⟨i, k, n, x⟩ = false) := Lib.hid (by rw [HR.out, hn]; rfl)
    rw [hn] at hnd
    have HN := Lib.hid hnd
    clear hnd hpt hn HR
    go_enter Tryz.func90, Tryz.ntmps90
    go_wp2_with fail
    refine (HN.out _).mono ?_
    rintro e w1 ⟨rfl, rfl⟩
    go_wp2_with fail
    go_ret
    exact ⟨ret_bool H1.out.symm, HB.out⟩
  rw [hn] at hnd
  have HN := Lib.hid hnd
  by_cases k1 : k < 1
  · have H1 : Hid (rightL ⟨i, k, n, x⟩ = false) := Lib.hid (by rw [HR.out, decide_eq_false (show ¬ 1 ≤ k by omega)]; simp)
    have d1 : decide (1 ≤ k) = false := decide_eq_false (by omega)
    clear hnd hpt hn HR
    go_enter Tryz.func90, Tryz.ntmps90
    go_wp2_with fail
    refine (HN.out _).mono ?_
    rintro e w1 ⟨rfl, rfl⟩
    go_wp2_with fail
    go_ret
    exact ⟨ret_bool H1.out.symm, HB.out⟩
  have d1 : decide (1 ≤ k) = true := decide_eq_true (by omega)
  have k1' : 1 ≤ k := by omega
  by_cases k4 : 4 < k
  · have H1 : Hid (rightL ⟨i, k, n, x⟩ = false) := Lib.hid (by rw [HR.out, decide_eq_false (show ¬ k ≤ 4 by omega)]; simp)
    have d4 : decide (k ≤ 4) = false := decide_eq_false (by omega)
    clear hnd hpt hn HR
    go_enter Tryz.func90, Tryz.ntmps90
    go_wp2_with fail
    refine (HN.out _).mono ?_
    rintro e w1 ⟨rfl, rfl⟩
    go_wp2_with fail
    go_ret
    exact ⟨ret_bool H1.out.symm, HB.out⟩
  have d4 : decide (k ≤ 4) = true := decide_eq_true (by omega)
  have k4' : k ≤ 4 := by omega
  have H1 : Hid (rightL ⟨i, k, n, x⟩ = partB n) := Lib.hid (by rw [HR.out, hn, d1, d4]; simp)
  have HP := Lib.hid hpt
  clear hnd hpt hn HR
  go_enter Tryz.func90, Tryz.ntmps90
  go_wp2_with fail
  refine (HN.out _).mono ?_
  rintro e w1 ⟨rfl, rfl⟩
  go_wp2_with fail
  refine (HP.out _).mono ?_
  rintro e w1 ⟨rfl, rfl⟩
  go_wp2_with fail
  go_ret
  exact ⟨ret_bool H1.out.symm, HB.out⟩
end Go.Proofs.YthbmaloajgkhmaaGreatDoor
namespace Go.Proofs.YthbmaloajgkhmaaGreatDoor
open Go Go.RowKit Go.Shelf
set_option maxRecDepth 100000 in
set_option maxHeartbeats 4000000 in
theorem RPutLabel_any (l : Lbl) (w : World) (hs : SmallL l) : Calls Tryz.prog 63 #[LblV l] w (RetBelow (putLV l) w) := by
  have B0 := below_new w (.cells #[.string ⟨l.id.toArray⟩, .int .i64 l.kind, .string ⟨l.name.toArray⟩, .string ⟨l.text.toArray⟩] 90)
  have hck := fun W => RRightLabel_any l W ⟨by have := hs.1; omega, by have := hs.2.1; omega⟩
  cases h : rightL l
  · rw [h] at hck
    have HC := Lib.hid hck; have HB := Lib.hid B0
    rw [putLV_no h]
    unfold LblV
    clear hck hs h B0
    go_enter Tryz.func63, Tryz.ntmps63
    go_wp2_with fail
    refine (HC.out _).mono ?_
    rintro e w1 ⟨rfl, l1⟩
    go_wp2_with fail
    go_ret2
    exact ⟨rfl, HB.out.trans (l1.mono HB.out.size)⟩
  rw [h] at hck
  rw [putLV_yes h]
  obtain ⟨g1, g2, g3⟩ := rightL_parts.1 h
  obtain ⟨i, k, nm, tx⟩ := l
  obtain ⟨s1, s2, s3⟩ := hs
  simp only at s1 s2 s3 g1 g2 g3 B0 hck
  unfold LblV SV
  simp only
  have HC := Lib.hid hck
  have hb1 : ∀ w1, Below (w.alloc (.cells #[.string ⟨i.toArray⟩, .int .i64 k, .string ⟨nm.toArray⟩, .string ⟨tx.toArray⟩] 90)).heap.size (w.alloc (.cells #[.string ⟨i.toArray⟩, .int .i64 k, .string ⟨nm.toArray⟩, .string ⟨tx.toArray⟩] 90)) w1 → Below w.heap.size w w1 ∧ w1.heap[w.heap.size]? = some (.cells #[.string ⟨i.toArray⟩, .int .i64 k, .string ⟨nm.toArray⟩, .string ⟨tx.toArray⟩] 90 (0, 0)) := fun w1 h => ⟨B0.trans (h.mono B0.size), (h.block _ (by simp)).trans (heap_alloc_new _ _)⟩
  have HB1 := Lib.hid hb1
  have hwd := fun W => RWord_any k W
  unfold SV at hwd
  have HWd := Lib.hid hwd
  have nk : (kindW k).length ≤ 6 := by rcases kind_cases g2.1 g2.2 with rfl | rfl | rfl | rfl <;> decide
  obtain ⟨t1, ht1⟩ : ∃ x : ByteArray, x = ⟨(wObject ++ i).toArray⟩ := ⟨_, rfl⟩
  obtain ⟨t2, ht2⟩ : ∃ x : ByteArray, x = ⟨((wObject ++ i) ++ (10 :: wKind)).toArray⟩ := ⟨_, rfl⟩
  obtain ⟨t3, ht3⟩ : ∃ x : ByteArray, x = ⟨(((wObject ++ i) ++ (10 :: wKind)) ++ kindW k).toArray⟩ := ⟨_, rfl⟩
  obtain ⟨t4, ht4⟩ : ∃ x : ByteArray, x = ⟨((((wObject ++ i) ++ (10 :: wKind)) ++ kindW k) ++ (10 :: wName)).toArray⟩ := ⟨_, rfl⟩
  obtain ⟨t5, ht5⟩ : ∃ x : ByteArray, x = ⟨(((((wObject ++ i) ++ (10 :: wKind)) ++ kindW k) ++ (10 :: wName)) ++ nm).toArray⟩ := ⟨_, rfl⟩
  obtain ⟨t6, ht6⟩ : ∃ x : ByteArray, x = ⟨((((((wObject ++ i) ++ (10 :: wKind)) ++ kindW k) ++ (10 :: wName)) ++ nm) ++ [10, 10]).toArray⟩ := ⟨_, rfl⟩
  obtain ⟨t7, ht7⟩ : ∃ x : ByteArray, x = ⟨(((((((wObject ++ i) ++ (10 :: wKind)) ++ kindW k) ++ (10 :: wName)) ++ nm) ++ [10, 10]) ++ tx).toArray⟩ := ⟨_, rfl⟩
  have r1 : ∀ W : World, (Op.stringOp .add ⟨#[111, 98, 106, 101, 99, 116, 32]⟩ ⟨i.toArray⟩).run Tryz.prog W = .ok (.string t1) W := cat_run wObject i t1 ht1 (by decide) (by omega)
  have r2 : ∀ W : World, (Op.stringOp .add t1 ⟨#[10, 107, 105, 110, 100, 32]⟩).run Tryz.prog W = .ok (.string t2) W := cat_run2 _ (10 :: wKind) t1 t2 ht1 ht2 (by simp [wObject]; omega) (by decide)
  have r3 : ∀ W : World, (Op.stringOp .add t2 ⟨(kindW k).toArray⟩).run Tryz.prog W = .ok (.string t3) W := cat_run2 _ (kindW k) t2 t3 ht2 ht3 (by simp [wObject, wKind]; omega) (by omega)
  have r4 : ∀ W : World, (Op.stringOp .add t3 ⟨#[10, 110, 97, 109, 101, 32]⟩).run Tryz.prog W = .ok (.string t4) W := cat_run2 _ (10 :: wName) t3 t4 ht3 ht4 (by simp [wObject, wKind]; omega) (by decide)
  have r5 : ∀ W : World, (Op.stringOp .add t4 ⟨nm.toArray⟩).run Tryz.prog W = .ok (.string t5) W := cat_run2 _ nm t4 t5 ht4 ht5 (by simp [wObject, wKind, wName]; omega) (by omega)
  have r6 : ∀ W : World, (Op.stringOp .add t5 ⟨#[10, 10]⟩).run Tryz.prog W = .ok (.string t6) W := cat_run2 _ [10, 10] t5 t6 ht5 ht6 (by simp [wObject, wKind, wName]; omega) (by decide)
  have r7 : ∀ W : World, (Op.stringOp .add t6 ⟨tx.toArray⟩).run Tryz.prog W = .ok (.string t7) W := cat_run2 _ tx t6 t7 ht6 ht7 (by simp [wObject, wKind, wName]; omega) (by omega)
  have H7 := Lib.hid ht7
  have HP : Hid (putL4 ⟨i, k, nm, tx⟩ = ((((((wObject ++ i) ++ (10 :: wKind)) ++ kindW k) ++ (10 :: wName)) ++ nm) ++ [10, 10]) ++ tx) := Lib.hid (by simp [putL4])
  generalize kindW k = kw at HWd r3 H7 HP
  clear h hck g1 g2 g3 s1 s2 s3 B0 hb1 ht1 ht2 ht3 ht4 ht5 ht6 ht7 nk hwd
  go_enter Tryz.func63, Tryz.ntmps63
  go_wp2_with fail
  refine (HC.out _).mono ?_
  rintro e w1 ⟨rfl, l1⟩
  obtain ⟨h1, hb⟩ := HB1.out w1 l1
  have q0 := (cell_of_row w1 w.heap.size 0 _ _ _ hb).trans (by rfl)
  have q1 := (cell_of_row w1 w.heap.size 1 _ _ _ hb).trans (by rfl)
  have q2 := (cell_of_row w1 w.heap.size 2 _ _ _ hb).trans (by rfl)
  have q3 := (cell_of_row w1 w.heap.size 3 _ _ _ hb).trans (by rfl)
  have H1 := Lib.hid h1
  clear h1 hb l1
  go_wp2_with fail
  go_quiet (exact Calls.quiet_of_same ((HWd.out _).mono fun _ _ h => ⟨h.1, h.2.symm⟩))
  go_wp2_with fail
  go_ret2
  exact ⟨by rw [HP.out, H7.out]; rfl, below_drewN H1.out _⟩
theorem parB_dup {l : List (List UInt8)} {j k : Nat} (hj : j < k) (hk : k < l.length) (h : l.getD j [] = l.getD k []) : parB l = false := by
  unfold parB
  have : ¬ l.Nodup := fun h4 => by
    rw [List.Nodup, List.pairwise_iff_getElem] at h4
    have h5 := h4 j k (by omega) hk hj
    rw [getD_elem _ _ _ (show j < l.length by omega), getD_elem _ _ _ hk] at h
    exact h5 h
  rw [decide_eq_false this]; simp
theorem nodup_take {l : List (List UInt8)} {k : Nat} (hk : k < l.length) (h : (l.take k).Nodup) (hn : ∀ i, i < k → l.getD i [] ≠ l.getD k []) : (l.take (k + 1)).Nodup := by
  rw [take_getD l [] k hk, List.nodup_append]
  refine ⟨h, List.nodup_cons.2 ⟨by simp, List.nodup_nil⟩, fun a ha b hb => ?_⟩
  rw [List.mem_singleton.1 hb]
  obtain ⟨i, hi, rfl⟩ := List.mem_iff_getElem.1 ha
  rw [List.length_take] at hi
  have := hn i (by omega)
  rw [getD_elem _ _ _ (show i < l.length by omega)] at this
  rw [List.getElem_take]; exact this
theorem whoB_bad {s : List UInt8} {k : Nat} (hk : k < s.length) (h : whoC s[k] = false) : whoB s = false := by
  unfold whoB; rw [all_less s k hk h]; rfl
theorem rightC_bad {t wh tx : List UInt8} {ps : List (List UInt8)} (h : namedB t = false ∨ parB ps = false ∨ whoB wh = false) : rightC ⟨t, ps, wh, tx⟩ = false := by
  rw [rightC_eq]
  rcases h with h | h | h <;> simp [h]
set_option maxRecDepth 100000 in
set_option maxHeartbeats 16000000 in
theorem RRightChange_any (c : Chg) (vp : Value) (w : World) (hr : StrsR w vp c.parents) (hs : SmallC c) (hl : c.parents.length ≤ 1000000) :
    Calls Tryz.prog 89 #[ChgV c vp] w (RetBelow (.bool (rightC c)) w) := by
  obtain ⟨t, ps, wh, tx⟩ := c
  obtain ⟨s1, s2, s3, s4⟩ := hs
  simp only at s1 s2 s3 s4 hr hl
  obtain ⟨A, ca, rfl⟩ := hr.shape
  unfold ChgV
  simp only
  have HBad := Lib.hid (@rightC_bad t wh tx ps)
  have hnt := fun W => RNamed_any t W (by unfold maxLen; omega)
  have hnp := fun k (hk : k < ps.length) W => RNamed_any (ps.getD k []) W (by have := s2 _ (getD_mem ps [] k hk); unfold maxLen; omega)
  unfold SV at hnt hnp
  have HNp := Lib.hid hnp
  obtain ⟨w0, hw0⟩ : ∃ w0, w0 = w.alloc (.cells #[.string ⟨t.toArray⟩, .slice A ps.length ca, .string ⟨wh.toArray⟩, .string ⟨tx.toArray⟩] 86) := ⟨_, rfl⟩
  have B0 : Below w.heap.size w w0 := by rw [hw0]; exact below_new w _
  have q0 : w0.cell? ⟨w.heap.size, 0, none⟩ = some (.string ⟨t.toArray⟩) := by rw [hw0]; simp
  have q1 : w0.cell? ⟨w.heap.size, 1, none⟩ = some (.slice A ps.length ca) := by rw [hw0]; simp
  have q2 : w0.cell? ⟨w.heap.size, 2, none⟩ = some (.string ⟨wh.toArray⟩) := by rw [hw0]; simp
  have HB := Lib.hid B0; have HW0 := Lib.hid hw0
  have HR := Lib.hid hr
  clear hr hw0 B0 hnp s2 s4
  cases hn : namedB t
  · rw [hn] at hnt
    have HN := Lib.hid hnt
    have HF := Lib.hid (HBad.out (.inl hn))
    clear hnt hn
    go_enter Tryz.func89, Tryz.ntmps89
    go_wp2_with (rw [← HW0.out])
    refine (HN.out _).mono ?_
    rintro e w1 ⟨rfl, rfl⟩
    go_wp2_with fail
    go_ret
    exact ⟨ret_bool HF.out.symm, HB.out⟩
  rw [hn] at hnt
  have HN := Lib.hid hnt
  have HNt := Lib.hid hn
  clear hnt hn
  by_cases h8 : 8 < ps.length
  · have HF := Lib.hid (HBad.out (.inr (.inl (by unfold parB; rw [decide_eq_false (show ¬ ps.length ≤ 8 by omega)]; rfl))))
    go_enter Tryz.func89, Tryz.ntmps89
    go_wp2_with (rw [← HW0.out])
    refine (HN.out _).mono ?_
    rintro e w1 ⟨rfl, rfl⟩
    go_wp2_with fail
    go_ret
    exact ⟨ret_bool HF.out.symm, HB.out⟩
  by_cases h100 : 100 < wh.length
  · have HF := Lib.hid (HBad.out (.inr (.inr (by unfold whoB; rw [decide_eq_false (show ¬ wh.length ≤ 100 by omega)]; simp))))
    go_enter Tryz.func89, Tryz.ntmps89
    go_wp2_with (rw [← HW0.out])
    refine (HN.out _).mono ?_
    rintro e w1 ⟨rfl, rfl⟩
    go_wp2_with fail
    go_ret
    exact ⟨ret_bool HF.out.symm, HB.out⟩
  go_enter Tryz.func89, Tryz.ntmps89
  go_wp2_with (rw [← HW0.out])
  refine (HN.out _).mono ?_
  rintro e w1 ⟨rfl, rfl⟩
  go_wp2_with fail
  go_loop [3] (fun vi => ∃ k : Nat, k ≤ wh.length ∧ vi = .int .i64 k ∧ Hid ((wh.take k).all whoC = true)) (fun vi => wh.length - (intOf vi).toNat)
  case atStart => exact ⟨0, Nat.zero_le _, rfl, Lib.hid rfl⟩
  case round =>
    obtain ⟨k, hk, rfl, hall⟩ := hrel
    by_cases hlt : k < wh.length
    · obtain ⟨c, hc⟩ : ∃ c, c = wh[k] := ⟨_, rfl⟩
      have gc : ∀ h, ((⟨wh.toArray⟩ : ByteArray)[k]'h) = c := fun h => hc.symm
      have Hsn : Hid ((wh.take (k + 1)).all whoC = whoC c) := Lib.hid (by rw [hc]; exact all_more wh k hlt hall.out)
      have Hno : Hid (whoC c = false → whoB wh = false) := Lib.hid (fun h => whoB_bad hlt (by rw [← hc]; exact h))
      clear hc hall
      by_cases k1 : (c.toNat : Int) < 32
      · have HF := Lib.hid (HBad.out (.inr (.inr (Hno.out (by rw [whoC_int, Bool.eq_false_iff]; simp; omega)))))
        go_wp2_with fail
        go_ret
        exact ⟨ret_bool HF.out.symm, HB.out⟩
      by_cases k2 : 126 < (c.toNat : Int)
      · have HF := Lib.hid (HBad.out (.inr (.inr (Hno.out (by rw [whoC_int, Bool.eq_false_iff]; simp; omega)))))
        go_wp2_with fail
        go_ret
        exact ⟨ret_bool HF.out.symm, HB.out⟩
      have hd : Hid (whoC c = true) := Lib.hid (by rw [whoC_int, Bool.eq_iff_iff]; simp; omega)
      go_wp2_with fail
      go_round
      case rel => exact ⟨k + 1, by omega, by go_num, Lib.hid (Hsn.out.trans hd.out)⟩
      case measure => simp [intOf]; omega
    · obtain rfl : k = wh.length := by omega
      have HWho : Hid (whoB wh = true) := Lib.hid (by unfold whoB; have h := hall.out; rw [List.take_of_length_le (by omega)] at h; rw [h, decide_eq_true (show wh.length ≤ 100 by omega)]; rfl)
      clear hall hlt hk
      go_wp2_with fail
      go_loopw [4, 5] (fun vi _a wr => Below w0.heap.size w0 wr ∧ wr.cell? ⟨w.heap.size, 1, none⟩ = some (.slice A ps.length ca) ∧ ∃ k : Nat, k ≤ ps.length ∧ vi = .int .i64 k ∧ Hid (∀ i, i < k → namedB (ps.getD i []) = true) ∧ Hid ((ps.take k).Nodup)) (fun vi _ _ => ps.length - (intOf vi).toNat)
      case atStart => exact ⟨Below.refl _ _, q1, 0, Nat.zero_le _, rfl, Lib.hid fun i hi => absurd hi (Nat.not_lt_zero _), Lib.hid (by simp)⟩
      case round =>
        obtain ⟨hBw, p1, k, hk, rfl, hN, hD⟩ := hrel
        by_cases hlt : k < ps.length
        · obtain ⟨g, o, c', e, _, hg⟩ := HR.out.pos (by omega)
          cases e
          have c0 := StrsR.cell (HR.out.below (HB.out.trans (hBw.mono HB.out.size)) (Nat.le_refl _)) k hlt
          have hnx := HNp.out k hlt
          have hbd : namedB (ps.getD k []) = false → rightC ⟨t, ps, wh, tx⟩ = false := fun h => HBad.out (.inr (.inl (parB_no hlt h)))
          obtain ⟨x, hx⟩ : ∃ x, x = ps.getD k [] := ⟨_, rfl⟩
          rw [← hx] at c0 hnx hbd
          have HX := Lib.hid hx
          unfold SV at c0
          have HBw := Lib.hid hBw
          clear hx hBw
          cases hnd : namedB x
          · rw [hnd] at hnx
            have HNx := Lib.hid hnx
            have HF := Lib.hid (hbd hnd)
            clear hnx hbd hnd
            go_wp2_with fail
            refine (HNx.out _).mono ?_
            intro e w5 hh
            rw [hh.1, ← hh.2]
            clear hh w5
            go_wp2_with fail
            go_ret
            exact ⟨ret_bool HF.out.symm, HB.out.trans (HBw.out.mono HB.out.size)⟩
          rw [hnd] at hnx
          have HNx := Lib.hid hnx
          have HN2 : Hid (∀ i, i < k + 1 → namedB (ps.getD i []) = true) := Lib.hid fun i hi => by
            rcases Nat.lt_or_ge i k with h | h
            · exact hN.out i h
            · rw [show i = k by omega, ← HX.out]; exact hnd
          clear hnx hbd hnd
          obtain ⟨wo, hwo⟩ : ∃ wo, wo = wr := ⟨_, rfl⟩
          subst hwo
          go_wp2_with fail
          refine (HNx.out _).mono ?_
          intro e w5 hh
          rw [hh.1, ← hh.2]
          clear hh w5
          go_wp2_with fail
          go_loopw [5] (fun vj wr => Below w0.heap.size w0 wr ∧ wr.cell? ⟨w.heap.size, 1, none⟩ = some (.slice (some ⟨g, o, none⟩) ps.length ca) ∧ ∃ j : Nat, j ≤ k ∧ vj = .int .i64 j ∧ Hid (∀ i, i < j → ps.getD i [] ≠ x)) (fun vj _ => k - (intOf vj).toNat)
          case atStart => exact ⟨HBw.out, p1, 0, Nat.zero_le _, rfl, Lib.hid fun i hi => absurd hi (Nat.not_lt_zero _)⟩
          case round =>
            obtain ⟨hB5, p5, j, hj, rfl, hno⟩ := hrel
            by_cases hjk : j < k
            · have d0 := StrsR.cell (HR.out.below (HB.out.trans (hB5.mono HB.out.size)) (Nat.le_refl _)) j (by omega)
              have d1 := StrsR.cell (HR.out.below (HB.out.trans (hB5.mono HB.out.size)) (Nat.le_refl _)) k hlt
              rw [← HX.out] at d1
              obtain ⟨y, hy⟩ : ∃ y, y = ps.getD j [] := ⟨_, rfl⟩
              rw [← hy] at d0
              have HY := Lib.hid hy
              unfold SV at d0 d1
              have HB5 := Lib.hid hB5
              clear hy hB5 c0
              by_cases he : y = x
              · have HF := Lib.hid (HBad.out (.inr (.inl (parB_dup hjk hlt (by rw [← HY.out, ← HX.out, he])))))
                subst he
                go_wp2_with fail
                go_quiet (fail)
                go_wp2_with fail
                go_ret
                exact ⟨ret_bool HF.out.symm, below_drewN (HB.out.trans (HB5.out.mono HB.out.size)) _⟩
              · have b3 : (y == x) = false := by simpa using he
                have HNo5 : Hid (∀ i, i < j + 1 → ps.getD i [] ≠ x) := Lib.hid fun i hi => by
                  rcases Nat.lt_or_ge i j with h | h
                  · exact hno.out i h
                  · rw [show i = j by omega, ← HY.out]; exact he
                clear he
                go_wp2_with fail
                go_quiet (fail)
                go_wp2_with fail
                go_roundw
                case rel => exact ⟨below_drewN HB5.out _, p5, j + 1, hjk, by go_num, HNo5⟩
                case measure => simp [intOf]; omega
            · obtain rfl : j = k := by omega
              have HD5 := Lib.hid (nodup_take hlt hD.out (fun i hi => by rw [← HX.out]; exact hno.out i hi))
              have HB5 := Lib.hid hB5
              clear hB5 hno c0
              go_wp2_with fail
              go_roundw
              case rel => exact ⟨HB5.out, p5, j + 1, hlt, by go_num, HN2, HD5⟩
              case measure => simp [intOf]; omega
        · obtain rfl : k = ps.length := by omega
          have HF : Hid (rightC ⟨t, ps, wh, tx⟩ = true) := Lib.hid (by
            have hD2 := hD.out
            rw [List.take_length] at hD2
            rw [rightC_eq, HNt.out, HWho.out, parB_eq (by omega) hN.out, decide_eq_true hD2]; rfl)
          have HBw := Lib.hid hBw
          clear hBw hN hD
          go_wp2_with fail
          go_ret
          exact ⟨ret_bool HF.out.symm, HB.out.trans (HBw.out.mono HB.out.size)⟩
end Go.Proofs.YthbmaloajgkhmaaGreatDoor
namespace Go.Proofs.YthbmaloajgkhmaaGreatDoor
open Go Go.RowKit Go.Shelf
set_option maxRecDepth 100000 in
set_option maxHeartbeats 8000000 in
theorem RPutChange_any (c : Chg) (vp : Value) (w : World) (hr : StrsR w vp c.parents) (hs : SmallC c) (hl : c.parents.length ≤ 1000000) :
    Calls Tryz.prog 62 #[ChgV c vp] w (RetBelow (putCV c) w) := by
  have B0 := below_new w (.cells #[.string ⟨c.tree.toArray⟩, vp, .string ⟨c.who.toArray⟩, .string ⟨c.text.toArray⟩] 86)
  have hck := RRightChange_any c vp _ (hr.below B0 (Nat.le_refl _)) hs hl
  cases h : rightC c
  · rw [h] at hck
    have HC := Lib.hid hck; have HB := Lib.hid B0
    rw [putCV_no h]
    obtain ⟨A, ca, rfl⟩ := hr.shape
    unfold ChgV at HC ⊢
    clear hck hr hs h B0
    go_enter Tryz.func62, Tryz.ntmps62
    go_wp2_with fail
    refine HC.out.mono ?_
    rintro e w1 ⟨rfl, l1⟩
    go_wp2_with fail
    go_ret2
    exact ⟨rfl, HB.out.trans (l1.mono HB.out.size)⟩
  rw [h] at hck
  rw [putCV_yes h]
  obtain ⟨g1, g2, g3, g4, g5⟩ := rightC_parts.1 h
  obtain ⟨t, ps, wh, tx⟩ := c
  obtain ⟨s1, s2, s3, s4⟩ := hs
  simp only at s1 s2 s3 s4 hr hl g1 g2 g3 g5 B0
  obtain ⟨A, ca, rfl⟩ := hr.shape
  unfold ChgV at hck ⊢
  unfold SV
  simp only at hck ⊢
  have HC := Lib.hid hck
  have HR := Lib.hid hr
  have HP := Lib.hid g3
  have nT := named_len64 g1
  have nW : wh.length ≤ 100 := by unfold whoB at g5; simp only [Bool.and_eq_true, decide_eq_true_eq] at g5; exact g5.2
  have hb1 : ∀ w1, Below (w.alloc (.cells #[.string ⟨t.toArray⟩, .slice A ps.length ca, .string ⟨wh.toArray⟩, .string ⟨tx.toArray⟩] 86)).heap.size (w.alloc (.cells #[.string ⟨t.toArray⟩, .slice A ps.length ca, .string ⟨wh.toArray⟩, .string ⟨tx.toArray⟩] 86)) w1 → Below w.heap.size w w1 ∧ w1.cell? ⟨w.heap.size, 0, none⟩ = some (.string ⟨t.toArray⟩) ∧ w1.cell? ⟨w.heap.size, 1, none⟩ = some (.slice A ps.length ca) ∧ w1.cell? ⟨w.heap.size, 2, none⟩ = some (.string ⟨wh.toArray⟩) ∧ w1.cell? ⟨w.heap.size, 3, none⟩ = some (.string ⟨tx.toArray⟩) := fun w1 h =>
    ⟨B0.trans (h.mono B0.size), one_box w _ _ _ _ w1 h⟩
  have HB1 := Lib.hid hb1
  obtain ⟨o0, ho0⟩ : ∃ x : List UInt8, x = (wTree ++ t) ++ [10] := ⟨_, rfl⟩
  obtain ⟨t1, ht1⟩ : ∃ x : ByteArray, x = ⟨(wTree ++ t).toArray⟩ := ⟨_, rfl⟩
  have n0 : o0.length ≤ 70 := by rw [ho0]; simp [wTree]; omega
  have r1 : ∀ W : World, (Op.stringOp .add ⟨#[116, 114, 101, 101, 32]⟩ ⟨t.toArray⟩).run Tryz.prog W = .ok (.string t1) W := cat_run wTree t t1 ht1 (by decide) (by omega)
  have r2 : ∀ W : World, (Op.stringOp .add t1 ⟨#[10]⟩).run Tryz.prog W = .ok (.string ⟨o0.toArray⟩) W := cat_run2 _ [10] t1 ⟨o0.toArray⟩ ht1 (by rw [ho0]) (by simp [wTree]; omega) (by decide)
  have HO := Lib.hid ho0
  have HPut : Hid (∀ o, o = o0 ++ parL ps → (((o ++ wWho) ++ wh) ++ [10, 10]) ++ tx = putC ⟨t, ps, wh, tx⟩) := Lib.hid (fun o ho => by rw [ho, ho0]; simp [putC])
  clear hr h hck g1 g3 g5 s1 s2 s3 B0 hb1 ht1 ho0 nT hl
  go_enter Tryz.func62, Tryz.ntmps62
  go_wp2_with fail
  refine HC.out.mono ?_
  rintro e w1 ⟨rfl, l1⟩
  obtain ⟨hB1, p0, p1, p2, p3⟩ := HB1.out w1 l1
  have L1 := Lib.hid hB1
  clear l1 hB1 HB1 HC
  go_wp2_with fail
  clear r1 r2
  go_loop [4, 5] (fun vo vi => ∃ (k : Nat) (out : List UInt8), k ≤ ps.length ∧ vi = .int .i64 k ∧ vo = .string ⟨out.toArray⟩ ∧ Hid (out = o0 ++ parL (ps.take k))) (fun _ vi => ps.length - (intOf vi).toNat)
  case atStart => exact ⟨0, o0, Nat.zero_le _, rfl, rfl, Lib.hid (by simp [parL])⟩
  case round =>
    obtain ⟨k, out, hk, rfl, rfl, hout⟩ := hrel
    have nO : out.length ≤ 700 := by
      have hpl := parL_len (l := ps.take k) (fun x hx => HP.out x (List.mem_of_mem_take hx))
      rw [List.length_take] at hpl
      rw [hout.out, List.length_append]; omega
    by_cases hlt : k < ps.length
    · obtain ⟨g, o, c', e, _, hg⟩ := HR.out.pos (by omega)
      cases e
      have c0 := StrsR.cell (HR.out.below L1.out (Nat.le_refl _)) k hlt
      have hsn := parL_snoc ps k hlt
      have nx := named_len64 (HP.out _ (getD_mem ps [] k hlt))
      obtain ⟨x, hx⟩ : ∃ x, x = ps.getD k [] := ⟨_, rfl⟩
      rw [← hx] at c0 hsn nx
      unfold SV at c0
      obtain ⟨t2, ht2⟩ : ∃ z : ByteArray, z = ⟨(out ++ wParent).toArray⟩ := ⟨_, rfl⟩
      obtain ⟨t3, ht3⟩ : ∃ z : ByteArray, z = ⟨((out ++ wParent) ++ x).toArray⟩ := ⟨_, rfl⟩
      obtain ⟨o2, ho2⟩ : ∃ z : List UInt8, z = ((out ++ wParent) ++ x) ++ [10] := ⟨_, rfl⟩
      have r3 : ∀ W : World, (Op.stringOp .add ⟨out.toArray⟩ ⟨#[112, 97, 114, 101, 110, 116, 32]⟩).run Tryz.prog W = .ok (.string t2) W := cat_run out wParent t2 ht2 (by omega) (by decide)
      have r4 : ∀ W : World, (Op.stringOp .add t2 ⟨x.toArray⟩).run Tryz.prog W = .ok (.string t3) W := cat_run2 _ x t2 t3 ht2 ht3 (by simp [wParent]; omega) (by omega)
      have r5 : ∀ W : World, (Op.stringOp .add t3 ⟨#[10]⟩).run Tryz.prog W = .ok (.string ⟨o2.toArray⟩) W := cat_run2 _ [10] t3 _ ht3 (by rw [ho2]) (by simp [wParent]; omega) (by decide)
      have HO2 : Hid (o2 = o0 ++ parL (ps.take (k + 1))) := Lib.hid (by rw [ho2, hsn, hout.out]; simp)
      clear hx hsn nx ht2 ht3 ho2 hout
      go_wp2_with fail
      go_round
      case rel => exact ⟨k + 1, o2, by omega, by go_num, rfl, HO2⟩
      case measure => simp [intOf]; omega
    · obtain rfl : k = ps.length := by omega
      have hfin := HPut.out out (by have := hout.out; rwa [List.take_length] at this)
      have HF := Lib.hid hfin
      obtain ⟨t2, ht2⟩ : ∃ z : ByteArray, z = ⟨(out ++ wWho).toArray⟩ := ⟨_, rfl⟩
      obtain ⟨t3, ht3⟩ : ∃ z : ByteArray, z = ⟨((out ++ wWho) ++ wh).toArray⟩ := ⟨_, rfl⟩
      obtain ⟨t4, ht4⟩ : ∃ z : ByteArray, z = ⟨(((out ++ wWho) ++ wh) ++ [10, 10]).toArray⟩ := ⟨_, rfl⟩
      obtain ⟨t5, ht5⟩ : ∃ z : ByteArray, z = ⟨((((out ++ wWho) ++ wh) ++ [10, 10]) ++ tx).toArray⟩ := ⟨_, rfl⟩
      have r3 : ∀ W : World, (Op.stringOp .add ⟨out.toArray⟩ ⟨#[119, 104, 111, 32]⟩).run Tryz.prog W = .ok (.string t2) W := cat_run out wWho t2 ht2 (by omega) (by decide)
      have r4 : ∀ W : World, (Op.stringOp .add t2 ⟨wh.toArray⟩).run Tryz.prog W = .ok (.string t3) W := cat_run2 _ wh t2 t3 ht2 ht3 (by simp [wWho]; omega) (by omega)
      have r5 : ∀ W : World, (Op.stringOp .add t3 ⟨#[10, 10]⟩).run Tryz.prog W = .ok (.string t4) W := cat_run2 _ [10, 10] t3 t4 ht3 ht4 (by simp [wWho]; omega) (by decide)
      have r6 : ∀ W : World, (Op.stringOp .add t4 ⟨tx.toArray⟩).run Tryz.prog W = .ok (.string t5) W := cat_run2 _ tx t4 t5 ht4 ht5 (by simp [wWho]; omega) (by omega)
      have H5 := Lib.hid ht5
      clear ht2 ht3 ht4 ht5 hfin hout
      go_wp2_with fail
      go_ret2
      exact ⟨by rw [← HF.out, ← H5.out]; rfl, L1.out⟩
end Go.Proofs.YthbmaloajgkhmaaGreatDoor
