/-
  Steps of regions that draw their order, more: a store, a look-up, an alloc, a call beside what makes memory.
  ObjectBack, walked.
-/
import Derived.Test.YtngphfogomchfaaGreatDoorC25
import Derived.Test.YtngphfogomchfaaGreatDoorC26
import Derived.Test.YtngphfogomchfaaGreatDoorC27
import Derived.Deep.QuietTactic
import Derived.BigQuiet
import Derived.IntWalk
import Derived.Deep.Slices
import Derived.ChangeArms
import Derived.DataShut
import Derived.SizedLaws
import Derived.Test.YtngphfogomchfaaGreatDoorC23
import Derived.Test.YtngphfogomchfaaGreatDoorC24
import Derived.Test.YtngphfogomchfaaGreatDoorC12
import Derived.Test.YtngphfogomchfaaGreatDoorC16

namespace Go.Proofs.YtngphfogomchfaaGreatDoor
open Go Go.RowKit Go.Maps

section
variable {P : Program} {ops : Array Oper} {Q : Exit → Go.Act → World → Prop} {b : Nat} {w0 : World}
theorem AnyK.store (i : Nat) (w' : World) {oi : Oper} {fuel : Nat} {listed : Array Bool} {a : Go.Act} {w : World} (hr : Region.ready .any ops listed = [i]) (hi : ops[i]? = some oi)
    (hw : Region.wanted oi (yielded ops a.tmps) = true) (he : (execOp a.eval oi).run P w = .ok .skip w') (hb : Below b w0 w') (h : AnyK P ops Q b w0 fuel (listed.setIfInBounds i true) (a.put oi.dst undef) w') : AnyK P ops Q b w0 (fuel + 1) listed a w :=
  held_one hr (held_store w' hi hw he hb h)
/-- A call, or what makes memory: either may come first. -/
theorem AnyK.callop (i j : Nat) {fuel : Nat} {listed : Array Bool} {a : Go.Act} {w : World} (hr : Region.ready .any ops listed = [i, j]) {oi oj : Oper} (f : FuncId) (vs : Array Value) (v' : Value) (w2 : World) (hi : ops[i]? = some oi) (hj : ops[j]? = some oj)
    (hwi : Region.wanted oi (yielded ops a.tmps) = true) (hwj : Region.wanted oj (yielded ops a.tmps) = true) (he : (execOp a.eval oi).run P w = .ok (.enter f vs) w) (hej : (execOp a.eval oj).run P w = .ok (.value v') w2) (hb2 : Below b w0 w2)
    (hc : Calls P f vs w fun e w' => ∃ v, e = .returned v ∧ Below b w0 w' ∧ AnyK P ops Q b w0 fuel (listed.setIfInBounds i true) (a.put oi.dst v) w')
    (h2 : AnyK P ops Q b w0 fuel (listed.setIfInBounds j true) (a.put oj.dst v') w2) : AnyK P ops Q b w0 (fuel + 1) listed a w := by
  refine wpAnyH_ready hr (by simp) (AllReadyH.cons hi (fun K hK => ?_) (AllReadyH.cons hj (fun K hK => ?_) AllReadyH.nil))
  · rw [if_pos hwi]
    unfold Oper.wp
    rw [he, Oper.upon_enter]
    refine hc.mono ?_
    rintro e w' ⟨v, rfl, hb, h⟩
    exact hK.out _ _ hb fun _ => h
  · rw [if_pos hwj]
    unfold Oper.wp
    rw [hej, Oper.upon_value]
    exact hK.out _ _ hb2 fun _ => h2
end
section
variable {P : Program} {a : Go.Act} {o : Oper} {W : World}
theorem y_lookup {t : TypeId} {m x : Operand} {c : Bool} {mv xv r : Value} (ho : o.op = .lookup t m x c) (hm : a.eval m = mv) (hx : a.eval x = xv) (h : (Instr.lookup t mv xv c).run P W = .ok r W) : (execOp a.eval o).run P W = .ok (.value r) W := by
  subst hm hx
  simp only [execOp, ho]
  simp [h, Result.andThen]
theorem y_alloc {t : TypeId} {r : Value} {W' : World} (ho : o.op = .alloc t) (h : (Instr.alloc t true (.tuple #[])).run P W = .ok r W') : (execOp a.eval o).run P W = .ok (.value r) W' := by
  simp only [execOp, ho]
  simp [h, Result.andThen]
end
theorem at_str (W : World) (g o n c k : Nat) (hk : k < n) : (Instr.indexAt 23 (.slice (some ⟨g, o, none⟩) n c) (.int .i64 (k : Int))).run Tryz.prog W = .ok (.pointer (some ⟨g, o + k, none⟩)) W := by
  have h1 : (k : Int) < (n : Int) := by omega
  simp [go_sem, h1]
theorem at_held (W : World) (g o n c k : Nat) (hk : k < n) : (Instr.indexAt 22 (.slice (some ⟨g, o, none⟩) n c) (.int .i64 (k : Int))).run Tryz.prog W = .ok (.pointer (some ⟨g, o + k * 3, none⟩)) W := by
  have h1 : (k : Int) < (n : Int) := by omega
  simp [go_sem, h1]
theorem l_strs (W : World) (b o : Nat) (A : Option Addr) (n c : Nat) (h : W.cell? ⟨b, o, none⟩ = some (.slice A n c)) : (Instr.loadAt 23 (.pointer (some ⟨b, o, none⟩))).run Tryz.prog W = .ok (.slice A n c) W := by
  go_simp
theorem l_ofmap (W : World) (b o : Nat) (m : Nat) (h : W.cell? ⟨b, o, none⟩ = some (.map (some m))) : (Instr.loadAt 64 (.pointer (some ⟨b, o, none⟩))).run Tryz.prog W = .ok (.map (some m)) W := by
  go_simp
theorem l_obj (W : World) (b o : Nat) (k : Int) (d : ByteArray) (h : W.cell? ⟨b, o, none⟩ = some (.int .i64 k)) (h1 : W.cell? ⟨b, o + 1, none⟩ = some (.string d)) : (Instr.loadAt 30 (.pointer (some ⟨b, o, none⟩))).run Tryz.prog W = .ok (.agg #[.int .i64 k, .string d]) W := by
  go_simp
theorem alloc_obj (W : World) : (Instr.alloc 30 true (.tuple #[])).run Tryz.prog W = .ok (.pointer (some ⟨W.heap.size, 0, none⟩)) (W.alloc (.cells #[.int .i64 0, .string ⟨#[]⟩] 30)) := by
  simp [go_sem]
theorem store_obj (W : World) (k : Int) (d : ByteArray) : (Instr.storeAt 30 (.pointer (some ⟨W.heap.size, 0, none⟩)) (.agg #[.int .i64 k, .string d])).run Tryz.prog (W.alloc (.cells #[.int .i64 0, .string ⟨#[]⟩] 30)) = .ok () (W.alloc (.cells #[.int .i64 k, .string d] 30)) := by
  go_simp
theorem alloc_met (W : World) : (Instr.alloc 67 true (.tuple #[])).run Tryz.prog W = .ok (.pointer (some ⟨W.heap.size, 0, none⟩)) (W.alloc (.cells #[.string ⟨#[]⟩, .bool false, .slice none 0 0] 67)) := by
  simp [go_sem]
theorem store_met (W : World) (s : ByteArray) (b : Bool) (A : Option Addr) (n c : Nat) : (Instr.storeAt 67 (.pointer (some ⟨W.heap.size, 0, none⟩)) (.agg #[.string s, .bool b, .slice A n c])).run Tryz.prog (W.alloc (.cells #[.string ⟨#[]⟩, .bool false, .slice none 0 0] 67)) = .ok () (W.alloc (.cells #[.string s, .bool b, .slice A n c] 67)) := by
  go_simp
theorem blk_setCell {W : World} {b i : Nat} {cs : Array Value} {t : TypeId} {fr : Nat × Nat} (h : W.heap[b]? = some (.cells cs t fr)) (v : Value) : (W.setCell ⟨b, i, none⟩ v).heap[b]? = some (.cells (cs.setIfInBounds i v) t fr) := by
  obtain ⟨hlt, hk⟩ := Array.getElem?_eq_some_iff.1 h
  show (W.heap.modify b _)[b]? = _
  rw [Array.getElem?_eq_getElem (by rw [Array.size_modify]; exact hlt), Array.getElem_modify_self, hk]
  rfl
theorem store_met_at (W : World) (b : Nat) (v0 v1 v2 : Value) (h : W.heap[b]? = some (.cells #[v0, v1, v2] 67 (0, 0))) (s : ByteArray) (t : Bool) (A : Option Addr) (n c : Nat) :
    ∃ w', (Instr.storeAt 67 (.pointer (some ⟨b, 0, none⟩)) (.agg #[.string s, .bool t, .slice A n c])).run Tryz.prog W = .ok () w' ∧ w'.heap[b]? = some (.cells #[.string s, .bool t, .slice A n c] 67 (0, 0)) ∧ But (fun k => k = b) W w' := by
  have c0 : W.cell? ⟨b, 0, none⟩ = some v0 := (cell_of_row W _ 0 _ _ _ h).trans rfl
  have c1 : W.cell? ⟨b, 1, none⟩ = some v1 := (cell_of_row W _ 1 _ _ _ h).trans rfl
  have c2 : W.cell? ⟨b, 2, none⟩ = some v2 := (cell_of_row W _ 2 _ _ _ h).trans rfl
  have f0 := frozen_of (i := 0) h
  have f1 := frozen_of (i := 1) h
  have f2 := frozen_of (i := 2) h
  refine ⟨((W.setCell ⟨b, 0, none⟩ (.string s)).setCell ⟨b, 1, none⟩ (.bool t)).setCell ⟨b, 2, none⟩ (.slice A n c), ?_, ?_, ?_⟩
  · go_simp
  · exact blk_setCell (blk_setCell (blk_setCell h _) _) _
  · exact (((But.refl (fun k => k = b) W).setCell (p := ⟨b, 0, none⟩) rfl _).setCell (p := ⟨b, 1, none⟩) rfl _).setCell (p := ⟨b, 2, none⟩) rfl _
end Go.Proofs.YtngphfogomchfaaGreatDoor


namespace Go.Proofs.YtngphfogomchfaaGreatDoor
open Go Go.RowKit Go.Shelf
/-- A commit's box alone. -/
theorem one_box (w : World) (a0 a1 a2 a3 : Value) (W : World) (hW : Below (w.alloc (.cells #[a0, a1, a2, a3] 81)).heap.size (w.alloc (.cells #[a0, a1, a2, a3] 81)) W) :
    W.cell? ⟨w.heap.size, 0, none⟩ = some a0 ∧ W.cell? ⟨w.heap.size, 1, none⟩ = some a1 ∧ W.cell? ⟨w.heap.size, 2, none⟩ = some a2 ∧ W.cell? ⟨w.heap.size, 3, none⟩ = some a3 :=
  ⟨(hW.cell (p := ⟨w.heap.size, 0, none⟩) (by simp)).trans (by simp), (hW.cell (p := ⟨w.heap.size, 1, none⟩) (by simp)).trans (by simp), (hW.cell (p := ⟨w.heap.size, 2, none⟩) (by simp)).trans (by simp), (hW.cell (p := ⟨w.heap.size, 3, none⟩) (by simp)).trans (by simp)⟩
end Go.Proofs.YtngphfogomchfaaGreatDoor
