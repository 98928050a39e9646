/-
  Pieces of a slice of items, made and read.
-/
import Derived.Test.YtdkkeaaepebafaaGreatDoorTree
import Derived.Test.YtdkkeaaepebafaaGreatDoorAnyB
namespace Go.Proofs.YtdkkeaaepebafaaGreatDoor
open Go Go.RowKit Go.Shelf

section
variable {P : Program} {a : Go.Act} {o : Oper} {W : World}
theorem y_build {t : TypeId} {n : Nat} {parts : Array (Nat × Operand)} {ps : Array (Nat × Value)} {r : Value} {W' : World} (ho : o.op = .buildSlice t n parts) (hp : (parts.map fun (i, x) => (i, a.eval x)) = ps) (h : (Instr.buildSlice t n ps).run P W = .ok r W') : (execOp a.eval o).run P W = .ok (.value r) W' := by
  subst hp
  simp only [execOp, ho]
  simp [h, Result.andThen]
end
theorem build0 (W : World) : (Instr.buildSlice 30 0 #[]).run Tryz.prog W = .ok (.slice (some ⟨W.heap.size, 0, none⟩) 0 0) (W.alloc (.cells #[] 54)) := by
  simp [go_sem]
theorem build1 (W : World) (xm : Int) (xn xi : List UInt8) : (Instr.buildSlice 30 1 #[(0, .agg #[.int .i64 xm, .string ⟨xn.toArray⟩, .string ⟨xi.toArray⟩])]).run Tryz.prog W = .ok (.slice (some ⟨W.heap.size, 0, none⟩) 1 1) (W.alloc (.cells #[.int .i64 xm, .string ⟨xn.toArray⟩, .string ⟨xi.toArray⟩] 54)) := by
  simp [go_sem]
theorem cut_lo (W : World) (g o n c k : Nat) (hk : k ≤ c) (hc : 0 < c) : (Instr.sliceAt 30 (.slice (some ⟨g, o, none⟩) n c) none (some (.int .i64 (k : Int))) none).run Tryz.prog W = .ok (.slice (some ⟨g, o, none⟩) k c) W := by
  have h1 : (k : Int) ≤ (c : Int) := by omega
  have h2 : ¬ c = 0 := by omega
  simp [go_sem, h1, h2]
theorem cut_hi (W : World) (g o n c k : Nat) (hk : k ≤ n) : (Instr.sliceAt 30 (.slice (some ⟨g, o, none⟩) n c) (some (.int .i64 (k : Int))) none none).run Tryz.prog W = .ok (.slice (some (if c = k then ⟨g, o, none⟩ else ⟨g, o + k * 3, none⟩)) (n - k) (c - k)) W := by
  have h1 : (k : Int) ≤ (n : Int) := by omega
  by_cases h2 : c = k
  · simp [go_sem, h1, h2]
  · simp [go_sem, h1, h2]
theorem add_one (W : World) (k : Nat) (hk : k ≤ 1000000) : (binOp .add 3 (.int .i64 (k : Int)) (.int .i64 1)).run Tryz.prog W = .ok (.int .i64 ((k + 1 : Nat) : Int)) W := by
  have e : IntKind.i64.wrap ((k : Int) + 1) = (k : Int) + 1 := IntWalk.i64_in _ (by omega)
  simp [go_sem, e]
theorem at_one (W : World) (g o n c k : Nat) (hk : k < n) : (Instr.indexAt 30 (.slice (some ⟨g, o, none⟩) n c) (.int .i64 (k : Int))).run Tryz.prog W = .ok (.pointer (some ⟨g, o + k * 3, none⟩)) W := by
  have h1 : (k : Int) < (n : Int) := by omega
  simp [go_sem, h1]
/-- An item of one's own, in a block of its own. -/
def LitAt (W : World) (b : Nat) (x : Itm) : Prop := ∀ j u, ([x].flatMap itmC)[j]? = some u → W.cell? ((⟨b, 0, none⟩ : Addr).add j) = some u
theorem LitAt.block {W W' : World} {b : Nat} {x : Itm} (h : LitAt W b x) (hb : W'.heap[b]? = W.heap[b]?) : LitAt W' b x := fun j u hj => by
  have h1 := h j u hj
  rw [add_none'] at h1 ⊢
  rw [World.cell?_of_block (w := W) (a := ⟨b, 0 + j, none⟩) hb]; exact h1
theorem lit_cells (W : World) (xm : Int) (xn xi : List UInt8) : LitAt (W.alloc (.cells #[.int .i64 xm, .string ⟨xn.toArray⟩, .string ⟨xi.toArray⟩] 54)) W.heap.size ⟨xm, xn, xi⟩ := fun j u hj => by
  rw [add_none', Nat.zero_add, cell_of_row (W.alloc _) W.heap.size j _ _ _ (heap_alloc_new W _)]
  simpa [itmC, SV] using hj
end Go.Proofs.YtdkkeaaepebafaaGreatDoor
