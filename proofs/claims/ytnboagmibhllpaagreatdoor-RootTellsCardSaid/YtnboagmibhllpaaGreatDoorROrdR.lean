/-
  Steps of the laws' and the document's regions that draw their order: refs and updates.
-/
import Derived.Test.YtnboagmibhllpaaGreatDoorC20
namespace Go.Proofs.YtnboagmibhllpaaGreatDoor.Rf
open Go.Proofs.YtnboagmibhllpaaGreatDoor
open Go Go.RowKit

theorem at_r (W : World) (g o n c k : Nat) (hk : k < n) : (Instr.indexAt 40 (.slice (some ⟨g, o, none⟩) n c) (.int .i64 (k : Int))).run Tryz.prog W = .ok (.pointer (some ⟨g, o + k * 2, none⟩)) W := by
  have h : (k : Int) < (n : Int) := by omega
  simp [go_sem, h]
theorem f_r0 (W : World) (b o : Nat) : (Instr.fieldAt 75 (.pointer (some ⟨b, o, none⟩)) 0).run Tryz.prog W = .ok (.pointer (some ⟨b, o, none⟩)) W := by simp [go_sem]
theorem f_r1 (W : World) (b o : Nat) : (Instr.fieldAt 75 (.pointer (some ⟨b, o, none⟩)) 1).run Tryz.prog W = .ok (.pointer (some ⟨b, o + 1, none⟩)) W := by simp [go_sem]
theorem l_S (W : World) (b o : Nat) (s : Bs) (h : W.cell? ⟨b, o, none⟩ = some (.string ⟨s.toArray⟩)) : (Instr.loadAt 9 (.pointer (some ⟨b, o, none⟩))).run Tryz.prog W = .ok (.string ⟨s.toArray⟩) W := by
  simp [go_sem, h]
theorem neq_S (W : World) (x y : Bs) (b : Bool) (h : decide (x = y) = !b) : (binOp .neq 9 (.string ⟨x.toArray⟩) (.string ⟨y.toArray⟩)).run Tryz.prog W = .ok (.bool b) W := by
  show (Op.stringOp .neq _ _).run _ _ = _
  cases b with
  | true =>
    have h1 : ¬ x = y := of_decide_eq_false h
    simp [go_sem, Op.stringOp, h1]
  | false =>
    have h1 : x = y := of_decide_eq_true h
    simp [go_sem, Op.stringOp, h1]
theorem eql_S (W : World) (x y : Bs) (b : Bool) (h : decide (x = y) = b) : (binOp .eql 9 (.string ⟨x.toArray⟩) (.string ⟨y.toArray⟩)).run Tryz.prog W = .ok (.bool b) W := by
  show (Op.stringOp .eql _ _).run _ _ = _
  cases b with
  | true =>
    have h1 : x = y := of_decide_eq_true h
    simp [go_sem, Op.stringOp, h1]
  | false =>
    have h1 : ¬ x = y := of_decide_eq_false h
    simp [go_sem, Op.stringOp, h1]
section
variable {P : Program} {a : Go.Act} {o : Oper} {W : World}
theorem y_build {t : TypeId} {n : Nat} {parts : Array (Nat × Operand)} {ps : Array (Nat × Value)} {r : Value} {W' : World} (ho : o.op = .buildSlice t n parts) (hp : (parts.map fun (i, x) => (i, a.eval x)) = ps) (h : (Instr.buildSlice t n ps).run P W = .ok r W') : (execOp a.eval o).run P W = .ok (.value r) W' := by
  subst hp
  simp [execOp, ho, h, Result.andThen]
theorem y_bld {t : TypeId} {parts : Array (Nat × Operand)} {ps : Array (Nat × Value)} {r : Value} (ho : o.op = .build t parts) (hp : (parts.map fun (i, x) => (i, a.eval x)) = ps) (h : (Instr.build t ps).run P W = .ok r W) : (execOp a.eval o).run P W = .ok (.value r) W := by
  subst hp
  simp [execOp, ho, h, Result.andThen]
end
end Go.Proofs.YtnboagmibhllpaaGreatDoor.Rf
