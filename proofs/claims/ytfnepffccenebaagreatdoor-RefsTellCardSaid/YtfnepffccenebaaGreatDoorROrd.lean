/-
  Steps of the laws' and the document's regions that draw their order: refs and updates.
-/
import Derived.Test.YtfnepffccenebaaGreatDoorRSame
import Derived.Test.YtfnepffccenebaaGreatDoorRGrt
import Derived.Test.YtfnepffccenebaaGreatDoorOrdA
import Derived.Test.YtfnepffccenebaaGreatDoorRAppl2
namespace Go.Proofs.YtfnepffccenebaaGreatDoor.Rf
open Go.Proofs.YtfnepffccenebaaGreatDoor
open Go Go.RowKit

theorem at_u (W : World) (g o n c k : Nat) (hk : k < n) : (Instr.indexAt 23 (.slice (some ⟨g, o, none⟩) n c) (.int .i64 (k : Int))).run Tryz.prog W = .ok (.pointer (some ⟨g, o + k * 3, none⟩)) W := by
  have h : (k : Int) < (n : Int) := by omega
  simp [go_sem, h]
theorem at_r (W : World) (g o n c k : Nat) (hk : k < n) : (Instr.indexAt 22 (.slice (some ⟨g, o, none⟩) n c) (.int .i64 (k : Int))).run Tryz.prog W = .ok (.pointer (some ⟨g, o + k * 2, none⟩)) W := by
  have h : (k : Int) < (n : Int) := by omega
  simp [go_sem, h]
theorem f_u0 (W : World) (b o : Nat) : (Instr.fieldAt 43 (.pointer (some ⟨b, o, none⟩)) 0).run Tryz.prog W = .ok (.pointer (some ⟨b, o, none⟩)) W := by simp [go_sem]
theorem f_u1 (W : World) (b o : Nat) : (Instr.fieldAt 43 (.pointer (some ⟨b, o, none⟩)) 1).run Tryz.prog W = .ok (.pointer (some ⟨b, o + 1, none⟩)) W := by simp [go_sem]
theorem f_u2 (W : World) (b o : Nat) : (Instr.fieldAt 43 (.pointer (some ⟨b, o, none⟩)) 2).run Tryz.prog W = .ok (.pointer (some ⟨b, o + 2, none⟩)) W := by simp [go_sem]
theorem f_r0 (W : World) (b o : Nat) : (Instr.fieldAt 45 (.pointer (some ⟨b, o, none⟩)) 0).run Tryz.prog W = .ok (.pointer (some ⟨b, o, none⟩)) W := by simp [go_sem]
theorem f_r1 (W : World) (b o : Nat) : (Instr.fieldAt 45 (.pointer (some ⟨b, o, none⟩)) 1).run Tryz.prog W = .ok (.pointer (some ⟨b, o + 1, none⟩)) W := by simp [go_sem]
theorem l_S (W : World) (b o : Nat) (s : Bs) (h : W.cell? ⟨b, o, none⟩ = some (.string ⟨s.toArray⟩)) : (Instr.loadAt 9 (.pointer (some ⟨b, o, none⟩))).run Tryz.prog W = .ok (.string ⟨s.toArray⟩) W := by
  simp [go_sem, h]
theorem neq_S (W : World) (x y : Bs) (b : Bool) (h : decide (x = y) = !b) : (binOp .neq 9 (.string ⟨x.toArray⟩) (.string ⟨y.toArray⟩)).run Tryz.prog W = .ok (.bool b) W := by
  show (Op.stringOp .neq _ _).run _ _ = _
  cases b with
  | true =>
    have h1 : ¬ x = y := of_decide_eq_false h
    simp [go_sem, Op.stringOp, h1]
  | false =>
    have h1 : x = y := of_decide_eq_true h
    simp [go_sem, Op.stringOp, h1]
theorem eql_S (W : World) (x y : Bs) (b : Bool) (h : decide (x = y) = b) : (binOp .eql 9 (.string ⟨x.toArray⟩) (.string ⟨y.toArray⟩)).run Tryz.prog W = .ok (.bool b) W := by
  show (Op.stringOp .eql _ _).run _ _ = _
  cases b with
  | true =>
    have h1 : x = y := of_decide_eq_true h
    simp [go_sem, Op.stringOp, h1]
  | false =>
    have h1 : ¬ x = y := of_decide_eq_false h
    simp [go_sem, Op.stringOp, h1]
section
variable {P : Program} {a : Go.Act} {o : Oper} {W : World}
theorem y_build {t : TypeId} {n : Nat} {parts : Array (Nat × Operand)} {ps : Array (Nat × Value)} {r : Value} {W' : World} (ho : o.op = .buildSlice t n parts) (hp : (parts.map fun (i, x) => (i, a.eval x)) = ps) (h : (Instr.buildSlice t n ps).run P W = .ok r W') : (execOp a.eval o).run P W = .ok (.value r) W' := by
  subst hp
  simp [execOp, ho, h, Result.andThen]
theorem y_bld {t : TypeId} {parts : Array (Nat × Operand)} {ps : Array (Nat × Value)} {r : Value} (ho : o.op = .build t parts) (hp : (parts.map fun (i, x) => (i, a.eval x)) = ps) (h : (Instr.build t ps).run P W = .ok r W) : (execOp a.eval o).run P W = .ok (.value r) W := by
  subst hp
  simp [execOp, ho, h, Result.andThen]
end
theorem bld_u (W : World) (a b c : Bs) : (Instr.build 43 #[(0, .string ⟨a.toArray⟩), (1, .string ⟨b.toArray⟩), (2, .string ⟨c.toArray⟩)]).run Tryz.prog W = .ok (.agg #[.string ⟨a.toArray⟩, .string ⟨b.toArray⟩, .string ⟨c.toArray⟩]) W := by kernel_rfl
theorem bldS_u (W : World) (a b c : Bs) : (Instr.buildSlice 23 1 #[(0, .agg #[.string ⟨a.toArray⟩, .string ⟨b.toArray⟩, .string ⟨c.toArray⟩])]).run Tryz.prog W = .ok (.slice (some ⟨W.heap.size, 0, none⟩) 1 1) (W.alloc (.cells #[.string ⟨a.toArray⟩, .string ⟨b.toArray⟩, .string ⟨c.toArray⟩] 43)) := by kernel_rfl
theorem elUpd : ElK (α := Upd) 23 43 3 48 updC where
  ut := Tryz.underlying23
  info := ⟨.agg #[.string ⟨#[]⟩, .string ⟨#[]⟩, .string ⟨#[]⟩], by kernel_rfl, rfl⟩
  pos := by decide
  len := updC_len
  one := fun u x hx => by
    simp [updC] at hx; rcases hx with rfl | rfl | rfl <;> rfl
end Go.Proofs.YtfnepffccenebaaGreatDoor.Rf
