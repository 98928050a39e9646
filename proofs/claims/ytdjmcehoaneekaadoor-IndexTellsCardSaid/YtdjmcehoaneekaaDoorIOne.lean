/-
  One element more behind a slice of one's own.
-/
import Derived.Test.YtdjmcehoaneekaaDoorTree
import Derived.Test.YtdjmcehoaneekaaDoorDSum
namespace Go.Proofs.YtdjmcehoaneekaaDoor
open Go Go.RowKit
/-- One element more. -/
theorem run_one {α : Type} {st t : TypeId} {k bt : Nat} {f : α → List Value} (E : ElK st t k bt f) {w : World} {base : Nat} {v : Value} {l : List α} (h : OwK t k f w base v l) (hl : l.length + 1 ≤ 1000000) (hbt : bt ≤ 1000) (hb : base ≤ w.heap.size) (x : α) (cs : Array Value) (hcs : cs = (f x).toArray) (ty : TypeId) :
    ∃ v' w', (Builtin.append_ #[st, st] ty #[v, .slice (some ⟨w.heap.size, 0, none⟩) 1 1]).run Tryd.prog (w.alloc (.cells cs t)) = .ok v' w' ∧ OwK t k f w' base v' (l ++ [x]) ∧ Below base w w' := by
  obtain ⟨z, hz, hzs⟩ := E.info
  obtain ⟨i0, hi, hz0, hz1, hz2⟩ := info_parts hz
  subst hcs
  have ha : OwK t k f (w.alloc (.cells (f x).toArray t)) base v l := h.below (below_new w _) (Nat.le_refl _)
  obtain ⟨v', w', h1, h2, h3, _⟩ := run_append_own (P := Tryd.prog) _ base st ty t i0 z k bt E.ut hi hz0 hz1 hz2 hzs (by have := E.pos; omega) v l.length (l.flatMap f) ha ⟨w.heap.size, 0, none⟩ 1 1 (f x) (by rw [E.len, Nat.one_mul]) (fun j u hj => by
    rw [Go.Proofs.YtdjmcehoaneekaaDoor.add_none, Nat.zero_add, cell_of_row (w.alloc _) w.heap.size j _ _ _ (heap_alloc_new w _)]
    simpa using hj) (E.one x) (by unfold maxLen; omega) (by
      have : (l.length + 1) * bt ≤ 1000000 * 1000 := Nat.mul_le_mul hl hbt
      omega) (by simp; omega)
  refine ⟨v', w', h1, ?_, ?_⟩
  · unfold OwK; rw [List.length_append, List.flatMap_append]; simpa using h2
  · refine ((below_new w _).mono hb).trans ⟨h3.os, h3.tape, h3.output, by have := h3.size; simpa using this, fun j hj => h3.block j (by simp; omega) ?_⟩
    intro e
    have := (h.lt j e.symm).1
    omega
/-- The operation. -/
theorem wpList_one {α : Type} {st t : TypeId} {k bt : Nat} {f : α → List Value} (E : ElK st t k bt f) {ops : Array Oper} {rest : List Oper} {o : Oper} {a : Act} {w : World} {Q : Exit → Act → World → Prop} (hgd : o.guard = none) (s y : Operand)
    (ho : o.op = .call { callee := .builtin .append, args := #[s, y], argTypes := #[st, st] }) (base : Nat) (v : Value) (l : List α) (x : α) (cs : Array Value) (hcs : cs = (f x).toArray) (hs : a.eval s = v) (hy : a.eval y = .slice (some ⟨w.heap.size, 0, none⟩) 1 1)
    (h : OwK t k f w base v l) (hl : l.length + 1 ≤ 1000000) (hbt : bt ≤ 1000) (hb : base ≤ w.heap.size)
    (kk : ∀ v' w', OwK t k f w' base v' (l ++ [x]) → Below base w w' → wpList Tryd.prog ops Q rest (a.put o.dst v') w') : wpList Tryd.prog ops Q (o :: rest) a (w.alloc (.cells cs t)) := by
  refine wpList_plain hgd fun K hK => ?_
  obtain ⟨v', w', h1, h2, h3⟩ := run_one E h hl hbt hb x cs hcs o.type
  unfold Oper.wp
  simp [execOp, ho, resolve, invoke, builtin, hs, hy, h1, Result.andThen]
  exact hK _ _ (kk v' w' h2 h3)
end Go.Proofs.YtdjmcehoaneekaaDoor
