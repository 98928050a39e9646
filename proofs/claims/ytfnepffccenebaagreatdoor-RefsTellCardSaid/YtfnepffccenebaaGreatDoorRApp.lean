/-
  One more behind a slice of one's own; slices of refs and texts that own their memory.
-/
import Derived.Test.YtfnepffccenebaaGreatDoorRMem
import Derived.Test.YtfnepffccenebaaGreatDoorOrdA
namespace Go.Proofs.YtfnepffccenebaaGreatDoor.Rf
open Go.Proofs.YtfnepffccenebaaGreatDoor
open Go Go.RowKit

section
variable {α : Type} {st t : TypeId} {k bt : Nat} {f : α → List Value}
theorem wpList_push (E : ElK st t k bt f) {ops : Array Oper} {rest : List Oper} {o : Oper} {a : Go.Act} {w : World} {Q : Exit → Go.Act → World → Prop} (hgd : o.guard = none) (s y : Operand)
    (ho : o.op = .call { callee := .builtin .append, args := #[s, y], argTypes := #[st, st] }) (base : Nat) (v : Value) (l : List α) (x : α) (cs : Array Value) (hcs : cs = (f x).toArray) (hs : a.eval s = v) (hy : a.eval y = .slice (some ⟨w.heap.size, 0, none⟩) 1 1)
    (h : OwK t k f w base v l) (hl : l.length < 1000000) (hbt : bt ≤ 1000) (hb : base ≤ w.heap.size)
    (kk : ∀ v' w', OwK t k f w' base v' (l ++ [x]) → Below base w w' → (w.alloc (.cells cs t)).grownBy w' v.ownBlock → wpList Tryz.prog ops Q rest (a.put o.dst v') w') : wpList Tryz.prog ops Q (o :: rest) a (w.alloc (.cells cs t)) := by
  subst hcs
  have hlen := E.len x
  obtain ⟨v', w', h1, h2, h3, h4⟩ := run_appK E (m := [x]) (h.below (below_new w (.cells (f x).toArray t)) (Nat.le_refl _)) ⟨w.heap.size, 0, none⟩ 1 1 rfl (fun j u hj => by
      have e : (f x)[j]? = some u := by simpa using hj
      rw [Addr.add_lit, Nat.zero_add, cell_of_row _ _ j _ _ _ (heap_alloc_new w _)]
      simpa using e) (by simp; omega) hbt (Nat.le_trans hb (below_new w (.cells (f x).toArray t)).size) o.type
  refine wpList_plain hgd fun K hK => ?_
  unfold Oper.wp
  simp [execOp, ho, resolve, invoke, builtin, hs, hy, h1, Result.andThen]
  exact hK _ _ (kk v' w' h2 ((((below_new w (.cells (f x).toArray t)).mono hb)).trans h3) h4)
end
theorem elStr : ElK (α := Bs) 33 9 1 16 strC where
  ut := Tryz.underlying33
  info := ⟨.string ⟨#[]⟩, by kernel_rfl, rfl⟩
  pos := by decide
  len := fun _ => rfl
  one := fun x u hu => by
    simp [strC] at hu; rw [hu]; rfl
abbrev OwR (w : World) (base : Nat) (v : Value) (l : List Ref) : Prop := OwK 45 2 refC w base v l
abbrev OwS (w : World) (base : Nat) (v : Value) (l : List Bs) : Prop := OwK 9 1 strC w base v l
theorem OwK.shape {α : Type} {t : TypeId} {k : Nat} {f : α → List Value} {w : World} {base : Nat} {v : Value} {l : List α} (h : OwK t k f w base v l) : ∃ A n c, v = .slice A n c ∧ n = l.length := by
  obtain ⟨A, c, e⟩ := own_slice h
  exact ⟨A, _, c, e, rfl⟩
end Go.Proofs.YtfnepffccenebaaGreatDoor.Rf
