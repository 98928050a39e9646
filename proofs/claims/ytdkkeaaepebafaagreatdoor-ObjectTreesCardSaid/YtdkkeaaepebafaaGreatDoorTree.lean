/-
  checkTree: an error, if items are no tree.
-/
import Derived.Test.YtdkkeaaepebafaaGreatDoorName
import Derived.Test.YtdkkeaaepebafaaGreatDoorTwo
import Derived.Test.YtdkkeaaepebafaaGreatDoorText
import Derived.Deep.RegionHeld3
import Derived.Deep.QuietTactic
import Derived.BigQuiet
namespace Go.Proofs.YtdkkeaaepebafaaGreatDoor
open Go Go.RowKit Go.Shelf

theorem less_before : ∀ (a b : List UInt8), Op.bytesLess a b = bytesBefore a b
  | [], [] => rfl
  | [], _ :: _ => rfl
  | _ :: _, [] => rfl
  | x :: a, y :: b => by rw [Op.bytesLess, bytesBefore, less_before a b]
theorem goodI_of {l : List Itm} {k : Nat} {x p : Itm} (hx : x = l.getD k noItm) (hp : p = l.getD (k - 1) noItm) : goodI l k = (itemB x && (k == 0 || bytesBefore (keyL p) (keyL x))) := by
  rw [hx, hp]; rfl
/-- Lengths that may be. -/
def Smalls (l : List Itm) : Prop := ∀ x ∈ l, x.name.length ≤ 1000000 ∧ x.id.length ≤ 1000000
theorem Smalls.get {l : List Itm} (h : Smalls l) {k : Nat} (hk : k < l.length) {x : Itm} (hx : x = l.getD k noItm) : x.name.length ≤ 1000000 ∧ x.id.length ≤ 1000000 := by
  rw [hx]; exact h _ (getD_mem l noItm k hk)
theorem names_snoc (l : List Itm) (k : Nat) (hk : k < l.length) : (l.take (k + 1)).map Itm.name = (l.take k).map Itm.name ++ [(l.getD k noItm).name] := by
  rw [take_getD l noItm k hk, List.map_append]; rfl

theorem cell_lt {w w' : World} {a : Addr} {v : Value} {b : Nat} (h : w.cell? a = some v) (hb : Below b w w') (hlt : w.heap.size ≤ b) : w'.cell? a = some v :=
  (hb.cell (Nat.lt_of_lt_of_le (World.block_lt_of_cell? w a h) hlt)).trans h

theorem add_none' (g o j : Nat) : (⟨g, o, none⟩ : Addr).add j = ⟨g, o + j, none⟩ := by unfold Addr.add; split <;> simp_all
/-- What is known of an element's type. -/
structure ElK {α : Type} (st t : TypeId) (k bt : Nat) (f : α → List Value) : Prop where
  ut : Tryz.prog.underlying st = some (.slice t)
  info : ∃ z, (Tryz.prog.info? t).map (fun i => (i.zero, i.size, i.bytes)) = some (some z, k, bt) ∧ z.cells.size = k
  pos : 0 < k
  len : ∀ x, (f x).length = k
  one : ∀ x, ∀ u ∈ f x, u.oneCell' = true
theorem strK : ElK 38 9 1 16 strC := ⟨Tryz.underlying38, ⟨_, infoStr, rfl⟩, by decide, strC_len, fun x u hu => by
  simp only [strC, List.mem_singleton] at hu; subst hu; rfl⟩
theorem itmK : ElK 30 54 3 40 itmC := ⟨Tryz.underlying30, ⟨.agg #[.int .i64 0, .string ⟨#[]⟩, .string ⟨#[]⟩], by kernel_rfl, by kernel_rfl⟩, by decide, itmC_len, fun x u hu => by
  simp only [itmC, List.mem_cons, List.not_mem_nil, or_false] at hu; rcases hu with rfl | rfl | rfl <;> rfl⟩
theorem wantK : ElK 28 58 2 24 wantV := ⟨Tryz.underlying28, ⟨.agg #[.string ⟨#[]⟩, .int .i64 0], by kernel_rfl, by kernel_rfl⟩, by decide, wantV_len, fun x u hu => by
  simp only [wantV, List.mem_cons, List.not_mem_nil, or_false] at hu; rcases hu with rfl | rfl <;> rfl⟩

/-- One element more. -/
theorem run_one {α : Type} {st t : TypeId} {k bt : Nat} {f : α → List Value} (E : ElK st t k bt f) {w : World} {base : Nat} {v : Value} {l : List α} (h : OwK t k f w base v l) (hl : l.length + 1 ≤ 1000000) (hbt : bt ≤ 1000) (hb : base ≤ w.heap.size) (x : α) (cs : Array Value) (hcs : cs = (f x).toArray) (ty : TypeId) :
    ∃ v' w', (Builtin.append_ #[st, st] ty #[v, .slice (some ⟨w.heap.size, 0, none⟩) 1 1]).run Tryz.prog (w.alloc (.cells cs t)) = .ok v' w' ∧ OwK t k f w' base v' (l ++ [x]) ∧ Below base w w' := by
  obtain ⟨z, hz, hzs⟩ := E.info
  obtain ⟨i0, hi, hz0, hz1, hz2⟩ := info_parts hz
  subst hcs
  have ha : OwK t k f (w.alloc (.cells (f x).toArray t)) base v l := h.below (below_new w _) (Nat.le_refl _)
  obtain ⟨v', w', h1, h2, h3, _⟩ := run_append_own (P := Tryz.prog) _ base st ty t i0 z k bt E.ut hi hz0 hz1 hz2 hzs (by have := E.pos; omega) v l.length (l.flatMap f) ha ⟨w.heap.size, 0, none⟩ 1 1 (f x) (by rw [E.len, Nat.one_mul]) (fun j u hj => by
    rw [add_none', Nat.zero_add, cell_of_row (w.alloc _) w.heap.size j _ _ _ (heap_alloc_new w _)]
    simpa using hj) (E.one x) (by unfold maxLen; omega) (by
      have : (l.length + 1) * bt ≤ 1000000 * 1000 := Nat.mul_le_mul hl hbt
      omega) (by simp; omega)
  refine ⟨v', w', h1, ?_, ?_⟩
  · unfold OwK; rw [List.length_append, List.flatMap_append]; simpa using h2
  · refine ((below_new w _).mono hb).trans ⟨h3.os, h3.tape, h3.output, by have := h3.size; simpa using this, fun j hj => h3.block j (by simp; omega) ?_⟩
    intro e
    have := (h.lt j e.symm).1
    omega
/-- The operation. -/
theorem wpList_one {α : Type} {st t : TypeId} {k bt : Nat} {f : α → List Value} (E : ElK st t k bt f) {ops : Array Oper} {rest : List Oper} {o : Oper} {a : Act} {w : World} {Q : Exit → Act → World → Prop} (hgd : o.guard = none) (s y : Operand)
    (ho : o.op = .call { callee := .builtin .append, args := #[s, y], argTypes := #[st, st] }) (base : Nat) (v : Value) (l : List α) (x : α) (cs : Array Value) (hcs : cs = (f x).toArray) (hs : a.eval s = v) (hy : a.eval y = .slice (some ⟨w.heap.size, 0, none⟩) 1 1)
    (h : OwK t k f w base v l) (hl : l.length + 1 ≤ 1000000) (hbt : bt ≤ 1000) (hb : base ≤ w.heap.size)
    (kk : ∀ v' w', OwK t k f w' base v' (l ++ [x]) → Below base w w' → wpList Tryz.prog ops Q rest (a.put o.dst v') w') : wpList Tryz.prog ops Q (o :: rest) a (w.alloc (.cells cs t)) := by
  refine wpList_plain hgd fun K hK => ?_
  obtain ⟨v', w', h1, h2, h3⟩ := run_one E h hl hbt hb x cs hcs o.type
  unfold Oper.wp
  simp [execOp, ho, resolve, invoke, builtin, hs, hy, h1, Result.andThen]
  exact hK _ _ (kk v' w' h2 h3)
end Go.Proofs.YtdkkeaaepebafaaGreatDoor
