/-
  What is known of a slice of bytes at every later world.
-/
import Derived.Test.YtjbagoedaelmnaaDoorRName
namespace Go.Proofs.YtjbagoedaelmnaaDoor
open Go Go.RowKit

/-- v holds bytes whose sum has the cells S and whose name is nm, in world wA and at every later world. -/
structure Told (wA : World) (v : Value) (S : List Value) (nm : List UInt8) : Prop where
  sum : ∀ W, Below wA.heap.size wA W → Calls Tryd.prog 10 #[v] W fun e w' => e = .returned (.agg S.toArray) ∧ Below wA.heap.size wA w'
  rsum : ∀ W, Below wA.heap.size wA W → Calls Tryd.prog 11 #[v] W fun e w' => e = .returned (.agg S.toArray) ∧ Below wA.heap.size wA w'
  name : ∀ W, Below wA.heap.size wA W → Calls Tryd.prog 12 #[v] W fun e w' => e = .returned (.string ⟨nm.toArray⟩) ∧ Below wA.heap.size wA w'
  rname : ∀ W, Below wA.heap.size wA W → Calls Tryd.prog 13 #[v] W fun e w' => e = .returned (.string ⟨nm.toArray⟩) ∧ Below wA.heap.size wA w'
  eq : ∀ W, (binOp .eql 24 (.agg S.toArray) (.agg S.toArray)).run Tryd.prog W = .ok (.bool true) W
theorem told (w wA : World) (v : Value) (l : List UInt8) (hp : Pr w) (hb : Below w.heap.size w wA) (hl : l.length ≤ 29000) (hr : Rb wA v l) : ∃ S nm, S = sumC l ∧ nm = nameL l ∧ Told wA v S nm := by
  have pr : ∀ W, Below wA.heap.size wA W → Pr W := fun W hW => hp.below (hb.trans (hW.mono hb.size)) hp.lt
  refine ⟨_, _, rfl, rfl, fun W hW => ?_, fun W hW => ?_, fun W hW => ?_, fun W hW => ?_, fun W => ?_⟩
  · exact (Sum_cells W v l (pr W hW) (by omega) (hr.below hW (Nat.le_refl _))).mono fun _ _ h => ⟨h.1, hW.trans (h.2.mono hW.size)⟩
  · exact (RSum_any W v l hl (hr.below hW (Nat.le_refl _))).mono fun _ _ h => ⟨h.1, hW.trans (h.2.mono hW.size)⟩
  · exact (Name_any W v l (pr W hW) (by omega) (hr.below hW (Nat.le_refl _))).mono fun _ _ h => ⟨h.1, hW.trans (h.2.mono hW.size)⟩
  · exact (RName_any W v l hl (hr.below hW (Nat.le_refl _))).mono fun _ _ h => ⟨h.1, hW.trans (h.2.mono hW.size)⟩
  · rw [eql_sums, beq_self_eq_true]
end Go.Proofs.YtjbagoedaelmnaaDoor
