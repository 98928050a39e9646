/-
  checkTree, walked.
-/
import Derived.Test.YtfnepffccenebaaGreatDoorTree
namespace Go.Proofs.YtfnepffccenebaaGreatDoor
open Go Go.RowKit Go.Shelf
theorem OwK.drewN {α : Type} {t : TypeId} {k : Nat} {f : α → List Value} {w : World} {base : Nat} {v : Value} {l : List α} (h : OwK t k f w base v l) (n : Nat) : OwK t k f (w.drewN n) base v l := h
end Go.Proofs.YtfnepffccenebaaGreatDoor
