/-
  checkTree, walked.
-/
import Derived.Test.YtdjmcehoaneekaaDoorTree
namespace Go.Proofs.YtdjmcehoaneekaaDoor
open Go Go.RowKit Go.Shelf
theorem OwK.drewN {α : Type} {t : TypeId} {k : Nat} {f : α → List Value} {w : World} {base : Nat} {v : Value} {l : List α} (h : OwK t k f w base v l) (n : Nat) : OwK t k f (w.drewN n) base v l := h
end Go.Proofs.YtdjmcehoaneekaaDoor
