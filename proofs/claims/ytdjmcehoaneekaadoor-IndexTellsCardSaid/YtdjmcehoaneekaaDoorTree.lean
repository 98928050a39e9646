/-
  checkTree: an error, if items are no tree.
-/
import Derived.Test.YtdjmcehoaneekaaDoorBase
import Derived.Test.YtdjmcehoaneekaaDoorFault
import Derived.Deep.QuietTactic
import Derived.BigQuiet
import Derived.IntWalk
import Derived.Shelf.Abstract
import Derived.Test.YtdjmcehoaneekaaDoorDNamed
import Derived.Test.YtdjmcehoaneekaaDoorLay
import Derived.OwnWalkIn
import Derived.TacticsInMore
import Derived.LoopNIn
import Derived.LoopIn
import Derived.Maps.AppendAt
import Derived.Lib.LaidTab
import Derived.Deep.RegionHeld3
namespace Go.Proofs.YtdjmcehoaneekaaDoor
open Go Go.RowKit Go.Shelf
/-- What is known of an element's type. -/
structure ElK {α : Type} (st t : TypeId) (k bt : Nat) (f : α → List Value) : Prop where
  ut : Tryd.prog.underlying st = some (.slice t)
  info : ∃ z, (Tryd.prog.info? t).map (fun i => (i.zero, i.size, i.bytes)) = some (some z, k, bt) ∧ z.cells.size = k
  pos : 0 < k
  len : ∀ x, (f x).length = k
  one : ∀ x, ∀ u ∈ f x, u.oneCell' = true
end Go.Proofs.YtdjmcehoaneekaaDoor
