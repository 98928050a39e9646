/-
  checkTree: an error, if items are no tree.
-/
import Derived.Test.YtfnepffccenebaaGreatDoorBase
import Derived.Test.YtfnepffccenebaaGreatDoorFault
import Derived.Deep.QuietTactic
import Derived.BigQuiet
import Derived.IntWalk
import Derived.Shelf.Abstract
import Derived.Test.YtfnepffccenebaaGreatDoorDNamed
import Derived.Test.YtfnepffccenebaaGreatDoorTwo
import Derived.Test.YtfnepffccenebaaGreatDoorLay
import Derived.Lib.LaidTab
import Derived.Deep.RegionHeld3
namespace Go.Proofs.YtfnepffccenebaaGreatDoor
open Go Go.RowKit Go.Shelf
/-- What is known of an element's type. -/
structure ElK {α : Type} (st t : TypeId) (k bt : Nat) (f : α → List Value) : Prop where
  ut : Tryz.prog.underlying st = some (.slice t)
  info : ∃ z, (Tryz.prog.info? t).map (fun i => (i.zero, i.size, i.bytes)) = some (some z, k, bt) ∧ z.cells.size = k
  pos : 0 < k
  len : ∀ x, (f x).length = k
  one : ∀ x, ∀ u ∈ f x, u.oneCell' = true
end Go.Proofs.YtfnepffccenebaaGreatDoor
