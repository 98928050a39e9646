/-
  Plain: what layer 5's laws say of what names come to.
-/
import Derived.Test.YtfnepffccenebaaGreatDoorWPure
namespace Go.Proofs.YtfnepffccenebaaGreatDoor
structure Hld where
  id : Bs
  kind : Int
  data : Bs
deriving DecidableEq
end Go.Proofs.YtfnepffccenebaaGreatDoor
