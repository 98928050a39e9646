/-
  Errors inside object: need, within; errors.As at a fault: told.
-/
import Derived.Test.YtdjmcehoaneekaaDoorDMem
import Derived.LaidEql
import Derived.LaidEqlPtr
import Derived.Stop.Asserts
import Derived.RowKitTokens
import Derived.Lib.Hide
namespace Go.Proofs.YtdjmcehoaneekaaDoor
open Go Go.RowKit Go.Extern.Stop Go.Stop Go.Extern
theorem below_new (w : World) (o : Obj) : Below w.heap.size w (w.alloc o) := (Below.refl _ w).alloc (Nat.le_refl _) o
end Go.Proofs.YtdjmcehoaneekaaDoor
