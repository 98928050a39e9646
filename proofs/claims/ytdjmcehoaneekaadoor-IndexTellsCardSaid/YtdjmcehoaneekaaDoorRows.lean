/-
  NARROWER THAN 'FOR EVERY INPUT', by the rows' own cells (each row's printed sentence says how): IndexTells: laid · IndexFinds: laid · IndexBack: laid · IndexOrder: laid · IndexFan: laid · IndexMore: laid.
  DERIVED. THE GIVEN ROWS OF THIS SEAT. 6 by the template 'for every input the law returns true; each argument reads behind the call as it read before'; 0 by the template 'total and deterministic' (their statements: YtdjmcehoaneekaaDoorTotals.lean).
  GIVEN WITH THE SEED: the statements are not yours to turn. If you find one false, say at which input.
  Laid BY PROGRAM, IN A SANDBOX (cutbox-rows.mjs): the forced cells as the released guide's own fill.sh prints them over the translation b608771a194033f9… (all of the seat's roots in one cut). By AI agents, Wed Nov 11 2026. No macro, syntax, notation, axiom, sorry.
-/
import Derived.Test.YtdjmcehoaneekaaDoorChecked
import GoSem.Claim
import GoSem.ClaimJoined
import GoSem.ClaimMapViews
import Derived.JoinedTies
import Derived.KernelRfl
namespace Go.Proofs.YtdjmcehoaneekaaDoor
/- THE CELL 'sum', in the pinned program and in every row, IS THE sha256 OF THE DUMP (.gsa) THAT YtdjmcehoaneekaaDoorProg.lean LOADS. Nothing in Lean hashes anything: it is a label: what it is worth is what the hold of that sum in a sandbox is worth. -/
noncomputable def Tryd.pinned : Pinned := { name := "ytdjmcehoaneekaadoor", sum := "b608771a194033f98dde5c10c9399aa34c31e125ec552557914162564f0c0ff4", checked := Tryd.checked }
namespace Rows
def none {H : Type} : Left H := { results := [], args := [] }

/- WHAT THE LISTED PACKAGE-LEVEL VARIABLES READ AS WHEN THE CALL BEGINS. Each datum BY PROGRAM (the guide's laid-datum.mjs) off the statement by which the dump's own 'gosem.cut.vars' lays the variable. In a bare row this is a premise. The card (YtdjmcehoaneekaaDoorCards.lean) ties it to the program's text. -/
def laid_sacristy_digest_primes {H : Type} : DataW H := .agg [.lit (.int .u16 2), .lit (.int .u16 3), .lit (.int .u16 5), .lit (.int .u16 7), .lit (.int .u16 11), .lit (.int .u16 13), .lit (.int .u16 17), .lit (.int .u16 19), .lit (.int .u16 23), .lit (.int .u16 29), .lit (.int .u16 31), .lit (.int .u16 37), .lit (.int .u16 41), .lit (.int .u16 43), .lit (.int .u16 47), .lit (.int .u16 53), .lit (.int .u16 59), .lit (.int .u16 61), .lit (.int .u16 67), .lit (.int .u16 71), .lit (.int .u16 73), .lit (.int .u16 79), .lit (.int .u16 83), .lit (.int .u16 89), .lit (.int .u16 97), .lit (.int .u16 101), .lit (.int .u16 103), .lit (.int .u16 107), .lit (.int .u16 109), .lit (.int .u16 113), .lit (.int .u16 127), .lit (.int .u16 131), .lit (.int .u16 137), .lit (.int .u16 139), .lit (.int .u16 149), .lit (.int .u16 151), .lit (.int .u16 157), .lit (.int .u16 163), .lit (.int .u16 167), .lit (.int .u16 173), .lit (.int .u16 179), .lit (.int .u16 181), .lit (.int .u16 191), .lit (.int .u16 193), .lit (.int .u16 197), .lit (.int .u16 199), .lit (.int .u16 211), .lit (.int .u16 223), .lit (.int .u16 227), .lit (.int .u16 229), .lit (.int .u16 233), .lit (.int .u16 239), .lit (.int .u16 241), .lit (.int .u16 251), .lit (.int .u16 257), .lit (.int .u16 263), .lit (.int .u16 269), .lit (.int .u16 271), .lit (.int .u16 277), .lit (.int .u16 281), .lit (.int .u16 283), .lit (.int .u16 293), .lit (.int .u16 307), .lit (.int .u16 311)]

/-- 'sacristylaw08.IndexTells': WHATEVER THE INPUT: true; the input reads as it did. -/
def indexTellsSpec : ChangeSpec := { name := "indexTells", fn := fun _ => fun
  | [d1, d2, d3] => { results := [.lit (.bool true)], args := [d1, d2, d3] }
  | _ => none }
def indexTellsRow : OpenClaim := { program := "ytdjmcehoaneekaadoor", sum := "b608771a194033f98dde5c10c9399aa34c31e125ec552557914162564f0c0ff4", func := "sacristy/sacristylaw08.IndexTells", spec := "indexTells", inPlace := ["internal/bytealg.Compare"], unfollowed := true, recurses := true, named := ["sacristy/digest.primes", "math/bits.divideError", "math/bits.overflowError"], apart := false, laid := [("sacristy/digest.primes", laid_sacristy_digest_primes)] }
def IndexTellsSaid : Prop := indexTellsRow.holds Tryd.pinned (OpenSpec.ofChange indexTellsSpec)

/-- ITS FALSE NEIGHBOUR: 'it returns false'. Refute it at one input. -/
def indexTellsWrong : ChangeSpec := { name := "indexTells", fn := fun _ => fun
  | [d1, d2, d3] => { results := [.lit (.bool false)], args := [d1, d2, d3] }
  | _ => none }
def IndexTellsWrongFalsely : Prop := indexTellsRow.holds Tryd.pinned (OpenSpec.ofChange indexTellsWrong)

/-- 'sacristylaw08.IndexFinds': WHATEVER THE INPUT: true; the input reads as it did. -/
def indexFindsSpec : ChangeSpec := { name := "indexFinds", fn := fun _ => fun
  | [d1, d2] => { results := [.lit (.bool true)], args := [d1, d2] }
  | _ => none }
def indexFindsRow : OpenClaim := { program := "ytdjmcehoaneekaadoor", sum := "b608771a194033f98dde5c10c9399aa34c31e125ec552557914162564f0c0ff4", func := "sacristy/sacristylaw08.IndexFinds", spec := "indexFinds", inPlace := ["internal/bytealg.Compare"], unfollowed := true, recurses := true, named := ["sacristy/digest.primes", "math/bits.divideError", "math/bits.overflowError"], apart := false, laid := [("sacristy/digest.primes", laid_sacristy_digest_primes)] }
def IndexFindsSaid : Prop := indexFindsRow.holds Tryd.pinned (OpenSpec.ofChange indexFindsSpec)

/-- ITS FALSE NEIGHBOUR: 'it returns false'. Refute it at one input. -/
def indexFindsWrong : ChangeSpec := { name := "indexFinds", fn := fun _ => fun
  | [d1, d2] => { results := [.lit (.bool false)], args := [d1, d2] }
  | _ => none }
def IndexFindsWrongFalsely : Prop := indexFindsRow.holds Tryd.pinned (OpenSpec.ofChange indexFindsWrong)

/-- 'sacristylaw08.IndexBack': WHATEVER THE INPUT: true; the input reads as it did. -/
def indexBackSpec : ChangeSpec := { name := "indexBack", fn := fun _ => fun
  | [d1, d2, d3] => { results := [.lit (.bool true)], args := [d1, d2, d3] }
  | _ => none }
def indexBackRow : OpenClaim := { program := "ytdjmcehoaneekaadoor", sum := "b608771a194033f98dde5c10c9399aa34c31e125ec552557914162564f0c0ff4", func := "sacristy/sacristylaw08.IndexBack", spec := "indexBack", inPlace := ["internal/bytealg.Compare"], unfollowed := true, recurses := true, named := ["sacristy/digest.primes", "math/bits.divideError", "math/bits.overflowError"], apart := false, laid := [("sacristy/digest.primes", laid_sacristy_digest_primes)] }
def IndexBackSaid : Prop := indexBackRow.holds Tryd.pinned (OpenSpec.ofChange indexBackSpec)

/-- ITS FALSE NEIGHBOUR: 'it returns false'. Refute it at one input. -/
def indexBackWrong : ChangeSpec := { name := "indexBack", fn := fun _ => fun
  | [d1, d2, d3] => { results := [.lit (.bool false)], args := [d1, d2, d3] }
  | _ => none }
def IndexBackWrongFalsely : Prop := indexBackRow.holds Tryd.pinned (OpenSpec.ofChange indexBackWrong)

/-- 'sacristylaw08.IndexOrder': WHATEVER THE INPUT: true; the input reads as it did. -/
def indexOrderSpec : ChangeSpec := { name := "indexOrder", fn := fun _ => fun
  | [d1, d2] => { results := [.lit (.bool true)], args := [d1, d2] }
  | _ => none }
def indexOrderRow : OpenClaim := { program := "ytdjmcehoaneekaadoor", sum := "b608771a194033f98dde5c10c9399aa34c31e125ec552557914162564f0c0ff4", func := "sacristy/sacristylaw08.IndexOrder", spec := "indexOrder", inPlace := ["internal/bytealg.Compare"], unfollowed := true, recurses := true, named := ["sacristy/digest.primes", "math/bits.divideError", "math/bits.overflowError"], apart := false, laid := [("sacristy/digest.primes", laid_sacristy_digest_primes)] }
def IndexOrderSaid : Prop := indexOrderRow.holds Tryd.pinned (OpenSpec.ofChange indexOrderSpec)

/-- ITS FALSE NEIGHBOUR: 'it returns false'. Refute it at one input. -/
def indexOrderWrong : ChangeSpec := { name := "indexOrder", fn := fun _ => fun
  | [d1, d2] => { results := [.lit (.bool false)], args := [d1, d2] }
  | _ => none }
def IndexOrderWrongFalsely : Prop := indexOrderRow.holds Tryd.pinned (OpenSpec.ofChange indexOrderWrong)

/-- 'sacristylaw08.IndexFan': WHATEVER THE INPUT: true; the input reads as it did. -/
def indexFanSpec : ChangeSpec := { name := "indexFan", fn := fun _ => fun
  | [d] => { results := [.lit (.bool true)], args := [d] }
  | _ => none }
def indexFanRow : OpenClaim := { program := "ytdjmcehoaneekaadoor", sum := "b608771a194033f98dde5c10c9399aa34c31e125ec552557914162564f0c0ff4", func := "sacristy/sacristylaw08.IndexFan", spec := "indexFan", inPlace := ["internal/bytealg.Compare"], unfollowed := true, recurses := true, named := ["sacristy/digest.primes", "math/bits.divideError", "math/bits.overflowError"], apart := false, laid := [("sacristy/digest.primes", laid_sacristy_digest_primes)] }
def IndexFanSaid : Prop := indexFanRow.holds Tryd.pinned (OpenSpec.ofChange indexFanSpec)

/-- ITS FALSE NEIGHBOUR: 'it returns false'. Refute it at one input. -/
def indexFanWrong : ChangeSpec := { name := "indexFan", fn := fun _ => fun
  | [d] => { results := [.lit (.bool false)], args := [d] }
  | _ => none }
def IndexFanWrongFalsely : Prop := indexFanRow.holds Tryd.pinned (OpenSpec.ofChange indexFanWrong)

/-- 'sacristylaw08.IndexMore': WHATEVER THE INPUT: true; the input reads as it did. -/
def indexMoreSpec : ChangeSpec := { name := "indexMore", fn := fun _ => fun
  | [d1, d2] => { results := [.lit (.bool true)], args := [d1, d2] }
  | _ => none }
def indexMoreRow : OpenClaim := { program := "ytdjmcehoaneekaadoor", sum := "b608771a194033f98dde5c10c9399aa34c31e125ec552557914162564f0c0ff4", func := "sacristy/sacristylaw08.IndexMore", spec := "indexMore", inPlace := ["internal/bytealg.Compare"], unfollowed := true, recurses := true, named := ["sacristy/digest.primes", "math/bits.divideError", "math/bits.overflowError"], apart := false, laid := [("sacristy/digest.primes", laid_sacristy_digest_primes)] }
def IndexMoreSaid : Prop := indexMoreRow.holds Tryd.pinned (OpenSpec.ofChange indexMoreSpec)

/-- ITS FALSE NEIGHBOUR: 'it returns false'. Refute it at one input. -/
def indexMoreWrong : ChangeSpec := { name := "indexMore", fn := fun _ => fun
  | [d1, d2] => { results := [.lit (.bool false)], args := [d1, d2] }
  | _ => none }
def IndexMoreWrongFalsely : Prop := indexMoreRow.holds Tryd.pinned (OpenSpec.ofChange indexMoreWrong)

/- THE SECOND FORM. 'bulk': how many values and letters a reading holds, each counted each time it is reached (what is shared counts as often as it is met; a slice's spare places count too). A statement '..UptoSaid' is the law's where the arguments, and the package variables that the reading takes, are together of bulk at most 1048576: NARROWER than '..Said'. Prove '..Said' where nothing that the law and all that it calls make is longer than what came in: it says more and counts as full. Else prove '..UptoSaid'. A law counts once. -/
mutual
def uptoBulk {H : Type} : DataW H → Nat
  | .lit (.string bytes) => bytes.length + 1
  | .lit _ => 1
  | .nil => 1
  | .ptr d => uptoBulk d + 1
  | .slice elems spare => uptoBulkAll elems + uptoBulkAll spare + 1
  | .agg parts => uptoBulkAll parts + 1
  | .iface _ d => uptoBulk d + 1
  | .map entries => uptoBulkEntries entries + 1
  | .held _ => 1
def uptoBulkAll {H : Type} : List (DataW H) → Nat
  | [] => 0
  | d :: r => uptoBulk d + uptoBulkAll r
def uptoBulkEntries {H : Type} : List (Lit × DataW H) → Nat
  | [] => 0
  | x :: r => uptoBulkEntry x + uptoBulkEntries r
def uptoBulkEntry {H : Type} : Lit × DataW H → Nat
  | (.string bytes, d) => bytes.length + uptoBulk d + 1
  | (_, d) => uptoBulk d + 1
 end
def uptoSmall : (H : Type) → List (DataW H) → Bool := fun _ ds => decide (uptoBulkAll ds ≤ 1048576)
def OpenSpec.upto (s : _root_.Go.ChangeSpec) : _root_.Go.OpenSpec := { _root_.Go.OpenSpec.ofChange s with cond := some uptoSmall }

/-- 'sacristylaw08.IndexTells', WHERE WHAT IT READS IS OF BULK AT MOST 1048576: true; the input reads as it did. -/
def indexTellsUptoRow : OpenClaim := { program := "ytdjmcehoaneekaadoor", sum := "b608771a194033f98dde5c10c9399aa34c31e125ec552557914162564f0c0ff4", func := "sacristy/sacristylaw08.IndexTells", spec := "indexTells", inPlace := ["internal/bytealg.Compare"], unfollowed := true, recurses := true, named := ["sacristy/digest.primes", "math/bits.divideError", "math/bits.overflowError"], apart := false, laid := [("sacristy/digest.primes", laid_sacristy_digest_primes)], narrowed := true }
def IndexTellsUptoSaid : Prop := indexTellsUptoRow.holds Tryd.pinned (OpenSpec.upto indexTellsSpec)

/-- 'sacristylaw08.IndexFinds', WHERE WHAT IT READS IS OF BULK AT MOST 1048576: true; the input reads as it did. -/
def indexFindsUptoRow : OpenClaim := { program := "ytdjmcehoaneekaadoor", sum := "b608771a194033f98dde5c10c9399aa34c31e125ec552557914162564f0c0ff4", func := "sacristy/sacristylaw08.IndexFinds", spec := "indexFinds", inPlace := ["internal/bytealg.Compare"], unfollowed := true, recurses := true, named := ["sacristy/digest.primes", "math/bits.divideError", "math/bits.overflowError"], apart := false, laid := [("sacristy/digest.primes", laid_sacristy_digest_primes)], narrowed := true }
def IndexFindsUptoSaid : Prop := indexFindsUptoRow.holds Tryd.pinned (OpenSpec.upto indexFindsSpec)

/-- 'sacristylaw08.IndexBack', WHERE WHAT IT READS IS OF BULK AT MOST 1048576: true; the input reads as it did. -/
def indexBackUptoRow : OpenClaim := { program := "ytdjmcehoaneekaadoor", sum := "b608771a194033f98dde5c10c9399aa34c31e125ec552557914162564f0c0ff4", func := "sacristy/sacristylaw08.IndexBack", spec := "indexBack", inPlace := ["internal/bytealg.Compare"], unfollowed := true, recurses := true, named := ["sacristy/digest.primes", "math/bits.divideError", "math/bits.overflowError"], apart := false, laid := [("sacristy/digest.primes", laid_sacristy_digest_primes)], narrowed := true }
def IndexBackUptoSaid : Prop := indexBackUptoRow.holds Tryd.pinned (OpenSpec.upto indexBackSpec)

/-- 'sacristylaw08.IndexOrder', WHERE WHAT IT READS IS OF BULK AT MOST 1048576: true; the input reads as it did. -/
def indexOrderUptoRow : OpenClaim := { program := "ytdjmcehoaneekaadoor", sum := "b608771a194033f98dde5c10c9399aa34c31e125ec552557914162564f0c0ff4", func := "sacristy/sacristylaw08.IndexOrder", spec := "indexOrder", inPlace := ["internal/bytealg.Compare"], unfollowed := true, recurses := true, named := ["sacristy/digest.primes", "math/bits.divideError", "math/bits.overflowError"], apart := false, laid := [("sacristy/digest.primes", laid_sacristy_digest_primes)], narrowed := true }
def IndexOrderUptoSaid : Prop := indexOrderUptoRow.holds Tryd.pinned (OpenSpec.upto indexOrderSpec)

/-- 'sacristylaw08.IndexFan', WHERE WHAT IT READS IS OF BULK AT MOST 1048576: true; the input reads as it did. -/
def indexFanUptoRow : OpenClaim := { program := "ytdjmcehoaneekaadoor", sum := "b608771a194033f98dde5c10c9399aa34c31e125ec552557914162564f0c0ff4", func := "sacristy/sacristylaw08.IndexFan", spec := "indexFan", inPlace := ["internal/bytealg.Compare"], unfollowed := true, recurses := true, named := ["sacristy/digest.primes", "math/bits.divideError", "math/bits.overflowError"], apart := false, laid := [("sacristy/digest.primes", laid_sacristy_digest_primes)], narrowed := true }
def IndexFanUptoSaid : Prop := indexFanUptoRow.holds Tryd.pinned (OpenSpec.upto indexFanSpec)

/-- 'sacristylaw08.IndexMore', WHERE WHAT IT READS IS OF BULK AT MOST 1048576: true; the input reads as it did. -/
def indexMoreUptoRow : OpenClaim := { program := "ytdjmcehoaneekaadoor", sum := "b608771a194033f98dde5c10c9399aa34c31e125ec552557914162564f0c0ff4", func := "sacristy/sacristylaw08.IndexMore", spec := "indexMore", inPlace := ["internal/bytealg.Compare"], unfollowed := true, recurses := true, named := ["sacristy/digest.primes", "math/bits.divideError", "math/bits.overflowError"], apart := false, laid := [("sacristy/digest.primes", laid_sacristy_digest_primes)], narrowed := true }
def IndexMoreUptoSaid : Prop := indexMoreUptoRow.holds Tryd.pinned (OpenSpec.upto indexMoreSpec)

end Rows
end Go.Proofs.YtdjmcehoaneekaaDoor
