/-
  NARROWER THAN 'FOR EVERY INPUT', by the rows' own cells (each row's printed sentence says how): DigestTells: laid · DigestNames: laid · DigestPads: laid · DigestWords: laid · DigestStill: laid · DigestLong: laid.
  DERIVED. THE GIVEN ROWS OF THIS SEAT. 6 by the template 'for every input the law returns true; each argument reads behind the call as it read before'; 0 by the template 'total and deterministic' (their statements: YtjbagoedaelmnaaDoorTotals.lean).
  GIVEN WITH THE SEED: the statements are not yours to turn. If you find one false, say at which input.
  Laid BY PROGRAM, IN A SANDBOX (cutbox-rows.mjs): the forced cells as the released guide's own fill.sh prints them over the translation c8aaefc056500203… (all of the seat's roots in one cut). By AI agents, Wed Nov 11 2026. No macro, syntax, notation, axiom, sorry.
-/
import Derived.Test.YtjbagoedaelmnaaDoorChecked
import GoSem.Claim
import GoSem.ClaimJoined
import GoSem.ClaimMapViews
import Derived.JoinedTies
import Derived.KernelRfl
namespace Go.Proofs.YtjbagoedaelmnaaDoor
/- THE CELL 'sum', in the pinned program and in every row, IS THE sha256 OF THE DUMP (.gsa) THAT YtjbagoedaelmnaaDoorProg.lean LOADS. Nothing in Lean hashes anything: it is a label: what it is worth is what the hold of that sum in a sandbox is worth. -/
noncomputable def Tryd.pinned : Pinned := { name := "ytjbagoedaelmnaadoor", sum := "c8aaefc056500203c6ceae1b3c3c7e3dffd4ec6cfc3a30d9180c5839f28741fd", checked := Tryd.checked }
namespace Rows
def none {H : Type} : Left H := { results := [], args := [] }

/- WHAT THE LISTED PACKAGE-LEVEL VARIABLES READ AS WHEN THE CALL BEGINS. Each datum BY PROGRAM (the guide's laid-datum.mjs) off the statement by which the dump's own 'gosem.cut.vars' lays the variable. In a bare row this is a premise. The card (YtjbagoedaelmnaaDoorCards.lean) ties it to the program's text. -/
def laid_sacristy_digest_primes {H : Type} : DataW H := .agg [.lit (.int .u16 2), .lit (.int .u16 3), .lit (.int .u16 5), .lit (.int .u16 7), .lit (.int .u16 11), .lit (.int .u16 13), .lit (.int .u16 17), .lit (.int .u16 19), .lit (.int .u16 23), .lit (.int .u16 29), .lit (.int .u16 31), .lit (.int .u16 37), .lit (.int .u16 41), .lit (.int .u16 43), .lit (.int .u16 47), .lit (.int .u16 53), .lit (.int .u16 59), .lit (.int .u16 61), .lit (.int .u16 67), .lit (.int .u16 71), .lit (.int .u16 73), .lit (.int .u16 79), .lit (.int .u16 83), .lit (.int .u16 89), .lit (.int .u16 97), .lit (.int .u16 101), .lit (.int .u16 103), .lit (.int .u16 107), .lit (.int .u16 109), .lit (.int .u16 113), .lit (.int .u16 127), .lit (.int .u16 131), .lit (.int .u16 137), .lit (.int .u16 139), .lit (.int .u16 149), .lit (.int .u16 151), .lit (.int .u16 157), .lit (.int .u16 163), .lit (.int .u16 167), .lit (.int .u16 173), .lit (.int .u16 179), .lit (.int .u16 181), .lit (.int .u16 191), .lit (.int .u16 193), .lit (.int .u16 197), .lit (.int .u16 199), .lit (.int .u16 211), .lit (.int .u16 223), .lit (.int .u16 227), .lit (.int .u16 229), .lit (.int .u16 233), .lit (.int .u16 239), .lit (.int .u16 241), .lit (.int .u16 251), .lit (.int .u16 257), .lit (.int .u16 263), .lit (.int .u16 269), .lit (.int .u16 271), .lit (.int .u16 277), .lit (.int .u16 281), .lit (.int .u16 283), .lit (.int .u16 293), .lit (.int .u16 307), .lit (.int .u16 311)]

/-- 'sacristylaw02.DigestTells': WHATEVER THE INPUT: true; the input reads as it did. -/
def digestTellsSpec : ChangeSpec := { name := "digestTells", fn := fun _ => fun
  | [d1, d2] => { results := [.lit (.bool true)], args := [d1, d2] }
  | _ => none }
def digestTellsRow : OpenClaim := { program := "ytjbagoedaelmnaadoor", sum := "c8aaefc056500203c6ceae1b3c3c7e3dffd4ec6cfc3a30d9180c5839f28741fd", func := "sacristy/sacristylaw02.DigestTells", spec := "digestTells", named := ["sacristy/digest.primes", "math/bits.divideError", "math/bits.overflowError"], apart := false, laid := [("sacristy/digest.primes", laid_sacristy_digest_primes)] }
def DigestTellsSaid : Prop := digestTellsRow.holds Tryd.pinned (OpenSpec.ofChange digestTellsSpec)

/-- ITS FALSE NEIGHBOUR: 'it returns false'. Refute it at one input. -/
def digestTellsWrong : ChangeSpec := { name := "digestTells", fn := fun _ => fun
  | [d1, d2] => { results := [.lit (.bool false)], args := [d1, d2] }
  | _ => none }
def DigestTellsWrongFalsely : Prop := digestTellsRow.holds Tryd.pinned (OpenSpec.ofChange digestTellsWrong)

/-- 'sacristylaw02.DigestNames': WHATEVER THE INPUT: true; the input reads as it did. -/
def digestNamesSpec : ChangeSpec := { name := "digestNames", fn := fun _ => fun
  | [d1, d2, d3] => { results := [.lit (.bool true)], args := [d1, d2, d3] }
  | _ => none }
def digestNamesRow : OpenClaim := { program := "ytjbagoedaelmnaadoor", sum := "c8aaefc056500203c6ceae1b3c3c7e3dffd4ec6cfc3a30d9180c5839f28741fd", func := "sacristy/sacristylaw02.DigestNames", spec := "digestNames", named := ["sacristy/digest.primes", "math/bits.divideError", "math/bits.overflowError"], apart := false, laid := [("sacristy/digest.primes", laid_sacristy_digest_primes)] }
def DigestNamesSaid : Prop := digestNamesRow.holds Tryd.pinned (OpenSpec.ofChange digestNamesSpec)

/-- ITS FALSE NEIGHBOUR: 'it returns false'. Refute it at one input. -/
def digestNamesWrong : ChangeSpec := { name := "digestNames", fn := fun _ => fun
  | [d1, d2, d3] => { results := [.lit (.bool false)], args := [d1, d2, d3] }
  | _ => none }
def DigestNamesWrongFalsely : Prop := digestNamesRow.holds Tryd.pinned (OpenSpec.ofChange digestNamesWrong)

/-- 'sacristylaw02.DigestPads': WHATEVER THE INPUT: true; the input reads as it did. -/
def digestPadsSpec : ChangeSpec := { name := "digestPads", fn := fun _ => fun
  | [d1, d2, d3] => { results := [.lit (.bool true)], args := [d1, d2, d3] }
  | _ => none }
def digestPadsRow : OpenClaim := { program := "ytjbagoedaelmnaadoor", sum := "c8aaefc056500203c6ceae1b3c3c7e3dffd4ec6cfc3a30d9180c5839f28741fd", func := "sacristy/sacristylaw02.DigestPads", spec := "digestPads", named := ["sacristy/digest.primes", "math/bits.divideError", "math/bits.overflowError"], apart := false, laid := [("sacristy/digest.primes", laid_sacristy_digest_primes)] }
def DigestPadsSaid : Prop := digestPadsRow.holds Tryd.pinned (OpenSpec.ofChange digestPadsSpec)

/-- ITS FALSE NEIGHBOUR: 'it returns false'. Refute it at one input. -/
def digestPadsWrong : ChangeSpec := { name := "digestPads", fn := fun _ => fun
  | [d1, d2, d3] => { results := [.lit (.bool false)], args := [d1, d2, d3] }
  | _ => none }
def DigestPadsWrongFalsely : Prop := digestPadsRow.holds Tryd.pinned (OpenSpec.ofChange digestPadsWrong)

/-- 'sacristylaw02.DigestWords': WHATEVER THE INPUT: true; the input reads as it did. -/
def digestWordsSpec : ChangeSpec := { name := "digestWords", fn := fun _ => fun
  | [d1, d2] => { results := [.lit (.bool true)], args := [d1, d2] }
  | _ => none }
def digestWordsRow : OpenClaim := { program := "ytjbagoedaelmnaadoor", sum := "c8aaefc056500203c6ceae1b3c3c7e3dffd4ec6cfc3a30d9180c5839f28741fd", func := "sacristy/sacristylaw02.DigestWords", spec := "digestWords", named := ["sacristy/digest.primes", "math/bits.divideError", "math/bits.overflowError"], apart := false, laid := [("sacristy/digest.primes", laid_sacristy_digest_primes)] }
def DigestWordsSaid : Prop := digestWordsRow.holds Tryd.pinned (OpenSpec.ofChange digestWordsSpec)

/-- ITS FALSE NEIGHBOUR: 'it returns false'. Refute it at one input. -/
def digestWordsWrong : ChangeSpec := { name := "digestWords", fn := fun _ => fun
  | [d1, d2] => { results := [.lit (.bool false)], args := [d1, d2] }
  | _ => none }
def DigestWordsWrongFalsely : Prop := digestWordsRow.holds Tryd.pinned (OpenSpec.ofChange digestWordsWrong)

/-- 'sacristylaw02.DigestStill': WHATEVER THE INPUT: true; the input reads as it did. -/
def digestStillSpec : ChangeSpec := { name := "digestStill", fn := fun _ => fun
  | [d] => { results := [.lit (.bool true)], args := [d] }
  | _ => none }
def digestStillRow : OpenClaim := { program := "ytjbagoedaelmnaadoor", sum := "c8aaefc056500203c6ceae1b3c3c7e3dffd4ec6cfc3a30d9180c5839f28741fd", func := "sacristy/sacristylaw02.DigestStill", spec := "digestStill", named := ["sacristy/digest.primes", "math/bits.divideError", "math/bits.overflowError"], apart := false, laid := [("sacristy/digest.primes", laid_sacristy_digest_primes)] }
def DigestStillSaid : Prop := digestStillRow.holds Tryd.pinned (OpenSpec.ofChange digestStillSpec)

/-- ITS FALSE NEIGHBOUR: 'it returns false'. Refute it at one input. -/
def digestStillWrong : ChangeSpec := { name := "digestStill", fn := fun _ => fun
  | [d] => { results := [.lit (.bool false)], args := [d] }
  | _ => none }
def DigestStillWrongFalsely : Prop := digestStillRow.holds Tryd.pinned (OpenSpec.ofChange digestStillWrong)

/-- 'sacristylaw02.DigestLong': WHATEVER THE INPUT: true; the input reads as it did. -/
def digestLongSpec : ChangeSpec := { name := "digestLong", fn := fun _ => fun
  | [d1, d2, d3] => { results := [.lit (.bool true)], args := [d1, d2, d3] }
  | _ => none }
def digestLongRow : OpenClaim := { program := "ytjbagoedaelmnaadoor", sum := "c8aaefc056500203c6ceae1b3c3c7e3dffd4ec6cfc3a30d9180c5839f28741fd", func := "sacristy/sacristylaw02.DigestLong", spec := "digestLong", named := ["sacristy/digest.primes", "math/bits.divideError", "math/bits.overflowError"], apart := false, laid := [("sacristy/digest.primes", laid_sacristy_digest_primes)] }
def DigestLongSaid : Prop := digestLongRow.holds Tryd.pinned (OpenSpec.ofChange digestLongSpec)

/-- ITS FALSE NEIGHBOUR: 'it returns false'. Refute it at one input. -/
def digestLongWrong : ChangeSpec := { name := "digestLong", fn := fun _ => fun
  | [d1, d2, d3] => { results := [.lit (.bool false)], args := [d1, d2, d3] }
  | _ => none }
def DigestLongWrongFalsely : Prop := digestLongRow.holds Tryd.pinned (OpenSpec.ofChange digestLongWrong)

/- THE SECOND FORM. 'bulk': how many values and letters a reading holds, each counted each time it is reached (what is shared counts as often as it is met; a slice's spare places count too). A statement '..UptoSaid' is the law's where the arguments, and the package variables that the reading takes, are together of bulk at most 1048576: NARROWER than '..Said'. Prove '..Said' where nothing that the law and all that it calls make is longer than what came in: it says more and counts as full. Else prove '..UptoSaid'. A law counts once. -/
mutual
def uptoBulk {H : Type} : DataW H → Nat
  | .lit (.string bytes) => bytes.length + 1
  | .lit _ => 1
  | .nil => 1
  | .ptr d => uptoBulk d + 1
  | .slice elems spare => uptoBulkAll elems + uptoBulkAll spare + 1
  | .agg parts => uptoBulkAll parts + 1
  | .iface _ d => uptoBulk d + 1
  | .map entries => uptoBulkEntries entries + 1
  | .held _ => 1
def uptoBulkAll {H : Type} : List (DataW H) → Nat
  | [] => 0
  | d :: r => uptoBulk d + uptoBulkAll r
def uptoBulkEntries {H : Type} : List (Lit × DataW H) → Nat
  | [] => 0
  | x :: r => uptoBulkEntry x + uptoBulkEntries r
def uptoBulkEntry {H : Type} : Lit × DataW H → Nat
  | (.string bytes, d) => bytes.length + uptoBulk d + 1
  | (_, d) => uptoBulk d + 1
 end
def uptoSmall : (H : Type) → List (DataW H) → Bool := fun _ ds => decide (uptoBulkAll ds ≤ 1048576)
def OpenSpec.upto (s : _root_.Go.ChangeSpec) : _root_.Go.OpenSpec := { _root_.Go.OpenSpec.ofChange s with cond := some uptoSmall }

/-- 'sacristylaw02.DigestTells', WHERE WHAT IT READS IS OF BULK AT MOST 1048576: true; the input reads as it did. -/
def digestTellsUptoRow : OpenClaim := { program := "ytjbagoedaelmnaadoor", sum := "c8aaefc056500203c6ceae1b3c3c7e3dffd4ec6cfc3a30d9180c5839f28741fd", func := "sacristy/sacristylaw02.DigestTells", spec := "digestTells", named := ["sacristy/digest.primes", "math/bits.divideError", "math/bits.overflowError"], apart := false, laid := [("sacristy/digest.primes", laid_sacristy_digest_primes)], narrowed := true }
def DigestTellsUptoSaid : Prop := digestTellsUptoRow.holds Tryd.pinned (OpenSpec.upto digestTellsSpec)

/-- 'sacristylaw02.DigestNames', WHERE WHAT IT READS IS OF BULK AT MOST 1048576: true; the input reads as it did. -/
def digestNamesUptoRow : OpenClaim := { program := "ytjbagoedaelmnaadoor", sum := "c8aaefc056500203c6ceae1b3c3c7e3dffd4ec6cfc3a30d9180c5839f28741fd", func := "sacristy/sacristylaw02.DigestNames", spec := "digestNames", named := ["sacristy/digest.primes", "math/bits.divideError", "math/bits.overflowError"], apart := false, laid := [("sacristy/digest.primes", laid_sacristy_digest_primes)], narrowed := true }
def DigestNamesUptoSaid : Prop := digestNamesUptoRow.holds Tryd.pinned (OpenSpec.upto digestNamesSpec)

/-- 'sacristylaw02.DigestPads', WHERE WHAT IT READS IS OF BULK AT MOST 1048576: true; the input reads as it did. -/
def digestPadsUptoRow : OpenClaim := { program := "ytjbagoedaelmnaadoor", sum := "c8aaefc056500203c6ceae1b3c3c7e3dffd4ec6cfc3a30d9180c5839f28741fd", func := "sacristy/sacristylaw02.DigestPads", spec := "digestPads", named := ["sacristy/digest.primes", "math/bits.divideError", "math/bits.overflowError"], apart := false, laid := [("sacristy/digest.primes", laid_sacristy_digest_primes)], narrowed := true }
def DigestPadsUptoSaid : Prop := digestPadsUptoRow.holds Tryd.pinned (OpenSpec.upto digestPadsSpec)

/-- 'sacristylaw02.DigestWords', WHERE WHAT IT READS IS OF BULK AT MOST 1048576: true; the input reads as it did. -/
def digestWordsUptoRow : OpenClaim := { program := "ytjbagoedaelmnaadoor", sum := "c8aaefc056500203c6ceae1b3c3c7e3dffd4ec6cfc3a30d9180c5839f28741fd", func := "sacristy/sacristylaw02.DigestWords", spec := "digestWords", named := ["sacristy/digest.primes", "math/bits.divideError", "math/bits.overflowError"], apart := false, laid := [("sacristy/digest.primes", laid_sacristy_digest_primes)], narrowed := true }
def DigestWordsUptoSaid : Prop := digestWordsUptoRow.holds Tryd.pinned (OpenSpec.upto digestWordsSpec)

/-- 'sacristylaw02.DigestStill', WHERE WHAT IT READS IS OF BULK AT MOST 1048576: true; the input reads as it did. -/
def digestStillUptoRow : OpenClaim := { program := "ytjbagoedaelmnaadoor", sum := "c8aaefc056500203c6ceae1b3c3c7e3dffd4ec6cfc3a30d9180c5839f28741fd", func := "sacristy/sacristylaw02.DigestStill", spec := "digestStill", named := ["sacristy/digest.primes", "math/bits.divideError", "math/bits.overflowError"], apart := false, laid := [("sacristy/digest.primes", laid_sacristy_digest_primes)], narrowed := true }
def DigestStillUptoSaid : Prop := digestStillUptoRow.holds Tryd.pinned (OpenSpec.upto digestStillSpec)

/-- 'sacristylaw02.DigestLong', WHERE WHAT IT READS IS OF BULK AT MOST 1048576: true; the input reads as it did. -/
def digestLongUptoRow : OpenClaim := { program := "ytjbagoedaelmnaadoor", sum := "c8aaefc056500203c6ceae1b3c3c7e3dffd4ec6cfc3a30d9180c5839f28741fd", func := "sacristy/sacristylaw02.DigestLong", spec := "digestLong", named := ["sacristy/digest.primes", "math/bits.divideError", "math/bits.overflowError"], apart := false, laid := [("sacristy/digest.primes", laid_sacristy_digest_primes)], narrowed := true }
def DigestLongUptoSaid : Prop := digestLongUptoRow.holds Tryd.pinned (OpenSpec.upto digestLongSpec)

end Rows
end Go.Proofs.YtjbagoedaelmnaaDoor
