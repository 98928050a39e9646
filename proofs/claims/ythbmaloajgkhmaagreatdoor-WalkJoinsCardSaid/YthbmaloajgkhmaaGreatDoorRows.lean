/-
  NARROWER THAN 'FOR EVERY INPUT', by the rows' own cells (each row's printed sentence says how): WalkSets: laid · WalkJoins: laid.
  DERIVED. THE GIVEN ROWS OF THIS SEAT. 2 by the template 'for every input the law returns true; each argument reads behind the call as it read before'; 0 by the template 'total and deterministic' (their statements: YthbmaloajgkhmaaGreatDoorTotals.lean).
  GIVEN WITH THE SEED: the statements are not yours to turn. If you find one false, say at which input.
  Laid BY PROGRAM, IN A SANDBOX (cutbox-rows.mjs): the forced cells as the released guide's own fill.sh prints them over the translation ee8fd8741aba3cff… (all of the seat's roots in one cut). By AI agents, Wed Nov 11 2026. No macro, syntax, notation, axiom, sorry.
-/
import Derived.Test.YthbmaloajgkhmaaGreatDoorChecked
import GoSem.Claim
import GoSem.ClaimJoined
import GoSem.ClaimMapViews
import Derived.JoinedTies
import Derived.KernelRfl
namespace Go.Proofs.YthbmaloajgkhmaaGreatDoor
/- THE CELL 'sum', in the pinned program and in every row, IS THE sha256 OF THE DUMP (.gsa) THAT YthbmaloajgkhmaaGreatDoorProg.lean LOADS. Nothing in Lean hashes anything: it is a label: what it is worth is what the hold of that sum in a sandbox is worth. -/
noncomputable def Tryz.pinned : Pinned := { name := "ythbmaloajgkhmaagreatdoor", sum := "ee8fd8741aba3cffb45eb2270d7e5a82ec2b759e4bfd08797baa1af72164f9f8", checked := Tryz.checked }
namespace Rows
def none {H : Type} : Left H := { results := [], args := [] }

/- WHAT THE LISTED PACKAGE-LEVEL VARIABLES READ AS WHEN THE CALL BEGINS. Each datum BY PROGRAM (the guide's laid-datum.mjs) off the statement by which the dump's own 'gosem.cut.vars' lays the variable. In a bare row this is a premise. The card (YthbmaloajgkhmaaGreatDoorCards.lean) ties it to the program's text. -/
def laid_math_bits_deBruijn32tab {H : Type} : DataW H := .agg [.lit (.int .u8 0), .lit (.int .u8 1), .lit (.int .u8 28), .lit (.int .u8 2), .lit (.int .u8 29), .lit (.int .u8 14), .lit (.int .u8 24), .lit (.int .u8 3), .lit (.int .u8 30), .lit (.int .u8 22), .lit (.int .u8 20), .lit (.int .u8 15), .lit (.int .u8 25), .lit (.int .u8 17), .lit (.int .u8 4), .lit (.int .u8 8), .lit (.int .u8 31), .lit (.int .u8 27), .lit (.int .u8 13), .lit (.int .u8 23), .lit (.int .u8 21), .lit (.int .u8 19), .lit (.int .u8 16), .lit (.int .u8 7), .lit (.int .u8 26), .lit (.int .u8 12), .lit (.int .u8 18), .lit (.int .u8 6), .lit (.int .u8 11), .lit (.int .u8 5), .lit (.int .u8 10), .lit (.int .u8 9)]
def laid_math_bits_deBruijn64tab {H : Type} : DataW H := .agg [.lit (.int .u8 0), .lit (.int .u8 1), .lit (.int .u8 56), .lit (.int .u8 2), .lit (.int .u8 57), .lit (.int .u8 49), .lit (.int .u8 28), .lit (.int .u8 3), .lit (.int .u8 61), .lit (.int .u8 58), .lit (.int .u8 42), .lit (.int .u8 50), .lit (.int .u8 38), .lit (.int .u8 29), .lit (.int .u8 17), .lit (.int .u8 4), .lit (.int .u8 62), .lit (.int .u8 47), .lit (.int .u8 59), .lit (.int .u8 36), .lit (.int .u8 45), .lit (.int .u8 43), .lit (.int .u8 51), .lit (.int .u8 22), .lit (.int .u8 53), .lit (.int .u8 39), .lit (.int .u8 33), .lit (.int .u8 30), .lit (.int .u8 24), .lit (.int .u8 18), .lit (.int .u8 12), .lit (.int .u8 5), .lit (.int .u8 63), .lit (.int .u8 55), .lit (.int .u8 48), .lit (.int .u8 27), .lit (.int .u8 60), .lit (.int .u8 41), .lit (.int .u8 37), .lit (.int .u8 16), .lit (.int .u8 46), .lit (.int .u8 35), .lit (.int .u8 44), .lit (.int .u8 21), .lit (.int .u8 52), .lit (.int .u8 32), .lit (.int .u8 23), .lit (.int .u8 11), .lit (.int .u8 54), .lit (.int .u8 26), .lit (.int .u8 40), .lit (.int .u8 15), .lit (.int .u8 34), .lit (.int .u8 20), .lit (.int .u8 31), .lit (.int .u8 10), .lit (.int .u8 25), .lit (.int .u8 14), .lit (.int .u8 19), .lit (.int .u8 9), .lit (.int .u8 13), .lit (.int .u8 8), .lit (.int .u8 7), .lit (.int .u8 6)]
def laid_internal_strconv_uint64pow10 {H : Type} : DataW H := .agg [.lit (.int .u64 1), .lit (.int .u64 10), .lit (.int .u64 100), .lit (.int .u64 1000), .lit (.int .u64 10000), .lit (.int .u64 100000), .lit (.int .u64 1000000), .lit (.int .u64 10000000), .lit (.int .u64 100000000), .lit (.int .u64 1000000000), .lit (.int .u64 10000000000), .lit (.int .u64 100000000000), .lit (.int .u64 1000000000000), .lit (.int .u64 10000000000000), .lit (.int .u64 100000000000000), .lit (.int .u64 1000000000000000), .lit (.int .u64 10000000000000000), .lit (.int .u64 100000000000000000), .lit (.int .u64 1000000000000000000), .lit (.int .u64 10000000000000000000)]
def laid_sacristy_digest_primes {H : Type} : DataW H := .agg [.lit (.int .u16 2), .lit (.int .u16 3), .lit (.int .u16 5), .lit (.int .u16 7), .lit (.int .u16 11), .lit (.int .u16 13), .lit (.int .u16 17), .lit (.int .u16 19), .lit (.int .u16 23), .lit (.int .u16 29), .lit (.int .u16 31), .lit (.int .u16 37), .lit (.int .u16 41), .lit (.int .u16 43), .lit (.int .u16 47), .lit (.int .u16 53), .lit (.int .u16 59), .lit (.int .u16 61), .lit (.int .u16 67), .lit (.int .u16 71), .lit (.int .u16 73), .lit (.int .u16 79), .lit (.int .u16 83), .lit (.int .u16 89), .lit (.int .u16 97), .lit (.int .u16 101), .lit (.int .u16 103), .lit (.int .u16 107), .lit (.int .u16 109), .lit (.int .u16 113), .lit (.int .u16 127), .lit (.int .u16 131), .lit (.int .u16 137), .lit (.int .u16 139), .lit (.int .u16 149), .lit (.int .u16 151), .lit (.int .u16 157), .lit (.int .u16 163), .lit (.int .u16 167), .lit (.int .u16 173), .lit (.int .u16 179), .lit (.int .u16 181), .lit (.int .u16 191), .lit (.int .u16 193), .lit (.int .u16 197), .lit (.int .u16 199), .lit (.int .u16 211), .lit (.int .u16 223), .lit (.int .u16 227), .lit (.int .u16 229), .lit (.int .u16 233), .lit (.int .u16 239), .lit (.int .u16 241), .lit (.int .u16 251), .lit (.int .u16 257), .lit (.int .u16 263), .lit (.int .u16 269), .lit (.int .u16 271), .lit (.int .u16 277), .lit (.int .u16 281), .lit (.int .u16 283), .lit (.int .u16 293), .lit (.int .u16 307), .lit (.int .u16 311)]
def laid_errors_errorType {H : Type} : DataW H := .iface "internal/reflectlite.rtype" (.agg [.ptr (.lit (.string [101, 114, 114, 111, 114]))])
def laid_sacristy_object_errOther {H : Type} : DataW H := .iface "*errors.errorString" (.ptr (.agg [.lit (.string [97, 110, 111, 116, 104, 101, 114, 32, 119, 111, 114, 100, 32, 115, 116, 97, 110, 100, 115, 32, 116, 104, 101, 114, 101])]))
def laid_sacristy_object_errWrong {H : Type} : DataW H := .iface "*errors.errorString" (.ptr (.agg [.lit (.string [105, 116, 32, 109, 97, 121, 32, 110, 111, 116, 32, 98, 101])]))
def laid_sacristy_object_errOver {H : Type} : DataW H := .iface "*errors.errorString" (.ptr (.agg [.lit (.string [109, 111, 114, 101, 32, 116, 104, 97, 110, 32, 109, 97, 121, 32, 98, 101])]))

/-- 'sacristylaw05.WalkSets': WHATEVER THE INPUT: true; the input reads as it did. -/
def walkSetsSpec : ChangeSpec := { name := "walkSets", fn := fun _ => fun
  | [d1, d2, d3] => { results := [.lit (.bool true)], args := [d1, d2, d3] }
  | _ => none }
def walkSetsRow : OpenClaim := { program := "ythbmaloajgkhmaagreatdoor", sum := "ee8fd8741aba3cffb45eb2270d7e5a82ec2b759e4bfd08797baa1af72164f9f8", func := "sacristy/sacristylaw05.WalkSets", spec := "walkSets", inPlace := ["internal/bytealg.IndexByteString", "internal/bytealg.IndexString", "internal/reflectlite.TypeOf", "internal/reflectlite.ValueOf", "(internal/reflectlite.Value).Type", "(internal/reflectlite.Value).IsNil", "(internal/reflectlite.Value).Elem", "(internal/reflectlite.Value).Set", "internal/bytealg.abigen_runtime_cmpstring"], unfollowed := true, recurses := true, named := ["sacristy/object.errOver", "sacristy/object.errWrong", "sacristy/object.errOther", "internal/bytealg.MaxLen", "internal/strconv.uint64pow10", "math/bits.deBruijn32tab", "math/bits.deBruijn64tab", "sacristy/digest.primes", "math/bits.divideError", "math/bits.overflowError", "errors.errorType"], apart := false, laid := [("math/bits.deBruijn32tab", laid_math_bits_deBruijn32tab), ("math/bits.deBruijn64tab", laid_math_bits_deBruijn64tab), ("internal/strconv.uint64pow10", laid_internal_strconv_uint64pow10), ("sacristy/digest.primes", laid_sacristy_digest_primes), ("errors.errorType", laid_errors_errorType), ("sacristy/object.errOther", laid_sacristy_object_errOther), ("sacristy/object.errWrong", laid_sacristy_object_errWrong), ("sacristy/object.errOver", laid_sacristy_object_errOver)] }
def WalkSetsSaid : Prop := walkSetsRow.holds Tryz.pinned (OpenSpec.ofChange walkSetsSpec)

/-- ITS FALSE NEIGHBOUR: 'it returns false'. Refute it at one input. -/
def walkSetsWrong : ChangeSpec := { name := "walkSets", fn := fun _ => fun
  | [d1, d2, d3] => { results := [.lit (.bool false)], args := [d1, d2, d3] }
  | _ => none }
def WalkSetsWrongFalsely : Prop := walkSetsRow.holds Tryz.pinned (OpenSpec.ofChange walkSetsWrong)

/-- 'sacristylaw05.WalkJoins': WHATEVER THE INPUT: true; the input reads as it did. -/
def walkJoinsSpec : ChangeSpec := { name := "walkJoins", fn := fun _ => fun
  | [d1, d2, d3] => { results := [.lit (.bool true)], args := [d1, d2, d3] }
  | _ => none }
def walkJoinsRow : OpenClaim := { program := "ythbmaloajgkhmaagreatdoor", sum := "ee8fd8741aba3cffb45eb2270d7e5a82ec2b759e4bfd08797baa1af72164f9f8", func := "sacristy/sacristylaw05.WalkJoins", spec := "walkJoins", inPlace := ["internal/bytealg.IndexByteString", "internal/bytealg.IndexString", "internal/reflectlite.TypeOf", "internal/reflectlite.ValueOf", "(internal/reflectlite.Value).Type", "(internal/reflectlite.Value).IsNil", "(internal/reflectlite.Value).Elem", "(internal/reflectlite.Value).Set", "internal/bytealg.abigen_runtime_cmpstring"], unfollowed := true, recurses := true, named := ["sacristy/object.errOver", "sacristy/object.errWrong", "sacristy/object.errOther", "internal/bytealg.MaxLen", "internal/strconv.uint64pow10", "math/bits.deBruijn32tab", "math/bits.deBruijn64tab", "sacristy/digest.primes", "math/bits.divideError", "math/bits.overflowError", "errors.errorType"], apart := false, laid := [("math/bits.deBruijn32tab", laid_math_bits_deBruijn32tab), ("math/bits.deBruijn64tab", laid_math_bits_deBruijn64tab), ("internal/strconv.uint64pow10", laid_internal_strconv_uint64pow10), ("sacristy/digest.primes", laid_sacristy_digest_primes), ("errors.errorType", laid_errors_errorType), ("sacristy/object.errOther", laid_sacristy_object_errOther), ("sacristy/object.errWrong", laid_sacristy_object_errWrong), ("sacristy/object.errOver", laid_sacristy_object_errOver)] }
def WalkJoinsSaid : Prop := walkJoinsRow.holds Tryz.pinned (OpenSpec.ofChange walkJoinsSpec)

/-- ITS FALSE NEIGHBOUR: 'it returns false'. Refute it at one input. -/
def walkJoinsWrong : ChangeSpec := { name := "walkJoins", fn := fun _ => fun
  | [d1, d2, d3] => { results := [.lit (.bool false)], args := [d1, d2, d3] }
  | _ => none }
def WalkJoinsWrongFalsely : Prop := walkJoinsRow.holds Tryz.pinned (OpenSpec.ofChange walkJoinsWrong)

/- THE SECOND FORM. 'bulk': how many values and letters a reading holds, each counted each time it is reached (what is shared counts as often as it is met; a slice's spare places count too). A statement '..UptoSaid' is the law's where the arguments, and the package variables that the reading takes, are together of bulk at most 1048576: NARROWER than '..Said'. Prove '..Said' where nothing that the law and all that it calls make is longer than what came in: it says more and counts as full. Else prove '..UptoSaid'. A law counts once. -/
mutual
def uptoBulk {H : Type} : DataW H → Nat
  | .lit (.string bytes) => bytes.length + 1
  | .lit _ => 1
  | .nil => 1
  | .ptr d => uptoBulk d + 1
  | .slice elems spare => uptoBulkAll elems + uptoBulkAll spare + 1
  | .agg parts => uptoBulkAll parts + 1
  | .iface _ d => uptoBulk d + 1
  | .map entries => uptoBulkEntries entries + 1
  | .held _ => 1
def uptoBulkAll {H : Type} : List (DataW H) → Nat
  | [] => 0
  | d :: r => uptoBulk d + uptoBulkAll r
def uptoBulkEntries {H : Type} : List (Lit × DataW H) → Nat
  | [] => 0
  | x :: r => uptoBulkEntry x + uptoBulkEntries r
def uptoBulkEntry {H : Type} : Lit × DataW H → Nat
  | (.string bytes, d) => bytes.length + uptoBulk d + 1
  | (_, d) => uptoBulk d + 1
 end
def uptoSmall : (H : Type) → List (DataW H) → Bool := fun _ ds => decide (uptoBulkAll ds ≤ 1048576)
def OpenSpec.upto (s : _root_.Go.ChangeSpec) : _root_.Go.OpenSpec := { _root_.Go.OpenSpec.ofChange s with cond := some uptoSmall }

/-- 'sacristylaw05.WalkSets', WHERE WHAT IT READS IS OF BULK AT MOST 1048576: true; the input reads as it did. -/
def walkSetsUptoRow : OpenClaim := { program := "ythbmaloajgkhmaagreatdoor", sum := "ee8fd8741aba3cffb45eb2270d7e5a82ec2b759e4bfd08797baa1af72164f9f8", func := "sacristy/sacristylaw05.WalkSets", spec := "walkSets", inPlace := ["internal/bytealg.IndexByteString", "internal/bytealg.IndexString", "internal/reflectlite.TypeOf", "internal/reflectlite.ValueOf", "(internal/reflectlite.Value).Type", "(internal/reflectlite.Value).IsNil", "(internal/reflectlite.Value).Elem", "(internal/reflectlite.Value).Set", "internal/bytealg.abigen_runtime_cmpstring"], unfollowed := true, recurses := true, named := ["sacristy/object.errOver", "sacristy/object.errWrong", "sacristy/object.errOther", "internal/bytealg.MaxLen", "internal/strconv.uint64pow10", "math/bits.deBruijn32tab", "math/bits.deBruijn64tab", "sacristy/digest.primes", "math/bits.divideError", "math/bits.overflowError", "errors.errorType"], apart := false, laid := [("math/bits.deBruijn32tab", laid_math_bits_deBruijn32tab), ("math/bits.deBruijn64tab", laid_math_bits_deBruijn64tab), ("internal/strconv.uint64pow10", laid_internal_strconv_uint64pow10), ("sacristy/digest.primes", laid_sacristy_digest_primes), ("errors.errorType", laid_errors_errorType), ("sacristy/object.errOther", laid_sacristy_object_errOther), ("sacristy/object.errWrong", laid_sacristy_object_errWrong), ("sacristy/object.errOver", laid_sacristy_object_errOver)], narrowed := true }
def WalkSetsUptoSaid : Prop := walkSetsUptoRow.holds Tryz.pinned (OpenSpec.upto walkSetsSpec)

/-- 'sacristylaw05.WalkJoins', WHERE WHAT IT READS IS OF BULK AT MOST 1048576: true; the input reads as it did. -/
def walkJoinsUptoRow : OpenClaim := { program := "ythbmaloajgkhmaagreatdoor", sum := "ee8fd8741aba3cffb45eb2270d7e5a82ec2b759e4bfd08797baa1af72164f9f8", func := "sacristy/sacristylaw05.WalkJoins", spec := "walkJoins", inPlace := ["internal/bytealg.IndexByteString", "internal/bytealg.IndexString", "internal/reflectlite.TypeOf", "internal/reflectlite.ValueOf", "(internal/reflectlite.Value).Type", "(internal/reflectlite.Value).IsNil", "(internal/reflectlite.Value).Elem", "(internal/reflectlite.Value).Set", "internal/bytealg.abigen_runtime_cmpstring"], unfollowed := true, recurses := true, named := ["sacristy/object.errOver", "sacristy/object.errWrong", "sacristy/object.errOther", "internal/bytealg.MaxLen", "internal/strconv.uint64pow10", "math/bits.deBruijn32tab", "math/bits.deBruijn64tab", "sacristy/digest.primes", "math/bits.divideError", "math/bits.overflowError", "errors.errorType"], apart := false, laid := [("math/bits.deBruijn32tab", laid_math_bits_deBruijn32tab), ("math/bits.deBruijn64tab", laid_math_bits_deBruijn64tab), ("internal/strconv.uint64pow10", laid_internal_strconv_uint64pow10), ("sacristy/digest.primes", laid_sacristy_digest_primes), ("errors.errorType", laid_errors_errorType), ("sacristy/object.errOther", laid_sacristy_object_errOther), ("sacristy/object.errWrong", laid_sacristy_object_errWrong), ("sacristy/object.errOver", laid_sacristy_object_errOver)], narrowed := true }
def WalkJoinsUptoSaid : Prop := walkJoinsUptoRow.holds Tryz.pinned (OpenSpec.upto walkJoinsSpec)

end Rows
end Go.Proofs.YthbmaloajgkhmaaGreatDoor
