/-
  NARROWER THAN 'FOR EVERY INPUT', by the rows' own cells (each row's printed sentence says how): CutTells: laid · CutEnough: laid · CutNoMore: laid · CutLess: laid · CutUnion: laid · CutChain: laid · CutErrors: laid.
  DERIVED. THE GIVEN ROWS OF THIS SEAT. 7 by the template 'for every input the law returns true; each argument reads behind the call as it read before'; 0 by the template 'total and deterministic' (their statements: YtialgldmogigfaaGreatDoorTotals.lean).
  GIVEN WITH THE SEED: the statements are not yours to turn. If you find one false, say at which input.
  Laid BY PROGRAM, IN A SANDBOX (cutbox-rows.mjs): the forced cells as the released guide's own fill.sh prints them over the translation 97e1362d4fe49aab… (all of the seat's roots in one cut). By AI agents, Wed Nov 11 2026. No macro, syntax, notation, axiom, sorry.
-/
import Derived.Test.YtialgldmogigfaaGreatDoorChecked
import GoSem.Claim
import GoSem.ClaimJoined
import GoSem.ClaimMapViews
import Derived.JoinedTies
import Derived.KernelRfl
namespace Go.Proofs.YtialgldmogigfaaGreatDoor
/- THE CELL 'sum', in the pinned program and in every row, IS THE sha256 OF THE DUMP (.gsa) THAT YtialgldmogigfaaGreatDoorProg.lean LOADS. Nothing in Lean hashes anything: it is a label: what it is worth is what the hold of that sum in a sandbox is worth. -/
noncomputable def Tryz.pinned : Pinned := { name := "ytialgldmogigfaagreatdoor", sum := "97e1362d4fe49aabb9d9946ea87647d0719f3cd9bfe6bc3ce1ce787ed4f6edca", checked := Tryz.checked }
namespace Rows
def none {H : Type} : Left H := { results := [], args := [] }

/- WHAT THE LISTED PACKAGE-LEVEL VARIABLES READ AS WHEN THE CALL BEGINS. Each datum BY PROGRAM (the guide's laid-datum.mjs) off the statement by which the dump's own 'gosem.cut.vars' lays the variable. In a bare row this is a premise. The card (YtialgldmogigfaaGreatDoorCards.lean) ties it to the program's text. -/
def laid_math_bits_deBruijn32tab {H : Type} : DataW H := .agg [.lit (.int .u8 0), .lit (.int .u8 1), .lit (.int .u8 28), .lit (.int .u8 2), .lit (.int .u8 29), .lit (.int .u8 14), .lit (.int .u8 24), .lit (.int .u8 3), .lit (.int .u8 30), .lit (.int .u8 22), .lit (.int .u8 20), .lit (.int .u8 15), .lit (.int .u8 25), .lit (.int .u8 17), .lit (.int .u8 4), .lit (.int .u8 8), .lit (.int .u8 31), .lit (.int .u8 27), .lit (.int .u8 13), .lit (.int .u8 23), .lit (.int .u8 21), .lit (.int .u8 19), .lit (.int .u8 16), .lit (.int .u8 7), .lit (.int .u8 26), .lit (.int .u8 12), .lit (.int .u8 18), .lit (.int .u8 6), .lit (.int .u8 11), .lit (.int .u8 5), .lit (.int .u8 10), .lit (.int .u8 9)]
def laid_math_bits_deBruijn64tab {H : Type} : DataW H := .agg [.lit (.int .u8 0), .lit (.int .u8 1), .lit (.int .u8 56), .lit (.int .u8 2), .lit (.int .u8 57), .lit (.int .u8 49), .lit (.int .u8 28), .lit (.int .u8 3), .lit (.int .u8 61), .lit (.int .u8 58), .lit (.int .u8 42), .lit (.int .u8 50), .lit (.int .u8 38), .lit (.int .u8 29), .lit (.int .u8 17), .lit (.int .u8 4), .lit (.int .u8 62), .lit (.int .u8 47), .lit (.int .u8 59), .lit (.int .u8 36), .lit (.int .u8 45), .lit (.int .u8 43), .lit (.int .u8 51), .lit (.int .u8 22), .lit (.int .u8 53), .lit (.int .u8 39), .lit (.int .u8 33), .lit (.int .u8 30), .lit (.int .u8 24), .lit (.int .u8 18), .lit (.int .u8 12), .lit (.int .u8 5), .lit (.int .u8 63), .lit (.int .u8 55), .lit (.int .u8 48), .lit (.int .u8 27), .lit (.int .u8 60), .lit (.int .u8 41), .lit (.int .u8 37), .lit (.int .u8 16), .lit (.int .u8 46), .lit (.int .u8 35), .lit (.int .u8 44), .lit (.int .u8 21), .lit (.int .u8 52), .lit (.int .u8 32), .lit (.int .u8 23), .lit (.int .u8 11), .lit (.int .u8 54), .lit (.int .u8 26), .lit (.int .u8 40), .lit (.int .u8 15), .lit (.int .u8 34), .lit (.int .u8 20), .lit (.int .u8 31), .lit (.int .u8 10), .lit (.int .u8 25), .lit (.int .u8 14), .lit (.int .u8 19), .lit (.int .u8 9), .lit (.int .u8 13), .lit (.int .u8 8), .lit (.int .u8 7), .lit (.int .u8 6)]
def laid_internal_strconv_uint64pow10 {H : Type} : DataW H := .agg [.lit (.int .u64 1), .lit (.int .u64 10), .lit (.int .u64 100), .lit (.int .u64 1000), .lit (.int .u64 10000), .lit (.int .u64 100000), .lit (.int .u64 1000000), .lit (.int .u64 10000000), .lit (.int .u64 100000000), .lit (.int .u64 1000000000), .lit (.int .u64 10000000000), .lit (.int .u64 100000000000), .lit (.int .u64 1000000000000), .lit (.int .u64 10000000000000), .lit (.int .u64 100000000000000), .lit (.int .u64 1000000000000000), .lit (.int .u64 10000000000000000), .lit (.int .u64 100000000000000000), .lit (.int .u64 1000000000000000000), .lit (.int .u64 10000000000000000000)]
def laid_errors_errorType {H : Type} : DataW H := .iface "internal/reflectlite.rtype" (.agg [.ptr (.lit (.string [101, 114, 114, 111, 114]))])
def laid_sacristy_object_errOther {H : Type} : DataW H := .iface "*errors.errorString" (.ptr (.agg [.lit (.string [97, 110, 111, 116, 104, 101, 114, 32, 119, 111, 114, 100, 32, 115, 116, 97, 110, 100, 115, 32, 116, 104, 101, 114, 101])]))
def laid_sacristy_object_errWrong {H : Type} : DataW H := .iface "*errors.errorString" (.ptr (.agg [.lit (.string [105, 116, 32, 109, 97, 121, 32, 110, 111, 116, 32, 98, 101])]))
def laid_sacristy_object_errOver {H : Type} : DataW H := .iface "*errors.errorString" (.ptr (.agg [.lit (.string [109, 111, 114, 101, 32, 116, 104, 97, 110, 32, 109, 97, 121, 32, 98, 101])]))

/-- 'sacristylaw11.CutTells': WHATEVER THE INPUT: true; the input reads as it did. -/
def cutTellsSpec : ChangeSpec := { name := "cutTells", fn := fun _ => fun
  | [d1, d2, d3, d4] => { results := [.lit (.bool true)], args := [d1, d2, d3, d4] }
  | _ => none }
def cutTellsRow : OpenClaim := { program := "ytialgldmogigfaagreatdoor", sum := "97e1362d4fe49aabb9d9946ea87647d0719f3cd9bfe6bc3ce1ce787ed4f6edca", func := "sacristy/sacristylaw11.CutTells", spec := "cutTells", inPlace := ["internal/bytealg.IndexByteString", "internal/bytealg.IndexString", "internal/reflectlite.TypeOf", "internal/reflectlite.ValueOf", "(internal/reflectlite.Value).Type", "(internal/reflectlite.Value).IsNil", "(internal/reflectlite.Value).Elem", "(internal/reflectlite.Value).Set"], unfollowed := true, recurses := true, named := ["sacristy/object.errOver", "sacristy/object.errWrong", "sacristy/object.errOther", "internal/bytealg.MaxLen", "internal/strconv.uint64pow10", "math/bits.deBruijn32tab", "math/bits.deBruijn64tab", "errors.errorType"], apart := false, laid := [("math/bits.deBruijn32tab", laid_math_bits_deBruijn32tab), ("math/bits.deBruijn64tab", laid_math_bits_deBruijn64tab), ("internal/strconv.uint64pow10", laid_internal_strconv_uint64pow10), ("errors.errorType", laid_errors_errorType), ("sacristy/object.errOther", laid_sacristy_object_errOther), ("sacristy/object.errWrong", laid_sacristy_object_errWrong), ("sacristy/object.errOver", laid_sacristy_object_errOver)] }
def CutTellsSaid : Prop := cutTellsRow.holds Tryz.pinned (OpenSpec.ofChange cutTellsSpec)

/-- ITS FALSE NEIGHBOUR: 'it returns false'. Refute it at one input. -/
def cutTellsWrong : ChangeSpec := { name := "cutTells", fn := fun _ => fun
  | [d1, d2, d3, d4] => { results := [.lit (.bool false)], args := [d1, d2, d3, d4] }
  | _ => none }
def CutTellsWrongFalsely : Prop := cutTellsRow.holds Tryz.pinned (OpenSpec.ofChange cutTellsWrong)

/-- 'sacristylaw11.CutEnough': WHATEVER THE INPUT: true; the input reads as it did. -/
def cutEnoughSpec : ChangeSpec := { name := "cutEnough", fn := fun _ => fun
  | [d1, d2, d3, d4] => { results := [.lit (.bool true)], args := [d1, d2, d3, d4] }
  | _ => none }
def cutEnoughRow : OpenClaim := { program := "ytialgldmogigfaagreatdoor", sum := "97e1362d4fe49aabb9d9946ea87647d0719f3cd9bfe6bc3ce1ce787ed4f6edca", func := "sacristy/sacristylaw11.CutEnough", spec := "cutEnough", inPlace := ["internal/bytealg.IndexByteString", "internal/bytealg.IndexString", "internal/reflectlite.TypeOf", "internal/reflectlite.ValueOf", "(internal/reflectlite.Value).Type", "(internal/reflectlite.Value).IsNil", "(internal/reflectlite.Value).Elem", "(internal/reflectlite.Value).Set"], unfollowed := true, recurses := true, named := ["sacristy/object.errOver", "sacristy/object.errWrong", "sacristy/object.errOther", "internal/bytealg.MaxLen", "internal/strconv.uint64pow10", "math/bits.deBruijn32tab", "math/bits.deBruijn64tab", "errors.errorType"], apart := false, laid := [("math/bits.deBruijn32tab", laid_math_bits_deBruijn32tab), ("math/bits.deBruijn64tab", laid_math_bits_deBruijn64tab), ("internal/strconv.uint64pow10", laid_internal_strconv_uint64pow10), ("errors.errorType", laid_errors_errorType), ("sacristy/object.errOther", laid_sacristy_object_errOther), ("sacristy/object.errWrong", laid_sacristy_object_errWrong), ("sacristy/object.errOver", laid_sacristy_object_errOver)] }
def CutEnoughSaid : Prop := cutEnoughRow.holds Tryz.pinned (OpenSpec.ofChange cutEnoughSpec)

/-- ITS FALSE NEIGHBOUR: 'it returns false'. Refute it at one input. -/
def cutEnoughWrong : ChangeSpec := { name := "cutEnough", fn := fun _ => fun
  | [d1, d2, d3, d4] => { results := [.lit (.bool false)], args := [d1, d2, d3, d4] }
  | _ => none }
def CutEnoughWrongFalsely : Prop := cutEnoughRow.holds Tryz.pinned (OpenSpec.ofChange cutEnoughWrong)

/-- 'sacristylaw11.CutNoMore': WHATEVER THE INPUT: true; the input reads as it did. -/
def cutNoMoreSpec : ChangeSpec := { name := "cutNoMore", fn := fun _ => fun
  | [d1, d2, d3, d4, d5, d6] => { results := [.lit (.bool true)], args := [d1, d2, d3, d4, d5, d6] }
  | _ => none }
def cutNoMoreRow : OpenClaim := { program := "ytialgldmogigfaagreatdoor", sum := "97e1362d4fe49aabb9d9946ea87647d0719f3cd9bfe6bc3ce1ce787ed4f6edca", func := "sacristy/sacristylaw11.CutNoMore", spec := "cutNoMore", inPlace := ["internal/bytealg.IndexByteString", "internal/bytealg.IndexString", "internal/reflectlite.TypeOf", "internal/reflectlite.ValueOf", "(internal/reflectlite.Value).Type", "(internal/reflectlite.Value).IsNil", "(internal/reflectlite.Value).Elem", "(internal/reflectlite.Value).Set"], unfollowed := true, recurses := true, named := ["sacristy/object.errOver", "sacristy/object.errWrong", "sacristy/object.errOther", "internal/bytealg.MaxLen", "internal/strconv.uint64pow10", "math/bits.deBruijn32tab", "math/bits.deBruijn64tab", "errors.errorType"], apart := false, laid := [("math/bits.deBruijn32tab", laid_math_bits_deBruijn32tab), ("math/bits.deBruijn64tab", laid_math_bits_deBruijn64tab), ("internal/strconv.uint64pow10", laid_internal_strconv_uint64pow10), ("errors.errorType", laid_errors_errorType), ("sacristy/object.errOther", laid_sacristy_object_errOther), ("sacristy/object.errWrong", laid_sacristy_object_errWrong), ("sacristy/object.errOver", laid_sacristy_object_errOver)] }
def CutNoMoreSaid : Prop := cutNoMoreRow.holds Tryz.pinned (OpenSpec.ofChange cutNoMoreSpec)

/-- ITS FALSE NEIGHBOUR: 'it returns false'. Refute it at one input. -/
def cutNoMoreWrong : ChangeSpec := { name := "cutNoMore", fn := fun _ => fun
  | [d1, d2, d3, d4, d5, d6] => { results := [.lit (.bool false)], args := [d1, d2, d3, d4, d5, d6] }
  | _ => none }
def CutNoMoreWrongFalsely : Prop := cutNoMoreRow.holds Tryz.pinned (OpenSpec.ofChange cutNoMoreWrong)

/-- 'sacristylaw11.CutLess': WHATEVER THE INPUT: true; the input reads as it did. -/
def cutLessSpec : ChangeSpec := { name := "cutLess", fn := fun _ => fun
  | [d1, d2, d3, d4, d5] => { results := [.lit (.bool true)], args := [d1, d2, d3, d4, d5] }
  | _ => none }
def cutLessRow : OpenClaim := { program := "ytialgldmogigfaagreatdoor", sum := "97e1362d4fe49aabb9d9946ea87647d0719f3cd9bfe6bc3ce1ce787ed4f6edca", func := "sacristy/sacristylaw11.CutLess", spec := "cutLess", inPlace := ["internal/bytealg.IndexByteString", "internal/bytealg.IndexString", "internal/reflectlite.TypeOf", "internal/reflectlite.ValueOf", "(internal/reflectlite.Value).Type", "(internal/reflectlite.Value).IsNil", "(internal/reflectlite.Value).Elem", "(internal/reflectlite.Value).Set"], unfollowed := true, recurses := true, named := ["sacristy/object.errOver", "sacristy/object.errWrong", "sacristy/object.errOther", "internal/bytealg.MaxLen", "internal/strconv.uint64pow10", "math/bits.deBruijn32tab", "math/bits.deBruijn64tab", "errors.errorType"], apart := false, laid := [("math/bits.deBruijn32tab", laid_math_bits_deBruijn32tab), ("math/bits.deBruijn64tab", laid_math_bits_deBruijn64tab), ("internal/strconv.uint64pow10", laid_internal_strconv_uint64pow10), ("errors.errorType", laid_errors_errorType), ("sacristy/object.errOther", laid_sacristy_object_errOther), ("sacristy/object.errWrong", laid_sacristy_object_errWrong), ("sacristy/object.errOver", laid_sacristy_object_errOver)] }
def CutLessSaid : Prop := cutLessRow.holds Tryz.pinned (OpenSpec.ofChange cutLessSpec)

/-- ITS FALSE NEIGHBOUR: 'it returns false'. Refute it at one input. -/
def cutLessWrong : ChangeSpec := { name := "cutLess", fn := fun _ => fun
  | [d1, d2, d3, d4, d5] => { results := [.lit (.bool false)], args := [d1, d2, d3, d4, d5] }
  | _ => none }
def CutLessWrongFalsely : Prop := cutLessRow.holds Tryz.pinned (OpenSpec.ofChange cutLessWrong)

/-- 'sacristylaw11.CutUnion': WHATEVER THE INPUT: true; the input reads as it did. -/
def cutUnionSpec : ChangeSpec := { name := "cutUnion", fn := fun _ => fun
  | [d1, d2, d3] => { results := [.lit (.bool true)], args := [d1, d2, d3] }
  | _ => none }
def cutUnionRow : OpenClaim := { program := "ytialgldmogigfaagreatdoor", sum := "97e1362d4fe49aabb9d9946ea87647d0719f3cd9bfe6bc3ce1ce787ed4f6edca", func := "sacristy/sacristylaw11.CutUnion", spec := "cutUnion", inPlace := ["internal/bytealg.IndexByteString", "internal/bytealg.IndexString", "internal/reflectlite.TypeOf", "internal/reflectlite.ValueOf", "(internal/reflectlite.Value).Type", "(internal/reflectlite.Value).IsNil", "(internal/reflectlite.Value).Elem", "(internal/reflectlite.Value).Set"], unfollowed := true, recurses := true, named := ["sacristy/object.errOver", "sacristy/object.errWrong", "sacristy/object.errOther", "internal/bytealg.MaxLen", "internal/strconv.uint64pow10", "math/bits.deBruijn32tab", "math/bits.deBruijn64tab", "errors.errorType"], apart := false, laid := [("math/bits.deBruijn32tab", laid_math_bits_deBruijn32tab), ("math/bits.deBruijn64tab", laid_math_bits_deBruijn64tab), ("internal/strconv.uint64pow10", laid_internal_strconv_uint64pow10), ("errors.errorType", laid_errors_errorType), ("sacristy/object.errOther", laid_sacristy_object_errOther), ("sacristy/object.errWrong", laid_sacristy_object_errWrong), ("sacristy/object.errOver", laid_sacristy_object_errOver)] }
def CutUnionSaid : Prop := cutUnionRow.holds Tryz.pinned (OpenSpec.ofChange cutUnionSpec)

/-- ITS FALSE NEIGHBOUR: 'it returns false'. Refute it at one input. -/
def cutUnionWrong : ChangeSpec := { name := "cutUnion", fn := fun _ => fun
  | [d1, d2, d3] => { results := [.lit (.bool false)], args := [d1, d2, d3] }
  | _ => none }
def CutUnionWrongFalsely : Prop := cutUnionRow.holds Tryz.pinned (OpenSpec.ofChange cutUnionWrong)

/-- 'sacristylaw11.CutChain': WHATEVER THE INPUT: true; the input reads as it did. -/
def cutChainSpec : ChangeSpec := { name := "cutChain", fn := fun _ => fun
  | [d1, d2] => { results := [.lit (.bool true)], args := [d1, d2] }
  | _ => none }
def cutChainRow : OpenClaim := { program := "ytialgldmogigfaagreatdoor", sum := "97e1362d4fe49aabb9d9946ea87647d0719f3cd9bfe6bc3ce1ce787ed4f6edca", func := "sacristy/sacristylaw11.CutChain", spec := "cutChain", inPlace := ["internal/bytealg.IndexByteString", "internal/bytealg.IndexString", "internal/reflectlite.TypeOf", "internal/reflectlite.ValueOf", "(internal/reflectlite.Value).Type", "(internal/reflectlite.Value).IsNil", "(internal/reflectlite.Value).Elem", "(internal/reflectlite.Value).Set"], unfollowed := true, recurses := true, named := ["sacristy/object.errOver", "sacristy/object.errWrong", "sacristy/object.errOther", "internal/bytealg.MaxLen", "internal/strconv.uint64pow10", "math/bits.deBruijn32tab", "math/bits.deBruijn64tab", "errors.errorType"], apart := false, laid := [("math/bits.deBruijn32tab", laid_math_bits_deBruijn32tab), ("math/bits.deBruijn64tab", laid_math_bits_deBruijn64tab), ("internal/strconv.uint64pow10", laid_internal_strconv_uint64pow10), ("errors.errorType", laid_errors_errorType), ("sacristy/object.errOther", laid_sacristy_object_errOther), ("sacristy/object.errWrong", laid_sacristy_object_errWrong), ("sacristy/object.errOver", laid_sacristy_object_errOver)] }
def CutChainSaid : Prop := cutChainRow.holds Tryz.pinned (OpenSpec.ofChange cutChainSpec)

/-- ITS FALSE NEIGHBOUR: 'it returns false'. Refute it at one input. -/
def cutChainWrong : ChangeSpec := { name := "cutChain", fn := fun _ => fun
  | [d1, d2] => { results := [.lit (.bool false)], args := [d1, d2] }
  | _ => none }
def CutChainWrongFalsely : Prop := cutChainRow.holds Tryz.pinned (OpenSpec.ofChange cutChainWrong)

/-- 'sacristylaw11.CutErrors': WHATEVER THE INPUT: true; the input reads as it did. -/
def cutErrorsSpec : ChangeSpec := { name := "cutErrors", fn := fun _ => fun
  | [d1, d2, d3] => { results := [.lit (.bool true)], args := [d1, d2, d3] }
  | _ => none }
def cutErrorsRow : OpenClaim := { program := "ytialgldmogigfaagreatdoor", sum := "97e1362d4fe49aabb9d9946ea87647d0719f3cd9bfe6bc3ce1ce787ed4f6edca", func := "sacristy/sacristylaw11.CutErrors", spec := "cutErrors", inPlace := ["internal/bytealg.IndexByteString", "internal/bytealg.IndexString", "internal/reflectlite.TypeOf", "internal/reflectlite.ValueOf", "(internal/reflectlite.Value).Type", "(internal/reflectlite.Value).IsNil", "(internal/reflectlite.Value).Elem", "(internal/reflectlite.Value).Set"], unfollowed := true, recurses := true, named := ["sacristy/object.errOver", "sacristy/object.errWrong", "sacristy/object.errOther", "internal/bytealg.MaxLen", "internal/strconv.uint64pow10", "math/bits.deBruijn32tab", "math/bits.deBruijn64tab", "errors.errorType"], apart := false, laid := [("math/bits.deBruijn32tab", laid_math_bits_deBruijn32tab), ("math/bits.deBruijn64tab", laid_math_bits_deBruijn64tab), ("internal/strconv.uint64pow10", laid_internal_strconv_uint64pow10), ("errors.errorType", laid_errors_errorType), ("sacristy/object.errOther", laid_sacristy_object_errOther), ("sacristy/object.errWrong", laid_sacristy_object_errWrong), ("sacristy/object.errOver", laid_sacristy_object_errOver)] }
def CutErrorsSaid : Prop := cutErrorsRow.holds Tryz.pinned (OpenSpec.ofChange cutErrorsSpec)

/-- ITS FALSE NEIGHBOUR: 'it returns false'. Refute it at one input. -/
def cutErrorsWrong : ChangeSpec := { name := "cutErrors", fn := fun _ => fun
  | [d1, d2, d3] => { results := [.lit (.bool false)], args := [d1, d2, d3] }
  | _ => none }
def CutErrorsWrongFalsely : Prop := cutErrorsRow.holds Tryz.pinned (OpenSpec.ofChange cutErrorsWrong)

/- THE SECOND FORM. 'bulk': how many values and letters a reading holds, each counted each time it is reached (what is shared counts as often as it is met; a slice's spare places count too). A statement '..UptoSaid' is the law's where the arguments, and the package variables that the reading takes, are together of bulk at most 1048576: NARROWER than '..Said'. Prove '..Said' where nothing that the law and all that it calls make is longer than what came in: it says more and counts as full. Else prove '..UptoSaid'. A law counts once. -/
mutual
def uptoBulk {H : Type} : DataW H → Nat
  | .lit (.string bytes) => bytes.length + 1
  | .lit _ => 1
  | .nil => 1
  | .ptr d => uptoBulk d + 1
  | .slice elems spare => uptoBulkAll elems + uptoBulkAll spare + 1
  | .agg parts => uptoBulkAll parts + 1
  | .iface _ d => uptoBulk d + 1
  | .map entries => uptoBulkEntries entries + 1
  | .held _ => 1
def uptoBulkAll {H : Type} : List (DataW H) → Nat
  | [] => 0
  | d :: r => uptoBulk d + uptoBulkAll r
def uptoBulkEntries {H : Type} : List (Lit × DataW H) → Nat
  | [] => 0
  | x :: r => uptoBulkEntry x + uptoBulkEntries r
def uptoBulkEntry {H : Type} : Lit × DataW H → Nat
  | (.string bytes, d) => bytes.length + uptoBulk d + 1
  | (_, d) => uptoBulk d + 1
 end
def uptoSmall : (H : Type) → List (DataW H) → Bool := fun _ ds => decide (uptoBulkAll ds ≤ 1048576)
def OpenSpec.upto (s : _root_.Go.ChangeSpec) : _root_.Go.OpenSpec := { _root_.Go.OpenSpec.ofChange s with cond := some uptoSmall }

/-- 'sacristylaw11.CutTells', WHERE WHAT IT READS IS OF BULK AT MOST 1048576: true; the input reads as it did. -/
def cutTellsUptoRow : OpenClaim := { program := "ytialgldmogigfaagreatdoor", sum := "97e1362d4fe49aabb9d9946ea87647d0719f3cd9bfe6bc3ce1ce787ed4f6edca", func := "sacristy/sacristylaw11.CutTells", spec := "cutTells", inPlace := ["internal/bytealg.IndexByteString", "internal/bytealg.IndexString", "internal/reflectlite.TypeOf", "internal/reflectlite.ValueOf", "(internal/reflectlite.Value).Type", "(internal/reflectlite.Value).IsNil", "(internal/reflectlite.Value).Elem", "(internal/reflectlite.Value).Set"], unfollowed := true, recurses := true, named := ["sacristy/object.errOver", "sacristy/object.errWrong", "sacristy/object.errOther", "internal/bytealg.MaxLen", "internal/strconv.uint64pow10", "math/bits.deBruijn32tab", "math/bits.deBruijn64tab", "errors.errorType"], apart := false, laid := [("math/bits.deBruijn32tab", laid_math_bits_deBruijn32tab), ("math/bits.deBruijn64tab", laid_math_bits_deBruijn64tab), ("internal/strconv.uint64pow10", laid_internal_strconv_uint64pow10), ("errors.errorType", laid_errors_errorType), ("sacristy/object.errOther", laid_sacristy_object_errOther), ("sacristy/object.errWrong", laid_sacristy_object_errWrong), ("sacristy/object.errOver", laid_sacristy_object_errOver)], narrowed := true }
def CutTellsUptoSaid : Prop := cutTellsUptoRow.holds Tryz.pinned (OpenSpec.upto cutTellsSpec)

/-- 'sacristylaw11.CutEnough', WHERE WHAT IT READS IS OF BULK AT MOST 1048576: true; the input reads as it did. -/
def cutEnoughUptoRow : OpenClaim := { program := "ytialgldmogigfaagreatdoor", sum := "97e1362d4fe49aabb9d9946ea87647d0719f3cd9bfe6bc3ce1ce787ed4f6edca", func := "sacristy/sacristylaw11.CutEnough", spec := "cutEnough", inPlace := ["internal/bytealg.IndexByteString", "internal/bytealg.IndexString", "internal/reflectlite.TypeOf", "internal/reflectlite.ValueOf", "(internal/reflectlite.Value).Type", "(internal/reflectlite.Value).IsNil", "(internal/reflectlite.Value).Elem", "(internal/reflectlite.Value).Set"], unfollowed := true, recurses := true, named := ["sacristy/object.errOver", "sacristy/object.errWrong", "sacristy/object.errOther", "internal/bytealg.MaxLen", "internal/strconv.uint64pow10", "math/bits.deBruijn32tab", "math/bits.deBruijn64tab", "errors.errorType"], apart := false, laid := [("math/bits.deBruijn32tab", laid_math_bits_deBruijn32tab), ("math/bits.deBruijn64tab", laid_math_bits_deBruijn64tab), ("internal/strconv.uint64pow10", laid_internal_strconv_uint64pow10), ("errors.errorType", laid_errors_errorType), ("sacristy/object.errOther", laid_sacristy_object_errOther), ("sacristy/object.errWrong", laid_sacristy_object_errWrong), ("sacristy/object.errOver", laid_sacristy_object_errOver)], narrowed := true }
def CutEnoughUptoSaid : Prop := cutEnoughUptoRow.holds Tryz.pinned (OpenSpec.upto cutEnoughSpec)

/-- 'sacristylaw11.CutNoMore', WHERE WHAT IT READS IS OF BULK AT MOST 1048576: true; the input reads as it did. -/
def cutNoMoreUptoRow : OpenClaim := { program := "ytialgldmogigfaagreatdoor", sum := "97e1362d4fe49aabb9d9946ea87647d0719f3cd9bfe6bc3ce1ce787ed4f6edca", func := "sacristy/sacristylaw11.CutNoMore", spec := "cutNoMore", inPlace := ["internal/bytealg.IndexByteString", "internal/bytealg.IndexString", "internal/reflectlite.TypeOf", "internal/reflectlite.ValueOf", "(internal/reflectlite.Value).Type", "(internal/reflectlite.Value).IsNil", "(internal/reflectlite.Value).Elem", "(internal/reflectlite.Value).Set"], unfollowed := true, recurses := true, named := ["sacristy/object.errOver", "sacristy/object.errWrong", "sacristy/object.errOther", "internal/bytealg.MaxLen", "internal/strconv.uint64pow10", "math/bits.deBruijn32tab", "math/bits.deBruijn64tab", "errors.errorType"], apart := false, laid := [("math/bits.deBruijn32tab", laid_math_bits_deBruijn32tab), ("math/bits.deBruijn64tab", laid_math_bits_deBruijn64tab), ("internal/strconv.uint64pow10", laid_internal_strconv_uint64pow10), ("errors.errorType", laid_errors_errorType), ("sacristy/object.errOther", laid_sacristy_object_errOther), ("sacristy/object.errWrong", laid_sacristy_object_errWrong), ("sacristy/object.errOver", laid_sacristy_object_errOver)], narrowed := true }
def CutNoMoreUptoSaid : Prop := cutNoMoreUptoRow.holds Tryz.pinned (OpenSpec.upto cutNoMoreSpec)

/-- 'sacristylaw11.CutLess', WHERE WHAT IT READS IS OF BULK AT MOST 1048576: true; the input reads as it did. -/
def cutLessUptoRow : OpenClaim := { program := "ytialgldmogigfaagreatdoor", sum := "97e1362d4fe49aabb9d9946ea87647d0719f3cd9bfe6bc3ce1ce787ed4f6edca", func := "sacristy/sacristylaw11.CutLess", spec := "cutLess", inPlace := ["internal/bytealg.IndexByteString", "internal/bytealg.IndexString", "internal/reflectlite.TypeOf", "internal/reflectlite.ValueOf", "(internal/reflectlite.Value).Type", "(internal/reflectlite.Value).IsNil", "(internal/reflectlite.Value).Elem", "(internal/reflectlite.Value).Set"], unfollowed := true, recurses := true, named := ["sacristy/object.errOver", "sacristy/object.errWrong", "sacristy/object.errOther", "internal/bytealg.MaxLen", "internal/strconv.uint64pow10", "math/bits.deBruijn32tab", "math/bits.deBruijn64tab", "errors.errorType"], apart := false, laid := [("math/bits.deBruijn32tab", laid_math_bits_deBruijn32tab), ("math/bits.deBruijn64tab", laid_math_bits_deBruijn64tab), ("internal/strconv.uint64pow10", laid_internal_strconv_uint64pow10), ("errors.errorType", laid_errors_errorType), ("sacristy/object.errOther", laid_sacristy_object_errOther), ("sacristy/object.errWrong", laid_sacristy_object_errWrong), ("sacristy/object.errOver", laid_sacristy_object_errOver)], narrowed := true }
def CutLessUptoSaid : Prop := cutLessUptoRow.holds Tryz.pinned (OpenSpec.upto cutLessSpec)

/-- 'sacristylaw11.CutUnion', WHERE WHAT IT READS IS OF BULK AT MOST 1048576: true; the input reads as it did. -/
def cutUnionUptoRow : OpenClaim := { program := "ytialgldmogigfaagreatdoor", sum := "97e1362d4fe49aabb9d9946ea87647d0719f3cd9bfe6bc3ce1ce787ed4f6edca", func := "sacristy/sacristylaw11.CutUnion", spec := "cutUnion", inPlace := ["internal/bytealg.IndexByteString", "internal/bytealg.IndexString", "internal/reflectlite.TypeOf", "internal/reflectlite.ValueOf", "(internal/reflectlite.Value).Type", "(internal/reflectlite.Value).IsNil", "(internal/reflectlite.Value).Elem", "(internal/reflectlite.Value).Set"], unfollowed := true, recurses := true, named := ["sacristy/object.errOver", "sacristy/object.errWrong", "sacristy/object.errOther", "internal/bytealg.MaxLen", "internal/strconv.uint64pow10", "math/bits.deBruijn32tab", "math/bits.deBruijn64tab", "errors.errorType"], apart := false, laid := [("math/bits.deBruijn32tab", laid_math_bits_deBruijn32tab), ("math/bits.deBruijn64tab", laid_math_bits_deBruijn64tab), ("internal/strconv.uint64pow10", laid_internal_strconv_uint64pow10), ("errors.errorType", laid_errors_errorType), ("sacristy/object.errOther", laid_sacristy_object_errOther), ("sacristy/object.errWrong", laid_sacristy_object_errWrong), ("sacristy/object.errOver", laid_sacristy_object_errOver)], narrowed := true }
def CutUnionUptoSaid : Prop := cutUnionUptoRow.holds Tryz.pinned (OpenSpec.upto cutUnionSpec)

/-- 'sacristylaw11.CutChain', WHERE WHAT IT READS IS OF BULK AT MOST 1048576: true; the input reads as it did. -/
def cutChainUptoRow : OpenClaim := { program := "ytialgldmogigfaagreatdoor", sum := "97e1362d4fe49aabb9d9946ea87647d0719f3cd9bfe6bc3ce1ce787ed4f6edca", func := "sacristy/sacristylaw11.CutChain", spec := "cutChain", inPlace := ["internal/bytealg.IndexByteString", "internal/bytealg.IndexString", "internal/reflectlite.TypeOf", "internal/reflectlite.ValueOf", "(internal/reflectlite.Value).Type", "(internal/reflectlite.Value).IsNil", "(internal/reflectlite.Value).Elem", "(internal/reflectlite.Value).Set"], unfollowed := true, recurses := true, named := ["sacristy/object.errOver", "sacristy/object.errWrong", "sacristy/object.errOther", "internal/bytealg.MaxLen", "internal/strconv.uint64pow10", "math/bits.deBruijn32tab", "math/bits.deBruijn64tab", "errors.errorType"], apart := false, laid := [("math/bits.deBruijn32tab", laid_math_bits_deBruijn32tab), ("math/bits.deBruijn64tab", laid_math_bits_deBruijn64tab), ("internal/strconv.uint64pow10", laid_internal_strconv_uint64pow10), ("errors.errorType", laid_errors_errorType), ("sacristy/object.errOther", laid_sacristy_object_errOther), ("sacristy/object.errWrong", laid_sacristy_object_errWrong), ("sacristy/object.errOver", laid_sacristy_object_errOver)], narrowed := true }
def CutChainUptoSaid : Prop := cutChainUptoRow.holds Tryz.pinned (OpenSpec.upto cutChainSpec)

/-- 'sacristylaw11.CutErrors', WHERE WHAT IT READS IS OF BULK AT MOST 1048576: true; the input reads as it did. -/
def cutErrorsUptoRow : OpenClaim := { program := "ytialgldmogigfaagreatdoor", sum := "97e1362d4fe49aabb9d9946ea87647d0719f3cd9bfe6bc3ce1ce787ed4f6edca", func := "sacristy/sacristylaw11.CutErrors", spec := "cutErrors", inPlace := ["internal/bytealg.IndexByteString", "internal/bytealg.IndexString", "internal/reflectlite.TypeOf", "internal/reflectlite.ValueOf", "(internal/reflectlite.Value).Type", "(internal/reflectlite.Value).IsNil", "(internal/reflectlite.Value).Elem", "(internal/reflectlite.Value).Set"], unfollowed := true, recurses := true, named := ["sacristy/object.errOver", "sacristy/object.errWrong", "sacristy/object.errOther", "internal/bytealg.MaxLen", "internal/strconv.uint64pow10", "math/bits.deBruijn32tab", "math/bits.deBruijn64tab", "errors.errorType"], apart := false, laid := [("math/bits.deBruijn32tab", laid_math_bits_deBruijn32tab), ("math/bits.deBruijn64tab", laid_math_bits_deBruijn64tab), ("internal/strconv.uint64pow10", laid_internal_strconv_uint64pow10), ("errors.errorType", laid_errors_errorType), ("sacristy/object.errOther", laid_sacristy_object_errOther), ("sacristy/object.errWrong", laid_sacristy_object_errWrong), ("sacristy/object.errOver", laid_sacristy_object_errOver)], narrowed := true }
def CutErrorsUptoSaid : Prop := cutErrorsUptoRow.holds Tryz.pinned (OpenSpec.upto cutErrorsSpec)

end Rows
end Go.Proofs.YtialgldmogigfaaGreatDoor
