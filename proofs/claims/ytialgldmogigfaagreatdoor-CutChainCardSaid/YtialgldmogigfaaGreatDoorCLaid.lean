/-
  What the rows' condition gives; a world that meets it; arguments that read as they did, and what they may be.
-/
import Derived.Carry
import Derived.Test.YtialgldmogigfaaGreatDoorCards
import Derived.Test.YtialgldmogigfaaGreatDoorTie
import Derived.WalkKit
import Derived.ProofKit
import Derived.OpenShut
import Derived.Deep.DeepHandedRow
import Derived.LaidLaws
import Derived.LaidHandle
import Derived.Stop.LaidErr
import Derived.Stop.LaidTwo
import Derived.Lib.LaidU8
import Derived.Test.YtialgldmogigfaaGreatDoorC13
import Derived.Test.YtialgldmogigfaaGreatDoorC29

namespace Go.Proofs.YtialgldmogigfaaGreatDoor.Ct
open Go.Proofs.YtialgldmogigfaaGreatDoor
open Go Go.ChangeShapes Go.WideShapes Go.ChangeAt Go.RowKit

theorem own : ownKnob Tryz.prog.godebug = none := by kernel_rfl
theorem gTab : Tryz.prog.globalNamed "internal/strconv.uint64pow10" = some 5 := by kernel_rfl
theorem gOther : Tryz.prog.globalNamed "sacristy/object.errOther" = some 3 := by kernel_rfl
theorem gWrong : Tryz.prog.globalNamed "sacristy/object.errWrong" = some 1 := by kernel_rfl
theorem gOver : Tryz.prog.globalNamed "sacristy/object.errOver" = some 0 := by kernel_rfl
theorem etG : Tryz.prog.globalNamed "errors.errorType" = some 2 := by kernel_rfl
theorem etR : (Tryz.prog.cutTypes.find? (·.1 == "internal/reflectlite.rtype")).map (·.2) = some 167 := by kernel_rfl
theorem etT : Tryz.prog.types.size = 267 := by kernel_rfl
theorem etOne : ((List.range 267).filter fun t => Tryz.prog.rowNamed t [101, 114, 114, 111, 114]) = [107] := by kernel_rfl
theorem star : "*" ++ "errors.errorString" = "*errors.errorString" := by decide
theorem rowErr (u : TypeId) (h : Tryz.prog.typeName? 3 u = some "*errors.errorString") : u = 235 :=
  typeName_ptr_named (nm := "errors.errorString") (by rw [star]; kernel_rfl) (by kernel_rfl) (by decide) u (by rw [star]; exact h)
theorem tab_data : (Rows.laid_internal_strconv_uint64pow10 : DataW Unit) = Lib.tabData .u64 Lib.pow10Tab := by rfl
def laidD : List (String × DataW Unit) := [("math/bits.deBruijn32tab", Rows.laid_math_bits_deBruijn32tab), ("math/bits.deBruijn64tab", Rows.laid_math_bits_deBruijn64tab), ("internal/strconv.uint64pow10", Rows.laid_internal_strconv_uint64pow10), ("sacristy/object.errOther", Rows.laid_sacristy_object_errOther), ("sacristy/object.errWrong", Rows.laid_sacristy_object_errWrong), ("sacristy/object.errOver", Rows.laid_sacristy_object_errOver)]
def laidL : List (String × DataW Unit) := [("math/bits.deBruijn32tab", Rows.laid_math_bits_deBruijn32tab), ("math/bits.deBruijn64tab", Rows.laid_math_bits_deBruijn64tab), ("internal/strconv.uint64pow10", Rows.laid_internal_strconv_uint64pow10), ("errors.errorType", Rows.laid_errors_errorType), ("sacristy/object.errOther", Rows.laid_sacristy_object_errOther), ("sacristy/object.errWrong", Rows.laid_sacristy_object_errWrong), ("sacristy/object.errOver", Rows.laid_sacristy_object_errOver)]

theorem cell_of_var {W : World} {n : String} {g : Nat} {v : Value} (hg : Tryz.prog.globalNamed n = some g) (h : W.var? Tryz.prog n = some #[v]) : W.cell? ⟨g, 0, none⟩ = some v := by
  simpa using World.var?_cell hg h 0

theorem et_of {W : World} (h : handlesMet Tryz.prog [("errors.errorType", Rows.laid_errors_errorType)] W) : Et W := by
  obtain ⟨name, u, ty, e1, e2, e3, e4, e5⟩ := h _ (List.mem_singleton.2 rfl)
  have en : name = [101, 114, 114, 111, 114] := (Option.some.inj e1).symm
  subst en
  obtain rfl := Option.some.inj (etR.symm.trans e2)
  have hm : ty ∈ (List.range 267).filter fun t => Tryz.prog.rowNamed t [101, 114, 114, 111, 114] := List.mem_filter.2 ⟨List.mem_range.2 (by rw [← etT]; exact e3), e4⟩
  rw [etOne] at hm
  obtain rfl := List.mem_singleton.1 hm
  have hh : typeHandle Tryz.prog 107 = .pointer (some ⟨8, 107, none⟩) := by kernel_rfl
  rw [hh] at e5
  unfold Et
  simpa using World.var?_cell etG e5 0

set_option maxRecDepth 100000 in
theorem ob_of_laid {W : World} (h : laidMetH Tryz.prog laidL W) : Ob W := by
  have h' : laidMet Tryz.prog laidD W ∧ handlesMet Tryz.prog [("errors.errorType", Rows.laid_errors_errorType)] W := h
  have t2 := h'.1.tail.tail
  have t4 := t2.tail
  obtain ⟨ao, aw, so, sw, co, cw, ty0, ty1, ho, hw, _, _, _, _, _, _, hne, hbo, hbw⟩ := laid_sentinels2 (g0 := 3) (g1 := 1) t4 gOther (by kernel_rfl) gWrong (by kernel_rfl) Tryz.underlying107 rowErr Tryz.underlying235 Tryz.underlying256 rfl rfl Tryz.underlying9 (by kernel_rfl) (by kernel_rfl)
  obtain ⟨av, sv, hv, _⟩ := laid_sentinel (g := 0) t4.tail.tail gOver (by kernel_rfl) Tryz.underlying107 rowErr Tryz.underlying235 Tryz.underlying256 rfl rfl Tryz.underlying9 (by kernel_rfl) (by kernel_rfl)
  refine ⟨⟨⟨⟨_, cell_of_var gOver hv⟩, ⟨aw, ao, fun e => hne e.symm, cell_of_var gWrong hw, cell_of_var gOther ho⟩, et_of h'.2⟩, ⟨aw, ao, cw, co, ty1, ty0, fun e => hne e.symm, cell_of_var gWrong hw, cell_of_var gOther ho, hbw, hbo⟩⟩, ?_⟩
  rw [tab_data] at t2
  exact Lib.tabIs_of_head gTab (by kernel_rfl) Tryz.underlying231 Tryz.underlying122 (by kernel_rfl) (by kernel_rfl) t2

/-- A world that meets the condition. -/
noncomputable def low : Nat := (World.holding Tryz.prog default ⟨#[], #[], []⟩).heap.size
def litsOf : DataW Unit → List Value
  | .agg ds => ds.map fun d => match d with | .lit (.int k n) => .int k n | _ => .nilIface
  | _ => []
def textOf : DataW Unit → ByteArray
  | .iface _ (.ptr (.agg [.lit (.string s)])) => ⟨s.toArray⟩
  | _ => ⟨#[]⟩
def setCells (cs : List Value) : Obj → Obj
  | .cells _ t frozen => .cells cs.toArray t frozen
  | o => o
noncomputable def laidWorld (os : Os) : World :=
  let w0 := World.holding Tryz.prog os ⟨#[.cells #[.string (textOf Rows.laid_sacristy_object_errOther)] 256, .cells #[.string (textOf Rows.laid_sacristy_object_errWrong)] 256, .cells #[.string (textOf Rows.laid_sacristy_object_errOver)] 256], #[], []⟩
  { w0 with heap := (((((((w0.heap.modify 3 (setCells [.iface 235 (.pointer (some ⟨low, 0, none⟩))])).modify 1 (setCells [.iface 235 (.pointer (some ⟨low + 1, 0, none⟩))])).modify 0 (setCells [.iface 235 (.pointer (some ⟨low + 2, 0, none⟩))])).modify
      5 (setCells (litsOf Rows.laid_internal_strconv_uint64pow10))).modify 6 (setCells (litsOf Rows.laid_math_bits_deBruijn32tab))).modify 7 (setCells (litsOf Rows.laid_math_bits_deBruijn64tab))).modify 2 (setCells [.iface 167 (.agg #[.pointer (some ⟨8, 107, none⟩)])])) }
theorem laid_met (os : Os) (args : Array Value) : laidMetH Tryz.prog laidL ((laidWorld os).forCall (fun _ _ => 0) ⟨#[], args, []⟩).memory :=
  laidMetH_of_parts (laidMet_of_run' 8 (by kernel_rfl) (by kernel_rfl)) (by kernel_rfl)

theorem laid_out : laidOutB Tryz.prog = true := by kernel_rfl

/-- The arguments read as they did, where nothing below has turned. -/
theorem below_trodAll {H : Type} {enc : TypeId × Value → H} {W W' : World} (hb : Below W.heap.size W W') : ∀ {ts : List TypeId} {vs : List Value} {ds : List (DataW H)} {ps : List MemPlace},
    (∀ t ∈ ts, Tryz.prog.readableRec t = true ∧ t < Tryz.prog.types.size) → DataW.TrodAll enc Tryz.prog W 0 (fun _ => true) true ts vs ds ps → (∀ x ∈ ps, x.block < W.heap.size) → DataW.TrodAll enc Tryz.prog W' 0 (fun b => decide (b < W.heap.size)) true ts vs ds ps
  | [], [], [], _, _, h, _ => h
  | _ :: _, _ :: _, _ :: _, _, hT, ⟨p, q, h1, h2, e⟩, hs =>
    ⟨p, q, Below.trod laid_out (hT _ (List.mem_cons.2 (Or.inl rfl))).1 (hT _ (List.mem_cons.2 (Or.inl rfl))).2 h1 hb (fun x hx => hs x (by rw [e]; exact List.mem_append_left _ hx)),
      below_trodAll hb (fun t ht => hT t (List.mem_cons.2 (Or.inr ht))) h2 (fun x hx => hs x (by rw [e]; exact List.mem_append_right _ hx)), e⟩

theorem fits_of {H : Type} {ts : List TypeId} {ds : List (DataW H)} (h : (DataW.weightsEach Tryz.prog ts ds).all (· ≤ reachBytes) = true) {j : Nat} {t : TypeId} {d : DataW H} (ht : ts[j]? = some t) (hd : ds[j]? = some d) : Fits t d := fun n hn => by
  simpa using List.all_eq_true.1 h _ (DataW.weights_mem_each ht hd n hn)

section
variable {H : Type} {enc : TypeId × Value → H} {W : World} {r : Go.Reach} {b0 : Nat} {v : Value} {d : DataW H} {ps : List MemPlace}
set_option maxRecDepth 100000

theorem helds_of (hval : Value.okWide Tryz.prog W r b0 22 v) (hd : DataW.Trod enc Tryz.prog W 0 (fun _ => true) true 22 v d ps) (hF : Fits 22 d) : ∃ l : List Hld, l.length ≤ limW ∧ HldsR W v l := by
  obtain ⟨a, len, cap, rfl⟩ := okWide_slice Tryz.underlying22 hval
  obtain ⟨fuel, h⟩ := hd
  exact open_helds (v := .slice a len cap) h hF
theorem strs_of (hval : Value.okWide Tryz.prog W r b0 23 v) (hd : DataW.Trod enc Tryz.prog W 0 (fun _ => true) true 23 v d ps) (hF : Fits 23 d) : ∃ l : List Bs, l.length ≤ limW ∧ StrsR W v l := by
  obtain ⟨a, len, cap, rfl⟩ := okWide_slice Tryz.underlying23 hval
  obtain ⟨fuel, h⟩ := hd
  obtain ⟨l, h1, _, h2⟩ := open_strs (v := .slice a len cap) h hF
  exact ⟨l, h1, h2⟩
theorem rows_of (hval : Value.okWide Tryz.prog W r b0 31 v) (hd : DataW.Trod enc Tryz.prog W 0 (fun _ => true) true 31 v d ps) (hF : Fits 31 d) : ∃ l : List (List Bs), (l.length ≤ limW ∧ ∀ r ∈ l, r.length ≤ limW) ∧ RowsR W v l := by
  obtain ⟨a, len, cap, rfl⟩ := okWide_slice Tryz.underlying31 hval
  obtain ⟨fuel, h⟩ := hd
  obtain ⟨l, h1, h3, h2⟩ := open_rows (v := .slice a len cap) h hF
  exact ⟨l, ⟨h1, h3⟩, h2⟩
theorem string_of (hval : Value.okWide Tryz.prog W r b0 9 v) (hd : DataW.Trod enc Tryz.prog W 0 (fun _ => true) true 9 v d ps) (hF : Fits 9 d) : ∃ l : List UInt8, l.length ≤ limW ∧ v = SV l := by
  obtain ⟨s, rfl⟩ := okWide_string Tryz.underlying9 hval
  obtain ⟨fuel, h⟩ := hd
  exact open_S (v := .string s) h hF
theorem u8_of (hval : Value.okWide Tryz.prog W r b0 5 v) (hd : DataW.Trod enc Tryz.prog W 0 (fun _ => true) true 5 v d ps) : ∃ n : Nat, n < 256 ∧ v = .int .u8 (n : Int) := by
  obtain ⟨n, rfl, _, _, hw⟩ := open_int Tryz.underlying5 hval hd
  have hn := bounds_u8 hw
  obtain ⟨m, rfl⟩ := Int.eq_ofNat_of_zero_le hn.1
  exact ⟨m, by omega, rfl⟩
end
end Go.Proofs.YtialgldmogigfaaGreatDoor.Ct
