/-
  What the rows' condition gives; a world that meets it; arguments that read as they did, and what they may be.
-/
import Derived.Carry
import Derived.SizedLaws
import Derived.Test.YtnboagmibhllpaaGreatDoorCards
import Derived.Test.YtnboagmibhllpaaGreatDoorTie
import Derived.WalkKit
import Derived.ProofKit
import Derived.OpenShut
import Derived.Deep.DeepHandedRow
import Derived.LaidLaws
import Derived.LaidHandle
import Derived.Stop.LaidErr
import Derived.Stop.LaidTwo
import Derived.Lib.LaidU8
import Derived.Test.YtnboagmibhllpaaGreatDoorC20

namespace Go.Proofs.YtnboagmibhllpaaGreatDoor.Ro
open Go.Proofs.YtnboagmibhllpaaGreatDoor
open Go Go.ChangeShapes Go.WideShapes Go.ChangeAt Go.RowKit

theorem own : ownKnob Tryz.prog.godebug = none := by kernel_rfl
theorem gTab : Tryz.prog.globalNamed "internal/strconv.uint64pow10" = some 5 := by kernel_rfl
theorem gSyn : Tryz.prog.globalNamed "strconv.ErrSyntax" = some 6 := by kernel_rfl
theorem gRng : Tryz.prog.globalNamed "strconv.ErrRange" = some 7 := by kernel_rfl
theorem g_errEnd : Tryz.prog.globalNamed "sacristy/root.errEnd" = some 3 := by kernel_rfl
theorem g_errMore : Tryz.prog.globalNamed "sacristy/root.errMore" = some 2 := by kernel_rfl
theorem g_errForm : Tryz.prog.globalNamed "sacristy/root.errForm" = some 0 := by kernel_rfl
theorem g_errWrong : Tryz.prog.globalNamed "sacristy/root.errWrong" = some 1 := by kernel_rfl
theorem star : "*" ++ "errors.errorString" = "*errors.errorString" := by decide
theorem rowErr (u : TypeId) (h : Tryz.prog.typeName? 3 u = some "*errors.errorString") : u = 206 :=
  typeName_ptr_named (nm := "errors.errorString") (by rw [star]; kernel_rfl) (by kernel_rfl) (by decide) u (by rw [star]; exact h)
theorem tab_data : (Rows.laid_internal_strconv_uint64pow10 : DataW Unit) = Lib.tabData .u64 Lib.pow10Tab := by rfl
def laidL : List (String × DataW Unit) := [("math/bits.deBruijn32tab", Rows.laid_math_bits_deBruijn32tab), ("math/bits.deBruijn64tab", Rows.laid_math_bits_deBruijn64tab), ("internal/strconv.uint64pow10", Rows.laid_internal_strconv_uint64pow10), ("unicode/utf8.acceptRanges", Rows.laid_unicode_utf8_acceptRanges), ("strconv.ErrRange", Rows.laid_strconv_ErrRange), ("strconv.ErrSyntax", Rows.laid_strconv_ErrSyntax), ("sacristy/root.errEnd", Rows.laid_sacristy_root_errEnd), ("sacristy/root.errMore", Rows.laid_sacristy_root_errMore), ("sacristy/root.errForm", Rows.laid_sacristy_root_errForm), ("sacristy/root.errWrong", Rows.laid_sacristy_root_errWrong), ("unicode/utf8.first", Rows.laid_unicode_utf8_first)]
theorem cell_of_var {W : World} {n : String} {g : Nat} {v : Value} (hg : Tryz.prog.globalNamed n = some g) (h : W.var? Tryz.prog n = some #[v]) : W.cell? ⟨g, 0, none⟩ = some v := by
  simpa using World.var?_cell hg h 0
theorem text_ne {W : World} {a b : Addr} {s t : ByteArray} {x y : List UInt8} (ha : W.cell? a = some (.string s)) (hb : W.cell? b = some (.string t)) (hs : s.data.toList = x) (ht : t.data.toList = y) (h : x ≠ y) : a ≠ b := fun e => by
  subst e
  rw [ha] at hb
  cases hb
  exact h (hs.symm.trans ht)
set_option maxRecDepth 100000 in
theorem pr_of_laid {W : World} (h : laidMetH Tryz.prog laidL W) : (∃ E : ErA, PrA E W) ∧ Tb W := by
  have h' : laidMet Tryz.prog laidL W := h
  have t2 := h'.tail.tail
  have t5 := t2.tail.tail
  have t7 := t5.tail.tail
  have hTb : Tb W := by
    rw [tab_data] at t2
    exact Lib.tabIs_of_head gTab (by kernel_rfl) Tryz.underlying184 Tryz.underlying92 (by kernel_rfl) (by kernel_rfl) t2
  have hsyn := laid_sentinel (g := 6) t5.tail gSyn (by kernel_rfl) Tryz.underlying55 rowErr Tryz.underlying206 Tryz.underlying208 rfl rfl Tryz.underlying9 (by kernel_rfl) (by kernel_rfl)
  have hrng := laid_sentinel (g := 7) t5 gRng (by kernel_rfl) Tryz.underlying55 rowErr Tryz.underlying206 Tryz.underlying208 rfl rfl Tryz.underlying9 (by kernel_rfl) (by kernel_rfl)
  obtain ⟨aE, aM, sE, sM, cE, cM, tE, tM, hE, hM, xE, yE, _, xM, yM, _, neEM, bE, bM⟩ := laid_sentinels2 (g0 := 3) (g1 := 2) t7 g_errEnd (by kernel_rfl) g_errMore (by kernel_rfl) Tryz.underlying55 rowErr Tryz.underlying206 Tryz.underlying208 rfl rfl Tryz.underlying9 (by kernel_rfl) (by kernel_rfl)
  obtain ⟨aF, aW, sF, sW, cF, cW, tF, tW, hF, hW, xF, yF, _, xW, yW, _, neFW, bF, bW⟩ := laid_sentinels2 (g0 := 0) (g1 := 1) t7.tail.tail g_errForm (by kernel_rfl) g_errWrong (by kernel_rfl) Tryz.underlying55 rowErr Tryz.underlying206 Tryz.underlying208 rfl rfl Tryz.underlying9 (by kernel_rfl) (by kernel_rfl)
  refine ⟨⟨⟨aF, aW, aM, aE⟩, ⟨?_, ?_⟩⟩, hTb⟩
  · refine ⟨hTb, ?_, ?_⟩
    · obtain ⟨a, s, hv, -, -, -⟩ := hsyn
      exact ⟨_, cell_of_var gSyn hv, .inr ⟨_, _, rfl⟩⟩
    · obtain ⟨a, s, hv, -, -, -⟩ := hrng
      exact ⟨_, cell_of_var gRng hv, .inr ⟨_, _, rfl⟩⟩
  · exact ⟨cell_of_var g_errForm hF, cell_of_var g_errWrong hW, cell_of_var g_errMore hM, cell_of_var g_errEnd hE, ⟨_, _, bF⟩, ⟨_, _, bW⟩, ⟨_, _, bM⟩, ⟨_, _, bE⟩,
      text_ne xF xE yF yE (by decide), text_ne xW xE yW yE (by decide), fun e => neEM e.symm⟩

/-- A world that meets the condition. -/
noncomputable def low : Nat := (World.holding Tryz.prog default ⟨#[], #[], []⟩).heap.size
def litsOf : DataW Unit → List Value
  | .agg ds => ds.map fun d => match d with | .lit (.int k n) => .int k n | _ => .nilIface
  | _ => []
def pairsOf : DataW Unit → List Value
  | .agg ds => ds.flatMap litsOf
  | _ => []
def textOf : DataW Unit → ByteArray
  | .iface _ (.ptr (.agg [.lit (.string s)])) => ⟨s.toArray⟩
  | _ => ⟨#[]⟩
def setCells (cs : List Value) : Obj → Obj
  | .cells _ t frozen => .cells cs.toArray t frozen
  | o => o
noncomputable def laidWorld (os : Os) : World :=
  let w0 := World.holding Tryz.prog os ⟨#[.cells #[.string (textOf Rows.laid_strconv_ErrRange)] 208, .cells #[.string (textOf Rows.laid_strconv_ErrSyntax)] 208, .cells #[.string (textOf Rows.laid_sacristy_root_errEnd)] 208, .cells #[.string (textOf Rows.laid_sacristy_root_errMore)] 208, .cells #[.string (textOf Rows.laid_sacristy_root_errForm)] 208, .cells #[.string (textOf Rows.laid_sacristy_root_errWrong)] 208], #[], []⟩
  { w0 with heap := (((((((((((w0.heap.modify 7 (setCells [.iface 206 (.pointer (some ⟨low + 0, 0, none⟩))])).modify 6 (setCells [.iface 206 (.pointer (some ⟨low + 1, 0, none⟩))])).modify 3 (setCells [.iface 206 (.pointer (some ⟨low + 2, 0, none⟩))])).modify 2 (setCells [.iface 206 (.pointer (some ⟨low + 3, 0, none⟩))])).modify 0 (setCells [.iface 206 (.pointer (some ⟨low + 4, 0, none⟩))])).modify 1 (setCells [.iface 206 (.pointer (some ⟨low + 5, 0, none⟩))])).modify 5 (setCells (litsOf Rows.laid_internal_strconv_uint64pow10))).modify 8 (setCells (litsOf Rows.laid_math_bits_deBruijn32tab))).modify 9 (setCells (litsOf Rows.laid_math_bits_deBruijn64tab))).modify 10 (setCells (litsOf Rows.laid_unicode_utf8_first))).modify 11 (setCells (pairsOf Rows.laid_unicode_utf8_acceptRanges))) }
theorem laid_met (os : Os) (args : Array Value) : laidMetH Tryz.prog laidL ((laidWorld os).forCall (fun _ _ => 0) ⟨#[], args, []⟩).memory :=
  laidMetH_of_parts (laidMet_of_run' 8 (by kernel_rfl) (by kernel_rfl)) (by kernel_rfl)

theorem laid_out : laidOutB Tryz.prog = true := by kernel_rfl

/-- The arguments read as they did, where nothing below has turned. -/
theorem below_trodAll {H : Type} {enc : TypeId × Value → H} {W W' : World} (hb : Below W.heap.size W W') : ∀ {ts : List TypeId} {vs : List Value} {ds : List (DataW H)} {ps : List MemPlace},
    (∀ t ∈ ts, Tryz.prog.readableRec t = true ∧ t < Tryz.prog.types.size) → DataW.TrodAll enc Tryz.prog W 0 (fun _ => true) true ts vs ds ps → (∀ x ∈ ps, x.block < W.heap.size) → DataW.TrodAll enc Tryz.prog W' 0 (fun b => decide (b < W.heap.size)) true ts vs ds ps
  | [], [], [], _, _, h, _ => h
  | _ :: _, _ :: _, _ :: _, _, hT, ⟨p, q, h1, h2, e⟩, hs =>
    ⟨p, q, Below.trod laid_out (hT _ (List.mem_cons.2 (Or.inl rfl))).1 (hT _ (List.mem_cons.2 (Or.inl rfl))).2 h1 hb (fun x hx => hs x (by rw [e]; exact List.mem_append_left _ hx)),
      below_trodAll hb (fun t ht => hT t (List.mem_cons.2 (Or.inr ht))) h2 (fun x hx => hs x (by rw [e]; exact List.mem_append_right _ hx)), e⟩

section
variable {H : Type} {enc : TypeId × Value → H} {W : World} {r : Reach} {b0 : Nat} {v : Value} {d : DataW H} {ps : List MemPlace}
set_option maxRecDepth 100000
theorem u8_of (hval : Value.okWide Tryz.prog W r b0 5 v) (hd : DataW.Trod enc Tryz.prog W 0 (fun _ => true) true 5 v d ps) : ∃ c : UInt8, v = .int .u8 (c.toNat : Int) := by
  obtain ⟨n, rfl, _, _, hw⟩ := open_int Tryz.underlying5 hval hd
  have hn := bounds_u8 hw
  obtain ⟨m, rfl⟩ := Int.eq_ofNat_of_zero_le hn.1
  exact ⟨UInt8.ofNat m, by rw [UInt8.toNat_ofNat', Nat.mod_eq_of_lt (by omega)]⟩
theorem string_of (hval : Value.okWide Tryz.prog W r b0 9 v) : ∃ l : List UInt8, l.length ≤ maxLen ∧ v = SV l := by
  obtain ⟨s, rfl⟩ := okWide_string Tryz.underlying9 hval
  have h2 : IntKind.i64.max = 9223372036854775807 := rfl
  have h3 : (s.size : Int) ≤ IntKind.i64.max := by simpa [Value.okWide, Cell.okWide, Cell.ok, Tryz.underlying9] using hval
  refine ⟨s.data.toList, ?_, rfl⟩
  have h4 : s.data.toList.length = s.size := rfl
  unfold maxLen
  omega
end
end Go.Proofs.YtnboagmibhllpaaGreatDoor.Ro
