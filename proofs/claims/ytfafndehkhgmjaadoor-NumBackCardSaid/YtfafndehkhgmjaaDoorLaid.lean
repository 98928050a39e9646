/-
  What the rows' condition gives; a world that meets it; arguments that read as they did, and what they may be.
-/
import Derived.Test.YtfafndehkhgmjaaDoorHead
import Derived.Carry
import Derived.SizedLaws
import Derived.Test.YtfafndehkhgmjaaDoorCards
import Derived.Test.YtfafndehkhgmjaaDoorTie
import Derived.WalkKit
import Derived.ProofKit
import Derived.OpenShut
import Derived.Deep.DeepHandedRow
import Derived.LaidLaws
import Derived.LaidHandle
import Derived.Stop.LaidErr
import Derived.Lib.LaidU8
namespace Go.Proofs.YtfafndehkhgmjaaDoor
open Go Go.ChangeShapes Go.WideShapes Go.ChangeAt Go.RowKit

theorem own : ownKnob Tryd.prog.godebug = none := by kernel_rfl
theorem gTab : Tryd.prog.globalNamed "internal/strconv.uint64pow10" = some 2 := by kernel_rfl
theorem gSyn : Tryd.prog.globalNamed "strconv.ErrSyntax" = some 0 := by kernel_rfl
theorem gRng : Tryd.prog.globalNamed "strconv.ErrRange" = some 1 := by kernel_rfl
theorem star : "*" ++ "errors.errorString" = "*errors.errorString" := by decide
theorem rowErr (u : TypeId) (h : Tryd.prog.typeName? 3 u = some "*errors.errorString") : u = 66 :=
  typeName_ptr_named (nm := "errors.errorString") (by rw [star]; kernel_rfl) (by kernel_rfl) (by decide) u (by rw [star]; exact h)
theorem tab_data : (Rows.laid_internal_strconv_uint64pow10 : DataW Unit) = Lib.tabData .u64 Lib.pow10Tab := by rfl

def laidL : List (String × DataW Unit) := [("math/bits.deBruijn32tab", Rows.laid_math_bits_deBruijn32tab), ("math/bits.deBruijn64tab", Rows.laid_math_bits_deBruijn64tab), ("internal/strconv.uint64pow10", Rows.laid_internal_strconv_uint64pow10), ("strconv.ErrRange", Rows.laid_strconv_ErrRange), ("strconv.ErrSyntax", Rows.laid_strconv_ErrSyntax)]

theorem cell_of_var {W : World} {n : String} {g : Nat} {v : Value} (hg : Tryd.prog.globalNamed n = some g) (h : W.var? Tryd.prog n = some #[v]) : W.cell? ⟨g, 0, none⟩ = some v := by
  simpa using World.var?_cell hg h 0

set_option maxRecDepth 100000 in
theorem pr_of_laid {W : World} (h : laidMetH Tryd.prog laidL W) : Pr W := by
  have h' : laidMet Tryd.prog laidL W := h
  have t2 := h'.tail.tail
  refine ⟨?_, ?_, ?_⟩
  · rw [tab_data] at t2
    exact Lib.tabIs_of_head gTab (by kernel_rfl) Tryd.underlying71 Tryd.underlying50 (by kernel_rfl) (by kernel_rfl) t2
  · obtain ⟨a, s, hv, -, -, -⟩ := laid_sentinel (g := 0) t2.tail.tail gSyn (by kernel_rfl) Tryd.underlying38 rowErr Tryd.underlying66 Tryd.underlying68 rfl rfl Tryd.underlying9 (by kernel_rfl) (by kernel_rfl)
    exact ⟨_, cell_of_var gSyn hv, .inr ⟨_, _, rfl⟩⟩
  · obtain ⟨a, s, hv, -, -, -⟩ := laid_sentinel (g := 1) t2.tail gRng (by kernel_rfl) Tryd.underlying38 rowErr Tryd.underlying66 Tryd.underlying68 rfl rfl Tryd.underlying9 (by kernel_rfl) (by kernel_rfl)
    exact ⟨_, cell_of_var gRng hv, .inr ⟨_, _, rfl⟩⟩

/-- A world that meets the condition. -/
noncomputable def low : Nat := (World.holding Tryd.prog default ⟨#[], #[], []⟩).heap.size
def litsOf : DataW Unit → List Value
  | .agg ds => ds.map fun d => match d with | .lit (.int k n) => .int k n | _ => .nilIface
  | _ => []
def synS : ByteArray := ⟨#[105, 110, 118, 97, 108, 105, 100, 32, 115, 121, 110, 116, 97, 120]⟩
def rngS : ByteArray := ⟨#[118, 97, 108, 117, 101, 32, 111, 117, 116, 32, 111, 102, 32, 114, 97, 110, 103, 101]⟩
def setCells (cs : List Value) : Obj → Obj
  | .cells _ t frozen => .cells cs.toArray t frozen
  | o => o
noncomputable def laidWorld (os : Os) : World :=
  let w0 := World.holding Tryd.prog os ⟨#[.cells #[.string synS] 68, .cells #[.string rngS] 68], #[], []⟩
  { w0 with heap := ((((w0.heap.modify 0 (setCells [.iface 66 (.pointer (some ⟨low, 0, none⟩))])).modify 1 (setCells [.iface 66 (.pointer (some ⟨low + 1, 0, none⟩))])).modify
      2 (setCells (litsOf Rows.laid_internal_strconv_uint64pow10))).modify 3 (setCells (litsOf Rows.laid_math_bits_deBruijn32tab))).modify 4 (setCells (litsOf Rows.laid_math_bits_deBruijn64tab)) }
theorem laid_met (os : Os) (args : Array Value) : laidMetH Tryd.prog laidL ((laidWorld os).forCall (fun _ _ => 0) ⟨#[], args, []⟩).memory :=
  laidMetH_of_parts (laidMet_of_run' 8 (by kernel_rfl) (by kernel_rfl)) (by kernel_rfl)

theorem laid_out : laidOutB Tryd.prog = true := by kernel_rfl

/-- The arguments read as they did, where nothing below has turned. -/
theorem below_trodAll {H : Type} {enc : TypeId × Value → H} {W W' : World} (hb : Below W.heap.size W W') : ∀ {ts : List TypeId} {vs : List Value} {ds : List (DataW H)} {ps : List MemPlace},
    (∀ t ∈ ts, Tryd.prog.readableRec t = true ∧ t < Tryd.prog.types.size) → DataW.TrodAll enc Tryd.prog W 0 (fun _ => true) true ts vs ds ps → (∀ x ∈ ps, x.block < W.heap.size) → DataW.TrodAll enc Tryd.prog W' 0 (fun b => decide (b < W.heap.size)) true ts vs ds ps
  | [], [], [], _, _, h, _ => h
  | _ :: _, _ :: _, _ :: _, _, hT, ⟨p, q, h1, h2, e⟩, hs =>
    ⟨p, q, Below.trod laid_out (hT _ (List.mem_cons.2 (Or.inl rfl))).1 (hT _ (List.mem_cons.2 (Or.inl rfl))).2 h1 hb (fun x hx => hs x (by rw [e]; exact List.mem_append_left _ hx)),
      below_trodAll hb (fun t ht => hT t (List.mem_cons.2 (Or.inr ht))) h2 (fun x hx => hs x (by rw [e]; exact List.mem_append_right _ hx)), e⟩

section
variable {H : Type} {enc : TypeId × Value → H} {W : World} {r : Reach} {b0 : Nat} {v : Value} {d : DataW H} {ps : List MemPlace}
set_option maxRecDepth 100000

theorem h00sp {g o : Nat} {sp : Option Nat} {x : Value} (h : W.cell? ((⟨g, o, sp⟩ : Addr).add 0) = some x) : W.cell? ⟨g, o, sp⟩ = some x := by
  have : (⟨g, o, sp⟩ : Addr).add 0 = ⟨g, o, sp⟩ := by simp [Addr.add]
  rwa [this] at h

theorem bytes_of (hval : Value.okWide Tryd.prog W r b0 22 v) (hd : DataW.Trod enc Tryd.prog W 0 (fun _ => true) true 22 v d ps) : ∃ l : List UInt8, l.length ≤ maxLen ∧ Rb W v l := by
  obtain ⟨a, len, cap, rfl⟩ := okWide_slice Tryd.underlying22 hval
  obtain ⟨fuel, h⟩ := hd
  rcases open_ints Tryd.underlying22 Tryd.underlying5 (by kernel_rfl) h with ⟨h0, _⟩ | ⟨a, len, cap, zs, h0, _, hle, hm, hz, _, hc, hw⟩
  · cases h0
    exact ⟨[], by simp, .inl ⟨⟨none, rfl⟩, rfl⟩⟩
  · cases h0
    rw [if_pos rfl] at hz
    by_cases h00 : cap = 0
    · have : len = 0 := by omega
      subst this; subst h00
      exact ⟨[], by simp, .inl ⟨⟨some a, rfl⟩, rfl⟩⟩
    · obtain ⟨g, o, sp⟩ := a
      have hsp : sp = none := cell_spot (h00sp (hc 0 (by omega)))
      subst hsp
      have hcell : ∀ i, i < cap → W.cell? ⟨g, o + i, none⟩ = some (.int .u8 (zs.getD i 0)) := fun i hi => by
        have := hc i (by omega)
        rwa [add_none] at this
      have hby : ∀ i, i < cap → zs.getD i 0 = (((zs.map fun z => UInt8.ofNat z.toNat).getD i 0).toNat : Int) := fun i hi => by
        rw [List.getD_eq_getElem?_getD, List.getD_eq_getElem?_getD, List.getElem?_map, List.getElem?_eq_getElem (by omega)]
        have := bounds_u8 (hw _ (List.getElem_mem (show i < zs.length by omega)))
        simp
        omega
      refine ⟨(zs.map fun z => UInt8.ofNat z.toNat).take len, by rw [List.length_take, List.length_map]; omega, .inr ⟨g, o, cap, ?_, ?_, ?_, fun j hj => ?_⟩⟩
      · rw [List.length_take, List.length_map, hz, Nat.min_eq_left hle]
      · rw [List.length_take, List.length_map]; omega
      · have := block_lt_of_cell (hcell 0 (by omega)); exact this
      · rw [List.length_take, List.length_map] at hj
        rw [hcell j (by omega), hby j (by omega)]
        congr 3
        rw [List.getD_eq_getElem?_getD, List.getD_eq_getElem?_getD, List.getElem?_take, if_pos (by omega)]
theorem u8_of (hval : Value.okWide Tryd.prog W r b0 5 v) (hd : DataW.Trod enc Tryd.prog W 0 (fun _ => true) true 5 v d ps) : ∃ c : UInt8, v = .int .u8 (c.toNat : Int) := by
  obtain ⟨n, rfl, _, _, hw⟩ := open_int Tryd.underlying5 hval hd
  have hn := bounds_u8 hw
  obtain ⟨m, rfl⟩ := Int.eq_ofNat_of_zero_le hn.1
  exact ⟨UInt8.ofNat m, by rw [UInt8.toNat_ofNat', Nat.mod_eq_of_lt (by omega)]⟩
theorem u32_of (hval : Value.okWide Tryd.prog W r b0 31 v) (hd : DataW.Trod enc Tryd.prog W 0 (fun _ => true) true 31 v d ps) : ∃ n : Nat, n < 4294967296 ∧ v = .int .u32 (n : Int) := by
  obtain ⟨n, rfl, _, _, hw⟩ := open_int Tryd.underlying31 hval hd
  have h := bounds_u32 hw
  obtain ⟨m, rfl⟩ := Int.eq_ofNat_of_zero_le h.1
  exact ⟨m, by omega, rfl⟩
theorem int_of (hval : Value.okWide Tryd.prog W r b0 3 v) (hd : DataW.Trod enc Tryd.prog W 0 (fun _ => true) true 3 v d ps) : ∃ n : Int, (-9223372036854775808 ≤ n ∧ n ≤ 9223372036854775807) ∧ v = .int .i64 n := by
  obtain ⟨n, rfl, _, _, hw⟩ := open_int Tryd.underlying3 hval hd
  exact ⟨n, bounds_i64 hw, rfl⟩
theorem string_of (hval : Value.okWide Tryd.prog W r b0 9 v) : ∃ l : List UInt8, l.length ≤ maxLen ∧ v = SV l := by
  obtain ⟨s, rfl⟩ := okWide_string Tryd.underlying9 hval
  have h2 : IntKind.i64.max = 9223372036854775807 := rfl
  have h3 : (s.size : Int) ≤ IntKind.i64.max := by simpa [Value.okWide, Cell.okWide, Cell.ok, Tryd.underlying9] using hval
  refine ⟨s.data.toList, ?_, rfl⟩
  have h4 : s.data.toList.length = s.size := rfl
  unfold maxLen
  omega
end
end Go.Proofs.YtfafndehkhgmjaaDoor
