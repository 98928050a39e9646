/-
  What the rows' condition gives; a world that meets it; arguments that read as they did, and what they may be. One entry that comes in.
-/
import Derived.Carry
import Derived.Test.YtgjddkeogboojaaGreatDoorCards
import Derived.Test.YtgjddkeogboojaaGreatDoorTie
import Derived.WalkKit
import Derived.ProofKit
import Derived.OpenShut
import Derived.Deep.DeepHandedRow
import Derived.LaidLaws
import Derived.LaidHandle
import Derived.Stop.LaidErr
import Derived.Stop.LaidTwo
import Derived.Lib.LaidU8
import Derived.Test.YtgjddkeogboojaaGreatDoorX21
import Derived.Test.YtgjddkeogboojaaGreatDoorX27
import Derived.Test.YtgjddkeogboojaaGreatDoorX23
set_option maxHeartbeats 16000000
set_option maxRecDepth 100000
namespace Go.Proofs.YtgjddkeogboojaaGreatDoor.Pl
open Go.Proofs.YtgjddkeogboojaaGreatDoor Go.Proofs.YtgjddkeogboojaaGreatDoor.Pk
open Go Go.ChangeShapes Go.WideShapes Go.ChangeAt Go.RowKit
theorem own : ownKnob Tryz.prog.godebug = none := by kernel_rfl
theorem gTab : Tryz.prog.globalNamed "internal/strconv.uint64pow10" = some 8 := by kernel_rfl
theorem gPr : Tryz.prog.globalNamed "sacristy/digest.primes" = some 1 := by kernel_rfl
theorem gPrT : (Tryz.prog.globals[1]?).map (·.type) = some 200 := by kernel_rfl
theorem zns : Tryz.prog.globalNamed "sacristy/object.errOther" = some 7 := by kernel_rfl
theorem znt : Tryz.prog.globalNamed "sacristy/object.errWrong" = some 4 := by kernel_rfl
theorem gOver : Tryz.prog.globalNamed "sacristy/object.errOver" = some 3 := by kernel_rfl
theorem etG : Tryz.prog.globalNamed "errors.errorType" = some 0 := by kernel_rfl
theorem etR : (Tryz.prog.cutTypes.find? (·.1 == "internal/reflectlite.rtype")).map (·.2) = some 172 := by kernel_rfl
theorem etT : Tryz.prog.types.size = 364 := by kernel_rfl
theorem etOne : ((List.range 364).filter fun t => Tryz.prog.rowNamed t [101, 114, 114, 111, 114]) = [64] := by kernel_rfl
theorem star : "*" ++ "errors.errorString" = "*errors.errorString" := by decide
theorem rowErr (u : TypeId) (h : Tryz.prog.typeName? 3 u = some "*errors.errorString") : u = 336 :=
 typeName_ptr_named (nm := "errors.errorString") (by rw [star]; kernel_rfl) (by kernel_rfl) (by decide) u (by rw [star]; exact h)
theorem tab_data : (Rows.laid_internal_strconv_uint64pow10 : DataW Unit) = Lib.tabData .u64 Lib.pow10Tab := by rfl
def primesD : List (DataW Unit) := match (Rows.laid_sacristy_digest_primes : DataW Unit) with | .agg ds => ds | _ => []
theorem zj0 : (Rows.laid_sacristy_digest_primes : DataW Unit) = .agg primesD := rfl
theorem zfm : primesD.map (fun d => match d with | .lit (.int .u16 n) => n | _ => 0) = (List.range 64).map fun i => (primeN i : Int) := by decide +kernel
theorem prime_of {i : Nat} {n : Int} (hi : i < 64) (h : primesD[i]? = some (.lit (.int .u16 n))) : n = (primeN i : Int) := by
 have h1 := congrArg (·[i]?) zfm
 simpa [List.getElem?_map, h, List.getElem?_range hi] using h1
def laidD : List (String × DataW Unit) := [("math/bits.deBruijn32tab", Rows.laid_math_bits_deBruijn32tab), ("math/bits.deBruijn64tab", Rows.laid_math_bits_deBruijn64tab), ("internal/strconv.uint64pow10", Rows.laid_internal_strconv_uint64pow10), ("sacristy/digest.primes", Rows.laid_sacristy_digest_primes), ("sacristy/object.errOther", Rows.laid_sacristy_object_errOther), ("sacristy/object.errWrong", Rows.laid_sacristy_object_errWrong), ("sacristy/object.errOver", Rows.laid_sacristy_object_errOver)]
def laidL : List (String × DataW Unit) := [("math/bits.deBruijn32tab", Rows.laid_math_bits_deBruijn32tab), ("math/bits.deBruijn64tab", Rows.laid_math_bits_deBruijn64tab), ("internal/strconv.uint64pow10", Rows.laid_internal_strconv_uint64pow10), ("sacristy/digest.primes", Rows.laid_sacristy_digest_primes), ("errors.errorType", Rows.laid_errors_errorType), ("sacristy/object.errOther", Rows.laid_sacristy_object_errOther), ("sacristy/object.errWrong", Rows.laid_sacristy_object_errWrong), ("sacristy/object.errOver", Rows.laid_sacristy_object_errOver)]
theorem z3f {W : World} {n : String} {g : Nat} {v : Value} (hg : Tryz.prog.globalNamed n = some g) (h : W.var? Tryz.prog n = some #[v]) : W.cell? ⟨g, 0, none⟩ = some v := by
 simpa using World.var?_cell hg h 0
theorem et_of {W : World} (h : handlesMet Tryz.prog [("errors.errorType", Rows.laid_errors_errorType)] W) : Et W := by
 obtain ⟨name, u, ty, e1, e2, e3, e4, e5⟩ := h _ (List.mem_singleton.2 rfl)
 have en : name = [101, 114, 114, 111, 114] := (Option.some.inj e1).symm
 subst en
 obtain rfl := Option.some.inj (etR.symm.trans e2)
 have hm : ty ∈ (List.range 364).filter fun t => Tryz.prog.rowNamed t [101, 114, 114, 111, 114] := List.mem_filter.2 ⟨List.mem_range.2 (by rw [← etT]; exact e3), e4⟩
 rw [etOne] at hm
 obtain rfl := List.mem_singleton.1 hm
 have hh : typeHandle Tryz.prog 64 = .pointer (some ⟨11, 64, none⟩) := by kernel_rfl
 rw [hh] at e5
 unfold Et
 simpa using World.var?_cell etG e5 0
theorem pr_of {W : World} (h' : laidMet Tryz.prog laidD W) : Pr W := by
 obtain ⟨g, t, cs, fuel, p, h1, h2, h3, h4⟩ := Lib.laidMet.reads h' (n := "sacristy/digest.primes") (d := Rows.laid_sacristy_digest_primes) (.tail _ (.tail _ (.tail _ (.head _))))
 obtain rfl := Option.some.inj (gPr.symm.trans h1)
 obtain rfl := Option.some.inj (gPrT.symm.trans h2)
 rw [zj0] at h4
 intro i hi
 obtain ⟨fuel', d, q, hd, ht⟩ := Lib.array_elem Tryz.underlying200 h4 i hi
 have c1 : Tryz.prog.cellsOf 33 = 1 := by kernel_rfl
 rw [c1, Nat.mul_one] at ht
 obtain ⟨n, hcs, hx, _⟩ := DataW.trod_int Tryz.underlying33 ht
 have hn : d = .lit (.int .u16 n) := congrArg Prod.fst hx
 subst hn
 rw [prime_of hi hd] at hcs
 have hc : cs[i]? = some (.int .u16 (primeN i : Int)) := by
  have h5 := congrArg (·[0]?) hcs
  simpa [List.getElem?_take, List.getElem?_drop] using h5
 have := World.var?_cell gPr h3 i
 rw [this]
 simpa using hc
theorem zj1 {W : World} (h : laidMetH Tryz.prog laidL W) : Ob W := by
 have h' : laidMet Tryz.prog laidD W ∧ handlesMet Tryz.prog [("errors.errorType", Rows.laid_errors_errorType)] W := h
 have t2 := h'.1.tail.tail
 have t4 := t2.tail.tail
 obtain ⟨ao, aw, so, sw, co, cw, ty0, ty1, ho, hw, _, _, _, _, _, _, hne, hbo, hbw⟩ := laid_sentinels2 (g0 := 7) (g1 := 4) t4 zns (by kernel_rfl) znt (by kernel_rfl) Tryz.underlying64 rowErr Tryz.underlying336 Tryz.underlying354 rfl rfl Tryz.underlying9 (by kernel_rfl) (by kernel_rfl)
 obtain ⟨av, sv, hv, _⟩ := laid_sentinel (g := 3) t4.tail.tail gOver (by kernel_rfl) Tryz.underlying64 rowErr Tryz.underlying336 Tryz.underlying354 rfl rfl Tryz.underlying9 (by kernel_rfl) (by kernel_rfl)
 refine ⟨⟨⟨⟨_, z3f gOver hv⟩, ⟨aw, ao, fun e => hne e.symm, z3f znt hw, z3f zns ho⟩, et_of h'.2⟩, ⟨aw, ao, cw, co, ty1, ty0, fun e => hne e.symm, z3f znt hw, z3f zns ho, hbw, hbo⟩⟩, ?_, pr_of h'.1⟩
 rw [tab_data] at t2
 exact Lib.tabIs_of_head gTab (by kernel_rfl) Tryz.underlying310 Tryz.underlying111 (by kernel_rfl) (by kernel_rfl) t2
theorem zj2 {W : World} (h : laidMetH Tryz.prog laidL W) : Wd W := by
 have h' : laidMet Tryz.prog laidD W ∧ handlesMet Tryz.prog [("errors.errorType", Rows.laid_errors_errorType)] W := h
 exact ⟨zj1 h, et_of h'.2⟩
noncomputable def low : Nat := (World.holding Tryz.prog default ⟨#[], #[], []⟩).heap.size
def zha : DataW Unit → List Value
 | .agg ds => ds.map fun d => match d with | .lit (.int k n) => .int k n | _ => .nilIface
 | _ => []
def textOf : DataW Unit → ByteArray
 | .iface _ (.ptr (.agg [.lit (.string s)])) => ⟨s.toArray⟩
 | _ => ⟨#[]⟩
def setCells (cs : List Value) : Obj → Obj
 | .cells _ t frozen => .cells cs.toArray t frozen
 | o => o
noncomputable def z9p (os : Os) : World :=
 let w0 := World.holding Tryz.prog os ⟨#[.cells #[.string (textOf Rows.laid_sacristy_object_errOther)] 354, .cells #[.string (textOf Rows.laid_sacristy_object_errWrong)] 354, .cells #[.string (textOf Rows.laid_sacristy_object_errOver)] 354], #[], []⟩
 { w0 with heap := ((((((((w0.heap.modify 7 (setCells [.iface 336 (.pointer (some ⟨low, 0, none⟩))])).modify 4 (setCells [.iface 336 (.pointer (some ⟨low + 1, 0, none⟩))])).modify 3 (setCells [.iface 336 (.pointer (some ⟨low + 2, 0, none⟩))])).modify
    8 (setCells (zha Rows.laid_internal_strconv_uint64pow10))).modify 9 (setCells (zha Rows.laid_math_bits_deBruijn32tab))).modify 10 (setCells (zha Rows.laid_math_bits_deBruijn64tab))).modify 1 (setCells (zha Rows.laid_sacristy_digest_primes))).modify 0 (setCells [.iface 172 (.agg #[.pointer (some ⟨11, 64, none⟩)])])) }
theorem laid_met (os : Os) (args : Array Value) : laidMetH Tryz.prog laidL ((z9p os).forCall (fun _ _ => 0) ⟨#[], args, []⟩).memory :=
 laidMetH_of_parts (laidMet_of_run' 8 (by kernel_rfl) (by kernel_rfl)) (by kernel_rfl)
theorem laid_out : laidOutB Tryz.prog = true := by kernel_rfl
theorem z6r {H : Type} {enc : TypeId × Value → H} {W W' : World} (hb : Below W.heap.size W W') : ∀ {ts : List TypeId} {vs : List Value} {ds : List (DataW H)} {ps : List MemPlace},
 (∀ t ∈ ts, Tryz.prog.readableRec t = true ∧ t < Tryz.prog.types.size) → DataW.TrodAll enc Tryz.prog W 0 (fun _ => true) true ts vs ds ps → (∀ x ∈ ps, x.block < W.heap.size) → DataW.TrodAll enc Tryz.prog W' 0 (fun b => decide (b < W.heap.size)) true ts vs ds ps
 | [], [], [], _, _, h, _ => h
 | _ :: _, _ :: _, _ :: _, _, hT, ⟨p, q, h1, h2, e⟩, hs =>
   ⟨p, q, Below.trod laid_out (hT _ (List.mem_cons.2 (Or.inl rfl))).1 (hT _ (List.mem_cons.2 (Or.inl rfl))).2 h1 hb (fun x hx => hs x (by rw [e]; exact List.mem_append_left _ hx)),
     z6r hb (fun t ht => hT t (List.mem_cons.2 (Or.inr ht))) h2 (fun x hx => hs x (by rw [e]; exact List.mem_append_right _ hx)), e⟩
theorem fits_of {H : Type} {ts : List TypeId} {ds : List (DataW H)} (h : (DataW.weightsEach Tryz.prog ts ds).all (· ≤ reachBytes) = true) {j : Nat} {t : TypeId} {d : DataW H} (ht : ts[j]? = some t) (hd : ds[j]? = some d) : Fits t d := fun n hn => by
 simpa using List.all_eq_true.1 h _ (DataW.weights_mem_each ht hd n hn)
section
variable {H : Type} {enc : TypeId × Value → H} {W : World} {r : Go.Reach} {b0 : Nat} {v : Value} {d : DataW H} {ps : List MemPlace}
theorem objs_of (hval : Value.okWide Tryz.prog W r b0 35 v) (hd : DataW.Trod enc Tryz.prog W 0 (fun _ => true) true 35 v d ps) (hF : Fits 35 d) : ∃ l : List (Int × Bs), l.length ≤ limW ∧ ObjsR W v l := by
 obtain ⟨a, len, cap, rfl⟩ := okWide_slice Tryz.underlying35 hval
 obtain ⟨fuel, h⟩ := hd
 exact zn1 (v := .slice a len cap) h hF
theorem u8_of (hval : Value.okWide Tryz.prog W r b0 5 v) (hd : DataW.Trod enc Tryz.prog W 0 (fun _ => true) true 5 v d ps) : ∃ n : Nat, n < 256 ∧ v = .int .u8 (n : Int) := by
 obtain ⟨n, rfl, _, _, hw⟩ := open_int Tryz.underlying5 hval hd
 have hn := bounds_u8 hw
 obtain ⟨m, rfl⟩ := Int.eq_ofNat_of_zero_le hn.1
 exact ⟨m, by omega, rfl⟩
end
end Go.Proofs.YtgjddkeogboojaaGreatDoor.Pl
