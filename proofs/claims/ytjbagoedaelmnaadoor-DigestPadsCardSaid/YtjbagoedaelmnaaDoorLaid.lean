/-
  What the rows' condition gives; a world that meets it; arguments that read as they did; slices of bytes as they come in.
-/
import Derived.Test.YtjbagoedaelmnaaDoorSum
import Derived.Carry
import Derived.SizedLaws
import Derived.Test.YtjbagoedaelmnaaDoorCards
import Derived.Test.YtjbagoedaelmnaaDoorTie
import Derived.WalkKit
import Derived.ProofKit
import Derived.OpenShut
import Derived.Deep.DeepHandedRow
import Derived.LaidLaws
import Derived.LaidHandle
import Derived.Lib.LaidU8
namespace Go.Proofs.YtjbagoedaelmnaaDoor
open Go Go.ChangeShapes Go.WideShapes Go.ChangeAt Go.RowKit

theorem own : ownKnob Tryd.prog.godebug = none := by kernel_rfl
theorem prG : Tryd.prog.globalNamed "sacristy/digest.primes" = some 0 := by kernel_rfl

theorem prT : (Tryd.prog.globals[0]?).map (·.type) = some 61 := by kernel_rfl

def primesD : List (DataW Unit) := match (Rows.laid_sacristy_digest_primes : DataW Unit) with | .agg ds => ds | _ => []
theorem primesD_eq : (Rows.laid_sacristy_digest_primes : DataW Unit) = .agg primesD := rfl
theorem primes_data : primesD.map (fun d => match d with | .lit (.int .u16 n) => n | _ => 0) = (List.range 64).map fun i => (primeN i : Int) := by decide +kernel

theorem prime_of {i : Nat} {n : Int} (hi : i < 64) (h : primesD[i]? = some (.lit (.int .u16 n))) : n = (primeN i : Int) := by
  have h1 := congrArg (·[i]?) primes_data
  simpa [List.getElem?_map, h, List.getElem?_range hi] using h1

theorem pr_of_laid {W : World} (h : laidMetH Tryd.prog [("sacristy/digest.primes", Rows.laid_sacristy_digest_primes)] W) : Pr W := by
  have h' : laidMet Tryd.prog [("sacristy/digest.primes", Rows.laid_sacristy_digest_primes)] W := h
  obtain ⟨g, t, cs, fuel, p, h1, h2, h3, h4⟩ := Lib.laidMet.reads h' (List.mem_singleton.2 rfl)
  obtain rfl := Option.some.inj (prG.symm.trans h1)
  obtain rfl := Option.some.inj (prT.symm.trans h2)
  rw [primesD_eq] at h4
  intro i hi
  obtain ⟨fuel', d, q, hd, ht⟩ := Lib.array_elem Tryd.underlying61 h4 i hi
  have c1 : Tryd.prog.cellsOf 60 = 1 := by kernel_rfl
  rw [c1, Nat.mul_one] at ht
  obtain ⟨n, hcs, hx, _⟩ := DataW.trod_int Tryd.underlying60 ht
  have hn : d = .lit (.int .u16 n) := congrArg Prod.fst hx
  subst hn
  rw [prime_of hi hd] at hcs
  have hc : cs[i]? = some (.int .u16 (primeN i : Int)) := by
    have h5 := congrArg (·[0]?) hcs
    simpa [List.getElem?_take, List.getElem?_drop] using h5
  have := World.var?_cell prG h3 i
  rw [this]
  simpa using hc

/-- A world that meets the condition. -/
noncomputable def laidWorld (os : Os) : World :=
  { World.holding Tryd.prog os ⟨#[], #[], []⟩ with heap := (World.holding Tryd.prog os ⟨#[], #[], []⟩).heap.modify 0 fun
      | .cells _ t frozen => .cells (primesL.map fun (n : Nat) => Value.int .u16 (n : Int)).toArray t frozen
      | o => o }
theorem laid_met (os : Os) (args : Array Value) : laidMetH Tryd.prog [("sacristy/digest.primes", Rows.laid_sacristy_digest_primes)] ((laidWorld os).forCall (fun _ _ => 0) ⟨#[], args, []⟩).memory :=
  laidMetH_of_parts (laidMet_of_run' 8 (by kernel_rfl) (by kernel_rfl)) (by kernel_rfl)

theorem laid_out : laidOutB Tryd.prog = true := by kernel_rfl

/-- The arguments read as they did, where nothing below has turned. -/
theorem below_trodAll {H : Type} {enc : TypeId × Value → H} {W W' : World} (hb : Below W.heap.size W W') : ∀ {ts : List TypeId} {vs : List Value} {ds : List (DataW H)} {ps : List MemPlace},
    (∀ t ∈ ts, Tryd.prog.readableRec t = true ∧ t < Tryd.prog.types.size) → DataW.TrodAll enc Tryd.prog W 0 (fun _ => true) true ts vs ds ps → (∀ x ∈ ps, x.block < W.heap.size) → DataW.TrodAll enc Tryd.prog W' 0 (fun b => decide (b < W.heap.size)) true ts vs ds ps
  | [], [], [], _, _, h, _ => h
  | _ :: _, _ :: _, _ :: _, _, hT, ⟨p, q, h1, h2, e⟩, hs =>
    ⟨p, q, Below.trod laid_out (hT _ (List.mem_cons.2 (Or.inl rfl))).1 (hT _ (List.mem_cons.2 (Or.inl rfl))).2 h1 hb (fun x hx => hs x (by rw [e]; exact List.mem_append_left _ hx)),
      below_trodAll hb (fun t ht => hT t (List.mem_cons.2 (Or.inr ht))) h2 (fun x hx => hs x (by rw [e]; exact List.mem_append_right _ hx)), e⟩

section
variable {H : Type} {enc : TypeId × Value → H} {W : World} {r : Reach} {b0 : Nat} {v : Value} {d : DataW H} {ps : List MemPlace}
set_option maxRecDepth 100000

theorem h00sp {g o : Nat} {sp : Option Nat} {x : Value} (h : W.cell? ((⟨g, o, sp⟩ : Addr).add 0) = some x) : W.cell? ⟨g, o, sp⟩ = some x := by
  have : (⟨g, o, sp⟩ : Addr).add 0 = ⟨g, o, sp⟩ := by simp [Addr.add]
  rwa [this] at h

theorem bytes_of (hval : Value.okWide Tryd.prog W r b0 22 v) (hd : DataW.Trod enc Tryd.prog W 0 (fun _ => true) true 22 v d ps) : ∃ l : List UInt8, l.length ≤ maxLen ∧ Rb W v l := by
  obtain ⟨a, len, cap, rfl⟩ := okWide_slice Tryd.underlying22 hval
  obtain ⟨fuel, h⟩ := hd
  rcases open_ints Tryd.underlying22 Tryd.underlying5 (by kernel_rfl) h with ⟨h0, _⟩ | ⟨a, len, cap, zs, h0, _, hle, hm, hz, _, hc, hw⟩
  · cases h0
    exact ⟨[], by simp, .inl ⟨⟨none, rfl⟩, rfl⟩⟩
  · cases h0
    rw [if_pos rfl] at hz
    by_cases h00 : cap = 0
    · have : len = 0 := by omega
      subst this; subst h00
      exact ⟨[], by simp, .inl ⟨⟨some a, rfl⟩, rfl⟩⟩
    · obtain ⟨g, o, sp⟩ := a
      have hsp : sp = none := cell_spot (h00sp (hc 0 (by omega)))
      subst hsp
      have hcell : ∀ i, i < cap → W.cell? ⟨g, o + i, none⟩ = some (.int .u8 (zs.getD i 0)) := fun i hi => by
        have := hc i (by omega)
        rwa [add_none] at this
      have hby : ∀ i, i < cap → zs.getD i 0 = (((zs.map fun z => UInt8.ofNat z.toNat).getD i 0).toNat : Int) := fun i hi => by
        rw [List.getD_eq_getElem?_getD, List.getD_eq_getElem?_getD, List.getElem?_map, List.getElem?_eq_getElem (by omega)]
        have := bounds_u8 (hw _ (List.getElem_mem (show i < zs.length by omega)))
        simp
        omega
      refine ⟨(zs.map fun z => UInt8.ofNat z.toNat).take len, by rw [List.length_take, List.length_map]; omega, .inr ⟨g, o, cap, ?_, ?_, ?_, fun j hj => ?_⟩⟩
      · rw [List.length_take, List.length_map, hz, Nat.min_eq_left hle]
      · rw [List.length_take, List.length_map]; omega
      · have := block_lt_of_cell (hcell 0 (by omega)); exact this
      · rw [List.length_take, List.length_map] at hj
        rw [hcell j (by omega), hby j (by omega)]
        congr 3
        rw [List.getD_eq_getElem?_getD, List.getD_eq_getElem?_getD, List.getElem?_take, if_pos (by omega)]
theorem u8_of (hval : Value.okWide Tryd.prog W r b0 5 v) (hd : DataW.Trod enc Tryd.prog W 0 (fun _ => true) true 5 v d ps) : ∃ c : UInt8, v = .int .u8 (c.toNat : Int) := by
  obtain ⟨n, rfl, _, _, hw⟩ := open_int Tryd.underlying5 hval hd
  have hn := bounds_u8 hw
  obtain ⟨m, rfl⟩ := Int.eq_ofNat_of_zero_le hn.1
  exact ⟨UInt8.ofNat m, by rw [UInt8.toNat_ofNat', Nat.mod_eq_of_lt (by omega)]⟩
end
end Go.Proofs.YtjbagoedaelmnaaDoor
