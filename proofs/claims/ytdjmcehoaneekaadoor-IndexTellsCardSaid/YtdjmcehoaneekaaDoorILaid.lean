/-
  What the rows' condition gives; a world that meets it; arguments that read as they did, and what they may be.
-/
import Derived.Test.YtdjmcehoaneekaaDoorIMem
import Derived.Deep.Slices
import Derived.ChangeArms
import Derived.DataShut
import Derived.Carry
import Derived.SizedLaws
import Derived.Test.YtdjmcehoaneekaaDoorCards
import Derived.Test.YtdjmcehoaneekaaDoorTie
import Derived.WalkKit
import Derived.ProofKit
import Derived.OpenShut
import Derived.Deep.DeepHandedRow
import Derived.LaidLaws
import Derived.LaidHandle
import Derived.Lib.LaidU8
namespace Go.Proofs.YtdjmcehoaneekaaDoor.Ix
open Go.Proofs.YtdjmcehoaneekaaDoor
open Go Go.ChangeShapes Go.WideShapes Go.ChangeAt Go.RowKit Go.Deep

def limW : Nat := 140737488355328
theorem own : ownKnob Tryd.prog.godebug = none := by kernel_rfl
theorem prG : Tryd.prog.globalNamed "sacristy/digest.primes" = some 1 := by kernel_rfl

theorem prT : (Tryd.prog.globals[1]?).map (·.type) = some 120 := by kernel_rfl

def primesD : List (DataW Unit) := match (Rows.laid_sacristy_digest_primes : DataW Unit) with | .agg ds => ds | _ => []
theorem primesD_eq : (Rows.laid_sacristy_digest_primes : DataW Unit) = .agg primesD := rfl
theorem primes_data : primesD.map (fun d => match d with | .lit (.int .u16 n) => n | _ => 0) = (List.range 64).map fun i => (primeN i : Int) := by decide +kernel

theorem prime_of {i : Nat} {n : Int} (hi : i < 64) (h : primesD[i]? = some (.lit (.int .u16 n))) : n = (primeN i : Int) := by
  have h1 := congrArg (·[i]?) primes_data
  simpa [List.getElem?_map, h, List.getElem?_range hi] using h1

theorem pr_of_laid {W : World} (h : laidMetH Tryd.prog [("sacristy/digest.primes", Rows.laid_sacristy_digest_primes)] W) : Pr W := by
  have h' : laidMet Tryd.prog [("sacristy/digest.primes", Rows.laid_sacristy_digest_primes)] W := h
  obtain ⟨g, t, cs, fuel, p, h1, h2, h3, h4⟩ := Lib.laidMet.reads h' (List.mem_singleton.2 rfl)
  obtain rfl := Option.some.inj (prG.symm.trans h1)
  obtain rfl := Option.some.inj (prT.symm.trans h2)
  rw [primesD_eq] at h4
  intro i hi
  obtain ⟨fuel', d, q, hd, ht⟩ := Lib.array_elem Tryd.underlying120 h4 i hi
  have c1 : Tryd.prog.cellsOf 36 = 1 := by kernel_rfl
  rw [c1, Nat.mul_one] at ht
  obtain ⟨n, hcs, hx, _⟩ := DataW.trod_int Tryd.underlying36 ht
  have hn : d = .lit (.int .u16 n) := congrArg Prod.fst hx
  subst hn
  rw [prime_of hi hd] at hcs
  have hc : cs[i]? = some (.int .u16 (primeN i : Int)) := by
    have h5 := congrArg (·[0]?) hcs
    simpa [List.getElem?_take, List.getElem?_drop] using h5
  have := World.var?_cell prG h3 i
  rw [this]
  simpa using hc

/-- A world that meets the condition. -/
noncomputable def laidWorld (os : Os) : World :=
  { World.holding Tryd.prog os ⟨#[], #[], []⟩ with heap := (World.holding Tryd.prog os ⟨#[], #[], []⟩).heap.modify 1 fun
      | .cells _ t frozen => .cells (primesL.map fun (n : Nat) => Value.int .u16 (n : Int)).toArray t frozen
      | o => o }
theorem laid_met (os : Os) (args : Array Value) : laidMetH Tryd.prog [("sacristy/digest.primes", Rows.laid_sacristy_digest_primes)] ((laidWorld os).forCall (fun _ _ => 0) ⟨#[], args, []⟩).memory :=
  laidMetH_of_parts (laidMet_of_run' 8 (by kernel_rfl) (by kernel_rfl)) (by kernel_rfl)

theorem laid_out : laidOutB Tryd.prog = true := by kernel_rfl

/-- The arguments read as they did, where nothing below has turned. -/
theorem below_trodAll {H : Type} {enc : TypeId × Value → H} {W W' : World} (hb : Below W.heap.size W W') : ∀ {ts : List TypeId} {vs : List Value} {ds : List (DataW H)} {ps : List MemPlace},
    (∀ t ∈ ts, Tryd.prog.readableRec t = true ∧ t < Tryd.prog.types.size) → DataW.TrodAll enc Tryd.prog W 0 (fun _ => true) true ts vs ds ps → (∀ x ∈ ps, x.block < W.heap.size) → DataW.TrodAll enc Tryd.prog W' 0 (fun b => decide (b < W.heap.size)) true ts vs ds ps
  | [], [], [], _, _, h, _ => h
  | _ :: _, _ :: _, _ :: _, _, hT, ⟨p, q, h1, h2, e⟩, hs =>
    ⟨p, q, Below.trod laid_out (hT _ (List.mem_cons.2 (Or.inl rfl))).1 (hT _ (List.mem_cons.2 (Or.inl rfl))).2 h1 hb (fun x hx => hs x (by rw [e]; exact List.mem_append_left _ hx)),
      below_trodAll hb (fun t ht => hT t (List.mem_cons.2 (Or.inr ht))) h2 (fun x hx => hs x (by rw [e]; exact List.mem_append_right _ hx)), e⟩

theorem add_at (b off k : Nat) : (⟨b, off, none⟩ : Addr).add k = ⟨b, off + k, none⟩ := by
  unfold Addr.add; split <;> simp_all

section
variable {H : Type} {enc : TypeId × Value → H} {W : World} {base : Nat} {held : Bool}

/-- What came in is no greater than a reach. -/
def Fits (t : TypeId) (d : DataW H) : Prop := ∀ n ∈ d.weights Tryd.prog t, n ≤ reachBytes
theorem Fits.slice {t e : TypeId} {el sp : List (DataW H)} (h : Fits t (.slice el sp)) (hu : Tryd.prog.underlying t = some (.slice e)) : (el.length + sp.length) * Tryd.prog.bytesOf e ≤ reachBytes := h _ (by simp [DataW.weights, hu])
theorem mem_all {P : Program} {e : TypeId} {n : Nat} {d : DataW H} : ∀ {l : List (DataW H)}, d ∈ l → n ∈ d.weights P e → n ∈ DataW.weightsAll P e l
  | x :: l, hd, hn => by
    rw [DataW.weightsAll, List.mem_append]
    rcases List.mem_cons.1 hd with rfl | hd
    · exact .inl hn
    · exact .inr (mem_all hd hn)
theorem Fits.elem {t e : TypeId} {el sp : List (DataW H)} {d : DataW H} (h : Fits t (.slice el sp)) (hu : Tryd.prog.underlying t = some (.slice e)) (hd : d ∈ el) : Fits e d := fun n hn =>
  h _ (by simp only [DataW.weights, hu]; exact List.mem_cons_of_mem _ (List.mem_append_left _ (mem_all hd hn)))
theorem Fits.field {t : TypeId} {fs : Array Field} {xs : List (DataW H × List MemPlace)} {y : DataW H × List MemPlace} {i : Nat} {f : Field} (h : Fits t (.agg (xs.map (·.1)))) (hu : Tryd.prog.underlying t = some (.struct fs)) (hf : fs[i]? = some f) (hy : xs[i]? = some y) : Fits f.type y.1 := fun n hn =>
  h _ (by simp only [DataW.weights, hu]; exact DataW.weights_mem_each (j := i) (t := f.type) (d := y.1) (by simp [hf]) (by simp [hy]) n hn)

/-- A slice, opened. -/
theorem open_rd {α : Type} [Inhabited α] {t e : TypeId} {k fuel : Nat} {v : Value} {x : DataW H × List MemPlace} (f : α → List Value) (Q : α → Prop) (ht : Tryd.prog.underlying t = some (.slice e)) (hs : Tryd.prog.cellsOf e = k)
    (h : DataW.trod enc Tryd.prog W base (fun _ => true) held fuel t [v] = some x) (h0 : 0 < k) (hF : Fits t x.1) (hby : 0 < Tryd.prog.bytesOf e)
    (hel : ∀ b off n cs y, W.cells? base ⟨b, off, none⟩ k = some cs → DataW.trod enc Tryd.prog W base (fun _ => true) held n e cs = some y → Fits e y.1 → ∃ o, Q o ∧ ∀ i, i < k → W.cell? ⟨b, off + i, none⟩ = (f o)[i]?) :
    ∃ l : List α, l.length ≤ limW ∧ (∀ o ∈ l, Q o) ∧ RdK k f W v l := by
  rcases open_slice ht h with ⟨h0, _⟩ | ⟨a, len, cap, m, n, D, Pl, h0', hb, hl, hm, hmm, rfl, hx⟩
  · cases h0
    exact ⟨[], by simp, fun o ho => by simp at ho, .inl ⟨⟨_, _, rfl⟩, rfl⟩⟩
  · cases h0'
    have hlm : len ≤ m := by rw [hmm]; split <;> omega
    rw [hs] at hx
    by_cases hl0 : len = 0
    · subst hl0
      exact ⟨[], by simp, fun o ho => by simp at ho, .inl ⟨⟨_, _, rfl⟩, rfl⟩⟩
    have hsp : a.spot = none := by
      obtain ⟨cs, h1, _⟩ := hx 0 (by omega)
      obtain ⟨_, h3, h4⟩ := World.cells?_some h1
      have hc0 := h4 0 h0
      rw [List.getElem?_eq_getElem (by omega)] at hc0
      have hsp := World.cell?_spot hc0
      simpa [Addr.add] using hsp
    obtain ⟨b, off, sp⟩ := a
    cases hsp
    have each : ∀ i, i < len → ∃ o, Q o ∧ ∀ j, j < k → W.cell? ⟨b, off + i * k + j, none⟩ = (f o)[j]? := fun i hi => by
      obtain ⟨cs, h1, h2⟩ := hx i (by omega)
      rw [add_at] at h1
      exact hel _ _ _ _ _ h1 h2 (hF.elem ht (List.mem_map.2 ⟨i, List.mem_range.2 hi, rfl⟩))
    obtain ⟨g, hg⟩ := choose_lt each
    have hlen : ((List.range len).map g).length = len := by simp
    have hw := hF.slice ht
    have hw2 : len ≤ reachBytes := by
      refine Nat.le_trans ?_ hw
      simp only [List.length_map, List.length_range]
      exact Nat.le_trans (Nat.le_add_right _ _) (Nat.le_mul_of_pos_right _ hby)
    have hlt : b < W.heap.size := by
      obtain ⟨cs, h1, _⟩ := hx 0 (by omega)
      obtain ⟨_, h3, h4⟩ := World.cells?_some h1
      have hc0 := h4 0 h0
      rw [List.getElem?_eq_getElem (by omega), add_at, add_at] at hc0
      exact World.block_lt_of_cell? W _ hc0
    refine ⟨(List.range len).map g, by rw [hlen]; simp [reachBytes] at hw2; unfold limW; omega, fun o ho => ?_, .inr ⟨b, off, cap, by rw [hlen], by rw [hlen]; exact hl, hlt, fun j hj x hx i hi => ?_⟩⟩
    · obtain ⟨i, hi, rfl⟩ := List.mem_map.1 ho
      exact (hg i (List.mem_range.1 hi)).1
    · rw [hlen] at hj
      have eo : g j = x := by simpa [hj] using hx
      subst eo
      exact (hg j hj).2 i hi

theorem cell1S : Tryd.prog.cellsOf 9 = 1 := by kernel_rfl
theorem cell1I : Tryd.prog.cellsOf 3 = 1 := by kernel_rfl
theorem cell1L : Tryd.prog.cellsOf 22 = 1 := by kernel_rfl
theorem fld {n off k : Nat} {t : TypeId} {cs : List Value} {y : Option (DataW H × List MemPlace)} (hc : Tryd.prog.cellsOf t = k) (h : DataW.trod enc Tryd.prog W base (fun _ => true) held n t ((cs.drop off).take (Tryd.prog.cellsOf t)) = y) : DataW.trod enc Tryd.prog W base (fun _ => true) held n t ((cs.drop off).take k) = y := hc ▸ h

set_option maxRecDepth 100000 in
theorem open_S {fuel : Nat} {v : Value} {x : DataW H × List MemPlace} (h : DataW.trod enc Tryd.prog W base (fun _ => true) held fuel 9 [v] = some x) (hF : Fits 9 x.1) : ∃ p : List UInt8, p.length ≤ limW ∧ v = SV p := by
  obtain ⟨s, h1, rfl, h3⟩ := DataW.trod_string Tryd.underlying9 h
  cases h1
  have hw := hF s.data.toList.length (by simp [DataW.weights])
  exact ⟨s.data.toList, by simp [reachBytes] at hw; rw [Array.length_toList]; unfold limW; show s.size ≤ _; omega, rfl⟩
set_option maxRecDepth 100000 in
theorem open_I {fuel : Nat} {v : Value} {x : DataW H × List MemPlace} (h : DataW.trod enc Tryd.prog W base (fun _ => true) held fuel 3 [v] = some x) : ∃ n : Int, v = .int .i64 n := by
  obtain ⟨n, h1, _⟩ := DataW.trod_int Tryd.underlying3 h
  exact ⟨n, by simpa using h1⟩

set_option maxRecDepth 100000 in
theorem open_str (b off n : Nat) (cs : List Value) (y : DataW H × List MemPlace) (h1 : W.cells? base ⟨b, off, none⟩ 1 = some cs) (h2 : DataW.trod enc Tryd.prog W base (fun _ => true) held n 9 cs = some y) (hF : Fits 9 y.1) :
    ∃ o : List UInt8, o.length ≤ limW ∧ ∀ i, i < 1 → W.cell? ⟨b, off + i, none⟩ = (strC o)[i]? := by
  obtain ⟨_, h3, h4⟩ := World.cells?_some h1
  match cs, h3 with
  | [v0], _ =>
    obtain ⟨p, hp, rfl⟩ := open_S (v := v0) h2 hF
    refine ⟨p, hp, fun i hi => ?_⟩
    have c := h4 i hi
    rw [add_at] at c
    rw [c]
    match i, hi with
    | 0, _ => rfl
theorem open_strs {fuel : Nat} {v : Value} {x : DataW H × List MemPlace} (h : DataW.trod enc Tryd.prog W base (fun _ => true) held fuel 22 [v] = some x) (hF : Fits 22 x.1) : ∃ l : List (List UInt8), l.length ≤ limW ∧ (∀ o ∈ l, o.length ≤ limW) ∧ StrsR W v l :=
  open_rd strC (fun o => o.length ≤ limW) Tryd.underlying22 (by kernel_rfl) h (by omega) hF (of_decide_eq_true (by kernel_rfl)) open_str

end
theorem fits_of {H : Type} {ts : List TypeId} {ds : List (DataW H)} (h : (DataW.weightsEach Tryd.prog ts ds).all (· ≤ reachBytes) = true) {j : Nat} {t : TypeId} {d : DataW H} (ht : ts[j]? = some t) (hd : ds[j]? = some d) : Fits t d := fun n hn => by
  simpa using List.all_eq_true.1 h _ (DataW.weights_mem_each ht hd n hn)

section
variable {H : Type} {enc : TypeId × Value → H} {W : World} {r : Reach} {b0 : Nat} {v : Value} {d : DataW H} {ps : List MemPlace}
set_option maxRecDepth 100000

theorem h00sp {g o : Nat} {sp : Option Nat} {x : Value} (h : W.cell? ((⟨g, o, sp⟩ : Addr).add 0) = some x) : W.cell? ⟨g, o, sp⟩ = some x := by
  have : (⟨g, o, sp⟩ : Addr).add 0 = ⟨g, o, sp⟩ := by simp [Addr.add]
  rwa [this] at h

theorem bytes_of (hval : Value.okWide Tryd.prog W r b0 23 v) (hd : DataW.Trod enc Tryd.prog W 0 (fun _ => true) true 23 v d ps) : ∃ l : List UInt8, l.length ≤ maxLen ∧ Rb W v l := by
  obtain ⟨a, len, cap, rfl⟩ := okWide_slice Tryd.underlying23 hval
  obtain ⟨fuel, h⟩ := hd
  rcases open_ints Tryd.underlying23 Tryd.underlying5 (by kernel_rfl) h with ⟨h0, _⟩ | ⟨a, len, cap, zs, h0, _, hle, hm, hz, _, hc, hw⟩
  · cases h0
    exact ⟨[], by simp, .inl ⟨⟨none, rfl⟩, rfl⟩⟩
  · cases h0
    rw [if_pos rfl] at hz
    by_cases h00 : cap = 0
    · have : len = 0 := by omega
      subst this; subst h00
      exact ⟨[], by simp, .inl ⟨⟨some a, rfl⟩, rfl⟩⟩
    · obtain ⟨g, o, sp⟩ := a
      have hsp : sp = none := cell_spot (h00sp (hc 0 (by omega)))
      subst hsp
      have hcell : ∀ i, i < cap → W.cell? ⟨g, o + i, none⟩ = some (.int .u8 (zs.getD i 0)) := fun i hi => by
        have := hc i (by omega)
        rwa [add_none] at this
      have hby : ∀ i, i < cap → zs.getD i 0 = (((zs.map fun z => UInt8.ofNat z.toNat).getD i 0).toNat : Int) := fun i hi => by
        rw [List.getD_eq_getElem?_getD, List.getD_eq_getElem?_getD, List.getElem?_map, List.getElem?_eq_getElem (by omega)]
        have := bounds_u8 (hw _ (List.getElem_mem (show i < zs.length by omega)))
        simp
        omega
      refine ⟨(zs.map fun z => UInt8.ofNat z.toNat).take len, by rw [List.length_take, List.length_map]; omega, .inr ⟨g, o, cap, ?_, ?_, ?_, fun j hj => ?_⟩⟩
      · rw [List.length_take, List.length_map, hz, Nat.min_eq_left hle]
      · rw [List.length_take, List.length_map]; omega
      · have := block_lt_of_cell (hcell 0 (by omega)); exact this
      · rw [List.length_take, List.length_map] at hj
        rw [hcell j (by omega), hby j (by omega)]
        congr 3
        rw [List.getD_eq_getElem?_getD, List.getD_eq_getElem?_getD, List.getElem?_take, if_pos (by omega)]
theorem u8_of (hval : Value.okWide Tryd.prog W r b0 5 v) (hd : DataW.Trod enc Tryd.prog W 0 (fun _ => true) true 5 v d ps) : ∃ c : UInt8, v = .int .u8 (c.toNat : Int) := by
  obtain ⟨n, rfl, _, _, hw⟩ := open_int Tryd.underlying5 hval hd
  have hn := bounds_u8 hw
  obtain ⟨m, rfl⟩ := Int.eq_ofNat_of_zero_le hn.1
  exact ⟨UInt8.ofNat m, by rw [UInt8.toNat_ofNat', Nat.mod_eq_of_lt (by omega)]⟩
theorem strs_of (hval : Value.okWide Tryd.prog W r b0 22 v) (hd : DataW.Trod enc Tryd.prog W 0 (fun _ => true) true 22 v d ps) (hF : Fits 22 d) : ∃ l : List Bs, l.length ≤ limW ∧ StrsR W v l := by
  obtain ⟨a, len, cap, rfl⟩ := okWide_slice Tryd.underlying22 hval
  obtain ⟨fuel, h⟩ := hd
  obtain ⟨l, h1, _, h2⟩ := open_strs (v := .slice a len cap) h hF
  exact ⟨l, h1, h2⟩
theorem u16_of (hval : Value.okWide Tryd.prog W r b0 36 v) (hd : DataW.Trod enc Tryd.prog W 0 (fun _ => true) true 36 v d ps) : ∃ n : Nat, n < 65536 ∧ v = .int .u16 (n : Int) := by
  obtain ⟨n, rfl, _, _, hw⟩ := open_int Tryd.underlying36 hval hd
  have hn := bounds_u16 hw
  obtain ⟨m, rfl⟩ := Int.eq_ofNat_of_zero_le hn.1
  exact ⟨m, by omega, rfl⟩
theorem string_of (hval : Value.okWide Tryd.prog W r b0 9 v) : ∃ l : List UInt8, l.length ≤ maxLen ∧ v = SV l := by
  obtain ⟨s, rfl⟩ := okWide_string Tryd.underlying9 hval
  have h2 : IntKind.i64.max = 9223372036854775807 := rfl
  have h3 : (s.size : Int) ≤ IntKind.i64.max := by simpa [Value.okWide, Cell.okWide, Cell.ok, Tryd.underlying9] using hval
  refine ⟨s.data.toList, ?_, rfl⟩
  have h4 : s.data.toList.length = s.size := rfl
  unfold maxLen
  omega
end
end Go.Proofs.YtdjmcehoaneekaaDoor.Ix
