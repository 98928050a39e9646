/-
  What the rows' condition gives; a world that meets it; arguments that read as they did, and what they may be.
-/
import Derived.Test.YtfnepffccenebaaGreatDoorRMem
import Derived.Deep.Slices
import Derived.ChangeArms
import Derived.DataShut
import Derived.Carry
import Derived.SizedLaws
import Derived.Test.YtfnepffccenebaaGreatDoorCards
import Derived.Test.YtfnepffccenebaaGreatDoorTie
import Derived.WalkKit
import Derived.ProofKit
import Derived.OpenShut
import Derived.Deep.DeepHandedRow
import Derived.LaidLaws
import Derived.LaidHandle
import Derived.Lib.LaidU8
namespace Go.Proofs.YtfnepffccenebaaGreatDoor.Rf
open Go.Proofs.YtfnepffccenebaaGreatDoor
open Go Go.ChangeShapes Go.WideShapes Go.ChangeAt Go.RowKit Go.Deep

def limW : Nat := 140737488355328
theorem own : ownKnob Tryz.prog.godebug = none := by kernel_rfl
/-- A world that meets the condition. -/
def litsOf : DataW Unit → List Value
  | .agg ds => ds.map fun d => match d with | .lit (.int k n) => .int k n | _ => .nilIface
  | _ => []
def pairsOf : DataW Unit → List Value
  | .agg ds => ds.flatMap litsOf
  | _ => []
def setCells (cs : List Value) : Obj → Obj
  | .cells _ t frozen => .cells cs.toArray t frozen
  | o => o
def laidL : List (String × DataW Unit) := [("unicode/utf8.acceptRanges", Rows.laid_unicode_utf8_acceptRanges), ("unicode/utf8.first", Rows.laid_unicode_utf8_first)]
noncomputable def laidWorld (os : Os) : World :=
  let w0 := World.holding Tryz.prog os ⟨#[], #[], []⟩
  { w0 with heap := (w0.heap.modify 1 (setCells (litsOf Rows.laid_unicode_utf8_first))).modify 2 (setCells (pairsOf Rows.laid_unicode_utf8_acceptRanges)) }
theorem laid_met (os : Os) (args : Array Value) : laidMetH Tryz.prog laidL ((laidWorld os).forCall (fun _ _ => 0) ⟨#[], args, []⟩).memory :=
  laidMetH_of_parts (laidMet_of_run' 8 (by kernel_rfl) (by kernel_rfl)) (by kernel_rfl)

theorem laid_out : laidOutB Tryz.prog = true := by kernel_rfl

/-- The arguments read as they did, where nothing below has turned. -/
theorem below_trodAll {H : Type} {enc : TypeId × Value → H} {W W' : World} (hb : Below W.heap.size W W') : ∀ {ts : List TypeId} {vs : List Value} {ds : List (DataW H)} {ps : List MemPlace},
    (∀ t ∈ ts, Tryz.prog.readableRec t = true ∧ t < Tryz.prog.types.size) → DataW.TrodAll enc Tryz.prog W 0 (fun _ => true) true ts vs ds ps → (∀ x ∈ ps, x.block < W.heap.size) → DataW.TrodAll enc Tryz.prog W' 0 (fun b => decide (b < W.heap.size)) true ts vs ds ps
  | [], [], [], _, _, h, _ => h
  | _ :: _, _ :: _, _ :: _, _, hT, ⟨p, q, h1, h2, e⟩, hs =>
    ⟨p, q, Below.trod laid_out (hT _ (List.mem_cons.2 (Or.inl rfl))).1 (hT _ (List.mem_cons.2 (Or.inl rfl))).2 h1 hb (fun x hx => hs x (by rw [e]; exact List.mem_append_left _ hx)),
      below_trodAll hb (fun t ht => hT t (List.mem_cons.2 (Or.inr ht))) h2 (fun x hx => hs x (by rw [e]; exact List.mem_append_right _ hx)), e⟩

theorem add_at (b off k : Nat) : (⟨b, off, none⟩ : Addr).add k = ⟨b, off + k, none⟩ := by
  unfold Addr.add; split <;> simp_all

section
variable {H : Type} {enc : TypeId × Value → H} {W : World} {base : Nat} {held : Bool}

/-- What came in is no greater than a reach. -/
def Fits (t : TypeId) (d : DataW H) : Prop := ∀ n ∈ d.weights Tryz.prog t, n ≤ reachBytes
theorem Fits.slice {t e : TypeId} {el sp : List (DataW H)} (h : Fits t (.slice el sp)) (hu : Tryz.prog.underlying t = some (.slice e)) : (el.length + sp.length) * Tryz.prog.bytesOf e ≤ reachBytes := h _ (by simp [DataW.weights, hu])
theorem mem_all {P : Program} {e : TypeId} {n : Nat} {d : DataW H} : ∀ {l : List (DataW H)}, d ∈ l → n ∈ d.weights P e → n ∈ DataW.weightsAll P e l
  | x :: l, hd, hn => by
    rw [DataW.weightsAll, List.mem_append]
    rcases List.mem_cons.1 hd with rfl | hd
    · exact .inl hn
    · exact .inr (mem_all hd hn)
theorem Fits.elem {t e : TypeId} {el sp : List (DataW H)} {d : DataW H} (h : Fits t (.slice el sp)) (hu : Tryz.prog.underlying t = some (.slice e)) (hd : d ∈ el) : Fits e d := fun n hn =>
  h _ (by simp only [DataW.weights, hu]; exact List.mem_cons_of_mem _ (List.mem_append_left _ (mem_all hd hn)))
theorem Fits.field {t : TypeId} {fs : Array Field} {xs : List (DataW H × List MemPlace)} {y : DataW H × List MemPlace} {i : Nat} {f : Field} (h : Fits t (.agg (xs.map (·.1)))) (hu : Tryz.prog.underlying t = some (.struct fs)) (hf : fs[i]? = some f) (hy : xs[i]? = some y) : Fits f.type y.1 := fun n hn =>
  h _ (by simp only [DataW.weights, hu]; exact DataW.weights_mem_each (j := i) (t := f.type) (d := y.1) (by simp [hf]) (by simp [hy]) n hn)

/-- A slice, opened. -/
theorem open_rd {α : Type} [Inhabited α] {t e : TypeId} {k fuel : Nat} {v : Value} {x : DataW H × List MemPlace} (f : α → List Value) (Q : α → Prop) (ht : Tryz.prog.underlying t = some (.slice e)) (hs : Tryz.prog.cellsOf e = k)
    (h : DataW.trod enc Tryz.prog W base (fun _ => true) held fuel t [v] = some x) (h0 : 0 < k) (hF : Fits t x.1) (hby : 0 < Tryz.prog.bytesOf e)
    (hel : ∀ b off n cs y, W.cells? base ⟨b, off, none⟩ k = some cs → DataW.trod enc Tryz.prog W base (fun _ => true) held n e cs = some y → Fits e y.1 → ∃ o, Q o ∧ ∀ i, i < k → W.cell? ⟨b, off + i, none⟩ = (f o)[i]?) :
    ∃ l : List α, l.length ≤ limW ∧ (∀ o ∈ l, Q o) ∧ RdK k f W v l := by
  rcases open_slice ht h with ⟨h0, _⟩ | ⟨a, len, cap, m, n, D, Pl, h0', hb, hl, hm, hmm, rfl, hx⟩
  · cases h0
    exact ⟨[], by simp, fun o ho => by simp at ho, .inl ⟨⟨_, _, rfl⟩, rfl⟩⟩
  · cases h0'
    have hlm : len ≤ m := by rw [hmm]; split <;> omega
    rw [hs] at hx
    by_cases hl0 : len = 0
    · subst hl0
      exact ⟨[], by simp, fun o ho => by simp at ho, .inl ⟨⟨_, _, rfl⟩, rfl⟩⟩
    have hsp : a.spot = none := by
      obtain ⟨cs, h1, _⟩ := hx 0 (by omega)
      obtain ⟨_, h3, h4⟩ := World.cells?_some h1
      have hc0 := h4 0 h0
      rw [List.getElem?_eq_getElem (by omega)] at hc0
      have hsp := World.cell?_spot hc0
      simpa [Addr.add] using hsp
    obtain ⟨b, off, sp⟩ := a
    cases hsp
    have each : ∀ i, i < len → ∃ o, Q o ∧ ∀ j, j < k → W.cell? ⟨b, off + i * k + j, none⟩ = (f o)[j]? := fun i hi => by
      obtain ⟨cs, h1, h2⟩ := hx i (by omega)
      rw [add_at] at h1
      exact hel _ _ _ _ _ h1 h2 (hF.elem ht (List.mem_map.2 ⟨i, List.mem_range.2 hi, rfl⟩))
    obtain ⟨g, hg⟩ := choose_lt each
    have hlen : ((List.range len).map g).length = len := by simp
    have hw := hF.slice ht
    have hw2 : len ≤ reachBytes := by
      refine Nat.le_trans ?_ hw
      simp only [List.length_map, List.length_range]
      exact Nat.le_trans (Nat.le_add_right _ _) (Nat.le_mul_of_pos_right _ hby)
    have hlt : b < W.heap.size := by
      obtain ⟨cs, h1, _⟩ := hx 0 (by omega)
      obtain ⟨_, h3, h4⟩ := World.cells?_some h1
      have hc0 := h4 0 h0
      rw [List.getElem?_eq_getElem (by omega), add_at, add_at] at hc0
      exact World.block_lt_of_cell? W _ hc0
    refine ⟨(List.range len).map g, by rw [hlen]; simp [reachBytes] at hw2; unfold limW; omega, fun o ho => ?_, .inr ⟨b, off, cap, by rw [hlen], by rw [hlen]; exact hl, hlt, fun j hj x hx i hi => ?_⟩⟩
    · obtain ⟨i, hi, rfl⟩ := List.mem_map.1 ho
      exact (hg i (List.mem_range.1 hi)).1
    · rw [hlen] at hj
      have eo : g j = x := by simpa [hj] using hx
      subst eo
      exact (hg j hj).2 i hi

theorem cell1S : Tryz.prog.cellsOf 9 = 1 := by kernel_rfl
theorem cell1I : Tryz.prog.cellsOf 3 = 1 := by kernel_rfl
theorem cell1L : Tryz.prog.cellsOf 33 = 1 := by kernel_rfl
theorem fld {n off k : Nat} {t : TypeId} {cs : List Value} {y : Option (DataW H × List MemPlace)} (hc : Tryz.prog.cellsOf t = k) (h : DataW.trod enc Tryz.prog W base (fun _ => true) held n t ((cs.drop off).take (Tryz.prog.cellsOf t)) = y) : DataW.trod enc Tryz.prog W base (fun _ => true) held n t ((cs.drop off).take k) = y := hc ▸ h

set_option maxRecDepth 100000 in
theorem open_S {fuel : Nat} {v : Value} {x : DataW H × List MemPlace} (h : DataW.trod enc Tryz.prog W base (fun _ => true) held fuel 9 [v] = some x) (hF : Fits 9 x.1) : ∃ p : List UInt8, p.length ≤ limW ∧ v = SV p := by
  obtain ⟨s, h1, rfl, h3⟩ := DataW.trod_string Tryz.underlying9 h
  cases h1
  have hw := hF s.data.toList.length (by simp [DataW.weights])
  exact ⟨s.data.toList, by simp [reachBytes] at hw; rw [Array.length_toList]; unfold limW; show s.size ≤ _; omega, rfl⟩
set_option maxRecDepth 100000 in
theorem open_I {fuel : Nat} {v : Value} {x : DataW H × List MemPlace} (h : DataW.trod enc Tryz.prog W base (fun _ => true) held fuel 3 [v] = some x) : ∃ n : Int, v = .int .i64 n := by
  obtain ⟨n, h1, _⟩ := DataW.trod_int Tryz.underlying3 h
  exact ⟨n, by simpa using h1⟩

set_option maxRecDepth 100000 in
theorem open_str (b off n : Nat) (cs : List Value) (y : DataW H × List MemPlace) (h1 : W.cells? base ⟨b, off, none⟩ 1 = some cs) (h2 : DataW.trod enc Tryz.prog W base (fun _ => true) held n 9 cs = some y) (hF : Fits 9 y.1) :
    ∃ o : List UInt8, o.length ≤ limW ∧ ∀ i, i < 1 → W.cell? ⟨b, off + i, none⟩ = (strC o)[i]? := by
  obtain ⟨_, h3, h4⟩ := World.cells?_some h1
  match cs, h3 with
  | [v0], _ =>
    obtain ⟨p, hp, rfl⟩ := open_S (v := v0) h2 hF
    refine ⟨p, hp, fun i hi => ?_⟩
    have c := h4 i hi
    rw [add_at] at c
    rw [c]
    match i, hi with
    | 0, _ => rfl
theorem open_strs {fuel : Nat} {v : Value} {x : DataW H × List MemPlace} (h : DataW.trod enc Tryz.prog W base (fun _ => true) held fuel 33 [v] = some x) (hF : Fits 33 x.1) : ∃ l : List (List UInt8), l.length ≤ limW ∧ (∀ o ∈ l, o.length ≤ limW) ∧ StrsR W v l :=
  open_rd strC (fun o => o.length ≤ limW) Tryz.underlying33 (by kernel_rfl) h (by omega) hF (of_decide_eq_true (by kernel_rfl)) open_str

instance laidRef : Inhabited Ref := ⟨⟨[], []⟩⟩
instance laidUpd : Inhabited Upd := ⟨⟨[], [], []⟩⟩
def FitW (x : Ref) : Prop := x.name.length ≤ limW ∧ x.id.length ≤ limW
set_option maxRecDepth 100000 in
theorem open_Ref (b off n : Nat) (cs : List Value) (y : DataW H × List MemPlace) (h1 : W.cells? base ⟨b, off, none⟩ 2 = some cs) (h2 : DataW.trod enc Tryz.prog W base (fun _ => true) held n 45 cs = some y) (hF : Fits 45 y.1) :
    ∃ o : Ref, FitW o ∧ ∀ i, i < 2 → W.cell? ⟨b, off + i, none⟩ = (refC o)[i]? := by
  obtain ⟨_, h3, h4⟩ := World.cells?_some h1
  obtain ⟨xs, n', _, rfl, _, hlen, hf⟩ := DataW.trod_struct Tryz.underlying45 h2
  match cs, h3 with
  | [v0, v1], _ =>
    match xs, hlen with
    | [y0, y1], _ =>
      have f0 := fld (cs := [v0, v1]) (off := 0) cell1S (hf 0 _ rfl)
      have f1 := fld (cs := [v0, v1]) (off := 1) cell1S (hf 1 _ rfl)
      obtain ⟨p0, hp0, rfl⟩ := open_S (v := v0) f0 (hF.field Tryz.underlying45 (i := 0) rfl rfl)
      obtain ⟨p1, hp1, rfl⟩ := open_S (v := v1) f1 (hF.field Tryz.underlying45 (i := 1) rfl rfl)
      refine ⟨⟨p0, p1⟩, ⟨hp0, hp1⟩, fun i hi => ?_⟩
      have c := h4 i hi
      rw [add_at] at c
      rw [c]
      match i, hi with
      | 0, _ => rfl
      | 1, _ => rfl
theorem open_Refs {fuel : Nat} {v : Value} {x : DataW H × List MemPlace} (h : DataW.trod enc Tryz.prog W base (fun _ => true) held fuel 22 [v] = some x) (hF : Fits 22 x.1) : ∃ l : List Ref, l.length ≤ limW ∧ (∀ o ∈ l, FitW o) ∧ RefsR W v l :=
  open_rd refC FitW Tryz.underlying22 (by kernel_rfl) h (by omega) hF (of_decide_eq_true (by kernel_rfl)) open_Ref

def FitUW (x : Upd) : Prop := x.name.length ≤ limW ∧ x.old.length ≤ limW ∧ x.new.length ≤ limW
set_option maxRecDepth 100000 in
theorem open_Upd (b off n : Nat) (cs : List Value) (y : DataW H × List MemPlace) (h1 : W.cells? base ⟨b, off, none⟩ 3 = some cs) (h2 : DataW.trod enc Tryz.prog W base (fun _ => true) held n 43 cs = some y) (hF : Fits 43 y.1) :
    ∃ o : Upd, FitUW o ∧ ∀ i, i < 3 → W.cell? ⟨b, off + i, none⟩ = (updC o)[i]? := by
  obtain ⟨_, h3, h4⟩ := World.cells?_some h1
  obtain ⟨xs, n', _, rfl, _, hlen, hf⟩ := DataW.trod_struct Tryz.underlying43 h2
  match cs, h3 with
  | [v0, v1, v2], _ =>
    match xs, hlen with
    | [y0, y1, y2], _ =>
      have f0 := fld (cs := [v0, v1, v2]) (off := 0) cell1S (hf 0 _ rfl)
      have f1 := fld (cs := [v0, v1, v2]) (off := 1) cell1S (hf 1 _ rfl)
      have f2 := fld (cs := [v0, v1, v2]) (off := 2) cell1S (hf 2 _ rfl)
      obtain ⟨p0, hp0, rfl⟩ := open_S (v := v0) f0 (hF.field Tryz.underlying43 (i := 0) rfl rfl)
      obtain ⟨p1, hp1, rfl⟩ := open_S (v := v1) f1 (hF.field Tryz.underlying43 (i := 1) rfl rfl)
      obtain ⟨p2, hp2, rfl⟩ := open_S (v := v2) f2 (hF.field Tryz.underlying43 (i := 2) rfl rfl)
      refine ⟨⟨p0, p1, p2⟩, ⟨hp0, hp1, hp2⟩, fun i hi => ?_⟩
      have c := h4 i hi
      rw [add_at] at c
      rw [c]
      match i, hi with
      | 0, _ => rfl
      | 1, _ => rfl
      | 2, _ => rfl
theorem open_Upds {fuel : Nat} {v : Value} {x : DataW H × List MemPlace} (h : DataW.trod enc Tryz.prog W base (fun _ => true) held fuel 23 [v] = some x) (hF : Fits 23 x.1) : ∃ l : List Upd, l.length ≤ limW ∧ (∀ o ∈ l, FitUW o) ∧ UpdsR W v l :=
  open_rd updC FitUW Tryz.underlying23 (by kernel_rfl) h (by omega) hF (of_decide_eq_true (by kernel_rfl)) open_Upd

end
theorem fits_of {H : Type} {ts : List TypeId} {ds : List (DataW H)} (h : (DataW.weightsEach Tryz.prog ts ds).all (· ≤ reachBytes) = true) {j : Nat} {t : TypeId} {d : DataW H} (ht : ts[j]? = some t) (hd : ds[j]? = some d) : Fits t d := fun n hn => by
  simpa using List.all_eq_true.1 h _ (DataW.weights_mem_each ht hd n hn)

section
variable {H : Type} {enc : TypeId × Value → H} {W : World} {r : Reach} {b0 : Nat} {v : Value} {d : DataW H} {ps : List MemPlace}
set_option maxRecDepth 100000

theorem h00sp {g o : Nat} {sp : Option Nat} {x : Value} (h : W.cell? ((⟨g, o, sp⟩ : Addr).add 0) = some x) : W.cell? ⟨g, o, sp⟩ = some x := by
  have : (⟨g, o, sp⟩ : Addr).add 0 = ⟨g, o, sp⟩ := by simp [Addr.add]
  rwa [this] at h

theorem u8_of (hval : Value.okWide Tryz.prog W r b0 5 v) (hd : DataW.Trod enc Tryz.prog W 0 (fun _ => true) true 5 v d ps) : ∃ c : UInt8, v = .int .u8 (c.toNat : Int) := by
  obtain ⟨n, rfl, _, _, hw⟩ := open_int Tryz.underlying5 hval hd
  have hn := bounds_u8 hw
  obtain ⟨m, rfl⟩ := Int.eq_ofNat_of_zero_le hn.1
  exact ⟨UInt8.ofNat m, by rw [UInt8.toNat_ofNat', Nat.mod_eq_of_lt (by omega)]⟩
theorem limW_max {n : Nat} (h : n ≤ limW) : n ≤ maxLen := by unfold limW at h; unfold maxLen; omega
theorem refs_of (hval : Value.okWide Tryz.prog W r b0 22 v) (hd : DataW.Trod enc Tryz.prog W 0 (fun _ => true) true 22 v d ps) (hF : Fits 22 d) : ∃ l : List Ref, l.length ≤ limW ∧ Fit l ∧ RefsR W v l := by
  obtain ⟨a, len, cap, rfl⟩ := okWide_slice Tryz.underlying22 hval
  obtain ⟨fuel, h⟩ := hd
  obtain ⟨l, h1, h3, h2⟩ := open_Refs (v := .slice a len cap) h hF
  exact ⟨l, h1, fun x hx => ⟨limW_max (h3 x hx).1, limW_max (h3 x hx).2⟩, h2⟩
theorem upds_of (hval : Value.okWide Tryz.prog W r b0 23 v) (hd : DataW.Trod enc Tryz.prog W 0 (fun _ => true) true 23 v d ps) (hF : Fits 23 d) : ∃ l : List Upd, l.length ≤ limW ∧ FitU l ∧ UpdsR W v l := by
  obtain ⟨a, len, cap, rfl⟩ := okWide_slice Tryz.underlying23 hval
  obtain ⟨fuel, h⟩ := hd
  obtain ⟨l, h1, h3, h2⟩ := open_Upds (v := .slice a len cap) h hF
  exact ⟨l, h1, fun x hx => ⟨limW_max (h3 x hx).1, limW_max (h3 x hx).2.1, limW_max (h3 x hx).2.2⟩, h2⟩
theorem string_of (hval : Value.okWide Tryz.prog W r b0 9 v) : ∃ l : List UInt8, l.length ≤ maxLen ∧ v = SV l := by
  obtain ⟨s, rfl⟩ := okWide_string Tryz.underlying9 hval
  have h2 : IntKind.i64.max = 9223372036854775807 := rfl
  have h3 : (s.size : Int) ≤ IntKind.i64.max := by simpa [Value.okWide, Cell.okWide, Cell.ok, Tryz.underlying9] using hval
  refine ⟨s.data.toList, ?_, rfl⟩
  have h4 : s.data.toList.length = s.size := rfl
  unfold maxLen
  omega
end
end Go.Proofs.YtfnepffccenebaaGreatDoor.Rf
