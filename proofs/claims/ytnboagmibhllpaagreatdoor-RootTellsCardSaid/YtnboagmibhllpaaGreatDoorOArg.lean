/-
  Roots, bytes and numbers that come in.
-/
import Derived.Test.YtnboagmibhllpaaGreatDoorOGrt
import Derived.Test.YtnboagmibhllpaaGreatDoorOLaid
import Derived.Deep.Slices
import Derived.ChangeArms
import Derived.DataShut
import Derived.SizedLaws
namespace Go.Proofs.YtnboagmibhllpaaGreatDoor.Ro
open Go.Proofs.YtnboagmibhllpaaGreatDoor
open Go.Proofs.YtnboagmibhllpaaGreatDoor.Rf (Ref refC RefsR Fit)
open Go Go.ChangeShapes Go.WideShapes Go.ChangeAt Go.RowKit Go.Deep

theorem limW_max {n : Nat} (h : n ≤ limW) : n ≤ maxLen := by unfold limW at h; unfold maxLen; omega
theorem add_at (b off k : Nat) : (⟨b, off, none⟩ : Addr).add k = ⟨b, off + k, none⟩ := by
  unfold Addr.add; split <;> simp_all

section
variable {H : Type} {enc : TypeId × Value → H} {W : World} {base : Nat} {held : Bool}

/-- What came in is no greater than a reach. -/
def Fits (t : TypeId) (d : DataW H) : Prop := ∀ n ∈ d.weights Tryz.prog t, n ≤ reachBytes
theorem Fits.slice {t e : TypeId} {el sp : List (DataW H)} (h : Fits t (.slice el sp)) (hu : Tryz.prog.underlying t = some (.slice e)) : (el.length + sp.length) * Tryz.prog.bytesOf e ≤ reachBytes := h _ (by simp [DataW.weights, hu])
theorem mem_all {P : Program} {e : TypeId} {n : Nat} {d : DataW H} : ∀ {l : List (DataW H)}, d ∈ l → n ∈ d.weights P e → n ∈ DataW.weightsAll P e l
  | x :: l, hd, hn => by
    rw [DataW.weightsAll, List.mem_append]
    rcases List.mem_cons.1 hd with rfl | hd
    · exact .inl hn
    · exact .inr (mem_all hd hn)
theorem Fits.elem {t e : TypeId} {el sp : List (DataW H)} {d : DataW H} (h : Fits t (.slice el sp)) (hu : Tryz.prog.underlying t = some (.slice e)) (hd : d ∈ el) : Fits e d := fun n hn =>
  h _ (by simp only [DataW.weights, hu]; exact List.mem_cons_of_mem _ (List.mem_append_left _ (mem_all hd hn)))
theorem Fits.field {t : TypeId} {fs : Array Field} {xs : List (DataW H × List MemPlace)} {y : DataW H × List MemPlace} {i : Nat} {f : Field} (h : Fits t (.agg (xs.map (·.1)))) (hu : Tryz.prog.underlying t = some (.struct fs)) (hf : fs[i]? = some f) (hy : xs[i]? = some y) : Fits f.type y.1 := fun n hn =>
  h _ (by simp only [DataW.weights, hu]; exact DataW.weights_mem_each (j := i) (t := f.type) (d := y.1) (by simp [hf]) (by simp [hy]) n hn)

/-- A slice, opened. -/
theorem open_rd {α : Type} [Inhabited α] {t e : TypeId} {k fuel : Nat} {v : Value} {x : DataW H × List MemPlace} (f : α → List Value) (Q : α → Prop) (ht : Tryz.prog.underlying t = some (.slice e)) (hs : Tryz.prog.cellsOf e = k)
    (h : DataW.trod enc Tryz.prog W base (fun _ => true) held fuel t [v] = some x) (h0 : 0 < k) (hF : Fits t x.1) (hby : 0 < Tryz.prog.bytesOf e)
    (hel : ∀ b off n cs y, W.cells? base ⟨b, off, none⟩ k = some cs → DataW.trod enc Tryz.prog W base (fun _ => true) held n e cs = some y → Fits e y.1 → ∃ o, Q o ∧ ∀ i, i < k → W.cell? ⟨b, off + i, none⟩ = (f o)[i]?) :
    ∃ l : List α, l.length ≤ limW ∧ (∀ o ∈ l, Q o) ∧ RdK k f W v l := by
  rcases open_slice ht h with ⟨h0, _⟩ | ⟨a, len, cap, m, n, D, Pl, h0', hb, hl, hm, hmm, rfl, hx⟩
  · cases h0
    exact ⟨[], by simp, fun o ho => by simp at ho, .inl ⟨⟨_, _, rfl⟩, rfl⟩⟩
  · cases h0'
    have hlm : len ≤ m := by rw [hmm]; split <;> omega
    rw [hs] at hx
    by_cases hl0 : len = 0
    · subst hl0
      exact ⟨[], by simp, fun o ho => by simp at ho, .inl ⟨⟨_, _, rfl⟩, rfl⟩⟩
    have hsp : a.spot = none := by
      obtain ⟨cs, h1, _⟩ := hx 0 (by omega)
      obtain ⟨_, h3, h4⟩ := World.cells?_some h1
      have hc0 := h4 0 h0
      rw [List.getElem?_eq_getElem (by omega)] at hc0
      have hsp := World.cell?_spot hc0
      simpa [Addr.add] using hsp
    obtain ⟨b, off, sp⟩ := a
    cases hsp
    have each : ∀ i, i < len → ∃ o, Q o ∧ ∀ j, j < k → W.cell? ⟨b, off + i * k + j, none⟩ = (f o)[j]? := fun i hi => by
      obtain ⟨cs, h1, h2⟩ := hx i (by omega)
      rw [add_at] at h1
      exact hel _ _ _ _ _ h1 h2 (hF.elem ht (List.mem_map.2 ⟨i, List.mem_range.2 hi, rfl⟩))
    obtain ⟨g, hg⟩ := choose_lt each
    have hlen : ((List.range len).map g).length = len := by simp
    have hw := hF.slice ht
    have hw2 : len ≤ reachBytes := by
      refine Nat.le_trans ?_ hw
      simp only [List.length_map, List.length_range]
      exact Nat.le_trans (Nat.le_add_right _ _) (Nat.le_mul_of_pos_right _ hby)
    have hlt : b < W.heap.size := by
      obtain ⟨cs, h1, _⟩ := hx 0 (by omega)
      obtain ⟨_, h3, h4⟩ := World.cells?_some h1
      have hc0 := h4 0 h0
      rw [List.getElem?_eq_getElem (by omega), add_at, add_at] at hc0
      exact World.block_lt_of_cell? W _ hc0
    refine ⟨(List.range len).map g, by rw [hlen]; simp [reachBytes] at hw2; unfold limW; omega, fun o ho => ?_, .inr ⟨b, off, cap, by rw [hlen], by rw [hlen]; exact hl, hlt, fun j hj x hx i hi => ?_⟩⟩
    · obtain ⟨i, hi, rfl⟩ := List.mem_map.1 ho
      exact (hg i (List.mem_range.1 hi)).1
    · rw [hlen] at hj
      have eo : g j = x := by simpa [hj] using hx
      subst eo
      exact (hg j hj).2 i hi

theorem cell1S : Tryz.prog.cellsOf 9 = 1 := by kernel_rfl
theorem cell1I : Tryz.prog.cellsOf 3 = 1 := by kernel_rfl
theorem cell1L : Tryz.prog.cellsOf 22 = 1 := by kernel_rfl
theorem fld {n off k : Nat} {t : TypeId} {cs : List Value} {y : Option (DataW H × List MemPlace)} (hc : Tryz.prog.cellsOf t = k) (h : DataW.trod enc Tryz.prog W base (fun _ => true) held n t ((cs.drop off).take (Tryz.prog.cellsOf t)) = y) : DataW.trod enc Tryz.prog W base (fun _ => true) held n t ((cs.drop off).take k) = y := hc ▸ h

set_option maxRecDepth 100000 in
theorem open_S {fuel : Nat} {v : Value} {x : DataW H × List MemPlace} (h : DataW.trod enc Tryz.prog W base (fun _ => true) held fuel 9 [v] = some x) (hF : Fits 9 x.1) : ∃ p : List UInt8, p.length ≤ limW ∧ v = SV p := by
  obtain ⟨s, h1, rfl, h3⟩ := DataW.trod_string Tryz.underlying9 h
  cases h1
  have hw := hF s.data.toList.length (by simp [DataW.weights])
  exact ⟨s.data.toList, by simp [reachBytes] at hw; rw [Array.length_toList]; unfold limW; show s.size ≤ _; omega, rfl⟩
set_option maxRecDepth 100000 in
theorem open_I {fuel : Nat} {v : Value} {x : DataW H × List MemPlace} (h : DataW.trod enc Tryz.prog W base (fun _ => true) held fuel 3 [v] = some x) : ∃ n : Int, v = .int .i64 n := by
  obtain ⟨n, h1, _⟩ := DataW.trod_int Tryz.underlying3 h
  exact ⟨n, by simpa using h1⟩

set_option maxRecDepth 100000 in
theorem open_str (b off n : Nat) (cs : List Value) (y : DataW H × List MemPlace) (h1 : W.cells? base ⟨b, off, none⟩ 1 = some cs) (h2 : DataW.trod enc Tryz.prog W base (fun _ => true) held n 9 cs = some y) (hF : Fits 9 y.1) :
    ∃ o : List UInt8, o.length ≤ limW ∧ ∀ i, i < 1 → W.cell? ⟨b, off + i, none⟩ = (strC o)[i]? := by
  obtain ⟨_, h3, h4⟩ := World.cells?_some h1
  match cs, h3 with
  | [v0], _ =>
    obtain ⟨p, hp, rfl⟩ := open_S (v := v0) h2 hF
    refine ⟨p, hp, fun i hi => ?_⟩
    have c := h4 i hi
    rw [add_at] at c
    rw [c]
    match i, hi with
    | 0, _ => rfl
theorem open_strs {fuel : Nat} {v : Value} {x : DataW H × List MemPlace} (h : DataW.trod enc Tryz.prog W base (fun _ => true) held fuel 22 [v] = some x) (hF : Fits 22 x.1) : ∃ l : List (List UInt8), l.length ≤ limW ∧ (∀ o ∈ l, o.length ≤ limW) ∧ StrsR W v l :=
  open_rd strC (fun o => o.length ≤ limW) Tryz.underlying22 (by kernel_rfl) h (by omega) hF (of_decide_eq_true (by kernel_rfl)) open_str

instance laidRef : Inhabited Ref := ⟨⟨[], []⟩⟩
def FitW (x : Ref) : Prop := x.name.length ≤ limW ∧ x.id.length ≤ limW
set_option maxRecDepth 100000 in
theorem open_Ref (b off n : Nat) (cs : List Value) (y : DataW H × List MemPlace) (h1 : W.cells? base ⟨b, off, none⟩ 2 = some cs) (h2 : DataW.trod enc Tryz.prog W base (fun _ => true) held n 75 cs = some y) (hF : Fits 75 y.1) :
    ∃ o : Ref, FitW o ∧ ∀ i, i < 2 → W.cell? ⟨b, off + i, none⟩ = (refC o)[i]? := by
  obtain ⟨_, h3, h4⟩ := World.cells?_some h1
  obtain ⟨xs, n', _, rfl, _, hlen, hf⟩ := DataW.trod_struct Tryz.underlying75 h2
  match cs, h3 with
  | [v0, v1], _ =>
    match xs, hlen with
    | [y0, y1], _ =>
      have f0 := fld (cs := [v0, v1]) (off := 0) cell1S (hf 0 _ rfl)
      have f1 := fld (cs := [v0, v1]) (off := 1) cell1S (hf 1 _ rfl)
      obtain ⟨p0, hp0, rfl⟩ := open_S (v := v0) f0 (hF.field Tryz.underlying75 (i := 0) rfl rfl)
      obtain ⟨p1, hp1, rfl⟩ := open_S (v := v1) f1 (hF.field Tryz.underlying75 (i := 1) rfl rfl)
      refine ⟨⟨p0, p1⟩, ⟨hp0, hp1⟩, fun i hi => ?_⟩
      have c := h4 i hi
      rw [add_at] at c
      rw [c]
      match i, hi with
      | 0, _ => rfl
      | 1, _ => rfl
theorem open_Refs {fuel : Nat} {v : Value} {x : DataW H × List MemPlace} (h : DataW.trod enc Tryz.prog W base (fun _ => true) held fuel 40 [v] = some x) (hF : Fits 40 x.1) : ∃ l : List Ref, l.length ≤ limW ∧ (∀ o ∈ l, FitW o) ∧ RefsR W v l :=
  open_rd refC FitW Tryz.underlying40 (by kernel_rfl) h (by omega) hF (of_decide_eq_true (by kernel_rfl)) open_Ref


instance laidFc : Inhabited Fc := ⟨⟨[], false, [], .slice none 0 0, .slice none 0 0⟩⟩
theorem cell1Bo : Tryz.prog.cellsOf 4 = 1 := by kernel_rfl
theorem cell1R : Tryz.prog.cellsOf 40 = 1 := by kernel_rfl
theorem cell1F : Tryz.prog.cellsOf 23 = 1 := by kernel_rfl
theorem open_Bo {fuel : Nat} {v : Value} {x : DataW H × List MemPlace} (h : DataW.trod enc Tryz.prog W base (fun _ => true) held fuel 4 [v] = some x) : ∃ b : Bool, v = .bool b := by
  obtain ⟨b, h1, _⟩ := DataW.trod_bool Tryz.underlying4 h
  exact ⟨b, by simpa using h1⟩
theorem open_In {fuel : Nat} {v : Value} {x : DataW H × List MemPlace} (h : DataW.trod enc Tryz.prog W base (fun _ => true) held fuel 3 [v] = some x) : ∃ n : Int, v = .int .i64 n ∧ -9223372036854775808 ≤ n ∧ n ≤ 9223372036854775807 := by
  obtain ⟨n, h1, _, h3⟩ := DataW.trod_int Tryz.underlying3 h
  have h4 := (Lit.wf_int_iff .i64 n).1 h3
  have e1 : IntKind.i64.min = -9223372036854775808 := rfl
  have e2 : IntKind.i64.max = 9223372036854775807 := rfl
  exact ⟨n, by simpa using h1, by omega, by omega⟩
def IsFc (W : World) (x : Fc) : Prop := ∃ f : Fk, FkR W x f ∧ BigF f
set_option maxRecDepth 100000 in
theorem open_Fork (b off n : Nat) (cs : List Value) (y : DataW H × List MemPlace) (h1 : W.cells? base ⟨b, off, none⟩ 5 = some cs) (h2 : DataW.trod enc Tryz.prog W base (fun _ => true) held n 42 cs = some y) (hF : Fits 42 y.1) :
    ∃ o : Fc, IsFc W o ∧ ∀ i, i < 5 → W.cell? ⟨b, off + i, none⟩ = (fkC o)[i]? := by
  obtain ⟨_, h3, h4⟩ := World.cells?_some h1
  obtain ⟨xs, n', _, rfl, _, hlen, hf⟩ := DataW.trod_struct Tryz.underlying42 h2
  match cs, h3 with
  | [v0, v1, v2, v3, v4], _ =>
    match xs, hlen with
    | [y0, y1, y2, y3, y4], _ =>
      have f0 := fld (cs := [v0, v1, v2, v3, v4]) (off := 0) cell1S (hf 0 _ rfl)
      have f1 := fld (cs := [v0, v1, v2, v3, v4]) (off := 1) cell1Bo (hf 1 _ rfl)
      have f2 := fld (cs := [v0, v1, v2, v3, v4]) (off := 2) cell1S (hf 2 _ rfl)
      have f3 := fld (cs := [v0, v1, v2, v3, v4]) (off := 3) cell1R (hf 3 _ rfl)
      have f4 := fld (cs := [v0, v1, v2, v3, v4]) (off := 4) cell1L (hf 4 _ rfl)
      obtain ⟨p0, hp0, rfl⟩ := open_S (v := v0) f0 (hF.field Tryz.underlying42 (i := 0) rfl rfl)
      obtain ⟨p1, rfl⟩ := open_Bo (v := v1) f1
      obtain ⟨p2, hp2, rfl⟩ := open_S (v := v2) f2 (hF.field Tryz.underlying42 (i := 2) rfl rfl)
      obtain ⟨l3, hl3, hr3, hv3⟩ := open_Refs (v := v3) f3 (hF.field Tryz.underlying42 (i := 3) rfl rfl)
      obtain ⟨l4, hl4, hr4, hv4⟩ := open_strs (v := v4) f4 (hF.field Tryz.underlying42 (i := 4) rfl rfl)
      refine ⟨⟨p0, p1, p2, v3, v4⟩, ⟨⟨p0, p1, p2, l3, l4⟩, ⟨rfl, rfl, rfl, hv3, hv4⟩, ⟨limW_max hp0, limW_max hp2, fun x hx => ⟨limW_max (hr3 x hx).1, limW_max (hr3 x hx).2⟩, hl3, fun x hx => limW_max (hr4 x hx), hl4⟩⟩, fun i hi => ?_⟩
      have c := h4 i hi
      rw [add_at] at c
      rw [c]
      match i, hi with
      | 0, _ => rfl
      | 1, _ => rfl
      | 2, _ => rfl
      | 3, _ => rfl
      | 4, _ => rfl
theorem each_at {xs : List Fc} (h : ∀ x ∈ xs, IsFc W x) : ∃ fs : List Fk, xs.length = fs.length ∧ (∀ f ∈ fs, BigF f) ∧ ∀ (k : Nat) (x : Fc) (f : Fk), xs[k]? = some x → fs[k]? = some f → FkR W x f := by
  induction xs with
  | nil => exact ⟨[], rfl, (fun _ h => by cases h), fun k x f hx => by simp at hx⟩
  | cons x xs ih =>
    obtain ⟨f, h1, h2⟩ := h x List.mem_cons_self
    obtain ⟨fs, k1, k2, k3⟩ := ih fun y hy => h y (List.mem_cons_of_mem _ hy)
    refine ⟨f :: fs, by simp [k1], fun g hg => ?_, fun k y g hy hg => ?_⟩
    · rcases List.mem_cons.1 hg with rfl | hg
      · exact h2
      · exact k2 g hg
    · cases k with
      | zero => simp at hy hg; subst hy; subst hg; exact h1
      | succ k => exact k3 k y g (by simpa using hy) (by simpa using hg)
theorem open_Forks {fuel : Nat} {v : Value} {x : DataW H × List MemPlace} (h : DataW.trod enc Tryz.prog W base (fun _ => true) held fuel 23 [v] = some x) (hF : Fits 23 x.1) : ∃ l : List Fk, l.length ≤ limW ∧ (∀ f ∈ l, BigF f) ∧ FksR W v l := by
  obtain ⟨xs, h1, h2, h3⟩ := open_rd fkC (IsFc W) Tryz.underlying23 (by kernel_rfl) h (by omega) hF (of_decide_eq_true (by kernel_rfl)) open_Fork
  obtain ⟨fs, k1, k2, k3⟩ := each_at h2
  exact ⟨fs, by omega, k2, xs, h3, k1, k3⟩
set_option maxRecDepth 100000 in
theorem open_Root {n : Nat} {cs : List Value} {y : DataW H × List MemPlace} (h3 : cs.length = 3) (h2 : DataW.trod enc Tryz.prog W base (fun _ => true) held n 25 cs = some y) (hF : Fits 25 y.1) :
    ∃ r : Rt, BigR r ∧ RtR W (.agg cs.toArray) r := by
  obtain ⟨xs, n', _, rfl, _, hlen, hf⟩ := DataW.trod_struct Tryz.underlying25 h2
  match cs, h3 with
  | [v0, v1, v2], _ =>
    match xs, hlen with
    | [y0, y1, y2], _ =>
      have f0 := fld (cs := [v0, v1, v2]) (off := 0) cell1I (hf 0 _ rfl)
      have f1 := fld (cs := [v0, v1, v2]) (off := 1) cell1L (hf 1 _ rfl)
      have f2 := fld (cs := [v0, v1, v2]) (off := 2) cell1F (hf 2 _ rfl)
      obtain ⟨z, rfl, hz1, hz2⟩ := open_In (v := v0) f0
      obtain ⟨l1, hl1, hr1, hv1⟩ := open_strs (v := v1) f1 (hF.field Tryz.underlying25 (i := 1) rfl rfl)
      obtain ⟨l2, hl2, hr2, hv2⟩ := open_Forks (v := v2) f2 (hF.field Tryz.underlying25 (i := 2) rfl rfl)
      exact ⟨⟨z, l1, l2⟩, ⟨fun x hx => limW_max (hr1 x hx), hl1, hr2, hl2, hz1, hz2⟩, ⟨v1, v2, rfl, hv1, hv2⟩⟩
end
theorem fits_of {H : Type} {ts : List TypeId} {ds : List (DataW H)} (h : (DataW.weightsEach Tryz.prog ts ds).all (· ≤ reachBytes) = true) {j : Nat} {t : TypeId} {d : DataW H} (ht : ts[j]? = some t) (hd : ds[j]? = some d) : Fits t d := fun n hn => by
  simpa using List.all_eq_true.1 h _ (DataW.weights_mem_each ht hd n hn)

section
variable {H : Type} {enc : TypeId × Value → H} {W : World} {r : Reach} {b0 : Nat} {v : Value} {d : DataW H} {ps : List MemPlace}
set_option maxRecDepth 100000

theorem root_of (hval : Value.okWide Tryz.prog W r b0 25 v) (hd : DataW.Trod enc Tryz.prog W 0 (fun _ => true) true 25 v d ps) (hF : Fits 25 d) : ∃ r : Rt, BigR r ∧ RtR W v r := by
  obtain ⟨cs, rfl, hs⟩ := okWide_struct Tryz.underlying25 hval
  obtain ⟨fuel, h⟩ := hd
  have hs4 : cs.toList.length = 3 := by rw [Array.length_toList, hs]; kernel_rfl
  exact open_Root hs4 h hF
theorem h00sp {g o : Nat} {sp : Option Nat} {x : Value} (h : W.cell? ((⟨g, o, sp⟩ : Addr).add 0) = some x) : W.cell? ⟨g, o, sp⟩ = some x := by
  have : (⟨g, o, sp⟩ : Addr).add 0 = ⟨g, o, sp⟩ := by simp [Addr.add]
  rwa [this] at h

theorem bytes_of (hval : Value.okWide Tryz.prog W r b0 26 v) (hd : DataW.Trod enc Tryz.prog W 0 (fun _ => true) true 26 v d ps) : ∃ l : List UInt8, l.length ≤ maxLen ∧ Rb W v l := by
  obtain ⟨a, len, cap, rfl⟩ := okWide_slice Tryz.underlying26 hval
  obtain ⟨fuel, h⟩ := hd
  rcases open_ints Tryz.underlying26 Tryz.underlying5 (by kernel_rfl) h with ⟨h0, _⟩ | ⟨a, len, cap, zs, h0, _, hle, hm, hz, _, hc, hw⟩
  · cases h0
    exact ⟨[], by simp, .inl ⟨⟨none, rfl⟩, rfl⟩⟩
  · cases h0
    rw [if_pos rfl] at hz
    by_cases h00 : cap = 0
    · have : len = 0 := by omega
      subst this; subst h00
      exact ⟨[], by simp, .inl ⟨⟨some a, rfl⟩, rfl⟩⟩
    · obtain ⟨g, o, sp⟩ := a
      have hsp : sp = none := cell_spot (h00sp (hc 0 (by omega)))
      subst hsp
      have hcell : ∀ i, i < cap → W.cell? ⟨g, o + i, none⟩ = some (.int .u8 (zs.getD i 0)) := fun i hi => by
        have := hc i (by omega)
        rwa [add_none] at this
      have hby : ∀ i, i < cap → zs.getD i 0 = (((zs.map fun z => UInt8.ofNat z.toNat).getD i 0).toNat : Int) := fun i hi => by
        rw [List.getD_eq_getElem?_getD, List.getD_eq_getElem?_getD, List.getElem?_map, List.getElem?_eq_getElem (by omega)]
        have := bounds_u8 (hw _ (List.getElem_mem (show i < zs.length by omega)))
        simp
        omega
      refine ⟨(zs.map fun z => UInt8.ofNat z.toNat).take len, by rw [List.length_take, List.length_map]; omega, .inr ⟨g, o, cap, ?_, ?_, ?_, fun j hj => ?_⟩⟩
      · rw [List.length_take, List.length_map, hz, Nat.min_eq_left hle]
      · rw [List.length_take, List.length_map]; omega
      · have := block_lt_of_cell (hcell 0 (by omega)); exact this
      · rw [List.length_take, List.length_map] at hj
        rw [hcell j (by omega), hby j (by omega)]
        congr 3
        rw [List.getD_eq_getElem?_getD, List.getD_eq_getElem?_getD, List.getElem?_take, if_pos (by omega)]
theorem u16_of (hval : Value.okWide Tryz.prog W r b0 38 v) (hd : DataW.Trod enc Tryz.prog W 0 (fun _ => true) true 38 v d ps) : ∃ n : Nat, n < 65536 ∧ v = .int .u16 (n : Int) := by
  obtain ⟨n, rfl, _, _, hw⟩ := open_int Tryz.underlying38 hval hd
  have hn := bounds_u16 hw
  obtain ⟨m, rfl⟩ := Int.eq_ofNat_of_zero_le hn.1
  exact ⟨m, by omega, rfl⟩
end
end Go.Proofs.YtnboagmibhllpaaGreatDoor.Ro
