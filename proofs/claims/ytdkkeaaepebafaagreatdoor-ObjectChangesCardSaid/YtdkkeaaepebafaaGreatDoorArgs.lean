/-
  What comes in: items, texts, commits, tags, objects, as they read.
-/
import Derived.Test.YtdkkeaaepebafaaGreatDoorGreatO
import Derived.Test.YtdkkeaaepebafaaGreatDoorLabel
import Derived.Test.YtdkkeaaepebafaaGreatDoorLblR
import Derived.Deep.Slices
import Derived.ChangeArms
import Derived.DataShut
import Derived.SizedLaws
namespace Go.Proofs.YtdkkeaaepebafaaGreatDoor
open Go Go.RowKit Go.Deep

theorem add_at (b off k : Nat) : (⟨b, off, none⟩ : Addr).add k = ⟨b, off + k, none⟩ := by
  unfold Addr.add; split <;> simp_all

section
variable {H : Type} {enc : TypeId × Value → H} {W : World} {base : Nat} {held : Bool}

/-- What came in is no greater than a reach. -/
def Fits (t : TypeId) (d : DataW H) : Prop := ∀ n ∈ d.weights Tryz.prog t, n ≤ reachBytes
theorem Fits.slice {t e : TypeId} {el sp : List (DataW H)} (h : Fits t (.slice el sp)) (hu : Tryz.prog.underlying t = some (.slice e)) : (el.length + sp.length) * Tryz.prog.bytesOf e ≤ reachBytes := h _ (by simp [DataW.weights, hu])
theorem mem_all {P : Program} {e : TypeId} {n : Nat} {d : DataW H} : ∀ {l : List (DataW H)}, d ∈ l → n ∈ d.weights P e → n ∈ DataW.weightsAll P e l
  | x :: l, hd, hn => by
    rw [DataW.weightsAll, List.mem_append]
    rcases List.mem_cons.1 hd with rfl | hd
    · exact .inl hn
    · exact .inr (mem_all hd hn)
theorem Fits.elem {t e : TypeId} {el sp : List (DataW H)} {d : DataW H} (h : Fits t (.slice el sp)) (hu : Tryz.prog.underlying t = some (.slice e)) (hd : d ∈ el) : Fits e d := fun n hn =>
  h _ (by simp only [DataW.weights, hu]; exact List.mem_cons_of_mem _ (List.mem_append_left _ (mem_all hd hn)))
theorem Fits.field {t : TypeId} {fs : Array Field} {xs : List (DataW H × List MemPlace)} {y : DataW H × List MemPlace} {i : Nat} {f : Field} (h : Fits t (.agg (xs.map (·.1)))) (hu : Tryz.prog.underlying t = some (.struct fs)) (hf : fs[i]? = some f) (hy : xs[i]? = some y) : Fits f.type y.1 := fun n hn =>
  h _ (by simp only [DataW.weights, hu]; exact DataW.weights_mem_each (j := i) (t := f.type) (d := y.1) (by simp [hf]) (by simp [hy]) n hn)

/-- A slice, opened. -/
theorem open_rd {α : Type} [Inhabited α] {t e : TypeId} {k fuel : Nat} {v : Value} {x : DataW H × List MemPlace} (f : α → List Value) (Q : α → Prop) (ht : Tryz.prog.underlying t = some (.slice e)) (hs : Tryz.prog.cellsOf e = k)
    (h : DataW.trod enc Tryz.prog W base (fun _ => true) held fuel t [v] = some x) (h0 : 0 < k) (hF : Fits t x.1) (hby : 0 < Tryz.prog.bytesOf e)
    (hel : ∀ b off n cs y, W.cells? base ⟨b, off, none⟩ k = some cs → DataW.trod enc Tryz.prog W base (fun _ => true) held n e cs = some y → Fits e y.1 → ∃ o, Q o ∧ ∀ i, i < k → W.cell? ⟨b, off + i, none⟩ = (f o)[i]?) :
    ∃ l : List α, l.length ≤ lim ∧ (∀ o ∈ l, Q o) ∧ RdK k f W v l := by
  rcases open_slice ht h with ⟨h0, _⟩ | ⟨a, len, cap, m, n, D, Pl, h0', hb, hl, hm, hmm, rfl, hx⟩
  · cases h0
    exact ⟨[], by simp, fun o ho => by simp at ho, .inl ⟨⟨_, _, rfl⟩, rfl⟩⟩
  · cases h0'
    have hlm : len ≤ m := by rw [hmm]; split <;> omega
    rw [hs] at hx
    by_cases hl0 : len = 0
    · subst hl0
      exact ⟨[], by simp, fun o ho => by simp at ho, .inl ⟨⟨_, _, rfl⟩, rfl⟩⟩
    have hsp : a.spot = none := by
      obtain ⟨cs, h1, _⟩ := hx 0 (by omega)
      obtain ⟨_, h3, h4⟩ := World.cells?_some h1
      have hc0 := h4 0 h0
      rw [List.getElem?_eq_getElem (by omega)] at hc0
      have hsp := World.cell?_spot hc0
      simpa [Addr.add] using hsp
    obtain ⟨b, off, sp⟩ := a
    cases hsp
    have each : ∀ i, i < len → ∃ o, Q o ∧ ∀ j, j < k → W.cell? ⟨b, off + i * k + j, none⟩ = (f o)[j]? := fun i hi => by
      obtain ⟨cs, h1, h2⟩ := hx i (by omega)
      rw [add_at] at h1
      exact hel _ _ _ _ _ h1 h2 (hF.elem ht (List.mem_map.2 ⟨i, List.mem_range.2 hi, rfl⟩))
    obtain ⟨g, hg⟩ := choose_lt each
    have hlen : ((List.range len).map g).length = len := by simp
    have hw := hF.slice ht
    have hw2 : len ≤ reachBytes := by
      refine Nat.le_trans ?_ hw
      simp only [List.length_map, List.length_range]
      exact Nat.le_trans (Nat.le_add_right _ _) (Nat.le_mul_of_pos_right _ hby)
    have hlt : b < W.heap.size := by
      obtain ⟨cs, h1, _⟩ := hx 0 (by omega)
      obtain ⟨_, h3, h4⟩ := World.cells?_some h1
      have hc0 := h4 0 h0
      rw [List.getElem?_eq_getElem (by omega), add_at, add_at] at hc0
      exact World.block_lt_of_cell? W _ hc0
    refine ⟨(List.range len).map g, by rw [hlen]; simp [reachBytes] at hw2; unfold lim; omega, fun o ho => ?_, .inr ⟨b, off, cap, by rw [hlen], by rw [hlen]; exact hl, hlt, fun j hj x hx i hi => ?_⟩⟩
    · obtain ⟨i, hi, rfl⟩ := List.mem_map.1 ho
      exact (hg i (List.mem_range.1 hi)).1
    · rw [hlen] at hj
      have eo : g j = x := by simpa [hj] using hx
      subst eo
      exact (hg j hj).2 i hi

theorem cell1S : Tryz.prog.cellsOf 9 = 1 := by kernel_rfl
theorem cell1I : Tryz.prog.cellsOf 3 = 1 := by kernel_rfl
theorem cell1L : Tryz.prog.cellsOf 38 = 1 := by kernel_rfl
theorem fld {n off k : Nat} {t : TypeId} {cs : List Value} {y : Option (DataW H × List MemPlace)} (hc : Tryz.prog.cellsOf t = k) (h : DataW.trod enc Tryz.prog W base (fun _ => true) held n t ((cs.drop off).take (Tryz.prog.cellsOf t)) = y) : DataW.trod enc Tryz.prog W base (fun _ => true) held n t ((cs.drop off).take k) = y := hc ▸ h

set_option maxRecDepth 100000 in
theorem open_S {fuel : Nat} {v : Value} {x : DataW H × List MemPlace} (h : DataW.trod enc Tryz.prog W base (fun _ => true) held fuel 9 [v] = some x) (hF : Fits 9 x.1) : ∃ p : List UInt8, p.length ≤ lim ∧ v = SV p := by
  obtain ⟨s, h1, rfl, h3⟩ := DataW.trod_string Tryz.underlying9 h
  cases h1
  have hw := hF s.data.toList.length (by simp [DataW.weights])
  exact ⟨s.data.toList, by simp [reachBytes] at hw; rw [Array.length_toList]; unfold lim; show s.size ≤ _; omega, rfl⟩
set_option maxRecDepth 100000 in
theorem open_I {fuel : Nat} {v : Value} {x : DataW H × List MemPlace} (h : DataW.trod enc Tryz.prog W base (fun _ => true) held fuel 3 [v] = some x) : ∃ n : Int, v = .int .i64 n := by
  obtain ⟨n, h1, _⟩ := DataW.trod_int Tryz.underlying3 h
  exact ⟨n, by simpa using h1⟩

instance : Inhabited Itm := ⟨noItm⟩

/-- Lengths that may come in. -/
def FitI (x : Itm) : Prop := x.name.length ≤ lim ∧ x.id.length ≤ lim
set_option maxRecDepth 100000 in
theorem open_item (b off n : Nat) (cs : List Value) (y : DataW H × List MemPlace) (h1 : W.cells? base ⟨b, off, none⟩ 3 = some cs) (h2 : DataW.trod enc Tryz.prog W base (fun _ => true) held n 54 cs = some y) (hF : Fits 54 y.1) :
    ∃ o, FitI o ∧ ∀ i, i < 3 → W.cell? ⟨b, off + i, none⟩ = (itmC o)[i]? := by
  obtain ⟨_, h3, h4⟩ := World.cells?_some h1
  obtain ⟨xs, n', _, rfl, _, hlen, hf⟩ := DataW.trod_struct Tryz.underlying54 h2
  match cs, h3 with
  | [v0, v1, v2], _ =>
    match xs, hlen with
    | [y0, y1, y2], _ =>
      have f0 := fld (cs := [v0, v1, v2]) (off := 0) cell1I (hf 0 _ rfl)
      have f1 := fld (cs := [v0, v1, v2]) (off := 1) cell1S (hf 1 _ rfl)
      have f2 := fld (cs := [v0, v1, v2]) (off := 2) cell1S (hf 2 _ rfl)
      obtain ⟨m, rfl⟩ := open_I (v := v0) f0
      obtain ⟨p, hp, rfl⟩ := open_S (v := v1) f1 (hF.field Tryz.underlying54 (i := 1) rfl rfl)
      obtain ⟨q, hq, rfl⟩ := open_S (v := v2) f2 (hF.field Tryz.underlying54 (i := 2) rfl rfl)
      refine ⟨⟨m, p, q⟩, ⟨hp, hq⟩, fun i hi => ?_⟩
      have c := h4 i hi
      rw [add_at] at c
      rw [c]
      match i, hi with
      | 0, _ => rfl
      | 1, _ => rfl
      | 2, _ => rfl
theorem open_items {fuel : Nat} {v : Value} {x : DataW H × List MemPlace} (h : DataW.trod enc Tryz.prog W base (fun _ => true) held fuel 30 [v] = some x) (hF : Fits 30 x.1) : ∃ l : List Itm, l.length ≤ lim ∧ (∀ o ∈ l, FitI o) ∧ ItmsR W v l :=
  open_rd itmC FitI Tryz.underlying30 (by kernel_rfl) h (by omega) hF (of_decide_eq_true (by kernel_rfl)) open_item
set_option maxRecDepth 100000 in
theorem open_str (b off n : Nat) (cs : List Value) (y : DataW H × List MemPlace) (h1 : W.cells? base ⟨b, off, none⟩ 1 = some cs) (h2 : DataW.trod enc Tryz.prog W base (fun _ => true) held n 9 cs = some y) (hF : Fits 9 y.1) :
    ∃ o : List UInt8, o.length ≤ lim ∧ ∀ i, i < 1 → W.cell? ⟨b, off + i, none⟩ = (strC o)[i]? := by
  obtain ⟨_, h3, h4⟩ := World.cells?_some h1
  match cs, h3 with
  | [v0], _ =>
    obtain ⟨p, hp, rfl⟩ := open_S (v := v0) h2 hF
    refine ⟨p, hp, fun i hi => ?_⟩
    have c := h4 i hi
    rw [add_at] at c
    rw [c]
    match i, hi with
    | 0, _ => rfl
theorem open_strs {fuel : Nat} {v : Value} {x : DataW H × List MemPlace} (h : DataW.trod enc Tryz.prog W base (fun _ => true) held fuel 38 [v] = some x) (hF : Fits 38 x.1) : ∃ l : List (List UInt8), l.length ≤ lim ∧ (∀ o ∈ l, o.length ≤ lim) ∧ StrsR W v l :=
  open_rd strC (fun o => o.length ≤ lim) Tryz.underlying38 (by kernel_rfl) h (by omega) hF (of_decide_eq_true (by kernel_rfl)) open_str

/-- A commit that comes in. -/
def FitC (c : Chg) : Prop := c.tree.length ≤ lim ∧ c.parents.length ≤ lim ∧ c.who.length ≤ lim ∧ c.text.length ≤ lim
set_option maxRecDepth 100000 in
theorem open_change {fuel : Nat} {cs : List Value} {y : DataW H × List MemPlace} (h3 : cs.length = 4) (h2 : DataW.trod enc Tryz.prog W base (fun _ => true) held fuel 40 cs = some y) (hF : Fits 40 y.1) :
    ∃ c vp, FitC c ∧ StrsR W vp c.parents ∧ Value.agg cs.toArray = ChgV c vp := by
  obtain ⟨xs, n', _, rfl, _, hlen, hf⟩ := DataW.trod_struct Tryz.underlying40 h2
  match cs, h3 with
  | [v0, v1, v2, v3], _ =>
    match xs, hlen with
    | [y0, y1, y2, y3], _ =>
      have f0 := fld (cs := [v0, v1, v2, v3]) (off := 0) cell1S (hf 0 _ rfl)
      have f1 := fld (cs := [v0, v1, v2, v3]) (off := 1) cell1L (hf 1 _ rfl)
      have f2 := fld (cs := [v0, v1, v2, v3]) (off := 2) cell1S (hf 2 _ rfl)
      have f3 := fld (cs := [v0, v1, v2, v3]) (off := 3) cell1S (hf 3 _ rfl)
      obtain ⟨a, ha, rfl⟩ := open_S (v := v0) f0 (hF.field Tryz.underlying40 (i := 0) rfl rfl)
      obtain ⟨ps, hps, _, hr⟩ := open_strs (v := v1) f1 (hF.field Tryz.underlying40 (i := 1) rfl rfl)
      obtain ⟨p, hp, rfl⟩ := open_S (v := v2) f2 (hF.field Tryz.underlying40 (i := 2) rfl rfl)
      obtain ⟨q, hq, rfl⟩ := open_S (v := v3) f3 (hF.field Tryz.underlying40 (i := 3) rfl rfl)
      exact ⟨⟨a, ps, p, q⟩, v1, ⟨ha, hps, hp, hq⟩, hr, rfl⟩
def FitL (l : Lbl) : Prop := l.id.length ≤ lim ∧ l.name.length ≤ lim ∧ l.text.length ≤ lim
set_option maxRecDepth 100000 in
theorem open_label {fuel : Nat} {cs : List Value} {y : DataW H × List MemPlace} (h3 : cs.length = 4) (h2 : DataW.trod enc Tryz.prog W base (fun _ => true) held fuel 42 cs = some y) (hF : Fits 42 y.1) :
    ∃ l, FitL l ∧ Value.agg cs.toArray = LblV l := by
  obtain ⟨xs, n', _, rfl, _, hlen, hf⟩ := DataW.trod_struct Tryz.underlying42 h2
  match cs, h3 with
  | [v0, v1, v2, v3], _ =>
    match xs, hlen with
    | [y0, y1, y2, y3], _ =>
      have f0 := fld (cs := [v0, v1, v2, v3]) (off := 0) cell1S (hf 0 _ rfl)
      have f1 := fld (cs := [v0, v1, v2, v3]) (off := 1) cell1I (hf 1 _ rfl)
      have f2 := fld (cs := [v0, v1, v2, v3]) (off := 2) cell1S (hf 2 _ rfl)
      have f3 := fld (cs := [v0, v1, v2, v3]) (off := 3) cell1S (hf 3 _ rfl)
      obtain ⟨a, ha, rfl⟩ := open_S (v := v0) f0 (hF.field Tryz.underlying42 (i := 0) rfl rfl)
      obtain ⟨k, rfl⟩ := open_I (v := v1) f1
      obtain ⟨p, hp, rfl⟩ := open_S (v := v2) f2 (hF.field Tryz.underlying42 (i := 2) rfl rfl)
      obtain ⟨q, hq, rfl⟩ := open_S (v := v3) f3 (hF.field Tryz.underlying42 (i := 3) rfl rfl)
      exact ⟨⟨a, k, p, q⟩, ⟨ha, hp, hq⟩, rfl⟩
set_option maxRecDepth 100000 in
theorem open_obj {fuel : Nat} {cs : List Value} {y : DataW H × List MemPlace} (h3 : cs.length = 2) (h2 : DataW.trod enc Tryz.prog W base (fun _ => true) held fuel 23 cs = some y) (hF : Fits 23 y.1) :
    ∃ k d, d.length ≤ lim ∧ Value.agg cs.toArray = ObjV k d := by
  obtain ⟨xs, n', _, rfl, _, hlen, hf⟩ := DataW.trod_struct Tryz.underlying23 h2
  match cs, h3 with
  | [v0, v1], _ =>
    match xs, hlen with
    | [y0, y1], _ =>
      have f0 := fld (cs := [v0, v1]) (off := 0) cell1I (hf 0 _ rfl)
      have f1 := fld (cs := [v0, v1]) (off := 1) cell1S (hf 1 _ rfl)
      obtain ⟨k, rfl⟩ := open_I (v := v0) f0
      obtain ⟨p, hp, rfl⟩ := open_S (v := v1) f1 (hF.field Tryz.underlying23 (i := 1) rfl rfl)
      exact ⟨k, p, hp, rfl⟩
end
end Go.Proofs.YtdkkeaaepebafaaGreatDoor
