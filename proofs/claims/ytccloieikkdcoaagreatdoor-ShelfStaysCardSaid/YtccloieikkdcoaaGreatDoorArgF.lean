/-
  What comes in: slices of bytes, of files, as they read.
-/
import Derived.Test.YtccloieikkdcoaaGreatDoorHead
import Derived.Deep.Slices
import Derived.ChangeArms
import Derived.DataShut
import Derived.SizedLaws
namespace Go.Proofs.YtccloieikkdcoaaGreatDoor
open Go Go.RowKit Go.Maps Go.Shelf Go.Deep

/-- A slice value that reads as l, an element by R at its address. -/
def SliceAt {α : Type} (R : Addr → α → Prop) (size : Nat) (v : Value) (l : List α) : Prop :=
  ∃ x c, v = .slice x l.length c ∧ ∀ i o, l[i]? = some o → ∃ b off, x = some ⟨b, off, none⟩ ∧ R ⟨b, off + i * size, none⟩ o

theorem SliceAt.imp {α : Type} {R R' : Addr → α → Prop} {size : Nat} {v : Value} {l : List α} (h : SliceAt R size v l) (hr : ∀ a o, R a o → R' a o) : SliceAt R' size v l := by
  obtain ⟨x, c, rfl, hl⟩ := h
  refine ⟨x, c, rfl, fun i o ho => ?_⟩
  obtain ⟨b, off, e, hR⟩ := hl i o ho
  exact ⟨b, off, e, hr _ _ hR⟩

/-- How long what comes in may be. -/
def lim : Nat := 140737488355328
theorem lim_le : lim ≤ maxLen := by decide

theorem add_at (b off k : Nat) : (⟨b, off, none⟩ : Addr).add k = ⟨b, off + k, none⟩ := by
  unfold Addr.add; split <;> simp_all

section
variable {H : Type} {enc : TypeId × Value → H} {W : World} {base : Nat} {held : Bool}

/-- What came in is no greater than a reach. -/
def Fits (t : TypeId) (d : DataW H) : Prop := ∀ n ∈ d.weights Tryz.prog t, n ≤ reachBytes
theorem Fits.slice {t e : TypeId} {el sp : List (DataW H)} (h : Fits t (.slice el sp)) (hu : Tryz.prog.underlying t = some (.slice e)) : (el.length + sp.length) * Tryz.prog.bytesOf e ≤ reachBytes := h _ (by simp [DataW.weights, hu])
theorem mem_all {P : Program} {e : TypeId} {n : Nat} {d : DataW H} : ∀ {l : List (DataW H)}, d ∈ l → n ∈ d.weights P e → n ∈ DataW.weightsAll P e l
  | x :: l, hd, hn => by
    rw [DataW.weightsAll, List.mem_append]
    rcases List.mem_cons.1 hd with rfl | hd
    · exact .inl hn
    · exact .inr (mem_all hd hn)
theorem Fits.elem {t e : TypeId} {el sp : List (DataW H)} {d : DataW H} (h : Fits t (.slice el sp)) (hu : Tryz.prog.underlying t = some (.slice e)) (hd : d ∈ el) : Fits e d := fun n hn =>
  h _ (by simp only [DataW.weights, hu]; exact List.mem_cons_of_mem _ (List.mem_append_left _ (mem_all hd hn)))
theorem Fits.field {t : TypeId} {fs : Array Field} {xs : List (DataW H × List MemPlace)} {y : DataW H × List MemPlace} {i : Nat} {f : Field} (h : Fits t (.agg (xs.map (·.1)))) (hu : Tryz.prog.underlying t = some (.struct fs)) (hf : fs[i]? = some f) (hy : xs[i]? = some y) : Fits f.type y.1 := fun n hn =>
  h _ (by simp only [DataW.weights, hu]; exact DataW.weights_mem_each (j := i) (t := f.type) (d := y.1) (by simp [hf]) (by simp [hy]) n hn)

theorem open_bytes {fuel : Nat} {v : Value} {x : DataW H × List MemPlace} (h : DataW.trod enc Tryz.prog W base (fun _ => true) held fuel 31 [v] = some x) (hF : Fits 31 x.1) : ∃ b : By, b.length ≤ lim ∧ BytesAt W v b := by
  rcases open_slice1 Tryz.underlying31 (by kernel_rfl) h with ⟨h0, _⟩ | ⟨a, len, cap, m, n, V, D, Pl, h0, hb, hl, hm, hmm, rfl, hx⟩
  · cases h0
    exact ⟨[], by simp, .inl ⟨rfl, rfl⟩⟩
  · cases h0
    have hlm : len ≤ m := by rw [hmm]; split <;> omega
    have each : ∀ i, i < len → ∃ u : UInt8, V i = bv u := fun i hi => by
      obtain ⟨k, h1, _, h3⟩ := DataW.trod_int Tryz.underlying5 (hx i (by omega)).2
      have hk := (Lit.wf_int_iff .u8 k).1 h3
      have h0 : IntKind.u8.min = 0 := rfl
      have h255 : IntKind.u8.max = 255 := rfl
      obtain ⟨j, rfl⟩ := Int.eq_ofNat_of_zero_le (show 0 ≤ k by omega)
      refine ⟨UInt8.ofNat j, ?_⟩
      rw [show V i = .int .u8 (j : Nat) by simpa using h1]
      unfold bv
      rw [UInt8.toNat_ofNat_of_lt' (show j < UInt8.size by show j < 256; omega)]
    obtain ⟨f, hf⟩ := choose_lt each
    have hlen : ((List.range len).map f).length = len := by simp
    have hw := hF.slice Tryz.underlying31
    rw [show Tryz.prog.bytesOf 5 = 1 by kernel_rfl] at hw
    refine ⟨(List.range len).map f, by rw [hlen]; simp [reachBytes] at hw; unfold lim; omega, .inr ⟨a, cap, by rw [hlen], fun i hi => ?_⟩⟩
    rw [hlen] at hi
    rw [(hx i (by omega)).1, hf i hi]
    simp [hi]

/-- A slice of structs, opened. -/
theorem open_structs {α : Type} [Inhabited α] {t e : TypeId} {size fuel : Nat} {v : Value} {x : DataW H × List MemPlace} (R : Addr → α → Prop) (ht : Tryz.prog.underlying t = some (.slice e)) (hs : Tryz.prog.cellsOf e = size)
    (h : DataW.trod enc Tryz.prog W base (fun _ => true) held fuel t [v] = some x) (h0 : 0 < size) (hF : Fits t x.1) (hby : 0 < Tryz.prog.bytesOf e)
    (hel : ∀ b off n cs y, W.cells? base ⟨b, off, none⟩ size = some cs → DataW.trod enc Tryz.prog W base (fun _ => true) held n e cs = some y → Fits e y.1 → ∃ o, R ⟨b, off, none⟩ o) : ∃ l : List α, l.length ≤ lim ∧ SliceAt R size v l := by
  rcases open_slice ht h with ⟨h0, _⟩ | ⟨a, len, cap, m, n, D, Pl, h0', hb, hl, hm, hmm, rfl, hx⟩
  · cases h0
    exact ⟨[], by simp, none, 0, rfl, fun i o ho => by simp at ho⟩
  · cases h0'
    have hlm : len ≤ m := by rw [hmm]; split <;> omega
    rw [hs] at hx
    have hsp : 0 < len → a.spot = none := fun hi => by
      obtain ⟨cs, h1, _⟩ := hx 0 (by omega)
      obtain ⟨_, h3, h4⟩ := World.cells?_some h1
      have hc0 := h4 0 h0
      rw [List.getElem?_eq_getElem (by omega)] at hc0
      have hsp := World.cell?_spot hc0
      simpa [Addr.add] using hsp
    have each : ∀ i, i < len → ∃ o, a.spot = none ∧ R ⟨a.block, a.off + i * size, none⟩ o := fun i hi => by
      obtain ⟨cs, h1, h2⟩ := hx i (by omega)
      have hsp2 := hsp (by omega)
      have ea : a.add (i * size) = ⟨a.block, a.off + i * size, none⟩ := by
        obtain ⟨b, off, sp⟩ := a
        cases hsp2
        unfold Addr.add; split <;> simp_all
      rw [ea] at h1
      obtain ⟨o, ho⟩ := hel _ _ _ _ _ h1 h2 (hF.elem ht (List.mem_map.2 ⟨i, List.mem_range.2 hi, rfl⟩))
      exact ⟨o, hsp2, ho⟩
    obtain ⟨f, hf⟩ := choose_lt each
    have hlen : ((List.range len).map f).length = len := by simp
    have hw := hF.slice ht
    have hw2 : len ≤ reachBytes := by
      refine Nat.le_trans ?_ hw
      simp only [List.length_map, List.length_range]
      exact Nat.le_trans (Nat.le_add_right _ _) (Nat.le_mul_of_pos_right _ hby)
    refine ⟨(List.range len).map f, by rw [hlen]; simp [reachBytes] at hw2; unfold lim; omega, some a, cap, by rw [hlen], fun i o ho => ?_⟩
    have hi : i < len := by rw [← hlen]; exact (List.getElem?_eq_some_iff.1 ho).1
    obtain ⟨hsp, hr⟩ := hf i hi
    have eo : f i = o := by simpa [hi] using ho
    subst eo
    refine ⟨a.block, a.off, ?_, hr⟩
    obtain ⟨b, off, sp⟩ := a
    cases hsp; rfl
end

/-- A file that came in: at address a its two cells. -/
def FileAt (w : World) (a : Addr) (q : By × By) : Prop := ∃ v, w.cell? a = some (S q.1) ∧ w.cell? (a.add 1) = some v ∧ BytesAt w v q.2 ∧ q.1.length ≤ lim ∧ q.2.length ≤ lim
def FilesAt (w : World) (v : Value) (l : Tb) : Prop := SliceAt (FileAt w) 2 v l

theorem cell_below' {w w' : World} (hB : Below w.heap.size w w') {a : Addr} {v : Value} (h : w.cell? a = some v) : w'.cell? a = some v := (hB.cell (World.block_lt_of_cell? w _ h)).trans h

theorem FilesAt.below {w w' : World} {v : Value} {l : Tb} (h : FilesAt w v l) (hB : Below w.heap.size w w') : FilesAt w' v l :=
  h.imp fun _ _ ⟨v, h1, h2, h3, h4⟩ => ⟨v, cell_below' hB h1, cell_below' hB h2, h3.below hB, h4⟩


section
variable {H : Type} {enc : TypeId × Value → H} {W : World} {base : Nat} {held : Bool}

theorem cell1S : Tryz.prog.cellsOf 9 = 1 := by kernel_rfl
theorem cell1B : Tryz.prog.cellsOf 31 = 1 := by kernel_rfl

theorem fld {n off k : Nat} {t : TypeId} {cs : List Value} {y : Option (DataW H × List MemPlace)} (hc : Tryz.prog.cellsOf t = k) (h : DataW.trod enc Tryz.prog W base (fun _ => true) held n t ((cs.drop off).take (Tryz.prog.cellsOf t)) = y) : DataW.trod enc Tryz.prog W base (fun _ => true) held n t ((cs.drop off).take k) = y := hc ▸ h

set_option maxRecDepth 100000 in
theorem open_S {fuel : Nat} {v : Value} {x : DataW H × List MemPlace} (h : DataW.trod enc Tryz.prog W base (fun _ => true) held fuel 9 [v] = some x) (hF : Fits 9 x.1) : ∃ p : By, p.length ≤ lim ∧ v = S p := by
  obtain ⟨s, h1, rfl, h3⟩ := DataW.trod_string Tryz.underlying9 h
  cases h1
  have hw := hF s.data.toList.length (by simp [DataW.weights])
  exact ⟨s.data.toList, by simp [reachBytes] at hw; rw [Array.length_toList]; unfold lim; show s.size ≤ _; omega, rfl⟩

set_option maxRecDepth 100000 in
theorem open_file (b off n : Nat) (cs : List Value) (y : DataW H × List MemPlace) (h1 : W.cells? base ⟨b, off, none⟩ 2 = some cs) (h2 : DataW.trod enc Tryz.prog W base (fun _ => true) held n 56 cs = some y) (hF : Fits 56 y.1) : ∃ o, FileAt W ⟨b, off, none⟩ o := by
  obtain ⟨_, h3, h4⟩ := World.cells?_some h1
  obtain ⟨xs, n', _, rfl, _, hlen, hf⟩ := DataW.trod_struct Tryz.underlying56 h2
  match cs, h3 with
  | [v0, v1], _ =>
    match xs, hlen with
    | [y0, y1], _ =>
      have f0 := fld (cs := [v0, v1]) (off := 0) cell1S (hf 0 _ rfl)
      have f1 := fld (cs := [v0, v1]) (off := 1) cell1B (hf 1 _ rfl)
      obtain ⟨p, hp, rfl⟩ := open_S (v := v0) f0 (hF.field Tryz.underlying56 (i := 0) rfl rfl)
      obtain ⟨d, hd, hb⟩ := open_bytes (v := v1) f1 (hF.field Tryz.underlying56 (i := 1) rfl rfl)
      have c0 := h4 0 (by omega)
      have c1 := h4 1 (by omega)
      exact ⟨(p, d), v1, by simpa [Addr.add] using c0, c1, hb, hp, hd⟩

theorem open_files {fuel : Nat} {v : Value} {x : DataW H × List MemPlace} (h : DataW.trod enc Tryz.prog W base (fun _ => true) held fuel 22 [v] = some x) (hF : Fits 22 x.1) : ∃ l : Tb, l.length ≤ lim ∧ FilesAt W v l :=
  open_structs (FileAt W) Tryz.underlying22 (by kernel_rfl) h (by omega) hF (of_decide_eq_true (by kernel_rfl)) open_file
end
end Go.Proofs.YtccloieikkdcoaaGreatDoor
