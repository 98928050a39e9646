/-
  What comes in: objects with their names, objects, texts, as they read.
  CutErrors.
  CutLess.
  CutUnion.
-/
import Derived.Deep.Slices
import Derived.ChangeArms
import Derived.DataShut
import Derived.SizedLaws
import Derived.Test.YtialgldmogigfaaGreatDoorC26
import Derived.Test.YtialgldmogigfaaGreatDoorC28

namespace Go.Proofs.YtialgldmogigfaaGreatDoor.Ct
open Go.Proofs.YtialgldmogigfaaGreatDoor
open Go Go.RowKit Go.Deep

theorem add_at (b off k : Nat) : (⟨b, off, none⟩ : Addr).add k = ⟨b, off + k, none⟩ := by
  unfold Addr.add; split <;> simp_all

section
variable {H : Type} {enc : TypeId × Value → H} {W : World} {base : Nat} {held : Bool}

/-- What came in is no greater than a reach. -/
def Fits (t : TypeId) (d : DataW H) : Prop := ∀ n ∈ d.weights Tryz.prog t, n ≤ reachBytes
theorem Fits.slice {t e : TypeId} {el sp : List (DataW H)} (h : Fits t (.slice el sp)) (hu : Tryz.prog.underlying t = some (.slice e)) : (el.length + sp.length) * Tryz.prog.bytesOf e ≤ reachBytes := h _ (by simp [DataW.weights, hu])
theorem mem_all {P : Program} {e : TypeId} {n : Nat} {d : DataW H} : ∀ {l : List (DataW H)}, d ∈ l → n ∈ d.weights P e → n ∈ DataW.weightsAll P e l
  | x :: l, hd, hn => by
    rw [DataW.weightsAll, List.mem_append]
    rcases List.mem_cons.1 hd with rfl | hd
    · exact .inl hn
    · exact .inr (mem_all hd hn)
theorem Fits.elem {t e : TypeId} {el sp : List (DataW H)} {d : DataW H} (h : Fits t (.slice el sp)) (hu : Tryz.prog.underlying t = some (.slice e)) (hd : d ∈ el) : Fits e d := fun n hn =>
  h _ (by simp only [DataW.weights, hu]; exact List.mem_cons_of_mem _ (List.mem_append_left _ (mem_all hd hn)))
theorem Fits.field {t : TypeId} {fs : Array Field} {xs : List (DataW H × List MemPlace)} {y : DataW H × List MemPlace} {i : Nat} {f : Field} (h : Fits t (.agg (xs.map (·.1)))) (hu : Tryz.prog.underlying t = some (.struct fs)) (hf : fs[i]? = some f) (hy : xs[i]? = some y) : Fits f.type y.1 := fun n hn =>
  h _ (by simp only [DataW.weights, hu]; exact DataW.weights_mem_each (j := i) (t := f.type) (d := y.1) (by simp [hf]) (by simp [hy]) n hn)

/-- A slice, opened. -/
theorem open_rd {α : Type} [Inhabited α] {t e : TypeId} {k fuel : Nat} {v : Value} {x : DataW H × List MemPlace} (f : α → List Value) (Q : α → Prop) (ht : Tryz.prog.underlying t = some (.slice e)) (hs : Tryz.prog.cellsOf e = k)
    (h : DataW.trod enc Tryz.prog W base (fun _ => true) held fuel t [v] = some x) (h0 : 0 < k) (hF : Fits t x.1) (hby : 0 < Tryz.prog.bytesOf e)
    (hel : ∀ b off n cs y, W.cells? base ⟨b, off, none⟩ k = some cs → DataW.trod enc Tryz.prog W base (fun _ => true) held n e cs = some y → Fits e y.1 → ∃ o, Q o ∧ ∀ i, i < k → W.cell? ⟨b, off + i, none⟩ = (f o)[i]?) :
    ∃ l : List α, l.length ≤ limW ∧ (∀ o ∈ l, Q o) ∧ RdK k f W v l := by
  rcases open_slice ht h with ⟨h0, _⟩ | ⟨a, len, cap, m, n, D, Pl, h0', hb, hl, hm, hmm, rfl, hx⟩
  · cases h0
    exact ⟨[], by simp, fun o ho => by simp at ho, .inl ⟨⟨_, _, rfl⟩, rfl⟩⟩
  · cases h0'
    have hlm : len ≤ m := by rw [hmm]; split <;> omega
    rw [hs] at hx
    by_cases hl0 : len = 0
    · subst hl0
      exact ⟨[], by simp, fun o ho => by simp at ho, .inl ⟨⟨_, _, rfl⟩, rfl⟩⟩
    have hsp : a.spot = none := by
      obtain ⟨cs, h1, _⟩ := hx 0 (by omega)
      obtain ⟨_, h3, h4⟩ := World.cells?_some h1
      have hc0 := h4 0 h0
      rw [List.getElem?_eq_getElem (by omega)] at hc0
      have hsp := World.cell?_spot hc0
      simpa [Addr.add] using hsp
    obtain ⟨b, off, sp⟩ := a
    cases hsp
    have each : ∀ i, i < len → ∃ o, Q o ∧ ∀ j, j < k → W.cell? ⟨b, off + i * k + j, none⟩ = (f o)[j]? := fun i hi => by
      obtain ⟨cs, h1, h2⟩ := hx i (by omega)
      rw [add_at] at h1
      exact hel _ _ _ _ _ h1 h2 (hF.elem ht (List.mem_map.2 ⟨i, List.mem_range.2 hi, rfl⟩))
    obtain ⟨g, hg⟩ := choose_lt each
    have hlen : ((List.range len).map g).length = len := by simp
    have hw := hF.slice ht
    have hw2 : len ≤ reachBytes := by
      refine Nat.le_trans ?_ hw
      simp only [List.length_map, List.length_range]
      exact Nat.le_trans (Nat.le_add_right _ _) (Nat.le_mul_of_pos_right _ hby)
    have hlt : b < W.heap.size := by
      obtain ⟨cs, h1, _⟩ := hx 0 (by omega)
      obtain ⟨_, h3, h4⟩ := World.cells?_some h1
      have hc0 := h4 0 h0
      rw [List.getElem?_eq_getElem (by omega), add_at, add_at] at hc0
      exact World.block_lt_of_cell? W _ hc0
    refine ⟨(List.range len).map g, by rw [hlen]; simp [reachBytes] at hw2; unfold limW; omega, fun o ho => ?_, .inr ⟨b, off, cap, by rw [hlen], by rw [hlen]; exact hl, hlt, fun j hj x hx i hi => ?_⟩⟩
    · obtain ⟨i, hi, rfl⟩ := List.mem_map.1 ho
      exact (hg i (List.mem_range.1 hi)).1
    · rw [hlen] at hj
      have eo : g j = x := by simpa [hj] using hx
      subst eo
      exact (hg j hj).2 i hi

theorem cell1S : Tryz.prog.cellsOf 9 = 1 := by kernel_rfl
theorem cell1I : Tryz.prog.cellsOf 3 = 1 := by kernel_rfl
theorem cell1L : Tryz.prog.cellsOf 23 = 1 := by kernel_rfl
theorem fld {n off k : Nat} {t : TypeId} {cs : List Value} {y : Option (DataW H × List MemPlace)} (hc : Tryz.prog.cellsOf t = k) (h : DataW.trod enc Tryz.prog W base (fun _ => true) held n t ((cs.drop off).take (Tryz.prog.cellsOf t)) = y) : DataW.trod enc Tryz.prog W base (fun _ => true) held n t ((cs.drop off).take k) = y := hc ▸ h

set_option maxRecDepth 100000 in
theorem open_S {fuel : Nat} {v : Value} {x : DataW H × List MemPlace} (h : DataW.trod enc Tryz.prog W base (fun _ => true) held fuel 9 [v] = some x) (hF : Fits 9 x.1) : ∃ p : List UInt8, p.length ≤ limW ∧ v = SV p := by
  obtain ⟨s, h1, rfl, h3⟩ := DataW.trod_string Tryz.underlying9 h
  cases h1
  have hw := hF s.data.toList.length (by simp [DataW.weights])
  exact ⟨s.data.toList, by simp [reachBytes] at hw; rw [Array.length_toList]; unfold limW; show s.size ≤ _; omega, rfl⟩
set_option maxRecDepth 100000 in
theorem open_I {fuel : Nat} {v : Value} {x : DataW H × List MemPlace} (h : DataW.trod enc Tryz.prog W base (fun _ => true) held fuel 3 [v] = some x) : ∃ n : Int, v = .int .i64 n := by
  obtain ⟨n, h1, _⟩ := DataW.trod_int Tryz.underlying3 h
  exact ⟨n, by simpa using h1⟩

set_option maxRecDepth 100000 in
theorem open_str (b off n : Nat) (cs : List Value) (y : DataW H × List MemPlace) (h1 : W.cells? base ⟨b, off, none⟩ 1 = some cs) (h2 : DataW.trod enc Tryz.prog W base (fun _ => true) held n 9 cs = some y) (hF : Fits 9 y.1) :
    ∃ o : List UInt8, o.length ≤ limW ∧ ∀ i, i < 1 → W.cell? ⟨b, off + i, none⟩ = (strC o)[i]? := by
  obtain ⟨_, h3, h4⟩ := World.cells?_some h1
  match cs, h3 with
  | [v0], _ =>
    obtain ⟨p, hp, rfl⟩ := open_S (v := v0) h2 hF
    refine ⟨p, hp, fun i hi => ?_⟩
    have c := h4 i hi
    rw [add_at] at c
    rw [c]
    match i, hi with
    | 0, _ => rfl
theorem open_strs {fuel : Nat} {v : Value} {x : DataW H × List MemPlace} (h : DataW.trod enc Tryz.prog W base (fun _ => true) held fuel 23 [v] = some x) (hF : Fits 23 x.1) : ∃ l : List (List UInt8), l.length ≤ limW ∧ (∀ o ∈ l, o.length ≤ limW) ∧ StrsR W v l :=
  open_rd strC (fun o => o.length ≤ limW) Tryz.underlying23 (by kernel_rfl) h (by omega) hF (of_decide_eq_true (by kernel_rfl)) open_str

set_option maxRecDepth 100000 in
theorem open_obj {fuel : Nat} {cs : List Value} {y : DataW H × List MemPlace} (h3 : cs.length = 2) (h2 : DataW.trod enc Tryz.prog W base (fun _ => true) held fuel 44 cs = some y) (hF : Fits 44 y.1) :
    ∃ k d, d.length ≤ limW ∧ cs = [.int .i64 k, SV d] := by
  obtain ⟨xs, n', _, rfl, _, hlen, hf⟩ := DataW.trod_struct Tryz.underlying44 h2
  match cs, h3 with
  | [v0, v1], _ =>
    match xs, hlen with
    | [y0, y1], _ =>
      have f0 := fld (cs := [v0, v1]) (off := 0) cell1I (hf 0 _ rfl)
      have f1 := fld (cs := [v0, v1]) (off := 1) cell1S (hf 1 _ rfl)
      obtain ⟨k, rfl⟩ := open_I (v := v0) f0
      obtain ⟨p, hp, rfl⟩ := open_S (v := v1) f1 (hF.field Tryz.underlying44 (i := 1) rfl rfl)
      exact ⟨k, p, hp, rfl⟩

theorem cell2O : Tryz.prog.cellsOf 44 = 2 := by kernel_rfl
set_option maxRecDepth 100000 in
theorem open_held (b off n : Nat) (cs : List Value) (y : DataW H × List MemPlace) (h1 : W.cells? base ⟨b, off, none⟩ 3 = some cs) (h2 : DataW.trod enc Tryz.prog W base (fun _ => true) held n 54 cs = some y) (hF : Fits 54 y.1) :
    ∃ o : Hld, True ∧ ∀ i, i < 3 → W.cell? ⟨b, off + i, none⟩ = (heldC o)[i]? := by
  obtain ⟨_, h3, h4⟩ := World.cells?_some h1
  obtain ⟨xs, n', _, rfl, _, hlen, hf⟩ := DataW.trod_struct Tryz.underlying54 h2
  match cs, h3 with
  | [v0, v1, v2], _ =>
    match xs, hlen with
    | [y0, y1], _ =>
      have f0 := fld (cs := [v0, v1, v2]) (off := 0) cell1S (hf 0 _ rfl)
      have f1 := fld (cs := [v0, v1, v2]) (off := 1) cell2O (hf 1 _ rfl)
      obtain ⟨p, hp, rfl⟩ := open_S (v := v0) f0 (hF.field Tryz.underlying54 (i := 0) rfl rfl)
      obtain ⟨k, d, hd, e⟩ := open_obj (cs := [v1, v2]) rfl f1 (hF.field Tryz.underlying54 (i := 1) rfl rfl)
      cases e
      refine ⟨⟨p, k, d⟩, trivial, fun i hi => ?_⟩
      have c := h4 i hi
      rw [add_at] at c
      rw [c]
      match i, hi with
      | 0, _ => rfl
      | 1, _ => rfl
      | 2, _ => rfl
instance : Inhabited Hld := ⟨noHld⟩
theorem open_helds {fuel : Nat} {v : Value} {x : DataW H × List MemPlace} (h : DataW.trod enc Tryz.prog W base (fun _ => true) held fuel 22 [v] = some x) (hF : Fits 22 x.1) : ∃ l : List Hld, l.length ≤ limW ∧ HldsR W v l := by
  obtain ⟨l, h1, _, h2⟩ := open_rd heldC (fun _ => True) Tryz.underlying22 (by kernel_rfl) h (by omega) hF (of_decide_eq_true (by kernel_rfl)) open_held
  exact ⟨l, h1, h2⟩
set_option maxRecDepth 100000 in
theorem open_ob (b off n : Nat) (cs : List Value) (y : DataW H × List MemPlace) (h1 : W.cells? base ⟨b, off, none⟩ 2 = some cs) (h2 : DataW.trod enc Tryz.prog W base (fun _ => true) held n 44 cs = some y) (hF : Fits 44 y.1) :
    ∃ o : Int × Bs, True ∧ ∀ i, i < 2 → W.cell? ⟨b, off + i, none⟩ = (obC o)[i]? := by
  obtain ⟨_, h3, h4⟩ := World.cells?_some h1
  obtain ⟨k, d, hd, rfl⟩ := open_obj h3 h2 hF
  refine ⟨(k, d), trivial, fun i hi => ?_⟩
  have c := h4 i hi
  rw [add_at] at c
  rw [c]
  match i, hi with
  | 0, _ => rfl
  | 1, _ => rfl
theorem open_objs {fuel : Nat} {v : Value} {x : DataW H × List MemPlace} (h : DataW.trod enc Tryz.prog W base (fun _ => true) held fuel 52 [v] = some x) (hF : Fits 52 x.1) : ∃ l : List (Int × Bs), l.length ≤ limW ∧ ObjsR W v l := by
  obtain ⟨l, h1, _, h2⟩ := open_rd obC (fun _ => True) Tryz.underlying52 (by kernel_rfl) h (by omega) hF (of_decide_eq_true (by kernel_rfl)) open_ob
  exact ⟨l, h1, h2⟩
/-- One row of texts, as it lies. -/
def RowOk (W : World) (v : Value) : Prop := ∃ l : List Bs, l.length ≤ limW ∧ StrsR W v l
set_option maxRecDepth 100000 in
theorem open_row (b off n : Nat) (cs : List Value) (y : DataW H × List MemPlace) (h1 : W.cells? base ⟨b, off, none⟩ 1 = some cs) (h2 : DataW.trod enc Tryz.prog W base (fun _ => true) held n 23 cs = some y) (hF : Fits 23 y.1) :
    ∃ o : Value, RowOk W o ∧ ∀ i, i < 1 → W.cell? ⟨b, off + i, none⟩ = (rowC o)[i]? := by
  obtain ⟨_, h3, h4⟩ := World.cells?_some h1
  match cs, h3 with
  | [v0], _ =>
    obtain ⟨l, hl, _, hr⟩ := open_strs (v := v0) h2 hF
    refine ⟨v0, ⟨l, hl, hr⟩, fun i hi => ?_⟩
    have c := h4 i hi
    rw [add_at] at c
    rw [c]
    match i, hi with
    | 0, _ => rfl
theorem rows_list {W : World} : ∀ {vs : List Value}, (∀ o ∈ vs, RowOk W o) → ∃ rows : List (List Bs), vs.length = rows.length ∧ (∀ r ∈ rows, r.length ≤ limW) ∧ ∀ (k : Nat) (u : Value) (r : List Bs), vs[k]? = some u → rows[k]? = some r → StrsR W u r
  | [], _ => ⟨[], rfl, by simp, fun k u r h => by simp at h⟩
  | v :: vs, h => by
    obtain ⟨l, h1, h2⟩ := h v (by simp)
    obtain ⟨rows, e1, e2, e3⟩ := rows_list (vs := vs) fun o ho => h o (by simp [ho])
    refine ⟨l :: rows, by simp [e1], fun r hr => ?_, fun k u r hu hr => ?_⟩
    · rcases List.mem_cons.1 hr with rfl | hr
      · exact h1
      · exact e2 r hr
    · match k, hu, hr with
      | 0, hu, hr => cases hu; cases hr; exact h2
      | k + 1, hu, hr => exact e3 k u r (by simpa using hu) (by simpa using hr)
theorem open_rows {fuel : Nat} {v : Value} {x : DataW H × List MemPlace} (h : DataW.trod enc Tryz.prog W base (fun _ => true) held fuel 31 [v] = some x) (hF : Fits 31 x.1) : ∃ rows : List (List Bs), rows.length ≤ limW ∧ (∀ r ∈ rows, r.length ≤ limW) ∧ RowsR W v rows := by
  obtain ⟨vs, h1, h2, h3⟩ := open_rd rowC (RowOk W) Tryz.underlying31 (by kernel_rfl) h (by omega) hF (of_decide_eq_true (by kernel_rfl)) open_row
  obtain ⟨rows, e1, e2, e3⟩ := rows_list h2
  exact ⟨rows, by omega, e2, vs, h3, e1, e3⟩
end
end Go.Proofs.YtialgldmogigfaaGreatDoor.Ct


namespace Go.Proofs.YtialgldmogigfaaGreatDoor.Ct
open Go.Proofs.YtialgldmogigfaaGreatDoor
open Go Go.RowKit Go.Maps

set_option maxHeartbeats 16000000 in
set_option maxRecDepth 100000 in
theorem Errors_law (w : World) (ho : Ob w) {v0 : Value} {l : List Hld} (h0 : HldsR w v0 l) (hl0 : l.length ≤ limW) {v1 : Value} {tips : List Bs} (h1 : StrsR w v1 tips) (hl1 : tips.length ≤ limW) (want : Bs) (hl2 : want.length ≤ limW) :
    Calls Tryz.prog 9 #[v0, v1, SV want] w (BoolB true w) := by
  obtain ⟨A0, c0, rfl⟩ := h0.shape
  obtain ⟨A1, c1, rfl⟩ := h1.shape
  have HH := Lib.hid (head_p ho); have HO := Lib.hid ho; have HX0 := Lib.hid h0; have HL0 := Lib.hid hl0; have HX1 := Lib.hid h1; have HL1 := Lib.hid hl1; have HL2 := Lib.hid hl2
  clear h0 hl0 h1 hl1 hl2 ho
  unfold SV
  go_enter Tryz.func9, Tryz.ntmps9
  go_wp2_with fail
  refine HH.out.mono ?_
  rintro e w1 ⟨rfl, l9⟩
  have L1 := Lib.hid l9
  clear l9 HH
  go_wp2_with fail
  refine (Great_any (HX0.out.below L1.out (Nat.le_refl _)) HL0.out).mono ?_
  rintro e w2 ⟨gr, rfl, l9, hg⟩
  have L2 := Lib.hid (L1.out.trans (l9.mono L1.out.size))
  clear l9
  cases gr with
  | true =>
    clear hg
    go_wp2_with fail
    go_ret
    exact ⟨rfl, L2.out⟩
  | false =>
  have HS0 := Lib.hid (hg rfl)
  clear hg
  have HK0 := Lib.hid (okL HS0.out)
  go_wp2_with fail
  refine (GreatTexts_any (HX1.out.below L2.out (Nat.le_refl _)) HL1.out).mono ?_
  rintro e w3 ⟨gr, rfl, l9, hg⟩
  have L3 := Lib.hid (L2.out.trans (l9.mono L2.out.size))
  clear l9
  cases gr with
  | true =>
    clear hg
    go_wp2_with fail
    go_ret
    exact ⟨rfl, L3.out⟩
  | false =>
  have HS1 := Lib.hid (hg rfl)
  clear hg
  have HK1 := Lib.hid (okT HS1.out)
  by_cases hW : 1000 < (want.length : Int)
  · go_wp2_with fail
    go_ret
    exact ⟨rfl, L3.out⟩
  have HW : Hid (want.length ≤ 10000) := Lib.hid (by omega)
  have HDa := Lib.hid (Closure_any (L := l) (tips := tips) (HX0.out.below L3.out (Nat.le_refl _)) (HX1.out.below L3.out (Nat.le_refl _)) (HO.out.below L3.out).eb (HO.out.below L3.out).tb HK0.out.len HK1.out.len HK0.out.el HK1.out.el)
  go_wp2_with fail
  refine HDa.out.mono ?_
  rintro e w4 ⟨va, vb, a, b, rfl, ra, rb, hc, _, _, l9⟩
  obtain ⟨Aa, ca, rfl⟩ := ra.shape
  obtain ⟨Ab, cb, rfl⟩ := rb.shape
  have L4 := Lib.hid (L3.out.trans (l9.mono L3.out.size))
  have HRa := Lib.hid ra; have HRb := Lib.hid rb; have HCa := Lib.hid hc
  clear l9 ra rb hc HDa
  have HDu := Lib.hid (Send_p (L := l) (tips := tips) (wants := []) (haves := []) (HX0.out.below L4.out (Nat.le_refl _)) (HX1.out.below L4.out (Nat.le_refl _)) (strs_nil _) (strs_nil _) (HO.out.below L4.out) HK0.out HK1.out okT_nil okT_nil)
  go_wp2_with fail
  refine HDu.out.mono ?_
  rintro e w5 ⟨Au, nu, cu, u, eu, rfl, hn, hr, hs, l9⟩
  subst hn
  have L5 := Lib.hid (L4.out.trans (l9.mono L4.out.size)); have HRa' := Lib.hid (HRa.out.below l9 (Nat.le_refl _)); have HRb' := Lib.hid (HRb.out.below l9 (Nat.le_refl _))
  have HRu := Lib.hid hr; have HIu := Lib.hid hs
  clear HRa HRb l9 hr hs HDu
  have HRa := HRa'; clear HRa'
  have HRb := HRb'; clear HRb'
  have hcu := HIu.out.code
  obtain rfl : eu = 1 := by
    rcases hcu with ⟨h, _⟩ | ⟨_, h, _⟩ | ⟨_, h, _⟩
    · exact h
    · exact absurd (.inl rfl) h
    · exact absurd (.inl rfl) h
  have hu := HIu.out.nil (by decide)
  subst hu
  clear hcu
  obtain ⟨w6, hw⟩ : ∃ y, y = w5.alloc (.cells #[.string ⟨want.toArray⟩] 9) := ⟨_, rfl⟩
  have l9 : Below w5.heap.size w5 w6 := by rw [hw]; exact below_new _ _
  have k9 : w6.heap[w5.heap.size]? = some (.cells #[.string ⟨want.toArray⟩] 9 (0, 0)) := by rw [hw]; exact heap_alloc_new _ _
  have L6 := Lib.hid (L5.out.trans (l9.mono L5.out.size)); have HRa' := Lib.hid (HRa.out.below l9 (Nat.le_refl _)); have HRb' := Lib.hid (HRb.out.below l9 (Nat.le_refl _)); have HRu' := Lib.hid (HRu.out.below l9 (Nat.le_refl _))
  have HRw : Hid (StrsR w6 (.slice (some ⟨w5.heap.size, 0, none⟩) 1 1) [want]) := Lib.hid (by rw [hw]; exact strs_oneC w5 want)
  have HW9 := Lib.hid hw
  clear HRa HRb HRu l9 k9 hw
  have HRa := HRa'; clear HRa'
  have HRb := HRb'; clear HRb'
  have HRu := HRu'; clear HRu'
  have HDx := Lib.hid (Send_p (L := l) (tips := tips) (wants := [want]) (haves := []) (HX0.out.below L6.out (Nat.le_refl _)) (HX1.out.below L6.out (Nat.le_refl _)) HRw.out (strs_nil _) (HO.out.below L6.out) HK0.out HK1.out (okT_one HW.out) okT_nil)
  go_wp2_with (rw [← HW9.out])
  refine HDx.out.mono ?_
  rintro e w7 ⟨Ax, nx, cx, x, ex, rfl, hn, hr, hs, l9⟩
  subst hn
  have L7 := Lib.hid (L6.out.trans (l9.mono L6.out.size)); have HRa' := Lib.hid (HRa.out.below l9 (Nat.le_refl _)); have HRb' := Lib.hid (HRb.out.below l9 (Nat.le_refl _)); have HRu' := Lib.hid (HRu.out.below l9 (Nat.le_refl _))
  have HRx := Lib.hid hr; have HIx := Lib.hid hs
  clear HRa HRb HRu l9 hr hs HDx
  have HRa := HRa'; clear HRa'
  have HRb := HRb'; clear HRb'
  have HRu := HRu'; clear HRu'
  have hcx := HIx.out.code
  have hlk := lk_iff HCa.out
  have hzero : ((([] : List Bs).length : Nat) : Int) = 0 := rfl
  by_cases hm : want ∈ tips
  · have HA := Lib.hid (has_yes (HX1.out.below L7.out (Nat.le_refl _)) (by have := HK1.out.len; omega) hm)
    have hnb : ¬ Bad tips [want] := fun h => h.elim (by simp) fun ⟨y, hy, hn⟩ => hn (by rw [List.mem_singleton.1 hy]; exact hm)
    by_cases h0 : 0 < b.length
    · obtain rfl : ex = 51 := by
        rcases hcx with ⟨_, h⟩ | ⟨h, _⟩ | ⟨_, _, h⟩
        · exact absurd h hnb
        · exact h
        · exact absurd (hlk.2 h0) h
      have hx := HIx.out.nil (by decide)
      subst hx
      have h0I : (0 : Int) < (b.length : Int) := by omega
      clear hcx hlk hnb
      go_wp2_with fail
      refine HA.out.mono ?_
      rintro e w9 ⟨rfl, rfl⟩
      go_wp2_with fail
      go_ret
      exact ⟨rfl, L7.out⟩
    · obtain rfl : ex = 0 := by
        rcases hcx with ⟨_, h⟩ | ⟨_, _, h⟩ | ⟨h, _⟩
        · exact absurd h hnb
        · exact absurd (hlk.1 h) h0
        · exact h
      have h0I : ¬ (0 : Int) < (b.length : Int) := by omega
      have hmx : want ∈ x := (HIx.out.ok.2.2.2.2 want).2 ⟨.tip (by simp), by simp⟩
      have HB := Lib.hid (has_yes HRx.out (by have := (sent_ok HK0.out HIx.out).len; omega) hmx)
      clear hcx hlk hnb hmx
      go_wp2_with fail
      refine HA.out.mono ?_
      rintro e w9 ⟨rfl, rfl⟩
      go_wp2_with fail
      refine HB.out.mono ?_
      rintro e w9 ⟨rfl, rfl⟩
      go_wp2_with fail
      go_ret
      exact ⟨rfl, L7.out⟩
  · have HA := Lib.hid (has_no (HX1.out.below L7.out (Nat.le_refl _)) (by have := HK1.out.len; omega) hm)
    obtain rfl : ex = 1 := by
      rcases hcx with ⟨h, _⟩ | ⟨_, h, _⟩ | ⟨_, h, _⟩
      · exact h
      · exact absurd (.inr ⟨want, by simp, hm⟩) h
      · exact absurd (.inr ⟨want, by simp, hm⟩) h
    have hx := HIx.out.nil (by decide)
    subst hx
    clear hcx hlk
    go_wp2_with fail
    refine HA.out.mono ?_
    rintro e w9 ⟨rfl, rfl⟩
    go_wp2_with fail
    go_ret
    exact ⟨rfl, L7.out⟩
end Go.Proofs.YtialgldmogigfaaGreatDoor.Ct


namespace Go.Proofs.YtialgldmogigfaaGreatDoor.Ct
open Go.Proofs.YtialgldmogigfaaGreatDoor
open Go Go.RowKit Go.Maps

set_option maxHeartbeats 16000000 in
set_option maxRecDepth 100000 in
theorem Less_law (w : World) (ho : Ob w) {v0 : Value} {l : List Hld} (h0 : HldsR w v0 l) (hl0 : l.length ≤ limW) {v1 : Value} {tips : List Bs} (h1 : StrsR w v1 tips) (hl1 : tips.length ≤ limW) {v2 : Value} {wants : List Bs} (h2 : StrsR w v2 wants) (hl2 : wants.length ≤ limW) {v3 : Value} {haves : List Bs} (h3 : StrsR w v3 haves) (hl3 : haves.length ≤ limW) {v4 : Value} {more : List Bs} (h4 : StrsR w v4 more) (hl4 : more.length ≤ limW) :
    Calls Tryz.prog 6 #[v0, v1, v2, v3, v4] w (BoolB true w) := by
  obtain ⟨A0, c0, rfl⟩ := h0.shape
  obtain ⟨A1, c1, rfl⟩ := h1.shape
  obtain ⟨A2, c2, rfl⟩ := h2.shape
  obtain ⟨A3, c3, rfl⟩ := h3.shape
  obtain ⟨A4, c4, rfl⟩ := h4.shape
  have HH := Lib.hid (head_p ho); have HO := Lib.hid ho; have HX0 := Lib.hid h0; have HL0 := Lib.hid hl0; have HX1 := Lib.hid h1; have HL1 := Lib.hid hl1; have HX2 := Lib.hid h2; have HL2 := Lib.hid hl2; have HX3 := Lib.hid h3; have HL3 := Lib.hid hl3; have HX4 := Lib.hid h4; have HL4 := Lib.hid hl4
  clear h0 hl0 h1 hl1 h2 hl2 h3 hl3 h4 hl4 ho
  go_enter Tryz.func6, Tryz.ntmps6
  go_wp2_with fail
  refine HH.out.mono ?_
  rintro e w1 ⟨rfl, l9⟩
  have L1 := Lib.hid l9
  clear l9 HH
  go_wp2_with fail
  refine (Great_any (HX0.out.below L1.out (Nat.le_refl _)) HL0.out).mono ?_
  rintro e w2 ⟨gr, rfl, l9, hg⟩
  have L2 := Lib.hid (L1.out.trans (l9.mono L1.out.size))
  clear l9
  cases gr with
  | true =>
    clear hg
    go_wp2_with fail
    go_ret
    exact ⟨rfl, L2.out⟩
  | false =>
  have HS0 := Lib.hid (hg rfl)
  clear hg
  have HK0 := Lib.hid (okL HS0.out)
  go_wp2_with fail
  refine (GreatTexts_any (HX1.out.below L2.out (Nat.le_refl _)) HL1.out).mono ?_
  rintro e w3 ⟨gr, rfl, l9, hg⟩
  have L3 := Lib.hid (L2.out.trans (l9.mono L2.out.size))
  clear l9
  cases gr with
  | true =>
    clear hg
    go_wp2_with fail
    go_ret
    exact ⟨rfl, L3.out⟩
  | false =>
  have HS1 := Lib.hid (hg rfl)
  clear hg
  have HK1 := Lib.hid (okT HS1.out)
  go_wp2_with fail
  refine (GreatTexts_any (HX2.out.below L3.out (Nat.le_refl _)) HL2.out).mono ?_
  rintro e w4 ⟨gr, rfl, l9, hg⟩
  have L4 := Lib.hid (L3.out.trans (l9.mono L3.out.size))
  clear l9
  cases gr with
  | true =>
    clear hg
    go_wp2_with fail
    go_ret
    exact ⟨rfl, L4.out⟩
  | false =>
  have HS2 := Lib.hid (hg rfl)
  clear hg
  have HK2 := Lib.hid (okT HS2.out)
  go_wp2_with fail
  refine (GreatTexts_any (HX3.out.below L4.out (Nat.le_refl _)) HL3.out).mono ?_
  rintro e w5 ⟨gr, rfl, l9, hg⟩
  have L5 := Lib.hid (L4.out.trans (l9.mono L4.out.size))
  clear l9
  cases gr with
  | true =>
    clear hg
    go_wp2_with fail
    go_ret
    exact ⟨rfl, L5.out⟩
  | false =>
  have HS3 := Lib.hid (hg rfl)
  clear hg
  have HK3 := Lib.hid (okT HS3.out)
  go_wp2_with fail
  refine (GreatTexts_any (HX4.out.below L5.out (Nat.le_refl _)) HL4.out).mono ?_
  rintro e w6 ⟨gr, rfl, l9, hg⟩
  have L6 := Lib.hid (L5.out.trans (l9.mono L5.out.size))
  clear l9
  cases gr with
  | true =>
    clear hg
    go_wp2_with fail
    go_ret
    exact ⟨rfl, L6.out⟩
  | false =>
  have HS4 := Lib.hid (hg rfl)
  clear hg
  have HK4 := Lib.hid (okT HS4.out)
  have hs3 := HS3.out.1
  have hs4 := HS4.out.1
  have HDa := Lib.hid (Send_p (L := l) (tips := tips) (wants := wants) (haves := haves) (HX0.out.below L6.out (Nat.le_refl _)) (HX1.out.below L6.out (Nat.le_refl _)) (HX2.out.below L6.out (Nat.le_refl _)) (HX3.out.below L6.out (Nat.le_refl _)) (HO.out.below L6.out) HK0.out HK1.out HK2.out HK3.out)
  go_wp2_with fail
  refine HDa.out.mono ?_
  rintro e w7 ⟨Aa, na, ca, a, ea, rfl, hn, hr, hs, l9⟩
  subst hn
  have L7 := Lib.hid (L6.out.trans (l9.mono L6.out.size))
  have HRa := Lib.hid hr; have HIa := Lib.hid hs
  clear l9 hr hs HDa
  have B7 := Lib.hid (below_new w7 (.cells #[] 9))
  go_wp2_with (at_builtin; refine wpList_all strK rfl _ _ rfl w7.heap.size (.slice (some ⟨w7.heap.size, 0, none⟩) 0 0) (.slice A3 haves.length c3) [] haves rfl rfl (OwK.new0 w7 _ (Nat.le_refl _)) (HX3.out.below ((L7.out.trans (B7.out.mono L7.out.size))) (Nat.le_refl _)) (by simp; omega) (by decide) B7.out.size ?_)
  intro vaj wa hNa hba
  have HNa := Lib.hid hNa; have HBa := Lib.hid (B7.out.trans hba)
  clear hNa hba
  go_wp2_with (at_builtin; refine wpList_all strK rfl _ _ rfl w7.heap.size vaj (.slice A4 more.length c4) ([] ++ haves) more rfl rfl HNa.out (HX4.out.below ((L7.out.trans (HBa.out.mono L7.out.size))) (Nat.le_refl _)) (by simp; omega) (by decide) HBa.out.size ?_)
  intro vj w8 hNb hbb
  have l9 := HBa.out.trans hbb
  have hr : StrsR w8 vj (haves ++ more) := OwK.rd strC_len hNb
  obtain ⟨Aj, cj, rfl⟩ := hr.shape
  obtain ⟨nj, hn⟩ : ∃ n, n = (haves ++ more).length := ⟨_, rfl⟩
  rw [← hn] at hr ⊢
  clear hn
  have L8 := Lib.hid (L7.out.trans (l9.mono L7.out.size)); have HRa' := Lib.hid (HRa.out.below l9 (Nat.le_refl _))
  have HRj := Lib.hid hr
  clear HRa l9 hr hNb hbb HNa HBa B7
  have HRa := HRa'; clear HRa'
  have HDb := Lib.hid (Send_p (L := l) (tips := tips) (wants := wants) (haves := (haves ++ more)) (HX0.out.below L8.out (Nat.le_refl _)) (HX1.out.below L8.out (Nat.le_refl _)) (HX2.out.below L8.out (Nat.le_refl _)) HRj.out (HO.out.below L8.out) HK0.out HK1.out HK2.out (okT_app HS3.out HS4.out))
  go_wp2_with fail
  refine HDb.out.mono ?_
  rintro e w9 ⟨Ab, nb, cb, b, eb, rfl, hn, hr, hs, l9⟩
  subst hn
  have L9 := Lib.hid (L8.out.trans (l9.mono L8.out.size)); have HRa' := Lib.hid (HRa.out.below l9 (Nat.le_refl _)); have HRj' := Lib.hid (HRj.out.below l9 (Nat.le_refl _))
  have HRb := Lib.hid hr; have HIb := Lib.hid hs
  clear HRa HRj l9 hr hs HDb
  have HRa := HRa'; clear HRa'
  have HRj := HRj'; clear HRj'
  have HDu := Lib.hid (Send_p (L := l) (tips := tips) (wants := wants) (haves := wants) (HX0.out.below L9.out (Nat.le_refl _)) (HX1.out.below L9.out (Nat.le_refl _)) (HX2.out.below L9.out (Nat.le_refl _)) (HX2.out.below L9.out (Nat.le_refl _)) (HO.out.below L9.out) HK0.out HK1.out HK2.out HK2.out)
  go_wp2_with fail
  refine HDu.out.mono ?_
  rintro e w10 ⟨Au, nu, cu, u, eu, rfl, hn, hr, hs, l9⟩
  subst hn
  have L10 := Lib.hid (L9.out.trans (l9.mono L9.out.size)); have HRa' := Lib.hid (HRa.out.below l9 (Nat.le_refl _)); have HRj' := Lib.hid (HRj.out.below l9 (Nat.le_refl _)); have HRb' := Lib.hid (HRb.out.below l9 (Nat.le_refl _))
  have HRu := Lib.hid hr; have HIu := Lib.hid hs
  clear HRa HRj HRb l9 hr hs HDu
  have HRa := HRa'; clear HRa'
  have HRj := HRj'; clear HRj'
  have HRb := HRb'; clear HRb'
  have HDd := Lib.hid (Send_p (L := l) (tips := tips) (wants := wants) (haves := []) (HX0.out.below L10.out (Nat.le_refl _)) (HX1.out.below L10.out (Nat.le_refl _)) (HX2.out.below L10.out (Nat.le_refl _)) (strs_nil _) (HO.out.below L10.out) HK0.out HK1.out HK2.out okT_nil)
  go_wp2_with fail
  refine HDd.out.mono ?_
  rintro e w11 ⟨Ad, nd, cd, d, ed, rfl, hn, hr, hs, l9⟩
  subst hn
  have L11 := Lib.hid (L10.out.trans (l9.mono L10.out.size)); have HRa' := Lib.hid (HRa.out.below l9 (Nat.le_refl _)); have HRj' := Lib.hid (HRj.out.below l9 (Nat.le_refl _)); have HRb' := Lib.hid (HRb.out.below l9 (Nat.le_refl _)); have HRu' := Lib.hid (HRu.out.below l9 (Nat.le_refl _))
  have HRd := Lib.hid hr; have HId := Lib.hid hs
  clear HRa HRj HRb HRu l9 hr hs HDd
  have HRa := HRa'; clear HRa'
  have HRj := HRj'; clear HRj'
  have HRb := HRb'; clear HRb'
  have HRu := HRu'; clear HRu'
  obtain rfl := HIa.out.codes HIb.out
  obtain rfl := HIa.out.codes HIu.out
  obtain rfl := HIa.out.codes HId.out
  have HSub := Lib.hid (IsSend.sub HIa.out HIb.out fun x hx => List.mem_append_left _ hx)
  have hu := HIu.out.own
  subst hu
  have HOa := Lib.hid (sent_ok HK0.out HIa.out)
  have hal := HOa.out.len
  have hbl := (sent_ok HK0.out HIb.out).len
  go_wp2_with fail
  go_loop [20] (fun vi => ∃ k : Nat, k ≤ b.length ∧ vi = .int .i64 k) (fun vi => b.length - (intOf vi).toNat)
  case atStart => exact ⟨0, Nat.zero_le _, rfl⟩
  case round =>
    obtain ⟨k, hk, rfl⟩ := hrel
    by_cases hlt : k < b.length
    · obtain ⟨g, o, c', e, _, hg⟩ := HRb.out.pos (by omega)
      cases e
      have p0 := StrsR.cell HRb.out k hlt
      have hm := HSub.out _ (getD_mem b [] k hlt)
      obtain ⟨s, hs⟩ : ∃ s, s = b.getD k ([] : Bs) := ⟨_, rfl⟩
      rw [← hs] at p0 hm
      unfold SV at p0
      have HA := Lib.hid (has_yes HRa.out (by omega) hm)
      clear hs hm
      go_wp2_with fail
      refine HA.out.mono ?_
      rintro e w9 ⟨rfl, rfl⟩
      go_wp2_with fail
      go_round
      case rel => exact ⟨k + 1, hlt, by go_num⟩
      case measure => simp [intOf]; omega
    obtain rfl : k = b.length := by omega
    clear hk hlt
    have HDn := Lib.hid (Closure_any (L := l) (tips := wants) (HX0.out.below L11.out (Nat.le_refl _)) (HX2.out.below L11.out (Nat.le_refl _)) (HO.out.below L11.out).eb (HO.out.below L11.out).tb HK0.out.len HK2.out.len HK0.out.el HK2.out.el)
    go_wp2_with fail
    refine HDn.out.mono ?_
    rintro e w12 ⟨vn, vz, n, z, rfl, ra, rb, hc, _, _, l9⟩
    obtain ⟨An, cn, rfl⟩ := ra.shape
    obtain ⟨Az, cz, rfl⟩ := rb.shape
    have L12 := Lib.hid (L11.out.trans (l9.mono L11.out.size)); have HRa' := Lib.hid (HRa.out.below l9 (Nat.le_refl _)); have HRj' := Lib.hid (HRj.out.below l9 (Nat.le_refl _)); have HRb' := Lib.hid (HRb.out.below l9 (Nat.le_refl _)); have HRu' := Lib.hid (HRu.out.below l9 (Nat.le_refl _)); have HRd' := Lib.hid (HRd.out.below l9 (Nat.le_refl _))
    have HRn := Lib.hid ra; have HRz := Lib.hid rb; have HCn := Lib.hid hc
    clear HRa HRj HRb HRu HRd l9 ra rb hc HDn
    have HRa := HRa'; clear HRa'
    have HRj := HRj'; clear HRj'
    have HRb := HRb'; clear HRb'
    have HRu := HRu'; clear HRu'
    have HRd := HRd'; clear HRd'
    by_cases h0 : ea = 0
    · subst h0
      have hst := SameTexts_any HRd.out HRn.out (by have := (sent_ok HK0.out HId.out).len; omega)
      rw [decide_eq_true (IsSend.all HId.out HCn.out)] at hst
      have HSt := Lib.hid hst
      clear hst
      go_wp2_with fail
      refine HSt.out.mono ?_
      rintro e w12 ⟨rfl, l9⟩
      have L13 := Lib.hid (L12.out.trans (l9.mono L12.out.size))
      clear l9
      go_wp2_with fail
      go_ret
      exact ⟨rfl, L13.out⟩
    · go_wp2_with fail
      go_ret
      exact ⟨by simp, L12.out⟩
end Go.Proofs.YtialgldmogigfaaGreatDoor.Ct


namespace Go.Proofs.YtialgldmogigfaaGreatDoor.Ct
open Go.Proofs.YtialgldmogigfaaGreatDoor
open Go Go.RowKit Go.Maps

set_option maxHeartbeats 16000000 in
set_option maxRecDepth 100000 in
theorem Union_law (w : World) (ho : Ob w) {v0 : Value} {l : List Hld} (h0 : HldsR w v0 l) (hl0 : l.length ≤ limW) {v1 : Value} {one : List Bs} (h1 : StrsR w v1 one) (hl1 : one.length ≤ limW) {v2 : Value} {two : List Bs} (h2 : StrsR w v2 two) (hl2 : two.length ≤ limW) :
    Calls Tryz.prog 7 #[v0, v1, v2] w (BoolB true w) := by
  obtain ⟨A0, c0, rfl⟩ := h0.shape
  obtain ⟨A1, c1, rfl⟩ := h1.shape
  obtain ⟨A2, c2, rfl⟩ := h2.shape
  have HH := Lib.hid (head_p ho); have HO := Lib.hid ho; have HX0 := Lib.hid h0; have HL0 := Lib.hid hl0; have HX1 := Lib.hid h1; have HL1 := Lib.hid hl1; have HX2 := Lib.hid h2; have HL2 := Lib.hid hl2
  clear h0 hl0 h1 hl1 h2 hl2 ho
  go_enter Tryz.func7, Tryz.ntmps7
  go_wp2_with fail
  refine HH.out.mono ?_
  rintro e w1 ⟨rfl, l9⟩
  have L1 := Lib.hid l9
  clear l9 HH
  go_wp2_with fail
  refine (Great_any (HX0.out.below L1.out (Nat.le_refl _)) HL0.out).mono ?_
  rintro e w2 ⟨gr, rfl, l9, hg⟩
  have L2 := Lib.hid (L1.out.trans (l9.mono L1.out.size))
  clear l9
  cases gr with
  | true =>
    clear hg
    go_wp2_with fail
    go_ret
    exact ⟨rfl, L2.out⟩
  | false =>
  have HS0 := Lib.hid (hg rfl)
  clear hg
  have HK0 := Lib.hid (okL HS0.out)
  go_wp2_with fail
  refine (GreatTexts_any (HX1.out.below L2.out (Nat.le_refl _)) HL1.out).mono ?_
  rintro e w3 ⟨gr, rfl, l9, hg⟩
  have L3 := Lib.hid (L2.out.trans (l9.mono L2.out.size))
  clear l9
  cases gr with
  | true =>
    clear hg
    go_wp2_with fail
    go_ret
    exact ⟨rfl, L3.out⟩
  | false =>
  have HS1 := Lib.hid (hg rfl)
  clear hg
  have HK1 := Lib.hid (okT HS1.out)
  go_wp2_with fail
  refine (GreatTexts_any (HX2.out.below L3.out (Nat.le_refl _)) HL2.out).mono ?_
  rintro e w4 ⟨gr, rfl, l9, hg⟩
  have L4 := Lib.hid (L3.out.trans (l9.mono L3.out.size))
  clear l9
  cases gr with
  | true =>
    clear hg
    go_wp2_with fail
    go_ret
    exact ⟨rfl, L4.out⟩
  | false =>
  have HS2 := Lib.hid (hg rfl)
  clear hg
  have HK2 := Lib.hid (okT HS2.out)
  obtain ⟨w5, hw⟩ : ∃ y, y = w4.alloc (.cells #[.slice A1 one.length c1, .slice A2 two.length c2] 23) := ⟨_, rfl⟩
  have l9 : Below w4.heap.size w4 w5 := by rw [hw]; exact below_new _ _
  have k9 : w5.heap[w4.heap.size]? = some (.cells #[.slice A1 one.length c1, .slice A2 two.length c2] 23 (0, 0)) := by rw [hw]; exact heap_alloc_new _ _
  have HRr : Hid (RowsR w5 (.slice (some ⟨w4.heap.size, 0, none⟩) 2 2) [one, two]) := Lib.hid (by rw [hw]; exact rows_two w4 _ _ one two (HX1.out.below L4.out (Nat.le_refl _)) (HX2.out.below L4.out (Nat.le_refl _)))
  have HW9 := Lib.hid hw
  have L5 := Lib.hid (L4.out.trans (l9.mono L4.out.size))
  clear l9 k9 hw
  have hun := Union_p (L := l) (rows := [one, two]) (HX0.out.below L5.out (Nat.le_refl _)) HRr.out (HO.out.below L5.out) HK0.out (by simp) (by simpa using okT_app HS1.out HS2.out)
  rw [show ([one, two] : List (List Bs)).flatten = one ++ two by simp] at hun
  have HUn := Lib.hid hun
  clear hun
  go_wp2_with (rw [← HW9.out])
  refine HUn.out.mono ?_
  rintro e w6 ⟨l9, ⟨Au, nu, cu, u, rfl, hn, hr, hc⟩ | ⟨rfl, hx⟩⟩
  case inr =>
    have L6 := Lib.hid (L5.out.trans (l9.mono L5.out.size))
    have HB := Lib.hid hx
    clear l9 hx HUn HW9
    have HDa := Lib.hid (Closure_any (L := l) (tips := one) (HX0.out.below L6.out (Nat.le_refl _)) (HX1.out.below L6.out (Nat.le_refl _)) (HO.out.below L6.out).eb (HO.out.below L6.out).tb HK0.out.len HK1.out.len HK0.out.el HK1.out.el)
    go_wp2_with fail
    refine HDa.out.mono ?_
    rintro e w7 ⟨va, vx, a, x, rfl, ra, rb, hc, _, _, l9⟩
    obtain ⟨Aa, ca, rfl⟩ := ra.shape
    obtain ⟨Ax, cx, rfl⟩ := rb.shape
    have L7 := Lib.hid (L6.out.trans (l9.mono L6.out.size))
    have HRa := Lib.hid ra; have HRx := Lib.hid rb; have HCa := Lib.hid hc
    clear l9 ra rb hc HDa
    have HDb := Lib.hid (Closure_any (L := l) (tips := two) (HX0.out.below L7.out (Nat.le_refl _)) (HX2.out.below L7.out (Nat.le_refl _)) (HO.out.below L7.out).eb (HO.out.below L7.out).tb HK0.out.len HK2.out.len HK0.out.el HK2.out.el)
    go_wp2_with fail
    refine HDb.out.mono ?_
    rintro e w8 ⟨vb, vy, b, y, rfl, ra, rb, hc, _, _, l9⟩
    obtain ⟨Ab, cb, rfl⟩ := ra.shape
    obtain ⟨Ay, cy, rfl⟩ := rb.shape
    have L8 := Lib.hid (L7.out.trans (l9.mono L7.out.size)); have HRa' := Lib.hid (HRa.out.below l9 (Nat.le_refl _)); have HRx' := Lib.hid (HRx.out.below l9 (Nat.le_refl _))
    have HRb := Lib.hid ra; have HRy := Lib.hid rb; have HCb := Lib.hid hc
    clear HRa HRx l9 ra rb hc HDb
    have HRa := HRa'; clear HRa'
    have HRx := HRx'; clear HRx'
    have hxy : 0 < x.length ∨ 0 < y.length := by
      obtain ⟨s, hs, ht⟩ := HB.out
      rcases reach_append.1 hs with hs | hs
      · exact .inl (List.length_pos_of_mem ((HCa.out.mb s).2 ⟨hs, ht⟩))
      · exact .inr (List.length_pos_of_mem ((HCb.out.mb s).2 ⟨hs, ht⟩))
    by_cases h0 : x.length = 0
    · have h1 : ¬ y.length = 0 := by omega
      have h0b : ((x.length : Int) == 0) = true := by simpa using h0
      have h1b : ((y.length : Int) == 0) = false := by simpa using h1
      have h1c : ¬ (y.length : Int) = 0 := by omega
      rw [h0]
      clear hxy h0 h0b
      go_wp2_with fail
      go_ret
      exact ⟨by simp, L8.out⟩
    · have h0b : ((x.length : Int) == 0) = false := by simpa using h0
      have h0c : ¬ (x.length : Int) = 0 := by omega
      clear hxy
      go_wp2_with fail
      go_ret
      exact ⟨by simp, L8.out⟩
  subst hn
  have L6 := Lib.hid (L5.out.trans (l9.mono L5.out.size))
  have HRu := Lib.hid hr; have HCu := Lib.hid hc
  clear l9 hr hc HUn HW9
  have HDa := Lib.hid (Closure_any (L := l) (tips := one) (HX0.out.below L6.out (Nat.le_refl _)) (HX1.out.below L6.out (Nat.le_refl _)) (HO.out.below L6.out).eb (HO.out.below L6.out).tb HK0.out.len HK1.out.len HK0.out.el HK1.out.el)
  go_wp2_with fail
  refine HDa.out.mono ?_
  rintro e w7 ⟨va, vx, a, x, rfl, ra, rb, hc, _, _, l9⟩
  obtain ⟨Aa, ca, rfl⟩ := ra.shape
  obtain ⟨Ax, cx, rfl⟩ := rb.shape
  have L7 := Lib.hid (L6.out.trans (l9.mono L6.out.size)); have HRu' := Lib.hid (HRu.out.below l9 (Nat.le_refl _))
  have HRa := Lib.hid ra; have HRx := Lib.hid rb; have HCa := Lib.hid hc
  clear HRu l9 ra rb hc HDa
  have HRu := HRu'; clear HRu'
  have HDb := Lib.hid (Closure_any (L := l) (tips := two) (HX0.out.below L7.out (Nat.le_refl _)) (HX2.out.below L7.out (Nat.le_refl _)) (HO.out.below L7.out).eb (HO.out.below L7.out).tb HK0.out.len HK2.out.len HK0.out.el HK2.out.el)
  go_wp2_with fail
  refine HDb.out.mono ?_
  rintro e w8 ⟨vb, vy, b, y, rfl, ra, rb, hc, _, _, l9⟩
  obtain ⟨Ab, cb, rfl⟩ := ra.shape
  obtain ⟨Ay, cy, rfl⟩ := rb.shape
  have L8 := Lib.hid (L7.out.trans (l9.mono L7.out.size)); have HRu' := Lib.hid (HRu.out.below l9 (Nat.le_refl _)); have HRa' := Lib.hid (HRa.out.below l9 (Nat.le_refl _)); have HRx' := Lib.hid (HRx.out.below l9 (Nat.le_refl _))
  have HRb := Lib.hid ra; have HRy := Lib.hid rb; have HCb := Lib.hid hc
  clear HRu HRa HRx l9 ra rb hc HDb
  have HRu := HRu'; clear HRu'
  have HRa := HRa'; clear HRa'
  have HRx := HRx'; clear HRx'
  have hb := IsClo.both HCa.out HCb.out HCu.out
  have hx0 : x = [] := List.eq_nil_iff_forall_not_mem.2 fun s hs => by have := (hb.2.1 s).2 (.inl hs); simp at this
  have hy0 : y = [] := List.eq_nil_iff_forall_not_mem.2 fun s hs => by have := (hb.2.1 s).2 (.inr hs); simp at this
  have HMu := Lib.hid hb.1
  have hle : (u.length : Int) ≤ (a.length : Int) + (b.length : Int) := by have := hb.2.2.1; omega
  have hla : (a.length : Int) ≤ (u.length : Int) := by have := nodup_len HCa.out.ra.nodup fun s hs => (hb.1 s).2 (.inl hs); omega
  have hlb : (b.length : Int) ≤ (u.length : Int) := by have := nodup_len HCb.out.ra.nodup fun s hs => (hb.1 s).2 (.inr hs); omega
  have hul := (clo_okT HK0.out HCu.out).len
  have hal := (clo_okT HK0.out HCa.out).len
  have hbl := (clo_okT HK0.out HCb.out).len
  subst hx0
  subst hy0
  have HOu := Lib.hid (clo_okT HK0.out HCu.out)
  clear hb
  go_wp2_with fail
  go_loop [14] (fun vi => ∃ k : Nat, k ≤ u.length ∧ vi = .int .i64 k) (fun vi => u.length - (intOf vi).toNat)
  case atStart => exact ⟨0, Nat.zero_le _, rfl⟩
  case round =>
    obtain ⟨k, hk, rfl⟩ := hrel
    by_cases hlt : k < u.length
    · obtain ⟨g, o, c', e, _, hg⟩ := HRu.out.pos (by omega)
      cases e
      have p0 := StrsR.cell HRu.out k hlt
      have hm := (HMu.out _).1 (getD_mem u [] k hlt)
      obtain ⟨s, hs⟩ : ∃ s, s = u.getD k ([] : Bs) := ⟨_, rfl⟩
      rw [← hs] at p0 hm
      unfold SV at p0
      clear hs
      by_cases hma : s ∈ a
      · have HA := Lib.hid (has_yes HRa.out (by omega) hma)
        clear hm
        go_wp2_with fail
        refine HA.out.mono ?_
        rintro e w9 ⟨rfl, rfl⟩
        go_wp2_with fail
        go_round
        case rel => exact ⟨k + 1, hlt, by go_num⟩
        case measure => simp [intOf]; omega
      · have hmb := hm.resolve_left hma
        have HA := Lib.hid (has_no HRa.out (by omega) hma)
        have HB := Lib.hid (has_yes HRb.out (by omega) hmb)
        clear hm
        go_wp2_with fail
        refine HA.out.mono ?_
        rintro e w9 ⟨rfl, rfl⟩
        go_wp2_with fail
        refine HB.out.mono ?_
        rintro e w9 ⟨rfl, rfl⟩
        go_wp2_with fail
        go_round
        case rel => exact ⟨k + 1, hlt, by go_num⟩
        case measure => simp [intOf]; omega
    obtain rfl : k = u.length := by omega
    clear hk hlt
    have HDp := Lib.hid (Pick_any (l := l) (ids := u) (HX0.out.below L8.out (Nat.le_refl _)) HRu.out (by have := HK0.out.len; omega) (by have := HOu.out.len; omega) (fun x hx => by have := (HK0.out.el x hx).1; omega) (fun x hx => by have := HOu.out.el x hx; omega))
    go_wp2_with fail
    refine HDp.out.mono ?_
    rintro e w9 ⟨vp, rfl, hp, l9⟩
    have hr := hp.rd
    obtain ⟨Ap, cp, rfl⟩ := own_slice hp
    obtain ⟨np, hn⟩ : ∃ n, n = (pickL l u).length := ⟨_, rfl⟩
    rw [← hn] at hr hp ⊢
    clear hn
    have L9 := Lib.hid (L8.out.trans (l9.mono L8.out.size)); have HRu' := Lib.hid (HRu.out.below l9 (Nat.le_refl _)); have HRa' := Lib.hid (HRa.out.below l9 (Nat.le_refl _)); have HRx' := Lib.hid (HRx.out.below l9 (Nat.le_refl _)); have HRb' := Lib.hid (HRb.out.below l9 (Nat.le_refl _)); have HRy' := Lib.hid (HRy.out.below l9 (Nat.le_refl _))
    have HRp := Lib.hid hr; have HPp := Lib.hid hp; have HBp := Lib.hid l9
    clear HRu HRa HRx HRb HRy l9 hr hp HDp
    have HRu := HRu'; clear HRu'
    have HRa := HRa'; clear HRa'
    have HRx := HRx'; clear HRx'
    have HRb := HRb'; clear HRb'
    have HRy := HRy'; clear HRy'
    have HDq := Lib.hid (Closure_any (L := (pickL l u)) (tips := u) HRp.out HRu.out (HO.out.below L9.out).eb (HO.out.below L9.out).tb (okL_pick HK0.out u).len HOu.out.len (okL_pick HK0.out u).el HOu.out.el)
    go_wp2_with fail
    refine HDq.out.mono ?_
    rintro e w10 ⟨vq, vz, q, z, rfl, ra, rb, hc, _, _, l9⟩
    obtain ⟨Aq, cq, rfl⟩ := ra.shape
    obtain ⟨Az, cz, rfl⟩ := rb.shape
    have L10 := Lib.hid (L9.out.trans (l9.mono L9.out.size)); have HRu' := Lib.hid (HRu.out.below l9 (Nat.le_refl _)); have HRa' := Lib.hid (HRa.out.below l9 (Nat.le_refl _)); have HRx' := Lib.hid (HRx.out.below l9 (Nat.le_refl _)); have HRb' := Lib.hid (HRb.out.below l9 (Nat.le_refl _)); have HRy' := Lib.hid (HRy.out.below l9 (Nat.le_refl _)); have HRp' := Lib.hid (HRp.out.below l9 (Nat.le_refl _))
    have HRq := Lib.hid ra; have HRz := Lib.hid rb; have HCq := Lib.hid hc
    clear HRu HRa HRx HRb HRy HRp l9 ra rb hc HDq
    have HRu := HRu'; clear HRu'
    have HRa := HRa'; clear HRa'
    have HRx := HRx'; clear HRx'
    have HRb := HRb'; clear HRb'
    have HRy := HRy'; clear HRy'
    have HRp := HRp'; clear HRp'
    obtain ⟨e1, e2⟩ := clo_shut HCu.out HCq.out
    subst e2
    have hst := SameTexts_any HRq.out HRu.out (by have := (clo_okT (okL_pick HK0.out u) HCq.out).len; omega)
    rw [decide_eq_true e1] at hst
    have HSt := Lib.hid hst
    clear hst e1
    go_wp2_with fail
    refine HSt.out.mono ?_
    rintro e w12 ⟨rfl, l9⟩
    have L11 := Lib.hid (L10.out.trans (l9.mono L10.out.size))
    clear l9
    go_wp2_with fail
    go_ret
    exact ⟨by simp, L11.out⟩
end Go.Proofs.YtialgldmogigfaaGreatDoor.Ct
