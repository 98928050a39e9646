/-
  Steps of regions that draw their order, more: a store, a look-up, an alloc, a call beside what makes memory.
  What comes in: items, texts, commits, tags, objects, as they read.
  ObjectBack, walked.
-/
import Derived.Test.YtialgldmogigfaaGreatDoorC14
import Derived.Test.YtialgldmogigfaaGreatDoorC15
import Derived.Test.YtialgldmogigfaaGreatDoorC16
import Derived.Deep.Slices
import Derived.ChangeArms
import Derived.DataShut
import Derived.SizedLaws
import Derived.Test.YtialgldmogigfaaGreatDoorC06
import Derived.Test.YtialgldmogigfaaGreatDoorC09
import Derived.Test.YtialgldmogigfaaGreatDoorC13

namespace Go.Proofs.YtialgldmogigfaaGreatDoor
open Go Go.RowKit Go.Maps
section
variable {P : Program} {ops : Array Oper} {Q : Exit → Go.Act → World → Prop} {b : Nat} {w0 : World}
theorem AnyK.store (i : Nat) (w' : World) {oi : Oper} {fuel : Nat} {listed : Array Bool} {a : Go.Act} {w : World} (hr : Region.ready .any ops listed = [i]) (hi : ops[i]? = some oi)
    (hw : Region.wanted oi (yielded ops a.tmps) = true) (he : (execOp a.eval oi).run P w = .ok .skip w') (hb : Below b w0 w') (h : AnyK P ops Q b w0 fuel (listed.setIfInBounds i true) (a.put oi.dst undef) w') : AnyK P ops Q b w0 (fuel + 1) listed a w :=
  held_one hr (held_store w' hi hw he hb h)
/-- A call, or what makes memory: either may come first. -/
theorem AnyK.callop (i j : Nat) {fuel : Nat} {listed : Array Bool} {a : Go.Act} {w : World} (hr : Region.ready .any ops listed = [i, j]) {oi oj : Oper} (f : FuncId) (vs : Array Value) (v' : Value) (w2 : World) (hi : ops[i]? = some oi) (hj : ops[j]? = some oj)
    (hwi : Region.wanted oi (yielded ops a.tmps) = true) (hwj : Region.wanted oj (yielded ops a.tmps) = true) (he : (execOp a.eval oi).run P w = .ok (.enter f vs) w) (hej : (execOp a.eval oj).run P w = .ok (.value v') w2) (hb2 : Below b w0 w2)
    (hc : Calls P f vs w fun e w' => ∃ v, e = .returned v ∧ Below b w0 w' ∧ AnyK P ops Q b w0 fuel (listed.setIfInBounds i true) (a.put oi.dst v) w')
    (h2 : AnyK P ops Q b w0 fuel (listed.setIfInBounds j true) (a.put oj.dst v') w2) : AnyK P ops Q b w0 (fuel + 1) listed a w := by
  refine wpAnyH_ready hr (by simp) (AllReadyH.cons hi (fun K hK => ?_) (AllReadyH.cons hj (fun K hK => ?_) AllReadyH.nil))
  · rw [if_pos hwi]
    unfold Oper.wp
    rw [he, Oper.upon_enter]
    refine hc.mono ?_
    rintro e w' ⟨v, rfl, hb, h⟩
    exact hK.out _ _ hb fun _ => h
  · rw [if_pos hwj]
    unfold Oper.wp
    rw [hej, Oper.upon_value]
    exact hK.out _ _ hb2 fun _ => h2
end
section
variable {P : Program} {a : Go.Act} {o : Oper} {W : World}
theorem y_lookup {t : TypeId} {m x : Operand} {c : Bool} {mv xv r : Value} (ho : o.op = .lookup t m x c) (hm : a.eval m = mv) (hx : a.eval x = xv) (h : (Instr.lookup t mv xv c).run P W = .ok r W) : (execOp a.eval o).run P W = .ok (.value r) W := by
  subst hm hx
  simp only [execOp, ho]
  simp [h, Result.andThen]
theorem y_alloc {t : TypeId} {r : Value} {W' : World} (ho : o.op = .alloc t) (h : (Instr.alloc t true (.tuple #[])).run P W = .ok r W') : (execOp a.eval o).run P W = .ok (.value r) W' := by
  simp only [execOp, ho]
  simp [h, Result.andThen]
end
theorem at_str (W : World) (g o n c k : Nat) (hk : k < n) : (Instr.indexAt 23 (.slice (some ⟨g, o, none⟩) n c) (.int .i64 (k : Int))).run Tryz.prog W = .ok (.pointer (some ⟨g, o + k, none⟩)) W := by
  have h1 : (k : Int) < (n : Int) := by omega
  simp [go_sem, h1]
theorem l_strs (W : World) (b o : Nat) (A : Option Addr) (n c : Nat) (h : W.cell? ⟨b, o, none⟩ = some (.slice A n c)) : (Instr.loadAt 23 (.pointer (some ⟨b, o, none⟩))).run Tryz.prog W = .ok (.slice A n c) W := by
  go_simp
theorem l_ofmap (W : World) (b o : Nat) (m : Nat) (h : W.cell? ⟨b, o, none⟩ = some (.map (some m))) : (Instr.loadAt 63 (.pointer (some ⟨b, o, none⟩))).run Tryz.prog W = .ok (.map (some m)) W := by
  go_simp
theorem l_objR (W : World) (b o : Nat) (k : Int) (d : ByteArray) (h : W.cell? ⟨b, o, none⟩ = some (.int .i64 k)) (h1 : W.cell? ⟨b, o + 1, none⟩ = some (.string d)) : (Instr.loadAt 44 (.pointer (some ⟨b, o, none⟩))).run Tryz.prog W = .ok (.agg #[.int .i64 k, .string d]) W := by
  go_simp
theorem alloc_obj (W : World) : (Instr.alloc 44 true (.tuple #[])).run Tryz.prog W = .ok (.pointer (some ⟨W.heap.size, 0, none⟩)) (W.alloc (.cells #[.int .i64 0, .string ⟨#[]⟩] 44)) := by
  simp [go_sem]
theorem store_obj (W : World) (k : Int) (d : ByteArray) : (Instr.storeAt 44 (.pointer (some ⟨W.heap.size, 0, none⟩)) (.agg #[.int .i64 k, .string d])).run Tryz.prog (W.alloc (.cells #[.int .i64 0, .string ⟨#[]⟩] 44)) = .ok () (W.alloc (.cells #[.int .i64 k, .string d] 44)) := by
  go_simp
theorem alloc_met (W : World) : (Instr.alloc 67 true (.tuple #[])).run Tryz.prog W = .ok (.pointer (some ⟨W.heap.size, 0, none⟩)) (W.alloc (.cells #[.string ⟨#[]⟩, .bool false, .slice none 0 0] 67)) := by
  simp [go_sem]
theorem store_met (W : World) (s : ByteArray) (b : Bool) (A : Option Addr) (n c : Nat) : (Instr.storeAt 67 (.pointer (some ⟨W.heap.size, 0, none⟩)) (.agg #[.string s, .bool b, .slice A n c])).run Tryz.prog (W.alloc (.cells #[.string ⟨#[]⟩, .bool false, .slice none 0 0] 67)) = .ok () (W.alloc (.cells #[.string s, .bool b, .slice A n c] 67)) := by
  go_simp
theorem blk_setCell {W : World} {b i : Nat} {cs : Array Value} {t : TypeId} {fr : Nat × Nat} (h : W.heap[b]? = some (.cells cs t fr)) (v : Value) : (W.setCell ⟨b, i, none⟩ v).heap[b]? = some (.cells (cs.setIfInBounds i v) t fr) := by
  obtain ⟨hlt, hk⟩ := Array.getElem?_eq_some_iff.1 h
  show (W.heap.modify b _)[b]? = _
  rw [Array.getElem?_eq_getElem (by rw [Array.size_modify]; exact hlt), Array.getElem_modify_self, hk]
  rfl
theorem store_met_at (W : World) (b : Nat) (v0 v1 v2 : Value) (h : W.heap[b]? = some (.cells #[v0, v1, v2] 67 (0, 0))) (s : ByteArray) (t : Bool) (A : Option Addr) (n c : Nat) :
    ∃ w', (Instr.storeAt 67 (.pointer (some ⟨b, 0, none⟩)) (.agg #[.string s, .bool t, .slice A n c])).run Tryz.prog W = .ok () w' ∧ w'.heap[b]? = some (.cells #[.string s, .bool t, .slice A n c] 67 (0, 0)) ∧ But (fun k => k = b) W w' := by
  have c0 : W.cell? ⟨b, 0, none⟩ = some v0 := (cell_of_row W _ 0 _ _ _ h).trans rfl
  have c1 : W.cell? ⟨b, 1, none⟩ = some v1 := (cell_of_row W _ 1 _ _ _ h).trans rfl
  have c2 : W.cell? ⟨b, 2, none⟩ = some v2 := (cell_of_row W _ 2 _ _ _ h).trans rfl
  have f0 := frozen_of (i := 0) h
  have f1 := frozen_of (i := 1) h
  have f2 := frozen_of (i := 2) h
  refine ⟨((W.setCell ⟨b, 0, none⟩ (.string s)).setCell ⟨b, 1, none⟩ (.bool t)).setCell ⟨b, 2, none⟩ (.slice A n c), ?_, ?_, ?_⟩
  · go_simp
  · exact blk_setCell (blk_setCell (blk_setCell h _) _) _
  · exact (((But.refl (fun k => k = b) W).setCell (p := ⟨b, 0, none⟩) rfl _).setCell (p := ⟨b, 1, none⟩) rfl _).setCell (p := ⟨b, 2, none⟩) rfl _
end Go.Proofs.YtialgldmogigfaaGreatDoor


namespace Go.Proofs.YtialgldmogigfaaGreatDoor
open Go Go.RowKit Go.Deep
theorem add_at (b off k : Nat) : (⟨b, off, none⟩ : Addr).add k = ⟨b, off + k, none⟩ := by
  unfold Addr.add; split <;> simp_all
section
variable {H : Type} {enc : TypeId × Value → H} {W : World} {base : Nat} {held : Bool}

/-- What came in is no greater than a reach. -/
def Fits (t : TypeId) (d : DataW H) : Prop := ∀ n ∈ d.weights Tryz.prog t, n ≤ reachBytes
theorem Fits.slice {t e : TypeId} {el sp : List (DataW H)} (h : Fits t (.slice el sp)) (hu : Tryz.prog.underlying t = some (.slice e)) : (el.length + sp.length) * Tryz.prog.bytesOf e ≤ reachBytes := h _ (by simp [DataW.weights, hu])
theorem mem_all {P : Program} {e : TypeId} {n : Nat} {d : DataW H} : ∀ {l : List (DataW H)}, d ∈ l → n ∈ d.weights P e → n ∈ DataW.weightsAll P e l
  | x :: l, hd, hn => by
    rw [DataW.weightsAll, List.mem_append]
    rcases List.mem_cons.1 hd with rfl | hd
    · exact .inl hn
    · exact .inr (mem_all hd hn)
theorem Fits.elem {t e : TypeId} {el sp : List (DataW H)} {d : DataW H} (h : Fits t (.slice el sp)) (hu : Tryz.prog.underlying t = some (.slice e)) (hd : d ∈ el) : Fits e d := fun n hn =>
  h _ (by simp only [DataW.weights, hu]; exact List.mem_cons_of_mem _ (List.mem_append_left _ (mem_all hd hn)))
theorem Fits.field {t : TypeId} {fs : Array Field} {xs : List (DataW H × List MemPlace)} {y : DataW H × List MemPlace} {i : Nat} {f : Field} (h : Fits t (.agg (xs.map (·.1)))) (hu : Tryz.prog.underlying t = some (.struct fs)) (hf : fs[i]? = some f) (hy : xs[i]? = some y) : Fits f.type y.1 := fun n hn =>
  h _ (by simp only [DataW.weights, hu]; exact DataW.weights_mem_each (j := i) (t := f.type) (d := y.1) (by simp [hf]) (by simp [hy]) n hn)

/-- A slice, opened. -/
theorem open_rd {α : Type} [Inhabited α] {t e : TypeId} {k fuel : Nat} {v : Value} {x : DataW H × List MemPlace} (f : α → List Value) (Q : α → Prop) (ht : Tryz.prog.underlying t = some (.slice e)) (hs : Tryz.prog.cellsOf e = k)
    (h : DataW.trod enc Tryz.prog W base (fun _ => true) held fuel t [v] = some x) (h0 : 0 < k) (hF : Fits t x.1) (hby : 0 < Tryz.prog.bytesOf e)
    (hel : ∀ b off n cs y, W.cells? base ⟨b, off, none⟩ k = some cs → DataW.trod enc Tryz.prog W base (fun _ => true) held n e cs = some y → Fits e y.1 → ∃ o, Q o ∧ ∀ i, i < k → W.cell? ⟨b, off + i, none⟩ = (f o)[i]?) :
    ∃ l : List α, l.length ≤ lim ∧ (∀ o ∈ l, Q o) ∧ RdK k f W v l := by
  rcases open_slice ht h with ⟨h0, _⟩ | ⟨a, len, cap, m, n, D, Pl, h0', hb, hl, hm, hmm, rfl, hx⟩
  · cases h0
    exact ⟨[], by simp, fun o ho => by simp at ho, .inl ⟨⟨_, _, rfl⟩, rfl⟩⟩
  · cases h0'
    have hlm : len ≤ m := by rw [hmm]; split <;> omega
    rw [hs] at hx
    by_cases hl0 : len = 0
    · subst hl0
      exact ⟨[], by simp, fun o ho => by simp at ho, .inl ⟨⟨_, _, rfl⟩, rfl⟩⟩
    have hsp : a.spot = none := by
      obtain ⟨cs, h1, _⟩ := hx 0 (by omega)
      obtain ⟨_, h3, h4⟩ := World.cells?_some h1
      have hc0 := h4 0 h0
      rw [List.getElem?_eq_getElem (by omega)] at hc0
      have hsp := World.cell?_spot hc0
      simpa [Addr.add] using hsp
    obtain ⟨b, off, sp⟩ := a
    cases hsp
    have each : ∀ i, i < len → ∃ o, Q o ∧ ∀ j, j < k → W.cell? ⟨b, off + i * k + j, none⟩ = (f o)[j]? := fun i hi => by
      obtain ⟨cs, h1, h2⟩ := hx i (by omega)
      rw [add_at] at h1
      exact hel _ _ _ _ _ h1 h2 (hF.elem ht (List.mem_map.2 ⟨i, List.mem_range.2 hi, rfl⟩))
    obtain ⟨g, hg⟩ := choose_lt each
    have hlen : ((List.range len).map g).length = len := by simp
    have hw := hF.slice ht
    have hw2 : len ≤ reachBytes := by
      refine Nat.le_trans ?_ hw
      simp only [List.length_map, List.length_range]
      exact Nat.le_trans (Nat.le_add_right _ _) (Nat.le_mul_of_pos_right _ hby)
    have hlt : b < W.heap.size := by
      obtain ⟨cs, h1, _⟩ := hx 0 (by omega)
      obtain ⟨_, h3, h4⟩ := World.cells?_some h1
      have hc0 := h4 0 h0
      rw [List.getElem?_eq_getElem (by omega), add_at, add_at] at hc0
      exact World.block_lt_of_cell? W _ hc0
    refine ⟨(List.range len).map g, by rw [hlen]; simp [reachBytes] at hw2; unfold lim; omega, fun o ho => ?_, .inr ⟨b, off, cap, by rw [hlen], by rw [hlen]; exact hl, hlt, fun j hj x hx i hi => ?_⟩⟩
    · obtain ⟨i, hi, rfl⟩ := List.mem_map.1 ho
      exact (hg i (List.mem_range.1 hi)).1
    · rw [hlen] at hj
      have eo : g j = x := by simpa [hj] using hx
      subst eo
      exact (hg j hj).2 i hi

theorem cell1S : Tryz.prog.cellsOf 9 = 1 := by kernel_rfl
theorem cell1I : Tryz.prog.cellsOf 3 = 1 := by kernel_rfl
theorem cell1L : Tryz.prog.cellsOf 23 = 1 := by kernel_rfl
theorem fld {n off k : Nat} {t : TypeId} {cs : List Value} {y : Option (DataW H × List MemPlace)} (hc : Tryz.prog.cellsOf t = k) (h : DataW.trod enc Tryz.prog W base (fun _ => true) held n t ((cs.drop off).take (Tryz.prog.cellsOf t)) = y) : DataW.trod enc Tryz.prog W base (fun _ => true) held n t ((cs.drop off).take k) = y := hc ▸ h

set_option maxRecDepth 100000 in
theorem open_S {fuel : Nat} {v : Value} {x : DataW H × List MemPlace} (h : DataW.trod enc Tryz.prog W base (fun _ => true) held fuel 9 [v] = some x) (hF : Fits 9 x.1) : ∃ p : List UInt8, p.length ≤ lim ∧ v = SV p := by
  obtain ⟨s, h1, rfl, h3⟩ := DataW.trod_string Tryz.underlying9 h
  cases h1
  have hw := hF s.data.toList.length (by simp [DataW.weights])
  exact ⟨s.data.toList, by simp [reachBytes] at hw; rw [Array.length_toList]; unfold lim; show s.size ≤ _; omega, rfl⟩
set_option maxRecDepth 100000 in
theorem open_I {fuel : Nat} {v : Value} {x : DataW H × List MemPlace} (h : DataW.trod enc Tryz.prog W base (fun _ => true) held fuel 3 [v] = some x) : ∃ n : Int, v = .int .i64 n := by
  obtain ⟨n, h1, _⟩ := DataW.trod_int Tryz.underlying3 h
  exact ⟨n, by simpa using h1⟩

instance : Inhabited Itm := ⟨noItm⟩

/-- Lengths that may come in. -/
def FitI (x : Itm) : Prop := x.name.length ≤ lim ∧ x.id.length ≤ lim
set_option maxRecDepth 100000 in
theorem open_item (b off n : Nat) (cs : List Value) (y : DataW H × List MemPlace) (h1 : W.cells? base ⟨b, off, none⟩ 3 = some cs) (h2 : DataW.trod enc Tryz.prog W base (fun _ => true) held n 49 cs = some y) (hF : Fits 49 y.1) :
    ∃ o, FitI o ∧ ∀ i, i < 3 → W.cell? ⟨b, off + i, none⟩ = (itmC o)[i]? := by
  obtain ⟨_, h3, h4⟩ := World.cells?_some h1
  obtain ⟨xs, n', _, rfl, _, hlen, hf⟩ := DataW.trod_struct Tryz.underlying49 h2
  match cs, h3 with
  | [v0, v1, v2], _ =>
    match xs, hlen with
    | [y0, y1, y2], _ =>
      have f0 := fld (cs := [v0, v1, v2]) (off := 0) cell1I (hf 0 _ rfl)
      have f1 := fld (cs := [v0, v1, v2]) (off := 1) cell1S (hf 1 _ rfl)
      have f2 := fld (cs := [v0, v1, v2]) (off := 2) cell1S (hf 2 _ rfl)
      obtain ⟨m, rfl⟩ := open_I (v := v0) f0
      obtain ⟨p, hp, rfl⟩ := open_S (v := v1) f1 (hF.field Tryz.underlying49 (i := 1) rfl rfl)
      obtain ⟨q, hq, rfl⟩ := open_S (v := v2) f2 (hF.field Tryz.underlying49 (i := 2) rfl rfl)
      refine ⟨⟨m, p, q⟩, ⟨hp, hq⟩, fun i hi => ?_⟩
      have c := h4 i hi
      rw [add_at] at c
      rw [c]
      match i, hi with
      | 0, _ => rfl
      | 1, _ => rfl
      | 2, _ => rfl
theorem open_items {fuel : Nat} {v : Value} {x : DataW H × List MemPlace} (h : DataW.trod enc Tryz.prog W base (fun _ => true) held fuel 50 [v] = some x) (hF : Fits 50 x.1) : ∃ l : List Itm, l.length ≤ lim ∧ (∀ o ∈ l, FitI o) ∧ ItmsR W v l :=
  open_rd itmC FitI Tryz.underlying50 (by kernel_rfl) h (by omega) hF (of_decide_eq_true (by kernel_rfl)) open_item
set_option maxRecDepth 100000 in
theorem open_str (b off n : Nat) (cs : List Value) (y : DataW H × List MemPlace) (h1 : W.cells? base ⟨b, off, none⟩ 1 = some cs) (h2 : DataW.trod enc Tryz.prog W base (fun _ => true) held n 9 cs = some y) (hF : Fits 9 y.1) :
    ∃ o : List UInt8, o.length ≤ lim ∧ ∀ i, i < 1 → W.cell? ⟨b, off + i, none⟩ = (strC o)[i]? := by
  obtain ⟨_, h3, h4⟩ := World.cells?_some h1
  match cs, h3 with
  | [v0], _ =>
    obtain ⟨p, hp, rfl⟩ := open_S (v := v0) h2 hF
    refine ⟨p, hp, fun i hi => ?_⟩
    have c := h4 i hi
    rw [add_at] at c
    rw [c]
    match i, hi with
    | 0, _ => rfl
theorem open_strs {fuel : Nat} {v : Value} {x : DataW H × List MemPlace} (h : DataW.trod enc Tryz.prog W base (fun _ => true) held fuel 23 [v] = some x) (hF : Fits 23 x.1) : ∃ l : List (List UInt8), l.length ≤ lim ∧ (∀ o ∈ l, o.length ≤ lim) ∧ StrsR W v l :=
  open_rd strC (fun o => o.length ≤ lim) Tryz.underlying23 (by kernel_rfl) h (by omega) hF (of_decide_eq_true (by kernel_rfl)) open_str

/-- A commit that comes in. -/
def FitC (c : Chg) : Prop := c.tree.length ≤ lim ∧ c.parents.length ≤ lim ∧ c.who.length ≤ lim ∧ c.text.length ≤ lim
set_option maxRecDepth 100000 in
theorem open_change {fuel : Nat} {cs : List Value} {y : DataW H × List MemPlace} (h3 : cs.length = 4) (h2 : DataW.trod enc Tryz.prog W base (fun _ => true) held fuel 93 cs = some y) (hF : Fits 93 y.1) :
    ∃ c vp, FitC c ∧ StrsR W vp c.parents ∧ Value.agg cs.toArray = ChgV c vp := by
  obtain ⟨xs, n', _, rfl, _, hlen, hf⟩ := DataW.trod_struct Tryz.underlying93 h2
  match cs, h3 with
  | [v0, v1, v2, v3], _ =>
    match xs, hlen with
    | [y0, y1, y2, y3], _ =>
      have f0 := fld (cs := [v0, v1, v2, v3]) (off := 0) cell1S (hf 0 _ rfl)
      have f1 := fld (cs := [v0, v1, v2, v3]) (off := 1) cell1L (hf 1 _ rfl)
      have f2 := fld (cs := [v0, v1, v2, v3]) (off := 2) cell1S (hf 2 _ rfl)
      have f3 := fld (cs := [v0, v1, v2, v3]) (off := 3) cell1S (hf 3 _ rfl)
      obtain ⟨a, ha, rfl⟩ := open_S (v := v0) f0 (hF.field Tryz.underlying93 (i := 0) rfl rfl)
      obtain ⟨ps, hps, _, hr⟩ := open_strs (v := v1) f1 (hF.field Tryz.underlying93 (i := 1) rfl rfl)
      obtain ⟨p, hp, rfl⟩ := open_S (v := v2) f2 (hF.field Tryz.underlying93 (i := 2) rfl rfl)
      obtain ⟨q, hq, rfl⟩ := open_S (v := v3) f3 (hF.field Tryz.underlying93 (i := 3) rfl rfl)
      exact ⟨⟨a, ps, p, q⟩, v1, ⟨ha, hps, hp, hq⟩, hr, rfl⟩
def FitL (l : Lbl) : Prop := l.id.length ≤ lim ∧ l.name.length ≤ lim ∧ l.text.length ≤ lim
set_option maxRecDepth 100000 in
theorem open_label {fuel : Nat} {cs : List Value} {y : DataW H × List MemPlace} (h3 : cs.length = 4) (h2 : DataW.trod enc Tryz.prog W base (fun _ => true) held fuel 97 cs = some y) (hF : Fits 97 y.1) :
    ∃ l, FitL l ∧ Value.agg cs.toArray = LblV l := by
  obtain ⟨xs, n', _, rfl, _, hlen, hf⟩ := DataW.trod_struct Tryz.underlying97 h2
  match cs, h3 with
  | [v0, v1, v2, v3], _ =>
    match xs, hlen with
    | [y0, y1, y2, y3], _ =>
      have f0 := fld (cs := [v0, v1, v2, v3]) (off := 0) cell1S (hf 0 _ rfl)
      have f1 := fld (cs := [v0, v1, v2, v3]) (off := 1) cell1I (hf 1 _ rfl)
      have f2 := fld (cs := [v0, v1, v2, v3]) (off := 2) cell1S (hf 2 _ rfl)
      have f3 := fld (cs := [v0, v1, v2, v3]) (off := 3) cell1S (hf 3 _ rfl)
      obtain ⟨a, ha, rfl⟩ := open_S (v := v0) f0 (hF.field Tryz.underlying97 (i := 0) rfl rfl)
      obtain ⟨k, rfl⟩ := open_I (v := v1) f1
      obtain ⟨p, hp, rfl⟩ := open_S (v := v2) f2 (hF.field Tryz.underlying97 (i := 2) rfl rfl)
      obtain ⟨q, hq, rfl⟩ := open_S (v := v3) f3 (hF.field Tryz.underlying97 (i := 3) rfl rfl)
      exact ⟨⟨a, k, p, q⟩, ⟨ha, hp, hq⟩, rfl⟩
set_option maxRecDepth 100000 in
theorem open_obj {fuel : Nat} {cs : List Value} {y : DataW H × List MemPlace} (h3 : cs.length = 2) (h2 : DataW.trod enc Tryz.prog W base (fun _ => true) held fuel 44 cs = some y) (hF : Fits 44 y.1) :
    ∃ k d, d.length ≤ lim ∧ Value.agg cs.toArray = ObjV k d := by
  obtain ⟨xs, n', _, rfl, _, hlen, hf⟩ := DataW.trod_struct Tryz.underlying44 h2
  match cs, h3 with
  | [v0, v1], _ =>
    match xs, hlen with
    | [y0, y1], _ =>
      have f0 := fld (cs := [v0, v1]) (off := 0) cell1I (hf 0 _ rfl)
      have f1 := fld (cs := [v0, v1]) (off := 1) cell1S (hf 1 _ rfl)
      obtain ⟨k, rfl⟩ := open_I (v := v0) f0
      obtain ⟨p, hp, rfl⟩ := open_S (v := v1) f1 (hF.field Tryz.underlying44 (i := 1) rfl rfl)
      exact ⟨k, p, hp, rfl⟩
end
end Go.Proofs.YtialgldmogigfaaGreatDoor


namespace Go.Proofs.YtialgldmogigfaaGreatDoor
open Go Go.RowKit Go.Shelf
/-- A commit's box alone. -/
theorem one_box (w : World) (a0 a1 a2 a3 : Value) (W : World) (hW : Below (w.alloc (.cells #[a0, a1, a2, a3] 93)).heap.size (w.alloc (.cells #[a0, a1, a2, a3] 93)) W) :
    W.cell? ⟨w.heap.size, 0, none⟩ = some a0 ∧ W.cell? ⟨w.heap.size, 1, none⟩ = some a1 ∧ W.cell? ⟨w.heap.size, 2, none⟩ = some a2 ∧ W.cell? ⟨w.heap.size, 3, none⟩ = some a3 :=
  ⟨(hW.cell (p := ⟨w.heap.size, 0, none⟩) (by simp)).trans (by simp), (hW.cell (p := ⟨w.heap.size, 1, none⟩) (by simp)).trans (by simp), (hW.cell (p := ⟨w.heap.size, 2, none⟩) (by simp)).trans (by simp), (hW.cell (p := ⟨w.heap.size, 3, none⟩) (by simp)).trans (by simp)⟩
end Go.Proofs.YtialgldmogigfaaGreatDoor
