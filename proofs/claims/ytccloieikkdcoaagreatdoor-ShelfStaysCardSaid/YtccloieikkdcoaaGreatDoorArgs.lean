/-
  What comes in: slices of bools, of calls, as they read.
-/
import Derived.Test.YtccloieikkdcoaaGreatDoorArgF
namespace Go.Proofs.YtccloieikkdcoaaGreatDoor
open Go Go.RowKit Go.Maps Go.Shelf Go.Deep

/-- A call. -/
structure OpR where
  what : Int
  path : By
  to : By
  b : By
  n : Int
  keep : List Bool
deriving Inhabited

def OpAt (w : World) (base : Nat) (a : Addr) (o : OpR) : Prop := ∃ v kv, w.cell? a = some (.int .i64 o.what) ∧ w.cell? (a.add 1) = some (S o.path) ∧ w.cell? (a.add 2) = some (S o.to) ∧ w.cell? (a.add 3) = some v ∧ w.cell? (a.add 4) = some (.int .i64 o.n) ∧ w.cell? (a.add 5) = some kv ∧
  BytesAt w v o.b ∧ BoolsAt w base kv o.keep ∧ (Lit.int .i64 o.what).wf = true ∧ (Lit.int .i64 o.n).wf = true ∧ o.path.length ≤ lim ∧ o.to.length ≤ lim ∧ o.b.length ≤ lim ∧ o.keep.length ≤ lim
def OpsAt (w : World) (base : Nat) (v : Value) (l : List OpR) : Prop := SliceAt (OpAt w base) 6 v l

theorem OpsAt.below {w w' : World} {v : Value} {l : List OpR} (h : OpsAt w w.heap.size v l) (hB : Below w.heap.size w w') : OpsAt w' w.heap.size v l :=
  h.imp fun _ _ ⟨v, kv, h1, h2, h3, h4, h5, h6, h7, h8, h9⟩ => ⟨v, kv, cell_below' hB h1, cell_below' hB h2, cell_below' hB h3, cell_below' hB h4, cell_below' hB h5, cell_below' hB h6, h7.below hB, h8.keep (K.of_new hB (Nat.le_refl _)), h9⟩

section
variable {H : Type} {enc : TypeId × Value → H} {W : World} {base : Nat} {held : Bool}

theorem cell1K : Tryz.prog.cellsOf 32 = 1 := by kernel_rfl
theorem cell1I : Tryz.prog.cellsOf 3 = 1 := by kernel_rfl

theorem open_bools {fuel : Nat} {v : Value} {x : DataW H × List MemPlace} (h : DataW.trod enc Tryz.prog W base (fun _ => true) held fuel 32 [v] = some x) (hF : Fits 32 x.1) : ∃ ks : List Bool, ks.length ≤ lim ∧ BoolsAt W W.heap.size v ks := by
  rcases open_slice1 Tryz.underlying32 (by kernel_rfl) h with ⟨h0, _⟩ | ⟨a, len, cap, m, n, V, D, Pl, h0, hb, hl, hm, hmm, rfl, hx⟩
  · cases h0
    exact ⟨[], by simp, .inl ⟨rfl, rfl⟩⟩
  · cases h0
    have hlm : len ≤ m := by rw [hmm]; split <;> omega
    have each : ∀ i, i < len → ∃ u : Bool, V i = .bool u := fun i hi => by
      obtain ⟨k, h1, _⟩ := DataW.trod_bool Tryz.underlying4 (hx i (by omega)).2
      exact ⟨k, by simpa using h1⟩
    obtain ⟨f, hf⟩ := choose_lt each
    have hlen : ((List.range len).map f).length = len := by simp
    have hw := hF.slice Tryz.underlying32
    rw [show Tryz.prog.bytesOf 4 = 1 by kernel_rfl] at hw
    refine ⟨(List.range len).map f, by rw [hlen]; simp [reachBytes] at hw; unfold lim; omega, .inr ⟨a, cap, by rw [hlen], fun i hi => ?_⟩⟩
    rw [hlen] at hi
    have hc := (hx i (by omega)).1
    refine ⟨.inl ?_, ?_⟩
    · have := World.block_lt_of_cell? W _ hc
      rwa [add_block] at this
    · rw [hc, hf i hi]; simp [hi]

set_option maxRecDepth 100000 in
theorem open_op (b off n : Nat) (cs : List Value) (y : DataW H × List MemPlace) (h1 : W.cells? base ⟨b, off, none⟩ 6 = some cs) (h2 : DataW.trod enc Tryz.prog W base (fun _ => true) held n 34 cs = some y) (hF : Fits 34 y.1) : ∃ o, OpAt W W.heap.size ⟨b, off, none⟩ o := by
  obtain ⟨_, h3, h4⟩ := World.cells?_some h1
  obtain ⟨xs, n', _, rfl, _, hlen, hf⟩ := DataW.trod_struct Tryz.underlying34 h2
  match cs, h3 with
  | [v0, v1, v2, v3, v4, v5], _ =>
    match xs, hlen with
    | [y0, y1, y2, y3, y4, y5], _ =>
      have f0 := fld (cs := [v0, v1, v2, v3, v4, v5]) (off := 0) cell1I (hf 0 _ rfl)
      have f1 := fld (cs := [v0, v1, v2, v3, v4, v5]) (off := 1) cell1S (hf 1 _ rfl)
      have f2 := fld (cs := [v0, v1, v2, v3, v4, v5]) (off := 2) cell1S (hf 2 _ rfl)
      have f3 := fld (cs := [v0, v1, v2, v3, v4, v5]) (off := 3) cell1B (hf 3 _ rfl)
      have f4 := fld (cs := [v0, v1, v2, v3, v4, v5]) (off := 4) cell1I (hf 4 _ rfl)
      have f5 := fld (cs := [v0, v1, v2, v3, v4, v5]) (off := 5) cell1K (hf 5 _ rfl)
      obtain ⟨i, e0, _, w0⟩ := DataW.trod_int (cs := [v0]) Tryz.underlying3 f0
      obtain ⟨p, hp, rfl⟩ := open_S (v := v1) f1 (hF.field Tryz.underlying34 (i := 1) rfl rfl)
      obtain ⟨q, hq, rfl⟩ := open_S (v := v2) f2 (hF.field Tryz.underlying34 (i := 2) rfl rfl)
      obtain ⟨d, hd, hb⟩ := open_bytes (v := v3) f3 (hF.field Tryz.underlying34 (i := 3) rfl rfl)
      obtain ⟨m, e4, _, w4⟩ := DataW.trod_int (cs := [v4]) Tryz.underlying3 f4
      obtain ⟨ks, hk, hkv⟩ := open_bools (v := v5) f5 (hF.field Tryz.underlying34 (i := 5) rfl rfl)
      cases e0
      cases e4
      have c0 := h4 0 (by omega)
      have c1 := h4 1 (by omega)
      have c2 := h4 2 (by omega)
      have c3 := h4 3 (by omega)
      have c4 := h4 4 (by omega)
      have c5 := h4 5 (by omega)
      exact ⟨⟨i, p, q, d, m, ks⟩, v3, v5, by simpa [Addr.add] using c0, c1, c2, c3, c4, c5, hb, hkv, w0, w4, hp, hq, hd, hk⟩

theorem open_ops {fuel : Nat} {v : Value} {x : DataW H × List MemPlace} (h : DataW.trod enc Tryz.prog W base (fun _ => true) held fuel 23 [v] = some x) (hF : Fits 23 x.1) : ∃ l : List OpR, l.length ≤ lim ∧ OpsAt W W.heap.size v l :=
  open_structs (OpAt W W.heap.size) Tryz.underlying23 (by kernel_rfl) h (by omega) hF (of_decide_eq_true (by kernel_rfl)) open_op
end
end Go.Proofs.YtccloieikkdcoaaGreatDoor
