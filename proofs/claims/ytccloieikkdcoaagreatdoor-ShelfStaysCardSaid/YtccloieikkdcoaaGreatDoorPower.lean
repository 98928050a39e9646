/-
  The shelf's small methods: power, burn, table.size, what is told of a path in a map.
-/
import Derived.Test.YtccloieikkdcoaaGreatDoorAs
import Derived.Maps.RangeWalk
import Derived.WalkSmall
namespace Go.Proofs.YtccloieikkdcoaaGreatDoor
open Go Go.RowKit Go.Maps

section
variable {w : World} {base s f y : Nat} {lv : Value} {st : St}
theorem Ok.cell (h : Ok w base s f y lv st) (i : Nat) : w.cell? ⟨s, i, none⟩ = (shelfCells f y lv st)[i]? := by simp [World.cell?, h.blk]
theorem Ok.free (h : Ok w base s f y lv st) (i : Nat) : w.frozen? ⟨s, i, none⟩ = false := by simp [World.frozen?, h.blk]
theorem Ok.c0 (h : Ok w base s f y lv st) : w.cell? ⟨s, 0, none⟩ = some (.map (some f)) := h.cell 0
theorem Ok.c1 (h : Ok w base s f y lv st) : w.cell? ⟨s, 1, none⟩ = some (.map (some y)) := h.cell 1
theorem Ok.c2 (h : Ok w base s f y lv st) : w.cell? ⟨s, 2, none⟩ = some lv := h.cell 2
theorem Ok.c3 (h : Ok w base s f y lv st) : w.cell? ⟨s, 3, none⟩ = some (.int .i64 st.room) := h.cell 3
theorem Ok.c4 (h : Ok w base s f y lv st) : w.cell? ⟨s, 4, none⟩ = some (.int .i64 st.acts) := h.cell 4
theorem Ok.c5 (h : Ok w base s f y lv st) : w.cell? ⟨s, 5, none⟩ = some (.int .i64 st.fuse) := h.cell 5
theorem Ok.c6 (h : Ok w base s f y lv st) : w.cell? ⟨s, 6, none⟩ = some (.bool st.down) := h.cell 6
end

/-- May an act be done? -/
def on (st : St) : Bool := !st.down && !(st.fuse == 0)

def PowerPost (st : St) (w : World) (e : Ending) (w' : World) : Prop :=
  Below w.heap.size w w' ∧ ((on st = true ∧ e = .returned .nilIface ∧ w' = w) ∨ (on st = false ∧ ∃ ev, e = .returned ev ∧ FaultIn w' ev 13))

set_option maxHeartbeats 1000000 in
theorem power_any {w : World} {base s f y : Nat} {lv : Value} {st : St} (h : Ok w base s f y lv st) : Calls Tryz.prog 67 #[.pointer (some ⟨s, 0, none⟩)] w (PowerPost st w) := by
  have c5 := h.c5; have c6 := h.c6
  clear h
  rcases hd : st.down with _ | _
  · by_cases hf : st.fuse = 0
    · have ho : on st = false := by unfold on; rw [hd, hf]; rfl
      rw [hd] at c6; rw [hf] at c5
      have Ho := Lib.hid ho; clear hd hf ho
      go_enter Tryz.func67, Tryz.ntmps67
      go_wp2
      go_ret
      exact ⟨⟨rfl, rfl, rfl, by simp, fun k hk => Below.heap_alloc _ _ _ hk⟩, .inr ⟨Ho.out, _, rfl, _, _, rfl, heap_alloc_new w _⟩⟩
    · have ho : on st = true := by unfold on; rw [hd]; simpa using hf
      have hb : (st.fuse == 0) = false := by simpa using hf
      rw [hd] at c6
      have Ho := Lib.hid ho; clear hd hf ho
      go_enter Tryz.func67, Tryz.ntmps67
      go_wp2
      go_ret
      exact ⟨Below.refl _ _, .inl ⟨Ho.out, rfl, rfl⟩⟩
  · have ho : on st = false := by unfold on; rw [hd]; rfl
    rw [hd] at c6
    have Ho := Lib.hid ho; clear hd ho
    go_enter Tryz.func67, Tryz.ntmps67
    go_wp2
    go_ret
    exact ⟨⟨rfl, rfl, rfl, by simp, fun k hk => Below.heap_alloc _ _ _ hk⟩, .inr ⟨Ho.out, _, rfl, _, _, rfl, heap_alloc_new w _⟩⟩

/-! ### writing a field of the shelf -/
theorem set_block {w : World} {s : Nat} {cs : Array Value} {e : TypeId} {fz : Nat × Nat} (h : w.heap[s]? = some (.cells cs e fz)) (i : Nat) (u : Value) : (w.setCell ⟨s, i, none⟩ u).heap[s]? = some (.cells (cs.setIfInBounds i u) e fz) := by
  have hlt := lt_of_block h
  have h' : w.heap[s] = .cells cs e fz := by simpa [Array.getElem?_eq_getElem hlt] using h
  show (w.heap.modify s _)[s]? = _
  rw [Array.getElem?_eq_getElem (by simpa using hlt), Array.getElem_modify_self, h']
  rfl

theorem K.setShelf {base s : Nat} {a w : World} (k : K base a w) {c : Array Value} {fz : Nat × Nat} (hb : w.heap[s]? = some (.cells c 70 fz)) (hp : base ≤ s) (i : Nat) (u : Value) : K base a (w.setCell ⟨s, i, none⟩ u) :=
  k.setMut (p := ⟨s, i, none⟩) hb rfl hp u

/-- A field of the shelf is written: the rest is as it was. -/
theorem Ok.field {w : World} {base s f y : Nat} {lv : Value} {st : St} (h : Ok w base s f y lv st) (i : Nat) (u : Value) (st' : St) (hc : (shelfCells f y lv st).setIfInBounds i u = shelfCells f y lv st')
    (h1 : st'.files = st.files) (h2 : st'.synced = st.synced) (h3 : st'.loose = st.loose) : Ok (w.setCell ⟨s, i, none⟩ u) base s f y lv st' := by
  have k : K base w (w.setCell ⟨s, i, none⟩ u) := (K.refl base w).setShelf h.blk h.base_s i u
  have hne : ∀ (k : Nat) (xs : Array MapEntry) (c : Nat), w.heap[k]? = some (Obj.map xs c) → (w.setCell ⟨s, i, none⟩ u).heap[k]? = w.heap[k]? := fun k xs c hk =>
    Below.heap_setCell _ _ _ _ (fun e => by subst e; rw [h.blk] at hk; cases hk)
  refine ⟨?_, h.base_s, h.ne, ?_, ?_, ?_⟩
  · rw [set_block h.blk, hc]
  · obtain ⟨xs, c, hk⟩ := h.files.isMap
    rw [h1]; exact h.files.keep k (hne _ _ _ hk)
  · obtain ⟨xs, c, hk⟩ := h.synced.isMap
    rw [h2]; exact h.synced.keep k (hne _ _ _ hk)
  · obtain ⟨vs, r1, r2⟩ := h.loose
    rw [h3]
    refine ⟨vs, ?_, r2.keep k⟩
    refine ⟨r1.1, ?_⟩
    rcases r1.2 with r | ⟨g, cap, cur, e1, e2, e3, r⟩
    · exact .inl r
    · refine .inr ⟨g, cap, cur, e1, e2, ?_, r⟩
      rw [Below.heap_setCell _ _ _ _ (fun e => by simp only at e; subst e; rw [h.blk] at e3; cases e3)]
      exact e3

def burnt (n : Int) : Int := if n = -1 then -1 else wrap64 (n - 1)

/-- What burn comes to. -/
def UnitPost (w : World) (P : World → Prop) (base : Nat) (e : Ending) (w' : World) : Prop := e = .returned (.tuple #[]) ∧ K base w w' ∧ P w'

set_option maxHeartbeats 1000000 in
theorem burn_any {w : World} {base s f y : Nat} {lv : Value} {st : St} (h : Ok w base s f y lv st) : Calls Tryz.prog 69 #[.pointer (some ⟨s, 0, none⟩)] w (UnitPost w (fun w' => Ok w' base s f y lv { st with fuse := burnt st.fuse }) base) := by
  have c5 := h.c5; have f5 := h.free 5
  by_cases hf : st.fuse = -1
  · have hb : (st.fuse != -1) = false := by rw [hf]; rfl
    have hs : { st with fuse := burnt st.fuse } = st := by unfold burnt; rw [if_pos hf]; cases st; simp at hf ⊢; exact hf.symm
    have Hs := Lib.hid hs; have H := Lib.hid h; clear hs hf h
    go_enter Tryz.func69, Tryz.ntmps69
    go_wp2
    go_end0
    exact ⟨rfl, K.refl _ _, by rw [Hs.out]; exact H.out⟩
  · have hb : (st.fuse != -1) = true := by simpa using hf
    have hs := h.field 5 (.int .i64 (wrap64 (st.fuse - 1))) { st with fuse := burnt st.fuse } (by unfold burnt; rw [if_neg hf]; rfl) rfl rfl rfl
    have k := (K.refl base w).setShelf h.blk h.base_s 5 (.int .i64 (wrap64 (st.fuse - 1)))
    have Hs := Lib.hid hs; have Hk := Lib.hid k; clear hs hf h k
    go_enter Tryz.func69, Tryz.ntmps69
    go_wp2
    go_end0
    exact ⟨rfl, Hk.out, Hs.out⟩
end Go.Proofs.YtccloieikkdcoaaGreatDoor
