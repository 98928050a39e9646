/-
  Crash: of the loose acts those at whose place keep is true are played on the files as they were synced.
-/
import Derived.Test.YtccloieikkdcoaaGreatDoorSyncM
namespace Go.Proofs.YtccloieikkdcoaaGreatDoor
open Go Go.RowKit Go.Maps Go.Shelf

/-- The slice value v holds the bools ks, in memory that a shelf does not write. -/
def BoolsAt (w : World) (base : Nat) (v : Value) (ks : List Bool) : Prop :=
  (v = .slice none 0 0 ∧ ks = []) ∨ ∃ a c, v = .slice (some a) ks.length c ∧
    ∀ i, i < ks.length → (a.block < base ∨ ∃ cs e fz, w.heap[a.block]? = some (Obj.cells cs e fz) ∧ mutT e = false) ∧ w.cell? (a.add i) = (ks[i]?).map Value.bool

theorem add_block (a : Addr) (i : Nat) : (a.add i).block = a.block := by unfold Addr.add; split <;> rfl

theorem BoolsAt.keep {w w' : World} {base : Nat} {v : Value} {ks : List Bool} (h : BoolsAt w base v ks) (k : K base w w') : BoolsAt w' base v ks := by
  rcases h with h | ⟨a, c, rfl, h⟩
  · exact .inl h
  · refine .inr ⟨a, c, rfl, fun i hi => ?_⟩
    obtain ⟨h1, h2⟩ := h i hi
    rcases h1 with h1 | ⟨cs, e, fz, h1, h3⟩
    · refine ⟨.inl h1, ?_⟩
      rw [k.below.cell (p := a.add i) (by rw [add_block]; exact h1)]; exact h2
    · have h4 := k.const _ _ _ _ h1 h3
      refine ⟨.inr ⟨cs, e, fz, h4, h3⟩, ?_⟩
      rw [World.cell?_of_block (w := w) (a := a.add i) (by rw [add_block, h1, h4])]; exact h2

def crashK (l : List (By × Act)) (ks : List Bool) (t : Tb) : Nat → Tb
  | 0 => t
  | k + 1 => match l[k]? with
    | some a => if ks.getD k false = true then a.2.play (crashK l ks t k) else crashK l ks t k
    | none => crashK l ks t k
def crashSt (ks : List Bool) (st : St) : St :=
  { st with files := crashK st.loose ks st.synced st.loose.length, synced := crashK st.loose ks st.synced st.loose.length, loose := [], fuse := -1, down := false }

theorem crashK_some {l : List (By × Act)} {ks : List Bool} {t : Tb} {k : Nat} {a : By × Act} (ha : l[k]? = some a) : crashK l ks t (k + 1) = if ks.getD k false = true then a.2.play (crashK l ks t k) else crashK l ks t k := by
  rw [crashK, ha]
theorem crashK_len (l : List (By × Act)) (ks : List Bool) (t : Tb) : ∀ k, (crashK l ks t k).length ≤ t.length + k
  | 0 => Nat.le_refl _
  | k + 1 => by
    have ih := crashK_len l ks t k
    rw [crashK]
    split
    · split
      · rename_i a _ _; have := play_len a.2 (crashK l ks t k); omega
      · omega
    · omega

/-- The loop of Crash, between two rounds. -/
def CrashRel (base s y g : Nat) (ks : List Bool) (st : St) (w0 : World) (k : Nat) (wr : World) : Prop :=
  K base w0 wr ∧ wr.heap[s]? = w0.heap[s]? ∧ wr.heap[g]? = w0.heap[g]? ∧ TabIn wr base y (crashK st.loose ks st.synced k)

theorem crash_skip {base s f y g k : Nat} {ks : List Bool} {st : St} {w wr : World} {lv : Value} {a : By × Act} {o1 : Obj} (h : Ok w base s f y lv st) (hgl : g < w.heap.size) (ha : st.loose[k]? = some a) (hq : ks.getD k false = false)
    (hK : K base w wr) (hs : wr.heap[s]? = w.heap[s]?) (hg : wr.heap[g]? = w.heap[g]?) (ht : TabIn wr base y (crashK st.loose ks st.synced k)) : CrashRel base s y g ks st w (k + 1) (wr.alloc o1) := by
  have hB := below_alloc wr o1
  have hbw := h.base_le
  have hwr := hK.size
  have k1 : K base wr (wr.alloc o1) := K.of_new hB (by omega)
  refine ⟨hK.trans k1, (hB.block s (by have := lt_of_block h.blk; omega)).trans hs, (hB.block g (by omega)).trans hg, ?_⟩
  rw [crashK_some ha, if_neg (by rw [hq]; simp)]
  exact ht.keep k1 (hB.block y ht.lt)

theorem crash_play {base s f y g k : Nat} {ks : List Bool} {st : St} {w wr w1 : World} {lv : Value} {a : By × Act} {o1 : Obj} (h : Ok w base s f y lv st) (hgl : g < w.heap.size) (hgy : g ≠ y) (ha : st.loose[k]? = some a) (hq : ks.getD k false = true)
    (hK : K base w wr) (hs : wr.heap[s]? = w.heap[s]?) (hg : wr.heap[g]? = w.heap[g]?) (ht : TabIn wr base y (crashK st.loose ks st.synced k))
    (ht1 : TabIn w1 base y (a.2.play (crashK st.loose ks st.synced k))) (hg1 : (wr.alloc o1).grownBy w1 (some y)) : CrashRel base s y g ks st w (k + 1) w1 := by
  have hB := below_alloc wr o1
  have hbw := h.base_le
  have hwr := hK.size
  obtain ⟨xs, c, hm⟩ := h.synced.isMap
  have hmr := ht.isMap
  have kr : K base wr w1 := (K.of_new hB (by omega)).turned hg1 (by have := hB.size; omega) h.synced.1 (by obtain ⟨x, c, hx⟩ := hmr; exact ⟨x, c, (hB.block y (lt_of_block hx)).trans hx⟩)
  have hold : ∀ i, i < wr.heap.size → i ≠ y → w1.heap[i]? = wr.heap[i]? := fun i hi hy => by
    rw [hg1.block i (by have := hB.size; omega) (fun e => hy (by cases e; rfl)), hB.block i hi]
  have hsy : s ≠ y := fun e => by rw [← e, h.blk] at hm; cases hm
  refine ⟨hK.trans kr, (hold s (by have := lt_of_block h.blk; omega) hsy).trans hs, (hold g (by omega) hgy).trans hg, ?_⟩
  rw [crashK_some ha, if_pos hq]
  exact ht1

/-- What Crash comes to. -/
def CrashPost (base s y : Nat) (st : St) (w : World) (e : Ending) (w' : World) : Prop := e = .returned (.tuple #[]) ∧ K base w w' ∧ ∃ f, Ok w' base s f y (.slice none 0 0) st

/-- Behind the loop: the shelf's fields are written. -/
theorem crash_end {base s f y : Nat} {st st' : St} {t : Tb} {w wr w2 : World} {lv : Value} (h : Ok w base s f y lv st) (hK : K base w wr) (hs : wr.heap[s]? = w.heap[s]?) (ht : TabIn wr base y t)
    (hB : Below wr.heap.size wr w2) (ht2 : TabIn w2 base wr.heap.size t) (hst : st' = { st with files := t, synced := t, loose := [], fuse := -1, down := false }) :
    K base w ((((w2.setCell ⟨s, 0, none⟩ (.map (some wr.heap.size))).setCell ⟨s, 2, none⟩ (.slice none 0 0)).setCell ⟨s, 5, none⟩ (.int .i64 (-1))).setCell ⟨s, 6, none⟩ (.bool false)) ∧
      Ok ((((w2.setCell ⟨s, 0, none⟩ (.map (some wr.heap.size))).setCell ⟨s, 2, none⟩ (.slice none 0 0)).setCell ⟨s, 5, none⟩ (.int .i64 (-1))).setCell ⟨s, 6, none⟩ (.bool false)) base s wr.heap.size y (.slice none 0 0) st' := by
  have hwr := hK.size
  have hbw := h.base_le
  have hsl := lt_of_block h.blk
  have hs2 : w2.heap[s]? = some (.cells (shelfCells f y lv st) 70 (0, 0)) := (hB.block s (by omega)).trans (hs.trans h.blk)
  have b1 := set_block hs2 0 (.map (some wr.heap.size))
  have b2 := set_block b1 2 (.slice none 0 0)
  have b3 := set_block b2 5 (.int .i64 (-1))
  have b4 := set_block b3 6 (.bool false)
  have k2 : K base wr w2 := K.of_new hB (by omega)
  have k6 := (((k2.setShelf hs2 h.base_s 0 (.map (some wr.heap.size))).setShelf b1 h.base_s 2 (.slice none 0 0)).setShelf b2 h.base_s 5 (.int .i64 (-1))).setShelf b3 h.base_s 6 (.bool false)
  have k26 := ((((K.refl base w2).setShelf hs2 h.base_s 0 (.map (some wr.heap.size))).setShelf b1 h.base_s 2 (.slice none 0 0)).setShelf b2 h.base_s 5 (.int .i64 (-1))).setShelf b3 h.base_s 6 (.bool false)
  have hset : ∀ i, i ≠ s → ((((w2.setCell ⟨s, 0, none⟩ (.map (some wr.heap.size))).setCell ⟨s, 2, none⟩ (.slice none 0 0)).setCell ⟨s, 5, none⟩ (.int .i64 (-1))).setCell ⟨s, 6, none⟩ (.bool false)).heap[i]? = w2.heap[i]? := fun i hi => by
    rw [Below.heap_setCell _ _ _ _ hi, Below.heap_setCell _ _ _ _ hi, Below.heap_setCell _ _ _ _ hi, Below.heap_setCell _ _ _ _ hi]
  have hy : y < wr.heap.size := ht.lt
  obtain ⟨xs, c, hm⟩ := ht.isMap
  have hsy : y ≠ s := fun e => by rw [e, hs.trans h.blk] at hm; cases hm
  refine ⟨hK.trans k6, ?_, h.base_s, by omega, ?_, ?_, [], World.ownsRow_nil _ _ _ _ |> fun r => by subst hst; exact r, by subst hst; trivial⟩
  · rw [b4]; subst hst; rfl
  · subst hst; exact ht2.keep k26 (hset _ (by omega))
  · subst hst; exact ht.keep k6 ((hset y hsy).trans (hB.block y hy))
end Go.Proofs.YtccloieikkdcoaaGreatDoor
