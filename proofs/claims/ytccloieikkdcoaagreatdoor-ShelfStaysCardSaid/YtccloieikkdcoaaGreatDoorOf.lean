/-
  Of, New: a shelf of files.
-/
import Derived.Test.YtccloieikkdcoaaGreatDoorCrashM
namespace Go.Proofs.YtccloieikkdcoaaGreatDoor
open Go Go.RowKit Go.Maps Go.Shelf

/-- A shelf as it is at first. -/
def newSt (room : Int) (t : Tb) : St := { files := t, synced := t, loose := [], room := room, acts := 0, fuse := -1, down := false }

def OfPost (base : Nat) (st : St) (w : World) (e : Ending) (w' : World) : Prop :=
  ∃ s f y, e = .returned (.pointer (some ⟨s, 0, none⟩)) ∧ Ok w' base s f y (.slice none 0 0) st ∧ Below w.heap.size w w'

theorem tab_empty {w : World} {base : Nat} (hb : base ≤ w.heap.size) : TabIn (w.alloc (.map #[] 0)) base w.heap.size [] :=
  ⟨hb, Rises.nil, [], World.ownsMap_made w _ _ _, trivial⟩

/-- The block of a new shelf. -/
theorem of_end {w w2 : World} {base y f : Nat} {room : Int} {t : Tb} (hb : base ≤ w2.heap.size) (hne : f ≠ y) (hf : TabIn w2 base f t) (hy : TabIn w2 base y t) (hB : Below w.heap.size w w2) :
    Ok (w2.alloc (.cells (shelfCells f y (.slice none 0 0) (newSt room t)) 70)) base w2.heap.size f y (.slice none 0 0) (newSt room t) ∧ Below w.heap.size w (w2.alloc (.cells (shelfCells f y (.slice none 0 0) (newSt room t)) 70)) := by
  have hB2 := below_alloc w2 (.cells (shelfCells f y (.slice none 0 0) (newSt room t)) 70)
  have k : K base w2 _ := K.of_new hB2 hb
  exact ⟨⟨heap_alloc_new w2 _, hb, hne, hf.keep k (hB2.block f hf.lt), hy.keep k (hB2.block y hy.lt), [], World.ownsRow_nil _ _ _ _, trivial⟩, hB.trans (hB2.mono hB.size)⟩

set_option maxHeartbeats 4000000 in
set_option maxRecDepth 100000 in
/-- Of without files. -/
theorem Of_nil {base : Nat} (room : Int) (w : World) (hb : base ≤ w.heap.size) : Calls Tryz.prog 9 #[.int .i64 room, .slice none 0 0] w (OfPost base (newSt room []) w) := by
  have hmm := @run_makeMap Tryz.prog
  have B1 := below_alloc w (.map #[] 0)
  have t1 := tab_empty hb
  have Hcl := Lib.hid (mapClone_any t1)
  have T1 := Lib.hid t1; have HB := Lib.hid B1
  clear t1 B1
  go_enter Tryz.func9, Tryz.ntmps9
  go_wp2_with fail
  refine wp_loop_rounds 1 ?_
  rw [rounds_succ]
  go_wp2_with fail
  refine Hcl.out.mono ?_
  rintro e w2 ⟨rfl, ht2, hB2⟩
  have k2 : K base (w.alloc (.map #[] 0)) w2 := K.of_new hB2 (by simp; omega)
  have hy := T1.out.keep k2 (hB2.block w.heap.size (by simp))
  have R := of_end (room := room) (f := (w.alloc (.map #[] 0)).heap.size) (y := w.heap.size) (t := []) (base := base) (w := w) (by have := hB2.size; simp at this; omega) (by simp) ht2 hy (below_two HB.out hB2)
  rw [show (w.alloc (.map #[] 0)).heap.size = w.heap.size + 1 by simp] at R
  have HR := Lib.hid R; clear R k2 ht2 hy
  go_wp2_with fail
  go_ret
  exact ⟨_, _, _, rfl, HR.out.1, HR.out.2⟩

set_option maxHeartbeats 4000000 in
set_option maxRecDepth 100000 in
/-- New. -/
theorem New_any {base : Nat} (room : Int) (w : World) (hb : base ≤ w.heap.size) : Calls Tryz.prog 35 #[.int .i64 room] w (OfPost base (newSt room []) w) := by
  have Ho := Lib.hid (Of_nil room w hb)
  go_enter Tryz.func35, Tryz.ntmps35
  go_wp2_with fail
  refine Ho.out.mono ?_
  rintro e w2 ⟨s, f, y, rfl, hk, hB2⟩
  have Hk := Lib.hid hk; clear hk
  go_wp2_with fail
  go_ret
  exact ⟨_, _, _, rfl, Hk.out, hB2⟩
end Go.Proofs.YtccloieikkdcoaaGreatDoor
