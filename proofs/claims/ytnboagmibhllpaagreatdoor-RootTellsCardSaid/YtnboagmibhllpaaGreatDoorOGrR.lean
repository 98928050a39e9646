/-
  The laws of refs: is it too much?
-/
import Derived.Test.YtnboagmibhllpaaGreatDoorC20
import Derived.Deep.QuietTactic
import Derived.BigQuiet
import Derived.IntWalk
namespace Go.Proofs.YtnboagmibhllpaaGreatDoor.Rf
open Go.Proofs.YtnboagmibhllpaaGreatDoor
open Go Go.RowKit

def lim : Nat := 140737488355328
theorem bdrN' {B : Nat} {w w' : World} (h : Below B w w') (n : Nat) : Below B w (w'.drewN n) := ⟨h.os, h.tape, h.output, h.size, h.block⟩

/-- Not too much. -/
def SmallR (l : List Ref) : Prop := l.length ≤ 100 ∧ ∀ x ∈ l, x.name.length < 20000 ∧ x.id.length < 20000
def GreatRP (l : List Ref) (w : World) (e : Ending) (w' : World) : Prop := ∃ g, e = .returned (.bool g) ∧ Below w.heap.size w w' ∧ (g = false → SmallR l)
def costR (x : Ref) : Nat := min x.name.length 20000 + min x.id.length 20000
def costsR (l : List Ref) : Nat := (l.map costR).sum
theorem costsR_snoc {l : List Ref} {k : Nat} {x : Ref} (hx : l[k]? = some x) : costsR (l.take (k + 1)) = costsR (l.take k) + costR x := by
  unfold costsR
  rw [List.take_add_one, hx, Option.toList_some, List.map_append, List.sum_append]; simp
theorem costR_le {l : List Ref} {x : Ref} (h : x ∈ l) : costR x ≤ costsR l := by
  unfold costsR
  induction l with
  | nil => cases h
  | cons y r ih =>
    simp only [List.map_cons, List.sum_cons]
    rcases List.mem_cons.1 h with rfl | h
    · omega
    · have := ih h; omega
set_option maxHeartbeats 8000000 in
set_option maxRecDepth 100000 in
theorem GreatR_any {w : World} {v : Value} {l : List Ref} (h : RefsR w v l) (hl : l.length ≤ lim) : Calls Tryz.prog 24 #[v] w (GreatRP l w) := by
  obtain ⟨A, c, rfl⟩ := h.shape
  have Hx := Lib.hid h; clear h
  go_enter Tryz.func24, Tryz.ntmps24
  go_wp2_with fail
  go_loopw [3, 4] (fun n i wr => Below w.heap.size w wr ∧ ∃ k : Nat, k ≤ l.length ∧ i = .int .i64 k ∧ n = .int .i64 ((l.length + costsR (l.take k) : Nat) : Int) ∧ l.length + costsR (l.take k) ≤ 10000000000000000) (fun _ i _ => l.length - (intOf i).toNat)
  case atStart => exact ⟨Below.refl _ _, 0, Nat.zero_le _, rfl, by simp [costsR], by simp [costsR]; unfold lim at hl; omega⟩
  case round =>
    obtain ⟨hB, k, hk, rfl, rfl, hN⟩ := hrel
    by_cases hlt : k < l.length
    · by_cases hn : l.length + costsR (l.take k) < 20000
      · obtain ⟨g, o, c', e, _, hg⟩ := Hx.out.pos (by omega)
        cases e
        obtain ⟨x, hx⟩ : ∃ x, l[k]? = some x := ⟨_, List.getElem?_eq_getElem hlt⟩
        obtain ⟨c0, c1⟩ := RefsR.cells (Hx.out.below hB (Nat.le_refl _)) hx
        have hc := costsR_snoc hx
        obtain ⟨nm, di⟩ := x
        unfold SV at c0 c1
        simp only at c0 c1
        unfold costR at hc
        simp only at hc
        have hrel' : l.length + costsR (l.take (k + 1)) ≤ 10000000000000000 := by rw [hc]; unfold lim at hl; omega
        have m1 : ((l.length : Int) + costsR (l.take k) + min (nm.length : Int) 20000 + min (di.length : Int) 20000) = ((l.length + costsR (l.take (k + 1)) : Nat) : Int) := by
          rw [hc]
          omega
        have Hr := Lib.hid hrel'; have M1 := Lib.hid m1; have HB := Lib.hid hB; have Hc := Lib.hid hc
        clear hc hrel' m1 hB hx
        go_wp2_with fail
        go_quiet (fail)
        go_wp2_with fail
        go_roundw
        case rel => exact ⟨bdrN' HB.out _, k + 1, hlt, by go_num, by rw [M1.out], Hr.out⟩
        case measure => simp [intOf]; omega
      · have hnI : ¬ ((l.length : Int) + costsR (l.take k) < 20000) := by omega
        have hgI : (20000 : Int) ≤ (l.length : Int) + costsR (l.take k) := by omega
        have HB := Lib.hid hB; clear hB
        go_wp2_with fail
        go_ret
        exact ⟨true, by simp, HB.out, fun h => by cases h⟩
    · obtain rfl : k = l.length := by omega
      rw [List.take_length] at hN
      have HB := Lib.hid hB; clear hB
      by_cases hn : l.length + costsR l < 20000
      · have hnI : ¬ ((20000 : Int) ≤ (l.length : Int) + costsR l) := by omega
        have hs : (l.length : Int) ≤ 100 → SmallR l := fun h3 => ⟨by omega, fun x hx => by
          have := costR_le hx
          unfold costR at this
          omega⟩
        have Hs := Lib.hid hs; clear hs
        rw [List.take_length]
        by_cases h3 : (l.length : Int) ≤ 100
        · go_wp2_with fail
          go_ret
          exact ⟨_, rfl, HB.out, fun _ => Hs.out h3⟩
        · go_wp2_with fail
          go_ret
          exact ⟨true, by simp, HB.out, fun h => by cases h⟩
      · have hnI : (20000 : Int) ≤ (l.length : Int) + costsR l := by omega
        rw [List.take_length]
        go_wp2_with fail
        go_ret
        exact ⟨true, by simp, HB.out, fun h => by cases h⟩

end Go.Proofs.YtnboagmibhllpaaGreatDoor.Rf
