/-
  GreatItems, GreatChange: is it too much?
-/
import Derived.Test.YtdkkeaaepebafaaGreatDoorSameO
import Derived.Deep.QuietTactic
import Derived.BigQuiet
import Derived.IntWalk
namespace Go.Proofs.YtdkkeaaepebafaaGreatDoor
open Go Go.RowKit

/-- How long what comes in may be. -/
def lim : Nat := 140737488355328
/-- Not too much. -/
def SmallI (l : List Itm) : Prop := l.length ≤ 300 ∧ ∀ x ∈ l, x.name.length < 9000 ∧ x.id.length < 9000
def GreatIPost (l : List Itm) (w : World) (e : Ending) (w' : World) : Prop := ∃ g, e = .returned (.bool g) ∧ Below w.heap.size w w' ∧ (g = false → SmallI l)
def icost (x : Itm) : Nat := min x.name.length 9000 + min x.id.length 9000
def icosts (l : List Itm) : Nat := (l.map icost).sum
theorem icosts_snoc {l : List Itm} {k : Nat} (h : k < l.length) : icosts (l.take (k + 1)) = icosts (l.take k) + icost (l.getD k noItm) := by
  rw [take_getD l noItm k h]; simp [icosts]
theorem icost_le {l : List Itm} {x : Itm} (h : x ∈ l) : icost x ≤ icosts l := by
  unfold icosts
  induction l with
  | nil => cases h
  | cons y r ih =>
    simp only [List.map_cons, List.sum_cons]
    rcases List.mem_cons.1 h with rfl | h
    · omega
    · have := ih h; omega
set_option maxHeartbeats 8000000 in
set_option maxRecDepth 100000 in
theorem GreatItems_any {w : World} {v : Value} {l : List Itm} (h : ItmsR w v l) (hl : l.length ≤ lim) : Calls Tryz.prog 18 #[v] w (GreatIPost l w) := by
  obtain ⟨A, c, rfl⟩ := h.shape
  have Hx := Lib.hid h; clear h
  go_enter Tryz.func18, Tryz.ntmps18
  go_wp2_with fail
  go_loopw [3, 4] (fun n i wr => Below w.heap.size w wr ∧ ∃ k : Nat, k ≤ l.length ∧ i = .int .i64 k ∧ n = .int .i64 ((l.length + icosts (l.take k) : Nat) : Int) ∧ l.length + icosts (l.take k) ≤ 10000000000000000) (fun _ i _ => l.length - (intOf i).toNat)
  case atStart => exact ⟨Below.refl _ _, 0, Nat.zero_le _, rfl, by simp [icosts], by simp [icosts]; unfold lim at hl; omega⟩
  case round =>
    obtain ⟨hB, k, hk, rfl, rfl, hN⟩ := hrel
    by_cases hlt : k < l.length
    · by_cases hn : l.length + icosts (l.take k) < 9000
      · obtain ⟨g, o, c', e, _, hg⟩ := Hx.out.pos (by omega)
        cases e
        obtain ⟨c0, c1, c2⟩ := ItmsR.cells (Hx.out.below hB (Nat.le_refl _)) k hlt
        have hc := icosts_snoc hlt
        obtain ⟨x, hx⟩ : ∃ x, x = l.getD k noItm := ⟨_, rfl⟩
        rw [← hx] at c0 c1 c2 hc
        obtain ⟨m, nm, di⟩ := x
        unfold SV at c1 c2
        simp only at c0 c1 c2
        unfold icost at hc
        simp only at hc
        have hrel' : l.length + icosts (l.take (k + 1)) ≤ 10000000000000000 := by rw [hc]; unfold lim at hl; omega
        have m1 : ((l.length : Int) + icosts (l.take k) + (if 9000 < (nm.length : Int) then 9000 else (nm.length : Int)) + (if 9000 < (di.length : Int) then 9000 else (di.length : Int))) = ((l.length + icosts (l.take (k + 1)) : Nat) : Int) := by
          rw [hc]
          omega
        have Hr := Lib.hid hrel'; have M1 := Lib.hid m1; have HB := Lib.hid hB; have Hc := Lib.hid hc
        clear hc hrel' m1 hB hx c0
        go_wp2_with fail
        go_quiet (fail)
        go_wp2_with fail
        go_roundw
        case rel => exact ⟨below_drewN' HB.out _, k + 1, hlt, by go_num, by rw [M1.out], Hr.out⟩
        case measure => simp [intOf]; omega
      · have hnI : ¬ ((l.length : Int) + icosts (l.take k) < 9000) := by omega
        have hgI : (9000 : Int) ≤ (l.length : Int) + icosts (l.take k) := by omega
        have HB := Lib.hid hB; clear hB
        go_wp2_with fail
        go_ret
        exact ⟨true, by simp, HB.out, fun h => by cases h⟩
    · obtain rfl : k = l.length := by omega
      rw [List.take_length] at hN
      have HB := Lib.hid hB; clear hB
      by_cases hn : l.length + icosts l < 9000
      · have hnI : ¬ ((9000 : Int) ≤ (l.length : Int) + icosts l) := by omega
        have hs : (l.length : Int) ≤ 300 → SmallI l := fun h3 => ⟨by omega, fun x hx => by
          have := icost_le hx
          unfold icost at this
          omega⟩
        have Hs := Lib.hid hs; clear hs
        rw [List.take_length]
        by_cases h3 : (l.length : Int) ≤ 300
        · go_wp2_with fail
          go_ret
          exact ⟨_, rfl, HB.out, fun _ => Hs.out h3⟩
        · go_wp2_with fail
          go_ret
          exact ⟨true, by simp, HB.out, fun h => by cases h⟩
      · have hnI : (9000 : Int) ≤ (l.length : Int) + icosts l := by omega
        rw [List.take_length]
        go_wp2_with fail
        go_ret
        exact ⟨true, by simp, HB.out, fun h => by cases h⟩
end Go.Proofs.YtdkkeaaepebafaaGreatDoor
