/-
  The laws of the index: is it too much.
-/
import Derived.Test.YtdjmcehoaneekaaDoorIFin
import Derived.Test.YtdjmcehoaneekaaDoorIEval
import Derived.Lib.MinMax
namespace Go.Proofs.YtdjmcehoaneekaaDoor.Ix
open Go.Proofs.YtdjmcehoaneekaaDoor
open Go Go.RowKit

def tcost (x : Bs) : Nat := min x.length 60000
def tcosts (l : List Bs) : Nat := (l.map tcost).sum
theorem tcosts_snoc {l : List Bs} {k : Nat} {x : Bs} (h : l[k]? = some x) : tcosts (l.take (k + 1)) = tcosts (l.take k) + tcost x := by
  unfold tcosts
  rw [List.take_add_one, h, Option.toList_some, List.map_append, List.sum_append]; simp
theorem tcost_of : ∀ (l : List Bs) (x : Bs), x ∈ l → tcost x ≤ tcosts l
  | y :: l, x, h => by
    unfold tcosts
    rw [List.map_cons, List.sum_cons]
    rcases List.mem_cons.1 h with rfl | h
    · omega
    · have := tcost_of l x h
      unfold tcosts at this; omega
/-- Small enough to be tried. -/
def Small (ids : List Bs) : Prop := ids.length ≤ 600 ∧ ∀ x ∈ ids, x.length ≤ 60000
theorem small_of {ids : List Bs} (h1 : ids.length + tcosts ids < 60000) (h2 : ids.length ≤ 600) : Small ids := ⟨h2, fun x hx => by
  have := tcost_of ids x hx
  unfold tcost at this; omega⟩
/-- Too much, or no more than so much. -/
def GrtP (ids : List Bs) (w : World) (e : Ending) (w' : World) : Prop := ∃ b : Bool, e = .returned (.bool b) ∧ Below w.heap.size w w' ∧ (b = false → Small ids)
set_option maxRecDepth 100000 in
set_option maxHeartbeats 1000000 in
theorem great_any {w : World} {v : Value} {ids : List Bs} (hv : StrsR w v ids) (hl : ids.length ≤ 140737488355328) : Calls Tryd.prog 10 #[v] w (GrtP ids w) := by
  obtain ⟨A, c, rfl⟩ := hv.shape
  obtain ⟨N, hN⟩ : ∃ N, N = ids.length := ⟨_, rfl⟩
  rw [← hN] at hl
  have HV : Hid (StrsR w (.slice A N c) ids) := Lib.hid (by rw [hN]; exact hv)
  have HN := Lib.hid hN
  rw [← hN]
  clear hv hN
  go_enter Tryd.func10, Tryd.ntmps10
  obtain ⟨mx, hmx⟩ : ∃ mx : Int, mx = 60000 := ⟨_, rfl⟩
  rw [← hmx]
  have HMx := Lib.hid hmx
  clear hmx
  go_wp2
  go_loopw [3, 4] (fun n i wr => Hid (Below w.heap.size w wr) ∧ ∃ k s : Nat, k ≤ N ∧ i = .int .i64 k ∧ n = .int .i64 s ∧ Hid (s = N + tcosts (ids.take k)) ∧ s ≤ 10000000000000000) (fun _ i _ => N - (intOf i).toNat)
  case atStart => exact ⟨Lib.hid (Below.refl _ _), 0, N, Nat.zero_le _, rfl, rfl, Lib.hid (by simp [tcosts]), by omega⟩
  case round =>
    obtain ⟨hB, k, s, hk, rfl, rfl, hs, hs9⟩ := hrel
    by_cases hlt : k < N
    · by_cases hn : (s : Int) < mx
      · obtain ⟨g, o, c', e, _, hg⟩ := HV.out.pos (by have := HN.out; omega)
        obtain rfl : A = some ⟨g, o, none⟩ := by cases e; rfl
        clear e
        obtain ⟨x, hx⟩ : ∃ x, ids[k]? = some x := ⟨_, List.getElem?_eq_getElem (by have := HN.out; omega)⟩
        have c0 : wr.cell? ⟨g, o + k, none⟩ = some (SV x) := by rw [hB.out.cell (p := ⟨g, o + k, none⟩) hg]; exact StrsR.cell HV.out k x hx
        unfold SV at c0
        have hc := tcosts_snoc hx
        have M1 : Hid ((s : Int) + min (x.length : Int) mx = ((s + tcost x : Nat) : Int)) := Lib.hid (by rw [HMx.out]; unfold tcost; omega)
        have H2 : Hid (s + tcost x = N + tcosts (ids.take (k + 1))) := Lib.hid (by rw [hc]; have := hs.out; omega)
        have H3 : Hid (s + tcost x ≤ 10000000000000000) := Lib.hid (by have := HMx.out; have : tcost x ≤ 60000 := by (unfold tcost; omega)
                                                                       omega)
        have HB := Lib.hid hB.out
        have hmn : min (x.length : Int) mx ≤ 60000 := by have := HMx.out; omega
        have hmn0 : 0 ≤ min (x.length : Int) mx := by have := HMx.out; omega
        have hxl : (x.length : Int) ≤ 1000000000000000000 ∨ True := .inr trivial
        clear hc hx hs hB hxl
        go_wp2_with fail
        go_roundw
        case rel => exact ⟨HB, k + 1, s + tcost x, by omega, by go_num, by rw [M1.out], H2, H3.out⟩
        case measure => simp [intOf]; omega
      · have hgI : mx ≤ (s : Int) := by omega
        have HB := Lib.hid hB.out
        clear hs hB
        go_wp2_with fail
        go_ret
        exact ⟨true, by simp, HB.out, fun h => by cases h⟩
    · have hkN : k = N := by omega
      subst hkN
      have hs2 : s = k + tcosts ids := by have h := hs.out; rwa [HN.out, List.take_length, ← HN.out] at h
      have HB := Lib.hid hB.out
      by_cases hn : (s : Int) < mx
      · have hnI : ¬ (mx ≤ (s : Int)) := by omega
        by_cases h6 : 600 < k
        · have h6I : (600 : Int) < (k : Int) := by omega
          clear hs hs2 hB
          go_wp2_with fail
          go_ret
          exact ⟨true, by simp, HB.out, fun h => by cases h⟩
        · have h6I : ¬ (600 : Int) < (k : Int) := by omega
          have Hs : Hid (Small ids) := Lib.hid (small_of (by have := HN.out; have := HMx.out; omega) (by have := HN.out; omega))
          clear hs hs2 hB
          go_wp2_with fail
          go_ret
          exact ⟨_, rfl, HB.out, fun _ => Hs.out⟩
      · have hnI : mx ≤ (s : Int) := by omega
        clear hs hs2 hB
        go_wp2_with fail
        go_ret
        exact ⟨true, by simp, HB.out, fun h => by cases h⟩
end Go.Proofs.YtdjmcehoaneekaaDoor.Ix
