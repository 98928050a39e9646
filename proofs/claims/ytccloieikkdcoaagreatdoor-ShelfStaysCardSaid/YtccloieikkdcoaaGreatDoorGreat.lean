/-
  Great, GreatFiles: is it too much?
-/
import Derived.Test.YtccloieikkdcoaaGreatDoorArgs
import Derived.Deep.QuietTactic
import Derived.BigQuiet
namespace Go.Proofs.YtccloieikkdcoaaGreatDoor
open Go Go.RowKit Go.Maps Go.Shelf Go.Deep

/-- Not too much. -/
def SmallOps (l : List OpR) : Prop := l.length ≤ 300 ∧ ∀ o ∈ l, o.path.length < 20000 ∧ o.to.length < 20000 ∧ o.b.length < 20000 ∧ o.keep.length < 20000
def GreatPost (l : List OpR) (w : World) (e : Ending) (w' : World) : Prop := ∃ g, e = .returned (.bool g) ∧ Below w.heap.size w w' ∧ (g = false → SmallOps l)

theorem BoolsAt.slice {w : World} {base : Nat} {v : Value} {ks : List Bool} (h : BoolsAt w base v ks) : ∃ a c, v = .slice a ks.length c := by
  rcases h with ⟨rfl, rfl⟩ | ⟨a, c, rfl, _⟩
  · exact ⟨none, 0, rfl⟩
  · exact ⟨_, _, rfl⟩
theorem wrap64_in {n : Int} (h : -9223372036854775808 ≤ n ∧ n ≤ 9223372036854775807) : wrap64 n = n := by
  unfold wrap64; omega
def OpR.cost (o : OpR) : Nat := min o.path.length 20000 + min o.to.length 20000 + min o.b.length 20000 + o.keep.length
def costs (l : List OpR) : Nat := (l.map OpR.cost).sum
theorem costs_snoc {l : List OpR} {k : Nat} {o : OpR} (h : l[k]? = some o) : costs (l.take (k + 1)) = costs (l.take k) + o.cost := by
  rw [take_snoc h]; simp [costs]
theorem cost_le {l : List OpR} {o : OpR} (h : o ∈ l) : o.cost ≤ costs l := by
  unfold costs
  induction l with
  | nil => cases h
  | cons x r ih =>
    simp only [List.map_cons, List.sum_cons]
    rcases List.mem_cons.1 h with rfl | h
    · omega
    · have := ih h; omega

set_option maxHeartbeats 8000000 in
set_option maxRecDepth 100000 in
theorem Great_any {w : World} {base : Nat} {v : Value} {l : List OpR} (h : OpsAt w base v l) (hl : l.length ≤ lim) : Calls Tryz.prog 7 #[v] w (GreatPost l w) := by
  obtain ⟨x, c, rfl, hx⟩ := h
  have Hx := Lib.hid hx; clear hx
  go_enter Tryz.func7, Tryz.ntmps7
  go_wp2_with fail
  go_loopw [3, 4] (fun n i wr => Below w.heap.size w wr ∧ ∃ k : Nat, k ≤ l.length ∧ i = .int .i64 k ∧ n = .int .i64 ((l.length + costs (l.take k) : Nat) : Int) ∧ l.length + costs (l.take k) ≤ 1000000000000000) (fun _ i _ => l.length - (intOf i).toNat)
  case atStart => exact ⟨Below.refl _ _, 0, Nat.zero_le _, rfl, by simp [costs], by simp [costs]; unfold lim at hl; omega⟩
  case round =>
    obtain ⟨hB, k, hk, rfl, rfl, hN⟩ := hrel
    by_cases hlt : k < l.length
    · by_cases hn : l.length + costs (l.take k) < 20000
      · obtain ⟨o, ho⟩ : ∃ o, l[k]? = some o := ⟨_, List.getElem?_eq_getElem hlt⟩
        obtain ⟨b, off, rfl, v, kv, h0, h1, h2, h3, h4, h5, h6, h7, _, _, l1, l2, l3, l4⟩ := Hx.out k o ho
        have hc := costs_snoc ho
        obtain ⟨va, vc, rfl⟩ := h6.slice
        obtain ⟨ka, kc, rfl⟩ := h7.slice
        replace h1 := cell_below' hB h1
        replace h2 := cell_below' hB h2
        replace h3 := cell_below' hB h3
        replace h5 := cell_below' hB h5
        rw [add_at] at h1 h2 h3 h5
        unfold S at h1 h2
        have hrel' : l.length + costs (l.take (k + 1)) ≤ 1000000000000000 := by rw [hc]; unfold OpR.cost; unfold lim at l4; omega
        have m1 : wrap64 ((l.length : Int) + costs (l.take k) + min (o.path.length : Int) 20000 + min (o.to.length : Int) 20000 + min (o.b.length : Int) 20000 + o.keep.length) = ((l.length + costs (l.take (k + 1)) : Nat) : Int) := by
          rw [hc]; unfold OpR.cost
          rw [wrap64_in (by unfold lim at l4; omega)]
          omega
        have Hc := Lib.hid hc; have Hr := Lib.hid hrel'; have M1 := Lib.hid m1; have HB := Lib.hid hB
        clear hc hrel' m1 h6 h7 hB h4 h0
        go_wp2_with fail
        go_quiet (fail)
        go_wp2_with fail
        refine ⟨⟨below_two HB.out (below_drewN wr nq), k + 1, hlt, by go_num, by rw [M1.out], Hr.out⟩, ?_⟩
        simp [intOf]; omega
      · have hnI : ¬ ((l.length : Int) + costs (l.take k) < 20000) := by omega
        have hgI : (20000 : Int) ≤ (l.length : Int) + costs (l.take k) := by omega
        have HB := Lib.hid hB; clear hB
        go_wp2_with fail
        go_ret
        exact ⟨true, by simp, HB.out, fun h => by cases h⟩
    · obtain rfl : k = l.length := by omega
      rw [List.take_length] at hN
      have HB := Lib.hid hB; clear hB
      by_cases hn : l.length + costs l < 20000
      · have hnI : ¬ ((20000 : Int) ≤ (l.length : Int) + costs l) := by omega
        have hs : (l.length : Int) ≤ 300 → SmallOps l := fun h3 => ⟨by omega, fun o ho => by
          have := cost_le ho
          unfold OpR.cost at this
          omega⟩
        have Hs := Lib.hid hs; clear hs
        rw [List.take_length]
        by_cases h3 : (l.length : Int) ≤ 300
        · go_wp2_with fail
          go_ret
          exact ⟨_, rfl, HB.out, fun _ => Hs.out h3⟩
        · go_wp2_with fail
          go_ret
          exact ⟨true, by simp, HB.out, fun h => by cases h⟩
      · have hnI : (20000 : Int) ≤ (l.length : Int) + costs l := by omega
        rw [List.take_length]
        go_wp2_with fail
        go_ret
        exact ⟨true, by simp, HB.out, fun h => by cases h⟩

def SmallFiles (l : Tb) : Prop := l.length < 200000 ∧ ∀ q ∈ l, q.1.length < 200000 ∧ q.2.length < 200000
def GreatFPost (l : Tb) (w : World) (e : Ending) (w' : World) : Prop := ∃ g, e = .returned (.bool g) ∧ Below w.heap.size w w' ∧ (g = false → SmallFiles l)
def fcost (q : By × By) : Nat := min q.1.length 200000 + min q.2.length 200000
def fcosts (l : Tb) : Nat := (l.map fcost).sum
theorem fcosts_snoc {l : Tb} {k : Nat} {o : By × By} (h : l[k]? = some o) : fcosts (l.take (k + 1)) = fcosts (l.take k) + fcost o := by
  rw [take_snoc h]; simp [fcosts]
theorem fcost_le {l : Tb} {o : By × By} (h : o ∈ l) : fcost o ≤ fcosts l := by
  unfold fcosts
  induction l with
  | nil => cases h
  | cons x r ih =>
    simp only [List.map_cons, List.sum_cons]
    rcases List.mem_cons.1 h with rfl | h
    · omega
    · have := ih h; omega

set_option maxHeartbeats 8000000 in
set_option maxRecDepth 100000 in
theorem GreatFiles_any {w : World} {v : Value} {l : Tb} (h : FilesAt w v l) (hl : l.length ≤ lim) : Calls Tryz.prog 8 #[v] w (GreatFPost l w) := by
  obtain ⟨x, c, rfl, hx⟩ := h
  have Hx := Lib.hid hx; clear hx
  go_enter Tryz.func8, Tryz.ntmps8
  go_wp2_with fail
  go_loopw [3, 4] (fun n i wr => Below w.heap.size w wr ∧ ∃ k : Nat, k ≤ l.length ∧ i = .int .i64 k ∧ n = .int .i64 ((l.length + fcosts (l.take k) : Nat) : Int) ∧ l.length + fcosts (l.take k) ≤ 1000000000000000) (fun _ i _ => l.length - (intOf i).toNat)
  case atStart => exact ⟨Below.refl _ _, 0, Nat.zero_le _, rfl, by simp [fcosts], by simp [fcosts]; unfold lim at hl; omega⟩
  case round =>
    obtain ⟨hB, k, hk, rfl, rfl, hN⟩ := hrel
    by_cases hlt : k < l.length
    · by_cases hn : l.length + fcosts (l.take k) < 200000
      · obtain ⟨o, ho⟩ : ∃ o, l[k]? = some o := ⟨_, List.getElem?_eq_getElem hlt⟩
        obtain ⟨b, off, rfl, v, h0, h1, h6, l1, l2⟩ := Hx.out k o ho
        have hc := fcosts_snoc ho
        obtain ⟨va, vc, rfl⟩ := h6.slice
        replace h0 := cell_below' hB h0
        replace h1 := cell_below' hB h1
        rw [add_at] at h1
        unfold S at h0
        have hrel' : l.length + fcosts (l.take (k + 1)) ≤ 1000000000000000 := by rw [hc]; unfold fcost; omega
        have m1 : (l.length : Int) + fcosts (l.take k) + min (o.1.length : Int) 200000 + min (o.2.length : Int) 200000 = ((l.length + fcosts (l.take (k + 1)) : Nat) : Int) := by
          rw [hc]; unfold fcost
          omega
        have hnI : (l.length : Int) + fcosts (l.take k) < 200000 := by omega
        have Hr := Lib.hid hrel'; have M1 := Lib.hid m1; have HB := Lib.hid hB
        clear hc hrel' m1 h6 hB hn l1 l2 hN
        go_wp2_with fail
        go_quiet (fail)
        go_wp2_with fail
        refine ⟨⟨below_two HB.out (below_drewN wr nq), k + 1, hlt, by go_num, by rw [M1.out], Hr.out⟩, ?_⟩
        simp [intOf]; omega
      · have hnI : ¬ ((l.length : Int) + fcosts (l.take k) < 200000) := by omega
        have hgI : (200000 : Int) ≤ (l.length : Int) + fcosts (l.take k) := by omega
        have HB := Lib.hid hB; clear hB hn hN
        go_wp2_with fail
        go_ret
        exact ⟨true, by simp, HB.out, fun h => by cases h⟩
    · obtain rfl : k = l.length := by omega
      rw [List.take_length] at hN
      have HB := Lib.hid hB; clear hB
      rw [List.take_length]
      by_cases hn : l.length + fcosts l < 200000
      · have hnI : ¬ ((200000 : Int) ≤ (l.length : Int) + fcosts l) := by omega
        have hs : SmallFiles l := ⟨by omega, fun o ho => by
          have := fcost_le ho
          unfold fcost at this
          omega⟩
        have Hs := Lib.hid hs; clear hs
        go_wp2_with fail
        go_ret
        exact ⟨false, by simp, HB.out, fun _ => Hs.out⟩
      · have hnI : (200000 : Int) ≤ (l.length : Int) + fcosts l := by omega
        go_wp2_with fail
        go_ret
        exact ⟨true, by simp, HB.out, fun h => by cases h⟩
end Go.Proofs.YtccloieikkdcoaaGreatDoor
