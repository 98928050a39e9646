/-
  SameChange, GreatChange.
-/
import Derived.Test.YtdkkeaaepebafaaGreatDoorGreatO
import Derived.Test.YtdkkeaaepebafaaGreatDoorParents
namespace Go.Proofs.YtdkkeaaepebafaaGreatDoor
open Go Go.RowKit

set_option maxHeartbeats 8000000 in
set_option maxRecDepth 100000 in
theorem SameChange_any {w : World} {vp vq : Value} {c d : Chg} (hp : StrsR w vp c.parents) (hq : StrsR w vq d.parents) (hl : c.parents.length ≤ 1000000) : Calls Tryz.prog 33 #[ChgV c vp, ChgV d vq] w (SamePost (decide (c = d)) w) := by
  obtain ⟨t, ps, wh, tx⟩ := c
  obtain ⟨t', ps', wh', tx'⟩ := d
  simp only at hp hq hl
  obtain ⟨A, ca, rfl⟩ := hp.shape
  obtain ⟨A', ca', rfl⟩ := hq.shape
  unfold ChgV
  simp only
  have b1 := below_new w (.cells #[.string ⟨t.toArray⟩, .slice A ps.length ca, .string ⟨wh.toArray⟩, .string ⟨tx.toArray⟩] 40)
  have b2 := b1.alloc b1.size (.cells #[.string ⟨t'.toArray⟩, .slice A' ps'.length ca', .string ⟨wh'.toArray⟩, .string ⟨tx'.toArray⟩] 40)
  have hs := SameTexts_any (hp.below b2 (Nat.le_refl _)) (hq.below b2 (Nat.le_refl _)) hl
  have B2 := Lib.hid b2
  clear hp hq hl b1 b2
  by_cases e0 : t = t'
  · subst e0
    by_cases e1 : ps = ps'
    · subst e1
      rw [decide_eq_true rfl] at hs
      have HS := Lib.hid hs
      clear hs
      by_cases e2 : wh = wh'
      · subst e2
        by_cases e3 : tx = tx'
        · subst e3
          have HD : Hid (decide ((⟨t, ps, wh, tx⟩ : Chg) = ⟨t, ps, wh, tx⟩) = true) := Lib.hid (decide_eq_true rfl)
          go_enter Tryz.func33, Tryz.ntmps33
          go_wp2_with fail
          refine HS.out.mono ?_
          rintro e w3 ⟨rfl, l3⟩
          have y2 : w3.cell? ⟨w.heap.size, 2, none⟩ = some (.string ⟨wh.toArray⟩) := (l3.cell (p := ⟨w.heap.size, 2, none⟩) (by simp; omega)).trans (by simp)
          have y3 : w3.cell? ⟨w.heap.size, 3, none⟩ = some (.string ⟨tx.toArray⟩) := (l3.cell (p := ⟨w.heap.size, 3, none⟩) (by simp; omega)).trans (by simp)
          have z2 : w3.cell? ⟨w.heap.size + 1, 2, none⟩ = some (.string ⟨wh.toArray⟩) := (l3.cell (p := ⟨w.heap.size + 1, 2, none⟩) (by simp)).trans (by simp)
          have z3 : w3.cell? ⟨w.heap.size + 1, 3, none⟩ = some (.string ⟨tx.toArray⟩) := (l3.cell (p := ⟨w.heap.size + 1, 3, none⟩) (by simp)).trans (by simp)
          have L3 := Lib.hid (B2.out.trans (l3.mono B2.out.size))
          clear l3
          go_wp2_with fail
          go_ret
          exact ⟨ret_same HD.out, L3.out⟩
        · have HD : Hid (decide ((⟨t, ps, wh, tx⟩ : Chg) = ⟨t, ps, wh, tx'⟩) = false) := Lib.hid (decide_eq_false (fun e => e3 (by cases e; rfl)))
          have f3 : (tx == tx') = false := by simpa using e3
          clear e3
          go_enter Tryz.func33, Tryz.ntmps33
          go_wp2_with fail
          refine HS.out.mono ?_
          rintro e w3 ⟨rfl, l3⟩
          have y2 : w3.cell? ⟨w.heap.size, 2, none⟩ = some (.string ⟨wh.toArray⟩) := (l3.cell (p := ⟨w.heap.size, 2, none⟩) (by simp; omega)).trans (by simp)
          have y3 : w3.cell? ⟨w.heap.size, 3, none⟩ = some (.string ⟨tx.toArray⟩) := (l3.cell (p := ⟨w.heap.size, 3, none⟩) (by simp; omega)).trans (by simp)
          have z2 : w3.cell? ⟨w.heap.size + 1, 2, none⟩ = some (.string ⟨wh.toArray⟩) := (l3.cell (p := ⟨w.heap.size + 1, 2, none⟩) (by simp)).trans (by simp)
          have z3 : w3.cell? ⟨w.heap.size + 1, 3, none⟩ = some (.string ⟨tx'.toArray⟩) := (l3.cell (p := ⟨w.heap.size + 1, 3, none⟩) (by simp)).trans (by simp)
          have L3 := Lib.hid (B2.out.trans (l3.mono B2.out.size))
          clear l3
          go_wp2_with fail
          go_ret
          exact ⟨ret_same HD.out, L3.out⟩
      · have HD : Hid (decide ((⟨t, ps, wh, tx⟩ : Chg) = ⟨t, ps, wh', tx'⟩) = false) := Lib.hid (decide_eq_false (fun e => e2 (by cases e; rfl)))
        have f2 : (wh == wh') = false := by simpa using e2
        clear e2
        go_enter Tryz.func33, Tryz.ntmps33
        go_wp2_with fail
        refine HS.out.mono ?_
        rintro e w3 ⟨rfl, l3⟩
        have y2 : w3.cell? ⟨w.heap.size, 2, none⟩ = some (.string ⟨wh.toArray⟩) := (l3.cell (p := ⟨w.heap.size, 2, none⟩) (by simp; omega)).trans (by simp)
        have y3 : w3.cell? ⟨w.heap.size, 3, none⟩ = some (.string ⟨tx.toArray⟩) := (l3.cell (p := ⟨w.heap.size, 3, none⟩) (by simp; omega)).trans (by simp)
        have z2 : w3.cell? ⟨w.heap.size + 1, 2, none⟩ = some (.string ⟨wh'.toArray⟩) := (l3.cell (p := ⟨w.heap.size + 1, 2, none⟩) (by simp)).trans (by simp)
        have z3 : w3.cell? ⟨w.heap.size + 1, 3, none⟩ = some (.string ⟨tx'.toArray⟩) := (l3.cell (p := ⟨w.heap.size + 1, 3, none⟩) (by simp)).trans (by simp)
        have L3 := Lib.hid (B2.out.trans (l3.mono B2.out.size))
        clear l3
        go_wp2_with fail
        go_ret
        exact ⟨ret_same HD.out, L3.out⟩
    · have HD : Hid (decide ((⟨t, ps, wh, tx⟩ : Chg) = ⟨t, ps', wh', tx'⟩) = false) := Lib.hid (decide_eq_false (fun e => e1 (by cases e; rfl)))
      rw [decide_eq_false e1] at hs
      have HS := Lib.hid hs
      clear e1 hs
      go_enter Tryz.func33, Tryz.ntmps33
      go_wp2_with fail
      refine HS.out.mono ?_
      rintro e w3 ⟨rfl, l3⟩
      have y2 : w3.cell? ⟨w.heap.size, 2, none⟩ = some (.string ⟨wh.toArray⟩) := (l3.cell (p := ⟨w.heap.size, 2, none⟩) (by simp; omega)).trans (by simp)
      have y3 : w3.cell? ⟨w.heap.size, 3, none⟩ = some (.string ⟨tx.toArray⟩) := (l3.cell (p := ⟨w.heap.size, 3, none⟩) (by simp; omega)).trans (by simp)
      have z2 : w3.cell? ⟨w.heap.size + 1, 2, none⟩ = some (.string ⟨wh'.toArray⟩) := (l3.cell (p := ⟨w.heap.size + 1, 2, none⟩) (by simp)).trans (by simp)
      have z3 : w3.cell? ⟨w.heap.size + 1, 3, none⟩ = some (.string ⟨tx'.toArray⟩) := (l3.cell (p := ⟨w.heap.size + 1, 3, none⟩) (by simp)).trans (by simp)
      have L3 := Lib.hid (B2.out.trans (l3.mono B2.out.size))
      clear l3
      go_wp2_with fail
      go_ret
      exact ⟨ret_same HD.out, L3.out⟩
  · have HD : Hid (decide ((⟨t, ps, wh, tx⟩ : Chg) = ⟨t', ps', wh', tx'⟩) = false) := Lib.hid (decide_eq_false (fun e => e0 (by cases e; rfl)))
    have f0 : (t == t') = false := by simpa using e0
    clear e0 hs
    go_enter Tryz.func33, Tryz.ntmps33
    go_wp2_with fail
    go_ret
    exact ⟨ret_same HD.out, B2.out⟩

/-- Not too much. -/
def SmallChg (c : Chg) : Prop := c.tree.length < 9000 ∧ c.who.length < 9000 ∧ c.text.length < 9000 ∧ c.parents.length < 9000 ∧ ∀ p ∈ c.parents, p.length < 9000
def GreatCPost (c : Chg) (w : World) (e : Ending) (w' : World) : Prop := ∃ g, e = .returned (.bool g) ∧ Below w.heap.size w w' ∧ (g = false → SmallChg c)
def scosts (l : List (List UInt8)) : Nat := (l.map fun s => min s.length 9000).sum
theorem scosts_snoc {l : List (List UInt8)} {k : Nat} (h : k < l.length) : scosts (l.take (k + 1)) = scosts (l.take k) + min (l.getD k []).length 9000 := by
  rw [take_getD l [] k h]; simp [scosts]
theorem scost_le {l : List (List UInt8)} {x : List UInt8} (h : x ∈ l) : min x.length 9000 ≤ scosts l := by
  unfold scosts
  induction l with
  | nil => cases h
  | cons y r ih =>
    simp only [List.map_cons, List.sum_cons]
    rcases List.mem_cons.1 h with rfl | h
    · omega
    · have := ih h; omega

set_option maxHeartbeats 8000000 in
set_option maxRecDepth 100000 in
theorem GreatChange_any {w : World} {vp : Value} {c : Chg} (hp : StrsR w vp c.parents) (hl : c.parents.length ≤ lim) : Calls Tryz.prog 24 #[ChgV c vp] w (GreatCPost c w) := by
  obtain ⟨t, ps, wh, tx⟩ := c
  simp only at hp hl
  obtain ⟨A, ca, rfl⟩ := hp.shape
  unfold ChgV
  simp only
  have b1 := below_new w (.cells #[.string ⟨t.toArray⟩, .slice A ps.length ca, .string ⟨wh.toArray⟩, .string ⟨tx.toArray⟩] 40)
  have Hx := Lib.hid (hp.below b1 (Nat.le_refl _))
  have B1 := Lib.hid b1
  obtain ⟨n0, hn0⟩ : ∃ n0 : Nat, n0 = min t.length 9000 + min wh.length 9000 + min tx.length 9000 + ps.length := ⟨_, rfl⟩
  have hn1 : n0 ≤ lim + 27000 := by omega
  have hn2 : min (t.length : Int) 9000 + min (wh.length : Int) 9000 + min (tx.length : Int) 9000 + (ps.length : Int) = (n0 : Int) := by omega
  have H0 := Lib.hid hn0; have H1 := Lib.hid hn1; have H2 := Lib.hid hn2; have HL := Lib.hid hl
  unfold lim at hl
  clear hp b1 hn0 hn1 hn2
  go_enter Tryz.func24, Tryz.ntmps24
  go_wp2_with fail
  go_loop [3, 4] (fun n i => ∃ k : Nat, k ≤ ps.length ∧ i = .int .i64 k ∧ n = .int .i64 ((n0 + scosts (ps.take k) : Nat) : Int) ∧ n0 + scosts (ps.take k) ≤ 10000000000000000) (fun _ i => ps.length - (intOf i).toNat)
  case atStart => exact ⟨0, Nat.zero_le _, rfl, by rw [H2.out]; simp [scosts], by simp [scosts]; have := H1.out; unfold lim at this; omega⟩
  case round =>
    obtain ⟨k, hk, rfl, rfl, hN⟩ := hrel
    by_cases hlt : k < ps.length
    · by_cases hn : n0 + scosts (ps.take k) < 9000
      · obtain ⟨g, o, c', e, _, hg⟩ := Hx.out.pos (by omega)
        cases e
        have c0 := StrsR.cell Hx.out k hlt
        have hc := scosts_snoc hlt
        obtain ⟨x, hx⟩ : ∃ x, x = ps.getD k [] := ⟨_, rfl⟩
        rw [← hx] at c0 hc
        unfold SV at c0
        have hrel' : n0 + scosts (ps.take (k + 1)) ≤ 10000000000000000 := by rw [hc]; omega
        have m1 : ((n0 : Int) + scosts (ps.take k) + min (x.length : Int) 9000) = ((n0 + scosts (ps.take (k + 1)) : Nat) : Int) := by
          rw [hc]
          omega
        have Hr := Lib.hid hrel'; have M1 := Lib.hid m1
        clear hc hrel' m1 hx
        go_wp2_with fail
        go_round
        case rel => exact ⟨k + 1, hlt, by go_num, by rw [M1.out], Hr.out⟩
        case measure => simp [intOf]; omega
      · have hgI : (9000 : Int) ≤ (n0 : Int) + scosts (ps.take k) := by omega
        have hgJ : ¬ ((n0 : Int) + scosts (ps.take k) < 9000) := by omega
        go_wp2_with fail
        go_ret
        exact ⟨true, by simp, B1.out, fun h => by cases h⟩
    · obtain rfl : k = ps.length := by omega
      rw [List.take_length] at hN ⊢
      by_cases hn : n0 + scosts ps < 9000
      · have hnI : ¬ ((9000 : Int) ≤ (n0 : Int) + scosts ps) := by omega
        have hs : SmallChg ⟨t, ps, wh, tx⟩ := by
          have h0 := H0.out
          refine ⟨by show t.length < _; omega, by show wh.length < _; omega, by show tx.length < _; omega, by show ps.length < _; omega, fun p hp => ?_⟩
          have := scost_le (l := ps) hp
          omega
        have Hs := Lib.hid hs; clear hs
        go_wp2_with fail
        go_ret
        exact ⟨_, rfl, B1.out, fun _ => Hs.out⟩
      · have hnI : (9000 : Int) ≤ (n0 : Int) + scosts ps := by omega
        go_wp2_with fail
        go_ret
        exact ⟨true, by simp, B1.out, fun h => by cases h⟩
end Go.Proofs.YtdkkeaaepebafaaGreatDoor
