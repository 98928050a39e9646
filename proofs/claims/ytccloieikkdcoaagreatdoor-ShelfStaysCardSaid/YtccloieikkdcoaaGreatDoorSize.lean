/-
  table.size: how many bytes all files have, in whatever order the map tells them.
-/
import Derived.Test.YtccloieikkdcoaaGreatDoorPower
namespace Go.Proofs.YtccloieikkdcoaaGreatDoor
open Go Go.RowKit Go.Maps

def sizeDone (left : Lit → Bool) (t : Tb) : Nat := tsize (t.filter fun q => !(left (.string q.1)))

theorem sizeDone_le (left : Lit → Bool) : ∀ t : Tb, sizeDone left t ≤ tsize t
  | [] => Nat.le_refl _
  | q :: r => by
    have ih := sizeDone_le left r
    unfold sizeDone at ih ⊢
    cases h : left (.string q.1)
    · rw [List.filter_cons_of_pos (by rw [h]; rfl)]; simp only [tsize, List.map_cons, List.sum_cons] at ih ⊢; omega
    · rw [List.filter_cons_of_neg (by rw [h]; simp)]; simp only [tsize, List.map_cons, List.sum_cons] at ih ⊢; omega

theorem sizeDone_start {left : Lit → Bool} {t : Tb} (h : ∀ q ∈ t, left (.string q.1) = true) : sizeDone left t = 0 := by
  unfold sizeDone
  rw [List.filter_eq_nil_iff.2 (fun q hq => by rw [h q hq]; simp)]; rfl
theorem sizeDone_end {left : Lit → Bool} {t : Tb} (h : ∀ kl, left kl = false) : sizeDone left t = tsize t := by
  unfold sizeDone
  rw [List.filter_eq_self.2 (fun q _ => by rw [h]; rfl)]

theorem sizeDone_congr {l1 l2 : Lit → Bool} {t : Tb} (h : ∀ q ∈ t, l1 (.string q.1) = l2 (.string q.1)) : sizeDone l1 t = sizeDone l2 t := by
  unfold sizeDone
  rw [List.filter_congr (fun q hq => by rw [h q hq])]

theorem sizeDone_step {left : Lit → Bool} {p b : By} (hl : left (.string p) = true) : ∀ {t : Tb}, Rises t → tget p t = some b →
    sizeDone (fun z => left z && !z.sameKey (.string p)) t = sizeDone left t + b.length
  | [], _, h => by cases h
  | q :: r, hr, h => by
    have h' := List.pairwise_cons.1 hr
    unfold tget at h
    cases hq : (q.1 == p)
    · rw [List.find?_cons_of_neg (by simp [hq])] at h
      have ih := sizeDone_step hl h'.2 h
      unfold sizeDone at ih ⊢
      have e : (Lit.string q.1).sameKey (.string p) = false := hq
      cases hlq : left (.string q.1)
      · rw [List.filter_cons_of_pos (by simp [hlq]), List.filter_cons_of_pos (by simp [hlq])]
        simp only [tsize, List.map_cons, List.sum_cons] at ih ⊢; omega
      · rw [List.filter_cons_of_neg (by simp [hlq, e]), List.filter_cons_of_neg (by simp [hlq])]
        exact ih
    · rw [List.find?_cons_of_pos (by simp [hq])] at h
      have e2 : q.2 = b := by simpa using h
      have e1 : q.1 = p := by simpa using hq
      have e : (Lit.string q.1).sameKey (.string p) = true := hq
      have hrest : sizeDone (fun z => left z && !z.sameKey (.string p)) r = sizeDone left r := sizeDone_congr fun x hx => by
        have : (Lit.string x.1).sameKey (.string p) = false := by
          rw [sameKey_string]; simpa using fun e' => before_ne (h'.1 x hx) (by rw [e1, e'])
        rw [this]; simp
      unfold sizeDone at hrest ⊢
      rw [List.filter_cons_of_pos (by simp [e]), List.filter_cons_of_neg (by rw [e1, hl]; simp)]
      simp only [tsize, List.map_cons, List.sum_cons] at hrest ⊢
      rw [hrest, e2]; omega

theorem law9 : Keyed Tryz.prog 9 := string_keyed Tryz.underlying9
theorem keyOf_S {p : By} (hp : p.length ≤ maxLen) : keyOf Tryz.prog 9 (S p) = some (.string p) := Go.WideMaps.keyOf_string_mk Tryz.underlying9 (s := ⟨p.toArray⟩) (by simpa [ByteArray.size] using hp)
theorem keyOf_string_inv {key : Value} {kl : Lit} (h : keyOf Tryz.prog 9 key = some kl) : ∃ p : By, key = S p ∧ kl = .string p := by
  cases key <;> simp [keyOf, mapKey, Tryz.underlying9] at h
  rename_i x
  exact ⟨x.data.toList, rfl, h.2.symm⟩
theorem heldR_shape {v : Value} {z : DataW Value × List MemPlace} (h : heldR v = some z) : ∃ x : Option Addr × Nat × Nat, v = .slice x.1 x.2.1 x.2.2 := by
  obtain ⟨⟨a, n, c, rfl⟩, _⟩ := heldR_inv h
  exact ⟨(a, n, c), rfl⟩

/-- What a map of files tells of a path. -/
theorem tab_at {w : World} {base : Nat} {t : Tb} {es : List (Lit × DataW Value)} (he : EntsOk (RowIn w base) es t) (p : By) (z : DataW Value) :
    (tget p t = none ∧ Maps.has (.map es) (.string p) = false ∧ (DataW.map es).atKey (.string p) z = z) ∨
    (∃ b v, tget p t = some b ∧ Maps.has (.map es) (.string p) = true ∧ (DataW.map es).atKey (.string p) z = .held v ∧ RowIn w base v b) := by
  rcases he.find p with ⟨h1, h2⟩ | ⟨b, v, k, h1, h2, h3⟩
  · refine .inl ⟨h1, ?_, ?_⟩
    · show es.any (fun x => x.1.sameKey (.string p)) = false
      rw [List.any_eq_false]
      intro x hx
      simpa using List.find?_eq_none.1 h2 x hx
    · unfold DataW.atKey; simp only [h2]
  · refine .inr ⟨b, v, h1, ?_, ?_, h3⟩
    · show es.any (fun x => x.1.sameKey (.string p)) = true
      rw [List.any_eq_true]
      exact ⟨(k, .held v), List.mem_of_find?_eq_some h2, by simpa using List.find?_some h2⟩
    · unfold DataW.atKey; simp only [h2]

def SizePost (n : Nat) (w : World) (e : Ending) (w' : World) : Prop := e = .returned (.int .i64 n) ∧ Below w.heap.size w w'

set_option maxHeartbeats 2000000 in
theorem size_any {w : World} {base m : Nat} {t : Tb} (h : TabIn w base m t) (hb : tsize t ≤ 4611686018427387904) : Calls Tryz.prog 62 #[.map (some m)] w (SizePost (tsize t) w) := by
  obtain ⟨_, hr, es, hown, he⟩ := h
  go_enter Tryz.func62, Tryz.ntmps62
  go_wp2_with (at_range; refine wpList_range_own _ rfl _ 60 rfl 9 31 law9 Tryz.underlying60 heldR m t.length (.map es) rfl hown ?_; intro w0 hrg0 hg0 hs0)
  have hB0 : Below w.heap.size w w0 := (Below.refl _ w).grown hg0 (Nat.le_refl _) (fun k hk => by cases hk)
  go_frame
  go_loopw [3] (fun x wr => ∃ left cnt, wr.ranges Tryz.prog 9 heldR m w.heap.size t.length (.map es) left cnt ∧ x = .int .i64 (sizeDone left t) ∧ Below w.heap.size w wr) (fun _ wr => wr.rangeLeft m w.heap.size)
  case atStart =>
    refine ⟨_, _, hrg0, ?_, hB0⟩
    rw [sizeDone_start]; · rfl
    intro q hq
    rcases tab_at he q.1 .nil with ⟨h1, _⟩ | ⟨b, v, h1, h2, _⟩
    · rw [tget_of_mem hr (b := q.2) hq] at h1; cases h1
    · exact h2
  case round =>
    obtain ⟨left, cnt, hrg, rfl, hBl⟩ := hrel
    have hle := sizeDone_le left t
    go_wp2_with (at_next; refine wpList_next_ranges _ rfl _ rfl 9 law9 heldR S (fun x : Option Addr × Nat × Nat => .slice x.1 x.2.1 x.2.2) (fun key kl hk => by obtain ⟨p, e, _⟩ := keyOf_string_inv hk; exact ⟨p, e⟩) (fun v z hz => heldR_shape hz) m w.heap.size t.length (.map es) left cnt rfl hrg ?_ ?_)
    · intro hc0 hl0
      have e := sizeDone_end (t := t) hl0
      have E := Lib.hid e; clear e hl0 hle
      go_wp2
      go_ret
      exact ⟨by rw [E.out]; rfl, hBl⟩
    · intro p a n c kl z zp w1 cnt1 hk hl hz hat hrg1 hlt hg1 hs1 hen
      obtain ⟨p', ep, rfl⟩ := keyOf_string_inv hk
      have hstep : ∃ b : By, sizeDone (fun z => left z && !z.sameKey (.string p')) t = sizeDone left t + b.length ∧ b.length = n := by
        rcases tab_at he p' (.lit (.bool true)) with ⟨h1, _, h2⟩ | ⟨b, v, h1, _, h2, h3⟩
        · exfalso
          obtain ⟨_, hz2⟩ := heldR_inv hz
          rw [hat] at h2
          cases hz2
          cases h2
        · refine ⟨b, sizeDone_step hl hr h1, ?_⟩
          obtain ⟨_, hz2⟩ := heldR_inv hz
          rw [hat] at h2
          cases hz2
          cases h2
          obtain ⟨a', c', e⟩ := h3.shape
          cases e; rfl
      obtain ⟨b, hst, rfl⟩ := hstep
      have hle1 := sizeDone_le (fun z => left z && !z.sameKey (.string p')) t
      have hbd : sizeDone left t + b.length ≤ 4611686018427387904 := by omega
      have Hst := Lib.hid hst
      have hB1 : Below w.heap.size w w1 := hBl.grown hg1 hBl.size (fun k hk => by cases hk; exact Nat.le_refl _)
      have Hm : Hid (w1.rangeLeft m w.heap.size < wr.rangeLeft m w.heap.size) := by
        show w1.rangeLeft m w.heap.size < wr.rangeLeft m w.heap.size
        rw [hrg1.left_eq, hrg.left_eq]; exact hlt
      clear hle1 hst hle hl hat hz hk hrg hlt hg1 hs1
      go_wp2
      go_roundw
      case rel => exact ⟨_, _, hrg1, by rw [Hst.out]; go_num, hB1⟩
      case measure => exact Hm.out
end Go.Proofs.YtccloieikkdcoaaGreatDoor
