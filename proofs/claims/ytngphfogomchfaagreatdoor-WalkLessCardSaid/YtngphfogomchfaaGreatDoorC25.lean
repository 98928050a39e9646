/-
  Has, Same, Great, GreatTexts; the document's Find.
  objects, agree: the objects of all names.
-/
import Derived.Deep.QuietTactic
import Derived.BigQuiet
import Derived.IntWalk
import Derived.Laws.StructEq
import Derived.Test.YtngphfogomchfaaGreatDoorC24

namespace Go.Proofs.YtngphfogomchfaaGreatDoor
open Go Go.RowKit Go.Maps

/-! ### Has -/
def hasB (l : List Bs) (s : Bs) : Bool := l.contains s
theorem hasB_iff {l : List Bs} {s : Bs} : hasB l s = true ↔ s ∈ l := List.contains_iff_mem
theorem hasB_no {l : List Bs} {s : Bs} : hasB l s = false ↔ s ∉ l := by rw [← hasB_iff]; simp
theorem hasB_snoc {l : List Bs} {k : Nat} {s : Bs} (h : k < l.length) : hasB (l.take (k + 1)) s = (hasB (l.take k) s || (l.getD k [] == s)) := by
  unfold hasB
  rw [take_getD l [] k h, List.contains_eq_any_beq, List.contains_eq_any_beq, List.any_append]
  simp only [List.any_cons, List.any_nil, Bool.or_false]
  congr 1
  rw [Bool.eq_iff_iff, beq_iff_eq, beq_iff_eq]; exact eq_comm
set_option maxHeartbeats 4000000 in
set_option maxRecDepth 100000 in
theorem Has_any {w : World} {v : Value} {l : List Bs} (h : StrsR w v l) (hl : l.length ≤ 1000000) (s : Bs) : Calls Tryz.prog 28 #[v, .string ⟨s.toArray⟩] w fun e w' => e = .returned (.bool (hasB l s)) ∧ w = w' := by
  obtain ⟨A, c, rfl⟩ := h.shape
  have Hx := Lib.hid h; clear h
  go_enter Tryz.func28, Tryz.ntmps28
  go_wp2_with fail
  go_loop [5] (fun i => ∃ k : Nat, k ≤ l.length ∧ i = .int .i64 k ∧ Hid (hasB (l.take k) s = false)) (fun i => l.length - (intOf i).toNat)
  case atStart => exact ⟨0, Nat.zero_le _, rfl, Lib.hid rfl⟩
  case round =>
    obtain ⟨k, hk, rfl, hno⟩ := hrel
    by_cases hlt : k < l.length
    · obtain ⟨g, o, c', e, _, hg⟩ := Hx.out.pos (by omega)
      cases e
      have p0 := StrsR.cell Hx.out k hlt
      have hsn := hasB_snoc (s := s) hlt
      have hmem : l.getD k [] = s → hasB l s = true := fun e => by
        rw [hasB_iff, ← e]; exact getD_mem l [] k hlt
      obtain ⟨x, hx⟩ : ∃ x, x = l.getD k ([] : Bs) := ⟨_, rfl⟩
      rw [← hx] at p0 hsn hmem
      unfold SV at p0
      by_cases e : x = s
      · have HN := Lib.hid (hmem e)
        cases e
        clear hsn hmem hx
        go_wp2_with fail
        go_ret
        exact ⟨ret_same HN.out, rfl⟩
      · have e2 : (x == s) = false := by simpa using e
        have HS : Hid (hasB (l.take (k + 1)) s = false) := Lib.hid (by rw [hsn, hno.out, e2]; rfl)
        clear hsn hmem hx e
        go_wp2_with fail
        go_round
        case rel => exact ⟨k + 1, hlt, by go_num, HS⟩
        case measure => simp [intOf]; omega
    · obtain rfl : k = l.length := by omega
      rw [List.take_length] at hno
      go_wp2_with fail
      go_ret
      exact ⟨ret_same hno.out, rfl⟩

/-! ### Same -/
set_option maxHeartbeats 8000000 in
set_option maxRecDepth 100000 in
theorem Same_any {w : World} {va vb : Value} {l m : List Hld} (ha : HldsR w va l) (hb : HldsR w vb m) (hl : l.length ≤ 1000000) : Calls Tryz.prog 21 #[va, vb] w (SamePost (decide (l = m)) w) := by
  obtain ⟨A, c, rfl⟩ := ha.shape
  obtain ⟨B, cb, rfl⟩ := hb.shape
  have Ha := Lib.hid ha; have Hb := Lib.hid hb
  clear ha hb
  by_cases hlen : l.length = m.length
  · have Hlen := Lib.hid hlen
    rw [← hlen]
    clear hlen
    go_enter Tryz.func21, Tryz.ntmps21
    go_wp2_with fail
    go_loopw [5] (fun i wr => Below w.heap.size w wr ∧ ∃ k : Nat, k ≤ l.length ∧ i = .int .i64 k ∧ Hid (l.take k = m.take k)) (fun i _ => l.length - (intOf i).toNat)
    case atStart => exact ⟨Below.refl _ _, 0, Nat.zero_le _, rfl, Lib.hid rfl⟩
    case round =>
      obtain ⟨hB, k, hk, rfl, heq⟩ := hrel
      by_cases hlt : k < l.length
      · have hlm : k < m.length := by have := Hlen.out; omega
        obtain ⟨g, o, c', e, _, hg⟩ := Ha.out.pos (by omega)
        cases e
        obtain ⟨g', o', c'', e, _, hg'⟩ := Hb.out.pos (by omega)
        rw [← Hlen.out] at e
        cases e
        obtain ⟨p0, p1, p2⟩ := HldsR.cells (Ha.out.below hB (Nat.le_refl _)) k hlt
        obtain ⟨q0, q1, q2⟩ := HldsR.cells (Hb.out.below hB (Nat.le_refl _)) k hlm
        have hst := @take_same' _ l m noHld k heq.out hlt hlm
        have hne : l.getD k noHld ≠ m.getD k noHld → decide (l = m) = false := fun hn => decide_eq_false fun e => hn (by rw [e])
        obtain ⟨x, hx⟩ : ∃ x, x = l.getD k noHld := ⟨_, rfl⟩
        obtain ⟨y, hy⟩ : ∃ y, y = m.getD k noHld := ⟨_, rfl⟩
        rw [← hx] at p0 p1 p2 hst hne
        rw [← hy] at q0 q1 q2 hst hne
        have HB := Lib.hid hB; have HSt := Lib.hid hst
        clear hB hst hlm hx hy heq
        obtain ⟨x0, x1, x2⟩ := x
        obtain ⟨y0, y1, y2⟩ := y
        unfold SV at p0 p2 q0 q2
        simp only at p0 p1 p2 q0 q1 q2
        by_cases e : (⟨x0, x1, x2⟩ : Hld) = ⟨y0, y1, y2⟩
        · have HSt2 := Lib.hid (HSt.out e)
          clear HSt
          cases e
          clear hne
          go_wp2_with fail
          go_quiet (fail)
          go_wp2_with fail
          go_roundw
          case rel => exact ⟨below_drewN' HB.out _, k + 1, hlt, by go_num, HSt2⟩
          case measure => simp [intOf]; omega
        · have HN := Lib.hid (hne e)
          have hc : x0 ≠ y0 ∨ (x0 = y0 ∧ x1 ≠ y1) ∨ (x0 = y0 ∧ x1 = y1 ∧ x2 ≠ y2) := by
            by_cases e0 : x0 = y0
            · by_cases e1 : x1 = y1
              · exact .inr (.inr ⟨e0, e1, fun e2 => e (by rw [e0, e1, e2])⟩)
              · exact .inr (.inl ⟨e0, e1⟩)
            · exact .inl e0
          clear hne e
          rcases hc with e0 | ⟨rfl, e1⟩ | ⟨rfl, rfl, e2⟩
          all_goals
            go_wp2_with fail
            go_quiet (fail)
            go_wp2_with fail
            go_ret
            exact ⟨ret_same HN.out, below_drewN' HB.out _⟩
      · obtain rfl : k = l.length := by omega
        have HD : Hid (decide (l = m) = true) := Lib.hid (decide_eq_true (by
          have h := heq.out
          rw [List.take_length] at h
          rw [h, List.take_of_length_le (by have := Hlen.out; omega)]))
        have HB := Lib.hid hB; clear hB heq
        go_wp2_with fail
        go_ret
        exact ⟨ret_same HD.out, HB.out⟩
  · have hlI : ¬ (l.length : Int) = (m.length : Int) := by omega
    have HD : Hid (decide (l = m) = false) := Lib.hid (decide_eq_false fun e => hlen (by rw [e]))
    clear Ha Hb
    go_enter Tryz.func21, Tryz.ntmps21
    go_wp2_with fail
    go_ret
    exact ⟨ret_same HD.out, Below.refl _ _⟩

/-! ### Is it too much? -/
def limW : Nat := 140737488355328
/-- Not too much. -/
def SmallH (l : List Hld) : Prop := l.length < 900 ∧ ∀ x ∈ l, x.id.length < 9000 ∧ x.data.length < 9000
def SmallT (l : List Bs) : Prop := l.length ≤ 200 ∧ ∀ x ∈ l, x.length < 9000
def GreatPost (P : Prop) (w : World) (e : Ending) (w' : World) : Prop := ∃ g, e = .returned (.bool g) ∧ Below w.heap.size w w' ∧ (g = false → P)
def hcost (x : Hld) : Nat := min x.id.length 9000 + min x.data.length 9000
def hcosts (l : List Hld) : Nat := (l.map hcost).sum
theorem hcosts_snoc {l : List Hld} {k : Nat} (h : k < l.length) : hcosts (l.take (k + 1)) = hcosts (l.take k) + hcost (l.getD k noHld) := by
  rw [take_getD l noHld k h]; simp [hcosts]
theorem hcost_le {l : List Hld} {x : Hld} (h : x ∈ l) : hcost x ≤ hcosts l := by
  unfold hcosts
  induction l with
  | nil => cases h
  | cons y r ih =>
    simp only [List.map_cons, List.sum_cons]
    rcases List.mem_cons.1 h with rfl | h
    · omega
    · have := ih h; omega
def tcost (x : Bs) : Nat := min x.length 9000
def tcosts (l : List Bs) : Nat := (l.map tcost).sum
theorem tcosts_snoc {l : List Bs} {k : Nat} (h : k < l.length) : tcosts (l.take (k + 1)) = tcosts (l.take k) + tcost (l.getD k []) := by
  rw [take_getD l [] k h]; simp [tcosts]
theorem tcost_le {l : List Bs} {x : Bs} (h : x ∈ l) : tcost x ≤ tcosts l := by
  unfold tcosts
  induction l with
  | nil => cases h
  | cons y r ih =>
    simp only [List.map_cons, List.sum_cons]
    rcases List.mem_cons.1 h with rfl | h
    · omega
    · have := ih h; omega
set_option maxHeartbeats 8000000 in
set_option maxRecDepth 100000 in
theorem Great_any {w : World} {v : Value} {l : List Hld} (h : HldsR w v l) (hl : l.length ≤ limW) : Calls Tryz.prog 12 #[v] w (GreatPost (SmallH l) w) := by
  obtain ⟨A, c, rfl⟩ := h.shape
  have Hx := Lib.hid h; clear h
  have hl' : l.length ≤ 140737488355328 := hl
  clear hl
  go_enter Tryz.func12, Tryz.ntmps12
  go_wp2_with fail
  go_loopw [3, 4] (fun n i wr => Below w.heap.size w wr ∧ ∃ k : Nat, k ≤ l.length ∧ i = .int .i64 k ∧ n = .int .i64 ((10 * l.length + hcosts (l.take k) : Nat) : Int) ∧ 10 * l.length + hcosts (l.take k) ≤ 10000000000000000) (fun _ i _ => l.length - (intOf i).toNat)
  case atStart => exact ⟨Below.refl _ _, 0, Nat.zero_le _, rfl, by simp [hcosts], by simp [hcosts]; omega⟩
  case round =>
    obtain ⟨hB, k, hk, rfl, rfl, hN⟩ := hrel
    by_cases hlt : k < l.length
    · by_cases hn : 10 * l.length + hcosts (l.take k) < 9000
      · obtain ⟨g, o, c', e, _, hg⟩ := Hx.out.pos (by omega)
        cases e
        obtain ⟨c0, c1, c2⟩ := HldsR.cells (Hx.out.below hB (Nat.le_refl _)) k hlt
        have hc := hcosts_snoc hlt
        obtain ⟨x, hx⟩ : ∃ x, x = l.getD k noHld := ⟨_, rfl⟩
        rw [← hx] at c0 c1 c2 hc
        obtain ⟨nm, m, di⟩ := x
        unfold SV at c0 c2
        simp only at c0 c1 c2
        unfold hcost at hc
        simp only at hc
        have hrel' : 10 * l.length + hcosts (l.take (k + 1)) ≤ 10000000000000000 := by rw [hc]; omega
        have m1 : (10 * (l.length : Int) + hcosts (l.take k) + min (nm.length : Int) 9000 + min (di.length : Int) 9000) = ((10 * l.length + hcosts (l.take (k + 1)) : Nat) : Int) := by
          rw [hc]
          omega
        have Hr := Lib.hid hrel'; have M1 := Lib.hid m1; have HB := Lib.hid hB; have Hc := Lib.hid hc
        clear hc hrel' m1 hB hx c1
        go_wp2_with fail
        go_quiet (fail)
        go_wp2_with fail
        go_roundw
        case rel => exact ⟨below_drewN' HB.out _, k + 1, hlt, by go_num, by rw [M1.out], Hr.out⟩
        case measure => simp [intOf]; omega
      · have hnI : ¬ (10 * (l.length : Int) + hcosts (l.take k) < 9000) := by omega
        have hgI : (9000 : Int) ≤ 10 * (l.length : Int) + hcosts (l.take k) := by omega
        have HB := Lib.hid hB; clear hB
        go_wp2_with fail
        go_ret
        exact ⟨true, by simp, HB.out, fun h => by cases h⟩
    · obtain rfl : k = l.length := by omega
      rw [List.take_length] at hN
      have HB := Lib.hid hB; clear hB
      rw [List.take_length]
      by_cases hn : 10 * l.length + hcosts l < 9000
      · have hnI : ¬ ((9000 : Int) ≤ 10 * (l.length : Int) + hcosts l) := by omega
        have hs : SmallH l := ⟨by omega, fun x hx => by
          have := hcost_le hx
          unfold hcost at this
          omega⟩
        have Hs := Lib.hid hs; clear hs
        go_wp2_with fail
        go_ret
        exact ⟨_, rfl, HB.out, fun _ => Hs.out⟩
      · have hnI : (9000 : Int) ≤ 10 * (l.length : Int) + hcosts l := by omega
        go_wp2_with fail
        go_ret
        exact ⟨true, by simp, HB.out, fun h => by cases h⟩
set_option maxHeartbeats 8000000 in
set_option maxRecDepth 100000 in
theorem GreatTexts_any {w : World} {v : Value} {l : List Bs} (h : StrsR w v l) (hl : l.length ≤ limW) : Calls Tryz.prog 13 #[v] w (GreatPost (SmallT l) w) := by
  obtain ⟨A, c, rfl⟩ := h.shape
  have Hx := Lib.hid h; clear h
  have hl' : l.length ≤ 140737488355328 := hl
  clear hl
  go_enter Tryz.func13, Tryz.ntmps13
  go_wp2_with fail
  go_loopw [3, 4] (fun n i wr => Below w.heap.size w wr ∧ ∃ k : Nat, k ≤ l.length ∧ i = .int .i64 k ∧ n = .int .i64 ((l.length + tcosts (l.take k) : Nat) : Int) ∧ l.length + tcosts (l.take k) ≤ 10000000000000000) (fun _ i _ => l.length - (intOf i).toNat)
  case atStart => exact ⟨Below.refl _ _, 0, Nat.zero_le _, rfl, by simp [tcosts], by simp [tcosts]; omega⟩
  case round =>
    obtain ⟨hB, k, hk, rfl, rfl, hN⟩ := hrel
    by_cases hlt : k < l.length
    · by_cases hn : l.length + tcosts (l.take k) < 9000
      · obtain ⟨g, o, c', e, _, hg⟩ := Hx.out.pos (by omega)
        cases e
        have c0 := StrsR.cell (Hx.out.below hB (Nat.le_refl _)) k hlt
        have hc := tcosts_snoc hlt
        obtain ⟨x, hx⟩ : ∃ x, x = l.getD k ([] : Bs) := ⟨_, rfl⟩
        rw [← hx] at c0 hc
        unfold SV at c0
        unfold tcost at hc
        have hrel' : l.length + tcosts (l.take (k + 1)) ≤ 10000000000000000 := by rw [hc]; omega
        have m1 : ((l.length : Int) + tcosts (l.take k) + min (x.length : Int) 9000) = ((l.length + tcosts (l.take (k + 1)) : Nat) : Int) := by
          rw [hc]
          omega
        have Hr := Lib.hid hrel'; have M1 := Lib.hid m1; have HB := Lib.hid hB; have Hc := Lib.hid hc
        clear hc hrel' m1 hB hx
        go_wp2_with fail
        go_roundw
        case rel => exact ⟨HB.out, k + 1, hlt, by go_num, by rw [M1.out], Hr.out⟩
        case measure => simp [intOf]; omega
      · have hnI : ¬ ((l.length : Int) + tcosts (l.take k) < 9000) := by omega
        have hgI : (9000 : Int) ≤ (l.length : Int) + tcosts (l.take k) := by omega
        have HB := Lib.hid hB; clear hB
        go_wp2_with fail
        go_ret
        exact ⟨true, by simp, HB.out, fun h => by cases h⟩
    · obtain rfl : k = l.length := by omega
      rw [List.take_length] at hN
      have HB := Lib.hid hB; clear hB
      rw [List.take_length]
      by_cases hn : l.length + tcosts l < 9000
      · have hnI : ¬ ((9000 : Int) ≤ (l.length : Int) + tcosts l) := by omega
        have hs : (l.length : Int) ≤ 200 → SmallT l := fun h3 => ⟨by omega, fun x hx => by
          have := tcost_le hx
          unfold tcost at this
          omega⟩
        have Hs := Lib.hid hs; clear hs
        by_cases h3 : (l.length : Int) ≤ 200
        · go_wp2_with fail
          go_ret
          exact ⟨_, rfl, HB.out, fun _ => Hs.out h3⟩
        · go_wp2_with fail
          go_ret
          exact ⟨true, by simp, HB.out, fun h => by cases h⟩
      · have hnI : (9000 : Int) ≤ (l.length : Int) + tcosts l := by omega
        go_wp2_with fail
        go_ret
        exact ⟨true, by simp, HB.out, fun h => by cases h⟩

/-! ### The document's Find -/
def objC (o : Option Hld) : Value := match o with | some h => .agg #[.int .i64 h.kind, .string ⟨h.data.toArray⟩] | none => .agg #[.int .i64 0, .string ⟨#[]⟩]
/-- What Find answers. -/
def findV (l : List Hld) (x : Bs) : Value := .tuple #[objC (findL l x), .bool (thB l x)]
theorem findL_snoc {l : List Hld} {k : Nat} {x : Bs} (h : k < l.length) : findL (l.take (k + 1)) x = (findL (l.take k) x).or (if (l.getD k noHld).id = x then some (l.getD k noHld) else none) := by
  rw [take_getD l noHld k h, findL_append, findL_cons]; rfl
theorem findL_hit {l : List Hld} {k : Nat} {x : Bs} {h : Hld} (hf : findL (l.take k) x = some h) : findL l x = some h := by
  rw [← List.take_append_drop k l, findL_append, hf, Option.some_or]
set_option maxHeartbeats 4000000 in
set_option maxRecDepth 100000 in
theorem RFind_any {w : World} {v : Value} {l : List Hld} (h : HldsR w v l) (hl : l.length ≤ 1000000) (s : Bs) : Calls Tryz.prog 17 #[v, .string ⟨s.toArray⟩] w (RetBelow (findV l s) w) := by
  obtain ⟨A, c, rfl⟩ := h.shape
  have Hx := Lib.hid h; clear h
  go_enter Tryz.func17, Tryz.ntmps17
  go_wp2_with fail
  obtain ⟨w0, hw0⟩ : ∃ w0, w0 = w.alloc (.cells #[.int .i64 0, .string ⟨#[]⟩] 30) := ⟨_, rfl⟩
  have hb0 : Below w.heap.size w w0 := by rw [hw0]; exact below_new w _
  have hk0 : w0.heap[w.heap.size]? = some (.cells #[.int .i64 0, .string ⟨#[]⟩] 30 (0, 0)) := by rw [hw0]; exact heap_alloc_new w _
  rw [← hw0]
  have HX0 := Lib.hid (Hx.out.below hb0 (Nat.le_refl _)); have HB0 := Lib.hid hb0
  have z0 : w0.cell? ⟨w.heap.size, 0, none⟩ = some (.int .i64 0) := (cell_of_row w0 _ 0 _ _ _ hk0).trans rfl
  have z1 : w0.cell? ⟨w.heap.size, 1, none⟩ = some (.string ⟨#[]⟩) := (cell_of_row w0 _ 1 _ _ _ hk0).trans rfl
  have f0 := frozen_of (i := 0) hk0
  have f1 := frozen_of (i := 1) hk0
  clear hb0 hk0 hw0 Hx
  go_loop [6] (fun i => ∃ k : Nat, k ≤ l.length ∧ i = .int .i64 k ∧ Hid (findL (l.take k) s = none)) (fun i => l.length - (intOf i).toNat)
  case atStart => exact ⟨0, Nat.zero_le _, rfl, Lib.hid rfl⟩
  case round =>
    obtain ⟨k, hk, rfl, hno⟩ := hrel
    by_cases hlt : k < l.length
    · obtain ⟨g, o, c', e, _, hg⟩ := HX0.out.pos (by omega)
      cases e
      obtain ⟨p0, p1, p2⟩ := HldsR.cells HX0.out k hlt
      have hsn := findL_snoc (x := s) hlt
      rw [hno.out] at hsn
      obtain ⟨x, hx⟩ : ∃ x, x = l.getD k noHld := ⟨_, rfl⟩
      rw [← hx] at p0 p1 p2 hsn
      obtain ⟨xi, xk, xd⟩ := x
      unfold SV at p0 p2
      simp only at p0 p1 p2 hsn
      by_cases e : xi = s
      · have hf : findL l s = some ⟨xi, xk, xd⟩ := findL_hit (by rw [hsn, if_pos e]; rfl)
        have HV : Hid (findV l s = .tuple #[.agg #[.int .i64 xk, .string ⟨xd.toArray⟩], .bool true]) := Lib.hid (by unfold findV thB; rw [hf]; rfl)
        cases e
        clear hsn hx hf hno
        go_wp2_with fail
        rw [HV.out]
        exact bodyPost_ret (v := .tuple #[.agg #[.int .i64 xk, .string ⟨xd.toArray⟩], .bool true]) (by simp [results, Tryz.results17, go_sem, z0, z1]) rfl ⟨rfl, (HB0.out.setCell (p := ⟨w.heap.size, 0, none⟩) (Nat.le_refl _) _).setCell (p := ⟨w.heap.size, 1, none⟩) (Nat.le_refl _) _⟩
      · have e2 : (xi == s) = false := by simpa using e
        have HS : Hid (findL (l.take (k + 1)) s = none) := Lib.hid (by rw [hsn, if_neg e]; rfl)
        clear hsn hx e hno
        go_wp2_with fail
        go_round
        case rel => exact ⟨k + 1, hlt, by go_num, HS⟩
        case measure => simp [intOf]; omega
    · obtain rfl : k = l.length := by omega
      rw [List.take_length] at hno
      have HV : Hid (findV l s = .tuple #[.agg #[.int .i64 0, .string ⟨#[]⟩], .bool false]) := Lib.hid (by unfold findV thB; rw [hno.out]; rfl)
      clear hno
      go_wp2_with fail
      rw [HV.out]
      exact bodyPost_ret (v := .tuple #[.agg #[.int .i64 0, .string ⟨#[]⟩], .bool false]) (by simp [results, Tryz.results17, go_sem, z0, z1]) rfl ⟨rfl, (HB0.out.setCell (p := ⟨w.heap.size, 0, none⟩) (Nat.le_refl _) _).setCell (p := ⟨w.heap.size, 1, none⟩) (Nat.le_refl _) _⟩
end Go.Proofs.YtngphfogomchfaaGreatDoor


namespace Go.Proofs.YtngphfogomchfaaGreatDoor
open Go Go.RowKit Go.Maps

def objV (h : Hld) : Value := .agg #[.int .i64 h.kind, .string ⟨h.data.toArray⟩]
/-- The objects of all names, as a map holds them. -/
def ofF (l : List Hld) (x : Bs) : Option Value := (findL l x).map objV
theorem zeroObj (w : World) : (zeroValue 30).run Tryz.prog w = .ok (.agg #[.int .i64 0, .string ⟨#[]⟩]) w := by kernel_rfl
theorem ofF_have {l : List Hld} {k : Nat} (hk : k < l.length) (h : ofF (l.take k) (l.getD k noHld).id ≠ none) : ofF (l.take (k + 1)) = ofF (l.take k) := by
  funext x
  unfold ofF at h ⊢
  rw [findL_snoc hk]
  cases hf : findL (l.take k) x with
  | some u => rfl
  | none =>
    by_cases e : (l.getD k noHld).id = x
    · rw [e, hf] at h; exact absurd rfl h
    · rw [if_neg e]; rfl
theorem ofF_new {l : List Hld} {k : Nat} (hk : k < l.length) (h : ofF (l.take k) (l.getD k noHld).id = none) : ofF (l.take (k + 1)) = updF (ofF (l.take k)) (l.getD k noHld).id (objV (l.getD k noHld)) := by
  funext x
  unfold ofF at h ⊢
  unfold updF
  rw [findL_snoc hk]
  by_cases e : (l.getD k noHld).id = x
  · rw [if_pos e, if_pos e.symm]
    have hn : findL (l.take k) x = none := by rw [← e]; exact Option.map_eq_none_iff.1 h
    rw [hn]; rfl
  · rw [if_neg e, if_neg (fun e' => e e'.symm), Option.or_none]

set_option maxHeartbeats 4000000 in
set_option maxRecDepth 100000 in
theorem objects_any {w : World} {v : Value} {l : List Hld} (h : HldsR w v l) (hl : l.length ≤ 1000000) (hs : ∀ x ∈ l, x.id.length ≤ 1000000) :
    Calls Tryz.prog 34 #[v] w fun e w' => e = .returned (.map (some w.heap.size)) ∧ MapS w' w.heap.size l.length (ofF l) ∧ Below w.heap.size w w' := by
  obtain ⟨A, c, rfl⟩ := h.shape
  have Hx := Lib.hid h; have Hs := Lib.hid hs; clear h hs
  go_enter Tryz.func34, Tryz.ntmps34
  have hmm := @run_makeMap Tryz.prog
  go_wp2_with fail
  clear hmm
  go_loopw [11] (fun i wr => Hid (Below w.heap.size w wr) ∧ ∃ k : Nat, k ≤ l.length ∧ i = .int .i64 k ∧ Hid (MapS wr w.heap.size k (ofF (l.take k)))) (fun i _ => l.length - (intOf i).toNat)
  case atStart => exact ⟨Lib.hid ((Below.refl _ _).alloc (Nat.le_refl _) _), 0, Nat.zero_le _, rfl, Lib.hid (MapS.made w)⟩
  case round =>
    obtain ⟨hB, k, hk, rfl, hM⟩ := hrel
    by_cases hlt : k < l.length
    · obtain ⟨g, o, c', e, _, hg⟩ := Hx.out.pos (by omega)
      cases e
      obtain ⟨p0, p1, p2⟩ := HldsR.cells (Hx.out.below hB.out (Nat.le_refl _)) k hlt
      have hlen := Hs.out _ (getD_mem l noHld k hlt)
      obtain ⟨x, hx⟩ : ∃ x, x = l.getD k noHld := ⟨_, rfl⟩
      rw [← hx] at p0 p1 p2 hlen
      obtain ⟨xi, xk, xd⟩ := x
      unfold SV at p0 p2
      simp only at p0 p1 p2 hlen
      obtain ⟨w1, hw1⟩ : ∃ w1, w1 = wr.alloc (.cells #[.string ⟨xi.toArray⟩, .int .i64 xk, .string ⟨xd.toArray⟩] 51) := ⟨_, rfl⟩
      have hb1 : Below wr.heap.size wr w1 := by rw [hw1]; exact below_new wr _
      have hk1 : w1.heap[wr.heap.size]? = some (.cells #[.string ⟨xi.toArray⟩, .int .i64 xk, .string ⟨xd.toArray⟩] 51 (0, 0)) := by rw [hw1]; exact heap_alloc_new wr _
      have hM1 := hM.out.below hb1 hM.out.lt
      have hBM : w.heap.size < wr.heap.size := hM.out.lt
      have hlook := hM1.look_ok Tryz.underlying64 (zeroObj w1) (x := xi) (by unfold maxLen; omega)
      have q0 : w1.cell? ⟨wr.heap.size, 0, none⟩ = some (.string ⟨xi.toArray⟩) := (cell_of_row w1 _ 0 _ _ _ hk1).trans rfl
      have HW1 := Lib.hid hw1; have HM1 := Lib.hid hM1; have HB1 := Lib.hid (hB.out.trans (hb1.mono hB.out.size)); have HK1 := Lib.hid hk1; have HB2 := Lib.hid hb1
      have HL := Lib.hid hlook
      have Hl := Lib.hid hlen; have HBM := Lib.hid hBM
      have hz1 : wr.heap.size < w1.heap.size := by rw [hw1]; simp
      have HZ := Lib.hid hz1
      clear hw1 hb1 hk1 hM1 hlook hlen hB hM hBM hz1 q0
      go_upto_region 5 with fail
      rw [← HW1.out]
      clear p0 p1 p2
      have q0 : w1.cell? ⟨wr.heap.size, 0, none⟩ = some (.string ⟨xi.toArray⟩) := (cell_of_row w1 _ 0 _ _ _ HK1.out).trans rfl
      cases hf : ofF (l.take k) xi with
      | some u =>
        have HS := Lib.hid (ofF_have hlt (by rw [← hx, hf]; simp))
        obtain ⟨z, hz, rfl⟩ := Option.map_eq_some_iff.1 (show (findL (l.take k) xi).map objV = some u from hf)
        have hl2 := HL.out
        rw [hf] at hl2
        simp only [Option.getD_some, Option.isSome_some, objV] at hl2
        clear hf hx hz
        go_wp2_with fail
        go_roundw
        case rel => exact ⟨Lib.hid (HB1.out.alloc HB1.out.size _), k + 1, hlt, by go_num, Lib.hid (by rw [HS.out]; obtain ⟨D, hD, r⟩ := HM1.out; exact ⟨D, (hD.alloc _).mono (Nat.le_succ _), r⟩)⟩
        case measure => simp [intOf]; omega
      | none =>
        have HS := Lib.hid (ofF_new hlt (by rw [← hx]; exact hf))
        rw [← hx] at HS
        have hl2 := HL.out
        rw [hf] at hl2
        simp only [Option.getD_none, Option.isSome_none] at hl2
        have HM2 := Lib.hid (HM1.out.below (below_new w1 (.cells #[.int .i64 0, .string ⟨#[]⟩] 30)) HM1.out.lt)
        obtain ⟨w2, hw2⟩ : ∃ w2, w2 = w1.alloc (.cells #[.int .i64 0, .string ⟨#[]⟩] 30) := ⟨_, rfl⟩
        have HW2 := Lib.hid hw2
        have hb2 : Below w1.heap.size w1 w2 := by rw [hw2]; exact below_new w1 _
        have HB3 := Lib.hid (HB1.out.trans (hb2.mono HB1.out.size))
        rw [← hw2] at HM2
        have r0 : w2.cell? ⟨wr.heap.size, 0, none⟩ = some (.string ⟨xi.toArray⟩) := (hb2.cell (p := ⟨wr.heap.size, 0, none⟩) HZ.out).trans q0
        have r1 : w2.cell? ⟨wr.heap.size, 1, none⟩ = some (.int .i64 xk) := (hb2.cell (p := ⟨wr.heap.size, 1, none⟩) HZ.out).trans ((cell_of_row w1 _ 1 _ _ _ HK1.out).trans rfl)
        have r2 : w2.cell? ⟨wr.heap.size, 2, none⟩ = some (.string ⟨xd.toArray⟩) := (hb2.cell (p := ⟨wr.heap.size, 2, none⟩) HZ.out).trans ((cell_of_row w1 _ 2 _ _ _ HK1.out).trans rfl)
        have R := Lib.hid (And.intro r0 (And.intro r1 r2))
        clear hf hx hw2 hb2 r0 r1 r2
        go_upto_region 6 with fail
        rw [← HW2.out]
        obtain ⟨r0, r1, r2⟩ := R.out
        clear hl2 q0
        go_wp2_with (at_mapUpdate; refine wpList_putS rfl _ _ _ 64 30 rfl Tryz.underlying64 w.heap.size k _ xi (.agg #[.int .i64 xk, .string ⟨xd.toArray⟩]) rfl rfl rfl HM2.out (by unfold maxLen; omega) (by have := Hl.out; unfold maxLen; omega) ?_)
        intro w3 hM3 hg3
        have HM3 := Lib.hid hM3
        have HG3 := Lib.hid (HB3.out.grown hg3 HB3.out.size (fun j e => by cases e; exact Nat.le_refl _))
        clear hM3 hg3 r0 r1 r2
        go_wp2_with fail
        go_roundw
        case rel => exact ⟨HG3, k + 1, hlt, by go_num, Lib.hid (by rw [HS.out]; exact HM3.out)⟩
        case measure => simp [intOf]; omega
    · obtain rfl : k = l.length := by omega
      rw [List.take_length] at hM
      go_wp2_with fail
      go_ret
      exact ⟨rfl, hM.out, hB.out⟩

/-! ### agree -/
def agreeB (l : List Hld) (ws : List (Bs × Int)) : Bool := ws.all fun p => kindB l p.1 == p.2
theorem ofF_kind (l : List Hld) (x : Bs) : ∃ d : Bs, (ofF l x).getD (.agg #[.int .i64 0, .string ⟨#[]⟩]) = .agg #[.int .i64 (kindB l x), .string ⟨d.toArray⟩] := by
  unfold ofF kindB
  cases findL l x with
  | none => exact ⟨[], rfl⟩
  | some u => exact ⟨u.data, rfl⟩
theorem field_obj (k : Int) (d : Bs) (W : World) : Sem.run Tryz.prog (Instr.field 30 (.agg #[.int .i64 k, .string ⟨d.toArray⟩]) 0) W = .ok (.int .i64 k) W := by
  simp [Instr.field, run_underlying Tryz.underlying30, go_sem, Result.andThen, asAgg, part]
theorem agree_snoc {l : List Hld} {ws : List (Bs × Int)} {k : Nat} (h : k < ws.length) : agreeB l (ws.take (k + 1)) = (agreeB l (ws.take k) && (kindB l (ws.getD k ([], 0)).1 == (ws.getD k ([], 0)).2)) := by
  unfold agreeB
  rw [take_getD ws ([], 0) k h, List.all_append]; simp
theorem agree_no {l : List Hld} {ws : List (Bs × Int)} {k : Nat} (h : k < ws.length) (hk : (kindB l (ws.getD k ([], 0)).1 == (ws.getD k ([], 0)).2) = false) : agreeB l ws = false := by
  cases hc : agreeB l ws
  · rfl
  · have := List.all_eq_true.1 (show ws.all (fun p => kindB l p.1 == p.2) = true from hc) _ (getD_mem ws ([], 0) k h)
    rw [hk] at this; cases this
set_option maxHeartbeats 4000000 in
set_option maxRecDepth 100000 in
theorem agree_any {w : World} {vw : Value} {ws : List (Bs × Int)} {l : List Hld} {m n : Nat} (h : WantsR w vw ws) (hl : ws.length ≤ 1000000) (hs : ∀ p ∈ ws, p.1.length ≤ 1000000) (hm : MapS w m n (ofF l)) :
    Calls Tryz.prog 39 #[.map (some m), vw] w (RetBelow (.bool (agreeB l ws)) w) := by
  obtain ⟨A, c, rfl⟩ := h.shape
  have Hx := Lib.hid h; have Hs := Lib.hid hs; have HM := Lib.hid hm; clear h hs hm
  go_enter Tryz.func39, Tryz.ntmps39
  go_wp2_with fail
  go_loopw [9] (fun i wr => Hid (Below w.heap.size w wr) ∧ ∃ k : Nat, k ≤ ws.length ∧ i = .int .i64 k ∧ Hid (agreeB l (ws.take k) = true)) (fun i _ => ws.length - (intOf i).toNat)
  case atStart => exact ⟨Lib.hid (Below.refl _ _), 0, Nat.zero_le _, rfl, Lib.hid rfl⟩
  case round =>
    obtain ⟨hB, k, hk, rfl, hA⟩ := hrel
    by_cases hlt : k < ws.length
    · obtain ⟨g, o, c', e, _, hg⟩ := Hx.out.pos (by omega)
      cases e
      obtain ⟨p0, p1⟩ := WantsR.cells (Hx.out.below hB.out (Nat.le_refl _)) k hlt
      have hlen := Hs.out _ (getD_mem ws ([], 0) k hlt)
      have hsn := agree_snoc (l := l) hlt
      have hno := agree_no (l := l) hlt
      obtain ⟨x, hx⟩ : ∃ x, x = ws.getD k ([], 0) := ⟨_, rfl⟩
      rw [← hx] at p0 p1 hlen hsn hno
      obtain ⟨xi, xk⟩ := x
      unfold SV at p0
      simp only at p0 p1 hlen hsn hno
      rw [hA.out] at hsn
      obtain ⟨w1, hw1⟩ : ∃ w1, w1 = wr.alloc (.cells #[.string ⟨xi.toArray⟩, .int .i64 xk] 47) := ⟨_, rfl⟩
      have hb1 : Below wr.heap.size wr w1 := by rw [hw1]; exact below_new wr _
      have hk1 : w1.heap[wr.heap.size]? = some (.cells #[.string ⟨xi.toArray⟩, .int .i64 xk] 47 (0, 0)) := by rw [hw1]; exact heap_alloc_new wr _
      have hB1 := hB.out.trans (hb1.mono hB.out.size)
      have hM1 := HM.out.below hB1 HM.out.lt
      have hlook := hM1.look Tryz.underlying64 (zeroObj w1) (x := xi) (by unfold maxLen; omega)
      obtain ⟨d, hd⟩ := ofF_kind l xi
      rw [hd] at hlook
      have HW1 := Lib.hid hw1; have HB1 := Lib.hid hB1; have HK1 := Lib.hid hk1
      have HL := Lib.hid hlook; have HSn := Lib.hid hsn; have HNo := Lib.hid hno
      clear hw1 hb1 hk1 hM1 hlook hlen hB hB1 hd hx hsn hno hA
      go_upto_region 4 with fail
      rw [← HW1.out]
      clear p0 p1
      have q0 : w1.cell? ⟨wr.heap.size, 0, none⟩ = some (.string ⟨xi.toArray⟩) := (cell_of_row w1 _ 0 _ _ _ HK1.out).trans rfl
      have q1 : w1.cell? ⟨wr.heap.size, 1, none⟩ = some (.int .i64 xk) := (cell_of_row w1 _ 1 _ _ _ HK1.out).trans rfl
      have hl2 := HL.out
      generalize kindB l xi = kk at hl2 HSn HNo
      have hfl := fun W => field_obj kk d W
      by_cases e : kk = xk
      · have HS : Hid (agreeB l (ws.take (k + 1)) = true) := Lib.hid (by rw [HSn.out, e]; simp)
        clear HSn HNo
        cases e
        go_wp2_with fail
        go_roundw
        case rel => exact ⟨HB1, k + 1, hlt, by go_num, HS⟩
        case measure => simp [intOf]; omega
      · have HS : Hid (agreeB l ws = false) := Lib.hid (HNo.out (by simpa using e))
        have e1 : (kk == xk) = false := by simpa using e
        have e2 : (kk != xk) = true := by simpa using e
        clear HSn HNo
        go_wp2_with fail
        go_ret
        exact ⟨ret_same HS.out, HB1.out⟩
    · obtain rfl : k = ws.length := by omega
      rw [List.take_length] at hA
      go_wp2_with fail
      go_ret
      exact ⟨ret_same hA.out, hB.out⟩
end Go.Proofs.YtngphfogomchfaaGreatDoor
