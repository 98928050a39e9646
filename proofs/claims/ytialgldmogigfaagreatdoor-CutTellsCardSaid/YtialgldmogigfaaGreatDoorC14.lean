/-
  SameItems, SameTexts, SameWants: alike?
  Has, Same, Great, GreatTexts; the document's Find.
  objects, agree: the objects of all names.
  A name is met: the row, and how often each was met.
  GreatItems, GreatChange: is it too much?
  Pieces of a slice of items, made and read.
-/
import Derived.Deep.QuietTactic
import Derived.BigQuiet
import Derived.IntWalk
import Derived.Laws.StructEq
import Derived.Test.YtialgldmogigfaaGreatDoorC02
import Derived.Test.YtialgldmogigfaaGreatDoorC13
import Derived.Deep.AppendLies
import Derived.Test.YtialgldmogigfaaGreatDoorC05
import Derived.Test.YtialgldmogigfaaGreatDoorC10

namespace Go.Proofs.YtialgldmogigfaaGreatDoor
open Go Go.RowKit
theorem below_drewN' {b : Nat} {w w1 : World} (h : Below b w w1) (n : Nat) : Below b w (w1.drewN n) := ⟨h.os, h.tape, h.output, h.size, h.block⟩
def SamePost (b : Bool) (w : World) (e : Ending) (w' : World) : Prop := e = .returned (.bool b) ∧ Below w.heap.size w w'
theorem take_same' {α : Type} {l m : List α} {d : α} {k : Nat} (h : l.take k = m.take k) (h1 : k < l.length) (h2 : k < m.length) (e : l.getD k d = m.getD k d) : l.take (k + 1) = m.take (k + 1) := by
  rw [take_getD l d k h1, take_getD m d k h2, h, e]
theorem ret_same {a b : Bool} (h : a = b) : Ending.returned (.bool b) = .returned (.bool a) := by rw [h]
set_option maxHeartbeats 8000000 in
set_option maxRecDepth 100000 in
theorem SameTexts_any {w : World} {va vb : Value} {l m : List (List UInt8)} (ha : StrsR w va l) (hb : StrsR w vb m) (hl : l.length ≤ 1000000) : Calls Tryz.prog 17 #[va, vb] w (SamePost (decide (l = m)) w) := by
  obtain ⟨A, c, rfl⟩ := ha.shape
  obtain ⟨B, cb, rfl⟩ := hb.shape
  have Ha := Lib.hid ha; have Hb := Lib.hid hb
  clear ha hb
  by_cases hlen : l.length = m.length
  · have Hlen := Lib.hid hlen
    rw [← hlen]
    clear hlen
    go_enter Tryz.func17, Tryz.ntmps17
    go_wp2_with fail
    go_loopw [5] (fun i wr => Below w.heap.size w wr ∧ ∃ k : Nat, k ≤ l.length ∧ i = .int .i64 k ∧ Hid (l.take k = m.take k)) (fun i _ => l.length - (intOf i).toNat)
    case atStart => exact ⟨Below.refl _ _, 0, Nat.zero_le _, rfl, Lib.hid rfl⟩
    case round =>
      obtain ⟨hB, k, hk, rfl, heq⟩ := hrel
      by_cases hlt : k < l.length
      · have hlm : k < m.length := by have := Hlen.out; omega
        obtain ⟨g, o, c', e, _, hg⟩ := Ha.out.pos (by omega)
        cases e
        obtain ⟨g', o', c'', e, _, hg'⟩ := Hb.out.pos (by omega)
        rw [← Hlen.out] at e
        cases e
        have p0 := StrsR.cell (Ha.out.below hB (Nat.le_refl _)) k hlt
        have q0 := StrsR.cell (Hb.out.below hB (Nat.le_refl _)) k hlm
        have hst := @take_same' _ l m ([] : List UInt8) k heq.out hlt hlm
        have hne : l.getD k ([] : List UInt8) ≠ m.getD k ([] : List UInt8) → decide (l = m) = false := fun hn => decide_eq_false fun e => hn (by rw [e])
        obtain ⟨x, hx⟩ : ∃ x, x = l.getD k ([] : List UInt8) := ⟨_, rfl⟩
        obtain ⟨y, hy⟩ : ∃ y, y = m.getD k ([] : List UInt8) := ⟨_, rfl⟩
        rw [← hx] at p0 hst hne
        rw [← hy] at q0 hst hne
        have HB := Lib.hid hB; have HSt := Lib.hid hst
        clear hB hst hlm hx hy heq
        unfold SV at p0 q0
        by_cases e : x = y
        · have HSt2 := Lib.hid (HSt.out e)
          clear HSt
          cases e
          clear hne
          go_wp2_with fail
          go_quiet (fail)
          go_wp2_with fail
          go_roundw
          case rel => exact ⟨below_drewN' HB.out _, k + 1, hlt, by go_num, HSt2⟩
          case measure => simp [intOf]; omega
        · have HN := Lib.hid (hne e)
          have e2 : (x == y) = false := by simpa using e
          have e3 : (x != y) = true := by simpa using e
          clear hne e
          go_wp2_with fail
          go_quiet (fail)
          go_wp2_with fail
          go_ret
          exact ⟨ret_same HN.out, below_drewN' HB.out _⟩
      · obtain rfl : k = l.length := by omega
        have HD : Hid (decide (l = m) = true) := Lib.hid (decide_eq_true (by
          have h := heq.out
          rw [List.take_length] at h
          rw [h, List.take_of_length_le (by have := Hlen.out; omega)]))
        have HB := Lib.hid hB; clear hB heq
        go_wp2_with fail
        go_ret
        exact ⟨ret_same HD.out, HB.out⟩
  · have hlI : ¬ (l.length : Int) = (m.length : Int) := by omega
    have HD : Hid (decide (l = m) = false) := Lib.hid (decide_eq_false fun e => hlen (by rw [e]))
    clear Ha Hb
    go_enter Tryz.func17, Tryz.ntmps17
    go_wp2_with fail
    go_ret
    exact ⟨ret_same HD.out, Below.refl _ _⟩
end Go.Proofs.YtialgldmogigfaaGreatDoor


namespace Go.Proofs.YtialgldmogigfaaGreatDoor
open Go Go.RowKit Go.Maps
def hasB (l : List Bs) (s : Bs) : Bool := l.contains s
theorem hasB_iff {l : List Bs} {s : Bs} : hasB l s = true ↔ s ∈ l := List.contains_iff_mem
theorem hasB_no {l : List Bs} {s : Bs} : hasB l s = false ↔ s ∉ l := by rw [← hasB_iff]; simp
theorem hasB_snoc {l : List Bs} {k : Nat} {s : Bs} (h : k < l.length) : hasB (l.take (k + 1)) s = (hasB (l.take k) s || (l.getD k [] == s)) := by
  unfold hasB
  rw [take_getD l [] k h, List.contains_eq_any_beq, List.contains_eq_any_beq, List.any_append]
  simp only [List.any_cons, List.any_nil, Bool.or_false]
  congr 1
  rw [Bool.eq_iff_iff, beq_iff_eq, beq_iff_eq]; exact eq_comm
set_option maxHeartbeats 4000000 in
set_option maxRecDepth 100000 in
theorem Has_any {w : World} {v : Value} {l : List Bs} (h : StrsR w v l) (hl : l.length ≤ 1000000) (s : Bs) : Calls Tryz.prog 19 #[v, .string ⟨s.toArray⟩] w fun e w' => e = .returned (.bool (hasB l s)) ∧ w = w' := by
  obtain ⟨A, c, rfl⟩ := h.shape
  have Hx := Lib.hid h; clear h
  go_enter Tryz.func19, Tryz.ntmps19
  go_wp2_with fail
  go_loop [5] (fun i => ∃ k : Nat, k ≤ l.length ∧ i = .int .i64 k ∧ Hid (hasB (l.take k) s = false)) (fun i => l.length - (intOf i).toNat)
  case atStart => exact ⟨0, Nat.zero_le _, rfl, Lib.hid rfl⟩
  case round =>
    obtain ⟨k, hk, rfl, hno⟩ := hrel
    by_cases hlt : k < l.length
    · obtain ⟨g, o, c', e, _, hg⟩ := Hx.out.pos (by omega)
      cases e
      have p0 := StrsR.cell Hx.out k hlt
      have hsn := hasB_snoc (s := s) hlt
      have hmem : l.getD k [] = s → hasB l s = true := fun e => by
        rw [hasB_iff, ← e]; exact getD_mem l [] k hlt
      obtain ⟨x, hx⟩ : ∃ x, x = l.getD k ([] : Bs) := ⟨_, rfl⟩
      rw [← hx] at p0 hsn hmem
      unfold SV at p0
      by_cases e : x = s
      · have HN := Lib.hid (hmem e)
        cases e
        clear hsn hmem hx
        go_wp2_with fail
        go_ret
        exact ⟨ret_same HN.out, rfl⟩
      · have e2 : (x == s) = false := by simpa using e
        have HS : Hid (hasB (l.take (k + 1)) s = false) := Lib.hid (by rw [hsn, hno.out, e2]; rfl)
        clear hsn hmem hx e
        go_wp2_with fail
        go_round
        case rel => exact ⟨k + 1, hlt, by go_num, HS⟩
        case measure => simp [intOf]; omega
    · obtain rfl : k = l.length := by omega
      rw [List.take_length] at hno
      go_wp2_with fail
      go_ret
      exact ⟨ret_same hno.out, rfl⟩
def limW : Nat := 140737488355328
/-- Not too much. -/
def SmallH (l : List Hld) : Prop := l.length < 900 ∧ ∀ x ∈ l, x.id.length < 9000 ∧ x.data.length < 9000
def SmallT (l : List Bs) : Prop := l.length ≤ 200 ∧ ∀ x ∈ l, x.length < 9000
def GreatPost (P : Prop) (w : World) (e : Ending) (w' : World) : Prop := ∃ g, e = .returned (.bool g) ∧ Below w.heap.size w w' ∧ (g = false → P)
def hcost (x : Hld) : Nat := min x.id.length 9000 + min x.data.length 9000
def hcosts (l : List Hld) : Nat := (l.map hcost).sum
theorem hcosts_snoc {l : List Hld} {k : Nat} (h : k < l.length) : hcosts (l.take (k + 1)) = hcosts (l.take k) + hcost (l.getD k noHld) := by
  rw [take_getD l noHld k h]; simp [hcosts]
theorem hcost_le {l : List Hld} {x : Hld} (h : x ∈ l) : hcost x ≤ hcosts l := by
  unfold hcosts
  induction l with
  | nil => cases h
  | cons y r ih =>
    simp only [List.map_cons, List.sum_cons]
    rcases List.mem_cons.1 h with rfl | h
    · omega
    · have := ih h; omega
def tcost (x : Bs) : Nat := min x.length 9000
def tcosts (l : List Bs) : Nat := (l.map tcost).sum
theorem tcosts_snoc {l : List Bs} {k : Nat} (h : k < l.length) : tcosts (l.take (k + 1)) = tcosts (l.take k) + tcost (l.getD k []) := by
  rw [take_getD l [] k h]; simp [tcosts]
theorem tcost_le {l : List Bs} {x : Bs} (h : x ∈ l) : tcost x ≤ tcosts l := by
  unfold tcosts
  induction l with
  | nil => cases h
  | cons y r ih =>
    simp only [List.map_cons, List.sum_cons]
    rcases List.mem_cons.1 h with rfl | h
    · omega
    · have := ih h; omega
set_option maxHeartbeats 8000000 in
set_option maxRecDepth 100000 in
theorem Great_any {w : World} {v : Value} {l : List Hld} (h : HldsR w v l) (hl : l.length ≤ limW) : Calls Tryz.prog 11 #[v] w (GreatPost (SmallH l) w) := by
  obtain ⟨A, c, rfl⟩ := h.shape
  have Hx := Lib.hid h; clear h
  have hl' : l.length ≤ 140737488355328 := hl
  clear hl
  go_enter Tryz.func11, Tryz.ntmps11
  go_wp2_with fail
  go_loopw [3, 4] (fun n i wr => Below w.heap.size w wr ∧ ∃ k : Nat, k ≤ l.length ∧ i = .int .i64 k ∧ n = .int .i64 ((10 * l.length + hcosts (l.take k) : Nat) : Int) ∧ 10 * l.length + hcosts (l.take k) ≤ 10000000000000000) (fun _ i _ => l.length - (intOf i).toNat)
  case atStart => exact ⟨Below.refl _ _, 0, Nat.zero_le _, rfl, by simp [hcosts], by simp [hcosts]; omega⟩
  case round =>
    obtain ⟨hB, k, hk, rfl, rfl, hN⟩ := hrel
    by_cases hlt : k < l.length
    · by_cases hn : 10 * l.length + hcosts (l.take k) < 9000
      · obtain ⟨g, o, c', e, _, hg⟩ := Hx.out.pos (by omega)
        cases e
        obtain ⟨c0, c1, c2⟩ := HldsR.cells (Hx.out.below hB (Nat.le_refl _)) k hlt
        have hc := hcosts_snoc hlt
        obtain ⟨x, hx⟩ : ∃ x, x = l.getD k noHld := ⟨_, rfl⟩
        rw [← hx] at c0 c1 c2 hc
        obtain ⟨nm, m, di⟩ := x
        unfold SV at c0 c2
        simp only at c0 c1 c2
        unfold hcost at hc
        simp only at hc
        have hrel' : 10 * l.length + hcosts (l.take (k + 1)) ≤ 10000000000000000 := by rw [hc]; omega
        have m1 : (10 * (l.length : Int) + hcosts (l.take k) + min (nm.length : Int) 9000 + min (di.length : Int) 9000) = ((10 * l.length + hcosts (l.take (k + 1)) : Nat) : Int) := by
          rw [hc]
          omega
        have Hr := Lib.hid hrel'; have M1 := Lib.hid m1; have HB := Lib.hid hB; have Hc := Lib.hid hc
        clear hc hrel' m1 hB hx c1
        go_wp2_with fail
        go_quiet (fail)
        go_wp2_with fail
        go_roundw
        case rel => exact ⟨below_drewN' HB.out _, k + 1, hlt, by go_num, by rw [M1.out], Hr.out⟩
        case measure => simp [intOf]; omega
      · have hnI : ¬ (10 * (l.length : Int) + hcosts (l.take k) < 9000) := by omega
        have hgI : (9000 : Int) ≤ 10 * (l.length : Int) + hcosts (l.take k) := by omega
        have HB := Lib.hid hB; clear hB
        go_wp2_with fail
        go_ret
        exact ⟨true, by simp, HB.out, fun h => by cases h⟩
    · obtain rfl : k = l.length := by omega
      rw [List.take_length] at hN
      have HB := Lib.hid hB; clear hB
      rw [List.take_length]
      by_cases hn : 10 * l.length + hcosts l < 9000
      · have hnI : ¬ ((9000 : Int) ≤ 10 * (l.length : Int) + hcosts l) := by omega
        have hs : SmallH l := ⟨by omega, fun x hx => by
          have := hcost_le hx
          unfold hcost at this
          omega⟩
        have Hs := Lib.hid hs; clear hs
        go_wp2_with fail
        go_ret
        exact ⟨_, rfl, HB.out, fun _ => Hs.out⟩
      · have hnI : (9000 : Int) ≤ 10 * (l.length : Int) + hcosts l := by omega
        go_wp2_with fail
        go_ret
        exact ⟨true, by simp, HB.out, fun h => by cases h⟩
set_option maxHeartbeats 8000000 in
set_option maxRecDepth 100000 in
theorem GreatTexts_any {w : World} {v : Value} {l : List Bs} (h : StrsR w v l) (hl : l.length ≤ limW) : Calls Tryz.prog 12 #[v] w (GreatPost (SmallT l) w) := by
  obtain ⟨A, c, rfl⟩ := h.shape
  have Hx := Lib.hid h; clear h
  have hl' : l.length ≤ 140737488355328 := hl
  clear hl
  go_enter Tryz.func12, Tryz.ntmps12
  go_wp2_with fail
  go_loopw [3, 4] (fun n i wr => Below w.heap.size w wr ∧ ∃ k : Nat, k ≤ l.length ∧ i = .int .i64 k ∧ n = .int .i64 ((l.length + tcosts (l.take k) : Nat) : Int) ∧ l.length + tcosts (l.take k) ≤ 10000000000000000) (fun _ i _ => l.length - (intOf i).toNat)
  case atStart => exact ⟨Below.refl _ _, 0, Nat.zero_le _, rfl, by simp [tcosts], by simp [tcosts]; omega⟩
  case round =>
    obtain ⟨hB, k, hk, rfl, rfl, hN⟩ := hrel
    by_cases hlt : k < l.length
    · by_cases hn : l.length + tcosts (l.take k) < 9000
      · obtain ⟨g, o, c', e, _, hg⟩ := Hx.out.pos (by omega)
        cases e
        have c0 := StrsR.cell (Hx.out.below hB (Nat.le_refl _)) k hlt
        have hc := tcosts_snoc hlt
        obtain ⟨x, hx⟩ : ∃ x, x = l.getD k ([] : Bs) := ⟨_, rfl⟩
        rw [← hx] at c0 hc
        unfold SV at c0
        unfold tcost at hc
        have hrel' : l.length + tcosts (l.take (k + 1)) ≤ 10000000000000000 := by rw [hc]; omega
        have m1 : ((l.length : Int) + tcosts (l.take k) + min (x.length : Int) 9000) = ((l.length + tcosts (l.take (k + 1)) : Nat) : Int) := by
          rw [hc]
          omega
        have Hr := Lib.hid hrel'; have M1 := Lib.hid m1; have HB := Lib.hid hB; have Hc := Lib.hid hc
        clear hc hrel' m1 hB hx
        go_wp2_with fail
        go_roundw
        case rel => exact ⟨HB.out, k + 1, hlt, by go_num, by rw [M1.out], Hr.out⟩
        case measure => simp [intOf]; omega
      · have hnI : ¬ ((l.length : Int) + tcosts (l.take k) < 9000) := by omega
        have hgI : (9000 : Int) ≤ (l.length : Int) + tcosts (l.take k) := by omega
        have HB := Lib.hid hB; clear hB
        go_wp2_with fail
        go_ret
        exact ⟨true, by simp, HB.out, fun h => by cases h⟩
    · obtain rfl : k = l.length := by omega
      rw [List.take_length] at hN
      have HB := Lib.hid hB; clear hB
      rw [List.take_length]
      by_cases hn : l.length + tcosts l < 9000
      · have hnI : ¬ ((9000 : Int) ≤ (l.length : Int) + tcosts l) := by omega
        have hs : (l.length : Int) ≤ 200 → SmallT l := fun h3 => ⟨by omega, fun x hx => by
          have := tcost_le hx
          unfold tcost at this
          omega⟩
        have Hs := Lib.hid hs; clear hs
        by_cases h3 : (l.length : Int) ≤ 200
        · go_wp2_with fail
          go_ret
          exact ⟨_, rfl, HB.out, fun _ => Hs.out h3⟩
        · go_wp2_with fail
          go_ret
          exact ⟨true, by simp, HB.out, fun h => by cases h⟩
      · have hnI : (9000 : Int) ≤ (l.length : Int) + tcosts l := by omega
        go_wp2_with fail
        go_ret
        exact ⟨true, by simp, HB.out, fun h => by cases h⟩
def objC (o : Option Hld) : Value := match o with | some h => .agg #[.int .i64 h.kind, .string ⟨h.data.toArray⟩] | none => .agg #[.int .i64 0, .string ⟨#[]⟩]
/-- What Find answers. -/
def findV (l : List Hld) (x : Bs) : Value := .tuple #[objC (findL l x), .bool (thB l x)]
theorem findL_snoc {l : List Hld} {k : Nat} {x : Bs} (h : k < l.length) : findL (l.take (k + 1)) x = (findL (l.take k) x).or (if (l.getD k noHld).id = x then some (l.getD k noHld) else none) := by
  rw [take_getD l noHld k h, findL_append, findL_cons]; rfl
theorem findL_hit {l : List Hld} {k : Nat} {x : Bs} {h : Hld} (hf : findL (l.take k) x = some h) : findL l x = some h := by
  rw [← List.take_append_drop k l, findL_append, hf, Option.some_or]
set_option maxHeartbeats 4000000 in
set_option maxRecDepth 100000 in
theorem RFind_any {w : World} {v : Value} {l : List Hld} (h : HldsR w v l) (hl : l.length ≤ 1000000) (s : Bs) : Calls Tryz.prog 43 #[v, .string ⟨s.toArray⟩] w (RetBelow (findV l s) w) := by
  obtain ⟨A, c, rfl⟩ := h.shape
  have Hx := Lib.hid h; clear h
  go_enter Tryz.func43, Tryz.ntmps43
  go_wp2_with fail
  obtain ⟨w0, hw0⟩ : ∃ w0, w0 = w.alloc (.cells #[.int .i64 0, .string ⟨#[]⟩] 44) := ⟨_, rfl⟩
  have hb0 : Below w.heap.size w w0 := by rw [hw0]; exact below_new w _
  have hk0 : w0.heap[w.heap.size]? = some (.cells #[.int .i64 0, .string ⟨#[]⟩] 44 (0, 0)) := by rw [hw0]; exact heap_alloc_new w _
  rw [← hw0]
  have HX0 := Lib.hid (Hx.out.below hb0 (Nat.le_refl _)); have HB0 := Lib.hid hb0
  have z0 : w0.cell? ⟨w.heap.size, 0, none⟩ = some (.int .i64 0) := (cell_of_row w0 _ 0 _ _ _ hk0).trans rfl
  have z1 : w0.cell? ⟨w.heap.size, 1, none⟩ = some (.string ⟨#[]⟩) := (cell_of_row w0 _ 1 _ _ _ hk0).trans rfl
  have f0 := frozen_of (i := 0) hk0
  have f1 := frozen_of (i := 1) hk0
  clear hb0 hk0 hw0 Hx
  go_loop [6] (fun i => ∃ k : Nat, k ≤ l.length ∧ i = .int .i64 k ∧ Hid (findL (l.take k) s = none)) (fun i => l.length - (intOf i).toNat)
  case atStart => exact ⟨0, Nat.zero_le _, rfl, Lib.hid rfl⟩
  case round =>
    obtain ⟨k, hk, rfl, hno⟩ := hrel
    by_cases hlt : k < l.length
    · obtain ⟨g, o, c', e, _, hg⟩ := HX0.out.pos (by omega)
      cases e
      obtain ⟨p0, p1, p2⟩ := HldsR.cells HX0.out k hlt
      have hsn := findL_snoc (x := s) hlt
      rw [hno.out] at hsn
      obtain ⟨x, hx⟩ : ∃ x, x = l.getD k noHld := ⟨_, rfl⟩
      rw [← hx] at p0 p1 p2 hsn
      obtain ⟨xi, xk, xd⟩ := x
      unfold SV at p0 p2
      simp only at p0 p1 p2 hsn
      by_cases e : xi = s
      · have hf : findL l s = some ⟨xi, xk, xd⟩ := findL_hit (by rw [hsn, if_pos e]; rfl)
        have HV : Hid (findV l s = .tuple #[.agg #[.int .i64 xk, .string ⟨xd.toArray⟩], .bool true]) := Lib.hid (by unfold findV thB; rw [hf]; rfl)
        cases e
        clear hsn hx hf hno
        go_wp2_with fail
        rw [HV.out]
        exact bodyPost_ret (v := .tuple #[.agg #[.int .i64 xk, .string ⟨xd.toArray⟩], .bool true]) (by simp [results, Tryz.results43, go_sem, z0, z1]) rfl ⟨rfl, (HB0.out.setCell (p := ⟨w.heap.size, 0, none⟩) (Nat.le_refl _) _).setCell (p := ⟨w.heap.size, 1, none⟩) (Nat.le_refl _) _⟩
      · have e2 : (xi == s) = false := by simpa using e
        have HS : Hid (findL (l.take (k + 1)) s = none) := Lib.hid (by rw [hsn, if_neg e]; rfl)
        clear hsn hx e hno
        go_wp2_with fail
        go_round
        case rel => exact ⟨k + 1, hlt, by go_num, HS⟩
        case measure => simp [intOf]; omega
    · obtain rfl : k = l.length := by omega
      rw [List.take_length] at hno
      have HV : Hid (findV l s = .tuple #[.agg #[.int .i64 0, .string ⟨#[]⟩], .bool false]) := Lib.hid (by unfold findV thB; rw [hno.out]; rfl)
      clear hno
      go_wp2_with fail
      rw [HV.out]
      exact bodyPost_ret (v := .tuple #[.agg #[.int .i64 0, .string ⟨#[]⟩], .bool false]) (by simp [results, Tryz.results43, go_sem, z0, z1]) rfl ⟨rfl, (HB0.out.setCell (p := ⟨w.heap.size, 0, none⟩) (Nat.le_refl _) _).setCell (p := ⟨w.heap.size, 1, none⟩) (Nat.le_refl _) _⟩
end Go.Proofs.YtialgldmogigfaaGreatDoor


namespace Go.Proofs.YtialgldmogigfaaGreatDoor
open Go Go.RowKit Go.Maps
def objV (h : Hld) : Value := .agg #[.int .i64 h.kind, .string ⟨h.data.toArray⟩]
/-- The objects of all names, as a map holds them. -/
def ofF (l : List Hld) (x : Bs) : Option Value := (findL l x).map objV
theorem zeroObj (w : World) : (zeroValue 44).run Tryz.prog w = .ok (.agg #[.int .i64 0, .string ⟨#[]⟩]) w := by kernel_rfl
theorem ofF_have {l : List Hld} {k : Nat} (hk : k < l.length) (h : ofF (l.take k) (l.getD k noHld).id ≠ none) : ofF (l.take (k + 1)) = ofF (l.take k) := by
  funext x
  unfold ofF at h ⊢
  rw [findL_snoc hk]
  cases hf : findL (l.take k) x with
  | some u => rfl
  | none =>
    by_cases e : (l.getD k noHld).id = x
    · rw [e, hf] at h; exact absurd rfl h
    · rw [if_neg e]; rfl
theorem ofF_new {l : List Hld} {k : Nat} (hk : k < l.length) (h : ofF (l.take k) (l.getD k noHld).id = none) : ofF (l.take (k + 1)) = updF (ofF (l.take k)) (l.getD k noHld).id (objV (l.getD k noHld)) := by
  funext x
  unfold ofF at h ⊢
  unfold updF
  rw [findL_snoc hk]
  by_cases e : (l.getD k noHld).id = x
  · rw [if_pos e, if_pos e.symm]
    have hn : findL (l.take k) x = none := by rw [← e]; exact Option.map_eq_none_iff.1 h
    rw [hn]; rfl
  · rw [if_neg e, if_neg (fun e' => e e'.symm), Option.or_none]
set_option maxHeartbeats 4000000 in
set_option maxRecDepth 100000 in
theorem objects_any {w : World} {v : Value} {l : List Hld} (h : HldsR w v l) (hl : l.length ≤ 1000000) (hs : ∀ x ∈ l, x.id.length ≤ 1000000) :
    Calls Tryz.prog 31 #[v] w fun e w' => e = .returned (.map (some w.heap.size)) ∧ MapS w' w.heap.size l.length (ofF l) ∧ Below w.heap.size w w' := by
  obtain ⟨A, c, rfl⟩ := h.shape
  have Hx := Lib.hid h; have Hs := Lib.hid hs; clear h hs
  go_enter Tryz.func31, Tryz.ntmps31
  have hmm := @run_makeMap Tryz.prog
  go_wp2_with fail
  clear hmm
  go_loopw [11] (fun i wr => Hid (Below w.heap.size w wr) ∧ ∃ k : Nat, k ≤ l.length ∧ i = .int .i64 k ∧ Hid (MapS wr w.heap.size k (ofF (l.take k)))) (fun i _ => l.length - (intOf i).toNat)
  case atStart => exact ⟨Lib.hid ((Below.refl _ _).alloc (Nat.le_refl _) _), 0, Nat.zero_le _, rfl, Lib.hid (MapS.made w)⟩
  case round =>
    obtain ⟨hB, k, hk, rfl, hM⟩ := hrel
    by_cases hlt : k < l.length
    · obtain ⟨g, o, c', e, _, hg⟩ := Hx.out.pos (by omega)
      cases e
      obtain ⟨p0, p1, p2⟩ := HldsR.cells (Hx.out.below hB.out (Nat.le_refl _)) k hlt
      have hlen := Hs.out _ (getD_mem l noHld k hlt)
      obtain ⟨x, hx⟩ : ∃ x, x = l.getD k noHld := ⟨_, rfl⟩
      rw [← hx] at p0 p1 p2 hlen
      obtain ⟨xi, xk, xd⟩ := x
      unfold SV at p0 p2
      simp only at p0 p1 p2 hlen
      obtain ⟨w1, hw1⟩ : ∃ w1, w1 = wr.alloc (.cells #[.string ⟨xi.toArray⟩, .int .i64 xk, .string ⟨xd.toArray⟩] 54) := ⟨_, rfl⟩
      have hb1 : Below wr.heap.size wr w1 := by rw [hw1]; exact below_new wr _
      have hk1 : w1.heap[wr.heap.size]? = some (.cells #[.string ⟨xi.toArray⟩, .int .i64 xk, .string ⟨xd.toArray⟩] 54 (0, 0)) := by rw [hw1]; exact heap_alloc_new wr _
      have hM1 := hM.out.below hb1 hM.out.lt
      have hBM : w.heap.size < wr.heap.size := hM.out.lt
      have hlook := hM1.look_ok Tryz.underlying63 (zeroObj w1) (x := xi) (by unfold maxLen; omega)
      have q0 : w1.cell? ⟨wr.heap.size, 0, none⟩ = some (.string ⟨xi.toArray⟩) := (cell_of_row w1 _ 0 _ _ _ hk1).trans rfl
      have HW1 := Lib.hid hw1; have HM1 := Lib.hid hM1; have HB1 := Lib.hid (hB.out.trans (hb1.mono hB.out.size)); have HK1 := Lib.hid hk1; have HB2 := Lib.hid hb1
      have HL := Lib.hid hlook
      have Hl := Lib.hid hlen; have HBM := Lib.hid hBM
      have hz1 : wr.heap.size < w1.heap.size := by rw [hw1]; simp
      have HZ := Lib.hid hz1
      clear hw1 hb1 hk1 hM1 hlook hlen hB hM hBM hz1 q0
      go_upto_region 5 with fail
      rw [← HW1.out]
      clear p0 p1 p2
      have q0 : w1.cell? ⟨wr.heap.size, 0, none⟩ = some (.string ⟨xi.toArray⟩) := (cell_of_row w1 _ 0 _ _ _ HK1.out).trans rfl
      cases hf : ofF (l.take k) xi with
      | some u =>
        have HS := Lib.hid (ofF_have hlt (by rw [← hx, hf]; simp))
        obtain ⟨z, hz, rfl⟩ := Option.map_eq_some_iff.1 (show (findL (l.take k) xi).map objV = some u from hf)
        have hl2 := HL.out
        rw [hf] at hl2
        simp only [Option.getD_some, Option.isSome_some, objV] at hl2
        clear hf hx hz
        go_wp2_with fail
        go_roundw
        case rel => exact ⟨Lib.hid (HB1.out.alloc HB1.out.size _), k + 1, hlt, by go_num, Lib.hid (by rw [HS.out]; obtain ⟨D, hD, r⟩ := HM1.out; exact ⟨D, (hD.alloc _).mono (Nat.le_succ _), r⟩)⟩
        case measure => simp [intOf]; omega
      | none =>
        have HS := Lib.hid (ofF_new hlt (by rw [← hx]; exact hf))
        rw [← hx] at HS
        have hl2 := HL.out
        rw [hf] at hl2
        simp only [Option.getD_none, Option.isSome_none] at hl2
        have HM2 := Lib.hid (HM1.out.below (below_new w1 (.cells #[.int .i64 0, .string ⟨#[]⟩] 44)) HM1.out.lt)
        obtain ⟨w2, hw2⟩ : ∃ w2, w2 = w1.alloc (.cells #[.int .i64 0, .string ⟨#[]⟩] 44) := ⟨_, rfl⟩
        have HW2 := Lib.hid hw2
        have hb2 : Below w1.heap.size w1 w2 := by rw [hw2]; exact below_new w1 _
        have HB3 := Lib.hid (HB1.out.trans (hb2.mono HB1.out.size))
        rw [← hw2] at HM2
        have r0 : w2.cell? ⟨wr.heap.size, 0, none⟩ = some (.string ⟨xi.toArray⟩) := (hb2.cell (p := ⟨wr.heap.size, 0, none⟩) HZ.out).trans q0
        have r1 : w2.cell? ⟨wr.heap.size, 1, none⟩ = some (.int .i64 xk) := (hb2.cell (p := ⟨wr.heap.size, 1, none⟩) HZ.out).trans ((cell_of_row w1 _ 1 _ _ _ HK1.out).trans rfl)
        have r2 : w2.cell? ⟨wr.heap.size, 2, none⟩ = some (.string ⟨xd.toArray⟩) := (hb2.cell (p := ⟨wr.heap.size, 2, none⟩) HZ.out).trans ((cell_of_row w1 _ 2 _ _ _ HK1.out).trans rfl)
        have R := Lib.hid (And.intro r0 (And.intro r1 r2))
        clear hf hx hw2 hb2 r0 r1 r2
        go_upto_region 6 with fail
        rw [← HW2.out]
        obtain ⟨r0, r1, r2⟩ := R.out
        clear hl2 q0
        go_wp2_with (at_mapUpdate; refine wpList_putS rfl _ _ _ 63 44 rfl Tryz.underlying63 w.heap.size k _ xi (.agg #[.int .i64 xk, .string ⟨xd.toArray⟩]) rfl rfl rfl HM2.out (by unfold maxLen; omega) (by have := Hl.out; unfold maxLen; omega) ?_)
        intro w3 hM3 hg3
        have HM3 := Lib.hid hM3
        have HG3 := Lib.hid (HB3.out.grown hg3 HB3.out.size (fun j e => by cases e; exact Nat.le_refl _))
        clear hM3 hg3 r0 r1 r2
        go_wp2_with fail
        go_roundw
        case rel => exact ⟨HG3, k + 1, hlt, by go_num, Lib.hid (by rw [HS.out]; exact HM3.out)⟩
        case measure => simp [intOf]; omega
    · obtain rfl : k = l.length := by omega
      rw [List.take_length] at hM
      go_wp2_with fail
      go_ret
      exact ⟨rfl, hM.out, hB.out⟩
end Go.Proofs.YtialgldmogigfaaGreatDoor


namespace Go.Proofs.YtialgldmogigfaaGreatDoor
open Go Go.RowKit Go.Maps
theorem zeroInt (w : World) : (zeroValue 3).run Tryz.prog w = .ok (.int .i64 0) w := by kernel_rfl
theorem infoW : (Tryz.prog.info? 9).map (fun i => (i.zero, i.size, i.bytes)) = some (some (.string ⟨#[]⟩), 1, 16) := by kernel_rfl
/-- How often each was met, as a map holds it. -/
def timesF (c : Bs → Nat) (x : Bs) : Option Value := if c x = 0 then none else some (.int .i64 (c x))
theorem timesF_get (c : Bs → Nat) (x : Bs) : (timesF c x).getD (.int .i64 0) = .int .i64 (c x) := by
  unfold timesF
  by_cases h : c x = 0
  · rw [if_pos h, h]; rfl
  · rw [if_neg h]; rfl
def incC (c : Bs → Nat) (x : Bs) : Bs → Nat := fun y => if y = x then c x + 1 else c y
theorem timesF_inc (c : Bs → Nat) (x : Bs) : updF (timesF c) x (.int .i64 ((c x : Int) + 1)) = timesF (incC c x) := by
  funext y
  unfold updF timesF incC
  by_cases e : y = x
  · rw [if_pos e, if_pos e, if_neg (by omega)]; rfl
  · rw [if_neg e, if_neg e]
def addR (row : List Bs) (x : Bs) : List Bs := if x ∈ row then row else row ++ [x]
/-- The row, in a variable's box; how often each was met, in another. -/
structure MSt (B rb xb mb : Nat) (row : List Bs) (c : Bs → Nat) (n : Nat) (v : Value) (w : World) : Prop where
  rbx : Boxed w rb 23 v
  own : OwK 9 1 strC w B v row
  xbx : Boxed w xb 69 (.map (some mb))
  mp : MapS w mb n (timesF c)
  seen : ∀ x, c x = 0 ↔ x ∉ row
  le : ∀ x, c x ≤ n
  hB : B ≤ rb ∧ B ≤ xb ∧ B ≤ mb ∧ B ≤ w.heap.size
  ne : rb ≠ mb ∧ xb ≠ mb ∧ rb ≠ xb
/-- The blocks that it lies in. -/
def Mine (rb xb mb : Nat) (v : Value) (k : Nat) : Prop := k = rb ∨ k = xb ∨ k = mb ∨ v.ownBlock = some k
theorem MSt.low {B rb xb mb : Nat} {row : List Bs} {c : Bs → Nat} {n : Nat} {v : Value} {w : World} (h : MSt B rb xb mb row c n v w) {k : Nat} (hk : Mine rb xb mb v k) : B ≤ k ∧ k < w.heap.size := by
  rcases hk with rfl | rfl | rfl | hk
  · exact ⟨h.hB.1, h.rbx.lt⟩
  · exact ⟨h.hB.2.1, h.xbx.lt⟩
  · exact ⟨h.hB.2.2.1, h.mp.lt⟩
  · obtain ⟨h1, h2, _⟩ := own_block h.own hk; exact ⟨h1, h2⟩
theorem MSt.but {B rb xb mb : Nat} {row : List Bs} {c : Bs → Nat} {n : Nat} {v : Value} {w w' : World} {S : Nat → Prop} (h : MSt B rb xb mb row c n v w) (hb : But S w w') (hn : ∀ k, Mine rb xb mb v k → ¬ S k) : MSt B rb xb mb row c n v w' :=
  ⟨boxed_but h.rbx hb (hn _ (.inl rfl)), h.own.but hb (fun _ hg => hn _ (.inr (.inr (.inr hg)))), boxed_but h.xbx hb (hn _ (.inr (.inl rfl))), h.mp.but hb (hn _ (.inr (.inr (.inl rfl)))), h.seen, h.le, ⟨h.hB.1, h.hB.2.1, h.hB.2.2.1, Nat.le_trans h.hB.2.2.2 hb.size⟩, h.ne⟩
theorem row_ne_map {w : World} {B n k mb m : Nat} {t : TypeId} {v : Value} {xs : List Value} {f : Bs → Option Value} (h : w.ownsRow B t k v n xs) (hm : MapS w mb m f) : v.ownBlock ≠ some mb := fun e => by
  obtain ⟨_, _, cur, h1⟩ := own_block h e
  obtain ⟨D, ⟨es, cl, h2, _⟩, _⟩ := hm
  rw [h1] at h2; cases h2
theorem row_ne_box {w : World} {B n k b : Nat} {t t' : TypeId} {v u : Value} {xs : List Value} (h : w.ownsRow B t k v n xs) (hb : Boxed w b t' u) (hne : t' ≠ t) : v.ownBlock ≠ some b := fun e => by
  obtain ⟨_, _, cur, h1⟩ := own_block h e
  rw [show w.heap[b]? = _ from hb] at h1
  simp at h1
  exact hne h1.2
def MeetPost (B rb xb mb : Nat) (row : List Bs) (c : Bs → Nat) (n : Nat) (v : Value) (x : Bs) (w : World) (e : Ending) (w' : World) : Prop :=
  e = .returned (.tuple #[]) ∧ ∃ v', MSt B rb xb mb (addR row x) (incC c x) (n + 1) v' w' ∧ But (Mine rb xb mb v) w w' ∧ (∀ g, v'.ownBlock = some g → v.ownBlock = some g ∨ w.heap.size ≤ g)
set_option maxHeartbeats 4000000 in
set_option maxRecDepth 100000 in
theorem meet_any {B rb xb mb : Nat} {row : List Bs} {c : Bs → Nat} {n : Nat} {v : Value} {w : World} (h : MSt B rb xb mb row c n v w) (x : Bs) (hx : x.length ≤ 1000000) (hr : row.length ≤ 1000000000) (hn : n ≤ 1000000000000) :
    Calls Tryz.prog 47 #[.string ⟨x.toArray⟩, .pointer (some ⟨xb, 0, none⟩), .pointer (some ⟨rb, 0, none⟩)] w (MeetPost B rb xb mb row c n v x w) := by
  have c0 := h.xbx.cell
  have hlook := h.mp.look Tryz.underlying69 (zeroInt w) (x := x) (by unfold maxLen; omega)
  rw [timesF_get] at hlook
  have hle := h.le x
  obtain ⟨k, hk⟩ : ∃ k, k = c x := ⟨_, rfl⟩
  rw [← hk] at hlook hle
  have H := Lib.hid h; have HK := Lib.hid hk
  clear h hk
  go_enter Tryz.func47, Tryz.ntmps47
  go_wp2_with (at_mapUpdate; refine wpList_putS rfl _ _ _ 69 3 rfl Tryz.underlying69 mb n _ x (.int .i64 ((k : Int) + 1)) rfl rfl rfl H.out.mp (by unfold maxLen; omega) (by unfold maxLen; omega) ?_)
  intro w1 hM1 hg1
  rw [HK.out, timesF_inc] at hM1
  have hb1 := But.of_grown hg1
  have r1 := boxed_but H.out.rbx hb1 (fun e => H.out.ne.1 (Option.some.inj e).symm)
  have o1 := H.out.own.but hb1 (fun _ hg e => row_ne_map H.out.own H.out.mp (by rw [hg, e]))
  have x1 := boxed_but H.out.xbx hb1 (fun e => H.out.ne.2.1 (Option.some.inj e).symm)
  have hlook1 := hM1.look Tryz.underlying69 (zeroInt w1) (x := x) (by unfold maxLen; omega)
  rw [timesF_get] at hlook1
  have hi : incC c x x = k + 1 := by unfold incC; rw [if_pos rfl, HK.out]
  rw [hi] at hlook1
  have c1 := x1.cell
  have M1 := Lib.hid hM1; have HB1 := Lib.hid hb1; have R1 := Lib.hid r1; have O1 := Lib.hid o1; have X1 := Lib.hid x1
  have hle2 : ∀ y, incC c x y ≤ n + 1 := fun y => by
    unfold incC
    by_cases e : y = x
    · rw [if_pos e, ← HK.out]; omega
    · rw [if_neg e]; have := H.out.le y; omega
  have HLe := Lib.hid hle2
  have hsz1 := hb1.size
  have HZ := Lib.hid hsz1
  have hmem := H.out.seen x
  rw [← HK.out] at hmem
  have HMem := Lib.hid hmem
  clear hM1 hg1 hb1 r1 o1 x1 hi hle2 hsz1 hmem c0 hlook
  by_cases h0 : k = 0
  · -- met for the first time
    have hno : x ∉ row := HMem.out.1 h0
    have HA : Hid (addR row x = row ++ [x]) := Lib.hid (if_neg hno)
    have hseen2 : ∀ y, incC c x y = 0 ↔ y ∉ row ++ [x] := fun y => by
      unfold incC
      by_cases e : y = x
      · rw [if_pos e, e]; simp
      · rw [if_neg e, H.out.seen y]; simp [e]
    have HSe := Lib.hid hseen2
    subst h0
    have d0 := R1.out.cell
    have f0 := R1.out.frozen
    obtain ⟨A, cp, rfl⟩ := own_slice O1.out
    obtain ⟨i0, hi0, hz0, hz1, hz2⟩ := info_parts infoW
    have hbz : B ≤ w1.heap.size := Nat.le_trans H.out.hB.2.2.2 HZ.out
    clear hno hseen2
    go_wp2_with (at_builtin; refine wpList_append_lies _ rfl _ _ 23 rfl B 9 i0 _ 1 16 Tryz.underlying23 hi0 hz0 hz1 hz2 rfl (by decide) _ row.length _ rfl (World.ownsRow.alloc O1.out _) ⟨w1.heap.size, 0, none⟩ 1 1 [.string ⟨x.toArray⟩] rfl rfl (cell_one_new _ _ _) (by simp [Value.oneCell']) (by omega) (by unfold maxLen; omega) (by omega) (by simp; omega) _ rfl ?_)
    intro g cap w2 hown hgrow hat hlt
    have hown' : OwK 9 1 strC w2 B (.slice (some ⟨g, 0, none⟩) (row.length + 1) cap) (row ++ [x]) := by
      unfold OwK; rw [List.length_append, List.flatMap_append]; exact hown
    have hb2 := (But.of_new (S := fun k => (Value.slice A row.length cp).ownBlock = some k) (below_new w1 (.cells #[.string ⟨x.toArray⟩] 9))).trans (But.of_grown hgrow)
    have r2 := boxed_but R1.out hb2 (fun e => row_ne_box O1.out R1.out (by decide) e)
    have x2 := boxed_but X1.out hb2 (fun e => row_ne_box O1.out X1.out (by decide) e)
    have m2 := M1.out.but hb2 (fun e => row_ne_map O1.out M1.out e)
    have hgr : g ≠ rb := fun e => row_ne_box hown' r2 (by decide) (by rw [e]; rfl)
    have d2 := r2.cell
    have f2 := r2.frozen
    have HOw := Lib.hid hown'; have HB2 := Lib.hid hb2; have R2 := Lib.hid r2; have X2 := Lib.hid x2; have M2 := Lib.hid m2; have HGr := Lib.hid hgr; have HAt := Lib.hid hat; have HLt := Lib.hid hlt
    clear hown hown' hgrow hb2 r2 x2 m2 hgr hat hlt d0 f0 c1 hlook1
    go_wp2_with fail
    go_end0
    have hb3 : But (fun k => k = rb) w2 (w2.setCell ⟨rb, 0, none⟩ (.slice (some ⟨g, 0, none⟩) (row.length + 1) cap)) := (But.refl (fun k => k = rb) w2).setCell (p := ⟨rb, 0, none⟩) rfl _
    refine ⟨rfl, .slice (some ⟨g, 0, none⟩) (row.length + 1) cap, ?_, ?_, ?_⟩
    · rw [HA.out]
      exact ⟨R2.out.set _, HOw.out.but hb3 (fun _ hg e => HGr.out (by cases hg; exact e)), boxed_but X2.out hb3 (fun e => H.out.ne.2.2 e.symm), M2.out.but hb3 (fun e => H.out.ne.1 e.symm), HSe.out, HLe.out, ⟨H.out.hB.1, H.out.hB.2.1, H.out.hB.2.2.1, Nat.le_trans H.out.hB.2.2.2 (Nat.le_trans HZ.out (Nat.le_trans HB2.out.size hb3.size))⟩, H.out.ne⟩
    · exact ((HB1.out.mono (fun k _ e => .inr (.inr (.inl (Option.some.inj e).symm)))).trans (HB2.out.mono (fun k _ e => .inr (.inr (.inr e))))).trans (hb3.mono (fun k _ e => .inl e))
    · intro g' hg'
      cases hg'
      rcases HAt.out with e | e
      · exact .inl e
      · refine .inr ?_
        have h1 := HZ.out
        show w.heap.size ≤ g
        omega
  · -- met before
    have hin : x ∈ row := Classical.byContradiction fun hn => h0 (HMem.out.2 hn)
    have HA : Hid (addR row x = row) := Lib.hid (if_pos hin)
    have hseen2 : ∀ y, incC c x y = 0 ↔ y ∉ row := fun y => by
      unfold incC
      by_cases e : y = x
      · rw [if_pos e, e]; simp [hin]
      · rw [if_neg e]; exact H.out.seen y
    have HSe := Lib.hid hseen2
    have h1 : ¬ (k : Int) + 1 = 1 := by omega
    have h2 : ((k : Int) + 1 == 1) = false := by simpa using h1
    clear hin hseen2 h0
    go_wp2_with fail
    go_end0
    refine ⟨rfl, v, ?_, HB1.out.mono (fun k _ e => .inr (.inr (.inl (Option.some.inj e).symm))), fun g hg => .inl hg⟩
    rw [HA.out]
    exact ⟨R1.out, O1.out, X1.out, M1.out, HSe.out, HLe.out, ⟨H.out.hB.1, H.out.hB.2.1, H.out.hB.2.2.1, Nat.le_trans H.out.hB.2.2.2 HZ.out⟩, H.out.ne⟩
end Go.Proofs.YtialgldmogigfaaGreatDoor


namespace Go.Proofs.YtialgldmogigfaaGreatDoor
open Go Go.RowKit
/-- How long what comes in may be. -/
def lim : Nat := 140737488355328
end Go.Proofs.YtialgldmogigfaaGreatDoor


namespace Go.Proofs.YtialgldmogigfaaGreatDoor
open Go Go.RowKit Go.Shelf
section
variable {P : Program} {a : Go.Act} {o : Oper} {W : World}
theorem y_build {t : TypeId} {n : Nat} {parts : Array (Nat × Operand)} {ps : Array (Nat × Value)} {r : Value} {W' : World} (ho : o.op = .buildSlice t n parts) (hp : (parts.map fun (i, x) => (i, a.eval x)) = ps) (h : (Instr.buildSlice t n ps).run P W = .ok r W') : (execOp a.eval o).run P W = .ok (.value r) W' := by
  subst hp
  simp only [execOp, ho]
  simp [h, Result.andThen]
end
theorem build1 (W : World) (xm : Int) (xn xi : List UInt8) : (Instr.buildSlice 50 1 #[(0, .agg #[.int .i64 xm, .string ⟨xn.toArray⟩, .string ⟨xi.toArray⟩])]).run Tryz.prog W = .ok (.slice (some ⟨W.heap.size, 0, none⟩) 1 1) (W.alloc (.cells #[.int .i64 xm, .string ⟨xn.toArray⟩, .string ⟨xi.toArray⟩] 49)) := by
  simp [go_sem]
theorem at_one (W : World) (g o n c k : Nat) (hk : k < n) : (Instr.indexAt 50 (.slice (some ⟨g, o, none⟩) n c) (.int .i64 (k : Int))).run Tryz.prog W = .ok (.pointer (some ⟨g, o + k * 3, none⟩)) W := by
  have h1 : (k : Int) < (n : Int) := by omega
  simp [go_sem, h1]
end Go.Proofs.YtialgldmogigfaaGreatDoor
