/-
  SameItems, SameTexts, SameWants: alike?
-/
import Derived.Test.YtdjmcehoaneekaaDoorBase
import Derived.Deep.QuietTactic
import Derived.BigQuiet
import Derived.IntWalk
import Derived.Laws.StructEq
namespace Go.Proofs.YtdjmcehoaneekaaDoor
open Go Go.RowKit
theorem below_drewN' {b : Nat} {w w1 : World} (h : Below b w w1) (n : Nat) : Below b w (w1.drewN n) := ⟨h.os, h.tape, h.output, h.size, h.block⟩
def SamePost (b : Bool) (w : World) (e : Ending) (w' : World) : Prop := e = .returned (.bool b) ∧ Below w.heap.size w w'
theorem take_same' {α : Type} {l m : List α} {d : α} {k : Nat} (h : l.take k = m.take k) (h1 : k < l.length) (h2 : k < m.length) (e : l.getD k d = m.getD k d) : l.take (k + 1) = m.take (k + 1) := by
  rw [take_getD l d k h1, take_getD m d k h2, h, e]
theorem ret_same {a b : Bool} (h : a = b) : Ending.returned (.bool b) = .returned (.bool a) := by rw [h]
set_option maxHeartbeats 8000000 in
set_option maxRecDepth 100000 in
theorem SameTexts_any {w : World} {va vb : Value} {l m : List (List UInt8)} (ha : StrsR w va l) (hb : StrsR w vb m) (hl : l.length ≤ 1000000) : Calls Tryd.prog 17 #[va, vb] w (SamePost (decide (l = m)) w) := by
  obtain ⟨A, c, rfl⟩ := ha.shape
  obtain ⟨B, cb, rfl⟩ := hb.shape
  have Ha := Lib.hid ha; have Hb := Lib.hid hb
  clear ha hb
  by_cases hlen : l.length = m.length
  · have Hlen := Lib.hid hlen
    rw [← hlen]
    clear hlen
    go_enter Tryd.func17, Tryd.ntmps17
    go_wp2_with fail
    go_loopw [5] (fun i wr => Below w.heap.size w wr ∧ ∃ k : Nat, k ≤ l.length ∧ i = .int .i64 k ∧ Hid (l.take k = m.take k)) (fun i _ => l.length - (intOf i).toNat)
    case atStart => exact ⟨Below.refl _ _, 0, Nat.zero_le _, rfl, Lib.hid rfl⟩
    case round =>
      obtain ⟨hB, k, hk, rfl, heq⟩ := hrel
      by_cases hlt : k < l.length
      · have hlm : k < m.length := by have := Hlen.out; omega
        obtain ⟨g, o, c', e, _, hg⟩ := Ha.out.pos (by omega)
        cases e
        obtain ⟨g', o', c'', e, _, hg'⟩ := Hb.out.pos (by omega)
        rw [← Hlen.out] at e
        cases e
        have p0 := StrsR.cell (Ha.out.below hB (Nat.le_refl _)) k hlt
        have q0 := StrsR.cell (Hb.out.below hB (Nat.le_refl _)) k hlm
        have hst := @take_same' _ l m ([] : List UInt8) k heq.out hlt hlm
        have hne : l.getD k ([] : List UInt8) ≠ m.getD k ([] : List UInt8) → decide (l = m) = false := fun hn => decide_eq_false fun e => hn (by rw [e])
        obtain ⟨x, hx⟩ : ∃ x, x = l.getD k ([] : List UInt8) := ⟨_, rfl⟩
        obtain ⟨y, hy⟩ : ∃ y, y = m.getD k ([] : List UInt8) := ⟨_, rfl⟩
        rw [← hx] at p0 hst hne
        rw [← hy] at q0 hst hne
        have HB := Lib.hid hB; have HSt := Lib.hid hst
        clear hB hst hlm hx hy heq
        unfold SV at p0 q0
        by_cases e : x = y
        · have HSt2 := Lib.hid (HSt.out e)
          clear HSt
          cases e
          clear hne
          go_wp2_with fail
          go_quiet (fail)
          go_wp2_with fail
          go_roundw
          case rel => exact ⟨below_drewN' HB.out _, k + 1, hlt, by go_num, HSt2⟩
          case measure => simp [intOf]; omega
        · have HN := Lib.hid (hne e)
          have e2 : (x == y) = false := by simpa using e
          have e3 : (x != y) = true := by simpa using e
          clear hne e
          go_wp2_with fail
          go_quiet (fail)
          go_wp2_with fail
          go_ret
          exact ⟨ret_same HN.out, below_drewN' HB.out _⟩
      · obtain rfl : k = l.length := by omega
        have HD : Hid (decide (l = m) = true) := Lib.hid (decide_eq_true (by
          have h := heq.out
          rw [List.take_length] at h
          rw [h, List.take_of_length_le (by have := Hlen.out; omega)]))
        have HB := Lib.hid hB; clear hB heq
        go_wp2_with fail
        go_ret
        exact ⟨ret_same HD.out, HB.out⟩
  · have hlI : ¬ (l.length : Int) = (m.length : Int) := by omega
    have HD : Hid (decide (l = m) = false) := Lib.hid (decide_eq_false fun e => hlen (by rw [e]))
    clear Ha Hb
    go_enter Tryd.func17, Tryd.ntmps17
    go_wp2_with fail
    go_ret
    exact ⟨ret_same HD.out, Below.refl _ _⟩
end Go.Proofs.YtdjmcehoaneekaaDoor
