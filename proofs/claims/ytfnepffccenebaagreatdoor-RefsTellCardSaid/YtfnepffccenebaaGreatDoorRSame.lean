/-
  The document's Same: are two lists of refs alike? And Has: is a text one of some?
-/
import Derived.Test.YtfnepffccenebaaGreatDoorRMem
import Derived.Test.YtfnepffccenebaaGreatDoorSameO
import Derived.Deep.QuietTactic
import Derived.BigQuiet
namespace Go.Proofs.YtfnepffccenebaaGreatDoor.Rf
open Go.Proofs.YtfnepffccenebaaGreatDoor
open Go Go.RowKit

instance : DecidableEq Ref := fun a b => decidable_of_iff (a.name = b.name ∧ a.id = b.id) ⟨fun h => Ref.ext' h.1 h.2, fun h => by rw [h]; exact ⟨rfl, rfl⟩⟩
theorem bdrS {B : Nat} {w w' : World} (h : Below B w w') (n : Nat) : Below B w (w'.drewN n) := ⟨h.os, h.tape, h.output, h.size, h.block⟩
theorem take_same {l m : List Ref} {k : Nat} {x y : Ref} (h : l.take k = m.take k) (hx : l[k]? = some x) (hy : m[k]? = some y) : x = y → l.take (k + 1) = m.take (k + 1) := fun e => by
  rw [List.take_add_one, List.take_add_one, hx, hy, h, e]
set_option maxHeartbeats 8000000 in
set_option maxRecDepth 100000 in
theorem Same_p {w : World} {va vb : Value} {l m : List Ref} (ha : RefsR w va l) (hb : RefsR w vb m) (hl : l.length ≤ 1000000) : Calls Tryz.prog 24 #[va, vb] w (BoolB (decide (l = m)) w) := by
  obtain ⟨A, c, rfl⟩ := ha.shape
  obtain ⟨B, cb, rfl⟩ := hb.shape
  have Ha := Lib.hid ha; have Hb := Lib.hid hb
  clear ha hb
  by_cases hlen : l.length = m.length
  case neg =>
    have HD : Hid (decide (l = m) = false) := Lib.hid (decide_eq_false fun e => hlen (by rw [e]))
    have hne : ((l.length : Int) != (m.length : Int)) = true := by simp; omega
    clear hlen
    go_enter Tryz.func24, Tryz.ntmps24
    go_wp2_with fail
    go_ret
    exact ⟨ret_bool HD.out.symm, Below.refl _ _⟩
  have Hlen := Lib.hid hlen
  rw [← hlen]
  clear hlen
  go_enter Tryz.func24, Tryz.ntmps24
  go_wp2_with fail
  go_loopw [5] (fun i wr => Below w.heap.size w wr ∧ ∃ k : Nat, k ≤ l.length ∧ i = .int .i64 k ∧ Hid (l.take k = m.take k)) (fun i _ => l.length - (intOf i).toNat)
  case atStart => exact ⟨Below.refl _ _, 0, Nat.zero_le _, rfl, Lib.hid rfl⟩
  case round =>
    obtain ⟨hB, k, hk, rfl, heq⟩ := hrel
    by_cases hlt : k < l.length
    · have hlm : k < m.length := by have := Hlen.out; omega
      obtain ⟨g, o, c', e, _, hg⟩ := Ha.out.pos (by omega)
      cases e
      obtain ⟨g', o', c'', e, _, hg'⟩ := Hb.out.pos (by omega)
      rw [← Hlen.out] at e
      cases e
      obtain ⟨x, hx⟩ : ∃ x, l[k]? = some x := ⟨_, List.getElem?_eq_getElem hlt⟩
      obtain ⟨y, hy⟩ : ∃ y, m[k]? = some y := ⟨_, List.getElem?_eq_getElem hlm⟩
      obtain ⟨p0, p1⟩ := RefsR.cells (RdK.below Ha.out hB (Nat.le_refl _)) hx
      obtain ⟨q0, q1⟩ := RefsR.cells (RdK.below Hb.out hB (Nat.le_refl _)) hy
      have hst := take_same heq.out hx hy
      have hne : x ≠ y → decide (l = m) = false := fun hn => decide_eq_false fun e => hn (by rw [e, hy] at hx; cases hx; rfl)
      have HB := Lib.hid hB; have HSt := Lib.hid hst
      clear hB hst hlm hx hy heq
      obtain ⟨x0, x1⟩ := x
      obtain ⟨y0, y1⟩ := y
      unfold SV at p0 p1 q0 q1
      simp only at p0 p1 q0 q1
      by_cases e : (⟨x0, x1⟩ : Ref) = ⟨y0, y1⟩
      · have HSt2 := Lib.hid (HSt.out e)
        clear HSt
        cases e
        clear hne
        go_wp2_with fail
        go_quiet (fail)
        go_wp2_with fail
        go_roundw
        case rel => exact ⟨bdrS HB.out _, k + 1, hlt, by go_num, HSt2⟩
        case measure => simp [intOf]; omega
      · have HD := Lib.hid (hne e)
        clear hne HSt
        have e2 : ¬ (x0 = y0 ∧ x1 = y1) := fun h => e (by rw [h.1, h.2])
        clear e
        by_cases e3 : x0 = y0
        · have e4 : ¬ x1 = y1 := fun h => e2 ⟨e3, h⟩
          subst e3
          clear e2
          go_wp2_with fail
          go_quiet (fail)
          go_wp2_with fail
          go_ret
          exact ⟨ret_bool HD.out.symm, bdrS HB.out _⟩
        · clear e2
          go_wp2_with fail
          go_quiet (fail)
          go_wp2_with fail
          go_ret
          exact ⟨ret_bool HD.out.symm, bdrS HB.out _⟩
    · have hkl : k = l.length := by omega
      have HD : Hid (decide (l = m) = true) := Lib.hid (decide_eq_true (by
        have h := heq.out
        rw [hkl, List.take_length, Hlen.out, List.take_length] at h; exact h))
      have HB := Lib.hid hB
      clear heq hB hkl
      go_wp2_with fail
      go_ret
      exact ⟨ret_bool HD.out.symm, HB.out⟩
set_option maxHeartbeats 2000000 in
theorem Has_p {w : World} {v : Value} {l : List Bs} (h : StrsR w v l) (hl : l.length ≤ 1000000) (s : Bs) : Calls Tryz.prog 29 #[v, .string ⟨s.toArray⟩] w (BoolB (decide (s ∈ l)) w) := by
  obtain ⟨A, c, rfl⟩ := h.shape
  have Hx := Lib.hid h
  clear h
  go_enter Tryz.func29, Tryz.ntmps29
  go_wp2_with fail
  go_loop [5] (fun i => ∃ k : Nat, k ≤ l.length ∧ i = .int .i64 k ∧ Hid (∀ x ∈ l.take k, x ≠ s)) (fun i => l.length - (intOf i).toNat)
  case atStart => exact ⟨0, Nat.zero_le _, rfl, Lib.hid fun x hx => by simp at hx⟩
  case round =>
    obtain ⟨k, hk, rfl, hno⟩ := hrel
    by_cases hlt : k < l.length
    · obtain ⟨g, o, c', e, _, hg⟩ := Hx.out.pos (by omega)
      cases e
      have p0 := StrsR.cell Hx.out k hlt
      obtain ⟨x, hx⟩ : ∃ x, x = l.getD k [] := ⟨_, rfl⟩
      rw [← hx] at p0
      have HX := Lib.hid hx
      have Hlt := Lib.hid hlt
      unfold SV at p0
      clear hx
      by_cases e : x = s
      · have HD : Hid (decide (s ∈ l) = true) := Lib.hid (decide_eq_true (by rw [← e, HX.out]; exact getD_mem l [] k Hlt.out))
        subst e
        clear hno
        go_wp2_with fail
        go_ret
        exact ⟨ret_bool HD.out.symm, Below.refl _ _⟩
      · have HN2 : Hid (∀ y ∈ l.take (k + 1), y ≠ s) := Lib.hid fun y hy => by
          rw [take_getD l [] k Hlt.out] at hy
          rcases List.mem_append.1 hy with hy | hy
          · exact hno.out y hy
          · rw [List.mem_singleton.1 hy, ← HX.out]; exact e
        have e2 : (x == s) = false := by simpa using e
        clear hno e
        go_wp2_with fail
        go_round
        case rel => exact ⟨k + 1, hlt, by go_num, HN2⟩
        case measure => simp [intOf]; omega
    · have hkl : k = l.length := by omega
      have HD : Hid (decide (s ∈ l) = false) := Lib.hid (decide_eq_false fun hm => by
        have h := hno.out
        rw [hkl, List.take_length] at h
        exact h s hm rfl)
      clear hno hkl
      go_wp2_with fail
      go_ret
      exact ⟨ret_bool HD.out.symm, Below.refl _ _⟩
end Go.Proofs.YtfnepffccenebaaGreatDoor.Rf
