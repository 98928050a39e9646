/-
  WalkMore: more objects behind.
-/
import Derived.Test.YtngphfogomchfaaGreatDoorC41
import Derived.Test.YtngphfogomchfaaGreatDoorC42
import Derived.Test.YtngphfogomchfaaGreatDoorC43

namespace Go.Proofs.YtngphfogomchfaaGreatDoor
open Go Go.RowKit Go.Maps

theorem more_app (l m : List Hld) : More (wfL l) (wfL (l ++ m)) (thB l) (thB (l ++ m)) := by
  have hf : ∀ x, thB l x = true → findL (l ++ m) x = findL l x := fun x hx => by
    obtain ⟨u, hu⟩ := thB_some.1 hx
    rw [findL_append, hu, Option.some_or]
  refine ⟨fun x hx => ?_, fun x hx => ?_, fun x hx => wfL_no hx⟩
  · unfold thB at hx ⊢
    rw [hf x hx]; exact hx
  · unfold wfL; rw [hf x hx]
theorem kind_app (l m : List Hld) : ∀ x, thB l x = true → kindB (l ++ m) x = kindB l x := fun x hx => by
  obtain ⟨u, hu⟩ := thB_some.1 hx
  unfold kindB
  rw [findL_append, hu, Option.some_or]
set_option maxHeartbeats 16000000 in
set_option maxRecDepth 100000 in
theorem More_law (w : World) (ho : Ob w) {v vm vt : Value} {l m : List Hld} {tips : List Bs} (h : HldsR w v l) (hl : l.length ≤ limW) (h1 : HldsR w vm m) (hl1 : m.length ≤ limW) (h2 : StrsR w vt tips) (hl2 : tips.length ≤ limW) :
    Calls Tryz.prog 7 #[v, vm, vt] w (RetBelow (.bool true) w) := by
  obtain ⟨A, c, rfl⟩ := h.shape
  obtain ⟨A1, c1, rfl⟩ := h1.shape
  obtain ⟨A2, c2, rfl⟩ := h2.shape
  have HH := Lib.hid (head_any ho); have HO := Lib.hid ho; have Hx := Lib.hid h; have Ho := Lib.hid h1; have Ht := Lib.hid h2; have Hl := Lib.hid hl; have Hl1 := Lib.hid hl1; have Hl2 := Lib.hid hl2
  clear h h1 h2 hl hl1 hl2 ho
  go_enter Tryz.func7, Tryz.ntmps7
  go_wp2_with fail
  refine HH.out.mono ?_
  rintro e w1 ⟨rfl, l9⟩
  have L1 := Lib.hid l9
  clear l9
  go_wp2_with fail
  refine (Great_any (Hx.out.below L1.out (Nat.le_refl _)) Hl.out).mono ?_
  rintro e w2 ⟨gr, rfl, l9, hg⟩
  have L2 := Lib.hid (L1.out.trans (l9.mono L1.out.size))
  clear l9
  cases gr with
  | true =>
    clear hg
    go_wp2_with fail
    go_ret
    exact ⟨rfl, L2.out⟩
  | false =>
  have HS := Lib.hid (hg rfl)
  clear hg
  go_wp2_with fail
  refine (Great_any (Ho.out.below L2.out (Nat.le_refl _)) Hl1.out).mono ?_
  rintro e w3 ⟨gr, rfl, l9, hg⟩
  have L3 := Lib.hid (L2.out.trans (l9.mono L2.out.size))
  clear l9
  cases gr with
  | true =>
    clear hg
    go_wp2_with fail
    go_ret
    exact ⟨rfl, L3.out⟩
  | false =>
  have HS1 := Lib.hid (hg rfl)
  clear hg
  go_wp2_with fail
  refine (GreatTexts_any (Ht.out.below L3.out (Nat.le_refl _)) Hl2.out).mono ?_
  rintro e w4 ⟨gr, rfl, l9, hg⟩
  have L4 := Lib.hid (L3.out.trans (l9.mono L3.out.size))
  clear l9
  cases gr with
  | true =>
    clear hg
    go_wp2_with fail
    go_ret
    exact ⟨rfl, L4.out⟩
  | false =>
  have HS2 := Lib.hid (hg rfl)
  clear hg
  go_wp2_with fail
  have hs := HS.out.1
  have hs1 := HS1.out.1
  have hs2 := HS2.out.1
  refine (clo_small (Hx.out.below L4.out (Nat.le_refl _)) (Ht.out.below L4.out (Nat.le_refl _)) (HO.out.below L4.out) HS.out (smallT_len HS2.out).1 (smallT_len HS2.out).2).mono ?_
  rintro e w6 ⟨va, vb, a, b, rfl, ra, rb, hab, la, lb, l9⟩
  obtain ⟨Aa, ca, rfl⟩ := ra.shape
  obtain ⟨Ab, cb, rfl⟩ := rb.shape
  have L6 := Lib.hid (L4.out.trans (l9.mono L4.out.size)); have HRa := Lib.hid ra; have HAB := Lib.hid hab
  clear l9 ra rb hab
  have B6 := Lib.hid (below_new w6 (.cells #[] 51))
  go_wp2_with (at_builtin; refine wpList_all heldK rfl _ _ rfl w6.heap.size (.slice (some ⟨w6.heap.size, 0, none⟩) 0 0) (.slice A l.length c) [] l rfl rfl (OwK.new0 w6 _ (Nat.le_refl _)) (Hx.out.below (L6.out.trans (B6.out.mono L6.out.size)) (Nat.le_refl _)) (by simp; omega) (by decide) B6.out.size ?_)
  intro v7 w7 hN7 hb7
  have HN7 := Lib.hid hN7; have HB7 := Lib.hid (B6.out.trans hb7)
  clear hN7 hb7
  go_wp2_with (at_builtin; refine wpList_all heldK rfl _ _ rfl w6.heap.size v7 (.slice A1 m.length c1) ([] ++ l) m rfl rfl HN7.out (Ho.out.below (L6.out.trans (HB7.out.mono L6.out.size)) (Nat.le_refl _)) (by simp; omega) (by decide) HB7.out.size ?_)
  intro v8 w8 hN8 hb8
  have hN8r : HldsR w8 v8 (l ++ m) := NewH.rd hN8
  have HN8 := Lib.hid hN8r; have HB8 := Lib.hid (HB7.out.trans hb8)
  clear hN8 hb8 hN8r
  have L8 := Lib.hid (L6.out.trans (HB8.out.mono L6.out.size))
  have hall : ∀ x ∈ l ++ m, x.id.length ≤ 10000 ∧ x.data.length ≤ 10000 := fun x hx => (List.mem_append.1 hx).elim (fun hx => ⟨by have := (HS.out.2 x hx).1; omega, by have := (HS.out.2 x hx).2; omega⟩) (fun hx => ⟨by have := (HS1.out.2 x hx).1; omega, by have := (HS1.out.2 x hx).2; omega⟩)
  have hallen : (l ++ m).length ≤ 2000 := by rw [List.length_append]; omega
  have HAl := Lib.hid hall; have HLen := Lib.hid hallen
  clear hall hallen
  go_wp2_with fail
  refine (Closure_any HN8.out (Ht.out.below L8.out (Nat.le_refl _)) (HO.out.below L8.out).eb (HO.out.below L8.out).tb HLen.out (smallT_len HS2.out).1 HAl.out (smallT_len HS2.out).2).mono ?_
  rintro e w9 ⟨vx, vy, x, y, rfl, rx, ry, hxy, lx, ly, l9⟩
  obtain ⟨Ax, cx, rfl⟩ := rx.shape
  obtain ⟨Ay, cy, rfl⟩ := ry.shape
  have L9 := Lib.hid (L8.out.trans (l9.mono L8.out.size)); have HRx := Lib.hid rx
  have B9 := HB8.out.trans (l9.mono HB8.out.size)
  have HRa9 := Lib.hid (HRa.out.below B9 (Nat.le_refl _)); have HN9 := Lib.hid (HN8.out.below l9 (Nat.le_refl _))
  have hsub := IsClo.more (more_app l m) HAB.out hxy
  have HSub := Lib.hid hsub; have HXY := Lib.hid hxy
  have HSo := Lib.hid (sou_small (Hx.out.below L9.out (Nat.le_refl _)) (Ht.out.below L9.out (Nat.le_refl _)) (HO.out.below L9.out) HS.out (smallT_len HS2.out).1 (smallT_len HS2.out).2)
  clear l9 rx ry hxy B9 HRa HN8 hsub
  go_wp2_with fail
  go_loop [13] (fun vi => ∃ k : Nat, k ≤ a.length ∧ vi = .int .i64 k) (fun vi => a.length - (intOf vi).toNat)
  case atStart => exact ⟨0, Nat.zero_le _, rfl⟩
  case round =>
    obtain ⟨k, hk, rfl⟩ := hrel
    by_cases hlt : k < a.length
    · obtain ⟨g, o, c', e, _, hg⟩ := HRa9.out.pos (by omega)
      cases e
      have p0 := StrsR.cell HRa9.out k hlt
      have hm := HSub.out _ (getD_mem a [] k hlt)
      obtain ⟨s, hs⟩ : ∃ s, s = a.getD k ([] : Bs) := ⟨_, rfl⟩
      rw [← hs] at p0 hm
      unfold SV at p0
      have HA := Lib.hid (has_yes HRx.out (by omega) hm)
      clear hs hm
      go_wp2_with fail
      refine HA.out.mono ?_
      rintro e w2 ⟨rfl, rfl⟩
      go_wp2_with fail
      go_round
      case rel => exact ⟨k + 1, hlt, by go_num⟩
      case measure => simp [intOf]; omega
    obtain rfl : k = a.length := by omega
    clear hk hlt
    go_wp2_with fail
    refine HSo.out.mono ?_
    rintro e w10 ⟨r, rfl, hr, l9⟩
    have L10 := Lib.hid (L9.out.trans (l9.mono L9.out.size)); have HN10 := Lib.hid (HN9.out.below l9 (Nat.le_refl _)); have HRx10 := Lib.hid (HRx.out.below l9 (Nat.le_refl _)); have HRa10 := Lib.hid (HRa9.out.below l9 (Nat.le_refl _))
    by_cases h0 : r = 0
    · subst h0
      have HR := Lib.hid hr
      have hax : a = x := IsClo.same (more_app l m) hr.zero.1 HAB.out HXY.out
      have HAX := Lib.hid hax
      clear l9 hr hax
      go_wp2_with fail
      refine (Sound_any HN10.out (Ht.out.below L10.out (Nat.le_refl _)) (HO.out.below L10.out).eb (HO.out.below L10.out).tb HLen.out (smallT_len HS2.out).1 HAl.out (smallT_len HS2.out).2).mono ?_
      rintro e w11 ⟨r2, rfl, hr2, l9⟩
      obtain rfl := IsSound.more (more_app l m) (kind_app l m) HR.out hr2
      have hst := SameTexts_any (HRa10.out.below l9 (Nat.le_refl _)) (HRx10.out.below l9 (Nat.le_refl _)) (by omega)
      rw [decide_eq_true HAX.out] at hst
      have HSt := Lib.hid hst; have L11 := Lib.hid (L10.out.trans (l9.mono L10.out.size))
      clear l9 hr2 hst
      go_wp2_with fail
      refine HSt.out.mono ?_
      rintro e w12 ⟨rfl, l9⟩
      have L12 := Lib.hid (L11.out.trans (l9.mono L11.out.size))
      clear l9
      go_wp2_with fail
      go_ret
      exact ⟨rfl, L12.out⟩
    · have h1 : (r == 0) = false := by simpa using h0
      have h2 : (r != 0) = true := by simpa using h0
      clear hr l9
      go_wp2_with fail
      go_ret
      exact ⟨rfl, L10.out⟩
end Go.Proofs.YtngphfogomchfaaGreatDoor
