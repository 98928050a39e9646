/-
  WalkTells: the document's answers.
-/
import Derived.Test.YtngphfogomchfaaGreatDoorC41
import Derived.Test.YtngphfogomchfaaGreatDoorC42
import Derived.Test.YtngphfogomchfaaGreatDoorC43

namespace Go.Proofs.YtngphfogomchfaaGreatDoor
open Go Go.RowKit Go.Maps

set_option maxHeartbeats 16000000 in
set_option maxRecDepth 100000 in
theorem Tells_law5 (w : World) (ho : Ob w) {v vt : Value} {l : List Hld} {tips : List Bs} (h : HldsR w v l) (hl : l.length ≤ limW) (h2 : StrsR w vt tips) (hl2 : tips.length ≤ limW) :
    Calls Tryz.prog 3 #[v, vt] w (RetBelow (.bool true) w) := by
  obtain ⟨A, c, rfl⟩ := h.shape
  obtain ⟨A2, c2, rfl⟩ := h2.shape
  have HH := Lib.hid (head_any ho); have HO := Lib.hid ho; have Hx := Lib.hid h; have Ht := Lib.hid h2; have Hl := Lib.hid hl; have Hl2 := Lib.hid hl2
  clear h h2 hl hl2 ho
  go_enter Tryz.func3, Tryz.ntmps3
  go_wp2_with fail
  refine HH.out.mono ?_
  rintro e w1 ⟨rfl, l9⟩
  have L1 := Lib.hid l9
  clear l9
  go_wp2_with fail
  refine (Great_any (Hx.out.below L1.out (Nat.le_refl _)) Hl.out).mono ?_
  rintro e w2 ⟨gr, rfl, l9, hg⟩
  have L2 := Lib.hid (L1.out.trans (l9.mono L1.out.size))
  clear l9
  cases gr with
  | true =>
    clear hg
    go_wp2_with fail
    go_ret
    exact ⟨rfl, L2.out⟩
  | false =>
  have HS := Lib.hid (hg rfl)
  clear hg
  go_wp2_with fail
  refine (GreatTexts_any (Ht.out.below L2.out (Nat.le_refl _)) Hl2.out).mono ?_
  rintro e w4 ⟨gr, rfl, l9, hg⟩
  have L4 := Lib.hid (L2.out.trans (l9.mono L2.out.size))
  clear l9
  cases gr with
  | true =>
    clear hg
    go_wp2_with fail
    go_ret
    exact ⟨rfl, L4.out⟩
  | false =>
  have HS2 := Lib.hid (hg rfl)
  clear hg
  go_wp2_with fail
  have hs := HS.out.1
  have hs2 := HS2.out.1
  have HIl : Hid (∀ x ∈ l, x.id.length ≤ 1000000) := Lib.hid fun x hx => by have := (HS.out.2 x hx).1; omega
  have HTl : Hid (∀ x ∈ tips, x.length ≤ 1000000) := Lib.hid fun x hx => by have := HS2.out.2 x hx; omega
  have HDl : Hid (∀ x ∈ l, x.data.length ≤ 10000) := Lib.hid fun x hx => by have := (HS.out.2 x hx).2; omega
  refine (clo_small (Hx.out.below L4.out (Nat.le_refl _)) (Ht.out.below L4.out (Nat.le_refl _)) (HO.out.below L4.out) HS.out (smallT_len HS2.out).1 (smallT_len HS2.out).2).mono ?_
  rintro e w5 ⟨va, vb, a, b, rfl, ra, rb, hab, la, lb, l9⟩
  obtain ⟨Aa, ca, rfl⟩ := ra.shape
  obtain ⟨Ab, cb, rfl⟩ := rb.shape
  have L5 := Lib.hid (L4.out.trans (l9.mono L4.out.size)); have HRa := Lib.hid ra; have HRb := Lib.hid rb; have HAB := Lib.hid hab
  clear l9 ra rb hab
  go_wp2_with fail
  refine (RClosure_any (Hx.out.below L5.out (Nat.le_refl _)) (Ht.out.below L5.out (Nat.le_refl _)) (by omega) (by omega) HDl.out).mono ?_
  rintro e w6 ⟨vc, vd, c0, d0, rfl, rc, rd, hcd, lc, ld, l9⟩
  obtain ⟨e1, e2⟩ := IsClo.unique HAB.out hcd
  subst e1 e2
  obtain ⟨Ac, cc, rfl⟩ := rc.shape
  obtain ⟨Ad, cd, rfl⟩ := rd.shape
  have L6 := Lib.hid (L5.out.trans (l9.mono L5.out.size)); have HRa6 := Lib.hid (HRa.out.below l9 (Nat.le_refl _)); have HRb6 := Lib.hid (HRb.out.below l9 (Nat.le_refl _)); have HRc := Lib.hid rc; have HRd := Lib.hid rd
  have HRl := Lib.hid (Hx.out.below L6.out (Nat.le_refl _)); have HRt := Lib.hid (Ht.out.below L6.out (Nat.le_refl _))
  clear l9 rc rd hcd HRa HRb
  go_wp2_with fail
  go_loopw [10] (fun vi wr => Hid (Below w6.heap.size w6 wr) ∧ ∃ i : Nat, i ≤ tips.length ∧ vi = .int .i64 i) (fun vi _ => tips.length - (intOf vi).toNat)
  case atStart => exact ⟨Lib.hid (Below.refl _ _), 0, Nat.zero_le _, rfl⟩
  case round =>
    obtain ⟨hB, i, hi, rfl⟩ := hrel
    by_cases hlt : i < tips.length
    · obtain ⟨g, o, c', e, _, hg⟩ := HRt.out.pos (by omega)
      cases e
      have p0 := StrsR.cell (HRt.out.below hB.out (Nat.le_refl _)) i hlt
      obtain ⟨s, hs⟩ : ∃ s, s = tips.getD i ([] : Bs) := ⟨_, rfl⟩
      rw [← hs] at p0
      unfold SV at p0
      obtain ⟨d, hV⟩ := findV_kind l s
      have hF := fun W (hW : Below w6.heap.size w6 W) => Find_any (HRl.out.below hW (Nat.le_refl _)) (by omega) s
      have hG := fun W (hW : Below w6.heap.size w6 W) => RFind_any (HRl.out.below hW (Nat.le_refl _)) (by omega) s
      rw [hV] at hF hG
      obtain ⟨q, hq⟩ : ∃ q, q = kindB l s := ⟨_, rfl⟩
      obtain ⟨t, ht⟩ : ∃ t, t = thB l s := ⟨_, rfl⟩
      rw [← hq, ← ht] at hF hG
      have HF := Lib.hid hF; have HG := Lib.hid hG
      clear hF hG hV hq ht hs
      go_wp2_with fail
      refine (HF.out _ hB.out).mono ?_
      rintro e w7 ⟨rfl, b7⟩
      obtain ⟨w8, hw8⟩ : ∃ w8, w8 = w7.alloc (.cells #[.int .i64 q, .string ⟨d.toArray⟩] 30) := ⟨_, rfl⟩
      have hb8 := b7.alloc b7.size (.cells #[.int .i64 q, .string ⟨d.toArray⟩] 30)
      rw [← hw8] at hb8
      have hk8 : w8.heap[w7.heap.size]? = some (.cells #[.int .i64 q, .string ⟨d.toArray⟩] 30 (0, 0)) := by rw [hw8]; exact heap_alloc_new w7 _
      have q0 : w8.cell? ⟨w7.heap.size, 0, none⟩ = some (.int .i64 q) := (cell_of_row w8 _ 0 _ _ _ hk8).trans rfl
      have q1 : w8.cell? ⟨w7.heap.size, 1, none⟩ = some (.string ⟨d.toArray⟩) := (cell_of_row w8 _ 1 _ _ _ hk8).trans rfl
      have HW8 := Lib.hid hw8; have HQ := Lib.hid (And.intro q0 q1); have HB8 := Lib.hid (hB.out.trans (hb8.mono hB.out.size))
      have p0 := cell_to p0 hb8
      clear b7 hb8 hw8 hk8 q0 q1
      go_upto_region 10 with fail
      rw [← HW8.out]
      go_wp2_with fail
      refine (HG.out _ HB8.out).mono ?_
      rintro e w9 ⟨rfl, b9⟩
      obtain ⟨w10, hw10⟩ : ∃ w10, w10 = w9.alloc (.cells #[.int .i64 q, .string ⟨d.toArray⟩] 30) := ⟨_, rfl⟩
      have hb10 := b9.alloc b9.size (.cells #[.int .i64 q, .string ⟨d.toArray⟩] 30)
      rw [← hw10] at hb10
      have hk10 : w10.heap[w9.heap.size]? = some (.cells #[.int .i64 q, .string ⟨d.toArray⟩] 30 (0, 0)) := by rw [hw10]; exact heap_alloc_new w9 _
      have r0 : w10.cell? ⟨w9.heap.size, 0, none⟩ = some (.int .i64 q) := (cell_of_row w10 _ 0 _ _ _ hk10).trans rfl
      have r1 : w10.cell? ⟨w9.heap.size, 1, none⟩ = some (.string ⟨d.toArray⟩) := (cell_of_row w10 _ 1 _ _ _ hk10).trans rfl
      have q0 := cell_to HQ.out.1 hb10
      have q1 := cell_to HQ.out.2 hb10
      have HW10 := Lib.hid hw10; have HB10 := Lib.hid (HB8.out.trans (hb10.mono HB8.out.size))
      clear b9 hb10 hw10 hk10 p0
      go_upto_region 11 with fail
      rw [← HW10.out]
      go_wp2_with fail
      go_roundw
      case rel => exact ⟨HB10, i + 1, hlt, by go_num⟩
      case measure => simp [intOf]; omega
    obtain rfl : i = tips.length := by omega
    have L7 := Lib.hid (L6.out.trans (hB.out.mono L6.out.size))
    have h1 := SameTexts_any (HRa6.out.below hB.out (Nat.le_refl _)) (HRc.out.below hB.out (Nat.le_refl _)) (by omega)
    rw [decide_eq_true rfl] at h1
    have H1 := Lib.hid h1; have HRb7 := Lib.hid (HRb6.out.below hB.out (Nat.le_refl _)); have HRd7 := Lib.hid (HRd.out.below hB.out (Nat.le_refl _))
    clear hi hlt hB h1
    go_wp2_with fail
    refine H1.out.mono ?_
    rintro e w8 ⟨rfl, l9⟩
    have h1 := SameTexts_any (HRb7.out.below l9 (Nat.le_refl _)) (HRd7.out.below l9 (Nat.le_refl _)) (by omega)
    rw [decide_eq_true rfl] at h1
    have H2 := Lib.hid h1; have L8 := Lib.hid (L7.out.trans (l9.mono L7.out.size))
    clear l9 h1
    go_wp2_with fail
    refine H2.out.mono ?_
    rintro e w9 ⟨rfl, l9⟩
    have L9 := Lib.hid (L8.out.trans (l9.mono L8.out.size))
    clear l9
    go_wp2_with fail
    refine (sou_small (Hx.out.below L9.out (Nat.le_refl _)) (Ht.out.below L9.out (Nat.le_refl _)) (HO.out.below L9.out) HS.out (smallT_len HS2.out).1 (smallT_len HS2.out).2).mono ?_
    rintro e w10 ⟨r, rfl, hr, l9⟩
    have L10 := Lib.hid (L9.out.trans (l9.mono L9.out.size)); have HR := Lib.hid hr
    clear l9 hr
    go_wp2_with fail
    refine (RSound_any (Hx.out.below L10.out (Nat.le_refl _)) (Ht.out.below L10.out (Nat.le_refl _)) (by omega) (by omega) HDl.out).mono ?_
    rintro e w11 ⟨r2, rfl, hr, l9⟩
    obtain rfl := IsSound.unique HR.out hr
    have L11 := Lib.hid (L10.out.trans (l9.mono L10.out.size))
    clear l9 hr
    go_wp2_with fail
    refine (Pick_any (Hx.out.below L11.out (Nat.le_refl _)) (Ht.out.below L11.out (Nat.le_refl _)) (by omega) (by omega) HIl.out HTl.out).mono ?_
    rintro e w12 ⟨vp, rfl, hp, l9⟩
    have hpr := hp.rd
    have hpl := pickL_len l tips
    obtain ⟨Ap, cp, rfl⟩ := own_slice hp
    obtain ⟨p, hpe⟩ : ∃ p, p = pickL l tips := ⟨_, rfl⟩
    rw [← hpe] at hpr hpl ⊢
    have HPe := Lib.hid hpe
    have L12 := Lib.hid (L11.out.trans (l9.mono L11.out.size)); have HP := Lib.hid hpr
    clear l9 hp hpr hpe
    go_wp2_with fail
    refine (RPick_any (Hx.out.below L12.out (Nat.le_refl _)) (Ht.out.below L12.out (Nat.le_refl _)) (by omega) (by omega)).mono ?_
    rintro e w13 ⟨vq, rfl, hq, l9⟩
    rw [← HPe.out] at hq
    have hsm := Same_any (HP.out.below l9 (Nat.le_refl _)) hq.rd (by omega)
    rw [decide_eq_true rfl] at hsm
    obtain ⟨Aq, cq, rfl⟩ := own_slice hq
    have HSm := Lib.hid hsm; have L13 := Lib.hid (L12.out.trans (l9.mono L12.out.size))
    clear l9 hq hsm
    go_wp2_with fail
    refine HSm.out.mono ?_
    rintro e w14 ⟨rfl, l9⟩
    have L14 := Lib.hid (L13.out.trans (l9.mono L13.out.size))
    clear l9
    go_wp2_with fail
    go_ret
    exact ⟨rfl, L14.out⟩
end Go.Proofs.YtngphfogomchfaaGreatDoor
