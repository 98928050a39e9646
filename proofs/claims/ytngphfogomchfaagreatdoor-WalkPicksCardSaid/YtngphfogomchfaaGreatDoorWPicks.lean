/-
  WalkPicks: what is picked.
-/
import Derived.Test.YtngphfogomchfaaGreatDoorC41
import Derived.Test.YtngphfogomchfaaGreatDoorC42
import Derived.Test.YtngphfogomchfaaGreatDoorC43

namespace Go.Proofs.YtngphfogomchfaaGreatDoor
open Go Go.RowKit Go.Maps

theorem pickL_at {l : List Hld} {ids : List Bs} {i : Nat} (hi : i < l.length) (hm : (l.getD i noHld).id ∈ ids) : (pickL (l.take i) ids).length < (pickL l ids).length ∧ (pickL l ids).getD (pickL (l.take i) ids).length noHld = l.getD i noHld := by
  have e : pickL l ids = pickL (l.take (i + 1)) ids ++ pickL (l.drop (i + 1)) ids := by
    unfold pickL; rw [← List.filter_append, List.take_append_drop]
  rw [pickL_snoc hi, if_pos hm] at e
  rw [e]
  constructor
  · simp
  · rw [List.append_assoc, List.getD_eq_getElem?_getD, List.getElem?_append_right (Nat.le_refl _), Nat.sub_self]; rfl
theorem pickL_twice (l : List Hld) (ids : List Bs) : pickL (pickL l ids) ids = pickL l ids := by
  unfold pickL; rw [List.filter_filter]; congr 1; funext x; simp
theorem pickL_both (l : List Hld) (ids : List Bs) : pickL l (ids ++ ids) = pickL l ids := by
  unfold pickL; congr 1; funext x; rw [Bool.eq_iff_iff, List.contains_iff_mem, List.contains_iff_mem, List.mem_append, or_self]
set_option maxHeartbeats 16000000 in
set_option maxRecDepth 100000 in
theorem Picks_law (w : World) (ho : Ob w) {v vt : Value} {l : List Hld} {tips : List Bs} (h : HldsR w v l) (hl : l.length ≤ limW) (h2 : StrsR w vt tips) (hl2 : tips.length ≤ limW) :
    Calls Tryz.prog 10 #[v, vt] w (RetBelow (.bool true) w) := by
  obtain ⟨A, c, rfl⟩ := h.shape
  obtain ⟨A2, c2, rfl⟩ := h2.shape
  have HH := Lib.hid (head_any ho); have HO := Lib.hid ho; have Hx := Lib.hid h; have Ht := Lib.hid h2; have Hl := Lib.hid hl; have Hl2 := Lib.hid hl2
  clear h h2 hl hl2 ho
  go_enter Tryz.func10, Tryz.ntmps10
  go_wp2_with fail
  refine HH.out.mono ?_
  rintro e w1 ⟨rfl, l9⟩
  have L1 := Lib.hid l9
  clear l9
  go_wp2_with fail
  refine (Great_any (Hx.out.below L1.out (Nat.le_refl _)) Hl.out).mono ?_
  rintro e w2 ⟨gr, rfl, l9, hg⟩
  have L2 := Lib.hid (L1.out.trans (l9.mono L1.out.size))
  clear l9
  cases gr with
  | true =>
    clear hg
    go_wp2_with fail
    go_ret
    exact ⟨rfl, L2.out⟩
  | false =>
  have HS := Lib.hid (hg rfl)
  clear hg
  go_wp2_with fail
  refine (GreatTexts_any (Ht.out.below L2.out (Nat.le_refl _)) Hl2.out).mono ?_
  rintro e w4 ⟨gr, rfl, l9, hg⟩
  have L4 := Lib.hid (L2.out.trans (l9.mono L2.out.size))
  clear l9
  cases gr with
  | true =>
    clear hg
    go_wp2_with fail
    go_ret
    exact ⟨rfl, L4.out⟩
  | false =>
  have HS2 := Lib.hid (hg rfl)
  clear hg
  go_wp2_with fail
  have hs := HS.out.1
  have hs2 := HS2.out.1
  have hidl : ∀ x ∈ l, x.id.length ≤ 1000000 := fun x hx => by have := (HS.out.2 x hx).1; omega
  have htl : ∀ x ∈ tips, x.length ≤ 1000000 := fun x hx => by have := HS2.out.2 x hx; omega
  have HIl := Lib.hid hidl; have HTl := Lib.hid htl
  clear hidl htl
  refine (Pick_any (Hx.out.below L4.out (Nat.le_refl _)) (Ht.out.below L4.out (Nat.le_refl _)) (by omega) (by omega) HIl.out HTl.out).mono ?_
  rintro e w5 ⟨vp, rfl, hp, l9⟩
  obtain ⟨Ap, cp, rfl⟩ := own_slice hp
  have hpr := hp.rd
  have hpl := pickL_len l tips
  have hat := fun i => @pickL_at l tips i
  have hsn := fun i => @pickL_snoc l tips i
  have hpw := pickL_twice l tips
  have hpb := pickL_both l tips
  have hpm : ∀ x ∈ pickL l tips, x.id.length ≤ 1000000 := fun x hx => HIl.out x (List.mem_filter.1 hx).1
  obtain ⟨p, hpe⟩ : ∃ p, p = pickL l tips := ⟨_, rfl⟩
  have HPe := Lib.hid hpe
  rw [← hpe] at hpr hpl hat hpw hpb hpm ⊢
  have HP := Lib.hid hpr; have HAt := Lib.hid hat; have HSn := Lib.hid hsn; have HPw := Lib.hid hpw; have HPb := Lib.hid hpb; have HPm := Lib.hid hpm
  have L5 := Lib.hid (L4.out.trans (l9.mono L4.out.size))
  have HRl := Lib.hid (Hx.out.below L5.out (Nat.le_refl _)); have HRt := Lib.hid (Ht.out.below L5.out (Nat.le_refl _))
  clear l9 hp hpr hat hsn hpw hpb hpm hpe
  go_wp2_with fail
  go_loopw [8, 7] (fun vi vk wr => Hid (Below w5.heap.size w5 wr) ∧ ∃ i k : Nat, i ≤ l.length ∧ vi = .int .i64 i ∧ vk = .int .i64 k ∧ k ≤ 1000000 ∧ Hid (k = (pickL (l.take i) tips).length)) (fun vi _ _ => l.length - (intOf vi).toNat)
  case atStart => exact ⟨Lib.hid (Below.refl _ _), 0, 0, Nat.zero_le _, rfl, rfl, Nat.zero_le _, Lib.hid rfl⟩
  case round =>
    obtain ⟨hB, i, k, hi, rfl, rfl, hkb, hK⟩ := hrel
    by_cases hlt : i < l.length
    · obtain ⟨g, o, c', e, _, hg⟩ := HRl.out.pos (by omega)
      cases e
      obtain ⟨p0, p1, p2⟩ := HldsR.cells (HRl.out.below hB.out (Nat.le_refl _)) i hlt
      have hsn := HSn.out i hlt
      have hat := HAt.out i hlt
      rw [← hK.out] at hat
      obtain ⟨x, hx⟩ : ∃ x, x = l.getD i noHld := ⟨_, rfl⟩
      rw [← hx] at p0 p1 p2 hsn hat
      obtain ⟨xi, xk, xd⟩ := x
      unfold SV at p0 p2
      simp only at p0 p1 p2 hsn hat
      have hRt := HRt.out.below hB.out (Nat.le_refl _)
      by_cases hm : xi ∈ tips
      · have HA := Lib.hid (has_yes hRt (by omega) hm)
        obtain ⟨hkp, hpx⟩ := hat hm
        have hpos : 0 < p.length := by omega
        obtain ⟨gp, op, cp', e, _, hgp⟩ := HP.out.pos hpos
        cases e
        obtain ⟨q0, q1, q2⟩ := HldsR.cells (HP.out.below hB.out (Nat.le_refl _)) k hkp
        rw [hpx] at q0 q1 q2
        unfold SV at q0 q2
        simp only at q0 q1 q2
        have HK2 : Hid (k + 1 = (pickL (l.take (i + 1)) tips).length) := Lib.hid (by rw [hsn, if_pos hm, List.length_append, ← hK.out]; rfl)
        have hkI : (k : Int) < (p.length : Int) := by omega
        have hkI2 : ¬ (p.length : Int) ≤ (k : Int) := by omega
        clear hsn hat hm hpx hx hRt hK hpos
        go_wp2_with fail
        refine HA.out.mono ?_
        rintro e w6 ⟨rfl, rfl⟩
        go_upto_region 10 with fail
        go_cut [48] from 34 to 48 (fun t wx => t = .bool false ∧ Hid (Below wr.heap.size wr wx))
        case first =>
          go_quiet (fail)
          go_wp2
          go_meet
          exact ⟨congrArg Value.bool (decide_eq_false (by omega)), Lib.hid (below_drewN' (Below.refl _ _) _)⟩
        case rest =>
        obtain ⟨rfl, hbc⟩ := hcut
        have HBc := Lib.hid (hB.out.trans (hbc.out.mono hB.out.size))
        clear p0 p1 p2 q0 q1 q2 hbc
        go_wp2_with fail
        go_roundw
        case rel => exact ⟨HBc, i + 1, k + 1, hlt, by go_num, by go_num, by omega, HK2⟩
        case measure => simp [intOf]; omega
      · have HA := Lib.hid (has_no hRt (by omega) hm)
        have HK2 : Hid (k = (pickL (l.take (i + 1)) tips).length) := Lib.hid (by rw [hsn, if_neg hm, ← hK.out])
        clear hsn hat hm hx hRt hK
        go_wp2_with fail
        refine HA.out.mono ?_
        rintro e w6 ⟨rfl, rfl⟩
        go_wp2_with fail
        go_roundw
        case rel => exact ⟨hB, i + 1, k, hlt, by go_num, rfl, hkb, HK2⟩
        case measure => simp [intOf]; omega
    obtain rfl : i = l.length := by omega
    have hk := hK.out
    rw [List.take_length, ← HPe.out] at hk
    subst hk
    have L6 := Lib.hid (L5.out.trans (hB.out.mono L5.out.size))
    have HP6 := Lib.hid (HP.out.below hB.out (Nat.le_refl _))
    have hpk := Pick_any HP6.out (HRt.out.below hB.out (Nat.le_refl _)) (by omega) (by omega) HPm.out HTl.out
    rw [HPw.out] at hpk
    have HPk := Lib.hid hpk
    clear hi hlt hK hpk hB
    go_wp2_with fail
    refine HPk.out.mono ?_
    rintro e w7 ⟨vq, rfl, hq, l9⟩
    have hsm := Same_any hq.rd (HP6.out.below l9 (Nat.le_refl _)) (by omega)
    rw [decide_eq_true rfl] at hsm
    obtain ⟨Aq, cq, rfl⟩ := own_slice hq
    have HSm := Lib.hid hsm; have L7 := Lib.hid (L6.out.trans (l9.mono L6.out.size)); have HP7 := Lib.hid (HP6.out.below l9 (Nat.le_refl _))
    clear hq l9 hsm
    go_wp2_with fail
    refine HSm.out.mono ?_
    rintro e w8 ⟨rfl, l9⟩
    have L8 := Lib.hid (L7.out.trans (l9.mono L7.out.size)); have HP8 := Lib.hid (HP7.out.below l9 (Nat.le_refl _))
    have B8 := Lib.hid (below_new w8 (.cells #[] 9))
    clear l9
    go_wp2_with (refine wpList_allG strK (by kernel_rfl) _ _ rfl w8.heap.size (.slice (some ⟨w8.heap.size, 0, none⟩) 0 0) (.slice A2 tips.length c2) [] tips rfl rfl (OwK.new0 w8 _ (Nat.le_refl _)) (Ht.out.below (L8.out.trans (B8.out.mono L8.out.size)) (Nat.le_refl _)) (by simp; omega) (by decide) B8.out.size ?_)
    intro v9 w9 hN9 hb9
    have HN9 := Lib.hid hN9; have HB9 := Lib.hid (B8.out.trans hb9)
    clear hN9 hb9
    go_wp2_with (refine wpList_allG strK (by kernel_rfl) _ _ rfl w8.heap.size v9 (.slice A2 tips.length c2) ([] ++ tips) tips rfl rfl HN9.out (Ht.out.below (L8.out.trans (HB9.out.mono L8.out.size)) (Nat.le_refl _)) (by simp; omega) (by decide) HB9.out.size ?_)
    intro v10 w10 hN10 hb10
    have hB10 := HB9.out.trans hb10
    have L10 := Lib.hid (L8.out.trans (hB10.mono L8.out.size)); have HP10 := Lib.hid (HP8.out.below hB10 (Nat.le_refl _))
    have hN10r : StrsR w10 v10 (tips ++ tips) := NewS.rd hN10
    have hpk := Pick_any (Hx.out.below L10.out (Nat.le_refl _)) hN10r (by omega) (by rw [List.length_append]; omega) HIl.out (fun x hx => (List.mem_append.1 hx).elim (HTl.out x) (HTl.out x))
    rw [HPb.out] at hpk
    have HPk2 := Lib.hid hpk
    clear hN10 hb10 hB10 hN10r hpk
    go_wp2_with fail
    refine HPk2.out.mono ?_
    rintro e w11 ⟨vq, rfl, hq, l9⟩
    have hsm := Same_any hq.rd (HP10.out.below l9 (Nat.le_refl _)) (by omega)
    rw [decide_eq_true rfl] at hsm
    obtain ⟨Aq2, cq2, rfl⟩ := own_slice hq
    have HSm2 := Lib.hid hsm; have L11 := Lib.hid (L10.out.trans (l9.mono L10.out.size))
    clear hq l9 hsm
    go_wp2_with fail
    refine HSm2.out.mono ?_
    rintro e w12 ⟨rfl, l9⟩
    have L12 := Lib.hid (L11.out.trans (l9.mono L11.out.size))
    clear l9
    go_wp2_with fail
    go_ret
    exact ⟨rfl, L12.out⟩
end Go.Proofs.YtngphfogomchfaaGreatDoor
