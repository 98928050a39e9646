/-
  CutEnough.
  CutNoMore.
-/
import Derived.Test.YtialgldmogigfaaGreatDoorC28
import Derived.Test.YtialgldmogigfaaGreatDoorC29
import Derived.Test.YtialgldmogigfaaGreatDoorC15
import Derived.Test.YtialgldmogigfaaGreatDoorC10

namespace Go.Proofs.YtialgldmogigfaaGreatDoor.Ct
open Go.Proofs.YtialgldmogigfaaGreatDoor
open Go Go.RowKit Go.Maps

set_option maxHeartbeats 16000000 in
set_option maxRecDepth 100000 in
theorem Enough_law (w : World) (ho : Ob w) {v0 : Value} {l : List Hld} (h0 : HldsR w v0 l) (hl0 : l.length ≤ limW) {v1 : Value} {tips : List Bs} (h1 : StrsR w v1 tips) (hl1 : tips.length ≤ limW) {v2 : Value} {wants : List Bs} (h2 : StrsR w v2 wants) (hl2 : wants.length ≤ limW) {v3 : Value} {haves : List Bs} (h3 : StrsR w v3 haves) (hl3 : haves.length ≤ limW) :
    Calls Tryz.prog 4 #[v0, v1, v2, v3] w (BoolB true w) := by
  obtain ⟨A0, c0, rfl⟩ := h0.shape
  obtain ⟨A1, c1, rfl⟩ := h1.shape
  obtain ⟨A2, c2, rfl⟩ := h2.shape
  obtain ⟨A3, c3, rfl⟩ := h3.shape
  have HH := Lib.hid (head_p ho); have HO := Lib.hid ho; have HX0 := Lib.hid h0; have HL0 := Lib.hid hl0; have HX1 := Lib.hid h1; have HL1 := Lib.hid hl1; have HX2 := Lib.hid h2; have HL2 := Lib.hid hl2; have HX3 := Lib.hid h3; have HL3 := Lib.hid hl3
  clear h0 hl0 h1 hl1 h2 hl2 h3 hl3 ho
  go_enter Tryz.func4, Tryz.ntmps4
  go_wp2_with fail
  refine HH.out.mono ?_
  rintro e w1 ⟨rfl, l9⟩
  have L1 := Lib.hid l9
  clear l9 HH
  go_wp2_with fail
  refine (Great_any (HX0.out.below L1.out (Nat.le_refl _)) HL0.out).mono ?_
  rintro e w2 ⟨gr, rfl, l9, hg⟩
  have L2 := Lib.hid (L1.out.trans (l9.mono L1.out.size))
  clear l9
  cases gr with
  | true =>
    clear hg
    go_wp2_with fail
    go_ret
    exact ⟨rfl, L2.out⟩
  | false =>
  have HS0 := Lib.hid (hg rfl)
  clear hg
  have HK0 := Lib.hid (okL HS0.out)
  go_wp2_with fail
  refine (GreatTexts_any (HX1.out.below L2.out (Nat.le_refl _)) HL1.out).mono ?_
  rintro e w3 ⟨gr, rfl, l9, hg⟩
  have L3 := Lib.hid (L2.out.trans (l9.mono L2.out.size))
  clear l9
  cases gr with
  | true =>
    clear hg
    go_wp2_with fail
    go_ret
    exact ⟨rfl, L3.out⟩
  | false =>
  have HS1 := Lib.hid (hg rfl)
  clear hg
  have HK1 := Lib.hid (okT HS1.out)
  go_wp2_with fail
  refine (GreatTexts_any (HX2.out.below L3.out (Nat.le_refl _)) HL2.out).mono ?_
  rintro e w4 ⟨gr, rfl, l9, hg⟩
  have L4 := Lib.hid (L3.out.trans (l9.mono L3.out.size))
  clear l9
  cases gr with
  | true =>
    clear hg
    go_wp2_with fail
    go_ret
    exact ⟨rfl, L4.out⟩
  | false =>
  have HS2 := Lib.hid (hg rfl)
  clear hg
  have HK2 := Lib.hid (okT HS2.out)
  go_wp2_with fail
  refine (GreatTexts_any (HX3.out.below L4.out (Nat.le_refl _)) HL3.out).mono ?_
  rintro e w5 ⟨gr, rfl, l9, hg⟩
  have L5 := Lib.hid (L4.out.trans (l9.mono L4.out.size))
  clear l9
  cases gr with
  | true =>
    clear hg
    go_wp2_with fail
    go_ret
    exact ⟨rfl, L5.out⟩
  | false =>
  have HS3 := Lib.hid (hg rfl)
  clear hg
  have HK3 := Lib.hid (okT HS3.out)
  have HDa := Lib.hid (Send_p (L := l) (tips := tips) (wants := wants) (haves := haves) (HX0.out.below L5.out (Nat.le_refl _)) (HX1.out.below L5.out (Nat.le_refl _)) (HX2.out.below L5.out (Nat.le_refl _)) (HX3.out.below L5.out (Nat.le_refl _)) (HO.out.below L5.out) HK0.out HK1.out HK2.out HK3.out)
  go_wp2_with fail
  refine HDa.out.mono ?_
  rintro e w6 ⟨Aa, na, ca, a, ea, rfl, hn, hr, hs, l9⟩
  subst hn
  have L6 := Lib.hid (L5.out.trans (l9.mono L5.out.size))
  have HRa := Lib.hid hr; have HIa := Lib.hid hs
  clear l9 hr hs HDa
  by_cases h0 : ea = 0
  case neg =>
    have ha := HIa.out.nil h0
    subst ha
    go_wp2_with fail
    go_ret
    exact ⟨rfl, L6.out⟩
  subst h0
  have HDn := Lib.hid (Closure_any (L := l) (tips := tips) (HX0.out.below L6.out (Nat.le_refl _)) (HX1.out.below L6.out (Nat.le_refl _)) (HO.out.below L6.out).eb (HO.out.below L6.out).tb HK0.out.len HK1.out.len HK0.out.el HK1.out.el)
  go_wp2_with fail
  refine HDn.out.mono ?_
  rintro e w7 ⟨vn, vz, n, z, rfl, ra, rb, hc, _, _, l9⟩
  obtain ⟨An, cn, rfl⟩ := ra.shape
  obtain ⟨Az, cz, rfl⟩ := rb.shape
  have L7 := Lib.hid (L6.out.trans (l9.mono L6.out.size)); have HRa' := Lib.hid (HRa.out.below l9 (Nat.le_refl _))
  have HRn := Lib.hid ra; have HRz := Lib.hid rb; have HCn := Lib.hid hc
  clear HRa l9 ra rb hc HDn
  have HRa := HRa'; clear HRa'
  have HN0 : Hid (OwK 9 1 strC w7 w7.heap.size (.slice none 0 0) ((haves.take 0).filter (hasB n))) := Lib.hid (OwK.nil _ _ _ _ _)
  have HHa := Lib.hid (HX3.out.below L7.out (Nat.le_refl _))
  have hnl := (clo_okT HK0.out HCn.out).len
  have hhl := HK3.out.len
  go_wp2_with fail
  go_loopw [15, 14] (fun vi vz wr => Hid (Below w7.heap.size w7 wr) ∧ ∃ i : Nat, i ≤ haves.length ∧ vi = .int .i64 i ∧ Hid (OwK 9 1 strC wr w7.heap.size vz ((haves.take i).filter (hasB n)))) (fun vi _ _ => haves.length - (intOf vi).toNat)
  case atStart => exact ⟨Lib.hid (Below.refl _ _), 0, Nat.zero_le _, rfl, HN0⟩
  case round =>
    obtain ⟨hB, i, hi, rfl, hN⟩ := hrel
    by_cases hlt : i < haves.length
    · obtain ⟨g, o, c', e, _, hg⟩ := HHa.out.pos (by omega)
      cases e
      have p0 := StrsR.cell (HHa.out.below hB.out (Nat.le_refl _)) i hlt
      have hsn := keep_snoc (p := hasB n) hlt
      have hpl := List.length_filter_le (hasB n) (haves.take i)
      have hpl2 := List.length_take_le i haves
      obtain ⟨s, hs⟩ : ∃ s, s = haves.getD i ([] : Bs) := ⟨_, rfl⟩
      rw [← hs] at p0 hsn
      unfold SV at p0
      have HPL : Hid (((haves.take i).filter (hasB n)).length + 1 ≤ 1000000) := Lib.hid (by omega)
      have HSn := Lib.hid hsn
      clear hs hsn hpl hpl2
      by_cases hm : s ∈ n
      · have HA := Lib.hid (has_yes (HRn.out.below hB.out (Nat.le_refl _)) (by omega) hm)
        have HS3 := Lib.hid (HSn.out.trans (if_pos (hasB_iff.2 hm)))
        clear hm
        go_wp2_with fail
        refine HA.out.mono ?_
        rintro e w9 ⟨rfl, rfl⟩
        go_wp2_with (at_builtin; refine wpList_one strK rfl _ _ rfl w7.heap.size u14 ((haves.take i).filter (hasB n)) s _ rfl rfl rfl hN.out HPL.out (by decide) hB.out.size ?_)
        intro z' w10 hN3 hb3
        have HN3 := Lib.hid hN3
        have HB3 := Lib.hid (hB.out.trans hb3)
        clear hN3 hb3 p0
        go_wp2_with fail
        go_roundw
        case rel => exact ⟨HB3, i + 1, hlt, by go_num, Lib.hid (by rw [HS3.out]; exact HN3.out)⟩
        case measure => simp [intOf]; omega
      · have HA := Lib.hid (has_no (HRn.out.below hB.out (Nat.le_refl _)) (by omega) hm)
        have HS3 := Lib.hid (HSn.out.trans (if_neg (by rw [hasB_no.2 hm]; decide)))
        clear hm
        go_wp2_with fail
        refine HA.out.mono ?_
        rintro e w9 ⟨rfl, rfl⟩
        go_wp2_with fail
        go_roundw
        case rel => exact ⟨hB, i + 1, hlt, by go_num, Lib.hid (by rw [HS3.out]; exact hN.out)⟩
        case measure => simp [intOf]; omega
    obtain rfl : i = haves.length := by omega
    rw [List.take_length] at hN
    obtain ⟨cm, hcm⟩ : ∃ cm, cm = haves.filter (hasB n) := ⟨_, rfl⟩
    rw [← hcm] at hN
    have HCm : Hid (∀ s, s ∈ cm ↔ s ∈ haves ∧ s ∈ n) := Lib.hid fun s => by rw [hcm, List.mem_filter, hasB_iff]
    have HOm : Hid (OkT cm) := Lib.hid (by rw [hcm]; exact HK3.out.filter _)
    have hr : StrsR wr u14 cm := OwK.rd strC_len hN.out
    obtain ⟨Am, cm', rfl⟩ := hr.shape
    obtain ⟨nm, hn⟩ : ∃ n, n = cm.length := ⟨_, rfl⟩
    rw [← hn] at hr ⊢
    obtain ⟨w8, hw⟩ : ∃ y, y = wr := ⟨_, rfl⟩
    subst hw
    have HRm := Lib.hid hr
    have l9 := hB.out
    clear hcm hN hn hi hlt
    have L8 := Lib.hid (L7.out.trans (l9.mono L7.out.size)); have HRa' := Lib.hid (HRa.out.below l9 (Nat.le_refl _)); have HRn' := Lib.hid (HRn.out.below l9 (Nat.le_refl _)); have HRz' := Lib.hid (HRz.out.below l9 (Nat.le_refl _))
    clear HRa HRn HRz l9 hr
    have HRa := HRa'; clear HRa'
    have HRn := HRn'; clear HRn'
    have HRz := HRz'; clear HRz'
    have HDown := Lib.hid (Closure_any (L := l) (tips := cm) (HX0.out.below L8.out (Nat.le_refl _)) HRm.out (HO.out.below L8.out).eb (HO.out.below L8.out).tb HK0.out.len HOm.out.len HK0.out.el HOm.out.el)
    go_wp2_with fail
    refine HDown.out.mono ?_
    rintro e w9 ⟨vown, vy, own, y, rfl, ra, rb, hc, _, _, l9⟩
    obtain ⟨Aown, cown, rfl⟩ := ra.shape
    obtain ⟨Ay, cy, rfl⟩ := rb.shape
    have L9 := Lib.hid (L8.out.trans (l9.mono L8.out.size)); have HRa' := Lib.hid (HRa.out.below l9 (Nat.le_refl _)); have HRn' := Lib.hid (HRn.out.below l9 (Nat.le_refl _)); have HRz' := Lib.hid (HRz.out.below l9 (Nat.le_refl _)); have HRm' := Lib.hid (HRm.out.below l9 (Nat.le_refl _))
    have HRown := Lib.hid ra; have HRy := Lib.hid rb; have HCown := Lib.hid hc
    clear HRa HRn HRz HRm l9 ra rb hc HDown
    have HRa := HRa'; clear HRa'
    have HRn := HRn'; clear HRn'
    have HRz := HRz'; clear HRz'
    have HRm := HRm'; clear HRm'
    have HOa := Lib.hid (sent_ok HK0.out HIa.out)
    have HOo := Lib.hid (clo_okT HK0.out HCown.out)
    have HRo := Lib.hid HRown.out
    have HDp := Lib.hid (Pick_any (l := l) (ids := a) (HX0.out.below L9.out (Nat.le_refl _)) HRa.out (by have := HK0.out.len; omega) (by have := HOa.out.len; omega) (fun x hx => by have := (HK0.out.el x hx).1; omega) (fun x hx => by have := HOa.out.el x hx; omega))
    go_wp2_with fail
    refine HDp.out.mono ?_
    rintro e w10 ⟨vp, rfl, hp, l9⟩
    have hr := hp.rd
    obtain ⟨Ap, cp, rfl⟩ := own_slice hp
    obtain ⟨np, hn⟩ : ∃ n, n = (pickL l a).length := ⟨_, rfl⟩
    rw [← hn] at hr hp ⊢
    clear hn
    have L10 := Lib.hid (L9.out.trans (l9.mono L9.out.size)); have HRa' := Lib.hid (HRa.out.below l9 (Nat.le_refl _)); have HRn' := Lib.hid (HRn.out.below l9 (Nat.le_refl _)); have HRz' := Lib.hid (HRz.out.below l9 (Nat.le_refl _)); have HRm' := Lib.hid (HRm.out.below l9 (Nat.le_refl _)); have HRown' := Lib.hid (HRown.out.below l9 (Nat.le_refl _)); have HRy' := Lib.hid (HRy.out.below l9 (Nat.le_refl _)); have HRo' := Lib.hid (HRo.out.below l9 (Nat.le_refl _))
    have HRp := Lib.hid hr; have HPp := Lib.hid hp; have HBp := Lib.hid l9
    clear HRa HRn HRz HRm HRown HRy HRo l9 hr hp HDp
    have HRa := HRa'; clear HRa'
    have HRn := HRn'; clear HRn'
    have HRz := HRz'; clear HRz'
    have HRm := HRm'; clear HRm'
    have HRown := HRown'; clear HRown'
    have HRy := HRy'; clear HRy'
    have HRo := HRo'; clear HRo'
    clear HRp
    have HDq := Lib.hid (Pick_any (l := l) (ids := own) (HX0.out.below L10.out (Nat.le_refl _)) HRo.out (by have := HK0.out.len; omega) (by have := HOo.out.len; omega) (fun x hx => by have := (HK0.out.el x hx).1; omega) (fun x hx => by have := HOo.out.el x hx; omega))
    go_wp2_with fail
    refine HDq.out.mono ?_
    rintro e w11 ⟨vq, rfl, hq, l9⟩
    have hp := OwK.below HPp.out l9 (Nat.le_refl _)
    have B1 := Lib.hid l9
    have hqr := hq.rd
    obtain ⟨Aq, cq, rfl⟩ := own_slice hq
    obtain ⟨nq, hn⟩ : ∃ n, n = (pickL l own).length := ⟨_, rfl⟩
    rw [← hn] at hqr ⊢
    have HP2 := Lib.hid hp; have HQ2 := Lib.hid hqr
    have L11 := Lib.hid (L10.out.trans (l9.mono L10.out.size))
    have HSz : Hid (w9.heap.size ≤ w11.heap.size) := Lib.hid (Nat.le_trans HBp.out.size l9.size)
    have hl1 := pickL_len l a
    have hl2 := pickL_len l own
    have hl3 := HS0.out.1
    clear hp hq hqr hn HDq HPp l9
    go_wp2_with (at_builtin; refine wpList_all heldK rfl _ _ rfl w9.heap.size (.slice Ap np cp) (.slice Aq nq cq) (pickL l a) (pickL l own) rfl rfl HP2.out HQ2.out (by omega) (by decide) HSz.out ?_)
    intro v3 w12 hN3 hb3
    have hr : HldsR w12 v3 (pickL l a ++ pickL l own) := NewH.rd hN3
    obtain ⟨At, ct, rfl⟩ := hr.shape
    obtain ⟨nt, hn⟩ : ∃ n, n = (pickL l a ++ pickL l own).length := ⟨_, rfl⟩
    rw [← hn] at hr ⊢
    have HRt := Lib.hid hr
    have L12 := Lib.hid (L9.out.trans ((HBp.out.trans ((B1.out.mono HBp.out.size).trans hb3)).mono L9.out.size))
    have HOt : Hid (OkL (pickL l a ++ pickL l own)) := Lib.hid ⟨by rw [List.length_append]; omega, fun x hx => by
      rcases List.mem_append.1 hx with h | h
      · exact (okL_pick HK0.out a).el x h
      · exact (okL_pick HK0.out own).el x h⟩
    clear hr hn hN3 hb3 HP2 HQ2 hl1 hl2 hl3 HRa HRn HRz HRm HRown HRy HRo
    have HDneed := Lib.hid (Closure_any (L := l) (tips := wants) (HX0.out.below L12.out (Nat.le_refl _)) (HX2.out.below L12.out (Nat.le_refl _)) (HO.out.below L12.out).eb (HO.out.below L12.out).tb HK0.out.len HK2.out.len HK0.out.el HK2.out.el)
    go_wp2_with fail
    refine HDneed.out.mono ?_
    rintro e w13 ⟨vneed, vz2, need, z2, rfl, ra, rb, hc, _, _, l9⟩
    obtain ⟨Aneed, cneed, rfl⟩ := ra.shape
    obtain ⟨Az2, cz2, rfl⟩ := rb.shape
    have L13 := Lib.hid (L12.out.trans (l9.mono L12.out.size)); have HRt' := Lib.hid (HRt.out.below l9 (Nat.le_refl _))
    have HRneed := Lib.hid ra; have HRz2 := Lib.hid rb; have HCneed := Lib.hid hc
    clear HRt l9 ra rb hc HDneed
    have HRt := HRt'; clear HRt'
    have HDgot := Lib.hid (Closure_any (L := (pickL l a ++ pickL l own)) (tips := wants) HRt.out (HX2.out.below L13.out (Nat.le_refl _)) (HO.out.below L13.out).eb (HO.out.below L13.out).tb HOt.out.len HK2.out.len HOt.out.el HK2.out.el)
    go_wp2_with fail
    refine HDgot.out.mono ?_
    rintro e w14 ⟨vgot, vlack, got, lack, rfl, ra, rb, hc, _, _, l9⟩
    obtain ⟨Agot, cgot, rfl⟩ := ra.shape
    obtain ⟨Alack, clack, rfl⟩ := rb.shape
    have L14 := Lib.hid (L13.out.trans (l9.mono L13.out.size)); have HRt' := Lib.hid (HRt.out.below l9 (Nat.le_refl _)); have HRneed' := Lib.hid (HRneed.out.below l9 (Nat.le_refl _)); have HRz2' := Lib.hid (HRz2.out.below l9 (Nat.le_refl _))
    have HRgot := Lib.hid ra; have HRlack := Lib.hid rb; have HCgot := Lib.hid hc
    clear HRt HRneed HRz2 l9 ra rb hc HDgot
    have HRt := HRt'; clear HRt'
    have HRneed := HRneed'; clear HRneed'
    have HRz2 := HRz2'; clear HRz2'
    obtain ⟨e1, e2⟩ := IsSend.enough HIa.out HCn.out HCm.out HCown.out HCneed.out HCgot.out
    subst e1
    have hst := SameTexts_any HRgot.out HRneed.out (by have := (clo_okT HOt.out HCgot.out).len; omega)
    rw [decide_eq_true e2] at hst
    have HSt := Lib.hid hst
    clear hst e2
    go_wp2_with fail
    refine HSt.out.mono ?_
    rintro e w12 ⟨rfl, l9⟩
    have L15 := Lib.hid (L14.out.trans (l9.mono L14.out.size))
    clear l9
    go_wp2_with fail
    go_ret
    exact ⟨by simp, L15.out⟩
end Go.Proofs.YtialgldmogigfaaGreatDoor.Ct


namespace Go.Proofs.YtialgldmogigfaaGreatDoor.Ct
open Go.Proofs.YtialgldmogigfaaGreatDoor
open Go Go.RowKit Go.Maps

set_option maxHeartbeats 16000000 in
set_option maxRecDepth 100000 in
theorem NoMore_law (w : World) (ho : Ob w) {v0 : Value} {l : List Hld} (h0 : HldsR w v0 l) (hl0 : l.length ≤ limW) {v1 : Value} {more : List Hld} (h1 : HldsR w v1 more) (hl1 : more.length ≤ limW) {v2 : Value} {tips : List Bs} (h2 : StrsR w v2 tips) (hl2 : tips.length ≤ limW) {v3 : Value} {wants : List Bs} (h3 : StrsR w v3 wants) (hl3 : wants.length ≤ limW) {v4 : Value} {haves : List Bs} (h4 : StrsR w v4 haves) (hl4 : haves.length ≤ limW) (other : Bs) (hl5 : other.length ≤ limW) :
    Calls Tryz.prog 5 #[v0, v1, v2, v3, v4, SV other] w (BoolB true w) := by
  obtain ⟨A0, c0, rfl⟩ := h0.shape
  obtain ⟨A1, c1, rfl⟩ := h1.shape
  obtain ⟨A2, c2, rfl⟩ := h2.shape
  obtain ⟨A3, c3, rfl⟩ := h3.shape
  obtain ⟨A4, c4, rfl⟩ := h4.shape
  have HH := Lib.hid (head_p ho); have HO := Lib.hid ho; have HX0 := Lib.hid h0; have HL0 := Lib.hid hl0; have HX1 := Lib.hid h1; have HL1 := Lib.hid hl1; have HX2 := Lib.hid h2; have HL2 := Lib.hid hl2; have HX3 := Lib.hid h3; have HL3 := Lib.hid hl3; have HX4 := Lib.hid h4; have HL4 := Lib.hid hl4; have HL5 := Lib.hid hl5
  clear h0 hl0 h1 hl1 h2 hl2 h3 hl3 h4 hl4 hl5 ho
  unfold SV
  go_enter Tryz.func5, Tryz.ntmps5
  go_wp2_with fail
  refine HH.out.mono ?_
  rintro e w1 ⟨rfl, l9⟩
  have L1 := Lib.hid l9
  clear l9 HH
  go_wp2_with fail
  refine (Great_any (HX0.out.below L1.out (Nat.le_refl _)) HL0.out).mono ?_
  rintro e w2 ⟨gr, rfl, l9, hg⟩
  have L2 := Lib.hid (L1.out.trans (l9.mono L1.out.size))
  clear l9
  cases gr with
  | true =>
    clear hg
    go_wp2_with fail
    go_ret
    exact ⟨rfl, L2.out⟩
  | false =>
  have HS0 := Lib.hid (hg rfl)
  clear hg
  have HK0 := Lib.hid (okL HS0.out)
  go_wp2_with fail
  refine (Great_any (HX1.out.below L2.out (Nat.le_refl _)) HL1.out).mono ?_
  rintro e w3 ⟨gr, rfl, l9, hg⟩
  have L3 := Lib.hid (L2.out.trans (l9.mono L2.out.size))
  clear l9
  cases gr with
  | true =>
    clear hg
    go_wp2_with fail
    go_ret
    exact ⟨rfl, L3.out⟩
  | false =>
  have HS1 := Lib.hid (hg rfl)
  clear hg
  have HK1 := Lib.hid (okL HS1.out)
  go_wp2_with fail
  refine (GreatTexts_any (HX2.out.below L3.out (Nat.le_refl _)) HL2.out).mono ?_
  rintro e w4 ⟨gr, rfl, l9, hg⟩
  have L4 := Lib.hid (L3.out.trans (l9.mono L3.out.size))
  clear l9
  cases gr with
  | true =>
    clear hg
    go_wp2_with fail
    go_ret
    exact ⟨rfl, L4.out⟩
  | false =>
  have HS2 := Lib.hid (hg rfl)
  clear hg
  have HK2 := Lib.hid (okT HS2.out)
  go_wp2_with fail
  refine (GreatTexts_any (HX3.out.below L4.out (Nat.le_refl _)) HL3.out).mono ?_
  rintro e w5 ⟨gr, rfl, l9, hg⟩
  have L5 := Lib.hid (L4.out.trans (l9.mono L4.out.size))
  clear l9
  cases gr with
  | true =>
    clear hg
    go_wp2_with fail
    go_ret
    exact ⟨rfl, L5.out⟩
  | false =>
  have HS3 := Lib.hid (hg rfl)
  clear hg
  have HK3 := Lib.hid (okT HS3.out)
  go_wp2_with fail
  refine (GreatTexts_any (HX4.out.below L5.out (Nat.le_refl _)) HL4.out).mono ?_
  rintro e w6 ⟨gr, rfl, l9, hg⟩
  have L6 := Lib.hid (L5.out.trans (l9.mono L5.out.size))
  clear l9
  cases gr with
  | true =>
    clear hg
    go_wp2_with fail
    go_ret
    exact ⟨rfl, L6.out⟩
  | false =>
  have HS4 := Lib.hid (hg rfl)
  clear hg
  have HK4 := Lib.hid (okT HS4.out)
  by_cases hW : 1000 < (other.length : Int)
  · go_wp2_with fail
    go_ret
    exact ⟨rfl, L6.out⟩
  have HW : Hid (other.length ≤ 10000) := Lib.hid (by omega)
  have HDa := Lib.hid (Send_p (L := l) (tips := tips) (wants := wants) (haves := haves) (HX0.out.below L6.out (Nat.le_refl _)) (HX2.out.below L6.out (Nat.le_refl _)) (HX3.out.below L6.out (Nat.le_refl _)) (HX4.out.below L6.out (Nat.le_refl _)) (HO.out.below L6.out) HK0.out HK2.out HK3.out HK4.out)
  go_wp2_with fail
  refine HDa.out.mono ?_
  rintro e w7 ⟨Aa, na, ca, a, ea, rfl, hn, hr, hs, l9⟩
  subst hn
  have L7 := Lib.hid (L6.out.trans (l9.mono L6.out.size))
  have HRa := Lib.hid hr; have HIa := Lib.hid hs
  clear l9 hr hs HDa
  by_cases h0 : ea = 0
  case neg =>
    go_wp2_with fail
    go_ret
    exact ⟨rfl, L7.out⟩
  subst h0
  have HDn := Lib.hid (Closure_any (L := l) (tips := tips) (HX0.out.below L7.out (Nat.le_refl _)) (HX2.out.below L7.out (Nat.le_refl _)) (HO.out.below L7.out).eb (HO.out.below L7.out).tb HK0.out.len HK2.out.len HK0.out.el HK2.out.el)
  go_wp2_with fail
  refine HDn.out.mono ?_
  rintro e w8 ⟨vn, vz, n, z, rfl, ra, rb, hc, _, _, l9⟩
  obtain ⟨An, cn, rfl⟩ := ra.shape
  obtain ⟨Az, cz, rfl⟩ := rb.shape
  have L8 := Lib.hid (L7.out.trans (l9.mono L7.out.size)); have HRa' := Lib.hid (HRa.out.below l9 (Nat.le_refl _))
  have HRn := Lib.hid ra; have HRz := Lib.hid rb; have HCn := Lib.hid hc
  clear HRa l9 ra rb hc HDn
  have HRa := HRa'; clear HRa'
  have HWi := Lib.hid (IsSend.within HIa.out HCn.out)
  have hnl := (clo_okT HK0.out HCn.out).len
  have hal := (sent_ok HK0.out HIa.out).len
  go_wp2_with fail
  go_loopw [18] (fun vi wr => Hid (Below w8.heap.size w8 wr) ∧ ∃ i : Nat, i ≤ a.length ∧ vi = .int .i64 i) (fun vi _ => a.length - (intOf vi).toNat)
  case atStart => exact ⟨Lib.hid (Below.refl _ _), 0, Nat.zero_le _, rfl⟩
  case round =>
    obtain ⟨hB, k, hk, rfl⟩ := hrel
    by_cases hlt : k < a.length
    · obtain ⟨g, o, c', e, _, hg⟩ := HRa.out.pos (by omega)
      cases e
      have p0 := StrsR.cell (HRa.out.below hB.out (Nat.le_refl _)) k hlt
      have hm := HWi.out _ (getD_mem a [] k hlt)
      obtain ⟨j, hj⟩ : ∃ j, j = k - 1 := ⟨_, rfl⟩
      have hlo : 0 < k → a.getD j [] < a.getD k [] := fun h => rise_at HIa.out.ok.2.2.2.1 hlt (by omega)
      have hq0 := fun hjl : j < a.length => StrsR.cell (HRa.out.below hB.out (Nat.le_refl _)) j hjl
      obtain ⟨s, hs⟩ : ∃ s, s = a.getD k ([] : Bs) := ⟨_, rfl⟩
      obtain ⟨t, ht⟩ : ∃ t, t = a.getD j ([] : Bs) := ⟨_, rfl⟩
      rw [← hs] at p0 hm hlo
      rw [← ht] at hlo hq0
      unfold SV at p0 hq0
      clear hs ht
      have hltI : (k : Int) < (a.length : Int) := by omega
      go_upto_region 11 with fail
      go_cut [93] from 65 to 93 (fun t wx => t = .bool false ∧ Hid (Below wr.heap.size wr wx))
      case first =>
        have LD := Lib.hid (show Below wr.heap.size wr wr.drew from (Below.refl _ _).drew)
        refine AnyB.start (by kernel_rfl) ?_
        have HA := Lib.hid (has_yes ((HRn.out.below hB.out (Nat.le_refl _)).below LD.out (Nat.le_refl _)) (by omega) hm)
        have p0 := cell_to p0 LD.out
        have hq0 := fun hjl : j < a.length => cell_to (hq0 hjl) LD.out
        generalize wr.drew = wd at LD HA p0 hq0 ⊢
        by_cases hk0 : k = 0
        · subst hk0
          refine AnyB.take 0 (.slice An n.length cn) rfl (by kernel_rfl) (by kernel_rfl) (by kernel_rfl) (fun _ _ _ h => h) (by kernel_rfl) (fun W hW => by kernel_rfl) ?_
          refine AnyB.take 1 (.slice (some ⟨g, o, none⟩) a.length ca) rfl (by kernel_rfl) (by kernel_rfl) (by kernel_rfl) (fun _ _ _ h => h) (by kernel_rfl) (fun W hW => by kernel_rfl) ?_
          refine AnyB.take 2 (.int .i64 ((0 : Nat) : Int)) rfl (by kernel_rfl) (by kernel_rfl) (by kernel_rfl) (fun _ _ _ h => h) (by kernel_rfl) (fun W hW => by kernel_rfl) ?_
          refine AnyB.take 3 (.pointer (some ⟨g, o + 0, none⟩)) rfl (by kernel_rfl) (by kernel_rfl) (by kernel_rfl) (fun _ _ _ h => h) (by kernel_rfl) (fun W hW => y_index (sv := .slice (some ⟨g, o, none⟩) a.length ca) (iv := .int .i64 ((0 : Nat) : Int)) rfl (by kernel_rfl) (by kernel_rfl) (at_str W g o _ _ 0 hlt)) ?_
          refine AnyB.take 4 (.string ⟨s.toArray⟩) rfl (by kernel_rfl) (by kernel_rfl) (by kernel_rfl) (fun _ _ _ h => h) (by kernel_rfl) (fun W hW => y_load (sv := .pointer (some ⟨g, o + 0, none⟩)) rfl (by kernel_rfl) (l_str W _ _ _ (cell_to p0 hW))) ?_
          refine AnyB.call 5 19 #[.slice An n.length cn, .string ⟨s.toArray⟩] (by kernel_rfl) rfl (by kernel_rfl) (by kernel_rfl) ?_
          refine (HA.out).mono ?_
          rintro e w9 ⟨rfl, rfl⟩
          refine ⟨_, rfl, Below.refl _ _, ?_⟩
          refine AnyB.take 6 (.bool false) rfl (by kernel_rfl) (by kernel_rfl) (by kernel_rfl) (fun _ _ _ h => h) (by kernel_rfl) (fun W hW => by kernel_rfl) ?_
          refine AnyB.take 7 (.bool false) rfl (by kernel_rfl) (by kernel_rfl) (by kernel_rfl) (fun _ _ _ h => h) (by kernel_rfl) (fun W hW => by kernel_rfl) ?_
          refine AnyB.take 8 (.int .i64 ((0 : Nat) : Int)) rfl (by kernel_rfl) (by kernel_rfl) (by kernel_rfl) (fun _ _ _ h => h) (by kernel_rfl) (fun W hW => by kernel_rfl) ?_
          refine AnyB.take 9 (.bool false) rfl (by kernel_rfl) (by kernel_rfl) (by kernel_rfl) (fun _ _ _ h => h) (by kernel_rfl) (fun W hW => by kernel_rfl) ?_
          refine AnyB.take 10 (.bool false) rfl (by kernel_rfl) (by kernel_rfl) (by kernel_rfl) (fun _ _ _ h => h) (by kernel_rfl) (fun W hW => by kernel_rfl) ?_
          refine AnyB.skip 11 rfl (by kernel_rfl) (by kernel_rfl) (by kernel_rfl) (fun _ _ _ h => h) (by kernel_rfl) ?_
          refine AnyB.skip 12 rfl (by kernel_rfl) (by kernel_rfl) (by kernel_rfl) (fun _ _ _ h => h) (by kernel_rfl) ?_
          refine AnyB.skip 13 rfl (by kernel_rfl) (by kernel_rfl) (by kernel_rfl) (fun _ _ _ h => h) (by kernel_rfl) ?_
          refine AnyB.skip 14 rfl (by kernel_rfl) (by kernel_rfl) (by kernel_rfl) (fun _ _ _ h => h) (by kernel_rfl) ?_
          refine AnyB.skip 15 rfl (by kernel_rfl) (by kernel_rfl) (by kernel_rfl) (fun _ _ _ h => h) (by kernel_rfl) ?_
          refine AnyB.skip 16 rfl (by kernel_rfl) (by kernel_rfl) (by kernel_rfl) (fun _ _ _ h => h) (by kernel_rfl) ?_
          refine AnyB.skip 17 rfl (by kernel_rfl) (by kernel_rfl) (by kernel_rfl) (fun _ _ _ h => h) (by kernel_rfl) ?_
          refine AnyB.skip 18 rfl (by kernel_rfl) (by kernel_rfl) (by kernel_rfl) (fun _ _ _ h => h) (by kernel_rfl) ?_
          refine AnyB.skip 19 rfl (by kernel_rfl) (by kernel_rfl) (by kernel_rfl) (fun _ _ _ h => h) (by kernel_rfl) ?_
          refine AnyB.skip 20 rfl (by kernel_rfl) (by kernel_rfl) (by kernel_rfl) (fun _ _ _ h => h) (by kernel_rfl) ?_
          refine AnyB.take 21 (.bool false) rfl (by kernel_rfl) (by kernel_rfl) (by kernel_rfl) (fun _ _ _ h => h) (by kernel_rfl) (fun W hW => by kernel_rfl) ?_
          refine AnyB.take 22 (.bool false) rfl (by kernel_rfl) (by kernel_rfl) (by kernel_rfl) (fun _ _ _ h => h) (by kernel_rfl) (fun W hW => by kernel_rfl) ?_
          refine AnyB.done _ (by kernel_rfl) ?_
          go_simp
          go_wp2
          go_meet
          exact ⟨rfl, Lib.hid LD.out⟩
        · have hkp : 0 < k := by omega
          have hjl : j < a.length := by omega
          have r0 := hq0 hjl
          have hle : Op.bytesLess t s = true := less_yes (hlo hkp)
          have hsub : IntKind.i64.wrap ((k : Int) - 1) = (j : Int) := by rw [show ((k : Int) - 1) = (j : Int) by omega]; exact IntWalk.i64_in _ (by omega)
          refine AnyB.take 0 (.slice An n.length cn) rfl (by kernel_rfl) (by kernel_rfl) (by kernel_rfl) (fun _ _ _ h => h) (by kernel_rfl) (fun W hW => by kernel_rfl) ?_
          refine AnyB.take 1 (.slice (some ⟨g, o, none⟩) a.length ca) rfl (by kernel_rfl) (by kernel_rfl) (by kernel_rfl) (fun _ _ _ h => h) (by kernel_rfl) (fun W hW => by kernel_rfl) ?_
          refine AnyB.take 2 (.int .i64 (k : Int)) rfl (by kernel_rfl) (by kernel_rfl) (by kernel_rfl) (fun _ _ _ h => h) (by kernel_rfl) (fun W hW => by kernel_rfl) ?_
          refine AnyB.take 3 (.pointer (some ⟨g, o + k, none⟩)) rfl (by kernel_rfl) (by kernel_rfl) (by kernel_rfl) (fun _ _ _ h => h) (by kernel_rfl) (fun W hW => y_index (sv := .slice (some ⟨g, o, none⟩) a.length ca) (iv := .int .i64 (k : Int)) rfl (by kernel_rfl) (by kernel_rfl) (at_str W g o _ _ k hlt)) ?_
          refine AnyB.take 4 (.string ⟨s.toArray⟩) rfl (by kernel_rfl) (by kernel_rfl) (by kernel_rfl) (fun _ _ _ h => h) (by kernel_rfl) (fun W hW => y_load (sv := .pointer (some ⟨g, o + k, none⟩)) rfl (by kernel_rfl) (l_str W _ _ _ (cell_to p0 hW))) ?_
          refine AnyB.call 5 19 #[.slice An n.length cn, .string ⟨s.toArray⟩] (by kernel_rfl) rfl (by kernel_rfl) (by kernel_rfl) ?_
          refine (HA.out).mono ?_
          rintro e w9 ⟨rfl, rfl⟩
          refine ⟨_, rfl, Below.refl _ _, ?_⟩
          refine AnyB.take 6 (.bool false) rfl (by kernel_rfl) (by kernel_rfl) (by kernel_rfl) (fun _ _ _ h => h) (by kernel_rfl) (fun W hW => by kernel_rfl) ?_
          refine AnyB.take 7 (.bool false) rfl (by kernel_rfl) (by kernel_rfl) (by kernel_rfl) (fun _ _ _ h => h) (by kernel_rfl) (fun W hW => by kernel_rfl) ?_
          refine AnyB.take 8 (.int .i64 (k : Int)) rfl (by kernel_rfl) (by kernel_rfl) (by kernel_rfl) (fun _ _ _ h => h) (by kernel_rfl) (fun W hW => by kernel_rfl) ?_
          refine AnyB.take 9 (.bool true) rfl (by kernel_rfl) (by kernel_rfl) (by kernel_rfl) (fun _ _ _ h => h) (by kernel_rfl) (fun W hW => y_bin (x := .int .i64 (k : Int)) (y := .int .i64 0) rfl (by kernel_rfl) (by kernel_rfl) rfl (gtrH W k hkp)) ?_
          refine AnyB.take 10 (.bool true) rfl (by kernel_rfl) (by kernel_rfl) (by kernel_rfl) (fun _ _ _ h => h) (by kernel_rfl) (fun W hW => by kernel_rfl) ?_
          refine AnyB.take 11 (.slice (some ⟨g, o, none⟩) a.length ca) rfl (by kernel_rfl) (by kernel_rfl) (by kernel_rfl) (fun _ _ _ h => h) (by kernel_rfl) (fun W hW => by kernel_rfl) ?_
          refine AnyB.take 12 (.int .i64 (k : Int)) rfl (by kernel_rfl) (by kernel_rfl) (by kernel_rfl) (fun _ _ _ h => h) (by kernel_rfl) (fun W hW => by kernel_rfl) ?_
          refine AnyB.take 13 (.int .i64 (j : Int)) rfl (by kernel_rfl) (by kernel_rfl) (by kernel_rfl) (fun _ _ _ h => h) (by kernel_rfl) (fun W hW => y_bin (x := .int .i64 (k : Int)) (y := .int .i64 1) rfl (by kernel_rfl) (by kernel_rfl) rfl (sub_i64 W _ _ _ hsub)) ?_
          refine AnyB.take 14 (.pointer (some ⟨g, o + j, none⟩)) rfl (by kernel_rfl) (by kernel_rfl) (by kernel_rfl) (fun _ _ _ h => h) (by kernel_rfl) (fun W hW => y_index (sv := .slice (some ⟨g, o, none⟩) a.length ca) (iv := .int .i64 (j : Int)) rfl (by kernel_rfl) (by kernel_rfl) (at_str W g o _ _ j hjl)) ?_
          refine AnyB.take 15 (.string ⟨t.toArray⟩) rfl (by kernel_rfl) (by kernel_rfl) (by kernel_rfl) (fun _ _ _ h => h) (by kernel_rfl) (fun W hW => y_load (sv := .pointer (some ⟨g, o + j, none⟩)) rfl (by kernel_rfl) (l_str W _ _ _ (cell_to r0 hW))) ?_
          refine AnyB.take 16 (.slice (some ⟨g, o, none⟩) a.length ca) rfl (by kernel_rfl) (by kernel_rfl) (by kernel_rfl) (fun _ _ _ h => h) (by kernel_rfl) (fun W hW => by kernel_rfl) ?_
          refine AnyB.take 17 (.int .i64 (k : Int)) rfl (by kernel_rfl) (by kernel_rfl) (by kernel_rfl) (fun _ _ _ h => h) (by kernel_rfl) (fun W hW => by kernel_rfl) ?_
          refine AnyB.take 18 (.pointer (some ⟨g, o + k, none⟩)) rfl (by kernel_rfl) (by kernel_rfl) (by kernel_rfl) (fun _ _ _ h => h) (by kernel_rfl) (fun W hW => y_index (sv := .slice (some ⟨g, o, none⟩) a.length ca) (iv := .int .i64 (k : Int)) rfl (by kernel_rfl) (by kernel_rfl) (at_str W g o _ _ k hlt)) ?_
          refine AnyB.take 19 (.string ⟨s.toArray⟩) rfl (by kernel_rfl) (by kernel_rfl) (by kernel_rfl) (fun _ _ _ h => h) (by kernel_rfl) (fun W hW => y_load (sv := .pointer (some ⟨g, o + k, none⟩)) rfl (by kernel_rfl) (l_str W _ _ _ (cell_to p0 hW))) ?_
          refine AnyB.take 20 (.bool false) rfl (by kernel_rfl) (by kernel_rfl) (by kernel_rfl) (fun _ _ _ h => h) (by kernel_rfl) (fun W hW => y_bin (x := .string ⟨t.toArray⟩) (y := .string ⟨s.toArray⟩) rfl (by kernel_rfl) (by kernel_rfl) rfl (ge_strH W _ _ hle)) ?_
          refine AnyB.take 21 (.bool false) rfl (by kernel_rfl) (by kernel_rfl) (by kernel_rfl) (fun _ _ _ h => h) (by kernel_rfl) (fun W hW => by kernel_rfl) ?_
          refine AnyB.take 22 (.bool false) rfl (by kernel_rfl) (by kernel_rfl) (by kernel_rfl) (fun _ _ _ h => h) (by kernel_rfl) (fun W hW => by kernel_rfl) ?_
          refine AnyB.done _ (by kernel_rfl) ?_
          go_simp
          go_wp2
          go_meet
          exact ⟨rfl, Lib.hid LD.out⟩
      case rest =>
      obtain ⟨rfl, hbc⟩ := hcut
      have HBc := Lib.hid (hB.out.trans (hbc.out.mono hB.out.size))
      clear p0 hq0 hbc hlo hm hj
      go_wp2_with fail
      go_roundw
      case rel => exact ⟨HBc, k + 1, hlt, by go_num⟩
      case measure => simp [intOf]; omega
    obtain rfl : k = a.length := by omega
    obtain ⟨w9, hw⟩ : ∃ y, y = wr := ⟨_, rfl⟩
    subst hw
    have l9 := hB.out
    clear hk hlt
    have L9 := Lib.hid (L8.out.trans (l9.mono L8.out.size)); have HRa' := Lib.hid (HRa.out.below l9 (Nat.le_refl _)); have HRn' := Lib.hid (HRn.out.below l9 (Nat.le_refl _)); have HRz' := Lib.hid (HRz.out.below l9 (Nat.le_refl _))
    clear HRa HRn HRz l9
    have HRa := HRa'; clear HRa'
    have HRn := HRn'; clear HRn'
    have HRz := HRz'; clear HRz'
    have hs0 := HS0.out.1
    have hs1 := HS1.out.1
    have hs4 := HS4.out.1
    have B9 := Lib.hid (below_new w9 (.cells #[] 54))
    go_wp2_with (at_builtin; refine wpList_all heldK rfl _ _ rfl w9.heap.size (.slice (some ⟨w9.heap.size, 0, none⟩) 0 0) (.slice A0 l.length c0) [] l rfl rfl (OwK.new0 w9 _ (Nat.le_refl _)) (HX0.out.below ((L9.out.trans (B9.out.mono L9.out.size))) (Nat.le_refl _)) (by simp; omega) (by decide) B9.out.size ?_)
    intro vaj wa hNa hba
    have HNa := Lib.hid hNa; have HBa := Lib.hid (B9.out.trans hba)
    clear hNa hba
    go_wp2_with (at_builtin; refine wpList_all heldK rfl _ _ rfl w9.heap.size vaj (.slice A1 more.length c1) ([] ++ l) more rfl rfl HNa.out (HX1.out.below ((L9.out.trans (HBa.out.mono L9.out.size))) (Nat.le_refl _)) (by simp; omega) (by decide) HBa.out.size ?_)
    intro vj w10 hNb hbb
    have l9 := HBa.out.trans hbb
    have hr : HldsR w10 vj (l ++ more) := OwK.rd heldC_len hNb
    obtain ⟨Aj, cj, rfl⟩ := hr.shape
    obtain ⟨nj, hn⟩ : ∃ n, n = (l ++ more).length := ⟨_, rfl⟩
    rw [← hn] at hr ⊢
    clear hn
    have L10 := Lib.hid (L9.out.trans (l9.mono L9.out.size)); have HRa' := Lib.hid (HRa.out.below l9 (Nat.le_refl _)); have HRn' := Lib.hid (HRn.out.below l9 (Nat.le_refl _)); have HRz' := Lib.hid (HRz.out.below l9 (Nat.le_refl _))
    have HRj := Lib.hid hr
    clear HRa HRn HRz l9 hr hNb hbb HNa HBa B9
    have HRa := HRa'; clear HRa'
    have HRn := HRn'; clear HRn'
    have HRz := HRz'; clear HRz'
    have HDb := Lib.hid (Send_p (L := (l ++ more)) (tips := tips) (wants := wants) (haves := haves) HRj.out (HX2.out.below L10.out (Nat.le_refl _)) (HX3.out.below L10.out (Nat.le_refl _)) (HX4.out.below L10.out (Nat.le_refl _)) (HO.out.below L10.out) (okL_app HS0.out HS1.out) HK2.out HK3.out HK4.out)
    go_wp2_with fail
    refine HDb.out.mono ?_
    rintro e w11 ⟨Ab, nb, cb, b, eb, rfl, hn, hr, hs, l9⟩
    subst hn
    have L11 := Lib.hid (L10.out.trans (l9.mono L10.out.size)); have HRa' := Lib.hid (HRa.out.below l9 (Nat.le_refl _)); have HRn' := Lib.hid (HRn.out.below l9 (Nat.le_refl _)); have HRz' := Lib.hid (HRz.out.below l9 (Nat.le_refl _)); have HRj' := Lib.hid (HRj.out.below l9 (Nat.le_refl _))
    have HRb := Lib.hid hr; have HIb := Lib.hid hs
    clear HRa HRn HRz HRj l9 hr hs HDb
    have HRa := HRa'; clear HRa'
    have HRn := HRn'; clear HRn'
    have HRz := HRz'; clear HRz'
    have HRj := HRj'; clear HRj'
    have B11 := Lib.hid (below_new w11 (.cells #[] 9))
    go_wp2_with (at_builtin; refine wpList_all strK rfl _ _ rfl w11.heap.size (.slice (some ⟨w11.heap.size, 0, none⟩) 0 0) (.slice A4 haves.length c4) [] haves rfl rfl (OwK.new0 w11 _ (Nat.le_refl _)) (HX4.out.below (L11.out.trans (B11.out.mono L11.out.size)) (Nat.le_refl _)) (by simp; omega) (by decide) B11.out.size ?_)
    intro vaj wa hNa hba
    have HNa := Lib.hid hNa; have HBa := Lib.hid (B11.out.trans hba)
    clear hNa hba
    go_wp2_with (at_builtin; refine wpList_one strK rfl _ _ rfl w11.heap.size vaj ([] ++ haves) other _ rfl rfl rfl HNa.out (by simp; omega) (by decide) HBa.out.size ?_)
    intro vs w12 hNb hbb
    have l9 := HBa.out.trans hbb
    have hr : StrsR w12 vs (haves ++ [other]) := OwK.rd strC_len hNb
    obtain ⟨As, cs, rfl⟩ := hr.shape
    obtain ⟨ns, hn⟩ : ∃ n, n = (haves ++ [other]).length := ⟨_, rfl⟩
    rw [← hn] at hr ⊢
    clear hn
    have L12 := Lib.hid (L11.out.trans (l9.mono L11.out.size)); have HRa' := Lib.hid (HRa.out.below l9 (Nat.le_refl _)); have HRn' := Lib.hid (HRn.out.below l9 (Nat.le_refl _)); have HRz' := Lib.hid (HRz.out.below l9 (Nat.le_refl _)); have HRj' := Lib.hid (HRj.out.below l9 (Nat.le_refl _)); have HRb' := Lib.hid (HRb.out.below l9 (Nat.le_refl _))
    have HRs := Lib.hid hr
    clear HRa HRn HRz HRj HRb l9 hr hNb hbb HNa HBa B11
    have HRa := HRa'; clear HRa'
    have HRn := HRn'; clear HRn'
    have HRz := HRz'; clear HRz'
    have HRj := HRj'; clear HRj'
    have HRb := HRb'; clear HRb'
    have HDx := Lib.hid (Send_p (L := l) (tips := tips) (wants := wants) (haves := (haves ++ [other])) (HX0.out.below L12.out (Nat.le_refl _)) (HX2.out.below L12.out (Nat.le_refl _)) (HX3.out.below L12.out (Nat.le_refl _)) HRs.out (HO.out.below L12.out) HK0.out HK2.out HK3.out (okT_snoc HS4.out HW.out))
    go_wp2_with fail
    refine HDx.out.mono ?_
    rintro e w13 ⟨Ax, nx, cx, x, ex, rfl, hn, hr, hs, l9⟩
    subst hn
    have L13 := Lib.hid (L12.out.trans (l9.mono L12.out.size)); have HRa' := Lib.hid (HRa.out.below l9 (Nat.le_refl _)); have HRn' := Lib.hid (HRn.out.below l9 (Nat.le_refl _)); have HRz' := Lib.hid (HRz.out.below l9 (Nat.le_refl _)); have HRj' := Lib.hid (HRj.out.below l9 (Nat.le_refl _)); have HRb' := Lib.hid (HRb.out.below l9 (Nat.le_refl _)); have HRs' := Lib.hid (HRs.out.below l9 (Nat.le_refl _))
    have HRx := Lib.hid hr; have HIx := Lib.hid hs
    clear HRa HRn HRz HRj HRb HRs l9 hr hs HDx
    have HRa := HRa'; clear HRa'
    have HRn := HRn'; clear HRn'
    have HRz := HRz'; clear HRz'
    have HRj := HRj'; clear HRj'
    have HRb := HRb'; clear HRb'
    have HRs := HRs'; clear HRs'
    obtain ⟨rfl, e1⟩ := HIa.out.more HIb.out
    obtain rfl := HIa.out.codes HIx.out
    have h1 := SameTexts_any HRa.out HRb.out (by omega)
    rw [decide_eq_true e1] at h1
    have H1 := Lib.hid h1
    clear h1 e1
    go_wp2_with fail
    refine H1.out.mono ?_
    rintro e w14 ⟨rfl, l9⟩
    have L14 := Lib.hid (L13.out.trans (l9.mono L13.out.size)); have HRa' := Lib.hid (HRa.out.below l9 (Nat.le_refl _)); have HRn' := Lib.hid (HRn.out.below l9 (Nat.le_refl _)); have HRz' := Lib.hid (HRz.out.below l9 (Nat.le_refl _)); have HRj' := Lib.hid (HRj.out.below l9 (Nat.le_refl _)); have HRb' := Lib.hid (HRb.out.below l9 (Nat.le_refl _)); have HRs' := Lib.hid (HRs.out.below l9 (Nat.le_refl _)); have HRx' := Lib.hid (HRx.out.below l9 (Nat.le_refl _))
    clear HRa HRn HRz HRj HRb HRs HRx l9 H1
    have HRa := HRa'; clear HRa'
    have HRn := HRn'; clear HRn'
    have HRz := HRz'; clear HRz'
    have HRj := HRj'; clear HRj'
    have HRb := HRb'; clear HRb'
    have HRs := HRs'; clear HRs'
    have HRx := HRx'; clear HRx'
    by_cases ho : other ∈ n
    · have HA := Lib.hid (has_yes HRn.out (by omega) ho)
      clear ho
      go_wp2_with fail
      refine HA.out.mono ?_
      rintro e w99 ⟨rfl, rfl⟩
      go_wp2_with fail
      go_ret
      exact ⟨by simp, L14.out⟩
    · have HA := Lib.hid (has_no HRn.out (by omega) ho)
      have h1 := SameTexts_any HRa.out HRx.out (by omega)
      rw [decide_eq_true (IsSend.other HIa.out HIx.out HCn.out ho rfl)] at h1
      have H1 := Lib.hid h1
      clear h1 ho
      go_wp2_with fail
      refine HA.out.mono ?_
      rintro e w99 ⟨rfl, rfl⟩
      go_wp2_with fail
      refine H1.out.mono ?_
      rintro e w99 ⟨rfl, l9⟩
      have L99 := Lib.hid (L14.out.trans (l9.mono L14.out.size))
      clear l9
      go_wp2_with fail
      go_ret
      exact ⟨by simp, L99.out⟩
end Go.Proofs.YtialgldmogigfaaGreatDoor.Ct
