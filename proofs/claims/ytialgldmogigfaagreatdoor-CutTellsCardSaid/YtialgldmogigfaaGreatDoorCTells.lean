/-
  CutTells: the document's Send and Union, and the law.
-/
import Derived.Test.YtialgldmogigfaaGreatDoorC30
namespace Go.Proofs.YtialgldmogigfaaGreatDoor.Ct
open Go.Proofs.YtialgldmogigfaaGreatDoor
open Go Go.RowKit Go.Maps

set_option maxHeartbeats 16000000 in
set_option maxRecDepth 100000 in
theorem RSend_p {w0 : World} {v tv wv hv : Value} {l : List Hld} {tips wants haves : List Bs} (h0 : HldsR w0 v l) (h1 : StrsR w0 tv tips) (h2 : StrsR w0 wv wants) (h3 : StrsR w0 hv haves) (hL : OkL l) (hT : SmallT tips) (hW : SmallT wants) (hH : SmallT haves) :
    Calls Tryz.prog 14 #[v, tv, wv, hv] w0 (SendP l tips wants haves w0) := by
  obtain ⟨A0, c0, rfl⟩ := h0.shape
  obtain ⟨A1, c1, rfl⟩ := h1.shape
  obtain ⟨A2, c2, rfl⟩ := h2.shape
  obtain ⟨A3, c3, rfl⟩ := h3.shape
  have HX0 := Lib.hid h0; have HX1 := Lib.hid h1; have HX2 := Lib.hid h2; have HX3 := Lib.hid h3; have HK0 := Lib.hid hL; have HK1 := Lib.hid (okT hT); have HK2 := Lib.hid (okT hW); have HK3 := Lib.hid (okT hH)
  have L0 := Lib.hid (Below.refl w0.heap.size w0)
  have ht1 := hT.1; have ht2 := hW.1; have ht3 := hH.1
  clear h0 h1 h2 h3 hL hT hW hH
  by_cases hz : wants.length = 0
  · have HE : Hid (IsSend l tips wants haves [] 1) := Lib.hid (.inl ⟨rfl, rfl, .inl (List.eq_nil_of_length_eq_zero hz)⟩)
    rw [hz]
    go_enter Tryz.func14, Tryz.ntmps14
    go_wp2_with fail
    go_ret2
    exact ⟨_, _, _, [], 1, rfl, rfl, strs_nil _, HE.out, L0.out⟩
  have hzb : ((wants.length : Int) == 0) = false := by simpa using hz
  have hzc : ¬ (wants.length : Int) = 0 := by omega
  have HNe : Hid (wants ≠ []) := Lib.hid fun e => hz (by rw [e]; rfl)
  clear hz
  go_enter Tryz.func14, Tryz.ntmps14
  go_wp2_with fail
  go_loop [10] (fun vi => ∃ k : Nat, k ≤ wants.length ∧ vi = .int .i64 k ∧ Hid (∀ x ∈ wants.take k, x ∈ tips)) (fun vi => wants.length - (intOf vi).toNat)
  case atStart => exact ⟨0, Nat.zero_le _, rfl, Lib.hid (by simp)⟩
  case round =>
    obtain ⟨k, hk, rfl, hS⟩ := hrel
    by_cases hlt : k < wants.length
    · obtain ⟨g, o, c', e, _, hg⟩ := HX2.out.pos (by omega)
      cases e
      have p0 := StrsR.cell HX2.out k hlt
      have htk := take_getD wants [] k hlt
      have hmw := getD_mem wants [] k hlt
      obtain ⟨s, hs⟩ : ∃ s, s = wants.getD k ([] : Bs) := ⟨_, rfl⟩
      rw [← hs] at p0 htk hmw
      unfold SV at p0
      clear hs
      by_cases hm : s ∈ tips
      · have HA := Lib.hid (has_yes HX1.out (by omega) hm)
        have HS2 : Hid (∀ x ∈ wants.take (k + 1), x ∈ tips) := Lib.hid fun x hx => by
          rw [htk] at hx
          rcases List.mem_append.1 hx with h | h
          · exact hS.out x h
          · rw [List.mem_singleton.1 h]; exact hm
        clear htk hmw hm
        go_wp2_with fail
        refine HA.out.mono ?_
        rintro e w9 ⟨rfl, rfl⟩
        go_wp2_with fail
        go_round
        case rel => exact ⟨k + 1, hlt, by go_num, HS2⟩
        case measure => simp [intOf]; omega
      · have HA := Lib.hid (has_no HX1.out (by omega) hm)
        have HE : Hid (IsSend l tips wants haves [] 1) := Lib.hid (.inl ⟨rfl, rfl, .inr ⟨s, hmw, hm⟩⟩)
        clear htk hmw hm
        go_wp2_with fail
        refine HA.out.mono ?_
        rintro e w9 ⟨rfl, rfl⟩
        go_wp2_with fail
        go_ret2
        exact ⟨_, _, _, [], 1, rfl, rfl, strs_nil _, HE.out, L0.out⟩
    obtain rfl : k = wants.length := by omega
    rw [List.take_length] at hS
    have HSub := Lib.hid hS.out
    clear hk hlt hS
    have HDal := Lib.hid (RClosure_any (L := l) (tips := tips) HX0.out HX1.out HK0.out.len HK1.out.len (fun x hx => (HK0.out.el x hx).2))
    go_wp2_with fail
    refine HDal.out.mono ?_
    rintro e w1 ⟨val, vlk, al, lk, rfl, ra, rb, hc, _, _, l9⟩
    obtain ⟨Aal, cal, rfl⟩ := ra.shape
    obtain ⟨Alk, clk, rfl⟩ := rb.shape
    have L1 := Lib.hid (L0.out.trans (l9.mono L0.out.size))
    have HRal := Lib.hid ra; have HRlk := Lib.hid rb; have HCal := Lib.hid hc
    clear l9 ra rb hc HDal
    have hlk := lk_iff HCal.out
    by_cases hp : 0 < lk.length
    · have hpI : (0 : Int) < (lk.length : Int) := by omega
      obtain ⟨x, hx⟩ := hlk.2 hp
      have HE : Hid (IsSend l tips wants haves [] 51) := Lib.hid (.inr (.inl ⟨rfl, rfl, HNe.out, HSub.out, x, hx⟩))
      clear hlk hp hx
      go_wp2_with fail
      go_ret2
      exact ⟨_, _, _, [], 51, rfl, rfl, strs_nil _, HE.out, L1.out⟩
    have HTh : Hid (∀ x, Reach (wfL l) tips x → thB l x = true) := Lib.hid fun x hx => by
      cases e : thB l x with
      | true => rfl
      | false => exact absurd (hlk.1 ⟨x, hx, e⟩) hp
    obtain rfl : lk = [] := List.eq_nil_of_length_eq_zero (by omega)
    clear hlk hp
    have HN0 : Hid (OwK 9 1 strC w1 w1.heap.size (.slice none 0 0) ((haves.take 0).filter (hasB al))) := Lib.hid (OwK.nil _ _ _ _ _)
    have HHa := Lib.hid (HX3.out.below L1.out (Nat.le_refl _))
    have hnl : al.length ≤ 600000 := (by have := (clo_okT HK0.out HCal.out).len; omega)
    have hhl : haves.length ≤ 600000 := (by omega)
    go_wp2_with fail
    go_loopw [14, 13] (fun vi vz wr => Hid (Below w1.heap.size w1 wr) ∧ ∃ i : Nat, i ≤ haves.length ∧ vi = .int .i64 i ∧ Hid (OwK 9 1 strC wr w1.heap.size vz ((haves.take i).filter (hasB al)))) (fun vi _ _ => haves.length - (intOf vi).toNat)
    case atStart => exact ⟨Lib.hid (Below.refl _ _), 0, Nat.zero_le _, rfl, HN0⟩
    case round =>
      obtain ⟨hB, i, hi, rfl, hN⟩ := hrel
      by_cases hlt : i < haves.length
      · obtain ⟨g, o, c', e, _, hg⟩ := HHa.out.pos (by omega)
        cases e
        have p0 := StrsR.cell (HHa.out.below hB.out (Nat.le_refl _)) i hlt
        have hsn := keep_snoc (p := (hasB al)) hlt
        have hpl := List.length_filter_le (hasB al) (haves.take i)
        have hpl2 := List.length_take_le i haves
        obtain ⟨s, hs⟩ : ∃ s, s = haves.getD i ([] : Bs) := ⟨_, rfl⟩
        rw [← hs] at p0 hsn
        unfold SV at p0
        have HPL : Hid (((haves.take i).filter (hasB al)).length + 1 ≤ 1000000) := Lib.hid (by omega)
        have HSn := Lib.hid hsn
        clear hs hsn hpl hpl2
        by_cases hm : s ∈ al
        · have HA := Lib.hid (has_yes (HRal.out.below hB.out (Nat.le_refl _)) (by omega) hm)
          have HS3 := Lib.hid (HSn.out.trans (if_pos (by simp [hasB_iff.2 hm])))
          clear hm
          go_wp2_with fail
          refine HA.out.mono ?_
          rintro e w9 ⟨rfl, rfl⟩
          go_wp2_with (at_builtin; refine wpList_one strK rfl _ _ rfl w1.heap.size u13 ((haves.take i).filter (hasB al)) s _ rfl rfl rfl hN.out HPL.out (by decide) hB.out.size ?_)
          intro z' w98 hN3 hb3
          have HN3 := Lib.hid hN3
          have HB3 := Lib.hid (hB.out.trans hb3)
          clear hN3 hb3 p0
          go_wp2_with fail
          go_roundw
          case rel => exact ⟨HB3, i + 1, hlt, by go_num, Lib.hid (by rw [HS3.out]; exact HN3.out)⟩
          case measure => simp [intOf]; omega
        · have HA := Lib.hid (has_no (HRal.out.below hB.out (Nat.le_refl _)) (by omega) hm)
          have HS3 := Lib.hid (HSn.out.trans (if_neg (by simp [hasB_no.2 hm])))
          clear hm
          go_wp2_with fail
          refine HA.out.mono ?_
          rintro e w9 ⟨rfl, rfl⟩
          go_wp2_with fail
          go_roundw
          case rel => exact ⟨hB, i + 1, hlt, by go_num, Lib.hid (by rw [HS3.out]; exact hN.out)⟩
          case measure => simp [intOf]; omega
      obtain rfl : i = haves.length := by omega
      rw [List.take_length] at hN
      obtain ⟨cm, hcm⟩ : ∃ z, z = haves.filter (hasB al) := ⟨_, rfl⟩
      rw [← hcm] at hN
      have HMcm : Hid (∀ s, s ∈ cm ↔ s ∈ haves ∧ s ∈ al) := Lib.hid fun s => by rw [hcm, List.mem_filter]; rw [hasB_iff]
      have HEcm := Lib.hid hcm
      have hr : StrsR wr u13 cm := OwK.rd strC_len hN.out
      obtain ⟨Acm, ccm, rfl⟩ := hr.shape
      obtain ⟨ncm, hn⟩ : ∃ n, n = cm.length := ⟨_, rfl⟩
      rw [← hn] at hr ⊢
      have HNcm := Lib.hid hn
      obtain ⟨w2, hw⟩ : ∃ y, y = wr := ⟨_, rfl⟩
      subst hw
      have HRcm := Lib.hid hr
      have l9 := hB.out
      clear hcm hN hn hi hlt hnl hhl HHa HN0
      have L2 := Lib.hid (L1.out.trans (l9.mono L1.out.size)); have HRal' := Lib.hid (HRal.out.below l9 (Nat.le_refl _)); have HRlk' := Lib.hid (HRlk.out.below l9 (Nat.le_refl _))
      clear HRal HRlk l9 hr
      have HRal := HRal'; clear HRal'
      have HRlk := HRlk'; clear HRlk'
      have HOm : Hid (OkT cm) := Lib.hid (by rw [HEcm.out]; exact HK3.out.filter _)
      have HLm : Hid (cm.length ≤ 1000) := Lib.hid (by rw [HEcm.out]; have := List.length_filter_le (hasB al) haves; omega)
      have HDou := Lib.hid (RClosure_any (L := l) (tips := wants) (HX0.out.below L2.out (Nat.le_refl _)) (HX2.out.below L2.out (Nat.le_refl _)) HK0.out.len HK2.out.len (fun x hx => (HK0.out.el x hx).2))
      go_wp2_with fail
      refine HDou.out.mono ?_
      rintro e w3 ⟨vou, vz1, ou, z1, rfl, ra, rb, hc, _, _, l9⟩
      obtain ⟨Aou, cou, rfl⟩ := ra.shape
      obtain ⟨Az1, cz1, rfl⟩ := rb.shape
      have L3 := Lib.hid (L2.out.trans (l9.mono L2.out.size)); have HRal' := Lib.hid (HRal.out.below l9 (Nat.le_refl _)); have HRlk' := Lib.hid (HRlk.out.below l9 (Nat.le_refl _)); have HRcm' := Lib.hid (HRcm.out.below l9 (Nat.le_refl _))
      have HRou := Lib.hid ra; have HRz1 := Lib.hid rb; have HCou := Lib.hid hc
      clear HRal HRlk HRcm l9 ra rb hc HDou
      have HRal := HRal'; clear HRal'
      have HRlk := HRlk'; clear HRlk'
      have HRcm := HRcm'; clear HRcm'
      have HDth := Lib.hid (RClosure_any (L := l) (tips := cm) (HX0.out.below L3.out (Nat.le_refl _)) HRcm.out HK0.out.len HOm.out.len (fun x hx => (HK0.out.el x hx).2))
      go_wp2_with fail
      refine HDth.out.mono ?_
      rintro e w4 ⟨vth, vz2, th, z2, rfl, ra, rb, hc, _, _, l9⟩
      obtain ⟨Ath, cth, rfl⟩ := ra.shape
      obtain ⟨Az2, cz2, rfl⟩ := rb.shape
      have L4 := Lib.hid (L3.out.trans (l9.mono L3.out.size)); have HRal' := Lib.hid (HRal.out.below l9 (Nat.le_refl _)); have HRlk' := Lib.hid (HRlk.out.below l9 (Nat.le_refl _)); have HRcm' := Lib.hid (HRcm.out.below l9 (Nat.le_refl _)); have HRou' := Lib.hid (HRou.out.below l9 (Nat.le_refl _)); have HRz1' := Lib.hid (HRz1.out.below l9 (Nat.le_refl _))
      have HRth := Lib.hid ra; have HRz2 := Lib.hid rb; have HCth := Lib.hid hc
      clear HRal HRlk HRcm HRou HRz1 l9 ra rb hc HDth
      have HRal := HRal'; clear HRal'
      have HRlk := HRlk'; clear HRlk'
      have HRcm := HRcm'; clear HRcm'
      have HRou := HRou'; clear HRou'
      have HRz1 := HRz1'; clear HRz1'
      have HN0 : Hid (OwK 9 1 strC w4 w4.heap.size (.slice none 0 0) ((ou.take 0).filter (fun s => !hasB th s))) := Lib.hid (OwK.nil _ _ _ _ _)
      have HHa := Lib.hid HRou.out
      have hnl : th.length ≤ 600000 := (by have := (clo_okT HK0.out HCth.out).len; omega)
      have hhl : ou.length ≤ 600000 := (by have := (clo_okT HK0.out HCou.out).len; omega)
      go_wp2_with fail
      go_loopw [20, 19] (fun vi vz wr => Hid (Below w4.heap.size w4 wr) ∧ ∃ i : Nat, i ≤ ou.length ∧ vi = .int .i64 i ∧ Hid (OwK 9 1 strC wr w4.heap.size vz ((ou.take i).filter (fun s => !hasB th s)))) (fun vi _ _ => ou.length - (intOf vi).toNat)
      case atStart => exact ⟨Lib.hid (Below.refl _ _), 0, Nat.zero_le _, rfl, HN0⟩
      case round =>
        obtain ⟨hB, i, hi, rfl, hN⟩ := hrel
        by_cases hlt : i < ou.length
        · obtain ⟨g, o, c', e, _, hg⟩ := HHa.out.pos (by omega)
          cases e
          have p0 := StrsR.cell (HHa.out.below hB.out (Nat.le_refl _)) i hlt
          have hsn := keep_snoc (p := (fun s => !hasB th s)) hlt
          have hpl := List.length_filter_le (fun s => !hasB th s) (ou.take i)
          have hpl2 := List.length_take_le i ou
          obtain ⟨s, hs⟩ : ∃ s, s = ou.getD i ([] : Bs) := ⟨_, rfl⟩
          rw [← hs] at p0 hsn
          unfold SV at p0
          have HPL : Hid (((ou.take i).filter (fun s => !hasB th s)).length + 1 ≤ 1000000) := Lib.hid (by omega)
          have HSn := Lib.hid hsn
          clear hs hsn hpl hpl2
          by_cases hm : s ∈ th
          · have HA := Lib.hid (has_yes (HRth.out.below hB.out (Nat.le_refl _)) (by omega) hm)
            have HS3 := Lib.hid (HSn.out.trans (if_neg (by simp [hasB_iff.2 hm])))
            clear hm
            go_wp2_with fail
            refine HA.out.mono ?_
            rintro e w9 ⟨rfl, rfl⟩
            go_wp2_with fail
            go_roundw
            case rel => exact ⟨hB, i + 1, hlt, by go_num, Lib.hid (by rw [HS3.out]; exact hN.out)⟩
            case measure => simp [intOf]; omega
          · have HA := Lib.hid (has_no (HRth.out.below hB.out (Nat.le_refl _)) (by omega) hm)
            have HS3 := Lib.hid (HSn.out.trans (if_pos (by simp [hasB_no.2 hm])))
            clear hm
            go_wp2_with fail
            refine HA.out.mono ?_
            rintro e w9 ⟨rfl, rfl⟩
            go_wp2_with (at_builtin; refine wpList_one strK rfl _ _ rfl w4.heap.size u19 ((ou.take i).filter (fun s => !hasB th s)) s _ rfl rfl rfl hN.out HPL.out (by decide) hB.out.size ?_)
            intro z' w98 hN3 hb3
            have HN3 := Lib.hid hN3
            have HB3 := Lib.hid (hB.out.trans hb3)
            clear hN3 hb3 p0
            go_wp2_with fail
            go_roundw
            case rel => exact ⟨HB3, i + 1, hlt, by go_num, Lib.hid (by rw [HS3.out]; exact HN3.out)⟩
            case measure => simp [intOf]; omega
        obtain rfl : i = ou.length := by omega
        rw [List.take_length] at hN
        obtain ⟨sn, hsn⟩ : ∃ z, z = ou.filter (fun s => !hasB th s) := ⟨_, rfl⟩
        rw [← hsn] at hN
        have HMsn : Hid (∀ s, s ∈ sn ↔ s ∈ ou ∧ s ∉ th) := Lib.hid fun s => by rw [hsn, List.mem_filter]; rw [Bool.not_eq_true', hasB_no]
        have HEsn := Lib.hid hsn
        have hr : StrsR wr u19 sn := OwK.rd strC_len hN.out
        obtain ⟨Asn, csn, rfl⟩ := hr.shape
        obtain ⟨nsn, hn⟩ : ∃ n, n = sn.length := ⟨_, rfl⟩
        rw [← hn] at hr ⊢
        have HNsn := Lib.hid hn
        obtain ⟨w5, hw⟩ : ∃ y, y = wr := ⟨_, rfl⟩
        subst hw
        have HRsn := Lib.hid hr
        have l9 := hB.out
        clear hsn hN hn hi hlt hnl hhl HHa HN0
        have L5 := Lib.hid (L4.out.trans (l9.mono L4.out.size)); have HRal' := Lib.hid (HRal.out.below l9 (Nat.le_refl _)); have HRlk' := Lib.hid (HRlk.out.below l9 (Nat.le_refl _)); have HRcm' := Lib.hid (HRcm.out.below l9 (Nat.le_refl _)); have HRou' := Lib.hid (HRou.out.below l9 (Nat.le_refl _)); have HRz1' := Lib.hid (HRz1.out.below l9 (Nat.le_refl _)); have HRth' := Lib.hid (HRth.out.below l9 (Nat.le_refl _)); have HRz2' := Lib.hid (HRz2.out.below l9 (Nat.le_refl _))
        clear HRal HRlk HRcm HRou HRz1 HRth HRz2 l9 hr
        have HRal := HRal'; clear HRal'
        have HRlk := HRlk'; clear HRlk'
        have HRcm := HRcm'; clear HRcm'
        have HRou := HRou'; clear HRou'
        have HRz1 := HRz1'; clear HRz1'
        have HRth := HRth'; clear HRth'
        have HRz2 := HRz2'; clear HRz2'
        have HT : ∀ x, Reach (wfL l) wants x → Reach (wfL l) tips x := fun x hx => Reach.trans (fun y hy => .tip (HSub.out y hy)) hx
        have HC : ∀ y, y ∈ cm ↔ y ∈ haves ∧ Reach (wfL l) tips y := fun y => by
          rw [HMcm.out]
          exact and_congr_right fun _ => ⟨fun h => ((HCal.out.ma y).1 h).1, fun h => (HCal.out.ma y).2 ⟨h, HTh.out y h⟩⟩
        have HE : Hid (IsSend l tips wants haves sn 0) := Lib.hid (.inr (.inr ⟨rfl, HNe.out, HSub.out, HTh.out, by rw [HEsn.out]; exact HCou.out.ra.sublist List.filter_sublist, cm, HC, fun x => by
          rw [HMsn.out, HCou.out.ma, HCth.out.ma]
          constructor
          · rintro ⟨⟨h1, h2⟩, h3⟩
            exact ⟨h1, fun h => h3 ⟨h, h2⟩⟩
          · rintro ⟨h1, h3⟩
            exact ⟨⟨h1, HTh.out x (HT x h1)⟩, fun h => h3 h.1⟩⟩))
        clear HT HC
        go_wp2_with fail
        go_ret2
        exact ⟨_, _, _, sn, 0, rfl, HNsn.out, HRsn.out, HE.out, L5.out⟩
set_option maxHeartbeats 16000000 in
set_option maxRecDepth 100000 in
theorem RUnion_p {w0 : World} {v rv : Value} {l : List Hld} {rows : List (List Bs)} (h0 : HldsR w0 v l) (h1 : RowsR w0 rv rows) (hL : OkL l) (hT : OkT rows.flatten) (hn : rows.length ≤ 1000) (hf : rows.flatten.length ≤ 1000) :
    Calls Tryz.prog 16 #[v, rv] w0 (ComeP l rows.flatten w0) := by
  obtain ⟨A0, c0, rfl⟩ := h0.shape
  obtain ⟨A1, c1, rfl⟩ := h1.shape
  have HX0 := Lib.hid h0; have HX1 := Lib.hid h1; have HK0 := Lib.hid hL; have HKf := Lib.hid hT; have HFl := Lib.hid hf
  have L0 := Lib.hid (Below.refl w0.heap.size w0)
  clear h0 h1 hL hT hf
  have HN0 : Hid (OwK 9 1 strC w0 w0.heap.size (.slice none 0 0) (rows.take 0).flatten) := Lib.hid (OwK.nil _ _ _ _ _)
  go_enter Tryz.func16, Tryz.ntmps16
  go_wp2_with fail
  go_loopw [7, 6] (fun vi vz wr => Hid (Below w0.heap.size w0 wr) ∧ ∃ i : Nat, i ≤ rows.length ∧ vi = .int .i64 i ∧ Hid (OwK 9 1 strC wr w0.heap.size vz (rows.take i).flatten)) (fun vi _ _ => rows.length - (intOf vi).toNat)
  case atStart => exact ⟨Lib.hid (Below.refl _ _), 0, Nat.zero_le _, rfl, HN0⟩
  case round =>
    obtain ⟨hB, i, hi, rfl, hN⟩ := hrel
    by_cases hlt : i < rows.length
    · obtain ⟨row, hrow⟩ : ∃ r, rows[i]? = some r := ⟨_, List.getElem?_eq_getElem hlt⟩
      obtain ⟨g, o, c', e, _, hg⟩ := HX1.out.pos (by omega)
      cases e
      obtain ⟨Ar, cr, p0, hrr⟩ := RowsR.at (HX1.out.below hB.out (Nat.le_refl _)) hrow
      have hfs := flat_snoc hrow
      have hle : ((rows.take (i + 1)).flatten).length ≤ rows.flatten.length := by rw [flat_len, flat_len]; exact lenR_take rows (i + 1)
      rw [hfs, List.length_append] at hle
      have HLe : Hid ((rows.take i).flatten.length + row.length ≤ 1000000) := Lib.hid (by have := HFl.out; omega)
      have HRr := Lib.hid hrr; have HFs := Lib.hid hfs
      clear hrr hfs hle hrow
      go_wp2_with (at_builtin; refine wpList_all strK rfl _ _ rfl w0.heap.size u6 (.slice Ar row.length cr) (rows.take i).flatten row rfl rfl hN.out HRr.out HLe.out (by decide) hB.out.size ?_)
      intro z' w98 hN3 hb3
      have HN3 := Lib.hid hN3
      have HB3 := Lib.hid (hB.out.trans hb3)
      clear hN3 hb3 p0
      go_wp2_with fail
      go_roundw
      case rel => exact ⟨HB3, i + 1, hlt, by go_num, Lib.hid (by rw [HFs.out]; exact HN3.out)⟩
      case measure => simp [intOf]; omega
    obtain rfl : i = rows.length := by omega
    rw [List.take_length] at hN
    have hr : StrsR wr u6 rows.flatten := OwK.rd strC_len hN.out
    obtain ⟨Am, cm, rfl⟩ := hr.shape
    obtain ⟨nm, hnm⟩ : ∃ n, n = rows.flatten.length := ⟨_, rfl⟩
    rw [← hnm] at hr ⊢
    obtain ⟨w1, hw⟩ : ∃ y, y = wr := ⟨_, rfl⟩
    subst hw
    have HRm := Lib.hid hr
    have l9 := hB.out
    clear hN hi hlt hnm HN0
    have L1 := Lib.hid (L0.out.trans (l9.mono L0.out.size))
    clear l9 hr
    have HDal := Lib.hid (RClosure_any (L := l) (tips := rows.flatten) (HX0.out.below L1.out (Nat.le_refl _)) HRm.out HK0.out.len HKf.out.len (fun x hx => (HK0.out.el x hx).2))
    go_wp2_with fail
    refine HDal.out.mono ?_
    rintro e w2 ⟨val, vlk, al, lk, rfl, ra, rb, hc, _, _, l9⟩
    obtain ⟨Aal, cal, rfl⟩ := ra.shape
    obtain ⟨Alk, clk, rfl⟩ := rb.shape
    have L2 := Lib.hid (L1.out.trans (l9.mono L1.out.size)); have HRm' := Lib.hid (HRm.out.below l9 (Nat.le_refl _))
    have HRal := Lib.hid ra; have HRlk := Lib.hid rb; have HCal := Lib.hid hc
    clear HRm l9 ra rb hc HDal
    have HRm := HRm'; clear HRm'
    have hlk := lk_iff HCal.out
    by_cases hp : 0 < lk.length
    · have hpI : (0 : Int) < (lk.length : Int) := by omega
      have HE := Lib.hid (hlk.2 hp)
      clear hlk hp
      go_wp2_with fail
      go_ret2
      exact ⟨L2.out, .inr ⟨rfl, HE.out⟩⟩
    obtain rfl : lk = [] := List.eq_nil_of_length_eq_zero (by omega)
    have HE := HCal
    clear hlk hp
    go_wp2_with fail
    go_ret2
    exact ⟨L2.out, .inl ⟨_, _, _, al, rfl, rfl, HRal.out, HE.out⟩⟩
theorem IsSend.unique {L : List Hld} {tips wants haves a b : List Bs} {e f : Int} (h : IsSend L tips wants haves a e) (h' : IsSend L tips wants haves b f) : a = b ∧ e = f := by
  obtain rfl := h.codes h'
  refine ⟨?_, rfl⟩
  by_cases h0 : e = 0
  · subst h0
    exact rising_ext h.ok.2.2.2.1 h'.ok.2.2.2.1 fun x => (h.ok.2.2.2.2 x).trans (h'.ok.2.2.2.2 x).symm
  · rw [h.nil h0, h'.nil h0]
theorem rows_three (W : World) (u v x : Value) (a b c : List Bs) (ha : StrsR W u a) (hb : StrsR W v b) (hc : StrsR W x c) : RowsR (W.alloc (.cells #[u, v, x] 23)) (.slice (some ⟨W.heap.size, 0, none⟩) 3 3) [a, b, c] := by
  have hW := below_new W (.cells #[u, v, x] 23)
  refine ⟨[u, v, x], .inr ⟨W.heap.size, 0, 3, rfl, Nat.le_refl _, by simp, fun j hj y hy i hi => ?_⟩, rfl, fun k y r hu hr => ?_⟩
  · obtain rfl : i = 0 := by omega
    have hg := heap_alloc_new W (.cells #[u, v, x] 23)
    match j, hj, hy with
    | 0, _, hy => cases hy; exact (cell_of_row _ _ 0 _ _ _ hg).trans rfl
    | 1, _, hy => cases hy; exact (cell_of_row _ _ 1 _ _ _ hg).trans rfl
    | 2, _, hy => cases hy; exact (cell_of_row _ _ 2 _ _ _ hg).trans rfl
  · match k, hu, hr with
    | 0, hu, hr => cases hu; cases hr; exact RdK.below ha hW (Nat.le_refl _)
    | 1, hu, hr => cases hu; cases hr; exact RdK.below hb hW (Nat.le_refl _)
    | 2, hu, hr => cases hu; cases hr; exact RdK.below hc hW (Nat.le_refl _)
set_option maxHeartbeats 16000000 in
set_option maxRecDepth 100000 in
theorem Tells_law (w : World) (ho : Ob w) {v0 : Value} {l : List Hld} (h0 : HldsR w v0 l) (hl0 : l.length ≤ limW) {v1 : Value} {tips : List Bs} (h1 : StrsR w v1 tips) (hl1 : tips.length ≤ limW) {v2 : Value} {wants : List Bs} (h2 : StrsR w v2 wants) (hl2 : wants.length ≤ limW) {v3 : Value} {haves : List Bs} (h3 : StrsR w v3 haves) (hl3 : haves.length ≤ limW) :
    Calls Tryz.prog 3 #[v0, v1, v2, v3] w (BoolB true w) := by
  obtain ⟨A0, c0, rfl⟩ := h0.shape
  obtain ⟨A1, c1, rfl⟩ := h1.shape
  obtain ⟨A2, c2, rfl⟩ := h2.shape
  obtain ⟨A3, c3, rfl⟩ := h3.shape
  have HH := Lib.hid (head_p ho); have HO := Lib.hid ho; have HX0 := Lib.hid h0; have HL0 := Lib.hid hl0; have HX1 := Lib.hid h1; have HL1 := Lib.hid hl1; have HX2 := Lib.hid h2; have HL2 := Lib.hid hl2; have HX3 := Lib.hid h3; have HL3 := Lib.hid hl3
  clear h0 hl0 h1 hl1 h2 hl2 h3 hl3 ho
  go_enter Tryz.func3, Tryz.ntmps3
  go_wp2_with fail
  refine HH.out.mono ?_
  rintro e w1 ⟨rfl, l9⟩
  have L1 := Lib.hid l9
  clear l9 HH
  go_wp2_with fail
  refine (Great_any (HX0.out.below L1.out (Nat.le_refl _)) HL0.out).mono ?_
  rintro e w2 ⟨gr, rfl, l9, hg⟩
  have L2 := Lib.hid (L1.out.trans (l9.mono L1.out.size))
  clear l9
  cases gr with
  | true =>
    clear hg
    go_wp2_with fail
    go_ret
    exact ⟨rfl, L2.out⟩
  | false =>
  have HS0 := Lib.hid (hg rfl)
  clear hg
  have HK0 := Lib.hid (okL HS0.out)
  go_wp2_with fail
  refine (GreatTexts_any (HX1.out.below L2.out (Nat.le_refl _)) HL1.out).mono ?_
  rintro e w3 ⟨gr, rfl, l9, hg⟩
  have L3 := Lib.hid (L2.out.trans (l9.mono L2.out.size))
  clear l9
  cases gr with
  | true =>
    clear hg
    go_wp2_with fail
    go_ret
    exact ⟨rfl, L3.out⟩
  | false =>
  have HS1 := Lib.hid (hg rfl)
  clear hg
  have HK1 := Lib.hid (okT HS1.out)
  go_wp2_with fail
  refine (GreatTexts_any (HX2.out.below L3.out (Nat.le_refl _)) HL2.out).mono ?_
  rintro e w4 ⟨gr, rfl, l9, hg⟩
  have L4 := Lib.hid (L3.out.trans (l9.mono L3.out.size))
  clear l9
  cases gr with
  | true =>
    clear hg
    go_wp2_with fail
    go_ret
    exact ⟨rfl, L4.out⟩
  | false =>
  have HS2 := Lib.hid (hg rfl)
  clear hg
  have HK2 := Lib.hid (okT HS2.out)
  go_wp2_with fail
  refine (GreatTexts_any (HX3.out.below L4.out (Nat.le_refl _)) HL3.out).mono ?_
  rintro e w5 ⟨gr, rfl, l9, hg⟩
  have L5 := Lib.hid (L4.out.trans (l9.mono L4.out.size))
  clear l9
  cases gr with
  | true =>
    clear hg
    go_wp2_with fail
    go_ret
    exact ⟨rfl, L5.out⟩
  | false =>
  have HS3 := Lib.hid (hg rfl)
  clear hg
  have HK3 := Lib.hid (okT HS3.out)
  have HDa := Lib.hid (Send_p (L := l) (tips := tips) (wants := wants) (haves := haves) (HX0.out.below L5.out (Nat.le_refl _)) (HX1.out.below L5.out (Nat.le_refl _)) (HX2.out.below L5.out (Nat.le_refl _)) (HX3.out.below L5.out (Nat.le_refl _)) (HO.out.below L5.out) HK0.out HK1.out HK2.out HK3.out)
  go_wp2_with fail
  refine HDa.out.mono ?_
  rintro e w6 ⟨Aa, na, ca, a, ea, rfl, hn, hr, hs, l9⟩
  subst hn
  have L6 := Lib.hid (L5.out.trans (l9.mono L5.out.size))
  have HRa := Lib.hid hr; have HIa := Lib.hid hs
  clear l9 hr hs HDa
  have HDb := Lib.hid (RSend_p (l := l) (tips := tips) (wants := wants) (haves := haves) (HX0.out.below L6.out (Nat.le_refl _)) (HX1.out.below L6.out (Nat.le_refl _)) (HX2.out.below L6.out (Nat.le_refl _)) (HX3.out.below L6.out (Nat.le_refl _)) HK0.out HS1.out HS2.out HS3.out)
  go_wp2_with fail
  refine HDb.out.mono ?_
  rintro e w7 ⟨Ab, nb, cb, b, eb, rfl, hn, hr, hs, l9⟩
  subst hn
  have L7 := Lib.hid (L6.out.trans (l9.mono L6.out.size)); have HRa' := Lib.hid (HRa.out.below l9 (Nat.le_refl _))
  have HRb := Lib.hid hr
  obtain ⟨e1, e2⟩ := HIa.out.unique hs
  subst e2
  have HAb := Lib.hid e1
  clear HRa l9 hr hs e1 HDb
  have HRa := HRa'; clear HRa'
  obtain ⟨w8, hw⟩ : ∃ y, y = w7.alloc (.cells #[.slice A1 tips.length c1, .slice A2 wants.length c2, .slice A3 haves.length c3] 23) := ⟨_, rfl⟩
  have l9 : Below w7.heap.size w7 w8 := by rw [hw]; exact below_new _ _
  have k9 : w8.heap[w7.heap.size]? = some (.cells #[.slice A1 tips.length c1, .slice A2 wants.length c2, .slice A3 haves.length c3] 23 (0, 0)) := by rw [hw]; exact heap_alloc_new _ _
  have HRr : Hid (RowsR w8 (.slice (some ⟨w7.heap.size, 0, none⟩) 3 3) [tips, wants, haves]) := Lib.hid (by rw [hw]; exact rows_three w7 _ _ _ tips wants haves (HX1.out.below L7.out (Nat.le_refl _)) (HX2.out.below L7.out (Nat.le_refl _)) (HX3.out.below L7.out (Nat.le_refl _)))
  have HWr := Lib.hid hw
  have L8 := Lib.hid (L7.out.trans (l9.mono L7.out.size)); have HRa' := Lib.hid (HRa.out.below l9 (Nat.le_refl _)); have HRb' := Lib.hid (HRb.out.below l9 (Nat.le_refl _))
  clear HRa HRb l9 k9 hw
  have HRa := HRa'; clear HRa'
  have HRb := HRb'; clear HRb'
  have hsz : ([tips, wants, haves] : List (List Bs)).flatten.length ≤ 1000 := by have := HS1.out.1; have := HS2.out.1; have := HS3.out.1; simp; omega
  have HKf : Hid (OkT ([tips, wants, haves] : List (List Bs)).flatten) := Lib.hid ⟨by have := HS1.out.1; have := HS2.out.1; have := HS3.out.1; simp; omega, fun x hx => by simp at hx; exact hx.elim (HK1.out.el x) fun h => h.elim (HK2.out.el x) (HK3.out.el x)⟩
  have HSz := Lib.hid hsz
  obtain ⟨fl, hfl⟩ : ∃ f, f = ([tips, wants, haves] : List (List Bs)).flatten := ⟨_, rfl⟩
  have hun := Union_p (L := l) (rows := [tips, wants, haves]) (HX0.out.below L8.out (Nat.le_refl _)) HRr.out (HO.out.below L8.out) HK0.out (by simp) HKf.out
  rw [← hfl] at hun
  have HUn := Lib.hid hun; have HFl := Lib.hid hfl
  clear hun hsz hfl
  go_wp2_with (rw [← HWr.out])
  refine HUn.out.mono ?_
  rintro e w9 ⟨l9, hh⟩
  rcases hh with ⟨Au, nu, cu, u, rfl, hn, hr, hc⟩ | ⟨rfl, hx⟩
  case inr =>
    have HB := Lib.hid hx
    have L9 := Lib.hid (L8.out.trans (l9.mono L8.out.size)); have HRa' := Lib.hid (HRa.out.below l9 (Nat.le_refl _)); have HRb' := Lib.hid (HRb.out.below l9 (Nat.le_refl _))
    clear HRa HRb l9 hx HUn HWr
    have HRa := HRa'; clear HRa'
    have HRb := HRb'; clear HRb'
    obtain ⟨w10, hw⟩ : ∃ y, y = w9.alloc (.cells #[.slice A1 tips.length c1, .slice A2 wants.length c2, .slice A3 haves.length c3] 23) := ⟨_, rfl⟩
    have l9 : Below w9.heap.size w9 w10 := by rw [hw]; exact below_new _ _
    have k9 : w10.heap[w9.heap.size]? = some (.cells #[.slice A1 tips.length c1, .slice A2 wants.length c2, .slice A3 haves.length c3] 23 (0, 0)) := by rw [hw]; exact heap_alloc_new _ _
    have HRs : Hid (RowsR w10 (.slice (some ⟨w9.heap.size, 0, none⟩) 3 3) [tips, wants, haves]) := Lib.hid (by rw [hw]; exact rows_three w9 _ _ _ tips wants haves (HX1.out.below L9.out (Nat.le_refl _)) (HX2.out.below L9.out (Nat.le_refl _)) (HX3.out.below L9.out (Nat.le_refl _)))
    have HWs := Lib.hid hw
    have L10 := Lib.hid (L9.out.trans (l9.mono L9.out.size)); have HRa' := Lib.hid (HRa.out.below l9 (Nat.le_refl _)); have HRb' := Lib.hid (HRb.out.below l9 (Nat.le_refl _))
    clear HRa HRb l9 k9 hw
    have HRa := HRa'; clear HRa'
    have HRb := HRb'; clear HRb'
    have hun := RUnion_p (l := l) (rows := [tips, wants, haves]) (HX0.out.below L10.out (Nat.le_refl _)) HRs.out HK0.out HKf.out (by simp) HSz.out
    rw [← HFl.out] at hun
    have HUn := Lib.hid hun
    clear hun
    go_wp2_with (rw [← HWs.out])
    refine HUn.out.mono ?_
    rintro e w11 ⟨l9, hh⟩
    have L11 := Lib.hid (L10.out.trans (l9.mono L10.out.size)); have HRa' := Lib.hid (HRa.out.below l9 (Nat.le_refl _)); have HRb' := Lib.hid (HRb.out.below l9 (Nat.le_refl _))
    clear HRa HRb l9 HUn HWs
    have HRa := HRa'; clear HRa'
    have HRb := HRb'; clear HRb'
    rcases hh with ⟨Ay, ny, cy, y, rfl, hn, hr, hc⟩ | ⟨rfl, -⟩
    · obtain ⟨x, hx, ht⟩ := HB.out
      rw [clo_th hc hx] at ht; cases ht
    have h1 := SameTexts_any HRa.out HRb.out (by have := (sent_ok HK0.out HIa.out).len; omega)
    rw [decide_eq_true HAb.out] at h1
    have H1 := Lib.hid h1
    clear h1
    go_wp2_with fail
    refine H1.out.mono ?_
    rintro e w12 ⟨rfl, l9⟩
    have h2 := SameTexts_any (w := w12) (strs_nil _) (strs_nil _) (by simp)
    rw [decide_eq_true rfl] at h2
    have H2 := Lib.hid h2; have L12 := Lib.hid (L11.out.trans (l9.mono L11.out.size))
    clear h2 l9 H1
    go_wp2_with fail
    refine H2.out.mono ?_
    rintro e w13 ⟨rfl, l9⟩
    have L13 := Lib.hid (L12.out.trans (l9.mono L12.out.size))
    clear l9
    go_wp2_with fail
    go_ret
    exact ⟨by simp, L13.out⟩
  subst hn
  have L9 := Lib.hid (L8.out.trans (l9.mono L8.out.size)); have HRa' := Lib.hid (HRa.out.below l9 (Nat.le_refl _)); have HRb' := Lib.hid (HRb.out.below l9 (Nat.le_refl _))
  have HRu := Lib.hid hr; have HCu := Lib.hid hc
  clear HRa HRb l9 hr hc HUn HWr
  have HRa := HRa'; clear HRa'
  have HRb := HRb'; clear HRb'
  obtain ⟨w10, hw⟩ : ∃ y, y = w9.alloc (.cells #[.slice A1 tips.length c1, .slice A2 wants.length c2, .slice A3 haves.length c3] 23) := ⟨_, rfl⟩
  have l9 : Below w9.heap.size w9 w10 := by rw [hw]; exact below_new _ _
  have k9 : w10.heap[w9.heap.size]? = some (.cells #[.slice A1 tips.length c1, .slice A2 wants.length c2, .slice A3 haves.length c3] 23 (0, 0)) := by rw [hw]; exact heap_alloc_new _ _
  have HRs : Hid (RowsR w10 (.slice (some ⟨w9.heap.size, 0, none⟩) 3 3) [tips, wants, haves]) := Lib.hid (by rw [hw]; exact rows_three w9 _ _ _ tips wants haves (HX1.out.below L9.out (Nat.le_refl _)) (HX2.out.below L9.out (Nat.le_refl _)) (HX3.out.below L9.out (Nat.le_refl _)))
  have HWs := Lib.hid hw
  have L10 := Lib.hid (L9.out.trans (l9.mono L9.out.size)); have HRa' := Lib.hid (HRa.out.below l9 (Nat.le_refl _)); have HRb' := Lib.hid (HRb.out.below l9 (Nat.le_refl _)); have HRu' := Lib.hid (HRu.out.below l9 (Nat.le_refl _))
  clear HRa HRb HRu l9 k9 hw
  have HRa := HRa'; clear HRa'
  have HRb := HRb'; clear HRb'
  have HRu := HRu'; clear HRu'
  have hun := RUnion_p (l := l) (rows := [tips, wants, haves]) (HX0.out.below L10.out (Nat.le_refl _)) HRs.out HK0.out HKf.out (by simp) HSz.out
  rw [← HFl.out] at hun
  have HUn := Lib.hid hun
  clear hun
  go_wp2_with (rw [← HWs.out])
  refine HUn.out.mono ?_
  rintro e w11 ⟨l9, hh⟩
  have L11 := Lib.hid (L10.out.trans (l9.mono L10.out.size)); have HRa' := Lib.hid (HRa.out.below l9 (Nat.le_refl _)); have HRb' := Lib.hid (HRb.out.below l9 (Nat.le_refl _)); have HRu' := Lib.hid (HRu.out.below l9 (Nat.le_refl _))
  clear HRa HRb HRu l9 HUn HWs
  have HRa := HRa'; clear HRa'
  have HRb := HRb'; clear HRb'
  have HRu := HRu'; clear HRu'
  rcases hh with ⟨Ay, ny, cy, y, rfl, hn, hr, hc⟩ | ⟨rfl, x, hx, ht⟩
  case inr => rw [clo_th HCu.out hx] at ht; cases ht
  subst hn
  have HRy := Lib.hid hr; have HUy := Lib.hid (IsClo.unique HCu.out hc).1
  clear hr hc
  have h1 := SameTexts_any HRa.out HRb.out (by have := (sent_ok HK0.out HIa.out).len; omega)
  rw [decide_eq_true HAb.out] at h1
  have H1 := Lib.hid h1
  clear h1
  go_wp2_with fail
  refine H1.out.mono ?_
  rintro e w12 ⟨rfl, l9⟩
  have h2 := SameTexts_any (w := w12) (HRu.out.below l9 (Nat.le_refl _)) (HRy.out.below l9 (Nat.le_refl _)) (by have := (clo_okT HK0.out HCu.out).len; omega)
  rw [decide_eq_true HUy.out] at h2
  have H2 := Lib.hid h2; have L12 := Lib.hid (L11.out.trans (l9.mono L11.out.size))
  clear h2 l9 H1
  go_wp2_with fail
  refine H2.out.mono ?_
  rintro e w13 ⟨rfl, l9⟩
  have L13 := Lib.hid (L12.out.trans (l9.mono L12.out.size))
  clear l9
  go_wp2_with fail
  go_ret
  exact ⟨by simp, L13.out⟩
end Go.Proofs.YtialgldmogigfaaGreatDoor.Ct
