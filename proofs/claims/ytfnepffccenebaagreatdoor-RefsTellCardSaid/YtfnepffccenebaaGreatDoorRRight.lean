/-
  Right: may a list be all refs of someone?
-/
import Derived.Test.YtfnepffccenebaaGreatDoorRMem
namespace Go.Proofs.YtfnepffccenebaaGreatDoor.Rf
open Go.Proofs.YtfnepffccenebaaGreatDoor
open Go Go.RowKit

theorem ge_str (W : World) (x y : Bs) (b : Bool) (h : decide (x < y) = !b) : (binOp .geq 9 (.string ⟨x.toArray⟩) (.string ⟨y.toArray⟩)).run Tryz.prog W = .ok (.bool b) W := by
  show (Op.stringOp .geq _ _).run _ _ = _
  have e := Go.Proofs.bytesLess_eq x y
  rw [h] at e
  simp [go_sem, Op.stringOp, e]
set_option maxRecDepth 100000 in
set_option maxHeartbeats 4000000 in
theorem Right_p (l : List Ref) (v : Value) (w : World) (hv : RefsR w v l) (hf : Fit l) (hl : l.length ≤ 1000000) : Calls Tryz.prog 17 #[v] w (BoolB (rightB l) w) := by
  obtain ⟨A, c, rfl⟩ := hv.shape
  obtain ⟨N, hN⟩ : ∃ N, N = l.length := ⟨_, rfl⟩
  have HV : Hid (RefsR w (.slice A N c) l) := Lib.hid (by rw [hN]; exact hv)
  have HF := Lib.hid hf
  obtain ⟨b, hb⟩ : ∃ b, b = rightB l := ⟨_, rfl⟩
  have HNo : Hid (¬ Right l → b = false) := Lib.hid fun h => by rw [hb]; exact rightB_no h
  have HYes : Hid (Right l → b = true) := Lib.hid fun h => by rw [hb]; exact rightB_yes h
  rw [← hN, ← hb]
  have HN := Lib.hid hN
  rw [← hN] at hl
  clear hv hf hb hN
  by_cases h64 : N ≤ 64
  case neg =>
    have hI : 64 < (N : Int) := by omega
    have HB := Lib.hid (HNo.out fun hr => h64 (by rw [HN.out]; exact hr.len))
    clear h64
    go_enter Tryz.func17, Tryz.ntmps17
    go_wp2
    go_ret
    exact ⟨ret_bool HB.out.symm, Below.refl _ _⟩
  have hI : ¬ 64 < (N : Int) := by omega
  have H64 := Lib.hid h64
  clear h64
  go_enter Tryz.func17, Tryz.ntmps17
  go_wp2
  go_loopw [12] (fun i wr => ∃ k : Nat, k ≤ N ∧ i = .int .i64 k ∧ Hid (Below w.heap.size w wr) ∧ Hid (OkTo l k)) (fun i _ => N - (intOf i).toNat)
  case atStart => exact ⟨0, Nat.zero_le _, rfl, Lib.hid (Below.refl _ _), Lib.hid (OkTo.zero l)⟩
  case round =>
    obtain ⟨wo, hwo⟩ : ∃ wo, wo = wr := ⟨_, rfl⟩
    subst hwo
    obtain ⟨k, hk, rfl, hB, hok⟩ := hrel
    by_cases hlt : k < N
    case neg =>
      have hkN : k = N := by omega
      have HB := Lib.hid (HYes.out (OkTo.right (by have h := hok.out; rw [hkN, HN.out] at h; exact h) (by rw [← HN.out]; exact H64.out)))
      clear hkN hok
      go_wp2_with fail
      go_ret
      exact ⟨ret_bool HB.out.symm, hB.out⟩
    obtain ⟨g, o, c', e, hNc, hg⟩ := HV.out.pos (by have := HN.out; omega)
    obtain rfl : A = some ⟨g, o, none⟩ := by cases e; rfl
    have hkc : k ≤ c := by have : c = c' := by cases e; rfl
                           have := HN.out; omega
    clear e hNc
    obtain ⟨x, hx⟩ : ∃ x, l[k]? = some x := ⟨_, List.getElem?_eq_getElem (by have := HN.out; omega)⟩
    have hfx := HF.out x (List.mem_of_getElem? hx)
    obtain ⟨c0, c1⟩ := RefsR.cells HV.out hx
    have c0' : wo.cell? ⟨g, o + k * 2, none⟩ = some (SV x.name) := by rw [hB.out.cell (p := ⟨g, o + k * 2, none⟩) hg]; exact c0
    have c1' : wo.cell? ⟨g, o + k * 2 + 1, none⟩ = some (SV x.id) := by rw [hB.out.cell (p := ⟨g, o + k * 2 + 1, none⟩) hg]; exact c1
    have HX := Lib.hid hx
    obtain ⟨nm, id⟩ := x
    simp only at hfx c0' c1'
    have HNm := fun W => Lib.hid (Named_p nm W hfx.1)
    have HId := fun W => Lib.hid (Named_any id W hfx.2)
    have L1 := Lib.hid (hB.out.alloc hB.out.size (.cells #[.string ⟨nm.toArray⟩, .string ⟨id.toArray⟩] 45))
    unfold SV at c0' c1' HNm HId
    have HG := Lib.hid hg
    clear c0 c1 hx hfx hg
    cases hnm : nameB nm with
    | false =>
      rw [hnm] at HNm
      have HB := Lib.hid (HNo.out (no_name HX.out hnm))
      clear hnm HId
      go_wp2_with fail
      refine (HNm _).out.mono ?_
      rintro e w2 ⟨rfl, hb2⟩
      have HB2 := Lib.hid hb2
      clear hb2
      go_wp2_with fail
      go_ret
      exact ⟨ret_bool HB.out.symm, L1.out.trans (HB2.out.mono L1.out.size)⟩
    | true =>
    rw [hnm] at HNm
    cases hid : namedB id with
    | false =>
      rw [hid] at HId
      have HB := Lib.hid (HNo.out (no_id HX.out hid))
      clear hnm hid
      go_wp2_with fail
      refine (HNm _).out.mono ?_
      rintro e w2 ⟨rfl, hb2⟩
      have d1 : w2.cell? ⟨wo.heap.size, 1, none⟩ = some (.string ⟨id.toArray⟩) := (hb2.cell (p := ⟨wo.heap.size, 1, none⟩) (by simp)).trans (by simp)
      have HB2 := Lib.hid hb2
      clear hb2
      go_wp2_with fail
      refine (HId _).out.mono ?_
      rintro e w3 ⟨rfl, rfl⟩
      go_wp2_with fail
      go_ret
      exact ⟨ret_bool HB.out.symm, L1.out.trans (HB2.out.mono L1.out.size)⟩
    | true =>
    rw [hid] at HId
    have Hnm := Lib.hid hnm; have Hid2 := Lib.hid hid
    clear hnm hid
    go_wp2_with fail
    refine (HNm _).out.mono ?_
    rintro e w2 ⟨rfl, hb2⟩
    have d0 : w2.cell? ⟨wo.heap.size, 0, none⟩ = some (.string ⟨nm.toArray⟩) := (hb2.cell (p := ⟨wo.heap.size, 0, none⟩) (by simp)).trans (by simp)
    have d1 : w2.cell? ⟨wo.heap.size, 1, none⟩ = some (.string ⟨id.toArray⟩) := (hb2.cell (p := ⟨wo.heap.size, 1, none⟩) (by simp)).trans (by simp)
    have D0 := Lib.hid d0
    have hz : wo.heap.size < w2.heap.size := Nat.lt_of_lt_of_le (by simp) hb2.size
    have HZ := Lib.hid hz
    have L2 := Lib.hid (L1.out.trans (hb2.mono L1.out.size))
    clear hb2 hz d0
    go_wp2_with fail
    refine (HId _).out.mono ?_
    rintro e w3 ⟨rfl, rfl⟩
    go_wp2_with fail
    clear d1
    go_loopw [31] (fun i wr => ∃ j : Nat, j ≤ k ∧ i = .int .i64 j ∧ Hid (Below w2.heap.size w2 wr) ∧ Hid (AheadTo l ⟨nm, id⟩ j)) (fun i _ => k - (intOf i).toNat)
    case atStart => exact ⟨0, Nat.zero_le _, rfl, Lib.hid (Below.refl _ _), Lib.hid (AheadTo.zero _ _)⟩
    case round =>
      obtain ⟨j, hj, rfl, hQ, ha⟩ := hrel
      by_cases hjk : j < k
      case neg =>
        have hjk2 : j = k := by omega
        have HO := Lib.hid (hok.out.succ HX.out Hnm.out Hid2.out (by have h := ha.out; rw [hjk2] at h; exact h))
        have HB2 := Lib.hid (L2.out.trans (hQ.out.mono L2.out.size))
        clear hjk2 ha hok hB
        go_wp2_with fail
        go_roundw
        case rel => exact ⟨k + 1, by omega, by go_num, HB2, HO⟩
        case measure => simp [intOf]; omega
      obtain ⟨y, hy⟩ : ∃ y, l[j]? = some y := ⟨_, List.getElem?_eq_getElem (by have := HN.out; omega)⟩
      have hfy := HF.out y (List.mem_of_getElem? hy)
      obtain ⟨c2, c3⟩ := RefsR.cells HV.out hy
      have HQ2 := Lib.hid (L2.out.trans (hQ.out.mono L2.out.size))
      have c2' : wr.cell? ⟨g, o + j * 2, none⟩ = some (SV y.name) := by rw [HQ2.out.cell (p := ⟨g, o + j * 2, none⟩) HG.out]; exact c2
      have c3' : wr.cell? ⟨g, o + j * 2 + 1, none⟩ = some (SV y.id) := by rw [HQ2.out.cell (p := ⟨g, o + j * 2 + 1, none⟩) HG.out]; exact c3
      have HY := Lib.hid hy
      obtain ⟨ny, iy⟩ := y
      simp only at hfy c2' c3'
      have L3 := Lib.hid (hQ.out.alloc hQ.out.size (.cells #[.string ⟨ny.toArray⟩, .string ⟨iy.toArray⟩] 45))
      have L4 := Lib.hid (L2.out.trans (L3.out.mono L2.out.size))
      have d0 : (wr.alloc (.cells #[.string ⟨ny.toArray⟩, .string ⟨iy.toArray⟩] 45)).cell? ⟨wo.heap.size, 0, none⟩ = some (.string ⟨nm.toArray⟩) := by rw [L3.out.cell (p := ⟨wo.heap.size, 0, none⟩) HZ.out]; exact D0.out
      have HAb := fun W => Lib.hid (above_any ny nm W)
      unfold SV at c2' c3' HAb
      clear c2 c3 hy hfy hB
      cases hyx : decide (ny < nm) with
      | false =>
        have HG2 := fun W => ge_str W ny nm true (by rw [hyx]; rfl)
        have HB := Lib.hid (HNo.out (no_rise HX.out HY.out hjk (of_decide_eq_false hyx)))
        clear hyx HAb ha hok
        go_wp2_with fail
        go_ret
        exact ⟨ret_bool HB.out.symm, L4.out⟩
      | true =>
      have HG2 := fun W => ge_str W ny nm false (by rw [hyx]; rfl)
      have Hyx := Lib.hid (of_decide_eq_true hyx)
      cases hab : aboveB ny nm with
      | true =>
        rw [hab] at HAb
        have HB := Lib.hid (HNo.out (no_above HX.out HY.out hab))
        clear hyx hab ha hok
        go_wp2_with fail
        refine (HAb _).out.mono ?_
        rintro e w3 ⟨rfl, rfl⟩
        go_wp2_with fail
        go_ret
        exact ⟨ret_bool HB.out.symm, L4.out⟩
      | false =>
        rw [hab] at HAb
        have HA2 := Lib.hid (ha.out.succ HY.out Hyx.out hab)
        clear hyx hab ha
        go_wp2_with fail
        refine (HAb _).out.mono ?_
        rintro e w3 ⟨rfl, rfl⟩
        go_wp2_with fail
        go_roundw
        case rel => exact ⟨j + 1, by omega, by go_num, L3, HA2⟩
        case measure => simp [intOf]; omega
end Go.Proofs.YtfnepffccenebaaGreatDoor.Rf
