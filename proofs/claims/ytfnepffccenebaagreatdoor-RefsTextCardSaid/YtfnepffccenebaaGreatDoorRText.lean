/-
  RefsText, walked.
-/
import Derived.Test.YtfnepffccenebaaGreatDoorROrd
import Derived.Test.YtfnepffccenebaaGreatDoorRHead
import Derived.Test.YtfnepffccenebaaGreatDoorRMap
namespace Go.Proofs.YtfnepffccenebaaGreatDoor.Rf
open Go.Proofs.YtfnepffccenebaaGreatDoor
open Go Go.RowKit

theorem at_s (W : World) (g o n c k : Nat) (hk : k < n) : (Instr.indexAt 33 (.slice (some ⟨g, o, none⟩) n c) (.int .i64 (k : Int))).run Tryz.prog W = .ok (.pointer (some ⟨g, o + k, none⟩)) W := by
  have h : (k : Int) < (n : Int) := by omega
  simp [go_sem, h]
theorem sub_one (W : World) (j : Nat) (hj : j ≤ 1000000) : (binOp .sub 3 (.int .i64 ((j + 1 : Nat) : Int)) (.int .i64 1)).run Tryz.prog W = .ok (.int .i64 (j : Int)) W := by
  have h : IntKind.i64.wrap (j : Int) = (j : Int) := IntWalk.i64_in _ (by omega)
  simp [go_sem, h]
set_option maxRecDepth 100000 in
set_option maxHeartbeats 8000000 in
theorem Text_law (w : World) (lv : Value) (l : List Ref) (hv : RefsR w lv l) (hf : Fit l) (hl : l.length ≤ lim) (s : Bs) (hs : s.length ≤ maxLen) :
    Calls Tryz.prog 7 #[lv, SV s] w (BoolB true w) := by
  unfold maxLen at hs
  unfold SV
  obtain ⟨A, c, rfl⟩ := hv.shape
  obtain ⟨M, hM⟩ : ∃ M, M = l.length := ⟨_, rfl⟩
  rw [← hM] at hv ⊢
  have HH := Lib.hid (head_p w)
  have HV := Lib.hid hv; have HF := Lib.hid hf; have HM := Lib.hid hM
  have Hl := Lib.hid hl
  clear hv hf hM hl
  go_enter Tryz.func7, Tryz.ntmps7
  go_wp2_with fail
  refine HH.out.mono ?_
  rintro e w1 ⟨rfl, hb⟩
  have L1 := Lib.hid hb
  have HG1 := Lib.hid (GreatR_any (RdK.below HV.out hb (Nat.le_refl _)) Hl.out)
  clear hb HH
  go_wp2_with fail
  refine HG1.out.mono ?_
  rintro e w2 ⟨g1, rfl, hb, hg1⟩
  have L2 := Lib.hid (L1.out.trans (hb.mono L1.out.size))
  clear hb HG1
  cases g1 with
  | true =>
    clear hg1
    go_wp2_with fail
    go_ret
    exact ⟨rfl, L2.out⟩
  | false =>
  have HS1 := Lib.hid (hg1 rfl)
  have hMb : M ≤ 100 := by rw [HM.out]; exact HS1.out.1
  clear hg1
  by_cases h9 : s.length ≤ 9000
  case neg =>
    have hI : (9000 : Int) < (s.length : Int) := by omega
    clear h9
    go_wp2_with fail
    go_ret
    exact ⟨rfl, L2.out⟩
  have hI : ¬ (9000 : Int) < (s.length : Int) := by omega
  have HS9 := Lib.hid h9
  have HPt := Lib.hid (Put_p l _ w2 (RdK.below HV.out L2.out (Nat.le_refl _)) HF.out (by have := HS1.out.1; omega))
  clear h9
  by_cases hr : Right l
  · have HR := Lib.hid hr
    clear hr
    go_wp2_with fail
    refine HPt.out.mono ?_
    rintro e w3 ⟨(⟨rfl, _⟩ | ⟨_, hn⟩), hb⟩
    case inr => exact absurd HR.out hn
    have L3 := Lib.hid (L2.out.trans (hb.mono L2.out.size))
    have HRt := Lib.hid (Right_p l _ w3 (RdK.below HV.out L3.out (Nat.le_refl _)) HF.out (by have := HS1.out.1; omega))
    rw [rightB_yes HR.out] at HRt
    obtain ⟨tx, htx⟩ : ∃ z, z = linesL l := ⟨_, rfl⟩
    rw [← htx]
    have HTx := Lib.hid htx
    unfold SV
    clear hb HPt htx
    go_wp2_with fail
    refine HRt.out.mono ?_
    rintro e w4 ⟨rfl, hb⟩
    have L4 := Lib.hid (L3.out.trans (hb.mono L3.out.size))
    have HGt := Lib.hid (Get_p tx w4 (by
      have h1 := linesL_len HR.out.each
      have := HR.out.len
      rw [HTx.out]; omega))
    clear hb HRt
    go_wp2_with fail
    refine HGt.out.mono ?_
    rintro e w5 ⟨(⟨v5, l5, rfl, ho5, hg5⟩ | ⟨_, hn⟩), hb⟩
    case inr => exact absurd ⟨HR.out, HTx.out.symm⟩ (hn l)
    have he5 : l5 = l := hg5.unique ⟨HR.out, HTx.out.symm⟩
    subst he5
    obtain ⟨A5, n5, c5, rfl, -⟩ := OwK.shape ho5
    have L5 := Lib.hid (L4.out.trans (hb.mono L4.out.size))
    have HSm := Lib.hid (Same_p (OwK.rd refC_len ho5) (RdK.below HV.out L5.out (Nat.le_refl _)) (by have := HS1.out.1; omega))
    rw [decide_eq_true rfl] at HSm
    clear hb ho5 hg5 HGt
    go_wp2_with fail
    refine HSm.out.mono ?_
    rintro e wz ⟨rfl, hb⟩
    have LZ := Lib.hid (L5.out.trans (hb.mono L5.out.size))
    clear hb HSm
    have HTp := Lib.hid (Tips_p l5 _ wz (RdK.below HV.out LZ.out (Nat.le_refl _)) (by have := HS1.out.1; omega))
    go_wp2_with fail
    refine HTp.out.mono ?_
    rintro e wt ⟨vt, t, rfl, hrt, htt, hb⟩
    have LT := Lib.hid (LZ.out.trans (hb.mono LZ.out.size))
    obtain ⟨At, ct, rfl⟩ := hrt.shape
    obtain ⟨T, hT⟩ : ∃ z, z = t.length := ⟨_, rfl⟩
    rw [← hT] at hrt ⊢
    have HRt := Lib.hid hrt; have HTt := Lib.hid htt; have HT := Lib.hid hT
    have htl : T ≤ 200 := by
      have h1 := len_le (l := t) (m := l5.map (·.id)) htt.1.nodup fun x hx => by
        obtain ⟨r, hr, e⟩ := (htt.2 x).1 hx
        exact List.mem_map.2 ⟨r, hr, e⟩
      have := HS1.out.1
      simp only [List.length_map] at h1
      omega
    clear hb hrt htt hT HTp
    go_wp2_with fail
    go_loopw [11] (fun i wr => ∃ k : Nat, k ≤ M ∧ i = .int .i64 k ∧ Hid (Below wt.heap.size wt wr)) (fun i _ => M - (intOf i).toNat)
    case atStart => exact ⟨0, Nat.zero_le _, rfl, Lib.hid (Below.refl _ _)⟩
    case round =>
      obtain ⟨k, hk, rfl, hB⟩ := hrel
      by_cases hlt : k < M
      · obtain ⟨g, o, c', e, _, hg⟩ := HV.out.pos (by have := HM.out; omega)
        obtain rfl : A = some ⟨g, o, none⟩ := by rw [← HM.out] at e; cases e; rfl
        clear e
        obtain ⟨x, hx⟩ : ∃ x, l5[k]? = some x := ⟨_, List.getElem?_eq_getElem (by have := HM.out; omega)⟩
        have L5 : Below w.heap.size w wr := LT.out.trans (hB.out.mono LT.out.size)
        obtain ⟨_, c1⟩ := RefsR.cells (RdK.below HV.out L5 (Nat.le_refl _)) hx
        have HH := Lib.hid (Has_p (RdK.below HRt.out hB.out (Nat.le_refl _)) (by have := HT.out; omega) x.id)
        rw [decide_eq_true ((HTt.out.2 x.id).2 ⟨x, List.mem_of_getElem? hx, rfl⟩)] at HH
        obtain ⟨nm, id⟩ := x
        unfold SV at c1
        simp only at c1 HH
        have HBr := Lib.hid hB.out
        clear hx L5 hB hg
        go_wp2_with fail
        refine HH.out.mono ?_
        rintro e w6 ⟨rfl, hb⟩
        have HB6 := Lib.hid (HBr.out.trans (hb.mono HBr.out.size))
        clear hb c1
        go_wp2_with fail
        go_roundw
        case rel => exact ⟨k + 1, hlt, by go_num, HB6⟩
        case measure => simp [intOf]; omega
      have LW := Lib.hid (LT.out.trans (hB.out.mono LT.out.size))
      have HRw := Lib.hid (RdK.below HRt.out hB.out (Nat.le_refl _))
      obtain ⟨wo, hwo⟩ : ∃ wo, wo = wr := ⟨_, rfl⟩
      subst hwo
      clear hB
      go_wp2_with fail
      go_loopw [12] (fun i wr => ∃ j : Nat, (j + 1 ≤ T ∨ j = 0) ∧ i = .int .i64 ((j + 1 : Nat) : Int) ∧ Hid (Below wo.heap.size wo wr)) (fun i _ => T + 1 - (intOf i).toNat)
      case atStart => exact ⟨0, .inr rfl, rfl, Lib.hid (Below.refl _ _)⟩
      case round =>
        obtain ⟨j, hj, rfl, hB⟩ := hrel
        by_cases hjt : j + 1 < T
        · obtain ⟨g, o, c', e, _, hg⟩ := HRw.out.pos (by have := HT.out; omega)
          obtain rfl : At = some ⟨g, o, none⟩ := by rw [← HT.out] at e; cases e; rfl
          clear e
          have hj0 : j < t.length := by have := HT.out; omega
          have hj1 : j + 1 < t.length := by have := HT.out; omega
          have hcl := fun W (hW : Below wo.heap.size wo W) => StrsR.cell (RdK.below HRw.out hW (Nat.le_refl _)) j hj0
          have hcl1 := fun W (hW : Below wo.heap.size wo W) => StrsR.cell (RdK.below HRw.out hW (Nat.le_refl _)) (j + 1) hj1
          have hxy : t.getD j [] < t.getD (j + 1) [] := by
            rw [List.getD_eq_getElem?_getD, List.getD_eq_getElem?_getD, List.getElem?_eq_getElem hj0, List.getElem?_eq_getElem hj1]
            exact List.pairwise_iff_getElem.1 HTt.out.1 j (j + 1) hj0 hj1 (Nat.lt_succ_self _)
          obtain ⟨x, hx⟩ : ∃ x, x = t.getD j [] := ⟨_, rfl⟩
          obtain ⟨y, hy⟩ : ∃ y, y = t.getD (j + 1) [] := ⟨_, rfl⟩
          rw [← hx] at hcl hxy
          rw [← hy] at hcl1 hxy
          unfold SV at hcl hcl1
          have C0 := Lib.hid hcl; have C1 := Lib.hid hcl1; have HXY := Lib.hid hxy
          have LD : Hid (Below wo.heap.size wo wr.drew) := Lib.hid hB.out.drew
          have HI0 := Lib.hid fun W => at_s W g o T ct j (by omega)
          have HI1 := Lib.hid fun W => at_s W g o T ct (j + 1) (by omega)
          have HSb := Lib.hid fun W => sub_one W j (by omega)
          clear hx hy hcl hcl1 hxy hj0 hj1 hg hj hB
          go_wp2_with fail
          refine AnyK.start wo.heap.size wo (by kernel_rfl) ?_
          refine AnyK.take 0 (.slice (some ⟨g, o, none⟩) T ct) LD.out rfl (by kernel_rfl) (by kernel_rfl) (by kernel_rfl) (fun _ _ _ h => h) (by kernel_rfl) (fun W hW => by kernel_rfl) ?_
          refine AnyK.take 1 (.int .i64 ((j + 1 : Nat) : Int)) LD.out rfl (by kernel_rfl) (by kernel_rfl) (by kernel_rfl) (fun _ _ _ h => h) (by kernel_rfl) (fun W hW => by kernel_rfl) ?_
          refine AnyK.take 2 (.int .i64 (j : Int)) LD.out rfl (by kernel_rfl) (by kernel_rfl) (by kernel_rfl) (fun _ _ _ h => h) (by kernel_rfl) (fun W hW => y_bin (x := .int .i64 ((j + 1 : Nat) : Int)) (y := .int .i64 1) rfl (by kernel_rfl) (by kernel_rfl) rfl (HSb.out W)) ?_
          refine AnyK.take 3 (.pointer (some ⟨g, o + j, none⟩)) LD.out rfl (by kernel_rfl) (by kernel_rfl) (by kernel_rfl) (fun _ _ _ h => h) (by kernel_rfl) (fun W hW => y_index (sv := .slice (some ⟨g, o, none⟩) T ct) (iv := .int .i64 (j : Int)) rfl (by kernel_rfl) (by kernel_rfl) (HI0.out W)) ?_
          refine AnyK.take 4 (.string ⟨x.toArray⟩) LD.out rfl (by kernel_rfl) (by kernel_rfl) (by kernel_rfl) (fun _ _ _ h => h) (by kernel_rfl) (fun W hW => y_load (sv := .pointer (some ⟨g, o + j, none⟩)) rfl (by kernel_rfl) (l_S W g (o + j) x (C0.out W hW))) ?_
          refine AnyK.take 5 (.slice (some ⟨g, o, none⟩) T ct) LD.out rfl (by kernel_rfl) (by kernel_rfl) (by kernel_rfl) (fun _ _ _ h => h) (by kernel_rfl) (fun W hW => by kernel_rfl) ?_
          refine AnyK.take 6 (.int .i64 ((j + 1 : Nat) : Int)) LD.out rfl (by kernel_rfl) (by kernel_rfl) (by kernel_rfl) (fun _ _ _ h => h) (by kernel_rfl) (fun W hW => by kernel_rfl) ?_
          refine AnyK.take 7 (.pointer (some ⟨g, o + (j + 1), none⟩)) LD.out rfl (by kernel_rfl) (by kernel_rfl) (by kernel_rfl) (fun _ _ _ h => h) (by kernel_rfl) (fun W hW => y_index (sv := .slice (some ⟨g, o, none⟩) T ct) (iv := .int .i64 ((j + 1 : Nat) : Int)) rfl (by kernel_rfl) (by kernel_rfl) (HI1.out W)) ?_
          refine AnyK.take 8 (.string ⟨y.toArray⟩) LD.out rfl (by kernel_rfl) (by kernel_rfl) (by kernel_rfl) (fun _ _ _ h => h) (by kernel_rfl) (fun W hW => y_load (sv := .pointer (some ⟨g, o + (j + 1), none⟩)) rfl (by kernel_rfl) (l_S W g (o + (j + 1)) y (C1.out W hW))) ?_
          refine AnyK.take 9 (.bool false) LD.out rfl (by kernel_rfl) (by kernel_rfl) (by kernel_rfl) (fun _ _ _ h => h) (by kernel_rfl) (fun W hW => y_bin (x := .string ⟨x.toArray⟩) (y := .string ⟨y.toArray⟩) rfl (by kernel_rfl) (by kernel_rfl) rfl (ge_str W x y false (by rw [decide_eq_true HXY.out]; rfl))) ?_
          refine AnyK.done _ (by kernel_rfl) ?_
          go_simp
          go_wp2_with fail
          go_roundw
          case rel => exact ⟨j + 1, by omega, by go_num, LD⟩
          case measure => simp [intOf]; omega
        have hjI : ¬ ((j : Int) + 1 < (T : Int)) := by omega
        have LX := Lib.hid (LW.out.trans (hB.out.mono LW.out.size))
        have HGt := Lib.hid (Get_p s wr (by have := HS9.out; omega))
        clear hB hj
        go_wp2_with fail
        refine HGt.out.mono ?_
        rintro e w8 ⟨(⟨v8, k8, rfl, ho8, hg8⟩ | ⟨rfl, _⟩), hb⟩
        · have L8 := Lib.hid (LX.out.trans (hb.mono LX.out.size))
          obtain ⟨A8, n8, c8, rfl, -⟩ := OwK.shape ho8
          have HPt := Lib.hid (Put_p k8 _ w8 (OwK.rd refC_len ho8) (fun r hr => by
            have h1 := nameB_len (hg8.1.name r hr); have h2 := named_len64 (hg8.1.id r hr)
            unfold maxLen; omega) (by have := hg8.1.len; omega))
          have HG8 := Lib.hid hg8
          clear hb ho8 hg8
          go_wp2_with fail
          refine HPt.out.mono ?_
          rintro e w9 ⟨(⟨rfl, _⟩ | ⟨_, hn⟩), hb⟩
          case inr => exact absurd HG8.out.1 hn
          have L9 := Lib.hid (L8.out.trans (hb.mono L8.out.size))
          rw [HG8.out.2]
          unfold SV
          clear hb
          go_wp2_with fail
          go_ret
          exact ⟨by simp, L9.out⟩
        · have L8 := Lib.hid (LX.out.trans (hb.mono LX.out.size))
          clear hb
          go_wp2_with fail
          go_ret
          exact ⟨rfl, L8.out⟩
  · have HR := Lib.hid hr
    clear hr
    go_wp2_with fail
    refine HPt.out.mono ?_
    rintro e w3 ⟨(⟨_, hn⟩ | ⟨rfl, _⟩), hb⟩
    case inl => exact absurd hn HR.out
    have L3 := Lib.hid (L2.out.trans (hb.mono L2.out.size))
    have HRt := Lib.hid (Right_p l _ w3 (RdK.below HV.out L3.out (Nat.le_refl _)) HF.out (by have := HS1.out.1; omega))
    rw [rightB_no HR.out] at HRt
    unfold SV
    clear hb HPt
    go_wp2_with fail
    refine HRt.out.mono ?_
    rintro e wz ⟨rfl, hb⟩
    have LZ := Lib.hid (L3.out.trans (hb.mono L3.out.size))
    clear hb HRt
    have HTp := Lib.hid (Tips_p l _ wz (RdK.below HV.out LZ.out (Nat.le_refl _)) (by have := HS1.out.1; omega))
    go_wp2_with fail
    refine HTp.out.mono ?_
    rintro e wt ⟨vt, t, rfl, hrt, htt, hb⟩
    have LT := Lib.hid (LZ.out.trans (hb.mono LZ.out.size))
    obtain ⟨At, ct, rfl⟩ := hrt.shape
    obtain ⟨T, hT⟩ : ∃ z, z = t.length := ⟨_, rfl⟩
    rw [← hT] at hrt ⊢
    have HRt := Lib.hid hrt; have HTt := Lib.hid htt; have HT := Lib.hid hT
    have htl : T ≤ 200 := by
      have h1 := len_le (l := t) (m := l.map (·.id)) htt.1.nodup fun x hx => by
        obtain ⟨r, hr, e⟩ := (htt.2 x).1 hx
        exact List.mem_map.2 ⟨r, hr, e⟩
      have := HS1.out.1
      simp only [List.length_map] at h1
      omega
    clear hb hrt htt hT HTp
    go_wp2_with fail
    go_loopw [11] (fun i wr => ∃ k : Nat, k ≤ M ∧ i = .int .i64 k ∧ Hid (Below wt.heap.size wt wr)) (fun i _ => M - (intOf i).toNat)
    case atStart => exact ⟨0, Nat.zero_le _, rfl, Lib.hid (Below.refl _ _)⟩
    case round =>
      obtain ⟨k, hk, rfl, hB⟩ := hrel
      by_cases hlt : k < M
      · obtain ⟨g, o, c', e, _, hg⟩ := HV.out.pos (by have := HM.out; omega)
        obtain rfl : A = some ⟨g, o, none⟩ := by rw [← HM.out] at e; cases e; rfl
        clear e
        obtain ⟨x, hx⟩ : ∃ x, l[k]? = some x := ⟨_, List.getElem?_eq_getElem (by have := HM.out; omega)⟩
        have L5 : Below w.heap.size w wr := LT.out.trans (hB.out.mono LT.out.size)
        obtain ⟨_, c1⟩ := RefsR.cells (RdK.below HV.out L5 (Nat.le_refl _)) hx
        have HH := Lib.hid (Has_p (RdK.below HRt.out hB.out (Nat.le_refl _)) (by have := HT.out; omega) x.id)
        rw [decide_eq_true ((HTt.out.2 x.id).2 ⟨x, List.mem_of_getElem? hx, rfl⟩)] at HH
        obtain ⟨nm, id⟩ := x
        unfold SV at c1
        simp only at c1 HH
        have HBr := Lib.hid hB.out
        clear hx L5 hB hg
        go_wp2_with fail
        refine HH.out.mono ?_
        rintro e w6 ⟨rfl, hb⟩
        have HB6 := Lib.hid (HBr.out.trans (hb.mono HBr.out.size))
        clear hb c1
        go_wp2_with fail
        go_roundw
        case rel => exact ⟨k + 1, hlt, by go_num, HB6⟩
        case measure => simp [intOf]; omega
      have LW := Lib.hid (LT.out.trans (hB.out.mono LT.out.size))
      have HRw := Lib.hid (RdK.below HRt.out hB.out (Nat.le_refl _))
      obtain ⟨wo, hwo⟩ : ∃ wo, wo = wr := ⟨_, rfl⟩
      subst hwo
      clear hB
      go_wp2_with fail
      go_loopw [12] (fun i wr => ∃ j : Nat, (j + 1 ≤ T ∨ j = 0) ∧ i = .int .i64 ((j + 1 : Nat) : Int) ∧ Hid (Below wo.heap.size wo wr)) (fun i _ => T + 1 - (intOf i).toNat)
      case atStart => exact ⟨0, .inr rfl, rfl, Lib.hid (Below.refl _ _)⟩
      case round =>
        obtain ⟨j, hj, rfl, hB⟩ := hrel
        by_cases hjt : j + 1 < T
        · obtain ⟨g, o, c', e, _, hg⟩ := HRw.out.pos (by have := HT.out; omega)
          obtain rfl : At = some ⟨g, o, none⟩ := by rw [← HT.out] at e; cases e; rfl
          clear e
          have hj0 : j < t.length := by have := HT.out; omega
          have hj1 : j + 1 < t.length := by have := HT.out; omega
          have hcl := fun W (hW : Below wo.heap.size wo W) => StrsR.cell (RdK.below HRw.out hW (Nat.le_refl _)) j hj0
          have hcl1 := fun W (hW : Below wo.heap.size wo W) => StrsR.cell (RdK.below HRw.out hW (Nat.le_refl _)) (j + 1) hj1
          have hxy : t.getD j [] < t.getD (j + 1) [] := by
            rw [List.getD_eq_getElem?_getD, List.getD_eq_getElem?_getD, List.getElem?_eq_getElem hj0, List.getElem?_eq_getElem hj1]
            exact List.pairwise_iff_getElem.1 HTt.out.1 j (j + 1) hj0 hj1 (Nat.lt_succ_self _)
          obtain ⟨x, hx⟩ : ∃ x, x = t.getD j [] := ⟨_, rfl⟩
          obtain ⟨y, hy⟩ : ∃ y, y = t.getD (j + 1) [] := ⟨_, rfl⟩
          rw [← hx] at hcl hxy
          rw [← hy] at hcl1 hxy
          unfold SV at hcl hcl1
          have C0 := Lib.hid hcl; have C1 := Lib.hid hcl1; have HXY := Lib.hid hxy
          have LD : Hid (Below wo.heap.size wo wr.drew) := Lib.hid hB.out.drew
          have HI0 := Lib.hid fun W => at_s W g o T ct j (by omega)
          have HI1 := Lib.hid fun W => at_s W g o T ct (j + 1) (by omega)
          have HSb := Lib.hid fun W => sub_one W j (by omega)
          clear hx hy hcl hcl1 hxy hj0 hj1 hg hj hB
          go_wp2_with fail
          refine AnyK.start wo.heap.size wo (by kernel_rfl) ?_
          refine AnyK.take 0 (.slice (some ⟨g, o, none⟩) T ct) LD.out rfl (by kernel_rfl) (by kernel_rfl) (by kernel_rfl) (fun _ _ _ h => h) (by kernel_rfl) (fun W hW => by kernel_rfl) ?_
          refine AnyK.take 1 (.int .i64 ((j + 1 : Nat) : Int)) LD.out rfl (by kernel_rfl) (by kernel_rfl) (by kernel_rfl) (fun _ _ _ h => h) (by kernel_rfl) (fun W hW => by kernel_rfl) ?_
          refine AnyK.take 2 (.int .i64 (j : Int)) LD.out rfl (by kernel_rfl) (by kernel_rfl) (by kernel_rfl) (fun _ _ _ h => h) (by kernel_rfl) (fun W hW => y_bin (x := .int .i64 ((j + 1 : Nat) : Int)) (y := .int .i64 1) rfl (by kernel_rfl) (by kernel_rfl) rfl (HSb.out W)) ?_
          refine AnyK.take 3 (.pointer (some ⟨g, o + j, none⟩)) LD.out rfl (by kernel_rfl) (by kernel_rfl) (by kernel_rfl) (fun _ _ _ h => h) (by kernel_rfl) (fun W hW => y_index (sv := .slice (some ⟨g, o, none⟩) T ct) (iv := .int .i64 (j : Int)) rfl (by kernel_rfl) (by kernel_rfl) (HI0.out W)) ?_
          refine AnyK.take 4 (.string ⟨x.toArray⟩) LD.out rfl (by kernel_rfl) (by kernel_rfl) (by kernel_rfl) (fun _ _ _ h => h) (by kernel_rfl) (fun W hW => y_load (sv := .pointer (some ⟨g, o + j, none⟩)) rfl (by kernel_rfl) (l_S W g (o + j) x (C0.out W hW))) ?_
          refine AnyK.take 5 (.slice (some ⟨g, o, none⟩) T ct) LD.out rfl (by kernel_rfl) (by kernel_rfl) (by kernel_rfl) (fun _ _ _ h => h) (by kernel_rfl) (fun W hW => by kernel_rfl) ?_
          refine AnyK.take 6 (.int .i64 ((j + 1 : Nat) : Int)) LD.out rfl (by kernel_rfl) (by kernel_rfl) (by kernel_rfl) (fun _ _ _ h => h) (by kernel_rfl) (fun W hW => by kernel_rfl) ?_
          refine AnyK.take 7 (.pointer (some ⟨g, o + (j + 1), none⟩)) LD.out rfl (by kernel_rfl) (by kernel_rfl) (by kernel_rfl) (fun _ _ _ h => h) (by kernel_rfl) (fun W hW => y_index (sv := .slice (some ⟨g, o, none⟩) T ct) (iv := .int .i64 ((j + 1 : Nat) : Int)) rfl (by kernel_rfl) (by kernel_rfl) (HI1.out W)) ?_
          refine AnyK.take 8 (.string ⟨y.toArray⟩) LD.out rfl (by kernel_rfl) (by kernel_rfl) (by kernel_rfl) (fun _ _ _ h => h) (by kernel_rfl) (fun W hW => y_load (sv := .pointer (some ⟨g, o + (j + 1), none⟩)) rfl (by kernel_rfl) (l_S W g (o + (j + 1)) y (C1.out W hW))) ?_
          refine AnyK.take 9 (.bool false) LD.out rfl (by kernel_rfl) (by kernel_rfl) (by kernel_rfl) (fun _ _ _ h => h) (by kernel_rfl) (fun W hW => y_bin (x := .string ⟨x.toArray⟩) (y := .string ⟨y.toArray⟩) rfl (by kernel_rfl) (by kernel_rfl) rfl (ge_str W x y false (by rw [decide_eq_true HXY.out]; rfl))) ?_
          refine AnyK.done _ (by kernel_rfl) ?_
          go_simp
          go_wp2_with fail
          go_roundw
          case rel => exact ⟨j + 1, by omega, by go_num, LD⟩
          case measure => simp [intOf]; omega
        have hjI : ¬ ((j : Int) + 1 < (T : Int)) := by omega
        have LX := Lib.hid (LW.out.trans (hB.out.mono LW.out.size))
        have HGt := Lib.hid (Get_p s wr (by have := HS9.out; omega))
        clear hB hj
        go_wp2_with fail
        refine HGt.out.mono ?_
        rintro e w8 ⟨(⟨v8, k8, rfl, ho8, hg8⟩ | ⟨rfl, _⟩), hb⟩
        · have L8 := Lib.hid (LX.out.trans (hb.mono LX.out.size))
          obtain ⟨A8, n8, c8, rfl, -⟩ := OwK.shape ho8
          have HPt := Lib.hid (Put_p k8 _ w8 (OwK.rd refC_len ho8) (fun r hr => by
            have h1 := nameB_len (hg8.1.name r hr); have h2 := named_len64 (hg8.1.id r hr)
            unfold maxLen; omega) (by have := hg8.1.len; omega))
          have HG8 := Lib.hid hg8
          clear hb ho8 hg8
          go_wp2_with fail
          refine HPt.out.mono ?_
          rintro e w9 ⟨(⟨rfl, _⟩ | ⟨_, hn⟩), hb⟩
          case inr => exact absurd HG8.out.1 hn
          have L9 := Lib.hid (L8.out.trans (hb.mono L8.out.size))
          rw [HG8.out.2]
          unfold SV
          clear hb
          go_wp2_with fail
          go_ret
          exact ⟨by simp, L9.out⟩
        · have L8 := Lib.hid (LX.out.trans (hb.mono LX.out.size))
          clear hb
          go_wp2_with fail
          go_ret
          exact ⟨rfl, L8.out⟩
end Go.Proofs.YtfnepffccenebaaGreatDoor.Rf
