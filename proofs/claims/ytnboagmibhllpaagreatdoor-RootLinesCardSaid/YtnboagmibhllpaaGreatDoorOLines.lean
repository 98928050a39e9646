/-
  RootLines, walked.
-/
import Derived.Test.YtnboagmibhllpaaGreatDoorOGrt
import Derived.Test.YtnboagmibhllpaaGreatDoorOSame
import Derived.Test.YtnboagmibhllpaaGreatDoorOLawB
namespace Go.Proofs.YtnboagmibhllpaaGreatDoor.Ro
open Go.Proofs.YtnboagmibhllpaaGreatDoor
open Go.Proofs.YtnboagmibhllpaaGreatDoor.Rf (BoolB Ref RefsR)
open Go Go.RowKit

set_option maxRecDepth 100000 in
set_option maxHeartbeats 8000000 in
theorem Lines_law {w : World} {E : ErA} (hp : PrA E w) (hT : Tb w) (v : Value) (r : Rt) (hv : RtR w v r) (hb : BigR r) (q : Nat) (hq : q < 65536) (y : UInt8) : Calls Tryz.prog 8 #[v, .int .u16 (q : Int), .int .u8 (y.toNat : Int)] w (BoolB true w) := by
  obtain ⟨A, c, B, d, rfl, hpl, hk⟩ := hv.parts
  obtain ⟨n, hn⟩ : ∃ n, n = r.pool.length := ⟨_, rfl⟩
  obtain ⟨m, hm⟩ : ∃ m, m = r.forks.length := ⟨_, rfl⟩
  obtain ⟨z, hz⟩ : ∃ z, z = r.count := ⟨_, rfl⟩
  rw [← hn] at hpl
  rw [← hm] at hk
  rw [← hn, ← hm, ← hz] at hv ⊢
  obtain ⟨wa, hwa⟩ : ∃ y, y = w.alloc (.cells #[.int .i64 z, .slice A n c, .slice B m d] 25) := ⟨_, rfl⟩
  have la : Below w.heap.size w wa := by rw [hwa]; exact below_new _ _
  have sa : w.heap.size < wa.heap.size := by rw [hwa]; simp
  have ka : ∀ (i : Nat) (u : Value), (#[.int .i64 z, .slice A n c, .slice B m d] : Array Value)[i]? = some u → wa.cell? ⟨w.heap.size, i, none⟩ = some u := fun i u hi => by rw [hwa, cell_of_row _ _ _ _ _ _ (heap_alloc_new w _)]; exact hi
  have cA := fun (i : Nat) (u : Value) (hi : (#[.int .i64 z, .slice A n c, .slice B m d] : Array Value)[i]? = some u) => (show Hid (∀ W, Below wa.heap.size wa W → W.cell? ⟨w.heap.size, i, none⟩ = some u) from Lib.hid fun W h =>
    (h.cell (p := ⟨w.heap.size, i, none⟩) sa).trans (ka i u hi))
  have C0 := cA 0 _ rfl; have C1 := cA 1 _ rfl; have C2 := cA 2 _ rfl
  have HV := Lib.hid (hv.below la (Nat.le_refl _)); have HP := Lib.hid (RdK.below hpl la (Nat.le_refl _)); have HK := Lib.hid (hk.below la (Nat.le_refl _))
  have HPr := Lib.hid (hp.below la); have HTb := Lib.hid (Tb.below hT la)
  have HH := Lib.hid (head_p (hp.below la) (Tb.below hT la))
  have LA := Lib.hid la; have HW := Lib.hid hwa; have HN := Lib.hid hn; have HM := Lib.hid hm; have HB := Lib.hid hb
  clear hv hpl hk hp hT hn hm hz la sa ka cA hwa hb
  go_enter Tryz.func8, Tryz.ntmps8
  go_upto_region 1 with fail
  rw [← HW.out]
  clear HW
  go_wp2_with fail
  refine HH.out.mono ?_
  rintro e w1 ⟨rfl, hb1⟩
  have L1 := Lib.hid hb1
  have f0 := C0.out w1 hb1; have f1 := C1.out w1 hb1; have f2 := C2.out w1 hb1
  have HG := Lib.hid (OGreat_p (HV.out.below hb1 (Nat.le_refl _)) HB.out)
  clear hb1 HH
  go_wp2_with fail
  refine HG.out.mono ?_
  rintro e w2 ⟨g2, rfl, hb2, hg2⟩
  have L2 := Lib.hid (L1.out.trans (hb2.mono L1.out.size))
  clear HG f0 f1 f2
  cases g2 with
  | true =>
    clear hg2 hb2
    go_wp2_with fail
    go_ret
    exact ⟨rfl, LA.out.trans (L2.out.mono LA.out.size)⟩
  | false =>
  have HS := Lib.hid (hg2 rfl)
  have HF := Lib.hid (HS.out.fit HB.out)
  clear hg2 hb2
  have HPt := Lib.hid (put_p r _ w2 (HV.out.below L2.out (Nat.le_refl _)) HF.out (Tb.below HTb.out L2.out))
  have f0 := C0.out w2 L2.out; have f1 := C1.out w2 L2.out; have f2 := C2.out w2 L2.out
  go_wp2_with fail
  refine HPt.out.mono ?_
  rintro e w3 ⟨hb3, hpt⟩
  have L3 := Lib.hid (L2.out.trans (hb3.mono L2.out.size))
  clear f0 f1 f2 HPt hb3
  rcases hpt with ⟨hok, Ax, nx, cx, rfl, hnx, hrx⟩ | ⟨hok, rfl⟩
  case inr =>
    go_wp2_with fail
    go_ret
    exact ⟨rfl, LA.out.trans (L3.out.mono LA.out.size)⟩
  have hml : m ≤ 16 := by rw [HM.out]; exact hok.len
  have hnl : n ≤ 24 := by rw [HN.out]; exact hok.pool.len
  have hlast := fun k => rootL_last (r := r) (k := k)
  have hx8 := rootL_len hok
  have hcnt := rootL_count hok
  have hx1 : 1 ≤ (rootL r).length := by
    obtain ⟨t, e⟩ := rootL_ends r
    rw [e, List.length_append, List.length_singleton]; omega
  obtain ⟨X, hX⟩ : ∃ X, X = rootL r := ⟨_, rfl⟩
  rw [← hX] at hnx hrx hlast hx8 hx1 hcnt
  have hn1 : 1 ≤ nx := by omega
  have hn8 : nx ≤ 800000 := by omega
  obtain ⟨g, o, hA⟩ : ∃ g o, Ax = some ⟨g, o, none⟩ := by
    rcases hrx with ⟨_, rfl⟩ | ⟨g, o, c, e, _⟩
    · simp at hx1
    · cases e; exact ⟨g, o, rfl⟩
  subst hA
  obtain ⟨-, hcx, hg, hcell⟩ := rb_at hrx (by omega)
  have HXc := Lib.hid (fun (j : Nat) (hj : j < X.length) (W : World) (hW : Below w3.heap.size w3 W) => (hW.cell (p := ⟨g, o + j, none⟩) hg).trans (hcell j hj))
  have HOk := Lib.hid hok; have HNx := Lib.hid hnx; have HRx := Lib.hid hrx; have HX := Lib.hid hX; have HCt := Lib.hid hcnt
  have HLs := Lib.hid hlast
  have HX8 := Lib.hid hx8
  have hnI : ((nx : Int) == 0) = false := by simp; omega
  have hnI2 : ¬ (nx : Int) = 0 := by omega
  clear hok hnx hrx hX hcnt hlast hcell hg hx8 hx1
  go_wp2_with fail
  go_loopw [10, 11] (fun v10 i wr => ∃ k : Nat, k ≤ nx ∧ i = .int .i64 k ∧ v10 = .int .i64 (((X.take k).count 10 : Nat) : Int) ∧ wr = w3) (fun _ i _ => nx - (intOf i).toNat)
  case atStart => exact ⟨0, Nat.zero_le _, rfl, by simp, rfl⟩
  case round =>
    obtain ⟨k, hk, rfl, rfl, hwr⟩ := hrel
    subst hwr
    by_cases hlt : k < nx
    · have hkx : k < X.length := by rw [← HNx.out]; exact hlt
      have p0 := HXc.out k hkx wr (Below.refl _ _)
      have hct := count_take hkx
      have hle : (X.take k).count 10 ≤ 800000 := by
        have h1 := List.count_le_length (a := (10 : UInt8)) (l := X.take k)
        rw [List.length_take] at h1
        have := HX8.out
        omega
      obtain ⟨N0, hN0⟩ : ∃ N0, N0 = (X.take k).count 10 := ⟨_, rfl⟩
      rw [← hN0] at hct hle ⊢
      obtain ⟨x, hxd⟩ : ∃ x, x = X.getD k 0 := ⟨_, rfl⟩
      rw [← hxd] at p0 hct
      have h10 := u8_10 x
      cases hq10 : (x == 10) with
      | true =>
        rw [hq10] at h10 hct
        have HCT := Lib.hid hct
        clear hct hq10 hxd hN0 hkx
        go_wp2_with fail
        go_roundw
        case rel => exact ⟨k + 1, hlt, by go_num, by rw [HCT.out]; go_num, by simp⟩
        case measure => simp [intOf]; omega
      | false =>
        rw [hq10] at h10 hct
        have HCT := Lib.hid hct
        clear hct hq10 hxd hN0 hkx
        go_wp2_with fail
        go_roundw
        case rel => exact ⟨k + 1, hlt, by go_num, by rw [HCT.out]; go_num, by simp⟩
        case measure => simp [intOf]; omega
    have hkn : k = nx := by omega
    have hct : (X.take k).count 10 = 3 + n + wantF r.forks := by rw [hkn, HNx.out, List.take_length, HCt.out, HN.out]
    rw [hct]
    obtain ⟨T, hT⟩ : ∃ T, T = 3 + n + wantF r.forks := ⟨_, rfl⟩
    rw [← hT]
    have HT := Lib.hid hT
    obtain ⟨wo, hwo⟩ : ∃ wo, wo = wr := ⟨_, rfl⟩
    subst hwo
    have y1 := C1.out wo L3.out; have y2 := C2.out wo L3.out
    clear hct hkn hT
    go_wp2_with fail
    go_loopw [12, 13] (fun v12 i wr => Hid (Below wo.heap.size wo wr) ∧ ∃ k N2 : Nat, k ≤ m ∧ i = .int .i64 k ∧ v12 = .int .i64 (N2 : Int) ∧ Hid (N2 = 3 + n + wantF (r.forks.take k)) ∧ N2 ≤ 3 + n + k * 89) (fun _ i _ => m - (intOf i).toNat)
    case atStart => exact ⟨Lib.hid (Below.refl _ _), 0, 3 + n, Nat.zero_le _, rfl, by go_num, Lib.hid (by simp [wantF]), by omega⟩
    case round =>
      obtain ⟨hB, k2, N2, hk2, rfl, rfl, hN2, hN2b⟩ := hrel
      have LB := Lib.hid (L3.out.trans (hB.out.mono L3.out.size))
      have z2 := C2.out wr LB.out
      clear y1 y2
      by_cases hlt2 : k2 < m
      · obtain ⟨g', o', c', e, _, _⟩ := HK.out.pos (by have := HM.out; omega)
        obtain rfl : B = some ⟨g', o', none⟩ := by rw [← HM.out] at e; cases e; rfl
        clear e
        obtain ⟨f, hf⟩ : ∃ f, r.forks[k2]? = some f := ⟨_, List.getElem?_eq_getElem (by have := HM.out; omega)⟩
        obtain ⟨x, hx, d0, d1, d2, d3, d4⟩ := (HK.out.below LB.out (Nat.le_refl _)).at hf
        have hs := wantF_snoc hf
        have hfk := HOk.out.forks.each f (List.mem_of_getElem? hf)
        have hr64 := hfk.refs.len; have hp24 := hfk.packs.len
        obtain ⟨Ar, cr, er⟩ := RdK.shape hx.refs
        obtain ⟨Ap, cp, ep⟩ := RdK.shape hx.packs
        obtain ⟨nr, hnr⟩ : ∃ n, n = f.refs.length := ⟨_, rfl⟩
        obtain ⟨np, hnp⟩ : ∃ n, n = f.packs.length := ⟨_, rfl⟩
        rw [er, ← hnr] at d3
        rw [ep, ← hnp] at d4
        rw [← hnr] at hr64
        rw [← hnp] at hp24
        have M1 : Hid (((N2 : Int) + 1 + (nr : Int) + (np : Int)) = ((N2 + 1 + nr + np : Nat) : Int)) := Lib.hid (by omega)
        have HSt : Hid (N2 + 1 + nr + np = 3 + n + wantF (r.forks.take (k2 + 1))) := Lib.hid (by rw [hs, hN2.out]; unfold oneF; omega)
        clear hf hx d0 d1 d2 er ep hnr hnp hs hfk hN2
        go_wp2_with fail
        go_quiet (fail)
        go_wp2_with fail
        go_roundw
        case rel => exact ⟨Lib.hid (bdr hB.out _), k2 + 1, N2 + 1 + nr + np, hlt2, by go_num, by rw [M1.out], HSt, by omega⟩
        case measure => simp [intOf]; omega
      have hkm : k2 = m := by omega
      obtain rfl : N2 = T := by
        have h := hN2.out
        rw [hkm, HM.out, List.take_length] at h
        rw [h, HT.out]
      obtain ⟨J, hJ⟩ : ∃ J, nx = J + 1 := ⟨nx - 1, by omega⟩
      subst hJ
      obtain ⟨kq, hkq⟩ : ∃ kq, kq = q % (J + 1) := ⟨_, rfl⟩
      have hkqn : kq < J + 1 := by rw [hkq]; exact Nat.mod_lt _ (by omega)
      have m1 : (q : Int) % ((J + 1 : Nat) : Int) = (kq : Int) := by rw [hkq, Int.natCast_emod]
      have m2 : Int.tmod (q : Int) ((J + 1 : Nat) : Int) = (kq : Int) := by rw [Int.tmod_eq_emod_of_nonneg (by omega)]; exact m1
      have m3 : Int.tmod (q : Int) ((J : Int) + 1) = (kq : Int) := by rw [← m2]; rfl
      have m4 : (q : Int) % ((J : Int) + 1) = (kq : Int) := by rw [← m1]; rfl
      have hxq := fun W hW => HXc.out kq (by rw [← HNx.out]; exact hkqn) W hW
      have hxJ := fun W hW => HXc.out J (by rw [← HNx.out]; omega) W hW
      have h10 : X.getD J 0 = 10 := by
        have h := HLs.out J HNx.out
        rw [List.getD_eq_getElem?_getD, h]; rfl
      rw [h10] at hxJ
      obtain ⟨x0, hx0⟩ : ∃ x0, x0 = X.getD kq 0 := ⟨_, rfl⟩
      rw [← hx0] at hxq
      have DQ := Lib.hid hxq; have DJ := Lib.hid hxJ; have HX0 := Lib.hid hx0; have HKq := Lib.hid hkqn
      obtain ⟨w8, hw8⟩ : ∃ z, z = wr.alloc (.cells #[] 5) := ⟨_, rfl⟩
      have b8 : Below wr.heap.size wr w8 := by rw [hw8]; exact below_new wr _
      have O8 := Lib.hid (Ow.new0 wr wr.heap.size (Nat.le_refl _))
      rw [← hw8] at O8
      have HW8 := Lib.hid hw8; have HB8 := Lib.hid b8
      have HXw : Hid (Rb w8 (.slice (some ⟨g, o, none⟩) (J + 1) cx) X) := Lib.hid ((HRx.out.below hB.out (Nat.le_refl _)).below b8 (Nat.le_refl _))
      have Hl1 : Hid (([] : Bs).length + X.length ≤ 140737488355328) := Lib.hid (by have := HX8.out; simp; omega)
      have HqI : Hid (kq ≤ 800000) := Lib.hid (by omega)
      clear hkm hkq hx0 hxq hxJ h10 hw8 b8 hN2 hN2b HT hkqn
      go_wp2_with (first | rw [← HW8.out] | (refine wpList_app rfl _ _ rfl wr.heap.size (.slice (some ⟨wr.heap.size, 0, none⟩) 0 0) (.slice (some ⟨g, o, none⟩) (J + 1) cx) [] X rfl rfl O8.out HXw.out Hl1.out HB8.out.size ?_))
      intro v9 w9 ho9 b9
      obtain ⟨g9, c9, rfl, hg9, hl9, hc9, hz9⟩ := ow_shapeO ho9 (by have := HNx.out; omega)
      have e9 : X.length = J + 1 := HNx.out.symm
      have hz9k := hz9 kq
      have hc9k := hc9 kq (by rw [e9]; exact HKq.out)
      rw [e9] at ho9 ⊢
      have hos := ow_setO ho9 kq y
      obtain ⟨w10, hw10⟩ : ∃ z, z = w9.setCell ⟨g9, kq, none⟩ (.int .u8 (y.toNat : Int)) := ⟨_, rfl⟩
      have b79 : Below wr.heap.size wr w9 := HB8.out.trans b9
      have b710 : Below wr.heap.size wr w10 := by rw [hw10]; exact b79.setCell (p := ⟨g9, kq, none⟩) hg9 _
      have hos : Ow w10 wr.heap.size (.slice (some ⟨g9, 0, none⟩) (J + 1) c9) (X.set kq y) := by rw [hw10]; exact hos
      have L10 := Lib.hid (LB.out.trans (b710.mono LB.out.size))
      have B10 := Lib.hid (hB.out.trans (b710.mono hB.out.size))
      have hx9 := fun W => at_u8O W g9 0 (J + 1) c9 kq HKq.out
      have HGt := Lib.hid (get_p (HPr.out.below L10.out) (X.set kq y) (by rw [List.length_set]; have := HX8.out; omega) (by rw [List.length_set, e9]) hos.rb)
      have HW10 := Lib.hid hw10
      have hkI : (kq : Int) < ((J + 1 : Nat) : Int) := by have := HKq.out; omega
      have hkI2 : (kq : Int) < (J : Int) + 1 := by have := HKq.out; omega
      clear ho9 b9 hg9 hl9 hc9 hz9 e9 hos b79 b710 hw10 O8 HB8 HXw HW8 hx9
      go_upto_region 21 with fail
      rw [← HW10.out]
      clear HW10 hz9k hc9k
      go_wp2_with fail
      refine HGt.out.mono ?_
      rintro e wg ⟨vg, bg, rfl, hbg, hgg⟩
      have LG := Lib.hid (L10.out.trans (hbg.mono L10.out.size))
      have BG := Lib.hid (B10.out.trans (hbg.mono B10.out.size))
      clear HGt
      rcases hgg with ⟨s, hs, rfl, hrs⟩ | ⟨hs, rfl, rfl⟩
      · obtain ⟨As, cs, Bs', ds, rfl, _, _⟩ := hrs.parts
        obtain ⟨ns, hns⟩ : ∃ n, n = s.pool.length := ⟨_, rfl⟩
        obtain ⟨ms, hms⟩ : ∃ n, n = s.forks.length := ⟨_, rfl⟩
        obtain ⟨zs, hzs⟩ : ∃ n, n = s.count := ⟨_, rfl⟩
        rw [← hns, ← hms, ← hzs] at hrs ⊢
        obtain ⟨wu, hwu⟩ : ∃ y, y = wg.alloc (.cells #[.int .i64 zs, .slice As ns cs, .slice Bs' ms ds] 25) := ⟨_, rfl⟩
        have lu : Below wg.heap.size wg wu := by rw [hwu]; exact below_new _ _
        have su := cells_new hwu
        have S0 := Lib.hid (su 0 _ rfl); have S1 := Lib.hid (su 1 _ rfl); have S2 := Lib.hid (su 2 _ rfl)
        have LU := Lib.hid (LG.out.trans (lu.mono LG.out.size))
        have BU := Lib.hid (BG.out.trans (lu.mono BG.out.size))
        have hfs : FitR s := (getO_iff.1 hs).1.fit
        have HSm : Hid (∀ W, Below wu.heap.size wu W → Calls Tryz.prog 18 #[.agg #[.int .i64 zs, .slice As ns cs, .slice Bs' ms ds], .agg #[.int .i64 z, .slice A n c, .slice B m d]] W (BoolB (decide (y = x0)) W)) := Lib.hid fun W hW => by
          have h := OSame_p ((hrs.below lu (Nat.le_refl _)).below hW (Nat.le_refl _)) (HV.out.below (LU.out.trans (hW.mono LU.out.size)) (Nat.le_refl _)) hfs
          have e : eqR s r = decide (y = x0) := by
            have hkX : kq < (rootL r).length := by rw [← HX.out, ← HNx.out]; exact HKq.out
            rw [HX.out] at hs
            have h2 := set_same HOk.out hkX hs
            rw [Bool.eq_iff_iff, eqR_iff, h2, decide_eq_true_iff, HX0.out, HX.out, List.getD_eq_getElem?_getD, List.getElem?_eq_getElem hkX]; rfl
          rw [e] at h; exact h
        obtain ⟨bE, hbE⟩ : ∃ b, b = decide (y = x0) := ⟨_, rfl⟩
        rw [← hbE] at HSm
        have HBE := Lib.hid hbE
        have HWU := Lib.hid hwu
        clear hbg hs hrs hns hms hzs hwu lu su hfs hbE m1 m2 m3 m4 hkI hkI2
        go_upto_region 22 with fail
        rw [← HWU.out]
        clear HWU
        have LD : Hid (Below wu.heap.size wu wu.drew) := Lib.hid (Below.refl _ _).drew
        refine AnyB.start (by kernel_rfl) ?_
        refine AnyB.take 0 (.bool true) rfl (by kernel_rfl) (by kernel_rfl) (by kernel_rfl) (fun _ _ _ h => h) (by kernel_rfl) (fun W hW => by kernel_rfl) ?_
        refine AnyB.take 1 (.bool true) rfl (by kernel_rfl) (by kernel_rfl) (by kernel_rfl) (fun _ _ _ h => h) (by kernel_rfl) (fun W hW => by kernel_rfl) ?_
        refine AnyB.take 2 (.int .i64 (N2 : Int)) rfl (by kernel_rfl) (by kernel_rfl) (by kernel_rfl) (fun _ _ _ h => h) (by kernel_rfl) (fun W hW => by kernel_rfl) ?_
        refine AnyB.take 3 (.int .i64 (N2 : Int)) rfl (by kernel_rfl) (by kernel_rfl) (by kernel_rfl) (fun _ _ _ h => h) (by kernel_rfl) (fun W hW => by kernel_rfl) ?_
        refine AnyB.take 4 (.bool true) rfl (by kernel_rfl) (by kernel_rfl) (by kernel_rfl) (fun _ _ _ h => h) (by kernel_rfl) (fun W hW => y_bin (x := .int .i64 (N2 : Int)) (y := .int .i64 (N2 : Int)) rfl (by kernel_rfl) (by kernel_rfl) rfl (by simp [go_sem])) ?_
        refine AnyB.take 5 (.bool true) rfl (by kernel_rfl) (by kernel_rfl) (by kernel_rfl) (fun _ _ _ h => h) (by kernel_rfl) (fun W hW => by kernel_rfl) ?_
        refine AnyB.take 6 (.bool true) rfl (by kernel_rfl) (by kernel_rfl) (by kernel_rfl) (fun _ _ _ h => h) (by kernel_rfl) (fun W hW => by kernel_rfl) ?_
        refine AnyB.take 7 (.slice (some ⟨g, o, none⟩) (J + 1) cx) rfl (by kernel_rfl) (by kernel_rfl) (by kernel_rfl) (fun _ _ _ h => h) (by kernel_rfl) (fun W hW => by kernel_rfl) ?_
        refine AnyB.take 8 (.slice (some ⟨g, o, none⟩) (J + 1) cx) rfl (by kernel_rfl) (by kernel_rfl) (by kernel_rfl) (fun _ _ _ h => h) (by kernel_rfl) (fun W hW => by kernel_rfl) ?_
        refine AnyB.take 9 (.int .i64 ((J + 1 : Nat) : Int)) rfl (by kernel_rfl) (by kernel_rfl) (by kernel_rfl) (fun _ _ _ h => h) (by kernel_rfl) (fun W hW => by kernel_rfl) ?_
        refine AnyB.take 10 (.int .i64 (J : Int)) rfl (by kernel_rfl) (by kernel_rfl) (by kernel_rfl) (fun _ _ _ h => h) (by kernel_rfl) (fun W hW => y_bin (x := .int .i64 ((J + 1 : Nat) : Int)) (y := .int .i64 1) rfl (by kernel_rfl) (by kernel_rfl) rfl (sub_one W J (by omega))) ?_
        refine AnyB.take 11 (.pointer (some ⟨g, o + J, none⟩)) rfl (by kernel_rfl) (by kernel_rfl) (by kernel_rfl) (fun _ _ _ h => h) (by kernel_rfl) (fun W hW => y_index (sv := .slice (some ⟨g, o, none⟩) (J + 1) cx) (iv := .int .i64 (J : Int)) rfl (by kernel_rfl) (by kernel_rfl) (at_u8O W g o (J + 1) cx J (by omega))) ?_
        refine AnyB.take 12 (.int .u8 (((10 : UInt8).toNat : Nat) : Int)) rfl (by kernel_rfl) (by kernel_rfl) (by kernel_rfl) (fun _ _ _ h => h) (by kernel_rfl) (fun W hW => y_load (sv := .pointer (some ⟨g, o + J, none⟩)) rfl (by kernel_rfl) (l_U8 W g (o + J) _ (DJ.out W (BU.out.trans ((LD.out.trans (hW.mono LD.out.size)).mono BU.out.size))))) ?_
        refine AnyB.take 13 (.bool true) rfl (by kernel_rfl) (by kernel_rfl) (by kernel_rfl) (fun _ _ _ h => h) (by kernel_rfl) (fun W hW => y_bin (x := .int .u8 (((10 : UInt8).toNat : Nat) : Int)) (y := .int .u8 10) rfl (by kernel_rfl) (by kernel_rfl) rfl (eqlU8 W 10 10 true rfl)) ?_
        refine AnyB.take 14 (.bool true) rfl (by kernel_rfl) (by kernel_rfl) (by kernel_rfl) (fun _ _ _ h => h) (by kernel_rfl) (fun W hW => by kernel_rfl) ?_
        refine AnyB.take 15 (.bool true) rfl (by kernel_rfl) (by kernel_rfl) (by kernel_rfl) (fun _ _ _ h => h) (by kernel_rfl) (fun W hW => by kernel_rfl) ?_
        refine AnyB.take 16 (.bool true) rfl (by kernel_rfl) (by kernel_rfl) (by kernel_rfl) (fun _ _ _ h => h) (by kernel_rfl) (fun W hW => by kernel_rfl) ?_
        refine AnyB.take 17 (.bool false) rfl (by kernel_rfl) (by kernel_rfl) (by kernel_rfl) (fun _ _ _ h => h) (by kernel_rfl) (fun W hW => by kernel_rfl) ?_
        refine AnyB.take 18 (.bool false) rfl (by kernel_rfl) (by kernel_rfl) (by kernel_rfl) (fun _ _ _ h => h) (by kernel_rfl) (fun W hW => by kernel_rfl) ?_
        refine AnyB.take 19 (.agg #[.int .i64 zs, .slice As ns cs, .slice Bs' ms ds]) rfl (by kernel_rfl) (by kernel_rfl) (by kernel_rfl) (fun _ _ _ h => h) (by kernel_rfl) (fun W hW => y_load (sv := .pointer (some ⟨wg.heap.size, 0, none⟩)) rfl (by kernel_rfl) (l_RtO W _ _ _ _ (S0.out W (LD.out.trans (hW.mono LD.out.size))) (S1.out W (LD.out.trans (hW.mono LD.out.size))) (S2.out W (LD.out.trans (hW.mono LD.out.size))))) ?_
        refine AnyB.take 20 (.agg #[.int .i64 z, .slice A n c, .slice B m d]) rfl (by kernel_rfl) (by kernel_rfl) (by kernel_rfl) (fun _ _ _ h => h) (by kernel_rfl) (fun W hW => y_load (sv := .pointer (some ⟨w.heap.size, 0, none⟩)) rfl (by kernel_rfl) (l_RtO W _ _ _ _ (C0.out W (LU.out.trans ((LD.out.trans (hW.mono LD.out.size)).mono LU.out.size))) (C1.out W (LU.out.trans ((LD.out.trans (hW.mono LD.out.size)).mono LU.out.size))) (C2.out W (LU.out.trans ((LD.out.trans (hW.mono LD.out.size)).mono LU.out.size))))) ?_
        refine AnyB.take 22 (.int .u8 (y.toNat : Int)) rfl (by kernel_rfl) (by kernel_rfl) (by kernel_rfl) (fun _ _ _ h => h) (by kernel_rfl) (fun W hW => by kernel_rfl) ?_
        refine AnyB.take 23 (.slice (some ⟨g, o, none⟩) (J + 1) cx) rfl (by kernel_rfl) (by kernel_rfl) (by kernel_rfl) (fun _ _ _ h => h) (by kernel_rfl) (fun W hW => by kernel_rfl) ?_
        refine AnyB.take 24 (.int .i64 (kq : Int)) rfl (by kernel_rfl) (by kernel_rfl) (by kernel_rfl) (fun _ _ _ h => h) (by kernel_rfl) (fun W hW => by kernel_rfl) ?_
        refine AnyB.take 25 (.pointer (some ⟨g, o + kq, none⟩)) rfl (by kernel_rfl) (by kernel_rfl) (by kernel_rfl) (fun _ _ _ h => h) (by kernel_rfl) (fun W hW => y_index (sv := .slice (some ⟨g, o, none⟩) (J + 1) cx) (iv := .int .i64 (kq : Int)) rfl (by kernel_rfl) (by kernel_rfl) (at_u8O W g o (J + 1) cx kq HKq.out)) ?_
        refine AnyB.take 26 (.int .u8 (x0.toNat : Int)) rfl (by kernel_rfl) (by kernel_rfl) (by kernel_rfl) (fun _ _ _ h => h) (by kernel_rfl) (fun W hW => y_load (sv := .pointer (some ⟨g, o + kq, none⟩)) rfl (by kernel_rfl) (l_U8 W g (o + kq) _ (DQ.out W (BU.out.trans ((LD.out.trans (hW.mono LD.out.size)).mono BU.out.size))))) ?_
        refine AnyB.take 27 (.bool bE) rfl (by kernel_rfl) (by kernel_rfl) (by kernel_rfl) (fun _ _ _ h => h) (by kernel_rfl) (fun W hW => y_bin (x := .int .u8 (y.toNat : Int)) (y := .int .u8 (x0.toNat : Int)) rfl (by kernel_rfl) (by kernel_rfl) rfl (eqlU8 W y x0 bE HBE.out.symm)) ?_
        refine AnyB.call 21 18 #[.agg #[.int .i64 zs, .slice As ns cs, .slice Bs' ms ds], .agg #[.int .i64 z, .slice A n c, .slice B m d]] (by kernel_rfl) rfl (by kernel_rfl) (by kernel_rfl) ?_
        refine (HSm.out _ LD.out).mono ?_
        rintro e w7 ⟨rfl, hb7⟩
        have L7 := Lib.hid (LD.out.trans (hb7.mono LD.out.size))
        refine ⟨_, rfl, hb7, ?_⟩
        refine AnyB.take 28 (.bool true) rfl (by kernel_rfl) (by kernel_rfl) (by kernel_rfl) (fun _ _ _ h => h) (by kernel_rfl) (fun W hW => y_bin (x := .bool bE) (y := .bool bE) rfl (by kernel_rfl) (by kernel_rfl) rfl (eqlB W bE bE true (by cases bE <;> rfl))) ?_
        refine AnyB.take 29 (.bool true) rfl (by kernel_rfl) (by kernel_rfl) (by kernel_rfl) (fun _ _ _ h => h) (by kernel_rfl) (fun W hW => by kernel_rfl) ?_
        refine AnyB.take 30 (.bool true) rfl (by kernel_rfl) (by kernel_rfl) (by kernel_rfl) (fun _ _ _ h => h) (by kernel_rfl) (fun W hW => by kernel_rfl) ?_
        refine AnyB.take 31 (.bool true) rfl (by kernel_rfl) (by kernel_rfl) (by kernel_rfl) (fun _ _ _ h => h) (by kernel_rfl) (fun W hW => by kernel_rfl) ?_
        refine AnyB.done _ (by kernel_rfl) ?_
        go_simp
        go_wp2_with fail
        go_ret
        exact ⟨rfl, LA.out.trans ((LU.out.trans (L7.out.mono LU.out.size)).mono LA.out.size)⟩
      · obtain ⟨wu, hwu⟩ : ∃ y, y = wg.alloc (.cells rt0 25) := ⟨_, rfl⟩
        have lu : Below wg.heap.size wg wu := by rw [hwu]; exact below_new _ _
        have LU := Lib.hid (LG.out.trans (lu.mono LG.out.size))
        have BU := Lib.hid (BG.out.trans (lu.mono BG.out.size))
        unfold rt0 at hwu ⊢
        have HWU := Lib.hid hwu
        clear hbg hs hwu lu m1 m2 m3 m4 hkI hkI2
        go_upto_region 22 with fail
        rw [← HWU.out]
        clear HWU
        have LD : Hid (Below wu.heap.size wu wu.drew) := Lib.hid (Below.refl _ _).drew
        refine AnyB.start (by kernel_rfl) ?_
        refine AnyB.take 0 (.bool true) rfl (by kernel_rfl) (by kernel_rfl) (by kernel_rfl) (fun _ _ _ h => h) (by kernel_rfl) (fun W hW => by kernel_rfl) ?_
        refine AnyB.take 1 (.bool true) rfl (by kernel_rfl) (by kernel_rfl) (by kernel_rfl) (fun _ _ _ h => h) (by kernel_rfl) (fun W hW => by kernel_rfl) ?_
        refine AnyB.take 2 (.int .i64 (N2 : Int)) rfl (by kernel_rfl) (by kernel_rfl) (by kernel_rfl) (fun _ _ _ h => h) (by kernel_rfl) (fun W hW => by kernel_rfl) ?_
        refine AnyB.take 3 (.int .i64 (N2 : Int)) rfl (by kernel_rfl) (by kernel_rfl) (by kernel_rfl) (fun _ _ _ h => h) (by kernel_rfl) (fun W hW => by kernel_rfl) ?_
        refine AnyB.take 4 (.bool true) rfl (by kernel_rfl) (by kernel_rfl) (by kernel_rfl) (fun _ _ _ h => h) (by kernel_rfl) (fun W hW => y_bin (x := .int .i64 (N2 : Int)) (y := .int .i64 (N2 : Int)) rfl (by kernel_rfl) (by kernel_rfl) rfl (by simp [go_sem])) ?_
        refine AnyB.take 5 (.bool true) rfl (by kernel_rfl) (by kernel_rfl) (by kernel_rfl) (fun _ _ _ h => h) (by kernel_rfl) (fun W hW => by kernel_rfl) ?_
        refine AnyB.take 6 (.bool true) rfl (by kernel_rfl) (by kernel_rfl) (by kernel_rfl) (fun _ _ _ h => h) (by kernel_rfl) (fun W hW => by kernel_rfl) ?_
        refine AnyB.take 7 (.slice (some ⟨g, o, none⟩) (J + 1) cx) rfl (by kernel_rfl) (by kernel_rfl) (by kernel_rfl) (fun _ _ _ h => h) (by kernel_rfl) (fun W hW => by kernel_rfl) ?_
        refine AnyB.take 8 (.slice (some ⟨g, o, none⟩) (J + 1) cx) rfl (by kernel_rfl) (by kernel_rfl) (by kernel_rfl) (fun _ _ _ h => h) (by kernel_rfl) (fun W hW => by kernel_rfl) ?_
        refine AnyB.take 9 (.int .i64 ((J + 1 : Nat) : Int)) rfl (by kernel_rfl) (by kernel_rfl) (by kernel_rfl) (fun _ _ _ h => h) (by kernel_rfl) (fun W hW => by kernel_rfl) ?_
        refine AnyB.take 10 (.int .i64 (J : Int)) rfl (by kernel_rfl) (by kernel_rfl) (by kernel_rfl) (fun _ _ _ h => h) (by kernel_rfl) (fun W hW => y_bin (x := .int .i64 ((J + 1 : Nat) : Int)) (y := .int .i64 1) rfl (by kernel_rfl) (by kernel_rfl) rfl (sub_one W J (by omega))) ?_
        refine AnyB.take 11 (.pointer (some ⟨g, o + J, none⟩)) rfl (by kernel_rfl) (by kernel_rfl) (by kernel_rfl) (fun _ _ _ h => h) (by kernel_rfl) (fun W hW => y_index (sv := .slice (some ⟨g, o, none⟩) (J + 1) cx) (iv := .int .i64 (J : Int)) rfl (by kernel_rfl) (by kernel_rfl) (at_u8O W g o (J + 1) cx J (by omega))) ?_
        refine AnyB.take 12 (.int .u8 (((10 : UInt8).toNat : Nat) : Int)) rfl (by kernel_rfl) (by kernel_rfl) (by kernel_rfl) (fun _ _ _ h => h) (by kernel_rfl) (fun W hW => y_load (sv := .pointer (some ⟨g, o + J, none⟩)) rfl (by kernel_rfl) (l_U8 W g (o + J) _ (DJ.out W (BU.out.trans ((LD.out.trans (hW.mono LD.out.size)).mono BU.out.size))))) ?_
        refine AnyB.take 13 (.bool true) rfl (by kernel_rfl) (by kernel_rfl) (by kernel_rfl) (fun _ _ _ h => h) (by kernel_rfl) (fun W hW => y_bin (x := .int .u8 (((10 : UInt8).toNat : Nat) : Int)) (y := .int .u8 10) rfl (by kernel_rfl) (by kernel_rfl) rfl (eqlU8 W 10 10 true rfl)) ?_
        refine AnyB.take 14 (.bool true) rfl (by kernel_rfl) (by kernel_rfl) (by kernel_rfl) (fun _ _ _ h => h) (by kernel_rfl) (fun W hW => by kernel_rfl) ?_
        refine AnyB.take 15 (.bool true) rfl (by kernel_rfl) (by kernel_rfl) (by kernel_rfl) (fun _ _ _ h => h) (by kernel_rfl) (fun W hW => by kernel_rfl) ?_
        refine AnyB.take 16 (.bool false) rfl (by kernel_rfl) (by kernel_rfl) (by kernel_rfl) (fun _ _ _ h => h) (by kernel_rfl) (fun W hW => by kernel_rfl) ?_
        refine AnyB.take 17 (.bool true) rfl (by kernel_rfl) (by kernel_rfl) (by kernel_rfl) (fun _ _ _ h => h) (by kernel_rfl) (fun W hW => by kernel_rfl) ?_
        refine AnyB.take 18 (.bool true) rfl (by kernel_rfl) (by kernel_rfl) (by kernel_rfl) (fun _ _ _ h => h) (by kernel_rfl) (fun W hW => by kernel_rfl) ?_
        refine AnyB.skip 19 rfl (by kernel_rfl) (by kernel_rfl) (by kernel_rfl) (fun _ _ _ h => h) (by kernel_rfl) ?_
        refine AnyB.skip 20 rfl (by kernel_rfl) (by kernel_rfl) (by kernel_rfl) (fun _ _ _ h => h) (by kernel_rfl) ?_
        refine AnyB.skip 21 rfl (by kernel_rfl) (by kernel_rfl) (by kernel_rfl) (fun _ _ _ h => h) (by kernel_rfl) ?_
        refine AnyB.skip 22 rfl (by kernel_rfl) (by kernel_rfl) (by kernel_rfl) (fun _ _ _ h => h) (by kernel_rfl) ?_
        refine AnyB.skip 23 rfl (by kernel_rfl) (by kernel_rfl) (by kernel_rfl) (fun _ _ _ h => h) (by kernel_rfl) ?_
        refine AnyB.skip 24 rfl (by kernel_rfl) (by kernel_rfl) (by kernel_rfl) (fun _ _ _ h => h) (by kernel_rfl) ?_
        refine AnyB.skip 25 rfl (by kernel_rfl) (by kernel_rfl) (by kernel_rfl) (fun _ _ _ h => h) (by kernel_rfl) ?_
        refine AnyB.skip 26 rfl (by kernel_rfl) (by kernel_rfl) (by kernel_rfl) (fun _ _ _ h => h) (by kernel_rfl) ?_
        refine AnyB.skip 27 rfl (by kernel_rfl) (by kernel_rfl) (by kernel_rfl) (fun _ _ _ h => h) (by kernel_rfl) ?_
        refine AnyB.skip 28 rfl (by kernel_rfl) (by kernel_rfl) (by kernel_rfl) (fun _ _ _ h => h) (by kernel_rfl) ?_
        refine AnyB.take 29 (.bool true) rfl (by kernel_rfl) (by kernel_rfl) (by kernel_rfl) (fun _ _ _ h => h) (by kernel_rfl) (fun W hW => by kernel_rfl) ?_
        refine AnyB.take 30 (.bool true) rfl (by kernel_rfl) (by kernel_rfl) (by kernel_rfl) (fun _ _ _ h => h) (by kernel_rfl) (fun W hW => by kernel_rfl) ?_
        refine AnyB.take 31 (.bool true) rfl (by kernel_rfl) (by kernel_rfl) (by kernel_rfl) (fun _ _ _ h => h) (by kernel_rfl) (fun W hW => by kernel_rfl) ?_
        refine AnyB.done _ (by kernel_rfl) ?_
        go_simp
        go_wp2_with fail
        go_ret
        exact ⟨rfl, LA.out.trans ((LU.out.trans (LD.out.mono LU.out.size)).mono LA.out.size)⟩
end Go.Proofs.YtnboagmibhllpaaGreatDoor.Ro
