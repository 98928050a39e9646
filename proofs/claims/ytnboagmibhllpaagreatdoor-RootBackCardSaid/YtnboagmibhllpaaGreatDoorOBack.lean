/-
  RootBack, walked.
-/
import Derived.Test.YtnboagmibhllpaaGreatDoorOGrt
import Derived.Test.YtnboagmibhllpaaGreatDoorOSame
import Derived.Test.YtnboagmibhllpaaGreatDoorOLawP
import Derived.Test.YtnboagmibhllpaaGreatDoorC20
namespace Go.Proofs.YtnboagmibhllpaaGreatDoor.Ro
open Go.Proofs.YtnboagmibhllpaaGreatDoor
open Go.Proofs.YtnboagmibhllpaaGreatDoor.Rf (BoolB Ref RefsR)
open Go Go.RowKit

set_option maxRecDepth 100000 in
set_option maxHeartbeats 8000000 in
theorem Back_law {w : World} {E : ErA} (hp : PrA E w) (hT : Tb w) (v : Value) (r : Rt) (hv : RtR w v r) (hb : BigR r) (bv : Value) (bl : Bs) (hbl : bl.length ≤ maxLen) (hbv : Rb w bv bl) : Calls Tryz.prog 4 #[v, bv] w (BoolB true w) := by
  obtain ⟨Ab, cb, rfl⟩ : ∃ A c, bv = .slice A bl.length c := by
    rcases hbv with ⟨⟨A, rfl⟩, rfl⟩ | ⟨g, o, c, rfl, _⟩
    · exact ⟨A, 0, rfl⟩
    · exact ⟨some ⟨g, o, none⟩, c, rfl⟩
  obtain ⟨nb, hnb⟩ : ∃ n, n = bl.length := ⟨_, rfl⟩
  rw [← hnb] at hbv ⊢
  unfold maxLen at hbl
  obtain ⟨A, c, B, d, rfl, hpl, hk⟩ := hv.parts
  obtain ⟨n, hn⟩ : ∃ n, n = r.pool.length := ⟨_, rfl⟩
  obtain ⟨m, hm⟩ : ∃ m, m = r.forks.length := ⟨_, rfl⟩
  obtain ⟨z, hz⟩ : ∃ z, z = r.count := ⟨_, rfl⟩
  rw [← hn] at hpl
  rw [← hm] at hk
  rw [← hn, ← hm, ← hz] at hv ⊢
  obtain ⟨wa, hwa⟩ : ∃ y, y = w.alloc (.cells #[.int .i64 z, .slice A n c, .slice B m d] 25) := ⟨_, rfl⟩
  have la : Below w.heap.size w wa := by rw [hwa]; exact below_new _ _
  have sa : w.heap.size < wa.heap.size := by rw [hwa]; simp
  have ka : ∀ (i : Nat) (u : Value), (#[.int .i64 z, .slice A n c, .slice B m d] : Array Value)[i]? = some u → wa.cell? ⟨w.heap.size, i, none⟩ = some u := fun i u hi => by rw [hwa, cell_of_row _ _ _ _ _ _ (heap_alloc_new w _)]; exact hi
  have cA := fun (i : Nat) (u : Value) (hi : (#[.int .i64 z, .slice A n c, .slice B m d] : Array Value)[i]? = some u) => (show Hid (∀ W, Below wa.heap.size wa W → W.cell? ⟨w.heap.size, i, none⟩ = some u) from Lib.hid fun W h =>
    (h.cell (p := ⟨w.heap.size, i, none⟩) sa).trans (ka i u hi))
  have C0 := cA 0 _ rfl; have C1 := cA 1 _ rfl; have C2 := cA 2 _ rfl
  have HV := Lib.hid (hv.below la (Nat.le_refl _)); have HP := Lib.hid (RdK.below hpl la (Nat.le_refl _)); have HK := Lib.hid (hk.below la (Nat.le_refl _))
  have HBv := Lib.hid (hbv.below la (Nat.le_refl _)); have HNb := Lib.hid hnb
  have HPr := Lib.hid (hp.below la); have HTb := Lib.hid (Tb.below hT la)
  have HH := Lib.hid (head_p (hp.below la) (Tb.below hT la))
  have LA := Lib.hid la; have HW := Lib.hid hwa; have HN := Lib.hid hn; have HM := Lib.hid hm; have HB := Lib.hid hb
  clear hbv hnb hv hpl hk hp hT hn hm hz la sa ka cA hwa hb
  go_enter Tryz.func4, Tryz.ntmps4
  go_upto_region 1 with fail
  rw [← HW.out]
  clear HW
  go_wp2_with fail
  refine HH.out.mono ?_
  rintro e w1 ⟨rfl, hb1⟩
  have L1 := Lib.hid hb1
  have f0 := C0.out w1 hb1; have f1 := C1.out w1 hb1; have f2 := C2.out w1 hb1
  have HG := Lib.hid (OGreat_p (HV.out.below hb1 (Nat.le_refl _)) HB.out)
  clear hb1 HH
  go_wp2_with fail
  refine HG.out.mono ?_
  rintro e w2 ⟨g2, rfl, hb2, hg2⟩
  have L2 := Lib.hid (L1.out.trans (hb2.mono L1.out.size))
  clear HG f0 f1 f2
  cases g2 with
  | true =>
    clear hg2 hb2
    go_wp2_with fail
    go_ret
    exact ⟨rfl, LA.out.trans (L2.out.mono LA.out.size)⟩
  | false =>
  have HS := Lib.hid (hg2 rfl)
  have HF := Lib.hid (HS.out.fit HB.out)
  clear hg2 hb2
  by_cases h1000 : nb ≤ 20000
  case neg =>
    have hI : (20000 : Int) < (nb : Int) := by omega
    clear h1000
    go_wp2_with fail
    go_ret
    exact ⟨rfl, LA.out.trans (L2.out.mono LA.out.size)⟩
  have hI : ¬ (20000 : Int) < (nb : Int) := by omega
  have HBl : Hid (bl.length ≤ 20000) := Lib.hid (by rw [← HNb.out]; exact h1000)
  have HPt := Lib.hid (put_p r _ w2 (HV.out.below L2.out (Nat.le_refl _)) HF.out (Tb.below HTb.out L2.out))
  have f0 := C0.out w2 L2.out; have f1 := C1.out w2 L2.out; have f2 := C2.out w2 L2.out
  clear h1000 hbl
  go_wp2_with fail
  refine HPt.out.mono ?_
  rintro e w3 ⟨hb3, hpt⟩
  have L3 := Lib.hid (L2.out.trans (hb3.mono L2.out.size))
  have HR := Lib.hid (Right_p r _ w3 (HV.out.below L3.out (Nat.le_refl _)) HF.out)
  clear f0 f1 f2 HPt hb3
  have f0 := C0.out w3 L3.out; have f1 := C1.out w3 L3.out; have f2 := C2.out w3 L3.out
  rcases hpt with ⟨hok, Ax, nx, cx, rfl, hnx, hrx⟩ | ⟨hok, rfl⟩
  · have HOk := Lib.hid hok; have HNx := Lib.hid hnx; have HRx := Lib.hid hrx
    rw [rtB_iff.2 hok] at HR
    clear hok hnx hrx
    go_wp2_with fail
    refine HR.out.mono ?_
    rintro e w4 ⟨rfl, hb4⟩
    have L4 := Lib.hid (L3.out.trans (hb4.mono L3.out.size))
    have HGx := Lib.hid (get_p (HPr.out.below L4.out) (rootL r) (by have := rootL_len HOk.out; omega) HNx.out (HRx.out.below hb4 (Nat.le_refl _)))
    clear hb4 f0 f1 f2 HR
    go_wp2_with fail
    refine HGx.out.mono ?_
    rintro e w5 ⟨v5, b5, rfl, hb5, hg5⟩
    have L5 := Lib.hid (L4.out.trans (hb5.mono L4.out.size))
    rcases hg5 with ⟨s, hs, rfl, hrs⟩ | ⟨hs, _⟩
    case inr => rw [getO_self HOk.out] at hs; cases hs
    obtain rfl : r = s := by rw [getO_self HOk.out] at hs; exact Option.some.inj hs
    obtain ⟨As, cs, Bs', ds, rfl, _, _⟩ := hrs.parts
    obtain ⟨ns, hns⟩ : ∃ n, n = r.pool.length := ⟨_, rfl⟩
    obtain ⟨ms, hms⟩ : ∃ n, n = r.forks.length := ⟨_, rfl⟩
    obtain ⟨zs, hzs⟩ : ∃ n, n = r.count := ⟨_, rfl⟩
    rw [← hns, ← hms, ← hzs] at hrs ⊢
    obtain ⟨w6, hw6⟩ : ∃ y, y = w5.alloc (.cells #[.int .i64 zs, .slice As ns cs, .slice Bs' ms ds] 25) := ⟨_, rfl⟩
    have l6 : Below w5.heap.size w5 w6 := by rw [hw6]; exact below_new _ _
    have u0 : w6.cell? ⟨w5.heap.size, 0, none⟩ = some (.int .i64 zs) := by rw [hw6]; exact (cell_of_row _ _ _ _ _ _ (heap_alloc_new w5 _)).trans rfl
    have u1 : w6.cell? ⟨w5.heap.size, 1, none⟩ = some (.slice As ns cs) := by rw [hw6]; exact (cell_of_row _ _ _ _ _ _ (heap_alloc_new w5 _)).trans rfl
    have u2 : w6.cell? ⟨w5.heap.size, 2, none⟩ = some (.slice Bs' ms ds) := by rw [hw6]; exact (cell_of_row _ _ _ _ _ _ (heap_alloc_new w5 _)).trans rfl
    have L6 := Lib.hid (L5.out.trans (l6.mono L5.out.size))
    have HSm := Lib.hid (OSame_p (hrs.below l6 (Nat.le_refl _)) (HV.out.below L6.out (Nat.le_refl _)) HF.out)
    rw [eqR_yes rfl] at HSm
    have HW6 := Lib.hid hw6
    have f0 := C0.out w6 L6.out; have f1 := C1.out w6 L6.out; have f2 := C2.out w6 L6.out
    clear hb5 hs hrs hns hms hzs hw6 l6 HGx
    go_upto_region 9 with fail
    rw [← HW6.out]
    clear HW6
    go_wp2_with fail
    refine HSm.out.mono ?_
    rintro e wt ⟨rfl, hbt⟩
    have LT := Lib.hid (L6.out.trans (hbt.mono L6.out.size))
    clear hbt f0 f1 f2 u0 u1 u2 HSm
    have HGt := Lib.hid (get_p (HPr.out.below LT.out) bl (by have := HBl.out; omega) HNb.out (HBv.out.below LT.out (Nat.le_refl _)))
    go_wp2_with fail
    refine HGt.out.mono ?_
    rintro e wg ⟨vg, bg, rfl, hbg, hgg⟩
    have LG := Lib.hid (LT.out.trans (hbg.mono LT.out.size))
    clear HGt
    rcases hgg with ⟨u, hu, rfl, hru⟩ | ⟨hu, rfl, rfl⟩
    · obtain ⟨Au, cu, Bu, du, rfl, _, _⟩ := hru.parts
      obtain ⟨nu, hnu⟩ : ∃ n, n = u.pool.length := ⟨_, rfl⟩
      obtain ⟨mu, hmu⟩ : ∃ n, n = u.forks.length := ⟨_, rfl⟩
      obtain ⟨zu, hzu⟩ : ∃ n, n = u.count := ⟨_, rfl⟩
      rw [← hnu, ← hmu, ← hzu] at hru ⊢
      obtain ⟨wu, hwu⟩ : ∃ y, y = wg.alloc (.cells #[.int .i64 zu, .slice Au nu cu, .slice Bu mu du] 25) := ⟨_, rfl⟩
      have lu : Below wg.heap.size wg wu := by rw [hwu]; exact below_new _ _
      have u0 : wu.cell? ⟨wg.heap.size, 0, none⟩ = some (.int .i64 zu) := by rw [hwu]; exact (cell_of_row _ _ _ _ _ _ (heap_alloc_new wg _)).trans rfl
      have u1 : wu.cell? ⟨wg.heap.size, 1, none⟩ = some (.slice Au nu cu) := by rw [hwu]; exact (cell_of_row _ _ _ _ _ _ (heap_alloc_new wg _)).trans rfl
      have u2 : wu.cell? ⟨wg.heap.size, 2, none⟩ = some (.slice Bu mu du) := by rw [hwu]; exact (cell_of_row _ _ _ _ _ _ (heap_alloc_new wg _)).trans rfl
      have LU := Lib.hid (LG.out.trans (lu.mono LG.out.size))
      have hur := getO_iff.1 hu
      have HPu := Lib.hid (put_p u _ wu (hru.below lu (Nat.le_refl _)) hur.1.fit (Tb.below HTb.out LU.out))
      have HWU := Lib.hid hwu; have HUR := Lib.hid hur
      clear hbg hu hru hnu hmu hzu hwu lu hur
      go_upto_region 12 with fail
      rw [← HWU.out]
      clear HWU
      go_wp2_with fail
      refine HPu.out.mono ?_
      rintro e wp ⟨hbp, ⟨_, Ap, np, cp, rfl, hnp, hrp⟩ | ⟨hno, _⟩⟩
      case inr => exact absurd HUR.out.1 hno
      have LP := Lib.hid (LU.out.trans (hbp.mono LU.out.size))
      have q1 := Nu.Rb.conv hrp
      have q2 := Nu.Rb.conv (HBv.out.below LP.out (Nat.le_refl _))
      rw [HUR.out.2] at q1
      clear hbp hnp hrp HPu u0 u1 u2
      go_wp2_with fail
      go_ret
      exact ⟨by simp, LA.out.trans (LP.out.mono LA.out.size)⟩
    · obtain ⟨wu, hwu⟩ : ∃ y, y = wg.alloc (.cells rt0 25) := ⟨_, rfl⟩
      have lu : Below wg.heap.size wg wu := by rw [hwu]; exact below_new _ _
      have u0 : wu.cell? ⟨wg.heap.size, 0, none⟩ = some (.int .i64 0) := by rw [hwu]; exact (cell_of_row _ _ _ _ _ _ (heap_alloc_new wg _)).trans rfl
      have u1 : wu.cell? ⟨wg.heap.size, 1, none⟩ = some (.slice none 0 0) := by rw [hwu]; exact (cell_of_row _ _ _ _ _ _ (heap_alloc_new wg _)).trans rfl
      have u2 : wu.cell? ⟨wg.heap.size, 2, none⟩ = some (.slice none 0 0) := by rw [hwu]; exact (cell_of_row _ _ _ _ _ _ (heap_alloc_new wg _)).trans rfl
      have LU := Lib.hid (LG.out.trans (lu.mono LG.out.size))
      have HSm := Lib.hid (OSame_p (rt_r0 wu) (rt_r0 wu) fit0)
      rw [eqR_yes rfl] at HSm
      unfold rt0 at hwu ⊢
      have HWU := Lib.hid hwu
      clear hbg hu hwu lu
      go_upto_region 12 with fail
      rw [← HWU.out]
      clear HWU
      go_wp2_with fail
      refine HSm.out.mono ?_
      rintro e wp ⟨rfl, hbp⟩
      have LP := Lib.hid (LU.out.trans (hbp.mono LU.out.size))
      clear hbp u0 u1 u2
      go_wp2_with fail
      go_ret
      exact ⟨rfl, LA.out.trans (LP.out.mono LA.out.size)⟩
  · rw [rtB_no hok] at HR
    clear hok
    go_wp2_with fail
    refine HR.out.mono ?_
    rintro e wt ⟨rfl, hbt⟩
    have LT := Lib.hid (L3.out.trans (hbt.mono L3.out.size))
    clear hbt f0 f1 f2 HR
    have HGt := Lib.hid (get_p (HPr.out.below LT.out) bl (by have := HBl.out; omega) HNb.out (HBv.out.below LT.out (Nat.le_refl _)))
    go_wp2_with fail
    refine HGt.out.mono ?_
    rintro e wg ⟨vg, bg, rfl, hbg, hgg⟩
    have LG := Lib.hid (LT.out.trans (hbg.mono LT.out.size))
    clear HGt
    rcases hgg with ⟨u, hu, rfl, hru⟩ | ⟨hu, rfl, rfl⟩
    · obtain ⟨Au, cu, Bu, du, rfl, _, _⟩ := hru.parts
      obtain ⟨nu, hnu⟩ : ∃ n, n = u.pool.length := ⟨_, rfl⟩
      obtain ⟨mu, hmu⟩ : ∃ n, n = u.forks.length := ⟨_, rfl⟩
      obtain ⟨zu, hzu⟩ : ∃ n, n = u.count := ⟨_, rfl⟩
      rw [← hnu, ← hmu, ← hzu] at hru ⊢
      obtain ⟨wu, hwu⟩ : ∃ y, y = wg.alloc (.cells #[.int .i64 zu, .slice Au nu cu, .slice Bu mu du] 25) := ⟨_, rfl⟩
      have lu : Below wg.heap.size wg wu := by rw [hwu]; exact below_new _ _
      have u0 : wu.cell? ⟨wg.heap.size, 0, none⟩ = some (.int .i64 zu) := by rw [hwu]; exact (cell_of_row _ _ _ _ _ _ (heap_alloc_new wg _)).trans rfl
      have u1 : wu.cell? ⟨wg.heap.size, 1, none⟩ = some (.slice Au nu cu) := by rw [hwu]; exact (cell_of_row _ _ _ _ _ _ (heap_alloc_new wg _)).trans rfl
      have u2 : wu.cell? ⟨wg.heap.size, 2, none⟩ = some (.slice Bu mu du) := by rw [hwu]; exact (cell_of_row _ _ _ _ _ _ (heap_alloc_new wg _)).trans rfl
      have LU := Lib.hid (LG.out.trans (lu.mono LG.out.size))
      have hur := getO_iff.1 hu
      have HPu := Lib.hid (put_p u _ wu (hru.below lu (Nat.le_refl _)) hur.1.fit (Tb.below HTb.out LU.out))
      have HWU := Lib.hid hwu; have HUR := Lib.hid hur
      clear hbg hu hru hnu hmu hzu hwu lu hur
      go_upto_region 12 with fail
      rw [← HWU.out]
      clear HWU
      go_wp2_with fail
      refine HPu.out.mono ?_
      rintro e wp ⟨hbp, ⟨_, Ap, np, cp, rfl, hnp, hrp⟩ | ⟨hno, _⟩⟩
      case inr => exact absurd HUR.out.1 hno
      have LP := Lib.hid (LU.out.trans (hbp.mono LU.out.size))
      have q1 := Nu.Rb.conv hrp
      have q2 := Nu.Rb.conv (HBv.out.below LP.out (Nat.le_refl _))
      rw [HUR.out.2] at q1
      clear hbp hnp hrp HPu u0 u1 u2
      go_wp2_with fail
      go_ret
      exact ⟨by simp, LA.out.trans (LP.out.mono LA.out.size)⟩
    · obtain ⟨wu, hwu⟩ : ∃ y, y = wg.alloc (.cells rt0 25) := ⟨_, rfl⟩
      have lu : Below wg.heap.size wg wu := by rw [hwu]; exact below_new _ _
      have u0 : wu.cell? ⟨wg.heap.size, 0, none⟩ = some (.int .i64 0) := by rw [hwu]; exact (cell_of_row _ _ _ _ _ _ (heap_alloc_new wg _)).trans rfl
      have u1 : wu.cell? ⟨wg.heap.size, 1, none⟩ = some (.slice none 0 0) := by rw [hwu]; exact (cell_of_row _ _ _ _ _ _ (heap_alloc_new wg _)).trans rfl
      have u2 : wu.cell? ⟨wg.heap.size, 2, none⟩ = some (.slice none 0 0) := by rw [hwu]; exact (cell_of_row _ _ _ _ _ _ (heap_alloc_new wg _)).trans rfl
      have LU := Lib.hid (LG.out.trans (lu.mono LG.out.size))
      have HSm := Lib.hid (OSame_p (rt_r0 wu) (rt_r0 wu) fit0)
      rw [eqR_yes rfl] at HSm
      unfold rt0 at hwu ⊢
      have HWU := Lib.hid hwu
      clear hbg hu hwu lu
      go_upto_region 12 with fail
      rw [← HWU.out]
      clear HWU
      go_wp2_with fail
      refine HSm.out.mono ?_
      rintro e wp ⟨rfl, hbp⟩
      have LP := Lib.hid (LU.out.trans (hbp.mono LU.out.size))
      clear hbp u0 u1 u2
      go_wp2_with fail
      go_ret
      exact ⟨rfl, LA.out.trans (LP.out.mono LA.out.size)⟩
end Go.Proofs.YtnboagmibhllpaaGreatDoor.Ro
