/-
  RootCut, walked.
-/
import Derived.Test.YtnboagmibhllpaaGreatDoorOGrt
import Derived.Test.YtnboagmibhllpaaGreatDoorOSame
import Derived.Test.YtnboagmibhllpaaGreatDoorOLawB
namespace Go.Proofs.YtnboagmibhllpaaGreatDoor.Ro
open Go.Proofs.YtnboagmibhllpaaGreatDoor
open Go.Proofs.YtnboagmibhllpaaGreatDoor.Rf (BoolB Ref RefsR)
open Go Go.RowKit

theorem cutU8 (W : World) (A : Option Addr) (n c k : Nat) (hk : k ≤ c) : (Instr.sliceAt 26 (.slice A n c) none (some (.int .i64 (k : Int))) none).run Tryz.prog W = .ok (.slice A k c) W := by
  have h1 : (k : Int) ≤ (c : Int) := by omega
  cases A <;> simp [go_sem, h1]
set_option maxRecDepth 100000 in
set_option maxHeartbeats 8000000 in
theorem Cut_law {w : World} {E : ErA} (hp : PrA E w) (hT : Tb w) (v : Value) (r : Rt) (hv : RtR w v r) (hb : BigR r) (vs : Value) (s : Rt) (hvs : RtR w vs s) (hbs : BigR s) (q : Nat) (hq : q < 65536) (y : UInt8) : Calls Tryz.prog 5 #[v, vs, .int .u16 (q : Int), .int .u8 (y.toNat : Int)] w (BoolB true w) := by
  obtain ⟨A, c, B, d, rfl, hpl, hk⟩ := hv.parts
  obtain ⟨n, hn⟩ : ∃ n, n = r.pool.length := ⟨_, rfl⟩
  obtain ⟨m, hm⟩ : ∃ m, m = r.forks.length := ⟨_, rfl⟩
  obtain ⟨z, hz⟩ : ∃ z, z = r.count := ⟨_, rfl⟩
  rw [← hn] at hpl
  rw [← hm] at hk
  rw [← hn, ← hm, ← hz] at hv ⊢
  obtain ⟨As, cs, Bs, ds, rfl, hpls, hks⟩ := hvs.parts
  obtain ⟨ns, hns⟩ : ∃ n, n = s.pool.length := ⟨_, rfl⟩
  obtain ⟨ms, hms⟩ : ∃ m, m = s.forks.length := ⟨_, rfl⟩
  obtain ⟨zs, hzs⟩ : ∃ z, z = s.count := ⟨_, rfl⟩
  rw [← hns] at hpls
  rw [← hms] at hks
  rw [← hns, ← hms, ← hzs] at hvs ⊢
  obtain ⟨wa, hwa⟩ : ∃ y, y = w.alloc (.cells #[.int .i64 z, .slice A n c, .slice B m d] 25) := ⟨_, rfl⟩
  have la : Below w.heap.size w wa := by rw [hwa]; exact below_new _ _
  obtain ⟨wb, hwb⟩ : ∃ y, y = wa.alloc (.cells #[.int .i64 zs, .slice As ns cs, .slice Bs ms ds] 25) := ⟨_, rfl⟩
  have lb : Below wa.heap.size wa wb := by rw [hwb]; exact below_new _ _
  have hsz : wa.heap.size = w.heap.size + 1 := by rw [hwa]; simp
  have L : Below w.heap.size w wb := la.trans (lb.mono la.size)
  have cA := fun (i : Nat) (u : Value) (hi : (#[.int .i64 z, .slice A n c, .slice B m d] : Array Value)[i]? = some u) => (show Hid (∀ W, Below wb.heap.size wb W → W.cell? ⟨w.heap.size, i, none⟩ = some u) from Lib.hid fun W h => (h.cell (p := ⟨w.heap.size, i, none⟩) (by have := lb.size; show w.heap.size < wb.heap.size; omega)).trans ((lb.cell (p := ⟨w.heap.size, i, none⟩) (by show w.heap.size < wa.heap.size; omega)).trans (cells_new hwa i u hi wa (Below.refl _ _))))
  have cB := fun (i : Nat) (u : Value) (hi : (#[.int .i64 zs, .slice As ns cs, .slice Bs ms ds] : Array Value)[i]? = some u) => (show Hid (∀ W, Below wb.heap.size wb W → W.cell? ⟨w.heap.size + 1, i, none⟩ = some u) from Lib.hid fun W h => by rw [← hsz]; exact cells_new hwb i u hi W h)
  have C0 := cA 0 _ rfl; have C1 := cA 1 _ rfl; have C2 := cA 2 _ rfl
  have D0 := cB 0 _ rfl; have D1 := cB 1 _ rfl; have D2 := cB 2 _ rfl
  have HV := Lib.hid (hv.below L (Nat.le_refl _)); have HVs := Lib.hid (hvs.below L (Nat.le_refl _))
  have HPr := Lib.hid (hp.below L); have HTb := Lib.hid (Tb.below hT L)
  have HH := Lib.hid (head_p (hp.below L) (Tb.below hT L))
  have LA := Lib.hid L; have HB := Lib.hid hb; have HBs := Lib.hid hbs
  have HW : Hid (wb = (w.alloc (.cells #[.int .i64 z, .slice A n c, .slice B m d] 25)).alloc (.cells #[.int .i64 zs, .slice As ns cs, .slice Bs ms ds] 25)) := Lib.hid (by rw [hwb, hwa])
  clear hv hvs hpl hk hpls hks hp hT hn hm hz hns hms hzs hwa hwb la lb hsz L cA cB hb hbs
  go_enter Tryz.func5, Tryz.ntmps5
  go_upto_region 1 with fail
  rw [← HW.out]
  clear HW
  go_wp2_with fail
  refine HH.out.mono ?_
  rintro e w1 ⟨rfl, hb1⟩
  have L1 := Lib.hid hb1
  have f0 := C0.out w1 hb1; have f1 := C1.out w1 hb1; have f2 := C2.out w1 hb1
  have HG := Lib.hid (OGreat_p (HV.out.below hb1 (Nat.le_refl _)) HB.out)
  clear hb1 HH
  go_wp2_with fail
  refine HG.out.mono ?_
  rintro e w2 ⟨g2, rfl, hb2, hg2⟩
  have L2 := Lib.hid (L1.out.trans (hb2.mono L1.out.size))
  clear HG f0 f1 f2
  cases g2 with
  | true =>
    clear hg2 hb2
    go_wp2_with fail
    go_ret
    exact ⟨rfl, LA.out.trans (L2.out.mono LA.out.size)⟩
  | false =>
  have HF := Lib.hid ((hg2 rfl).fit HB.out)
  have HGs := Lib.hid (OGreat_p (HVs.out.below L2.out (Nat.le_refl _)) HBs.out)
  have f0 := D0.out w2 L2.out; have f1 := D1.out w2 L2.out; have f2 := D2.out w2 L2.out
  clear hg2 hb2
  go_wp2_with fail
  refine HGs.out.mono ?_
  rintro e w3 ⟨g3, rfl, hb3, hg3⟩
  have L3 := Lib.hid (L2.out.trans (hb3.mono L2.out.size))
  clear HGs f0 f1 f2
  cases g3 with
  | true =>
    clear hg3 hb3
    go_wp2_with fail
    go_ret
    exact ⟨rfl, LA.out.trans (L3.out.mono LA.out.size)⟩
  | false =>
  have HFs := Lib.hid ((hg3 rfl).fit HBs.out)
  have HPt := Lib.hid (put_p r _ w3 (HV.out.below L3.out (Nat.le_refl _)) HF.out (Tb.below HTb.out L3.out))
  have f0 := C0.out w3 L3.out; have f1 := C1.out w3 L3.out; have f2 := C2.out w3 L3.out
  clear hg3 hb3
  go_wp2_with fail
  refine HPt.out.mono ?_
  rintro e w4 ⟨hb4, hpt⟩
  have L4 := Lib.hid (L3.out.trans (hb4.mono L3.out.size))
  have HPs := Lib.hid (put_p s _ w4 (HVs.out.below L4.out (Nat.le_refl _)) HFs.out (Tb.below HTb.out L4.out))
  have g0 := D0.out w4 L4.out; have g1 := D1.out w4 L4.out; have g2 := D2.out w4 L4.out
  clear f0 f1 f2 HPt hb4
  rcases hpt with ⟨hok, Ax, nx, cx, rfl, hnx, hrx⟩ | ⟨hok, rfl⟩
  case inr =>
    go_wp2_with fail
    refine HPs.out.mono ?_
    rintro e w5 ⟨hb5, ⟨_, A5, n5, c5, rfl, -⟩ | ⟨_, rfl⟩⟩
    all_goals
      have L5 := Lib.hid (L4.out.trans (hb5.mono L4.out.size))
      go_wp2_with fail
      go_ret
      exact ⟨rfl, LA.out.trans (L5.out.mono LA.out.size)⟩
  have hx8 := rootL_len hok
  have hx1 : 1 ≤ (rootL r).length := by
    obtain ⟨t, e⟩ := rootL_ends r
    rw [e, List.length_append, List.length_singleton]; omega
  obtain ⟨X, hX⟩ : ∃ X, X = rootL r := ⟨_, rfl⟩
  rw [← hX] at hnx hrx hx8 hx1
  have hn1 : 1 ≤ nx := by omega
  have hn8 : nx ≤ 800000 := by omega
  have hcx := rb_capO hrx hnx
  have HOk := Lib.hid hok; have HNx := Lib.hid hnx; have HRx := Lib.hid hrx; have HX := Lib.hid hX
  have HX8 := Lib.hid hx8
  have hnI : ((nx : Int) == 0) = false := by simp; omega
  have hnI2 : ¬ (nx : Int) = 0 := by omega
  obtain ⟨kq, hkq⟩ : ∃ kq, kq = q % nx := ⟨_, rfl⟩
  have hkqn : kq < nx := by rw [hkq]; exact Nat.mod_lt _ (by omega)
  have m1 : (q : Int) % (nx : Int) = (kq : Int) := by rw [hkq, Int.natCast_emod]
  have m2 : Int.tmod (q : Int) (nx : Int) = (kq : Int) := by rw [Int.tmod_eq_emod_of_nonneg (by omega)]; exact m1
  have hcut := fun W => cutU8 W Ax nx cx kq (by omega)
  have HNo : Hid (getO (X.take kq) = none) := Lib.hid (by rw [hX]; exact getO_cut hok (by rw [← hX, ← hnx]; exact hkqn))
  have HNm : Hid (getO (X ++ [y]) = none) := Lib.hid (by rw [hX]; exact getO_more hok y)
  have HKq := Lib.hid hkqn
  clear hok hnx hrx hX hx8 hx1 hkq hcx hkqn
  go_wp2_with fail
  refine HPs.out.mono ?_
  rintro e w5 ⟨hb5, hps⟩
  have L5 := Lib.hid (L4.out.trans (hb5.mono L4.out.size))
  have HRx5 := Lib.hid (HRx.out.below hb5 (Nat.le_refl _))
  have hgt := fun W (hW : Below w5.heap.size w5 W) => get_p (HPr.out.below (L5.out.trans (hW.mono L5.out.size))) (X.take kq) (by rw [List.length_take]; have := HX8.out; omega) (A := Ax) (n := kq) (c := cx) (by rw [List.length_take, ← HNx.out]; have := HKq.out; omega) ((rb_takeO HRx5.out HNx.out (Nat.le_of_lt HKq.out)).below hW (Nat.le_refl _))
  have HGt := Lib.hid (hgt w5 (Below.refl _ _))
  clear g0 g1 g2 HPs hb5 hgt
  obtain ⟨Ay, ny, cy, by1, ey, hps2⟩ : ∃ Ay ny cy bb, e = .returned (.tuple #[.slice Ay ny cy, .bool bb]) ∧ ((bb = true ∧ RtOk s ∧ ny = (rootL s).length ∧ Rb w5 (.slice Ay ny cy) (rootL s)) ∨ (bb = false)) := by
    rcases hps with ⟨h1, A5, n5, c5, e5, h2, h3⟩ | ⟨_, e5⟩
    · exact ⟨A5, n5, c5, true, e5, .inl ⟨rfl, h1, h2, h3⟩⟩
    · exact ⟨none, 0, 0, false, e5, .inr rfl⟩
  subst ey
  have HPS := Lib.hid hps2
  clear hps hps2
  go_wp2_with fail
  refine HGt.out.mono ?_
  rintro e w6 ⟨v6, b6, rfl, hb6, ⟨s6, h6, _⟩ | ⟨_, rfl, rfl⟩⟩
  case inl => rw [HNo.out] at h6; cases h6
  obtain ⟨w7, hw7⟩ : ∃ y, y = w6.alloc (.cells rt0 25) := ⟨_, rfl⟩
  have l7 : Below w6.heap.size w6 w7 := by rw [hw7]; exact below_new _ _
  have B57 := Lib.hid (hb6.trans (l7.mono hb6.size))
  have L7 := Lib.hid (L5.out.trans (B57.out.mono L5.out.size))
  unfold rt0 at hw7 ⊢
  have HW7 := Lib.hid hw7
  clear hb6 hw7 l7 HGt m1 m2 hcut
  go_upto_region 9 with fail
  rw [← HW7.out]
  clear HW7
  obtain ⟨w8, hw8⟩ : ∃ z, z = w7.alloc (.cells #[] 5) := ⟨_, rfl⟩
  have b8 : Below w7.heap.size w7 w8 := by rw [hw8]; exact below_new w7 _
  have O8 := Lib.hid (Ow.new0 w7 w7.heap.size (Nat.le_refl _))
  rw [← hw8] at O8
  have HW8 := Lib.hid hw8; have HB8 := Lib.hid b8
  have HXw : Hid (Rb w8 (.slice Ax nx cx) X) := Lib.hid ((HRx5.out.below B57.out (Nat.le_refl _)).below b8 (Nat.le_refl _))
  have Hl1 : Hid (([] : List UInt8).length + X.length ≤ 140737488355328) := Lib.hid (by have := HX8.out; simp; omega)
  clear hw8 b8
  go_wp2_with (first
    | rw [← HW8.out]
    | (refine wpList_app (o := ⟨some 62, _, _, _, _, _⟩) rfl _ _ rfl w7.heap.size (.slice (some ⟨w7.heap.size, 0, none⟩) 0 0) (.slice Ax nx cx) [] X rfl rfl O8.out HXw.out Hl1.out HB8.out.size ?_; intro v9 w9 o9 b9; obtain ⟨A9, n9, c9, hv9, hn9⟩ := Ow.slice o9; subst hv9; have O9 := Lib.hid o9; have B9 := Lib.hid (HB8.out.trans b9); clear o9 b9 hn9)
    | (refine wpList_app (o := ⟨some 65, _, _, _, _, _⟩) rfl _ _ rfl w7.heap.size (.slice A9 n9 c9) (.slice (some ⟨w9.heap.size, 0, none⟩) 1 1) X [y] rfl rfl (O9.out.below (below_new w9 _) (Nat.le_refl _)) (rb_one w9 y) (by have := HX8.out; simp; omega) (Nat.le_trans B9.out.size (below_new w9 _).size) ?_; intro v10 w10 o10 b10; obtain ⟨A10, n10, c10, hv10, hn10⟩ := Ow.slice o10; subst hv10; have O10 := Lib.hid o10; have HN10 := Lib.hid hn10; have B10 := Lib.hid ((B9.out.trans ((below_new w9 _).mono B9.out.size)).trans b10); clear o10 b10 hn10))
  have B510 := Lib.hid (B57.out.trans (B10.out.mono B57.out.size))
  have L10 := Lib.hid (L5.out.trans (B510.out.mono L5.out.size))
  have HGm := Lib.hid (get_p (HPr.out.below L10.out) (X ++ [y]) (by rw [List.length_append, List.length_singleton]; have := HX8.out; omega) HN10.out O10.out.rb)
  refine HGm.out.mono ?_
  rintro e w11 ⟨v11, b11, rfl, hb11, ⟨s6, h6, _⟩ | ⟨_, rfl, rfl⟩⟩
  case inl => rw [HNm.out] at h6; cases h6
  obtain ⟨wz, hwz⟩ : ∃ y, y = w11.alloc (.cells rt0 25) := ⟨_, rfl⟩
  have lz : Below w11.heap.size w11 wz := by rw [hwz]; exact below_new _ _
  have B5z := Lib.hid (B510.out.trans ((hb11.trans (lz.mono hb11.size)).mono B510.out.size))
  have LZ := Lib.hid (L5.out.trans (B5z.out.mono L5.out.size))
  unfold rt0 at hwz ⊢
  have HWZ := Lib.hid hwz
  clear hb11 hwz lz HGm HXw O8 HB8 HW8
  go_upto_region 10 with fail
  rw [← HWZ.out]
  clear HWZ
  have LD : Hid (Below wz.heap.size wz wz.drew) := Lib.hid (Below.refl _ _).drew
  rcases HPS.out with ⟨rfl, hoks, hny, hry⟩ | rfl
  · obtain ⟨Y, hY⟩ : ∃ Y, Y = rootL s := ⟨_, rfl⟩
    rw [← hY] at hny hry
    have HRy := Lib.hid hry
    obtain ⟨bE, hbE⟩ : ∃ b, b = decide (X = Y) := ⟨_, rfl⟩
    have HBE := Lib.hid hbE
    have HSm : Hid (∀ W, Below wz.heap.size wz W → Calls Tryz.prog 18 #[.agg #[.int .i64 z, .slice A n c, .slice B m d], .agg #[.int .i64 zs, .slice As ns cs, .slice Bs ms ds]] W (BoolB bE W)) := Lib.hid fun W hW => by
      have h := OSame_p (HV.out.below (LZ.out.trans (hW.mono LZ.out.size)) (Nat.le_refl _)) (HVs.out.below (LZ.out.trans (hW.mono LZ.out.size)) (Nat.le_refl _)) HF.out
      have e : eqR r s = bE := by
        rw [hbE, Bool.eq_iff_iff, eqR_iff, decide_eq_true_iff, HX.out, hY]
        exact (rootL_inj HOk.out hoks).symm
      rw [e] at h; exact h
    clear hny hry hY hoks hbE
    refine AnyB.start (by kernel_rfl) ?_
    refine AnyB.take 0 (.bool true) rfl (by kernel_rfl) (by kernel_rfl) (by kernel_rfl) (fun _ _ _ h => h) (by kernel_rfl) (fun W hW => by kernel_rfl) ?_
    refine AnyB.take 1 (.bool true) rfl (by kernel_rfl) (by kernel_rfl) (by kernel_rfl) (fun _ _ _ h => h) (by kernel_rfl) (fun W hW => by kernel_rfl) ?_
    refine AnyB.take 2 (.bool false) rfl (by kernel_rfl) (by kernel_rfl) (by kernel_rfl) (fun _ _ _ h => h) (by kernel_rfl) (fun W hW => by kernel_rfl) ?_
    refine AnyB.take 3 (.bool true) rfl (by kernel_rfl) (by kernel_rfl) (by kernel_rfl) (fun _ _ _ h => h) (by kernel_rfl) (fun W hW => by kernel_rfl) ?_
    refine AnyB.take 4 (.bool true) rfl (by kernel_rfl) (by kernel_rfl) (by kernel_rfl) (fun _ _ _ h => h) (by kernel_rfl) (fun W hW => by kernel_rfl) ?_
    refine AnyB.take 5 (.bool true) rfl (by kernel_rfl) (by kernel_rfl) (by kernel_rfl) (fun _ _ _ h => h) (by kernel_rfl) (fun W hW => by kernel_rfl) ?_
    refine AnyB.take 6 (.bool false) rfl (by kernel_rfl) (by kernel_rfl) (by kernel_rfl) (fun _ _ _ h => h) (by kernel_rfl) (fun W hW => by kernel_rfl) ?_
    refine AnyB.take 7 (.bool true) rfl (by kernel_rfl) (by kernel_rfl) (by kernel_rfl) (fun _ _ _ h => h) (by kernel_rfl) (fun W hW => by kernel_rfl) ?_
    refine AnyB.take 8 (.bool true) rfl (by kernel_rfl) (by kernel_rfl) (by kernel_rfl) (fun _ _ _ h => h) (by kernel_rfl) (fun W hW => by kernel_rfl) ?_
    refine AnyB.take 9 (.bool true) rfl (by kernel_rfl) (by kernel_rfl) (by kernel_rfl) (fun _ _ _ h => h) (by kernel_rfl) (fun W hW => by kernel_rfl) ?_
    refine AnyB.take 10 (.bool true) rfl (by kernel_rfl) (by kernel_rfl) (by kernel_rfl) (fun _ _ _ h => h) (by kernel_rfl) (fun W hW => by kernel_rfl) ?_
    refine AnyB.take 11 (.bool false) rfl (by kernel_rfl) (by kernel_rfl) (by kernel_rfl) (fun _ _ _ h => h) (by kernel_rfl) (fun W hW => by kernel_rfl) ?_
    refine AnyB.take 12 (.bool false) rfl (by kernel_rfl) (by kernel_rfl) (by kernel_rfl) (fun _ _ _ h => h) (by kernel_rfl) (fun W hW => by kernel_rfl) ?_
    refine AnyB.take 13 (.slice Ax nx cx) rfl (by kernel_rfl) (by kernel_rfl) (by kernel_rfl) (fun _ _ _ h => h) (by kernel_rfl) (fun W hW => by kernel_rfl) ?_
    refine AnyB.take 14 (.string ⟨X.toArray⟩) rfl (by kernel_rfl) (by kernel_rfl) (by kernel_rfl) (fun _ _ _ h => h) (by kernel_rfl) (fun W hW => y_conv rfl (by kernel_rfl) (Rb.conv (HRx5.out.below (B5z.out.trans ((LD.out.trans (hW.mono LD.out.size)).mono B5z.out.size)) (Nat.le_refl _)))) ?_
    refine AnyB.take 15 (.slice Ay ny cy) rfl (by kernel_rfl) (by kernel_rfl) (by kernel_rfl) (fun _ _ _ h => h) (by kernel_rfl) (fun W hW => by kernel_rfl) ?_
    refine AnyB.take 16 (.string ⟨Y.toArray⟩) rfl (by kernel_rfl) (by kernel_rfl) (by kernel_rfl) (fun _ _ _ h => h) (by kernel_rfl) (fun W hW => y_conv rfl (by kernel_rfl) (Rb.conv (HRy.out.below (B5z.out.trans ((LD.out.trans (hW.mono LD.out.size)).mono B5z.out.size)) (Nat.le_refl _)))) ?_
    refine AnyB.take 17 (.bool bE) rfl (by kernel_rfl) (by kernel_rfl) (by kernel_rfl) (fun _ _ _ h => h) (by kernel_rfl) (fun W hW => y_bin (x := .string ⟨X.toArray⟩) (y := .string ⟨Y.toArray⟩) rfl (by kernel_rfl) (by kernel_rfl) rfl (eqlSt W X Y bE HBE.out.symm)) ?_
    refine AnyB.take 18 (.agg #[.int .i64 z, .slice A n c, .slice B m d]) rfl (by kernel_rfl) (by kernel_rfl) (by kernel_rfl) (fun _ _ _ h => h) (by kernel_rfl) (fun W hW => y_load (sv := .pointer (some ⟨w.heap.size, 0, none⟩)) rfl (by kernel_rfl) (l_RtO W _ _ _ _ (C0.out W (LZ.out.trans ((LD.out.trans (hW.mono LD.out.size)).mono LZ.out.size))) (C1.out W (LZ.out.trans ((LD.out.trans (hW.mono LD.out.size)).mono LZ.out.size))) (C2.out W (LZ.out.trans ((LD.out.trans (hW.mono LD.out.size)).mono LZ.out.size))))) ?_
    refine AnyB.take 19 (.agg #[.int .i64 zs, .slice As ns cs, .slice Bs ms ds]) rfl (by kernel_rfl) (by kernel_rfl) (by kernel_rfl) (fun _ _ _ h => h) (by kernel_rfl) (fun W hW => y_load (sv := .pointer (some ⟨w.heap.size + 1, 0, none⟩)) rfl (by kernel_rfl) (l_RtO W _ _ _ _ (D0.out W (LZ.out.trans ((LD.out.trans (hW.mono LD.out.size)).mono LZ.out.size))) (D1.out W (LZ.out.trans ((LD.out.trans (hW.mono LD.out.size)).mono LZ.out.size))) (D2.out W (LZ.out.trans ((LD.out.trans (hW.mono LD.out.size)).mono LZ.out.size))))) ?_
    refine AnyB.call 20 18 #[.agg #[.int .i64 z, .slice A n c, .slice B m d], .agg #[.int .i64 zs, .slice As ns cs, .slice Bs ms ds]] (by kernel_rfl) rfl (by kernel_rfl) (by kernel_rfl) ?_
    refine (HSm.out _ LD.out).mono ?_
    rintro e w12 ⟨rfl, hb7⟩
    have L12 := Lib.hid (LD.out.trans (hb7.mono LD.out.size))
    refine ⟨_, rfl, hb7, ?_⟩
    refine AnyB.take 21 (.bool true) rfl (by kernel_rfl) (by kernel_rfl) (by kernel_rfl) (fun _ _ _ h => h) (by kernel_rfl) (fun W hW => y_bin (x := .bool bE) (y := .bool bE) rfl (by kernel_rfl) (by kernel_rfl) rfl (eqlB W bE bE true (by cases bE <;> rfl))) ?_
    refine AnyB.take 22 (.bool true) rfl (by kernel_rfl) (by kernel_rfl) (by kernel_rfl) (fun _ _ _ h => h) (by kernel_rfl) (fun W hW => by kernel_rfl) ?_
    refine AnyB.take 23 (.bool true) rfl (by kernel_rfl) (by kernel_rfl) (by kernel_rfl) (fun _ _ _ h => h) (by kernel_rfl) (fun W hW => by kernel_rfl) ?_
    refine AnyB.take 24 (.bool true) rfl (by kernel_rfl) (by kernel_rfl) (by kernel_rfl) (fun _ _ _ h => h) (by kernel_rfl) (fun W hW => by kernel_rfl) ?_
    refine AnyB.done _ (by kernel_rfl) ?_
    go_simp
    go_wp2_with fail
    go_ret
    exact ⟨rfl, LA.out.trans ((LZ.out.trans (L12.out.mono LZ.out.size)).mono LA.out.size)⟩
  · refine AnyB.start (by kernel_rfl) ?_
    refine AnyB.take 0 (.bool true) rfl (by kernel_rfl) (by kernel_rfl) (by kernel_rfl) (fun _ _ _ h => h) (by kernel_rfl) (fun W hW => by kernel_rfl) ?_
    refine AnyB.take 1 (.bool true) rfl (by kernel_rfl) (by kernel_rfl) (by kernel_rfl) (fun _ _ _ h => h) (by kernel_rfl) (fun W hW => by kernel_rfl) ?_
    refine AnyB.take 2 (.bool false) rfl (by kernel_rfl) (by kernel_rfl) (by kernel_rfl) (fun _ _ _ h => h) (by kernel_rfl) (fun W hW => by kernel_rfl) ?_
    refine AnyB.take 3 (.bool true) rfl (by kernel_rfl) (by kernel_rfl) (by kernel_rfl) (fun _ _ _ h => h) (by kernel_rfl) (fun W hW => by kernel_rfl) ?_
    refine AnyB.take 4 (.bool true) rfl (by kernel_rfl) (by kernel_rfl) (by kernel_rfl) (fun _ _ _ h => h) (by kernel_rfl) (fun W hW => by kernel_rfl) ?_
    refine AnyB.take 5 (.bool true) rfl (by kernel_rfl) (by kernel_rfl) (by kernel_rfl) (fun _ _ _ h => h) (by kernel_rfl) (fun W hW => by kernel_rfl) ?_
    refine AnyB.take 6 (.bool false) rfl (by kernel_rfl) (by kernel_rfl) (by kernel_rfl) (fun _ _ _ h => h) (by kernel_rfl) (fun W hW => by kernel_rfl) ?_
    refine AnyB.take 7 (.bool true) rfl (by kernel_rfl) (by kernel_rfl) (by kernel_rfl) (fun _ _ _ h => h) (by kernel_rfl) (fun W hW => by kernel_rfl) ?_
    refine AnyB.take 8 (.bool true) rfl (by kernel_rfl) (by kernel_rfl) (by kernel_rfl) (fun _ _ _ h => h) (by kernel_rfl) (fun W hW => by kernel_rfl) ?_
    refine AnyB.take 9 (.bool true) rfl (by kernel_rfl) (by kernel_rfl) (by kernel_rfl) (fun _ _ _ h => h) (by kernel_rfl) (fun W hW => by kernel_rfl) ?_
    refine AnyB.take 10 (.bool false) rfl (by kernel_rfl) (by kernel_rfl) (by kernel_rfl) (fun _ _ _ h => h) (by kernel_rfl) (fun W hW => by kernel_rfl) ?_
    refine AnyB.take 11 (.bool true) rfl (by kernel_rfl) (by kernel_rfl) (by kernel_rfl) (fun _ _ _ h => h) (by kernel_rfl) (fun W hW => by kernel_rfl) ?_
    refine AnyB.take 12 (.bool true) rfl (by kernel_rfl) (by kernel_rfl) (by kernel_rfl) (fun _ _ _ h => h) (by kernel_rfl) (fun W hW => by kernel_rfl) ?_
    refine AnyB.skip 13 rfl (by kernel_rfl) (by kernel_rfl) (by kernel_rfl) (fun _ _ _ h => h) (by kernel_rfl) ?_
    refine AnyB.skip 14 rfl (by kernel_rfl) (by kernel_rfl) (by kernel_rfl) (fun _ _ _ h => h) (by kernel_rfl) ?_
    refine AnyB.skip 15 rfl (by kernel_rfl) (by kernel_rfl) (by kernel_rfl) (fun _ _ _ h => h) (by kernel_rfl) ?_
    refine AnyB.skip 16 rfl (by kernel_rfl) (by kernel_rfl) (by kernel_rfl) (fun _ _ _ h => h) (by kernel_rfl) ?_
    refine AnyB.skip 17 rfl (by kernel_rfl) (by kernel_rfl) (by kernel_rfl) (fun _ _ _ h => h) (by kernel_rfl) ?_
    refine AnyB.skip 18 rfl (by kernel_rfl) (by kernel_rfl) (by kernel_rfl) (fun _ _ _ h => h) (by kernel_rfl) ?_
    refine AnyB.skip 19 rfl (by kernel_rfl) (by kernel_rfl) (by kernel_rfl) (fun _ _ _ h => h) (by kernel_rfl) ?_
    refine AnyB.skip 20 rfl (by kernel_rfl) (by kernel_rfl) (by kernel_rfl) (fun _ _ _ h => h) (by kernel_rfl) ?_
    refine AnyB.skip 21 rfl (by kernel_rfl) (by kernel_rfl) (by kernel_rfl) (fun _ _ _ h => h) (by kernel_rfl) ?_
    refine AnyB.take 22 (.bool true) rfl (by kernel_rfl) (by kernel_rfl) (by kernel_rfl) (fun _ _ _ h => h) (by kernel_rfl) (fun W hW => by kernel_rfl) ?_
    refine AnyB.take 23 (.bool true) rfl (by kernel_rfl) (by kernel_rfl) (by kernel_rfl) (fun _ _ _ h => h) (by kernel_rfl) (fun W hW => by kernel_rfl) ?_
    refine AnyB.take 24 (.bool true) rfl (by kernel_rfl) (by kernel_rfl) (by kernel_rfl) (fun _ _ _ h => h) (by kernel_rfl) (fun W hW => by kernel_rfl) ?_
    refine AnyB.done _ (by kernel_rfl) ?_
    go_simp
    go_wp2_with fail
    go_ret
    exact ⟨rfl, LA.out.trans ((LZ.out.trans (LD.out.mono LZ.out.size)).mono LA.out.size)⟩
end Go.Proofs.YtnboagmibhllpaaGreatDoor.Ro
