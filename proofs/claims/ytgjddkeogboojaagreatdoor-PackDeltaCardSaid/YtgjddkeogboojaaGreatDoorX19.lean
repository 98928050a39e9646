/-
  resolved.
-/
import Derived.Test.YtgjddkeogboojaaGreatDoorX18
import Derived.Test.YtgjddkeogboojaaGreatDoorX11
set_option maxHeartbeats 16000000
set_option maxRecDepth 100000
namespace Go.Proofs.YtgjddkeogboojaaGreatDoor.Pk
open Go.Proofs.YtgjddkeogboojaaGreatDoor
open Go Go.RowKit
def mdC (m : Md) : List Value := [.bool m.th, .int .i64 m.kd, SV m.dt, .int .i64 (m.dp : Int)]
def mdV (m : Md) : Value := .agg #[.bool m.th, .int .i64 m.kd, .string ⟨m.dt.toArray⟩, .int .i64 (m.dp : Int)]
def mdO (m : Md) : Obj := .cells #[.bool m.th, .int .i64 m.kd, .string ⟨m.dt.toArray⟩, .int .i64 (m.dp : Int)] 82
theorem set4 {w : World} {b : Nat} {x0 x1 x2 x3 : Value} {t : TypeId} {fr : Nat × Nat} (h : w.heap[b]? = some (.cells #[x0, x1, x2, x3] t fr)) (y0 y1 y2 y3 : Value) :
 ((((w.setCell ⟨b, 0, none⟩ y0).setCell ⟨b, 1, none⟩ y1).setCell ⟨b, 2, none⟩ y2).setCell ⟨b, 3, none⟩ y3).heap[b]? = some (.cells #[y0, y1, y2, y3] t fr) := (blk_setCell (blk_setCell (blk_setCell (blk_setCell h _) _) _) _).trans rfl
theorem z4k {w W : World} {B b : Nat} (h : Below B w W) (hb : B ≤ b) (y0 y1 y2 y3 : Value) : Below B w ((((W.setCell ⟨b, 0, none⟩ y0).setCell ⟨b, 1, none⟩ y1).setCell ⟨b, 2, none⟩ y2).setCell ⟨b, 3, none⟩ y3) :=
 (((h.setCell (p := ⟨b, 0, none⟩) hb _).setCell (p := ⟨b, 1, none⟩) hb _).setCell (p := ⟨b, 2, none⟩) hb _).setCell (p := ⟨b, 3, none⟩) hb _
theorem other4 {w : World} {b c : Nat} (h : c ≠ b) (y0 y1 y2 y3 : Value) : ((((w.setCell ⟨b, 0, none⟩ y0).setCell ⟨b, 1, none⟩ y1).setCell ⟨b, 2, none⟩ y2).setCell ⟨b, 3, none⟩ y3).heap[c]? = w.heap[c]? := by
 rw [Dl.setCell_other _ _ _ _ _ h, Dl.setCell_other _ _ _ _ _ h, Dl.setCell_other _ _ _ _ _ h, Dl.setCell_other _ _ _ _ _ h]
def ResV : Except Int Md → Value
 | .error n => .tuple #[mdV noMd, .iface 26 (.int .i64 n)]
 | .ok m => .tuple #[mdV m, .nilIface]
def baseF (bw ba : Nat) : Value := .func (.func 104) #[] #[.pointer (some ⟨bw, 0, none⟩), .pointer (some ⟨ba, 0, none⟩)]
theorem zda {w : World} {e : Ent} {b : Md} {bw ba : Nat} (hd : e.data.length ≤ 10000) (hb : b.dt.length ≤ 70000) (hdp : b.dp ≤ 1000) (he : Eb w) (ht : Tb w)
 (hbase : e.kind = 6 ∨ e.kind = 7 → ∀ W, Below w.heap.size w W → Calls Tryz.prog 104 #[.pointer (some ⟨bw, 0, none⟩), .pointer (some ⟨ba, 0, none⟩)] W (z06 (mdV b) W)) :
 Calls Tryz.prog 103 #[entV e, baseF bw ba] w (z06 (ResV (resE e b)) w) := by
 obtain ⟨kd, bk, bs, dt⟩ := e
 simp only at hd hbase
 obtain ⟨R, hR⟩ := zx (resE ⟨kd, bk, bs, dt⟩ b)
 rw [← hR]
 obtain ⟨wa, hwa⟩ := zx (w.alloc (.cells #[.int .i64 kd, .int .i64 bk, .string ⟨bs.toArray⟩, .string ⟨dt.toArray⟩] 51))
 obtain ⟨wb, hwb⟩ := zx (wa.alloc (.cells #[.bool false, .int .i64 0, .string ⟨#[]⟩, .int .i64 0] 82))
 obtain ⟨wc, hwc⟩ := zx (wb.alloc (.cells #[.bool true, .int .i64 kd, .string ⟨dt.toArray⟩, .int .i64 0] 82))
 have ba1 : Below w.heap.size w wa := by rw [hwa]; exact below_new w _
 have bb1 : Below wa.heap.size wa wb := by rw [hwb]; exact below_new wa _
 have bc1 : Below wb.heap.size wb wc := by rw [hwc]; exact below_new wb _
 have sa : wa.heap.size = w.heap.size + 1 := by rw [hwa]; simp
 have sb : wb.heap.size = w.heap.size + 2 := by rw [hwb]; simp [sa]
 have kE0 : wb.heap[w.heap.size]? = some (.cells #[.int .i64 kd, .int .i64 bk, .string ⟨bs.toArray⟩, .string ⟨dt.toArray⟩] 51 (0, 0)) := (bb1.block _ (by omega)).trans (by rw [hwa]; exact heap_alloc_new w _)
 have kE : wc.heap[w.heap.size]? = some (.cells #[.int .i64 kd, .int .i64 bk, .string ⟨bs.toArray⟩, .string ⟨dt.toArray⟩] 51 (0, 0)) := (bc1.block _ (by omega)).trans kE0
 have k1 : wc.heap[wa.heap.size]? = some (.cells #[.bool false, .int .i64 0, .string ⟨#[]⟩, .int .i64 0] 82 (0, 0)) := (bc1.block _ (by omega)).trans (by rw [hwb]; exact heap_alloc_new wa _)
 have k2 : wc.heap[wb.heap.size]? = some (.cells #[.bool true, .int .i64 kd, .string ⟨dt.toArray⟩, .int .i64 0] 82 (0, 0)) := by rw [hwc]; exact heap_alloc_new wb _
 have bwc : Below w.heap.size w wc := (ba1.trans (bb1.mono ba1.size)).trans (bc1.mono (by omega))
 obtain ⟨e0, e1, e2, e3⟩ := cells4 kE0
 obtain ⟨B1, hB1⟩ := zx wa.heap.size
 obtain ⟨B2, hB2⟩ := zx wb.heap.size
 obtain ⟨B0, hB0⟩ := zx w.heap.size
 rw [← hB1] at k1
 rw [← hB2] at k2
 rw [← hB0] at kE e0 e1 e2 e3
 have HWa := zh hwa; have HWb := zh hwb; have HWc := zh hwc; have HRR := zh hR
 have HKE := zh kE; have K1 := zh k1; have K2 := zh k2; have HB := zh bwc
 have HB1 : Hid (w.heap.size ≤ B1) := zh (by omega)
 have HB2 : Hid (w.heap.size ≤ B2 ∧ B1 ≠ B2 ∧ B0 ≠ B1 ∧ B0 ≠ B2) := zh (by omega)
 have HS1 : Hid (w.heap.size + 1 = B1) := zh (by omega)
 have HS2 : Hid (wb.heap.size = B2) := zh hB2.symm
 have HS0 : Hid (w.heap.size = B0) := zh hB0.symm
 have HEb := zh he; have HTb := zh ht; have Hd := zh hd; have Hb := zh (And.intro hb hdp); have HBase := zh hbase
 clear hwa hwb hwc kE kE0 k1 k2 bwc ba1 bb1 bc1 sa sb he ht hd hb hdp hbase hR hB1 hB2 hB0
 unfold entV baseF
 simp only
 go_enter Tryz.func103, Tryz.ntmps103
 go_upto_region 1 with fail
 change Code.wp Tryz.prog _ _ _ ((w.alloc (.cells #[.int .i64 kd, .int .i64 bk, .string ⟨bs.toArray⟩, .string ⟨dt.toArray⟩] 51)).alloc (.cells #[.bool false, .int .i64 0, .string ⟨#[]⟩, .int .i64 0] 82))
 rw [← HWa.out, ← HWb.out]
 rw [HS1.out, HS0.out]
 clear HWa HWb
 by_cases hk : kd = 6 ∨ kd = 7
 · have hre := HRR.out
   unfold resE at hre
   simp only at hre
   rw [if_pos hk] at hre
   have HRe0 := zh hre
   have HBs := zh (HBase.out hk)
   clear hre HBase HRR
   have fin : Hid True := zh trivial
   have hk6 : ((kd == 6) = true) ∨ ((kd == 6) = false ∧ (kd == 7) = true) := by
    rcases hk with rfl | rfl
    · exact .inl rfl
    · exact .inr ⟨rfl, rfl⟩
   clear fin hk
   go_upto_region 2 with fail
   rw [← HWc.out, HS2.out]
   clear HWc e0 e1 e2 e3
   obtain ⟨e0, e1, e2, e3⟩ := cells4 HKE.out
   have goal5 : True := trivial
   clear goal5
   rcases hk6 with h6 | ⟨h6, h7⟩
   all_goals
    go_upto_region 5 with fail
    go_wp2_with fail
    refine (HBs.out _ HB.out).mono ?_
    rintro e w4 ⟨rfl, b4⟩
    have HB4 := zh (HB.out.trans (b4.mono HB.out.size))
    have HKE4 := zh ((b4.block _ (lt_heap HKE.out)).trans HKE.out)
    have K14 := zh ((b4.block _ (lt_heap K1.out)).trans K1.out)
    have K24 := zh ((b4.block _ (lt_heap K2.out)).trans K2.out)
    obtain ⟨bth, bkd, bdt, bdp⟩ := b
    unfold mdV
    simp only
    obtain ⟨w5, hw5⟩ := zx (w4.alloc (.cells #[.bool bth, .int .i64 bkd, .string ⟨bdt.toArray⟩, .int .i64 (bdp : Int)] 82))
    have b5 : Below w4.heap.size w4 w5 := by rw [hw5]; exact below_new w4 _
    have k5 : w5.heap[w4.heap.size]? = some (.cells #[.bool bth, .int .i64 bkd, .string ⟨bdt.toArray⟩, .int .i64 (bdp : Int)] 82 (0, 0)) := by rw [hw5]; exact heap_alloc_new w4 _
    have HB := zh (HB4.out.trans (b5.mono HB4.out.size))
    have HKE := zh ((b5.block _ (lt_heap HKE4.out)).trans HKE4.out)
    have K1 := zh ((b5.block _ (lt_heap K14.out)).trans K14.out)
    have K2 := zh ((b5.block _ (lt_heap K24.out)).trans K24.out)
    have HW5 := zh hw5; have K5 := zh k5
    clear b4 hw5 b5 k5 HB4 HKE4 K14 K24 HBs e0 e1 e2 e3
    go_upto_region 6 with fail
    rw [← HW5.out]
    clear HW5
    obtain ⟨b0, b1, b2, b3⟩ := cells4 K5.out
    have hre := HRe0.out
    have hbb := Hb.out
    simp only at hre hbb
    cases bth with
    | false =>
      simp only [if_true] at hre
      have HRe := zh hre
      clear hre hbb K2 K5 HRe0
      obtain ⟨z0, z1, z2, z3⟩ := cells4 K1.out
      have g0 := z05 K1.out 0; have g1 := z05 K1.out 1; have g2 := z05 K1.out 2; have g3 := z05 K1.out 3
      have HfF := zh (cells4 (set4 K1.out (.bool false) (.int .i64 0) (.string ⟨#[]⟩) (.int .i64 0)))
      have HFB := zh (z4k HB.out HB1.out (.bool false) (.int .i64 0) (.string ⟨#[]⟩) (.int .i64 0))
      clear K1 HB
      go_wp2
      obtain ⟨f0, f1, f2, f3⟩ := HfF.out
      refine bodyPost_ret (v := .tuple #[.agg #[.bool false, .int .i64 0, .string ⟨#[]⟩, .int .i64 0], .nilIface]) (by simp [results, Tryz.results103, go_sem, f0, f1, f2, f3]) rfl ⟨?_, HFB.out⟩
      rw [HRe.out]
      rfl
    | true =>
      simp only [Bool.true_eq_false, if_false] at hre
      obtain ⟨e0, e1, e2, e3⟩ := cells4 HKE.out
      have HAp := zh (zf2 bdt dt Hd.out hbb.1 w5)
      have HRe1 := zh hre
      clear hre
      go_wp2_with fail
      refine HAp.out.mono ?_
      rintro e w6 ⟨rfl, b6⟩
      unfold ApV
      have HB6 := zh (HB.out.trans (b6.mono HB.out.size))
      have K16 := zh ((b6.block _ (lt_heap K1.out)).trans K1.out)
      have K26 := zh ((b6.block _ (lt_heap K2.out)).trans K2.out)
      have K56 := zh ((b6.block _ (lt_heap K5.out)).trans K5.out)
      clear b6 HAp HB K1 K2 K5 b0 b1 b2 b3 e0 e1 e2 e3
      have HB := zh HB6.out; have K1 := zh K16.out; have K2 := zh K26.out
      clear HB6 K16 K26
      have hre := HRe1.out
      clear HRe1
      cases hta : z7r bdt dt with
      | none =>
        rw [hta] at hre
        have HRe := zh hre
        clear hre hta K2 hbb HRe0 K56
        have q2 : ∀ (v : Value) (W : World), (binOp .neq 64 (.iface 26 v) .nilIface).run Tryz.prog W = .ok (.bool true) W := fun v W => by go_simp
        obtain ⟨z0, z1, z2, z3⟩ := cells4 K1.out
        have g0 := z05 K1.out 0; have g1 := z05 K1.out 1; have g2 := z05 K1.out 2; have g3 := z05 K1.out 3
        have HfF := zh (cells4 (set4 K1.out (.bool false) (.int .i64 0) (.string ⟨#[]⟩) (.int .i64 0)))
        have HFB := zh (z4k HB.out HB1.out (.bool false) (.int .i64 0) (.string ⟨#[]⟩) (.int .i64 0))
        clear K1 HB
        go_wp2
        obtain ⟨f0, f1, f2, f3⟩ := HfF.out
        refine bodyPost_ret (v := .tuple #[.agg #[.bool false, .int .i64 0, .string ⟨#[]⟩, .int .i64 0], .iface 26 (.int .i64 3)]) (by simp [results, Tryz.results103, go_sem, f0, f1, f2, f3]) rfl ⟨?_, HFB.out⟩
        rw [HRe.out]
        rfl
      | some t =>
        rw [hta] at hre
        simp only at hre
        have HOk := zh hre
        have HTl : Hid (t.length ≤ 65536) := zh (by
         unfold z7r at hta
         cases ha : Dl.applyL bdt dt with
         | none => rw [ha] at hta; cases hta
         | some u =>
           rw [ha] at hta
           simp only at hta
           split at hta
           · cases hta; assumption
           · cases hta)
        obtain ⟨b0, b1, b2, b3⟩ := cells4 K56.out
        obtain ⟨p0, p1, p2, p3⟩ := cells4 K2.out
        have g0 := z05 K2.out 0; have g1 := z05 K2.out 1; have g2 := z05 K2.out 2; have g3 := z05 K2.out 3
        obtain ⟨dp1, hdp1⟩ := zx (bdp + 1)
        have hwr : (bdp : Int) + 1 = (dp1 : Int) := by omega
        have hbdp : bdp ≤ 1000 := hbb.2
        obtain ⟨W, hW⟩ := zx ((((w6.setCell ⟨B2, 0, none⟩ (.bool true)).setCell ⟨B2, 1, none⟩ (.int .i64 bkd)).setCell ⟨B2, 2, none⟩ (.string ⟨t.toArray⟩)).setCell ⟨B2, 3, none⟩ (.int .i64 ((bdp : Int) + 1)))
        have HBW : Hid (Below w.heap.size w W) := zh (by rw [hW]; exact z4k HB.out HB2.out.1 _ _ _ _)
        have K1W : Hid (W.heap[B1]? = some (.cells #[.bool false, .int .i64 0, .string ⟨#[]⟩, .int .i64 0] 82 (0, 0))) := zh (by rw [hW, other4 HB2.out.2.1]; exact K1.out)
        have K2W : Hid (W.heap[B2]? = some (.cells #[.bool true, .int .i64 bkd, .string ⟨t.toArray⟩, .int .i64 (dp1 : Int)] 82 (0, 0))) := zh (by rw [hW, ← hwr]; exact set4 K2.out _ _ _ _)
        have HW := zh hW; have Hdp := zh hdp1; have Hwr := zh hwr
        clear hta hre hbb hW hdp1 hwr HB K1 K2 HRe0 K56
        go_upto_region 12 with fail
        rw [← HW.out]
        clear b0 b1 b2 b3 p0 p1 p2 p3 g0 g1 g2 g3 HW hbdp
        rw [← Hdp.out] at HOk
        have HB := zh HBW.out; have K1 := zh K1W.out; have K2 := zh K2W.out
        clear HBW K1W K2W
        have HRi := zh (zcp bkd t (by have := HTl.out; omega) W (HEb.out.below HB.out) (HTb.out.below HB.out))
        obtain ⟨p0, p1, p2, p3⟩ := cells4 K2.out
        unfold ObjV at HRi
        go_wp2_with fail
        refine HRi.out.mono ?_
        rintro e W2 ⟨rfl, b2⟩
        have K1 : Hid (W2.heap[B1]? = _) := zh ((b2.block _ (lt_heap K1.out)).trans K1.out)
        have K2 : Hid (W2.heap[B2]? = _) := zh ((b2.block _ (lt_heap K2.out)).trans K2.out)
        have HB := zh (HB.out.trans (b2.mono HB.out.size))
        obtain ⟨p0, p1, p2, p3⟩ := cells4 K2.out
        have hok := HOk.out
        clear b2 HRi HTl
        cases hwt : (z0g bkd t).isSome with
        | false =>
          rw [hwt] at hok
          have HRe := zh hok
          clear hwt hok
          obtain ⟨z0, z1, z2, z3⟩ := cells4 K1.out
          have g0 := z05 K1.out 0; have g1 := z05 K1.out 1; have g2 := z05 K1.out 2; have g3 := z05 K1.out 3
          have HfF := zh (cells4 (set4 K1.out (.bool false) (.int .i64 0) (.string ⟨#[]⟩) (.int .i64 0)))
          have HFB := zh (z4k HB.out HB1.out (.bool false) (.int .i64 0) (.string ⟨#[]⟩) (.int .i64 0))
          clear K1 HB
          go_wp2
          obtain ⟨f0, f1, f2, f3⟩ := HfF.out
          refine bodyPost_ret (v := .tuple #[.agg #[.bool false, .int .i64 0, .string ⟨#[]⟩, .int .i64 0], .iface 26 (.int .i64 3)]) (by simp [results, Tryz.results103, go_sem, f0, f1, f2, f3]) rfl ⟨?_, HFB.out⟩
          rw [HRe.out]
          rfl
        | true =>
          rw [hwt] at hok
          by_cases h16 : 16 < dp1
          · have h16I : (16 : Int) < (dp1 : Int) := by omega
            rw [if_pos rfl, if_pos h16] at hok
            have HRe := zh hok
            clear hwt hok h16
            obtain ⟨z0, z1, z2, z3⟩ := cells4 K1.out
            have g0 := z05 K1.out 0; have g1 := z05 K1.out 1; have g2 := z05 K1.out 2; have g3 := z05 K1.out 3
            have HfF := zh (cells4 (set4 K1.out (.bool false) (.int .i64 0) (.string ⟨#[]⟩) (.int .i64 0)))
            have HFB := zh (z4k HB.out HB1.out (.bool false) (.int .i64 0) (.string ⟨#[]⟩) (.int .i64 0))
            clear K1 HB
            go_wp2
            obtain ⟨f0, f1, f2, f3⟩ := HfF.out
            refine bodyPost_ret (v := .tuple #[.agg #[.bool false, .int .i64 0, .string ⟨#[]⟩, .int .i64 0], .iface 26 (.int .i64 2)]) (by simp [results, Tryz.results103, go_sem, f0, f1, f2, f3]) rfl ⟨?_, HFB.out⟩
            rw [HRe.out]
            rfl
          · have h16I : ¬ (16 : Int) < (dp1 : Int) := by omega
            rw [if_pos rfl, if_neg h16] at hok
            have HRe := zh hok
            clear hwt hok h16
            obtain ⟨z0, z1, z2, z3⟩ := cells4 K1.out
            have g0 := z05 K1.out 0; have g1 := z05 K1.out 1; have g2 := z05 K1.out 2; have g3 := z05 K1.out 3
            have HfF := zh (cells4 (set4 K1.out (.bool true) (.int .i64 bkd) (.string ⟨t.toArray⟩) (.int .i64 (dp1 : Int))))
            have HFB := zh (z4k HB.out HB1.out (.bool true) (.int .i64 bkd) (.string ⟨t.toArray⟩) (.int .i64 (dp1 : Int)))
            clear K1 HB
            go_wp2
            obtain ⟨f0, f1, f2, f3⟩ := HfF.out
            refine bodyPost_ret (v := .tuple #[.agg #[.bool true, .int .i64 bkd, .string ⟨t.toArray⟩, .int .i64 (dp1 : Int)], .nilIface]) (by simp [results, Tryz.results103, go_sem, f0, f1, f2, f3]) rfl ⟨?_, HFB.out⟩
            rw [HRe.out]
            rfl
 · have hre := HRR.out
   unfold resE at hre
   simp only at hre
   rw [if_neg hk] at hre
   have HOk := zh hre
   have h6 : (kd == 6) = false := by rw [beq_eq_false_iff_ne]; omega
   have h7 : (kd == 7) = false := by rw [beq_eq_false_iff_ne]; omega
   have HTl : Hid (dt.length ≤ 65536) := zh (by have := Hd.out; omega)
   clear hre HBase HRR hk
   go_upto_region 2 with fail
   rw [← HWc.out, HS2.out]
   clear HWc e0 e1 e2 e3
   obtain ⟨e0, e1, e2, e3⟩ := cells4 HKE.out
   go_upto_region 12 with fail
   clear e0 e1 e2 e3 HKE
   obtain ⟨W, hW⟩ := zx wc
   rw [← hW] at HB K1 K2 ⊢
   clear hW
   have HRi := zh (zcp kd dt (by have := HTl.out; omega) W (HEb.out.below HB.out) (HTb.out.below HB.out))
   obtain ⟨p0, p1, p2, p3⟩ := cells4 K2.out
   unfold ObjV at HRi
   go_wp2_with fail
   refine HRi.out.mono ?_
   rintro e W2 ⟨rfl, b2⟩
   have K1 : Hid (W2.heap[B1]? = _) := zh ((b2.block _ (lt_heap K1.out)).trans K1.out)
   have K2 : Hid (W2.heap[B2]? = _) := zh ((b2.block _ (lt_heap K2.out)).trans K2.out)
   have HB := zh (HB.out.trans (b2.mono HB.out.size))
   obtain ⟨p0, p1, p2, p3⟩ := cells4 K2.out
   have hok := HOk.out
   clear b2 HRi HTl
   cases hwt : (z0g kd dt).isSome with
   | false =>
     rw [hwt] at hok
     have HRe := zh hok
     clear hwt hok
     obtain ⟨z0, z1, z2, z3⟩ := cells4 K1.out
     have g0 := z05 K1.out 0; have g1 := z05 K1.out 1; have g2 := z05 K1.out 2; have g3 := z05 K1.out 3
     have HfF := zh (cells4 (set4 K1.out (.bool false) (.int .i64 0) (.string ⟨#[]⟩) (.int .i64 0)))
     have HFB := zh (z4k HB.out HB1.out (.bool false) (.int .i64 0) (.string ⟨#[]⟩) (.int .i64 0))
     clear K1 HB
     go_wp2
     obtain ⟨f0, f1, f2, f3⟩ := HfF.out
     refine bodyPost_ret (v := .tuple #[.agg #[.bool false, .int .i64 0, .string ⟨#[]⟩, .int .i64 0], .iface 26 (.int .i64 3)]) (by simp [results, Tryz.results103, go_sem, f0, f1, f2, f3]) rfl ⟨?_, HFB.out⟩
     rw [HRe.out]
     rfl
   | true =>
     rw [hwt] at hok
     have HRe := zh hok
     clear hwt hok
     obtain ⟨z0, z1, z2, z3⟩ := cells4 K1.out
     have g0 := z05 K1.out 0; have g1 := z05 K1.out 1; have g2 := z05 K1.out 2; have g3 := z05 K1.out 3
     have HfF := zh (cells4 (set4 K1.out (.bool true) (.int .i64 kd) (.string ⟨dt.toArray⟩) (.int .i64 0)))
     have HFB := zh (z4k HB.out HB1.out (.bool true) (.int .i64 kd) (.string ⟨dt.toArray⟩) (.int .i64 0))
     clear K1 HB
     go_wp2
     obtain ⟨f0, f1, f2, f3⟩ := HfF.out
     refine bodyPost_ret (v := .tuple #[.agg #[.bool true, .int .i64 kd, .string ⟨dt.toArray⟩, .int .i64 0], .nilIface]) (by simp [results, Tryz.results103, go_sem, f0, f1, f2, f3]) rfl ⟨?_, HFB.out⟩
     rw [HRe.out]
     rfl
end Go.Proofs.YtgjddkeogboojaaGreatDoor.Pk
