/-
  RootLess, walked.
-/
import Derived.Test.YtnboagmibhllpaaGreatDoorOLessQ
namespace Go.Proofs.YtnboagmibhllpaaGreatDoor.Ro
open Go.Proofs.YtnboagmibhllpaaGreatDoor
open Go.Proofs.YtnboagmibhllpaaGreatDoor.Rf (BoolB Ref RefsR)
open Go Go.RowKit

set_option maxRecDepth 100000 in
set_option maxHeartbeats 8000000 in
theorem Less_law {w : World} {E : ErA} (hp : PrA E w) (hT : Tb w) (v : Value) (r : Rt) (hv : RtR w v r) (hb : BigR r) (y : UInt8) (vx : Value) (xs : Bs) (hxl : xs.length ≤ maxLen) (hx : Rb w vx xs) : Calls Tryz.prog 6 #[v, .int .u8 (y.toNat : Int), vx] w (BoolB true w) := by
  obtain ⟨Ax, cx, rfl, -⟩ := hx.shape
  obtain ⟨A, c, B, d, rfl, hpl, hk⟩ := hv.parts
  obtain ⟨n, hn⟩ : ∃ n, n = r.pool.length := ⟨_, rfl⟩
  obtain ⟨m, hm⟩ : ∃ m, m = r.forks.length := ⟨_, rfl⟩
  obtain ⟨z, hz⟩ : ∃ z, z = r.count := ⟨_, rfl⟩
  rw [← hn] at hpl
  rw [← hm] at hk
  rw [← hn, ← hm, ← hz] at hv ⊢
  obtain ⟨wa, hwa⟩ : ∃ y, y = w.alloc (.cells #[.int .i64 z, .slice A n c, .slice B m d] 25) := ⟨_, rfl⟩
  have la : Below w.heap.size w wa := by rw [hwa]; exact below_new _ _
  have sa : w.heap.size < wa.heap.size := by rw [hwa]; simp
  have ka : ∀ (i : Nat) (u : Value), (#[.int .i64 z, .slice A n c, .slice B m d] : Array Value)[i]? = some u → wa.cell? ⟨w.heap.size, i, none⟩ = some u := fun i u hi => by rw [hwa, cell_of_row _ _ _ _ _ _ (heap_alloc_new w _)]; exact hi
  have cA := fun (i : Nat) (u : Value) (hi : (#[.int .i64 z, .slice A n c, .slice B m d] : Array Value)[i]? = some u) => (show Hid (∀ W, Below wa.heap.size wa W → W.cell? ⟨w.heap.size, i, none⟩ = some u) from Lib.hid fun W h =>
    (h.cell (p := ⟨w.heap.size, i, none⟩) sa).trans (ka i u hi))
  have C0 := cA 0 _ rfl; have C1 := cA 1 _ rfl; have C2 := cA 2 _ rfl
  have HV := Lib.hid (hv.below la (Nat.le_refl _)); have HP := Lib.hid (RdK.below hpl la (Nat.le_refl _)); have HK := Lib.hid (hk.below la (Nat.le_refl _))
  have HPr := Lib.hid (hp.below la); have HTb := Lib.hid (Tb.below hT la)
  have HH := Lib.hid (head_p (hp.below la) (Tb.below hT la))
  have LA := Lib.hid la; have HW := Lib.hid hwa; have HN := Lib.hid hn; have HM := Lib.hid hm; have HB := Lib.hid hb
  clear hv hpl hk hp hT hn hm hz la sa ka cA hwa hb
  have HX := Lib.hid (hx.below LA.out (Nat.le_refl _))
  obtain ⟨nx, hnx⟩ : ∃ n, n = xs.length := ⟨_, rfl⟩
  rw [← hnx] at HX ⊢
  have HNx := Lib.hid hnx
  unfold maxLen at hxl
  clear hx hnx
  go_enter Tryz.func6, Tryz.ntmps6
  go_upto_region 1 with fail
  rw [← HW.out]
  clear HW
  go_wp2_with fail
  refine HH.out.mono ?_
  rintro e w1 ⟨rfl, hb1⟩
  have L1 := Lib.hid hb1
  have f0 := C0.out w1 hb1; have f1 := C1.out w1 hb1; have f2 := C2.out w1 hb1
  have HG := Lib.hid (OGreat_p (HV.out.below hb1 (Nat.le_refl _)) HB.out)
  clear hb1 HH
  go_wp2_with fail
  refine HG.out.mono ?_
  rintro e w2 ⟨g2, rfl, hb2, hg2⟩
  have L2 := Lib.hid (L1.out.trans (hb2.mono L1.out.size))
  clear HG f0 f1 f2
  cases g2 with
  | true =>
    clear hg2 hb2
    go_wp2_with fail
    go_ret
    exact ⟨rfl, LA.out.trans (L2.out.mono LA.out.size)⟩
  | false =>
  have HS := Lib.hid (hg2 rfl)
  have HF := Lib.hid (HS.out.fit HB.out)
  clear hg2 hb2
  have HR := Lib.hid (Right_p r _ w2 (HV.out.below L2.out (Nat.le_refl _)) HF.out)
  have f0 := C0.out w2 L2.out; have f1 := C1.out w2 L2.out; have f2 := C2.out w2 L2.out
  go_wp2_with fail
  refine HR.out.mono ?_
  rintro e w3 ⟨rfl, hb3⟩
  have L3 := Lib.hid (L2.out.trans (hb3.mono L2.out.size))
  clear hb3 f0 f1 f2 HR
  by_cases hok : RtOk r
  case neg =>
    rw [rtB_no hok]
    clear hok
    go_wp2_with fail
    go_ret
    exact ⟨rfl, LA.out.trans (L3.out.mono LA.out.size)⟩
  rw [rtB_iff.2 hok]
  have HOk := Lib.hid hok
  clear hok
  by_cases h1000 : nx ≤ 1000
  case neg =>
    have hI : (1000 : Int) < (nx : Int) := by omega
    clear h1000
    go_wp2_with fail
    go_ret
    exact ⟨rfl, LA.out.trans (L3.out.mono LA.out.size)⟩
  have hI : ¬ (1000 : Int) < (nx : Int) := by omega
  have hml : m ≤ 16 := by rw [HM.out]; exact HOk.out.len
  have hxs : xs.length ≤ 1000 := by have := HNx.out; omega
  have f0 := C0.out w3 L3.out; have f1 := C1.out w3 L3.out; have f2 := C2.out w3 L3.out
  go_upto_if 32 with fail
  go_cut [8, 9, 10] from 32 to 95 (fun _ _ _ wx => Hid (Below wa.heap.size wa wx))
  case first =>
    clear HP HPr HTb HX HNx hxl hI hxs HB
    by_cases hm0 : m = 0
    · have hmI : ¬ (0 : Int) < (m : Int) := by omega
      have hmD : decide ((0 : Int) < (m : Int)) = false := decide_eq_false hmI
      clear hm0
      go_wp2_with fail
      go_meet
      case rel => exact L3
    have hmI : (0 : Int) < (m : Int) := by omega
    have hmI2 : ¬ (m : Int) = 0 := by omega
    have hy8 := y.toNat_lt
    have hw64 : wrap64 (y.toNat : Int) = (y.toNat : Int) := IntWalk.wrap64_in _ (by omega)
    have hmI3 : ((m : Int) == 0) = false := by simp; omega
    obtain ⟨k, hk⟩ : ∃ k, k = y.toNat % m := ⟨_, rfl⟩
    have hkm : k < m := by rw [hk]; exact Nat.mod_lt _ (by omega)
    have m1 : (y.toNat : Int) % (m : Int) = (k : Int) := by rw [hk, Int.natCast_emod]
    have m2 : Int.tmod (y.toNat : Int) (m : Int) = (k : Int) := by rw [Int.tmod_eq_emod_of_nonneg (by omega)]; exact m1
    obtain ⟨g, o, c', e, hcd, _⟩ := HK.out.pos (by have := HM.out; omega)
    obtain ⟨rfl, hmd⟩ : B = some ⟨g, o, none⟩ ∧ m ≤ d := by rw [← HM.out] at e hcd; cases e; exact ⟨rfl, hcd⟩
    clear e hcd hk
    obtain ⟨w4, hw4⟩ : ∃ y, y = w3.alloc (.cells #[.int .i64 z, .slice A n c, .slice (some ⟨g, o, none⟩) m d] 25) := ⟨_, rfl⟩
    have l4 : Below w3.heap.size w3 w4 := by rw [hw4]; exact below_new _ _
    have k4 : w4.heap[w3.heap.size]? = some (.cells #[.int .i64 z, .slice A n c, .slice (some ⟨g, o, none⟩) m d] 25 (0, 0)) := by rw [hw4]; exact heap_alloc_new _ _
    have HW4 := Lib.hid hw4
    clear hw4
    go_upto_region 7 with fail
    rw [← HW4.out]
    clear HW4
    have LD := Lib.hid (show Below w3.heap.size w3 w4.drew from l4.drew)
    have kd : w4.drew.heap[w3.heap.size]? = some (.cells #[.int .i64 z, .slice A n c, .slice (some ⟨g, o, none⟩) m d] 25 (0, 0)) := k4
    clear f0 f1 f2 l4 k4 hw64 m1 m2
    refine AnyK.start w3.heap.size w3 (by kernel_rfl) ?_
    generalize w4.drew = wd at LD kd ⊢
    refine AnyK.take 1 (.pointer (some ⟨w.heap.size, 2, none⟩)) LD.out rfl (by kernel_rfl) (by kernel_rfl) (by kernel_rfl) (fun _ _ _ h => h) (by kernel_rfl) (fun W hW => y_field (sv := .pointer (some ⟨w.heap.size, 0, none⟩)) rfl (by kernel_rfl) (fld2 W _)) ?_
    refine AnyK.take 2 (.slice (some ⟨g, o, none⟩) m d) LD.out rfl (by kernel_rfl) (by kernel_rfl) (by kernel_rfl) (fun _ _ _ h => h) (by kernel_rfl) (fun W hW => y_load (sv := .pointer (some ⟨w.heap.size, 2, none⟩)) rfl (by kernel_rfl) (l_Fl W _ _ _ _ _ (C2.out W (L3.out.trans (hW.mono L3.out.size))))) ?_
    refine AnyK.take 3 (.int .i64 (k : Int)) LD.out rfl (by kernel_rfl) (by kernel_rfl) (by kernel_rfl) (fun _ _ _ h => h) (by kernel_rfl) (fun W hW => by kernel_rfl) ?_
    refine AnyK.take 4 (.slice (some ⟨g, o, none⟩) k d) LD.out rfl (by kernel_rfl) (by kernel_rfl) (by kernel_rfl) (fun _ _ _ h => h) (by kernel_rfl) (fun W hW => y_slice (xv := .slice (some ⟨g, o, none⟩) m d) (lv := none) (hv := some (.int .i64 (k : Int))) (mv := none) rfl (by kernel_rfl) rfl (by kernel_rfl) rfl (fcut_lo W _ m d k (by omega))) ?_
    refine AnyK.take 6 (.pointer (some ⟨w.heap.size, 2, none⟩)) LD.out rfl (by kernel_rfl) (by kernel_rfl) (by kernel_rfl) (fun _ _ _ h => h) (by kernel_rfl) (fun W hW => y_field (sv := .pointer (some ⟨w.heap.size, 0, none⟩)) rfl (by kernel_rfl) (fld2 W _)) ?_
    refine AnyK.take 7 (.slice (some ⟨g, o, none⟩) m d) LD.out rfl (by kernel_rfl) (by kernel_rfl) (by kernel_rfl) (fun _ _ _ h => h) (by kernel_rfl) (fun W hW => y_load (sv := .pointer (some ⟨w.heap.size, 2, none⟩)) rfl (by kernel_rfl) (l_Fl W _ _ _ _ _ (C2.out W (L3.out.trans (hW.mono L3.out.size))))) ?_
    refine AnyK.take 8 (.int .i64 (k : Int)) LD.out rfl (by kernel_rfl) (by kernel_rfl) (by kernel_rfl) (fun _ _ _ h => h) (by kernel_rfl) (fun W hW => by kernel_rfl) ?_
    refine AnyK.take 9 (.int .i64 ((k + 1 : Nat) : Int)) LD.out rfl (by kernel_rfl) (by kernel_rfl) (by kernel_rfl) (fun _ _ _ h => h) (by kernel_rfl) (fun W hW => y_bin (x := .int .i64 (k : Int)) (y := .int .i64 1) rfl (by kernel_rfl) (by kernel_rfl) rfl (add_k W k (by omega))) ?_
    have HFs := Lib.hid ((HK.out.below L3.out (Nat.le_refl _)).fs)
    obtain ⟨Ar, nr, cr, hnr, hsl, hdr⟩ := FsR.drop HFs.out HM.out hmd (k := k + 1) (by omega)
    refine AnyK.take 10 (.slice Ar nr cr) LD.out rfl (by kernel_rfl) (by kernel_rfl) (by kernel_rfl) (fun _ _ _ h => h) (by kernel_rfl) (fun W hW => y_slice (xv := .slice (some ⟨g, o, none⟩) m d) (lv := some (.int .i64 ((k + 1 : Nat) : Int))) (hv := none) (mv := none) rfl (by kernel_rfl) (by kernel_rfl) rfl rfl (hsl W)) ?_
    obtain ⟨ya, ha1, ha2, ha3⟩ := FsR.take HFs.out HM.out (k := k) (by omega)
    obtain ⟨yb, hb1, hb2, hb3⟩ := hdr
    have hlf := HM.out
    have P0 := below_new wd (.cells #[] 42)
    refine AnyK.op 0 (.slice (some ⟨wd.heap.size, 0, none⟩) 0 0) (wd.alloc (.cells #[] 42)) (by kernel_rfl) rfl (by kernel_rfl) (y_build rfl (by kernel_rfl) (fb0 wd)) (LD.out.trans (P0.mono LD.out.size)) ?_
    have hn := OwK.new0 (t := 42) (k := 5) (f := fsC) wd wd.heap.size (Nat.le_refl _)
    generalize wd.alloc (.cells #[] 42) = w6 at P0 hn ⊢
    have P1 := LD.out.trans (P0.mono LD.out.size)
    obtain ⟨v1, wx1, g1, o1, b1, _⟩ := run_all elFork hn (ha1.below P1 (Nat.le_refl _)) (by simp at ha2; simp; omega) (by decide) P0.size 23
    have P2 := LD.out.trans ((P0.trans b1).mono LD.out.size)
    refine AnyK.op 5 v1 wx1 (by kernel_rfl) rfl (by kernel_rfl) (y_append rfl (by kernel_rfl) (by kernel_rfl) g1) P2 ?_
    obtain ⟨v2, wx2, g2, o2, b2, _⟩ := run_all elFork o1 (hb1.below P2 (Nat.le_refl _)) (by simp at ha2 hb2; simp; omega) (by decide) (P0.trans b1).size 23
    have P3 := LD.out.trans (((P0.trans b1).trans b2).mono LD.out.size)
    refine AnyK.op 11 v2 wx2 (by kernel_rfl) rfl (by kernel_rfl) (y_append rfl (by kernel_rfl) (by kernel_rfl) g2) P3 ?_
    refine AnyK.take 12 (.pointer (some ⟨w3.heap.size, 2, none⟩)) P3 rfl (by kernel_rfl) (by kernel_rfl) (by kernel_rfl) (fun _ _ _ h => h) (by kernel_rfl) (fun W hW => y_field (sv := .pointer (some ⟨w3.heap.size, 0, none⟩)) rfl (by kernel_rfl) (fld2 W _)) ?_
    rw [List.nil_append] at o2
    obtain ⟨A2, n2, c2, rfl, hn2⟩ := Rf.OwK.shape o2
    clear hn2
    have kx : wx2.heap[w3.heap.size]? = some (.cells #[.int .i64 z, .slice A n c, .slice (some ⟨g, o, none⟩) m d] 25 (0, 0)) := (((P0.trans b1).trans b2).block _ (lt_of_block kd)).trans kd
    have hst := s_Fl2 wx2 w3.heap.size 2 A2 n2 c2 _ ((cell_of_row _ _ 2 _ _ _ kx).trans rfl) (frz kx)
    have hb7 : Below w3.heap.size w3 (wx2.setCell ⟨w3.heap.size, 2, none⟩ (.slice A2 n2 c2)) := P3.setCell (p := ⟨w3.heap.size, 2, none⟩) (Nat.le_refl _) _
    have HS7 : Hid (RtB (wx2.setCell ⟨w3.heap.size, 2, none⟩ (.slice A2 n2 c2)) w3.heap.size { r with forks := r.forks.take k ++ r.forks.drop (k + 1) }) := Lib.hid (box_forks kx (rt_forks (HV.out.below L3.out (Nat.le_refl _)) hb7 (fks_both (ownsRow_setCell_below o2 (a := ⟨w3.heap.size, 2, none⟩) (lt_of_block kd) _) hb7 ha2 ha3 hb2 hb3)))
    refine held_one (i := 13) (by kernel_rfl) (held_store (wx2.setCell ⟨w3.heap.size, 2, none⟩ (.slice A2 n2 c2)) rfl (by kernel_rfl) (y_store (sv := .pointer (some ⟨w3.heap.size, 2, none⟩)) (xv := .slice A2 n2 c2) rfl (by kernel_rfl) (by kernel_rfl) hst) hb7 ?_)
    generalize wx2.setCell ⟨w3.heap.size, 2, none⟩ (.slice A2 n2 c2) = w7 at hb7 HS7 ⊢
    clear hst kx o2 o1 hn g1 g2 b1 b2 P0 P1 P2 P3 ha1 ha2 ha3 hb1 hb2 hb3 hsl hnr hlf
    refine AnyK.done _ (by kernel_rfl) ?_
    go_simp
    have L7 := Lib.hid (L3.out.trans (hb7.mono L3.out.size))
    have e0 := C0.out w7 L7.out; have e1 := C1.out w7 L7.out; have e2 := C2.out w7 L7.out
    obtain ⟨w8, hw8⟩ : ∃ y, y = w7.alloc (.cells #[.int .i64 z, .slice A n c, .slice (some ⟨g, o, none⟩) m d] 25) := ⟨_, rfl⟩
    have l8 : Below w7.heap.size w7 w8 := by rw [hw8]; exact below_new _ _
    have k8 : w8.heap[w7.heap.size]? = some (.cells #[.int .i64 z, .slice A n c, .slice (some ⟨g, o, none⟩) m d] 25 (0, 0)) := by rw [hw8]; exact heap_alloc_new _ _
    have HW8 := Lib.hid hw8; have L8 := Lib.hid l8; have K8 := Lib.hid k8
    obtain ⟨f, hf⟩ : ∃ f, r.forks[k]? = some f := ⟨_, List.getElem?_eq_getElem (by have := HM.out; omega)⟩
    have HF7 := Lib.hid hf
    have HFit := Lib.hid HOk.out.fit
    clear hw8 hf l8 k8
    go_upto_region 9 with fail
    rw [← HW8.out]
    clear HW8 e0 e1 e2
    go_cut [10] from 54 to 65 (fun v10 wx => v10 = .pointer (some ⟨w7.heap.size, 0, none⟩) ∧ Hid (Below w7.heap.size w7 wx) ∧ Hid (RtB wx w7.heap.size { r with forks := r.forks ++ [f] }))
    case first =>
      obtain ⟨ys, hy1, hy2, hy3⟩ := (HK.out.below L7.out (Nat.le_refl _)).fs
      obtain ⟨y, hy⟩ : ∃ y, ys[k]? = some y := ⟨_, List.getElem?_eq_getElem (by have := HM.out; omega)⟩
      have c0 := Rf.RdK.at hy1 hy (i := 0) (by decide) rfl; have c1 := Rf.RdK.at hy1 hy (i := 1) (by decide) rfl; have c2 := Rf.RdK.at hy1 hy (i := 2) (by decide) rfl; have c3 := Rf.RdK.at hy1 hy (i := 3) (by decide) rfl; have c4 := Rf.RdK.at hy1 hy (i := 4) (by decide) rfl
      rw [Nat.add_zero] at c0
      have hyf : ∀ (j : Nat) (y' : Fs) (f' : Fk), [y][j]? = some y' → [f][j]? = some f' → FkR w7 y'.fc f' := fun j y' f' h1 h2 => by
        have h0 : j = 0 := by have := (List.getElem?_eq_some_iff.1 h1).1; simp at this; exact this
        subst h0
        cases h1; cases h2
        exact hy3 k y f hy HF7.out
      obtain ⟨V, hV⟩ : ∃ V, V = fkV y.fc := ⟨_, rfl⟩
      obtain ⟨cs, hcs⟩ : ∃ cs, cs = (fsC y).toArray := ⟨_, rfl⟩
      have HBs : ∀ W, (Instr.buildSlice 23 1 #[(0, V)]).run Tryz.prog W = .ok (.slice (some ⟨W.heap.size, 0, none⟩) 1 1) (W.alloc (.cells cs 42)) := fun W => by rw [hV, hcs]; exact bs_fk W _ _ _ _ _
      have HLd : ∀ W, Below w7.heap.size w7 W → (Instr.loadAt 42 (.pointer (some ⟨g, o + k * 5, none⟩))).run Tryz.prog W = .ok V W := fun W hW => by rw [hV]; exact l_Fk W g (o + k * 5) _ _ _ _ _ (cellB c0 hW) (cellB c1 hW) (cellB c2 hW) (cellB c3 hW) (cellB c4 hW)
      have HOne : ∀ (W : World) (j : Nat) (u : Value), (([y] : List Fs).flatMap fsC)[j]? = some u → (W.alloc (.cells cs 42)).cell? ((⟨W.heap.size, 0, none⟩ : Addr).add j) = some u := fun W => by
        rw [hcs]
        exact one_row fun i hi => by rw [cell_of_row _ _ _ _ _ _ (heap_alloc_new W _)]; simp
      have hlf := HM.out
      have hml7 := hml
      have LD := Lib.hid (show Below w7.heap.size w7 w8.drew from L8.out.drew)
      have KD := Lib.hid (show w8.drew.heap[w7.heap.size]? = some (.cells #[.int .i64 z, .slice A n c, .slice (some ⟨g, o, none⟩) m d] 25 (0, 0)) from K8.out)
      clear c0 c1 c2 c3 c4 hV hcs hy K8 L8
      refine AnyK.start w7.heap.size w7 (by kernel_rfl) ?_
      generalize w8.drew = wd at LD KD ⊢
      refine AnyK.take 1 (.pointer (some ⟨w.heap.size, 2, none⟩)) LD.out rfl (by kernel_rfl) (by kernel_rfl) (by kernel_rfl) (fun _ _ _ h => h) (by kernel_rfl) (fun W hW => y_field (sv := .pointer (some ⟨w.heap.size, 0, none⟩)) rfl (by kernel_rfl) (fld2 W _)) ?_
      refine AnyK.take 2 (.slice (some ⟨g, o, none⟩) m d) LD.out rfl (by kernel_rfl) (by kernel_rfl) (by kernel_rfl) (fun _ _ _ h => h) (by kernel_rfl) (fun W hW => y_load (sv := .pointer (some ⟨w.heap.size, 2, none⟩)) rfl (by kernel_rfl) (l_Fl W _ _ _ _ _ (C2.out W (L7.out.trans (hW.mono L7.out.size))))) ?_
      refine AnyK.take 4 (.pointer (some ⟨w.heap.size, 2, none⟩)) LD.out rfl (by kernel_rfl) (by kernel_rfl) (by kernel_rfl) (fun _ _ _ h => h) (by kernel_rfl) (fun W hW => y_field (sv := .pointer (some ⟨w.heap.size, 0, none⟩)) rfl (by kernel_rfl) (fld2 W _)) ?_
      refine AnyK.take 5 (.slice (some ⟨g, o, none⟩) m d) LD.out rfl (by kernel_rfl) (by kernel_rfl) (by kernel_rfl) (fun _ _ _ h => h) (by kernel_rfl) (fun W hW => y_load (sv := .pointer (some ⟨w.heap.size, 2, none⟩)) rfl (by kernel_rfl) (l_Fl W _ _ _ _ _ (C2.out W (L7.out.trans (hW.mono L7.out.size))))) ?_
      refine AnyK.take 6 (.int .i64 (k : Int)) LD.out rfl (by kernel_rfl) (by kernel_rfl) (by kernel_rfl) (fun _ _ _ h => h) (by kernel_rfl) (fun W hW => by kernel_rfl) ?_
      refine AnyK.take 7 (.pointer (some ⟨g, o + k * 5, none⟩)) LD.out rfl (by kernel_rfl) (by kernel_rfl) (by kernel_rfl) (fun _ _ _ h => h) (by kernel_rfl) (fun W hW => y_index (sv := .slice (some ⟨g, o, none⟩) m d) (iv := .int .i64 (k : Int)) rfl (by kernel_rfl) (by kernel_rfl) (at_f W g o m d k hkm)) ?_
      refine AnyK.take 8 (V) LD.out rfl (by kernel_rfl) (by kernel_rfl) (by kernel_rfl) (fun _ _ _ h => h) (by kernel_rfl) (fun W hW => y_load (sv := .pointer (some ⟨g, o + k * 5, none⟩)) rfl (by kernel_rfl) (HLd W hW)) ?_
      have P0 := below_new wd (.cells #[] 42)
      have P1 := below_new wd (.cells cs 42)
      refine AnyK.two 0 9 (by kernel_rfl) (.slice (some ⟨wd.heap.size, 0, none⟩) 0 0) (.slice (some ⟨wd.heap.size, 0, none⟩) 1 1) (wd.alloc (.cells #[] 42)) (wd.alloc (.cells cs 42)) rfl rfl (by kernel_rfl) (by kernel_rfl) (y_build rfl (by kernel_rfl) (fb0 wd)) (y_build rfl (by kernel_rfl) (HBs wd)) (LD.out.trans (P0.mono LD.out.size)) (LD.out.trans (P1.mono LD.out.size)) ?_ ?_
      · have hn := OwK.new0 (t := 42) (k := 5) (f := fsC) wd wd.heap.size (Nat.le_refl _)
        have HS5 : (wd.alloc (.cells #[] 42)).heap.size = wd.heap.size + 1 := by simp
        generalize wd.alloc (.cells #[] 42) = w5 at P0 hn HS5 ⊢
        clear P1
        obtain ⟨v1, wx, g1, o1, b1, r1⟩ := run_all elFork hn (hy1.below (LD.out.trans (P0.mono LD.out.size)) (Nat.le_refl _)) (by simp; omega) (by decide) P0.size 23
        refine AnyK.two 3 9 (by kernel_rfl) v1 (.slice (some ⟨w5.heap.size, 0, none⟩) 1 1) wx (w5.alloc (.cells cs 42)) rfl rfl (by kernel_rfl) (by kernel_rfl) (y_append rfl (by kernel_rfl) (by kernel_rfl) g1) (y_build rfl (by kernel_rfl) (HBs w5)) (LD.out.trans ((P0.trans b1).mono LD.out.size)) (LD.out.trans ((P0.trans ((below_new w5 _).mono P0.size)).mono LD.out.size)) ?_ ?_
        · have P2 := P0.trans b1
          have P3 := P2.trans ((below_new wx (.cells cs 42)).mono P2.size)
          refine AnyK.op 9 (.slice (some ⟨wx.heap.size, 0, none⟩) 1 1) (wx.alloc (.cells cs 42)) (by kernel_rfl) rfl (by kernel_rfl) (y_build rfl (by kernel_rfl) (HBs wx)) (LD.out.trans (P3.mono LD.out.size)) ?_
          have o2 := o1.below (below_new wx (.cells cs 42)) (Nat.le_refl _)
          obtain ⟨v3, we, g3, o3, b3, _⟩ := run_appK elFork o2 ⟨wx.heap.size, 0, none⟩ 1 1 (m := [y]) rfl (HOne wx) (by simp; omega) (by decide) P3.size 23
          have PE := P3.trans b3
          refine AnyK.op 10 v3 we (by kernel_rfl) rfl (by kernel_rfl) (y_append rfl (by kernel_rfl) (by kernel_rfl) g3) (LD.out.trans (PE.mono LD.out.size)) ?_
          clear g1 o1 b1 r1 hn g3 b3 P0 P2 P3 o2
          rw [List.nil_append] at o3
          obtain ⟨A2, n2, c2, rfl, hn2⟩ := Rf.OwK.shape o3
          clear hn2
          have ME := LD.out.trans (PE.mono LD.out.size)
          refine AnyK.take 11 (.pointer (some ⟨w7.heap.size, 2, none⟩)) ME rfl (by kernel_rfl) (by kernel_rfl) (by kernel_rfl) (fun _ _ _ h => h) (by kernel_rfl) (fun W hW => y_field (sv := .pointer (some ⟨w7.heap.size, 0, none⟩)) rfl (by kernel_rfl) (fld2 W _)) ?_
          have kx : we.heap[w7.heap.size]? = some (.cells #[.int .i64 z, .slice A n c, .slice (some ⟨g, o, none⟩) m d] 25 (0, 0)) := (PE.block _ (lt_of_block KD.out)).trans KD.out
          have hst := s_Fl2 we w7.heap.size 2 A2 n2 c2 _ ((cell_of_row _ _ 2 _ _ _ kx).trans rfl) (frz kx)
          have hb9 : Below w7.heap.size w7 (we.setCell ⟨w7.heap.size, 2, none⟩ (.slice A2 n2 c2)) := ME.setCell (p := ⟨w7.heap.size, 2, none⟩) (Nat.le_refl _) _
          have HT : Hid (RtB (we.setCell ⟨w7.heap.size, 2, none⟩ (.slice A2 n2 c2)) w7.heap.size { r with forks := r.forks ++ [f] }) := Lib.hid (box_forks kx (rt_forks (HV.out.below L7.out (Nat.le_refl _)) hb9 (fks_both (ownsRow_setCell_below o3 (a := ⟨w7.heap.size, 2, none⟩) (lt_of_block KD.out) _) hb9 hy2 hy3 rfl hyf)))
          refine held_one (i := 12) (by kernel_rfl) (held_store (we.setCell ⟨w7.heap.size, 2, none⟩ (.slice A2 n2 c2)) rfl (by kernel_rfl) (y_store (sv := .pointer (some ⟨w7.heap.size, 2, none⟩)) (xv := .slice A2 n2 c2) rfl (by kernel_rfl) (by kernel_rfl) hst) hb9 ?_)
          have HB9 := Lib.hid hb9
          clear hst kx o3
          generalize we.setCell ⟨w7.heap.size, 2, none⟩ (.slice A2 n2 c2) = wf at HT HB9 hb9 ⊢
          refine AnyK.done _ (by kernel_rfl) ?_
          clear hb9 hlf
          go_simp
          go_wp2
          go_meet
          case rel => exact ⟨rfl, HB9, HT⟩
        · clear g1 o1 b1 r1 v1 wx
          have k1 := HOne w5
          have hn2 := hn.below (below_new w5 (.cells cs 42)) (Nat.le_refl _)
          have P2 := P0.trans ((below_new w5 (.cells cs 42)).mono P0.size)
          have h5 : w5.heap.size < (w5.alloc (.cells cs 42)).heap.size := by simp
          have h6 : wd.heap.size < w5.heap.size := by rw [HS5]; exact Nat.lt_succ_self _
          generalize w5.alloc (.cells cs 42) = w6 at P2 hn2 k1 h5 ⊢
          obtain ⟨v1, wx, g1, o1, b1, r1⟩ := run_all elFork hn2 (hy1.below (LD.out.trans (P2.mono LD.out.size)) (Nat.le_refl _)) (by simp; omega) (by decide) P2.size 23
          refine AnyK.op 3 v1 wx (by kernel_rfl) rfl (by kernel_rfl) (y_append rfl (by kernel_rfl) (by kernel_rfl) g1) (LD.out.trans ((P2.trans b1).mono LD.out.size)) ?_
          have P3 := P2.trans b1
          have k2 := lit_kept k1 (r1.block w5.heap.size h5 (fun e => by have e2 : w5.heap.size = wd.heap.size := Option.some.inj e; omega))
          obtain ⟨v3, we, g3, o3, b3, _⟩ := run_appK elFork o1 ⟨w5.heap.size, 0, none⟩ 1 1 (m := [y]) rfl k2 (by simp; omega) (by decide) P3.size 23
          have PE := P3.trans b3
          refine AnyK.op 10 v3 we (by kernel_rfl) rfl (by kernel_rfl) (y_append rfl (by kernel_rfl) (by kernel_rfl) g3) (LD.out.trans (PE.mono LD.out.size)) ?_
          clear g1 o1 b1 r1 hn hn2 g3 b3 P0 P2 P3 k1 k2
          rw [List.nil_append] at o3
          obtain ⟨A2, n2, c2, rfl, hn2⟩ := Rf.OwK.shape o3
          clear hn2
          have ME := LD.out.trans (PE.mono LD.out.size)
          refine AnyK.take 11 (.pointer (some ⟨w7.heap.size, 2, none⟩)) ME rfl (by kernel_rfl) (by kernel_rfl) (by kernel_rfl) (fun _ _ _ h => h) (by kernel_rfl) (fun W hW => y_field (sv := .pointer (some ⟨w7.heap.size, 0, none⟩)) rfl (by kernel_rfl) (fld2 W _)) ?_
          have kx : we.heap[w7.heap.size]? = some (.cells #[.int .i64 z, .slice A n c, .slice (some ⟨g, o, none⟩) m d] 25 (0, 0)) := (PE.block _ (lt_of_block KD.out)).trans KD.out
          have hst := s_Fl2 we w7.heap.size 2 A2 n2 c2 _ ((cell_of_row _ _ 2 _ _ _ kx).trans rfl) (frz kx)
          have hb9 : Below w7.heap.size w7 (we.setCell ⟨w7.heap.size, 2, none⟩ (.slice A2 n2 c2)) := ME.setCell (p := ⟨w7.heap.size, 2, none⟩) (Nat.le_refl _) _
          have HT : Hid (RtB (we.setCell ⟨w7.heap.size, 2, none⟩ (.slice A2 n2 c2)) w7.heap.size { r with forks := r.forks ++ [f] }) := Lib.hid (box_forks kx (rt_forks (HV.out.below L7.out (Nat.le_refl _)) hb9 (fks_both (ownsRow_setCell_below o3 (a := ⟨w7.heap.size, 2, none⟩) (lt_of_block KD.out) _) hb9 hy2 hy3 rfl hyf)))
          refine held_one (i := 12) (by kernel_rfl) (held_store (we.setCell ⟨w7.heap.size, 2, none⟩ (.slice A2 n2 c2)) rfl (by kernel_rfl) (y_store (sv := .pointer (some ⟨w7.heap.size, 2, none⟩)) (xv := .slice A2 n2 c2) rfl (by kernel_rfl) (by kernel_rfl) hst) hb9 ?_)
          have HB9 := Lib.hid hb9
          clear hst kx o3
          generalize we.setCell ⟨w7.heap.size, 2, none⟩ (.slice A2 n2 c2) = wf at HT HB9 hb9 ⊢
          refine AnyK.done _ (by kernel_rfl) ?_
          clear hb9 hlf
          go_simp
          go_wp2
          go_meet
          case rel => exact ⟨rfl, HB9, HT⟩
      · have k1 := HOne wd
        have h5 : wd.heap.size < (wd.alloc (.cells cs 42)).heap.size := by simp
        generalize wd.alloc (.cells cs 42) = w5 at P1 k1 h5 ⊢
        clear P0
        have Q0 := below_new w5 (.cells #[] 42)
        have P2 := P1.trans (Q0.mono P1.size)
        refine AnyK.op 0 (.slice (some ⟨w5.heap.size, 0, none⟩) 0 0) (w5.alloc (.cells #[] 42)) (by kernel_rfl) rfl (by kernel_rfl) (y_build rfl (by kernel_rfl) (fb0 w5)) (LD.out.trans (P2.mono LD.out.size)) ?_
        have hn := OwK.new0 (t := 42) (k := 5) (f := fsC) w5 w5.heap.size (Nat.le_refl _)
        generalize w5.alloc (.cells #[] 42) = w6 at P2 Q0 hn ⊢
        obtain ⟨v1, wx, g1, o1, b1, r1⟩ := run_all elFork hn (hy1.below (LD.out.trans (P2.mono LD.out.size)) (Nat.le_refl _)) (by simp; omega) (by decide) Q0.size 23
        refine AnyK.op 3 v1 wx (by kernel_rfl) rfl (by kernel_rfl) (y_append rfl (by kernel_rfl) (by kernel_rfl) g1) (LD.out.trans ((P1.trans ((Q0.trans b1).mono P1.size)).mono LD.out.size)) ?_
        have P3 := Q0.trans b1
        have k2 := lit_kept k1 (P3.block wd.heap.size h5)
        obtain ⟨v3, we, g3, o3, b3, _⟩ := run_appK elFork o1 ⟨wd.heap.size, 0, none⟩ 1 1 (m := [y]) rfl k2 (by simp; omega) (by decide) P3.size 23
        have PE := P1.trans ((P3.trans b3).mono P1.size)
        refine AnyK.op 10 v3 we (by kernel_rfl) rfl (by kernel_rfl) (y_append rfl (by kernel_rfl) (by kernel_rfl) g3) (LD.out.trans (PE.mono LD.out.size)) ?_
        have o4 := OwK.mono o3 P1.size
        clear g1 o1 b1 r1 hn g3 b3 P1 P2 P3 Q0 k1 k2 o3
        rw [List.nil_append] at o4
        obtain ⟨A2, n2, c2, rfl, hn2⟩ := Rf.OwK.shape o4
        clear hn2
        have ME := LD.out.trans (PE.mono LD.out.size)
        refine AnyK.take 11 (.pointer (some ⟨w7.heap.size, 2, none⟩)) ME rfl (by kernel_rfl) (by kernel_rfl) (by kernel_rfl) (fun _ _ _ h => h) (by kernel_rfl) (fun W hW => y_field (sv := .pointer (some ⟨w7.heap.size, 0, none⟩)) rfl (by kernel_rfl) (fld2 W _)) ?_
        have kx : we.heap[w7.heap.size]? = some (.cells #[.int .i64 z, .slice A n c, .slice (some ⟨g, o, none⟩) m d] 25 (0, 0)) := (PE.block _ (lt_of_block KD.out)).trans KD.out
        have hst := s_Fl2 we w7.heap.size 2 A2 n2 c2 _ ((cell_of_row _ _ 2 _ _ _ kx).trans rfl) (frz kx)
        have hb9 : Below w7.heap.size w7 (we.setCell ⟨w7.heap.size, 2, none⟩ (.slice A2 n2 c2)) := ME.setCell (p := ⟨w7.heap.size, 2, none⟩) (Nat.le_refl _) _
        have HT : Hid (RtB (we.setCell ⟨w7.heap.size, 2, none⟩ (.slice A2 n2 c2)) w7.heap.size { r with forks := r.forks ++ [f] }) := Lib.hid (box_forks kx (rt_forks (HV.out.below L7.out (Nat.le_refl _)) hb9 (fks_both (ownsRow_setCell_below o4 (a := ⟨w7.heap.size, 2, none⟩) (lt_of_block KD.out) _) hb9 hy2 hy3 rfl hyf)))
        refine held_one (i := 12) (by kernel_rfl) (held_store (we.setCell ⟨w7.heap.size, 2, none⟩ (.slice A2 n2 c2)) rfl (by kernel_rfl) (y_store (sv := .pointer (some ⟨w7.heap.size, 2, none⟩)) (xv := .slice A2 n2 c2) rfl (by kernel_rfl) (by kernel_rfl) hst) hb9 ?_)
        have HB9 := Lib.hid hb9
        clear hst kx o4
        generalize we.setCell ⟨w7.heap.size, 2, none⟩ (.slice A2 n2 c2) = wf at HT HB9 hb9 ⊢
        refine AnyK.done _ (by kernel_rfl) ?_
        clear hb9 hlf
        go_simp
        go_wp2
        go_meet
        case rel => exact ⟨rfl, HB9, HT⟩
    obtain ⟨rfl, HB9, HT9⟩ := hcut
    have L9 := Lib.hid (L7.out.trans (HB9.out.mono L7.out.size))
    have hkl : k < r.forks.length := (List.getElem?_eq_some_iff.1 HF7.out).1
    obtain ⟨z1, A1, n1, c1, B1, m1, d1, s0, s1, s2, hr1⟩ := HS7.out.below HB9.out
    obtain ⟨z2, A2, n2, c2, B2, m2, d2, t0, t1, t2, hr2⟩ := HT9.out
    have S0 := Lib.hid (fun W (hW : Below wc.heap.size wc W) => cellB s0 hW); have S1 := Lib.hid (fun W (hW : Below wc.heap.size wc W) => cellB s1 hW); have S2 := Lib.hid (fun W (hW : Below wc.heap.size wc W) => cellB s2 hW)
    have T0 := Lib.hid (fun W (hW : Below wc.heap.size wc W) => cellB t0 hW); have T1 := Lib.hid (fun W (hW : Below wc.heap.size wc W) => cellB t1 hW); have T2 := Lib.hid (fun W (hW : Below wc.heap.size wc W) => cellB t2 hW)
    have HRs : Hid (∀ W, Below wc.heap.size wc W → Calls Tryz.prog 16 #[.agg #[.int .i64 z1, .slice A1 n1 c1, .slice B1 m1 d1]] W (BoolB true W)) := Lib.hid fun W hW => by
      have h := Right_p _ _ W (hr1.below hW (Nat.le_refl _)) (fit_forks HFit.out (fun f hf => by
        rcases List.mem_append.1 hf with hf | hf
        · exact List.mem_of_mem_take hf
        · exact List.mem_of_mem_drop hf) (by have := HFit.out.flen; simp; omega))
      rw [rtB_iff.2 (less_ok HOk.out k)] at h; exact h
    have HRt : Hid (∀ W, Below wc.heap.size wc W → Calls Tryz.prog 16 #[.agg #[.int .i64 z2, .slice A2 n2 c2, .slice B2 m2 d2]] W (BoolB false W)) := Lib.hid fun W hW => by
      have h := Right_p _ _ W (hr2.below hW (Nat.le_refl _)) (fit_forks HFit.out (fun f' hf => by
        rcases List.mem_append.1 hf with hf | hf
        · exact hf
        · rw [List.mem_singleton.1 hf]; exact List.mem_of_getElem? HF7.out) (by have := HOk.out.len; simp; omega))
      rw [rtB_no (twice_no HF7.out)] at h; exact h
    have HFs := Lib.hid (fun W (hW : Below wc.heap.size wc W) => Find_p _ _ f.name W (hr1.below hW (Nat.le_refl _)) (by have := HFit.out.flen; simp; omega))
    have HFr := Lib.hid (fun W (hW : Below wc.heap.size wc W) => Find_p r _ f.name W (HV.out.below (L9.out.trans (hW.mono L9.out.size)) (Nat.le_refl _)) HFit.out.flen)
    simp only [less_find HOk.out HF7.out] at HFs
    rw [find_pos HOk.out HF7.out] at HFr
    have D0 : Hid (∀ W, Below wc.heap.size wc W → W.cell? ⟨g, o + k * 5, none⟩ = some (.string ⟨f.name.toArray⟩)) := Lib.hid fun W hW => by
      obtain ⟨x, hx, d0, _⟩ := (HK.out.below (L9.out.trans (hW.mono L9.out.size)) (Nat.le_refl _)).at HF7.out
      rw [hx.name] at d0; exact d0
    obtain ⟨nm, hnm⟩ : ∃ nm, nm = f.name := ⟨_, rfl⟩
    rw [← hnm] at HFs HFr D0
    have HI := Lib.hid fun W => at_f W g o m d k hkm
    clear s0 s1 s2 t0 t1 t2 hr1 hr2 hnm hkl HS7 HT9 HF7 HFit
    go_upto_region 10 with fail
    have LD := Lib.hid (show Below wc.heap.size wc wc.drew from (Below.refl _ _).drew)
    refine AnyB.start (by kernel_rfl) ?_
    refine AnyB.take 0 (.agg #[.int .i64 z1, .slice A1 n1 c1, .slice B1 m1 d1]) rfl (by kernel_rfl) (by kernel_rfl) (by kernel_rfl) (fun _ _ _ h => h) (by kernel_rfl) (fun W hW => y_load (sv := .pointer (some ⟨w3.heap.size, 0, none⟩)) rfl (by kernel_rfl) (l_Root W _ _ _ _ (S0.out W (LD.out.trans (hW.mono LD.out.size))) (S1.out W (LD.out.trans (hW.mono LD.out.size))) (S2.out W (LD.out.trans (hW.mono LD.out.size))))) ?_
    refine AnyB.call 1 16 #[.agg #[.int .i64 z1, .slice A1 n1 c1, .slice B1 m1 d1]] (by kernel_rfl) rfl (by kernel_rfl) (by kernel_rfl) ?_
    refine (HRs.out _ LD.out).mono ?_
    rintro e wr1 ⟨rfl, hb1⟩
    have M1 := Lib.hid (LD.out.trans (hb1.mono LD.out.size))
    refine ⟨_, rfl, hb1, ?_⟩
    refine AnyB.take 2 (.bool false) rfl (by kernel_rfl) (by kernel_rfl) (by kernel_rfl) (fun _ _ _ h => h) (by kernel_rfl) (fun W hW => by kernel_rfl) ?_
    refine AnyB.take 3 (.bool false) rfl (by kernel_rfl) (by kernel_rfl) (by kernel_rfl) (fun _ _ _ h => h) (by kernel_rfl) (fun W hW => by kernel_rfl) ?_
    refine AnyB.take 4 (.agg #[.int .i64 z2, .slice A2 n2 c2, .slice B2 m2 d2]) rfl (by kernel_rfl) (by kernel_rfl) (by kernel_rfl) (fun _ _ _ h => h) (by kernel_rfl) (fun W hW => y_load (sv := .pointer (some ⟨w7.heap.size, 0, none⟩)) rfl (by kernel_rfl) (l_Root W _ _ _ _ (T0.out W (M1.out.trans (hW.mono M1.out.size))) (T1.out W (M1.out.trans (hW.mono M1.out.size))) (T2.out W (M1.out.trans (hW.mono M1.out.size))))) ?_
    refine AnyB.call 5 16 #[.agg #[.int .i64 z2, .slice A2 n2 c2, .slice B2 m2 d2]] (by kernel_rfl) rfl (by kernel_rfl) (by kernel_rfl) ?_
    refine (HRt.out _ M1.out).mono ?_
    rintro e wr2 ⟨rfl, hb2⟩
    have M2 := Lib.hid (M1.out.trans (hb2.mono M1.out.size))
    refine ⟨_, rfl, hb2, ?_⟩
    refine AnyB.take 6 (.bool false) rfl (by kernel_rfl) (by kernel_rfl) (by kernel_rfl) (fun _ _ _ h => h) (by kernel_rfl) (fun W hW => by kernel_rfl) ?_
    refine AnyB.take 7 (.bool false) rfl (by kernel_rfl) (by kernel_rfl) (by kernel_rfl) (fun _ _ _ h => h) (by kernel_rfl) (fun W hW => by kernel_rfl) ?_
    refine AnyB.take 8 (.agg #[.int .i64 z1, .slice A1 n1 c1, .slice B1 m1 d1]) rfl (by kernel_rfl) (by kernel_rfl) (by kernel_rfl) (fun _ _ _ h => h) (by kernel_rfl) (fun W hW => y_load (sv := .pointer (some ⟨w3.heap.size, 0, none⟩)) rfl (by kernel_rfl) (l_Root W _ _ _ _ (S0.out W (M2.out.trans (hW.mono M2.out.size))) (S1.out W (M2.out.trans (hW.mono M2.out.size))) (S2.out W (M2.out.trans (hW.mono M2.out.size))))) ?_
    refine AnyB.take 9 (.pointer (some ⟨w.heap.size, 2, none⟩)) rfl (by kernel_rfl) (by kernel_rfl) (by kernel_rfl) (fun _ _ _ h => h) (by kernel_rfl) (fun W hW => y_field (sv := .pointer (some ⟨w.heap.size, 0, none⟩)) rfl (by kernel_rfl) (fld2 W _)) ?_
    refine AnyB.take 10 (.slice (some ⟨g, o, none⟩) m d) rfl (by kernel_rfl) (by kernel_rfl) (by kernel_rfl) (fun _ _ _ h => h) (by kernel_rfl) (fun W hW => y_load (sv := .pointer (some ⟨w.heap.size, 2, none⟩)) rfl (by kernel_rfl) (l_Fl W _ 2 _ _ _ (C2.out W (L9.out.trans ((M2.out.trans (hW.mono M2.out.size)).mono L9.out.size))))) ?_
    refine AnyB.take 11 (.int .i64 (k : Int)) rfl (by kernel_rfl) (by kernel_rfl) (by kernel_rfl) (fun _ _ _ h => h) (by kernel_rfl) (fun W hW => by kernel_rfl) ?_
    refine AnyB.take 12 (.pointer (some ⟨g, o + k * 5, none⟩)) rfl (by kernel_rfl) (by kernel_rfl) (by kernel_rfl) (fun _ _ _ h => h) (by kernel_rfl) (fun W hW => y_index (sv := .slice (some ⟨g, o, none⟩) m d) (iv := .int .i64 (k : Int)) rfl (by kernel_rfl) (by kernel_rfl) (HI.out W)) ?_
    refine AnyB.take 13 (.pointer (some ⟨g, o + k * 5, none⟩)) rfl (by kernel_rfl) (by kernel_rfl) (by kernel_rfl) (fun _ _ _ h => h) (by kernel_rfl) (fun W hW => y_field (sv := .pointer (some ⟨g, o + k * 5, none⟩)) rfl (by kernel_rfl) (f_f0 W g (o + k * 5))) ?_
    refine AnyB.take 14 (.string ⟨nm.toArray⟩) rfl (by kernel_rfl) (by kernel_rfl) (by kernel_rfl) (fun _ _ _ h => h) (by kernel_rfl) (fun W hW => y_load (sv := .pointer (some ⟨g, o + k * 5, none⟩)) rfl (by kernel_rfl) (l_S W g (o + k * 5) nm (D0.out W (M2.out.trans (hW.mono M2.out.size))))) ?_
    refine AnyB.call 15 21 #[.agg #[.int .i64 z1, .slice A1 n1 c1, .slice B1 m1 d1], .string ⟨nm.toArray⟩] (by kernel_rfl) rfl (by kernel_rfl) (by kernel_rfl) ?_
    refine (HFs.out _ M2.out).mono ?_
    rintro e wr3 ⟨rfl, hb3⟩
    have M3 := Lib.hid (M2.out.trans (hb3.mono M2.out.size))
    refine ⟨_, rfl, hb3, ?_⟩
    refine AnyB.take 16 (.bool false) rfl (by kernel_rfl) (by kernel_rfl) (by kernel_rfl) (fun _ _ _ h => h) (by kernel_rfl) (fun W hW => y_bin (x := .int .i64 (-1)) (y := .int .i64 0) rfl (by kernel_rfl) (by kernel_rfl) rfl (geq_neg W)) ?_
    refine AnyB.take 17 (.bool false) rfl (by kernel_rfl) (by kernel_rfl) (by kernel_rfl) (fun _ _ _ h => h) (by kernel_rfl) (fun W hW => by kernel_rfl) ?_
    refine AnyB.take 18 (.bool false) rfl (by kernel_rfl) (by kernel_rfl) (by kernel_rfl) (fun _ _ _ h => h) (by kernel_rfl) (fun W hW => by kernel_rfl) ?_
    refine AnyB.take 19 (.agg #[.int .i64 z, .slice A n c, .slice (some ⟨g, o, none⟩) m d]) rfl (by kernel_rfl) (by kernel_rfl) (by kernel_rfl) (fun _ _ _ h => h) (by kernel_rfl) (fun W hW => y_load (sv := .pointer (some ⟨w.heap.size, 0, none⟩)) rfl (by kernel_rfl) (l_Root W _ _ _ _ (C0.out W (L9.out.trans ((M3.out.trans (hW.mono M3.out.size)).mono L9.out.size))) (C1.out W (L9.out.trans ((M3.out.trans (hW.mono M3.out.size)).mono L9.out.size))) (C2.out W (L9.out.trans ((M3.out.trans (hW.mono M3.out.size)).mono L9.out.size))))) ?_
    refine AnyB.take 20 (.pointer (some ⟨w.heap.size, 2, none⟩)) rfl (by kernel_rfl) (by kernel_rfl) (by kernel_rfl) (fun _ _ _ h => h) (by kernel_rfl) (fun W hW => y_field (sv := .pointer (some ⟨w.heap.size, 0, none⟩)) rfl (by kernel_rfl) (fld2 W _)) ?_
    refine AnyB.take 21 (.slice (some ⟨g, o, none⟩) m d) rfl (by kernel_rfl) (by kernel_rfl) (by kernel_rfl) (fun _ _ _ h => h) (by kernel_rfl) (fun W hW => y_load (sv := .pointer (some ⟨w.heap.size, 2, none⟩)) rfl (by kernel_rfl) (l_Fl W _ 2 _ _ _ (C2.out W (L9.out.trans ((M3.out.trans (hW.mono M3.out.size)).mono L9.out.size))))) ?_
    refine AnyB.take 22 (.int .i64 (k : Int)) rfl (by kernel_rfl) (by kernel_rfl) (by kernel_rfl) (fun _ _ _ h => h) (by kernel_rfl) (fun W hW => by kernel_rfl) ?_
    refine AnyB.take 23 (.pointer (some ⟨g, o + k * 5, none⟩)) rfl (by kernel_rfl) (by kernel_rfl) (by kernel_rfl) (fun _ _ _ h => h) (by kernel_rfl) (fun W hW => y_index (sv := .slice (some ⟨g, o, none⟩) m d) (iv := .int .i64 (k : Int)) rfl (by kernel_rfl) (by kernel_rfl) (HI.out W)) ?_
    refine AnyB.take 24 (.pointer (some ⟨g, o + k * 5, none⟩)) rfl (by kernel_rfl) (by kernel_rfl) (by kernel_rfl) (fun _ _ _ h => h) (by kernel_rfl) (fun W hW => y_field (sv := .pointer (some ⟨g, o + k * 5, none⟩)) rfl (by kernel_rfl) (f_f0 W g (o + k * 5))) ?_
    refine AnyB.take 25 (.string ⟨nm.toArray⟩) rfl (by kernel_rfl) (by kernel_rfl) (by kernel_rfl) (fun _ _ _ h => h) (by kernel_rfl) (fun W hW => y_load (sv := .pointer (some ⟨g, o + k * 5, none⟩)) rfl (by kernel_rfl) (l_S W g (o + k * 5) nm (D0.out W (M3.out.trans (hW.mono M3.out.size))))) ?_
    refine AnyB.take 27 (.int .i64 (k : Int)) rfl (by kernel_rfl) (by kernel_rfl) (by kernel_rfl) (fun _ _ _ h => h) (by kernel_rfl) (fun W hW => by kernel_rfl) ?_
    refine AnyB.call 26 21 #[.agg #[.int .i64 z, .slice A n c, .slice (some ⟨g, o, none⟩) m d], .string ⟨nm.toArray⟩] (by kernel_rfl) rfl (by kernel_rfl) (by kernel_rfl) ?_
    refine (HFr.out _ M3.out).mono ?_
    rintro e wr4 ⟨rfl, hb4⟩
    have M4 := Lib.hid (M3.out.trans (hb4.mono M3.out.size))
    refine ⟨_, rfl, hb4, ?_⟩
    refine AnyB.take 28 (.bool false) rfl (by kernel_rfl) (by kernel_rfl) (by kernel_rfl) (fun _ _ _ h => h) (by kernel_rfl) (fun W hW => y_bin (x := .int .i64 (k : Int)) (y := .int .i64 (k : Int)) rfl (by kernel_rfl) (by kernel_rfl) rfl (neq_self W k)) ?_
    refine AnyB.take 29 (.bool false) rfl (by kernel_rfl) (by kernel_rfl) (by kernel_rfl) (fun _ _ _ h => h) (by kernel_rfl) (fun W hW => by kernel_rfl) ?_
    refine AnyB.done _ (by kernel_rfl) ?_
    go_simp
    have L10 := Lib.hid (L9.out.trans (M4.out.mono L9.out.size))
    clear hb1 hb2 hb3 hb4
    go_wp2_with fail
    go_meet
    case rel => exact L10
  have LC := Lib.hid hcut.out
  clear hcut L3 f0 f1 f2
  have HNm := Lib.hid (RName_any wc _ xs (by omega) (HX.out.below LC.out (Nat.le_refl _)))
  go_wp2_with fail
  refine HNm.out.mono ?_
  rintro e wn ⟨rfl, hbn⟩
  have Ln := Lib.hid (LC.out.trans (hbn.mono LC.out.size))
  obtain ⟨id, hid⟩ : ∃ s, s = nameL xs := ⟨_, rfl⟩
  rw [← hid]
  unfold SV
  have HId : Hid (namedB id = true ∧ id.length = 64) := Lib.hid (by rw [hid]; exact ⟨Rf.name_named _ (nameL_length _), nameL_length _⟩)
  clear hbn HNm hid
  have g0 := C0.out wn Ln.out; have g1 := C1.out wn Ln.out; have g2 := C2.out wn Ln.out
  have hnl : n ≤ 24 := by rw [HN.out]; exact HOk.out.pool.len
  go_wp2_with fail
  go_loop [12, 13] (fun q i => ∃ (k : Nat) (b : Bool), k ≤ n ∧ i = .int .i64 k ∧ q = .bool b ∧ Hid (b = decide (id ∈ r.pool.take k))) (fun _ i => n - (intOf i).toNat)
  case atStart => exact ⟨0, false, Nat.zero_le _, rfl, rfl, Lib.hid (by simp)⟩
  case round =>
    obtain ⟨k, b, hk, rfl, rfl, hb⟩ := hrel
    by_cases hlt : k < n
    · have HPn := Lib.hid (RdK.below HP.out Ln.out (Nat.le_refl _))
      obtain ⟨g5, o5, c5, e, _, _⟩ := HPn.out.pos (by have := HN.out; omega)
      obtain rfl : A = some ⟨g5, o5, none⟩ := by rw [← HN.out] at e; cases e; rfl
      clear e
      have hkp : k < r.pool.length := by have := HN.out; omega
      have p0 := Rf.RdK.at HPn.out (List.getElem?_eq_getElem hkp) (i := 0) (by decide) rfl
      have htk : r.pool.take (k + 1) = r.pool.take k ++ [r.pool[k]] := by rw [List.take_add_one, List.getElem?_eq_getElem hkp]; rfl
      obtain ⟨s, hs⟩ : ∃ s, s = r.pool[k] := ⟨_, rfl⟩
      rw [← hs] at p0 htk
      unfold SV at p0
      rw [Nat.mul_one, Nat.add_zero] at p0
      have HTk := Lib.hid htk
      clear htk hs hkp
      cases b with
      | true =>
        have HB1 : Hid (true = decide (id ∈ r.pool.take (k + 1))) := Lib.hid (by rw [HTk.out]; have := hb.out; simp at this ⊢; exact .inl this)
        clear hb HTk
        go_wp2_with fail
        go_round
        case rel => exact ⟨k + 1, true, hlt, by go_num, rfl, HB1⟩
        case measure => simp [intOf]; omega
      | false =>
        by_cases hm : s = id
        · have HB1 : Hid (true = decide (id ∈ r.pool.take (k + 1))) := Lib.hid (by rw [HTk.out, hm]; simp)
          subst hm
          clear hb HTk
          go_wp2_with fail
          go_round
          case rel => exact ⟨k + 1, true, hlt, by go_num, by simp, HB1⟩
          case measure => simp [intOf]; omega
        · have HB1 : Hid (false = decide (id ∈ r.pool.take (k + 1))) := Lib.hid (by rw [HTk.out]; have := hb.out; simp at this ⊢; exact ⟨this, fun e => hm e.symm⟩)
          have hm2 : (s == id) = false := by simpa using hm
          clear hb HTk
          go_wp2_with fail
          go_round
          case rel => exact ⟨k + 1, false, hlt, by go_num, by simp, HB1⟩
          case measure => simp [intOf]; omega
    have hkn : k = r.pool.length := by have := HN.out; omega
    have HBt : Hid (b = decide (id ∈ r.pool)) := Lib.hid (by have := hb.out; rw [hkn, List.take_length] at this; exact this)
    obtain ⟨wq, hwq⟩ : ∃ y, y = wn.alloc (.cells #[.int .i64 z, .slice A n c, .slice B m d] 25) := ⟨_, rfl⟩
    have lq : Below wn.heap.size wn wq := by rw [hwq]; exact below_new _ _
    have kq : wq.heap[wn.heap.size]? = some (.cells #[.int .i64 z, .slice A n c, .slice B m d] 25 (0, 0)) := by rw [hwq]; exact heap_alloc_new _ _
    have SQ : Hid (wq.heap.size = wn.heap.size + 1) := Lib.hid (by rw [hwq]; simp)
    have Lq := Lib.hid (Ln.out.trans (lq.mono Ln.out.size))
    have HWq := Lib.hid hwq; have HKq := Lib.hid kq
    clear hb hkn hwq hk g0 g1 g2
    have hltI : ¬ (k : Int) < (n : Int) := by omega
    have g0 := C0.out wn Ln.out; have g1 := C1.out wn Ln.out; have g2 := C2.out wn Ln.out
    go_upto_region 19 with fail
    rw [← HWq.out]
    clear HWq g0 g1 g2
    have g1 := C1.out wq Lq.out
    have Bq := Lib.hid (below_new wq (.cells #[] 9))
    obtain ⟨w4, hw4⟩ : ∃ y, y = wq.alloc (.cells #[] 9) := ⟨_, rfl⟩
    have o4 := OwK.new0 (t := 9) (k := 1) (f := strC) wq wq.heap.size (Nat.le_refl _)
    rw [← hw4] at Bq o4
    have HW4 := Lib.hid hw4
    have g14 := C1.out w4 (Lq.out.trans (Bq.out.mono Lq.out.size))
    obtain ⟨v5, w5, r5, o5, gr5⟩ := run_all' elStr o4 (RdK.below HP.out (Lq.out.trans (Bq.out.mono Lq.out.size)) (Nat.le_refl _)) (by have := HN.out; simp; omega) (by decide) Bq.out.size
    have b5 := Bq.out.trans (below_grown o4 (Nat.le_refl _) Bq.out.size gr5)
    obtain ⟨w6, hw6⟩ : ∃ y, y = w5.alloc (.cells #[.string ⟨id.toArray⟩] 9) := ⟨_, rfl⟩
    have l6 : Below w5.heap.size w5 w6 := by rw [hw6]; exact below_new _ _
    have hone : StrsR w6 (.slice (some ⟨w5.heap.size, 0, none⟩) 1 1) [id] := by rw [hw6]; exact strs_oneR w5 id
    have o6 := OwK.below o5 l6 (Nat.le_refl _)
    have b6 := b5.trans (l6.mono b5.size)
    obtain ⟨v7, w7, r7, o7, gr7⟩ := run_all' elStr o6 hone (by have := HN.out; simp; omega) (by decide) b6.size
    have b7 := b6.trans (below_grown o6 (Nat.le_refl _) b6.size gr7)
    rw [List.nil_append] at o7
    obtain ⟨A7, n7, c7, rfl, hn7⟩ := Rf.OwK.shape o7
    have kx : w7.heap[wn.heap.size]? = some (.cells #[.int .i64 z, .slice A n c, .slice B m d] 25 (0, 0)) := (b7.block _ (lt_of_block HKq.out)).trans HKq.out
    have cx7 : w7.cell? ⟨wn.heap.size, 1, none⟩ = some (.slice A n c) := (cell_of_row _ _ 1 _ _ _ kx).trans rfl
    have fz7 := frz (j := 1) kx
    obtain ⟨w8, hw8⟩ : ∃ y, y = w7.setCell ⟨wn.heap.size, 1, none⟩ (.slice A7 n7 c7) := ⟨_, rfl⟩
    have bn8 : Below wn.heap.size wn w8 := by rw [hw8]; exact ((lq.trans (b7.mono lq.size)).setCell (p := ⟨wn.heap.size, 1, none⟩) (Nat.le_refl _) _)
    have hbx : RtB w8 wn.heap.size { r with pool := r.pool ++ [id] } := by
      rw [hw8]
      refine box_pool kx (rt_pool (HV.out.below Ln.out (Nat.le_refl _)) (by rw [← hw8]; exact bn8) ?_)
      exact OwK.rd strC_len (ownsRow_setCell_below o7 (a := ⟨wn.heap.size, 1, none⟩) (by rw [SQ.out]; exact Nat.lt_succ_self _) _)
    have L8 := Lib.hid (Ln.out.trans (bn8.mono Ln.out.size))
    have HBx := Lib.hid hbx; have HW8 := Lib.hid hw8; have HW6 := Lib.hid hw6
    clear hn7 o4 o5 o6 o7 gr5 gr7 hone l6 b5 b6 b7 kx hw4 hw6 hw8 hbx bn8 lq kq
    go_upto_region 20 with (first
      | (rw [← HW6.out]; refine wpList_appR (o := ⟨some 122, _, _, _, _, _⟩) rfl _ _ rfl v5 (.slice (some ⟨w5.heap.size, 0, none⟩) 1 1) (.slice A7 n7 c7) w7 rfl rfl r7 ?_)
      | rw [← HW4.out]
      | (refine wpList_appR (o := ⟨some 119, _, _, _, _, _⟩) rfl _ _ rfl (.slice (some ⟨wq.heap.size, 0, none⟩) 0 0) (.slice A n c) v5 w5 rfl rfl r5 ?_))
    rw [← HW8.out]
    clear HW8 HW6 HW4 cx7 fz7 r5 r7 g14 g1
    obtain ⟨zb, Ab, nb, cb, Bb, mb, db, t0, t1, t2, hrb⟩ := HBx.out
    have hrt := Right_p _ _ w8 hrb (fit_pool HOk.out.fit (by rw [HId.out.2]; decide) (by have := HN.out; omega))
    rw [pool_moreB HOk.out HId.out.1] at hrt
    obtain ⟨t, ht⟩ : ∃ t, t = (!decide (id ∈ r.pool) && decide (r.pool.length < 24)) := ⟨_, rfl⟩
    rw [← ht] at hrt
    rw [← HBt.out, ← HN.out] at ht
    have HT := Lib.hid ht; have HRt := Lib.hid hrt
    clear ht hrt hrb
    go_wp2_with fail
    refine HRt.out.mono ?_
    rintro e w9 ⟨rfl, hb9⟩
    have L9 := Lib.hid (L8.out.trans (hb9.mono L8.out.size))
    have q1 := C1.out w9 L9.out
    have ht := HT.out
    clear hb9 HRt t0 t1 t2 HT
    cases b with
    | true =>
      obtain rfl : t = false := by rw [ht]; rfl
      clear ht
      go_wp2_with fail
      go_ret
      exact ⟨by simp, LA.out.trans (L9.out.mono LA.out.size)⟩
    | false =>
      by_cases h24 : n < 24
      · obtain rfl : t = true := by rw [ht]; simp [h24]
        have h24I : (n : Int) < 24 := by omega
        clear ht
        go_wp2_with fail
        go_ret
        exact ⟨by simp, LA.out.trans (L9.out.mono LA.out.size)⟩
      · obtain rfl : t = false := by rw [ht]; simp [h24]
        have h24I : ¬ (n : Int) < 24 := by omega
        clear ht
        go_wp2_with fail
        go_ret
        exact ⟨by first | (simp; done) | (simp; omega), LA.out.trans (L9.out.mono LA.out.size)⟩
end Go.Proofs.YtnboagmibhllpaaGreatDoor.Ro
