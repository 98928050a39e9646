/-
  RootTells, walked.
-/
import Derived.Test.YtnboagmibhllpaaGreatDoorOGrt
import Derived.Test.YtnboagmibhllpaaGreatDoorOSame
import Derived.Test.YtnboagmibhllpaaGreatDoorOLawP
import Derived.Test.YtnboagmibhllpaaGreatDoorOLawB
import Derived.Test.YtnboagmibhllpaaGreatDoorOTelP
import Derived.Test.YtnboagmibhllpaaGreatDoorODocA
import Derived.Test.YtnboagmibhllpaaGreatDoorODocB
import Derived.Test.YtnboagmibhllpaaGreatDoorODocR
import Derived.Test.YtnboagmibhllpaaGreatDoorODocP
import Derived.Test.YtnboagmibhllpaaGreatDoorODocI
namespace Go.Proofs.YtnboagmibhllpaaGreatDoor.Ro
open Go.Proofs.YtnboagmibhllpaaGreatDoor
open Go.Proofs.YtnboagmibhllpaaGreatDoor.Rf (BoolB Ref RefsR)
open Go Go.RowKit

theorem eqlBB (W : World) (b : Bool) : (binOp .eql 4 (.bool b) (.bool b)).run Tryz.prog W = .ok (.bool true) W := by cases b <;> simp [go_sem]
theorem eqlII (W : World) (z : Int) : (binOp .eql 3 (.int .i64 z) (.int .i64 z)).run Tryz.prog W = .ok (.bool true) W := by simp [go_sem]
theorem PutP_un {r : Rt} {w w' : World} {e : Ending} (h : PutP r w e w') : ∃ A n c, e = .returned (.tuple #[.slice A n c, .bool (rtB r)]) ∧ Rb w' (.slice A n c) (if rtB r then rootL r else []) ∧ Below w.heap.size w w' := by
  obtain ⟨hb, h⟩ := h
  rcases h with ⟨h1, A, n, c, h2, _, h4⟩ | ⟨h1, h2⟩
  · rw [rtB_iff.2 h1]; exact ⟨A, n, c, h2, h4, hb⟩
  · rw [rtB_no h1]; exact ⟨none, 0, 0, h2, .inl ⟨⟨_, rfl⟩, rfl⟩, hb⟩
/-- What was got, or nothing. -/
noncomputable def gotR (s : Bs) : Rt := (getO s).getD ⟨0, [], []⟩
theorem GetP_un {s : Bs} {w w' : World} {e : Ending} (h : GetP s w e w') : ∃ z A n c B m d, e = .returned (.tuple #[.agg #[.int .i64 z, .slice A n c, .slice B m d], .bool (getO s).isSome]) ∧ RtR w' (.agg #[.int .i64 z, .slice A n c, .slice B m d]) (gotR s) ∧ Below w.heap.size w w' := by
  obtain ⟨v, b, he, hb, h⟩ := h
  unfold gotR
  rcases h with ⟨r, h1, h2, h3⟩ | ⟨h1, h2, h3⟩
  · obtain ⟨A, c, B, d, rfl, _, _⟩ := h3.parts
    rw [h1]
    exact ⟨_, _, _, _, _, _, _, by rw [he, h2]; rfl, h3, hb⟩
  · rw [h1]
    subst h3 h2
    exact ⟨0, none, 0, 0, none, 0, 0, he, ⟨_, _, rfl, .inl ⟨⟨_, _, rfl⟩, rfl⟩, [], .inl ⟨⟨_, _, rfl⟩, rfl⟩, rfl, fun k x f hx => by simp at hx⟩, hb⟩
theorem got_fit {s : Bs} (_h : s.length ≤ 900000) : FitR (gotR s) := by
  unfold gotR
  cases h : getO s with
  | none =>
    show FitR ⟨0, [], []⟩
    exact ⟨fun x hx => absurd hx (by simp), by simp, fun f hf => absurd hf (by simp), by simp, by simp, by simp⟩
  | some r => exact (getO_iff.1 h).1.fit
set_option maxRecDepth 100000 in
set_option maxHeartbeats 8000000 in
theorem Tells_law {w : World} {E : ErA} (hp : PrA E w) (hT : Tb w) (v : Value) (r : Rt) (hv : RtR w v r) (hb : BigR r) (bv : Value) (bl : Bs) (hbl : bl.length ≤ maxLen) (hbv : Rb w bv bl) (s : Bs) (hs : s.length ≤ maxLen) : Calls Tryz.prog 3 #[v, bv, SV s] w (BoolB true w) := by
  obtain ⟨Ab, cb, rfl⟩ : ∃ A c, bv = .slice A bl.length c := by
    rcases hbv with ⟨⟨A, rfl⟩, rfl⟩ | ⟨g, o, c, rfl, _⟩
    · exact ⟨A, 0, rfl⟩
    · exact ⟨some ⟨g, o, none⟩, c, rfl⟩
  obtain ⟨nb, hnb⟩ : ∃ n, n = bl.length := ⟨_, rfl⟩
  rw [← hnb] at hbv ⊢
  unfold maxLen at hbl hs
  unfold SV
  obtain ⟨A, c, B, d, rfl, hpl, hk⟩ := hv.parts
  obtain ⟨n, hn⟩ : ∃ n, n = r.pool.length := ⟨_, rfl⟩
  obtain ⟨m, hm⟩ : ∃ m, m = r.forks.length := ⟨_, rfl⟩
  obtain ⟨z, hz⟩ : ∃ z, z = r.count := ⟨_, rfl⟩
  rw [← hn] at hpl
  rw [← hm] at hk
  rw [← hn, ← hm, ← hz] at hv ⊢
  obtain ⟨wa, hwa⟩ : ∃ y, y = w.alloc (.cells #[.int .i64 z, .slice A n c, .slice B m d] 25) := ⟨_, rfl⟩
  have la : Below w.heap.size w wa := by rw [hwa]; exact below_new _ _
  have sa : w.heap.size < wa.heap.size := by rw [hwa]; simp
  have ka : ∀ (i : Nat) (u : Value), (#[.int .i64 z, .slice A n c, .slice B m d] : Array Value)[i]? = some u → wa.cell? ⟨w.heap.size, i, none⟩ = some u := fun i u hi => by rw [hwa, cell_of_row _ _ _ _ _ _ (heap_alloc_new w _)]; exact hi
  have cA := fun (i : Nat) (u : Value) (hi : (#[.int .i64 z, .slice A n c, .slice B m d] : Array Value)[i]? = some u) => (show Hid (∀ W, Below wa.heap.size wa W → W.cell? ⟨w.heap.size, i, none⟩ = some u) from Lib.hid fun W h =>
    (h.cell (p := ⟨w.heap.size, i, none⟩) sa).trans (ka i u hi))
  have C0 := cA 0 _ rfl; have C1 := cA 1 _ rfl; have C2 := cA 2 _ rfl
  have HV := Lib.hid (hv.below la (Nat.le_refl _)); have HP := Lib.hid (RdK.below hpl la (Nat.le_refl _)); have HK := Lib.hid (hk.below la (Nat.le_refl _))
  have HBv := Lib.hid (hbv.below la (Nat.le_refl _)); have HNb := Lib.hid hnb
  have HPr := Lib.hid (hp.below la); have HTb := Lib.hid (Tb.below hT la)
  have HH := Lib.hid (head_p (hp.below la) (Tb.below hT la))
  have LA := Lib.hid la; have HW := Lib.hid hwa; have HN := Lib.hid hn; have HM := Lib.hid hm; have HB := Lib.hid hb
  clear hbv hnb hv hpl hk hp hT hn hm hz la sa ka cA hwa hb
  go_enter Tryz.func3, Tryz.ntmps3
  go_upto_region 1 with fail
  rw [← HW.out]
  clear HW
  go_wp2_with fail
  refine HH.out.mono ?_
  rintro e w1 ⟨rfl, hb1⟩
  have L1 := Lib.hid hb1
  have f0 := C0.out w1 hb1; have f1 := C1.out w1 hb1; have f2 := C2.out w1 hb1
  have HG := Lib.hid (OGreat_p (HV.out.below hb1 (Nat.le_refl _)) HB.out)
  clear hb1 HH
  go_wp2_with fail
  refine HG.out.mono ?_
  rintro e w2 ⟨g2, rfl, hb2, hg2⟩
  have L2 := Lib.hid (L1.out.trans (hb2.mono L1.out.size))
  clear HG f0 f1 f2
  cases g2 with
  | true =>
    clear hg2 hb2
    go_wp2_with fail
    go_ret
    exact ⟨rfl, LA.out.trans (L2.out.mono LA.out.size)⟩
  | false =>
  have HS := Lib.hid (hg2 rfl)
  have HF := Lib.hid (HS.out.fit HB.out)
  clear hg2 hb2
  by_cases h1000 : nb ≤ 20000
  case neg =>
    have hI : (20000 : Int) < (nb : Int) := by omega
    clear h1000
    go_wp2_with fail
    go_ret
    exact ⟨rfl, LA.out.trans (L2.out.mono LA.out.size)⟩
  have hI : ¬ (20000 : Int) < (nb : Int) := by omega
  obtain ⟨sl, hsl⟩ : ∃ n, s.length = n := ⟨_, rfl⟩
  by_cases h3000 : sl ≤ 3000
  case neg =>
    have hI3 : (3000 : Int) < (sl : Int) := by omega
    clear h1000 h3000
    go_wp2_with fail
    go_ret
    exact ⟨rfl, LA.out.trans (L2.out.mono LA.out.size)⟩
  have hI3 : ¬ (3000 : Int) < (sl : Int) := by omega
  have HBl : Hid (bl.length ≤ 900000) := Lib.hid (by rw [← HNb.out]; omega)
  have HSl : Hid (s.length ≤ maxLen) := Lib.hid (by unfold maxLen; omega)
  have HPt := Lib.hid (put_p r _ w2 (HV.out.below L2.out (Nat.le_refl _)) HF.out (Tb.below HTb.out L2.out))
  have f0 := C0.out w2 L2.out; have f1 := C1.out w2 L2.out; have f2 := C2.out w2 L2.out
  clear h1000 hbl h3000
  go_wp2_with fail
  refine HPt.out.mono ?_
  rintro e w3 h
  obtain ⟨Ax, nx, cx, rfl, hx, hb3⟩ := PutP_un h
  clear h
  have L3 := Lib.hid (L2.out.trans (hb3.mono L2.out.size))
  have HX3 := Lib.hid hx
  have HPt2 := Lib.hid (RPut10 r _ w3 (HV.out.below L3.out (Nat.le_refl _)) HF.out)
  clear f0 f1 f2 HPt hb3 hx
  have f0 := C0.out w3 L3.out; have f1 := C1.out w3 L3.out; have f2 := C2.out w3 L3.out
  go_wp2_with fail
  refine HPt2.out.mono ?_
  rintro e w4 h
  obtain ⟨Ay, ny, cy, rfl, hy, hb4⟩ := PutP_un h
  clear h
  have L4 := Lib.hid (L3.out.trans (hb4.mono L3.out.size))
  have HX4 := Lib.hid (HX3.out.below hb4 (Nat.le_refl _)); have HY4 := Lib.hid hy
  have HGx := Lib.hid (get_p (HPr.out.below L4.out) bl HBl.out HNb.out (HBv.out.below L4.out (Nat.le_refl _)))
  clear f0 f1 f2 HPt2 hb4 hy HX3
  go_wp2_with fail
  refine HGx.out.mono ?_
  rintro e w5 h
  obtain ⟨z1, A1, n1, c1, B1, m1, d1, rfl, hu, hb5⟩ := GetP_un h
  clear h
  obtain ⟨w6, hw6⟩ : ∃ y, y = w5.alloc (.cells #[.int .i64 z1, .slice A1 n1 c1, .slice B1 m1 d1] 25) := ⟨_, rfl⟩
  have l6 : Below w5.heap.size w5 w6 := by rw [hw6]; exact below_new _ _
  have U10 := Lib.hid (cells_new hw6 0 _ rfl); have U11 := Lib.hid (cells_new hw6 1 _ rfl); have U12 := Lib.hid (cells_new hw6 2 _ rfl)
  obtain ⟨bu, hbu⟩ : ∃ y, y = w5.heap.size := ⟨_, rfl⟩
  have l46 := hb5.trans (l6.mono hb5.size)
  have L6 := Lib.hid (L4.out.trans (l46.mono L4.out.size))
  have HX6 := Lib.hid (HX4.out.below l46 (Nat.le_refl _)); have HY6 := Lib.hid (HY4.out.below l46 (Nat.le_refl _)); have HU6 := Lib.hid (hu.below l6 (Nat.le_refl _))
  have HGy := Lib.hid (RGet10 bl w6 HBl.out HNb.out (HBv.out.below L6.out (Nat.le_refl _)))
  have HW6 := Lib.hid hw6
  clear HGx l46 l6 hb5 hu hw6 HX4 HY4
  go_upto_region 7 with fail
  rw [← HW6.out]
  clear HW6
  rw [← hbu] at U10 U11 U12 ⊢
  clear hbu
  go_wp2_with fail
  refine HGy.out.mono ?_
  rintro e w7 h
  obtain ⟨z2, A2, n2, c2, B2, m2, d2, rfl, hv2, hb7⟩ := GetP_un h
  clear h
  obtain ⟨w8, hw8⟩ : ∃ y, y = w7.alloc (.cells #[.int .i64 z2, .slice A2 n2 c2, .slice B2 m2 d2] 25) := ⟨_, rfl⟩
  have l8 : Below w7.heap.size w7 w8 := by rw [hw8]; exact below_new _ _
  have U20 := Lib.hid (cells_new hw8 0 _ rfl); have U21 := Lib.hid (cells_new hw8 1 _ rfl); have U22 := Lib.hid (cells_new hw8 2 _ rfl)
  obtain ⟨bv2, hbv2⟩ : ∃ y, y = w7.heap.size := ⟨_, rfl⟩
  have l68 := hb7.trans (l8.mono hb7.size)
  have Lb := Lib.hid (L6.out.trans (l68.mono L6.out.size))
  have V10 := Lib.hid (fun W (h : Below w8.heap.size w8 W) => U10.out W (l68.trans (h.mono l68.size)))
  have V11 := Lib.hid (fun W (h : Below w8.heap.size w8 W) => U11.out W (l68.trans (h.mono l68.size)))
  have V12 := Lib.hid (fun W (h : Below w8.heap.size w8 W) => U12.out W (l68.trans (h.mono l68.size)))
  obtain ⟨X, hX⟩ : ∃ y, y = (if rtB r then rootL r else []) := ⟨_, rfl⟩
  rw [← hX] at HX6 HY6
  have HX := Lib.hid (fun W (h : Below w8.heap.size w8 W) => HX6.out.below (l68.trans (h.mono l68.size)) (Nat.le_refl _))
  have HY := Lib.hid (fun W (h : Below w8.heap.size w8 W) => HY6.out.below (l68.trans (h.mono l68.size)) (Nat.le_refl _))
  have HU8 := HU6.out.below l68 (Nat.le_refl _)
  have HV8 := hv2.below l8 (Nat.le_refl _)
  have HSm := Lib.hid (fun W (h : Below w8.heap.size w8 W) => OSame_p (HU8.below h (Nat.le_refl _)) (HV8.below h (Nat.le_refl _)) (got_fit HBl.out))
  rw [eqR_yes rfl] at HSm
  have HR1 := Lib.hid (fun W (h : Below w8.heap.size w8 W) => Right_p r _ W (HV.out.below (Lb.out.trans (h.mono Lb.out.size)) (Nat.le_refl _)) HF.out)
  have HR2 := Lib.hid (fun W (h : Below w8.heap.size w8 W) => RRight10 r _ W (HV.out.below (Lb.out.trans (h.mono Lb.out.size)) (Nat.le_refl _)) HF.out)
  have HN1 : Hid (∀ W, Below w8.heap.size w8 W → Calls Tryz.prog 19 #[.string ⟨s.toArray⟩] W (BoolB (forkB s) W)) := Lib.hid fun W _ => (forkNamed_any s W HSl.out).mono fun e w' h => ⟨h.1, by rw [← h.2]; exact Below.refl _ _⟩
  have HN2 : Hid (∀ W, Below w8.heap.size w8 W → Calls Tryz.prog 20 #[.string ⟨s.toArray⟩] W (BoolB (forkB s) W)) := Lib.hid fun W _ => (RNamed10 s W HSl.out).mono fun e w' h => ⟨h.1, by rw [← h.2]; exact Below.refl _ _⟩
  have HF1 := Lib.hid (fun W (h : Below w8.heap.size w8 W) => Find_p r _ s W (HV.out.below (Lb.out.trans (h.mono Lb.out.size)) (Nat.le_refl _)) HF.out.flen)
  have HF2 := Lib.hid (fun W (h : Below w8.heap.size w8 W) => RFind10 r _ s W (HV.out.below (Lb.out.trans (h.mono Lb.out.size)) (Nat.le_refl _)) HF.out.flen)
  obtain ⟨fz, hfz⟩ : ∃ y, y = findF r.forks s := ⟨_, rfl⟩
  obtain ⟨rb, hrb⟩ : ∃ y, y = rtB r := ⟨_, rfl⟩
  obtain ⟨gb, hgb⟩ : ∃ y, y = (getO bl).isSome := ⟨_, rfl⟩
  rw [← hfz] at HF1 HF2
  rw [← hrb] at HR1 HR2 ⊢
  rw [← hgb]
  have LD : Hid (Below w8.heap.size w8 w8.drew) := Lib.hid (bdr (Below.refl _ _) 1)
  have HW8 := Lib.hid hw8
  clear hX hfz hrb hgb hw8 l8 l68 hb7 hv2 HU8 HV8 U10 U11 U12 HX6 HY6 HU6 HGy
  go_upto_region 8 with fail
  rw [← HW8.out]
  rw [← hbv2] at U20 U21 U22 ⊢
  clear HW8 hbv2
  refine AnyB.start (by kernel_rfl) ?_
  refine AnyB.take 0 (.bool true) rfl (by kernel_rfl) (by kernel_rfl) (by kernel_rfl) (fun _ _ _ h => h) (by kernel_rfl) (fun W hW => by kernel_rfl) ?_
  refine AnyB.take 1 (.bool true) rfl (by kernel_rfl) (by kernel_rfl) (by kernel_rfl) (fun _ _ _ h => h) (by kernel_rfl) (fun W hW => by kernel_rfl) ?_
  refine AnyB.take 2 (.agg #[.int .i64 z, .slice A n c, .slice B m d]) rfl (by kernel_rfl) (by kernel_rfl) (by kernel_rfl) (fun _ _ _ h => h) (by kernel_rfl) (fun W hW => y_load (sv := .pointer (some ⟨w.heap.size, 0, none⟩)) rfl (by kernel_rfl) (l_RtO W w.heap.size _ _ _ (C0.out W (Lb.out.trans (LD.out.trans (hW.mono LD.out.size) |>.mono Lb.out.size))) (C1.out W (Lb.out.trans (LD.out.trans (hW.mono LD.out.size) |>.mono Lb.out.size))) (C2.out W (Lb.out.trans (LD.out.trans (hW.mono LD.out.size) |>.mono Lb.out.size))))) ?_
  refine AnyB.take 4 (.agg #[.int .i64 z, .slice A n c, .slice B m d]) rfl (by kernel_rfl) (by kernel_rfl) (by kernel_rfl) (fun _ _ _ h => h) (by kernel_rfl) (fun W hW => y_load (sv := .pointer (some ⟨w.heap.size, 0, none⟩)) rfl (by kernel_rfl) (l_RtO W w.heap.size _ _ _ (C0.out W (Lb.out.trans (LD.out.trans (hW.mono LD.out.size) |>.mono Lb.out.size))) (C1.out W (Lb.out.trans (LD.out.trans (hW.mono LD.out.size) |>.mono Lb.out.size))) (C2.out W (Lb.out.trans (LD.out.trans (hW.mono LD.out.size) |>.mono Lb.out.size))))) ?_
  refine AnyB.call 3 16 #[.agg #[.int .i64 z, .slice A n c, .slice B m d]] (by kernel_rfl) rfl (by kernel_rfl) (by kernel_rfl) ?_
  refine (HR1.out _ LD.out).mono ?_
  rintro e w7 ⟨rfl, hb7⟩
  have LD1 := Lib.hid (LD.out.trans (hb7.mono LD.out.size))
  refine ⟨_, rfl, hb7, ?_⟩
  refine AnyB.call 5 17 #[.agg #[.int .i64 z, .slice A n c, .slice B m d]] (by kernel_rfl) rfl (by kernel_rfl) (by kernel_rfl) ?_
  refine (HR2.out _ LD1.out).mono ?_
  rintro e w7 ⟨rfl, hb7⟩
  have LD12 := Lib.hid (LD1.out.trans (hb7.mono LD1.out.size))
  refine ⟨_, rfl, hb7, ?_⟩
  refine AnyB.take 6 (.bool true) rfl (by kernel_rfl) (by kernel_rfl) (by kernel_rfl) (fun _ _ _ h => h) (by kernel_rfl) (fun W hW => y_bin (x := .bool rb) (y := .bool rb) rfl (by kernel_rfl) (by kernel_rfl) rfl (eqlBB W rb)) ?_
  refine AnyB.take 7 (.bool true) rfl (by kernel_rfl) (by kernel_rfl) (by kernel_rfl) (fun _ _ _ h => h) (by kernel_rfl) (fun W hW => by kernel_rfl) ?_
  refine AnyB.take 8 (.bool true) rfl (by kernel_rfl) (by kernel_rfl) (by kernel_rfl) (fun _ _ _ h => h) (by kernel_rfl) (fun W hW => by kernel_rfl) ?_
  refine AnyB.take 9 (.slice Ax nx cx) rfl (by kernel_rfl) (by kernel_rfl) (by kernel_rfl) (fun _ _ _ h => h) (by kernel_rfl) (fun W hW => by kernel_rfl) ?_
  refine AnyB.take 10 (.string ⟨X.toArray⟩) rfl (by kernel_rfl) (by kernel_rfl) (by kernel_rfl) (fun _ _ _ h => h) (by kernel_rfl) (fun W hW => y_conv rfl (by kernel_rfl) (Nu.Rb.conv (HX.out W (LD12.out.trans (hW.mono LD12.out.size))))) ?_
  refine AnyB.take 11 (.slice Ay ny cy) rfl (by kernel_rfl) (by kernel_rfl) (by kernel_rfl) (fun _ _ _ h => h) (by kernel_rfl) (fun W hW => by kernel_rfl) ?_
  refine AnyB.take 12 (.string ⟨X.toArray⟩) rfl (by kernel_rfl) (by kernel_rfl) (by kernel_rfl) (fun _ _ _ h => h) (by kernel_rfl) (fun W hW => y_conv rfl (by kernel_rfl) (Nu.Rb.conv (HY.out W (LD12.out.trans (hW.mono LD12.out.size))))) ?_
  refine AnyB.take 13 (.bool true) rfl (by kernel_rfl) (by kernel_rfl) (by kernel_rfl) (fun _ _ _ h => h) (by kernel_rfl) (fun W hW => y_bin (x := .string ⟨X.toArray⟩) (y := .string ⟨X.toArray⟩) rfl (by kernel_rfl) (by kernel_rfl) rfl (eq_sR W X X true (decide_eq_true rfl))) ?_
  refine AnyB.take 14 (.bool true) rfl (by kernel_rfl) (by kernel_rfl) (by kernel_rfl) (fun _ _ _ h => h) (by kernel_rfl) (fun W hW => by kernel_rfl) ?_
  refine AnyB.take 15 (.bool true) rfl (by kernel_rfl) (by kernel_rfl) (by kernel_rfl) (fun _ _ _ h => h) (by kernel_rfl) (fun W hW => by kernel_rfl) ?_
  refine AnyB.take 16 (.bool rb) rfl (by kernel_rfl) (by kernel_rfl) (by kernel_rfl) (fun _ _ _ h => h) (by kernel_rfl) (fun W hW => by kernel_rfl) ?_
  refine AnyB.take 17 (.bool rb) rfl (by kernel_rfl) (by kernel_rfl) (by kernel_rfl) (fun _ _ _ h => h) (by kernel_rfl) (fun W hW => by kernel_rfl) ?_
  refine AnyB.take 18 (.bool true) rfl (by kernel_rfl) (by kernel_rfl) (by kernel_rfl) (fun _ _ _ h => h) (by kernel_rfl) (fun W hW => y_bin (x := .bool rb) (y := .bool rb) rfl (by kernel_rfl) (by kernel_rfl) rfl (eqlBB W rb)) ?_
  refine AnyB.take 19 (.bool true) rfl (by kernel_rfl) (by kernel_rfl) (by kernel_rfl) (fun _ _ _ h => h) (by kernel_rfl) (fun W hW => by kernel_rfl) ?_
  refine AnyB.take 20 (.bool true) rfl (by kernel_rfl) (by kernel_rfl) (by kernel_rfl) (fun _ _ _ h => h) (by kernel_rfl) (fun W hW => by kernel_rfl) ?_
  refine AnyB.take 21 (.agg #[.int .i64 z1, .slice A1 n1 c1, .slice B1 m1 d1]) rfl (by kernel_rfl) (by kernel_rfl) (by kernel_rfl) (fun _ _ _ h => h) (by kernel_rfl) (fun W hW => y_load (sv := .pointer (some ⟨bu, 0, none⟩)) rfl (by kernel_rfl) (l_RtO W bu _ _ _ (V10.out W (LD12.out.trans (hW.mono LD12.out.size))) (V11.out W (LD12.out.trans (hW.mono LD12.out.size))) (V12.out W (LD12.out.trans (hW.mono LD12.out.size))))) ?_
  refine AnyB.take 22 (.agg #[.int .i64 z2, .slice A2 n2 c2, .slice B2 m2 d2]) rfl (by kernel_rfl) (by kernel_rfl) (by kernel_rfl) (fun _ _ _ h => h) (by kernel_rfl) (fun W hW => y_load (sv := .pointer (some ⟨bv2, 0, none⟩)) rfl (by kernel_rfl) (l_RtO W bv2 _ _ _ (U20.out W (LD12.out.trans (hW.mono LD12.out.size))) (U21.out W (LD12.out.trans (hW.mono LD12.out.size))) (U22.out W (LD12.out.trans (hW.mono LD12.out.size))))) ?_
  refine AnyB.call 23 18 #[.agg #[.int .i64 z1, .slice A1 n1 c1, .slice B1 m1 d1], .agg #[.int .i64 z2, .slice A2 n2 c2, .slice B2 m2 d2]] (by kernel_rfl) rfl (by kernel_rfl) (by kernel_rfl) ?_
  refine (HSm.out _ LD12.out).mono ?_
  rintro e w7 ⟨rfl, hb7⟩
  have LD123 := Lib.hid (LD12.out.trans (hb7.mono LD12.out.size))
  refine ⟨_, rfl, hb7, ?_⟩
  refine AnyB.take 24 (.bool true) rfl (by kernel_rfl) (by kernel_rfl) (by kernel_rfl) (fun _ _ _ h => h) (by kernel_rfl) (fun W hW => by kernel_rfl) ?_
  refine AnyB.take 25 (.bool true) rfl (by kernel_rfl) (by kernel_rfl) (by kernel_rfl) (fun _ _ _ h => h) (by kernel_rfl) (fun W hW => by kernel_rfl) ?_
  refine AnyB.take 26 (.bool gb) rfl (by kernel_rfl) (by kernel_rfl) (by kernel_rfl) (fun _ _ _ h => h) (by kernel_rfl) (fun W hW => by kernel_rfl) ?_
  refine AnyB.take 27 (.bool gb) rfl (by kernel_rfl) (by kernel_rfl) (by kernel_rfl) (fun _ _ _ h => h) (by kernel_rfl) (fun W hW => by kernel_rfl) ?_
  refine AnyB.take 28 (.bool true) rfl (by kernel_rfl) (by kernel_rfl) (by kernel_rfl) (fun _ _ _ h => h) (by kernel_rfl) (fun W hW => y_bin (x := .bool gb) (y := .bool gb) rfl (by kernel_rfl) (by kernel_rfl) rfl (eqlBB W gb)) ?_
  refine AnyB.take 29 (.bool true) rfl (by kernel_rfl) (by kernel_rfl) (by kernel_rfl) (fun _ _ _ h => h) (by kernel_rfl) (fun W hW => by kernel_rfl) ?_
  refine AnyB.take 30 (.bool true) rfl (by kernel_rfl) (by kernel_rfl) (by kernel_rfl) (fun _ _ _ h => h) (by kernel_rfl) (fun W hW => by kernel_rfl) ?_
  refine AnyB.take 31 (.string ⟨s.toArray⟩) rfl (by kernel_rfl) (by kernel_rfl) (by kernel_rfl) (fun _ _ _ h => h) (by kernel_rfl) (fun W hW => by kernel_rfl) ?_
  refine AnyB.take 33 (.string ⟨s.toArray⟩) rfl (by kernel_rfl) (by kernel_rfl) (by kernel_rfl) (fun _ _ _ h => h) (by kernel_rfl) (fun W hW => by kernel_rfl) ?_
  refine AnyB.call 32 19 #[.string ⟨s.toArray⟩] (by kernel_rfl) rfl (by kernel_rfl) (by kernel_rfl) ?_
  refine (HN1.out _ LD123.out).mono ?_
  rintro e w7 ⟨rfl, hb7⟩
  have LD1234 := Lib.hid (LD123.out.trans (hb7.mono LD123.out.size))
  refine ⟨_, rfl, hb7, ?_⟩
  refine AnyB.call 34 20 #[.string ⟨s.toArray⟩] (by kernel_rfl) rfl (by kernel_rfl) (by kernel_rfl) ?_
  refine (HN2.out _ LD1234.out).mono ?_
  rintro e w7 ⟨rfl, hb7⟩
  have LD12345 := Lib.hid (LD1234.out.trans (hb7.mono LD1234.out.size))
  refine ⟨_, rfl, hb7, ?_⟩
  refine AnyB.take 35 (.bool true) rfl (by kernel_rfl) (by kernel_rfl) (by kernel_rfl) (fun _ _ _ h => h) (by kernel_rfl) (fun W hW => y_bin (x := .bool (forkB s)) (y := .bool (forkB s)) rfl (by kernel_rfl) (by kernel_rfl) rfl (eqlBB W _)) ?_
  refine AnyB.take 36 (.bool true) rfl (by kernel_rfl) (by kernel_rfl) (by kernel_rfl) (fun _ _ _ h => h) (by kernel_rfl) (fun W hW => by kernel_rfl) ?_
  refine AnyB.take 37 (.bool true) rfl (by kernel_rfl) (by kernel_rfl) (by kernel_rfl) (fun _ _ _ h => h) (by kernel_rfl) (fun W hW => by kernel_rfl) ?_
  refine AnyB.take 38 (.agg #[.int .i64 z, .slice A n c, .slice B m d]) rfl (by kernel_rfl) (by kernel_rfl) (by kernel_rfl) (fun _ _ _ h => h) (by kernel_rfl) (fun W hW => y_load (sv := .pointer (some ⟨w.heap.size, 0, none⟩)) rfl (by kernel_rfl) (l_RtO W w.heap.size _ _ _ (C0.out W (Lb.out.trans (LD12345.out.trans (hW.mono LD12345.out.size) |>.mono Lb.out.size))) (C1.out W (Lb.out.trans (LD12345.out.trans (hW.mono LD12345.out.size) |>.mono Lb.out.size))) (C2.out W (Lb.out.trans (LD12345.out.trans (hW.mono LD12345.out.size) |>.mono Lb.out.size))))) ?_
  refine AnyB.take 39 (.string ⟨s.toArray⟩) rfl (by kernel_rfl) (by kernel_rfl) (by kernel_rfl) (fun _ _ _ h => h) (by kernel_rfl) (fun W hW => by kernel_rfl) ?_
  refine AnyB.take 41 (.agg #[.int .i64 z, .slice A n c, .slice B m d]) rfl (by kernel_rfl) (by kernel_rfl) (by kernel_rfl) (fun _ _ _ h => h) (by kernel_rfl) (fun W hW => y_load (sv := .pointer (some ⟨w.heap.size, 0, none⟩)) rfl (by kernel_rfl) (l_RtO W w.heap.size _ _ _ (C0.out W (Lb.out.trans (LD12345.out.trans (hW.mono LD12345.out.size) |>.mono Lb.out.size))) (C1.out W (Lb.out.trans (LD12345.out.trans (hW.mono LD12345.out.size) |>.mono Lb.out.size))) (C2.out W (Lb.out.trans (LD12345.out.trans (hW.mono LD12345.out.size) |>.mono Lb.out.size))))) ?_
  refine AnyB.take 42 (.string ⟨s.toArray⟩) rfl (by kernel_rfl) (by kernel_rfl) (by kernel_rfl) (fun _ _ _ h => h) (by kernel_rfl) (fun W hW => by kernel_rfl) ?_
  refine AnyB.call 40 21 #[.agg #[.int .i64 z, .slice A n c, .slice B m d], .string ⟨s.toArray⟩] (by kernel_rfl) rfl (by kernel_rfl) (by kernel_rfl) ?_
  refine (HF1.out _ LD12345.out).mono ?_
  rintro e w7 ⟨rfl, hb7⟩
  have LD123456 := Lib.hid (LD12345.out.trans (hb7.mono LD12345.out.size))
  refine ⟨_, rfl, hb7, ?_⟩
  refine AnyB.call 43 22 #[.agg #[.int .i64 z, .slice A n c, .slice B m d], .string ⟨s.toArray⟩] (by kernel_rfl) rfl (by kernel_rfl) (by kernel_rfl) ?_
  refine (HF2.out _ LD123456.out).mono ?_
  rintro e w7 ⟨rfl, hb7⟩
  have LD1234567 := Lib.hid (LD123456.out.trans (hb7.mono LD123456.out.size))
  refine ⟨_, rfl, hb7, ?_⟩
  refine AnyB.take 44 (.bool true) rfl (by kernel_rfl) (by kernel_rfl) (by kernel_rfl) (fun _ _ _ h => h) (by kernel_rfl) (fun W hW => y_bin (x := .int .i64 fz) (y := .int .i64 fz) rfl (by kernel_rfl) (by kernel_rfl) rfl (eqlII W fz)) ?_
  refine AnyB.take 45 (.bool true) rfl (by kernel_rfl) (by kernel_rfl) (by kernel_rfl) (fun _ _ _ h => h) (by kernel_rfl) (fun W hW => by kernel_rfl) ?_
  refine AnyB.take 46 (.bool true) rfl (by kernel_rfl) (by kernel_rfl) (by kernel_rfl) (fun _ _ _ h => h) (by kernel_rfl) (fun W hW => by kernel_rfl) ?_
  refine AnyB.done _ (by kernel_rfl) ?_
  go_simp
  have LE := Lib.hid (LA.out.trans ((Lb.out.trans (LD1234567.out.mono Lb.out.size)).mono LA.out.size))
  clear HR1 HR2 HSm HN1 HN2 HF1 HF2 HX HY C0 C1 C2 V10 V11 V12 U20 U21 U22
  go_wp2_with fail
  go_ret
  exact ⟨rfl, LE.out⟩
end Go.Proofs.YtnboagmibhllpaaGreatDoor.Ro
