/-
  ObjectChanges, walked.
-/
import Derived.Test.YtdkkeaaepebafaaGreatDoorRefG
namespace Go.Proofs.YtdkkeaaepebafaaGreatDoor
open Go Go.RowKit Go.Shelf

theorem getC_len (s : List UInt8) : ((getC s).getD noChg).parents.length ≤ 1000000 := by
  cases h : getC s with
  | none => simp [noChg]
  | some m => have := (rightC_parts.1 (getC_iff.1 h).1).2.1; show m.parents.length ≤ _; omega

/-- A tag's box alone. -/
theorem lbl_box (w : World) (a0 a1 a2 a3 : Value) (W : World) (hW : Below (w.alloc (.cells #[a0, a1, a2, a3] 42)).heap.size (w.alloc (.cells #[a0, a1, a2, a3] 42)) W) :
    W.cell? ⟨w.heap.size, 0, none⟩ = some a0 ∧ W.cell? ⟨w.heap.size, 1, none⟩ = some a1 ∧ W.cell? ⟨w.heap.size, 2, none⟩ = some a2 ∧ W.cell? ⟨w.heap.size, 3, none⟩ = some a3 :=
  ⟨(hW.cell (p := ⟨w.heap.size, 0, none⟩) (by simp)).trans (by simp), (hW.cell (p := ⟨w.heap.size, 1, none⟩) (by simp)).trans (by simp), (hW.cell (p := ⟨w.heap.size, 2, none⟩) (by simp)).trans (by simp), (hW.cell (p := ⟨w.heap.size, 3, none⟩) (by simp)).trans (by simp)⟩

set_option maxRecDepth 100000 in
set_option maxHeartbeats 16000000 in
theorem Changes_law (w : World) (ho : Ob w) (c : Chg) (vp : Value) (fc : FitC c) (hp : StrsR w vp c.parents) (t : Lbl) (ft : FitL t) (s : List UInt8) :
    Calls Tryz.prog 5 #[ChgV c vp, LblV t, SV s] w (RetBelow (.bool true) w) := by
  obtain ⟨A2, ca2, rfl⟩ := hp.shape
  obtain ⟨w0, hw0⟩ : ∃ w0, w0 = (w.alloc (.cells #[.string ⟨c.tree.toArray⟩, .slice A2 c.parents.length ca2, .string ⟨c.who.toArray⟩, .string ⟨c.text.toArray⟩] 40)).alloc (.cells #[.string ⟨t.id.toArray⟩, .int .i64 t.kind, .string ⟨t.name.toArray⟩, .string ⟨t.text.toArray⟩] 42) := ⟨_, rfl⟩
  have B1 := below_new w (.cells #[.string ⟨c.tree.toArray⟩, .slice A2 c.parents.length ca2, .string ⟨c.who.toArray⟩, .string ⟨c.text.toArray⟩] 40)
  have B2 := B1.alloc B1.size (.cells #[.string ⟨t.id.toArray⟩, .int .i64 t.kind, .string ⟨t.name.toArray⟩, .string ⟨t.text.toArray⟩] 42)
  have hk := two_boxes w (.string ⟨c.tree.toArray⟩) (.slice A2 c.parents.length ca2) (.string ⟨c.who.toArray⟩) (.string ⟨c.text.toArray⟩) (.string ⟨t.id.toArray⟩) (.int .i64 t.kind) (.string ⟨t.name.toArray⟩) (.string ⟨t.text.toArray⟩)
  rw [← hw0] at B2 hk
  have hB : ∀ W, Below w0.heap.size w0 W → Below w.heap.size w W := fun W h => B2.trans (h.mono B2.size)
  have HK := Lib.hid hk; have HB := Lib.hid hB; have HW0 := Lib.hid hw0
  have HH := Lib.hid (head_any w0 (ho.below B2))
  have HGC := Lib.hid (fun W (hW : Below w0.heap.size w0 W) => GreatChange_any (hp.below (hB W hW) (Nat.le_refl _)) fc.2.1)
  obtain ⟨rc, hrc⟩ : ∃ rc, rc = rightC c := ⟨_, rfl⟩
  obtain ⟨pc, hpc⟩ : ∃ pc, pc = if rightC c then putC c else [] := ⟨_, rfl⟩
  have HPC : Hid (SmallChg c → ∀ W, Below w0.heap.size w0 W → Calls Tryz.prog 25 #[.agg #[.string ⟨c.tree.toArray⟩, .slice A2 c.parents.length ca2, .string ⟨c.who.toArray⟩, .string ⟨c.text.toArray⟩]] W (RetBelow (.tuple #[.string ⟨pc.toArray⟩, .bool rc]) W)) := Lib.hid fun hs W hW => by
    have h := PutChange_any c _ W (hp.below (hB W hW) (Nat.le_refl _)) (smallC_of hs) (ho.below (hB W hW)).eb.er
    unfold putCV SV at h
    rw [hpc, hrc]; exact h
  have HRC : Hid (SmallChg c → ∀ W, Below w0.heap.size w0 W → Calls Tryz.prog 26 #[.agg #[.string ⟨c.tree.toArray⟩, .slice A2 c.parents.length ca2, .string ⟨c.who.toArray⟩, .string ⟨c.text.toArray⟩]] W (RetBelow (.tuple #[.string ⟨pc.toArray⟩, .bool rc]) W)) := Lib.hid fun hs W hW => by
    have h := RPutChange_any c _ W (hp.below (hB W hW) (Nat.le_refl _)) (smallC_of hs) (by have := hs.2.2.2.1; omega)
    unfold putCV SV at h
    rw [hpc, hrc]; exact h
  obtain ⟨rl, hrl⟩ : ∃ rl, rl = rightL t := ⟨_, rfl⟩
  obtain ⟨pl, hpl⟩ : ∃ pl, pl = if rightL t then putL4 t else [] := ⟨_, rfl⟩
  have HPL : Hid (SmallL t → ∀ W, Below w0.heap.size w0 W → Calls Tryz.prog 27 #[.agg #[.string ⟨t.id.toArray⟩, .int .i64 t.kind, .string ⟨t.name.toArray⟩, .string ⟨t.text.toArray⟩]] W (RetBelow (.tuple #[.string ⟨pl.toArray⟩, .bool rl]) W)) := Lib.hid fun hs W hW => by
    have h := PutLabel_any t W hs (ho.below (hB W hW)).eb.er
    unfold putLV SV at h
    rw [hpl, hrl]; exact h
  have HRL : Hid (SmallL t → ∀ W, Calls Tryz.prog 28 #[.agg #[.string ⟨t.id.toArray⟩, .int .i64 t.kind, .string ⟨t.name.toArray⟩, .string ⟨t.text.toArray⟩]] W (RetBelow (.tuple #[.string ⟨pl.toArray⟩, .bool rl]) W)) := Lib.hid fun hs W => by
    have h := RPutLabel_any t W hs
    unfold putLV SV at h
    rw [hpl, hrl]; exact h
  have HG1 : Hid (s.length ≤ 9000 → ∀ W, Below w0.heap.size w0 W → Calls Tryz.prog 29 #[.string ⟨s.toArray⟩] W (GcPost (getC s) W)) := Lib.hid fun hx W hW => GetChange_any s (by omega) W (ho.below (hB W hW)).eb
  have HG2 : Hid (s.length ≤ 9000 → ∀ W, Calls Tryz.prog 30 #[.string ⟨s.toArray⟩] W (GcPost (getC s) W)) := Lib.hid fun hx W => RGetChange_any s (by omega) W
  have HG3 : Hid (s.length ≤ 9000 → ∀ W, Below w0.heap.size w0 W → Calls Tryz.prog 31 #[.string ⟨s.toArray⟩] W (GlPost (getL4 s) W)) := Lib.hid fun hx W hW => GetLabel_any s (by omega) W (ho.below (hB W hW)).eb.er
  have HG4 : Hid (s.length ≤ 9000 → ∀ W, Calls Tryz.prog 32 #[.string ⟨s.toArray⟩] W (GlPost (getL4 s) W)) := Lib.hid fun hx W => RGetLabel_any s (by omega) W
  obtain ⟨d, hd⟩ : ∃ d, d = (getC s).getD noChg := ⟨_, rfl⟩
  have hdl := getC_len s
  rw [← hd] at hdl
  have HSC : Hid (∀ W u u', StrsR W u d.parents → StrsR W u' d.parents → Calls Tryz.prog 33 #[ChgV d u, ChgV d u'] W (RetBelow (.bool true) W)) := Lib.hid fun W u u' hu hu' => by
    have h := SameChange_any (c := d) (d := d) hu hu' hdl
    rw [decide_eq_true rfl] at h; exact h
  obtain ⟨f, hf⟩ : ∃ f, f = (getL4 s).getD noLbl := ⟨_, rfl⟩
  obtain ⟨gb, hgb⟩ : ∃ gb, gb = (getC s).isSome := ⟨_, rfl⟩
  obtain ⟨lb, hlb⟩ : ∃ lb, lb = (getL4 s).isSome := ⟨_, rfl⟩
  have HD := Lib.hid hd; have HF := Lib.hid hf; have HGB := Lib.hid hgb; have HLB := Lib.hid hlb
  have f1 : t.id.length ≤ 140737488355328 := ft.1
  have f2 : t.name.length ≤ 140737488355328 := ft.2.1
  have f3 : t.text.length ≤ 140737488355328 := ft.2.2
  clear ho hp fc ft hrc hpc hrl hpl hB hk hw0 B1 B2 hd hf hgb hlb hdl
  unfold ChgV LblV SV
  go_enter Tryz.func5, Tryz.ntmps5
  go_wp2_with fail
  rw [← HW0.out]
  refine HH.out.mono ?_
  rintro e w1 ⟨rfl, l1⟩
  have L1 := Lib.hid l1
  obtain ⟨⟨q0, q1, q2, q3⟩, q4, q5, q6, q7⟩ := HK.out _ l1
  clear l1 HH
  go_wp2_with fail
  refine (HGC.out _ L1.out).mono ?_
  rintro e w3 ⟨g, rfl, l3, hsm⟩
  have L3 := Lib.hid (L1.out.trans (l3.mono L1.out.size))
  clear l3 q0 q1 q2 q3 q4 q5 q6 q7
  cases g
  case true =>
    clear hsm
    go_wp2_with fail
    go_ret
    exact ⟨rfl, HB.out _ L3.out⟩
  have HSc := Lib.hid (hsm rfl)
  clear hsm HGC L1
  by_cases h9 : 9000 < s.length
  · go_wp2_with fail
    go_ret
    exact ⟨rfl, HB.out _ L3.out⟩
  obtain ⟨⟨q0, q1, q2, q3⟩, q4, q5, q6, q7⟩ := HK.out _ L3.out
  by_cases ht : 9000 < t.id.length + t.name.length + t.text.length
  · go_wp2_with fail
    go_ret
    exact ⟨rfl, HB.out _ L3.out⟩
  have HSl : Hid (SmallL t) := Lib.hid ⟨by omega, by omega, by omega⟩
  have H1 := Lib.hid (HG1.out (by omega)); have H2 := Lib.hid (HG2.out (by omega)); have H3 := Lib.hid (HG3.out (by omega)); have H4 := Lib.hid (HG4.out (by omega))
  clear HG1 HG2 HG3 HG4
  go_wp2_with fail
  refine (HPC.out HSc.out _ L3.out).mono ?_
  rintro e w4 ⟨rfl, l4⟩
  have L4 := Lib.hid (L3.out.trans (l4.mono L3.out.size))
  clear l4 L3 HPC q0 q1 q2 q3 q4 q5 q6 q7
  obtain ⟨⟨q0, q1, q2, q3⟩, -, -, -, -⟩ := HK.out _ L4.out
  go_wp2_with fail
  refine (HRC.out HSc.out _ L4.out).mono ?_
  rintro e w5 ⟨rfl, l5⟩
  have L5 := Lib.hid (L4.out.trans (l5.mono L4.out.size))
  clear l5 L4 HRC q0 q1 q2 q3
  obtain ⟨-, q4, q5, q6, q7⟩ := HK.out _ L5.out
  go_wp2_with fail
  refine (HPL.out HSl.out _ L5.out).mono ?_
  rintro e w6 ⟨rfl, l6⟩
  have L6 := Lib.hid (L5.out.trans (l6.mono L5.out.size))
  clear l6 L5 HPL q4 q5 q6 q7
  obtain ⟨-, q4, q5, q6, q7⟩ := HK.out _ L6.out
  go_wp2_with fail
  refine (HRL.out HSl.out _).mono ?_
  rintro e w7 ⟨rfl, l7⟩
  have L7 := Lib.hid (L6.out.trans (l7.mono L6.out.size))
  clear l7 L6 HRL q4 q5 q6 q7 HK
  obtain ⟨dt, dp, dw, dx⟩ := d
  obtain ⟨fi, fk, fn, fx⟩ := f
  have hsc := HSC.out
  unfold ChgV at hsc
  simp only at hsc
  have HSC2 := Lib.hid hsc
  clear hsc HSC
  cases rc
  all_goals
    cases rl
    all_goals
      go_wp2_with fail
      refine (H1.out _ L7.out).mono ?_
      rintro e w8 ⟨l8, c8, u8, hr8, he, hc8⟩
      rw [← HD.out] at hc8
      subst hc8
      rw [← HGB.out] at he
      obtain ⟨A8, k8, rfl⟩ := hr8.shape
      have HR8 := Lib.hid hr8
      have L8 := Lib.hid (L7.out.trans (l8.mono L7.out.size))
      unfold ChgV at he
      subst he
      clear hr8 l8
      have B8 := Lib.hid (below_new w8 (.cells #[.string ⟨dt.toArray⟩, .slice A8 dp.length k8, .string ⟨dw.toArray⟩, .string ⟨dx.toArray⟩] 40))
      have HO8 := Lib.hid (one_box w8 (.string ⟨dt.toArray⟩) (.slice A8 dp.length k8) (.string ⟨dw.toArray⟩) (.string ⟨dx.toArray⟩))
      simp only at HR8 ⊢
      go_wp2_with fail
      refine (H2.out _).mono ?_
      rintro e w9 ⟨l9, c9, u9, hr9, he, hc9⟩
      rw [← HD.out] at hc9
      subst hc9
      rw [← HGB.out] at he
      obtain ⟨A9, k9, rfl⟩ := hr9.shape
      unfold ChgV at he
      subst he
      have HR9 := Lib.hid hr9
      have M9 := Lib.hid l9
      have B9 := Lib.hid (l9.alloc l9.size (.cells #[.string ⟨dt.toArray⟩, .slice A9 dp.length k9, .string ⟨dw.toArray⟩, .string ⟨dx.toArray⟩] 40))
      have HO9 := Lib.hid (one_box w9 (.string ⟨dt.toArray⟩) (.slice A9 dp.length k9) (.string ⟨dw.toArray⟩) (.string ⟨dx.toArray⟩))
      have L9 := Lib.hid (L8.out.trans ((B8.out.trans (B9.out.mono B8.out.size)).mono L8.out.size))
      clear hr9 l9
      simp only at HR9 ⊢
      go_wp2_with fail
      refine (H3.out _ L9.out).mono ?_
      rintro e wa ⟨la, he⟩
      rw [← HF.out, ← HLB.out] at he
      unfold LblV at he
      simp only at he
      subst he
      have MA := Lib.hid (la.alloc la.size (.cells #[.string ⟨fi.toArray⟩, .int .i64 fk, .string ⟨fn.toArray⟩, .string ⟨fx.toArray⟩] 42))
      have BA := Lib.hid (below_new wa (.cells #[.string ⟨fi.toArray⟩, .int .i64 fk, .string ⟨fn.toArray⟩, .string ⟨fx.toArray⟩] 42))
      clear la
      go_wp2_with fail
      refine (H4.out _).mono ?_
      rintro e wb ⟨lb4, he⟩
      rw [← HF.out, ← HLB.out] at he
      unfold LblV at he
      simp only at he
      subst he
      have MB := Lib.hid (lb4.alloc lb4.size (.cells #[.string ⟨fi.toArray⟩, .int .i64 fk, .string ⟨fn.toArray⟩, .string ⟨fx.toArray⟩] 42))
      have HOA := Lib.hid (lbl_box wa (.string ⟨fi.toArray⟩) (.int .i64 fk) (.string ⟨fn.toArray⟩) (.string ⟨fx.toArray⟩) _ (MB.out))
      have HOB := Lib.hid (lbl_box wb (.string ⟨fi.toArray⟩) (.int .i64 fk) (.string ⟨fn.toArray⟩) (.string ⟨fx.toArray⟩))
      have N9 := MA.out.trans (MB.out.mono MA.out.size)
      obtain ⟨p0, p1, p2, p3⟩ := HO9.out _ N9
      have N8 := B9.out.trans (N9.mono B9.out.size)
      obtain ⟨o0, o1, o2, o3⟩ := HO8.out _ N8
      have NL := Lib.hid (L9.out.trans (N9.mono L9.out.size))
      have X8 := Lib.hid (HR8.out.below (B8.out.trans (N8.mono B8.out.size)) (Nat.le_refl _))
      have X9 := Lib.hid (HR9.out.below ((below_new w9 (.cells #[.string ⟨dt.toArray⟩, .slice A9 dp.length k9, .string ⟨dw.toArray⟩, .string ⟨dx.toArray⟩] 40)).trans (N9.mono (by simp))) (Nat.le_refl _))
      clear lb4 N8 N9
      go_wp2_with fail
      refine (HSC2.out _ _ _ X8.out X9.out).mono ?_
      rintro e wc ⟨rfl, lc⟩
      obtain ⟨r0, r1, r2, r3⟩ := HOA.out
      have r0 := cell_to r0 lc
      have r1 := cell_to r1 lc
      have r2 := cell_to r2 lc
      have r3 := cell_to r3 lc
      obtain ⟨s0, s1, s2, s3⟩ := HOB.out _ lc
      have NC := Lib.hid (NL.out.trans (lc.mono NL.out.size))
      clear lc o0 o1 o2 o3 p0 p1 p2 p3 HGB HLB HF
      cases gb
      all_goals
        cases lb
        all_goals
          go_wp2_with fail
          go_ret
          exact ⟨rfl, HB.out _ NC.out⟩
end Go.Proofs.YtdkkeaaepebafaaGreatDoor
