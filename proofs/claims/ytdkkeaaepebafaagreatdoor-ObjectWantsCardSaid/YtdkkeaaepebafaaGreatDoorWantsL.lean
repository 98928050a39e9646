/-
  ObjectWants, walked.
-/
import Derived.Test.YtdkkeaaepebafaaGreatDoorBack
namespace Go.Proofs.YtdkkeaaepebafaaGreatDoor
open Go Go.RowKit Go.Shelf

/-- What is asked of three wants' answers. -/
theorem wants_any2 {w W : World} (ho : Ob w) (hW : Below w.heap.size w W) (k : Int) (d : List UInt8) (hd : d.length ≤ 100000) : Calls Tryz.prog 16 #[.agg #[.int .i64 k, .string ⟨d.toArray⟩]] W (WsPost (wantsO k d) W) := Wants_any k d hd W (ho.below hW).eb (ho.below hW).tb
theorem wantI_two {x : Itm} : ((wantI x).2 == 2) = (x.mode == 3) := by
  unfold wantI
  by_cases h : x.mode = 3 <;> simp [h]

set_option maxRecDepth 100000 in
set_option maxHeartbeats 16000000 in
theorem Wants_law (w : World) (ho : Ob w) (v : Value) (l : List Itm) (hl : l.length ≤ lim) (hr : ItmsR w v l) (c : Chg) (vp : Value) (fc : FitC c) (hp : StrsR w vp c.parents) (t : Lbl) (ft : FitL t) :
    Calls Tryz.prog 9 #[v, ChgV c vp, LblV t] w (RetBelow (.bool true) w) := by
  obtain ⟨A, ca, rfl⟩ := hr.shape
  obtain ⟨A2, ca2, rfl⟩ := hp.shape
  obtain ⟨w0, hw0⟩ : ∃ w0, w0 = (w.alloc (.cells #[.string ⟨c.tree.toArray⟩, .slice A2 c.parents.length ca2, .string ⟨c.who.toArray⟩, .string ⟨c.text.toArray⟩] 40)).alloc (.cells #[.string ⟨t.id.toArray⟩, .int .i64 t.kind, .string ⟨t.name.toArray⟩, .string ⟨t.text.toArray⟩] 42) := ⟨_, rfl⟩
  have B1 := below_new w (.cells #[.string ⟨c.tree.toArray⟩, .slice A2 c.parents.length ca2, .string ⟨c.who.toArray⟩, .string ⟨c.text.toArray⟩] 40)
  have B2 := B1.alloc B1.size (.cells #[.string ⟨t.id.toArray⟩, .int .i64 t.kind, .string ⟨t.name.toArray⟩, .string ⟨t.text.toArray⟩] 42)
  have hk := two_boxes w (.string ⟨c.tree.toArray⟩) (.slice A2 c.parents.length ca2) (.string ⟨c.who.toArray⟩) (.string ⟨c.text.toArray⟩) (.string ⟨t.id.toArray⟩) (.int .i64 t.kind) (.string ⟨t.name.toArray⟩) (.string ⟨t.text.toArray⟩)
  rw [← hw0] at B2 hk
  have hB : ∀ W, Below w0.heap.size w0 W → Below w.heap.size w W := fun W h => B2.trans (h.mono B2.size)
  have HK := Lib.hid hk; have HB := Lib.hid hB; have HW0 := Lib.hid hw0
  have HH := Lib.hid (head_any w0 (ho.below B2))
  have HG := Lib.hid (fun W (hW : Below w0.heap.size w0 W) => GreatItems_any (hr.below (hB W hW) (Nat.le_refl _)) hl)
  have HGC := Lib.hid (fun W (hW : Below w0.heap.size w0 W) => GreatChange_any (hp.below (hB W hW) (Nat.le_refl _)) fc.2.1)
  obtain ⟨rt, hrt⟩ : ∃ rt, rt = rightT l := ⟨_, rfl⟩
  obtain ⟨pt, hpt⟩ : ∃ pt, pt = if rightT l then putT l else [] := ⟨_, rfl⟩
  have HPT : Hid (SmallI l → ∀ W, Below w0.heap.size w0 W → Calls Tryz.prog 19 #[.slice A l.length ca] W (RetBelow (.tuple #[.string ⟨pt.toArray⟩, .bool rt]) W)) := Lib.hid fun hs W hW => by
    have h := PutTree_any l _ W (hr.below (hB W hW) (Nat.le_refl _)) (fun x hx => by have := hs.2 x hx; omega) (by have := hs.1; omega) (ho.below (hB W hW)).eb.er (ho.below (hB W hW)).tb
    unfold putTV SV at h
    rw [hpt, hrt]; exact h
  have HT : Hid (rt = true → wantsO 2 pt = some (l.map wantI) ∧ pt.length ≤ 40000) := Lib.hid fun h => by
    rw [hrt] at h
    rw [hpt, if_pos h]
    have := putT_len137 (rightT_items h)
    have := (rightT_parts.1 h).1
    exact ⟨wants_putT h, by omega⟩
  obtain ⟨rc, hrc⟩ : ∃ rc, rc = rightC c := ⟨_, rfl⟩
  obtain ⟨pc, hpc⟩ : ∃ pc, pc = if rightC c then putC c else [] := ⟨_, rfl⟩
  have HPC : Hid (SmallChg c → ∀ W, Below w0.heap.size w0 W → Calls Tryz.prog 25 #[.agg #[.string ⟨c.tree.toArray⟩, .slice A2 c.parents.length ca2, .string ⟨c.who.toArray⟩, .string ⟨c.text.toArray⟩]] W (RetBelow (.tuple #[.string ⟨pc.toArray⟩, .bool rc]) W)) := Lib.hid fun hs W hW => by
    have h := PutChange_any c _ W (hp.below (hB W hW) (Nat.le_refl _)) (smallC_of hs) (ho.below (hB W hW)).eb.er
    unfold putCV SV at h
    rw [hpc, hrc]; exact h
  have HC : Hid (rc = true → SmallChg c → wantsO 3 pc = some (wantC c) ∧ pc.length ≤ 40000) := Lib.hid fun h hs => by
    rw [hrc] at h
    rw [hpc, if_pos h]
    have := putC_len h
    have := hs.2.2.1
    exact ⟨wants_putC h (by omega), by omega⟩
  obtain ⟨rl, hrl⟩ : ∃ rl, rl = rightL t := ⟨_, rfl⟩
  obtain ⟨pl, hpl⟩ : ∃ pl, pl = if rightL t then putL4 t else [] := ⟨_, rfl⟩
  have HPL : Hid (SmallL t → ∀ W, Below w0.heap.size w0 W → Calls Tryz.prog 27 #[.agg #[.string ⟨t.id.toArray⟩, .int .i64 t.kind, .string ⟨t.name.toArray⟩, .string ⟨t.text.toArray⟩]] W (RetBelow (.tuple #[.string ⟨pl.toArray⟩, .bool rl]) W)) := Lib.hid fun hs W hW => by
    have h := PutLabel_any t W hs (ho.below (hB W hW)).eb.er
    unfold putLV SV at h
    rw [hpl, hrl]; exact h
  have HL : Hid (rl = true → t.text.length ≤ 9000 → wantsO 4 pl = some (wantL t) ∧ pl.length ≤ 40000) := Lib.hid fun h hs => by
    rw [hrl] at h
    rw [hpl, if_pos h]
    have := putL_len4 h
    exact ⟨wants_putL h (by omega), by omega⟩
  have HTn : Hid (rt = false → pt = []) := Lib.hid fun h => by rw [hrt] at h; rw [hpt, h]; rfl
  have HCn : Hid (rc = false → pc = []) := Lib.hid fun h => by rw [hrc] at h; rw [hpc, h]; rfl
  have HLn : Hid (rl = false → pl = []) := Lib.hid fun h => by rw [hrl] at h; rw [hpl, h]; rfl
  have HWt : Hid (∀ (k : Int) (d : List UInt8), d.length ≤ 100000 → ∀ W, Below w0.heap.size w0 W → Calls Tryz.prog 16 #[.agg #[.int .i64 k, .string ⟨d.toArray⟩]] W (WsPost (wantsO k d) W)) := Lib.hid fun k d hd W hW => wants_any2 ho (hB W hW) k d hd
  have HR : Hid (∀ W, Below w0.heap.size w0 W → ItmsR W (.slice A l.length ca) l) := Lib.hid fun W hW => hr.below (hB W hW) (Nat.le_refl _)
  have HPr : Hid (∀ W, Below w0.heap.size w0 W → StrsR W (.slice A2 c.parents.length ca2) c.parents) := Lib.hid fun W hW => hp.below (hB W hW) (Nat.le_refl _)
  have f1 : t.id.length ≤ 140737488355328 := ft.1
  have f2 : t.name.length ≤ 140737488355328 := ft.2.1
  have f3 : t.text.length ≤ 140737488355328 := ft.2.2
  clear ho hr hl hp fc ft hrt hpt hrc hpc hrl hpl hB hk hw0 B1 B2
  unfold ChgV LblV
  go_enter Tryz.func9, Tryz.ntmps9
  go_wp2_with fail
  rw [← HW0.out]
  refine HH.out.mono ?_
  rintro e w1 ⟨rfl, l1⟩
  have L1 := Lib.hid l1
  obtain ⟨⟨q0, q1, q2, q3⟩, q4, q5, q6, q7⟩ := HK.out _ l1
  clear l1 HH
  go_wp2_with fail
  refine (HG.out _ L1.out).mono ?_
  rintro e w2 ⟨g, rfl, l2, hsm⟩
  have L2 := Lib.hid (L1.out.trans (l2.mono L1.out.size))
  clear l2 q0 q1 q2 q3 q4 q5 q6 q7
  cases g
  case true =>
    clear hsm
    go_wp2_with fail
    go_ret
    exact ⟨rfl, HB.out _ L2.out⟩
  have HS := Lib.hid (hsm rfl)
  obtain ⟨⟨q0, q1, q2, q3⟩, q4, q5, q6, q7⟩ := HK.out _ L2.out
  clear hsm HG L1
  go_wp2_with fail
  refine (HGC.out _ L2.out).mono ?_
  rintro e w3 ⟨g, rfl, l3, hsm⟩
  have L3 := Lib.hid (L2.out.trans (l3.mono L2.out.size))
  clear l3 q0 q1 q2 q3 q4 q5 q6 q7
  cases g
  case true =>
    clear hsm
    go_wp2_with fail
    go_ret
    exact ⟨rfl, HB.out _ L3.out⟩
  have HSc := Lib.hid (hsm rfl)
  clear hsm HGC L2
  by_cases ht : 9000 < t.id.length + t.name.length + t.text.length
  · obtain ⟨⟨q0, q1, q2, q3⟩, q4, q5, q6, q7⟩ := HK.out _ L3.out
    go_wp2_with fail
    go_ret
    exact ⟨rfl, HB.out _ L3.out⟩
  have HSl : Hid (SmallL t) := Lib.hid ⟨by omega, by omega, by omega⟩
  have HTx : Hid (t.text.length ≤ 9000) := Lib.hid (by omega)
  obtain ⟨⟨q0, q1, q2, q3⟩, q4, q5, q6, q7⟩ := HK.out _ L3.out
  go_wp2_with fail
  refine (HPT.out HS.out _ L3.out).mono ?_
  rintro e w4 ⟨rfl, l4⟩
  have L4 := Lib.hid (L3.out.trans (l4.mono L3.out.size))
  clear l4 L3 HPT
  clear q0 q1 q2 q3 q4 q5 q6 q7
  have hpl0 : pt.length ≤ 100000 := by
    cases rt
    · rw [HTn.out rfl]; simp
    · have := (HT.out rfl).2; omega
  have HW1 := Lib.hid (HWt.out 2 pt hpl0)
  clear hpl0
  go_wp2_with fail
  refine (HW1.out _ L4.out).mono ?_
  rintro e w5 ⟨l5, vw, rfl, hw5, _⟩
  obtain ⟨ws, hws⟩ : ∃ ws, ws = (wantsO 2 pt).getD [] := ⟨_, rfl⟩
  have hr5 : WantsR w5 vw ws := by rw [hws]; exact hw5
  obtain ⟨A5, c5, rfl⟩ := hr5.shape
  have HR5 := Lib.hid hr5
  have HWs := Lib.hid hws
  have L5 := Lib.hid (L4.out.trans (l5.mono L4.out.size))
  clear hw5 hr5 hws l5 L4 HW1
  go_upto_region 6 with fail
  go_cut [54] from 49 to 53 (fun t wx => t = .bool rt ∧ w5 = wx)
  case first =>
    cases rt
    · go_wp2
      go_meet
      case rel => exact ⟨rfl, rfl⟩
    · have hlen : decide ((pt.length : Int) ≤ 65536) = true := decide_eq_true (by have := (HT.out rfl).2; omega)
      go_wp2
      go_meet
      case rel => exact ⟨rfl, rfl⟩
  case rest =>
  obtain ⟨rfl, rfl⟩ := hcut
  go_upto_if 54 with fail
  go_cut [11] from 55 to 91 (fun _a wx => Below w0.heap.size w0 wx ∧ True)
  case first =>
    cases rt
    · go_wp2
      go_meet
      case rel => exact ⟨L5.out, trivial⟩
    · obtain ⟨hg, hlen⟩ := HT.out rfl
      have hwe : ws = l.map wantI := by rw [HWs.out, hg]; rfl
      have hwl : ws.length = l.length := by rw [hwe, List.length_map]
      have HE : Hid (∀ k, k < l.length → ws.getD k ([], 0) = wantI (l.getD k noItm)) := Lib.hid fun k hk => by
        rw [hwe, getD_elem _ _ _ (by rw [List.length_map]; exact hk), getD_elem _ _ _ hk, List.getElem_map]
      have h300 := HS.out.1
      have b0 : ((ws.length : Int) != (l.length : Int)) = false := by rw [hwl]; simp
      have HWl := Lib.hid hwl
      have h302 : ws.length ≤ 300 := by omega
      clear hg hwe hwl
      go_wp2_with fail
      clear b0
      go_loopw [11] (fun i wr => Below w5.heap.size w5 wr ∧ ∃ k : Nat, k ≤ l.length ∧ i = .int .i64 k) (fun i _ => l.length - (intOf i).toNat)
      case atStart => exact ⟨Below.refl _ _, 0, Nat.zero_le _, rfl⟩
      case round =>
        obtain ⟨hB, k, hk, rfl⟩ := hrel
        have hBB := L5.out.trans (hB.mono L5.out.size)
        by_cases hlt : k < l.length
        · obtain ⟨g, o, c', e, _, hg⟩ := (HR.out _ hBB).pos (by omega)
          cases e
          obtain ⟨p0, p1, p2⟩ := ItmsR.cells (HR.out _ hBB) k hlt
          obtain ⟨g', o', c'', e, _, hg'⟩ := (HR5.out.below hB (Nat.le_refl _)).pos (by have := HWl.out; omega)
          cases e
          have hkw : k < ws.length := by have := HWl.out; omega
          obtain ⟨r0, r1⟩ := WantsR.cells (HR5.out.below hB (Nat.le_refl _)) k hkw
          have htwo := wantI_two (x := l.getD k noItm)
          rw [HE.out k hlt] at r0 r1
          obtain ⟨x, hx⟩ : ∃ x, x = l.getD k noItm := ⟨_, rfl⟩
          rw [← hx] at p0 p1 p2 r0 r1 htwo
          obtain ⟨xm, xn, xi⟩ := x
          obtain ⟨z, hz⟩ : ∃ z, z = (wantI ⟨xm, xn, xi⟩).2 := ⟨_, rfl⟩
          rw [← hz] at r1 htwo
          have r0' : wr.cell? ⟨g', o' + k * 2, none⟩ = some (.string ⟨xi.toArray⟩) := r0
          unfold SV at p2
          simp only at p0 p2 htwo
          have HBB := Lib.hid hBB; have HB1 := Lib.hid hB
          clear r0 p1 hx hz hBB hB
          go_wp2_with fail
          go_quiet (fail)
          clear htwo
          go_wp2_with fail
          go_roundw
          case rel => exact ⟨below_drewN HB1.out _, k + 1, by omega, by go_num⟩
          case measure => simp [intOf]; omega
        · obtain rfl : k = l.length := by omega
          go_wp2_with fail
          go_meet
          case rel => exact ⟨hBB, trivial⟩
  case rest =>
    have L6 := Lib.hid hcut.1
    clear hcut L5 HR5 HWs HT HTn
    obtain ⟨⟨q0, q1, q2, q3⟩, q4, q5, q6, q7⟩ := HK.out _ L6.out
    go_wp2_with fail
    refine (HPC.out HSc.out _ L6.out).mono ?_
    rintro e w6 ⟨rfl, l6⟩
    have L7 := Lib.hid (L6.out.trans (l6.mono L6.out.size))
    clear l6 L6 HPC
    clear q0 q1 q2 q3 q4 q5 q6 q7
    have hpl0 : pc.length ≤ 100000 := by
      cases rc
      · rw [HCn.out rfl]; simp
      · have := (HC.out rfl HSc.out).2; omega
    have HW1 := Lib.hid (HWt.out 3 pc hpl0)
    clear hpl0
    go_wp2_with fail
    refine (HW1.out _ L7.out).mono ?_
    rintro e w5 ⟨l5, vw, rfl, hw5, _⟩
    obtain ⟨ws, hws⟩ : ∃ ws, ws = (wantsO 3 pc).getD [] := ⟨_, rfl⟩
    have hr5 : WantsR w5 vw ws := by rw [hws]; exact hw5
    obtain ⟨A5, c5, rfl⟩ := hr5.shape
    have HR5 := Lib.hid hr5
    have HWs := Lib.hid hws
    have L5 := Lib.hid (L7.out.trans (l5.mono L7.out.size))
    clear hw5 hr5 hws l5 L7 HW1
    go_upto_if 100 with fail
    go_cut [15] from 101 to 151 (fun _a wx => Below w0.heap.size w0 wx ∧ True)
    case first =>
      cases rc
      · go_wp2
        go_meet
        case rel => exact ⟨L5.out, trivial⟩
      · obtain ⟨hg, hlen⟩ := HC.out rfl HSc.out
        have hwe : ws = wantC c := by rw [HWs.out, hg]; rfl
        have hwl : ws.length = c.parents.length + 1 := by rw [hwe]; simp [wantC]
        have HE0 : Hid (ws.getD 0 ([], 0) = (c.tree, 2)) := Lib.hid (by rw [hwe]; rfl)
        have HE : Hid (∀ k, k < c.parents.length → ws.getD (k + 1) ([], 0) = (c.parents.getD k [], 3)) := Lib.hid fun k hk => by
          rw [hwe]
          unfold wantC
          rw [List.getD_cons_succ, getD_elem _ _ _ (by rw [List.length_map]; exact hk), getD_elem _ _ _ hk, List.getElem_map]
        have hcp := HSc.out.2.2.2.1
        have b0 : ((ws.length : Int) != 1 + (c.parents.length : Int)) = false := by rw [hwl]; simp; omega
        have hw0 : 0 < ws.length := by omega
        have hw9 : ws.length ≤ 9001 := by omega
        have HWl := Lib.hid hwl
        obtain ⟨g', o', c'', e, _, hg'⟩ := HR5.out.pos hw0
        cases e
        obtain ⟨s0, s1⟩ := WantsR.cells HR5.out 0 hw0
        rw [HE0.out] at s0 s1
        unfold SV at s0
        simp only [Nat.zero_mul, Nat.add_zero] at s0 s1
        obtain ⟨⟨q0, q1, q2, q3⟩, q4, q5, q6, q7⟩ := HK.out _ L5.out
        clear hg hwe hwl
        go_wp2_with fail
        go_quiet (fail)
        clear s0 s1 b0
        clear q0 q1 q2 q3 q4 q5 q6 q7
        go_wp2_with fail
        go_loopw [15] (fun i wr => Below w5.heap.size w5 wr ∧ ∃ k : Nat, k ≤ c.parents.length ∧ i = .int .i64 k) (fun i _ => c.parents.length - (intOf i).toNat)
        case atStart => exact ⟨below_drewN (Below.refl _ _) _, 0, Nat.zero_le _, rfl⟩
        case round =>
          obtain ⟨hB, k, hk, rfl⟩ := hrel
          have hBB := L5.out.trans (hB.mono L5.out.size)
          obtain ⟨⟨q0, q1, q2, q3⟩, -⟩ := HK.out _ hBB
          by_cases hlt : k < c.parents.length
          · obtain ⟨g, o, c', e, _, hg⟩ := (HPr.out _ hBB).pos (by omega)
            cases e
            have p0 := StrsR.cell (HPr.out _ hBB) k hlt
            have hkw : k + 1 < ws.length := by have := HWl.out; omega
            obtain ⟨r0, r1⟩ := WantsR.cells (HR5.out.below hB (Nat.le_refl _)) (k + 1) hkw
            rw [HE.out k hlt] at r0 r1
            obtain ⟨x, hx⟩ : ∃ x, x = c.parents.getD k [] := ⟨_, rfl⟩
            rw [← hx] at p0 r0
            unfold SV at p0 r0
            simp only at r0 r1 p0
            have e1 : IntKind.i64.wrap ((k : Int) + 1) = (k : Int) + 1 := IntWalk.i64_in _ (by omega)
            have hkI : (k : Int) + 1 < (ws.length : Int) := by omega
            have HBB := Lib.hid hBB; have HB1 := Lib.hid hB
            clear hx hBB hB q0 q2 q3
            go_wp2_with fail
            go_quiet (fail)
            clear r0 r1 p0 e1 hkI q1
            go_wp2_with fail
            go_roundw
            case rel => exact ⟨below_drewN HB1.out _, k + 1, by omega, by go_num⟩
            case measure => simp [intOf]; omega
          · obtain rfl : k = c.parents.length := by omega
            go_wp2_with fail
            go_meet
            case rel => exact ⟨hBB, trivial⟩
    case rest =>
      have L6 := Lib.hid hcut.1
      clear hcut L5 HR5 HWs HC HCn
      obtain ⟨⟨q0, q1, q2, q3⟩, q4, q5, q6, q7⟩ := HK.out _ L6.out
      go_wp2_with fail
      refine (HPL.out HSl.out _ L6.out).mono ?_
      rintro e w6 ⟨rfl, l6⟩
      have L7 := Lib.hid (L6.out.trans (l6.mono L6.out.size))
      clear l6 L6 HPL
      clear q0 q1 q2 q3 q4 q5 q6 q7
      have hpl0 : pl.length ≤ 100000 := by
        cases rl
        · rw [HLn.out rfl]; simp
        · have := (HL.out rfl HTx.out).2; omega
      have HW1 := Lib.hid (HWt.out 4 pl hpl0)
      clear hpl0
      go_wp2_with fail
      refine (HW1.out _ L7.out).mono ?_
      rintro e w7 ⟨l5, vw, he, hw5, _⟩
      have hr5 : WantsR w7 vw ((wantsO 4 pl).getD []) := hw5
      have L5 := Lib.hid (L7.out.trans (l5.mono L7.out.size))
      clear l5 L7 HW1 hw5
      cases rl
      · obtain ⟨A7, c7, hv⟩ := hr5.shape
        generalize ((wantsO 4 pl).getD []).length = n at hv
        subst hv he
        clear hr5
        go_wp2_with fail
        go_quiet (fail)
        go_wp2_with fail
        go_ret
        exact ⟨rfl, below_drewN (HB.out _ L5.out) _⟩
      · rw [(HL.out rfl HTx.out).1] at hr5
        have hr6 : WantsR w7 vw [(t.id, t.kind)] := hr5
        obtain ⟨g, o, c', hv, _, hg⟩ := hr6.pos (by simp)
        subst hv he
        obtain ⟨r0, r1⟩ := WantsR.cells hr6 0 (by simp)
        unfold SV at r0
        simp only [Nat.zero_mul, Nat.add_zero, List.getD_cons_zero] at r0 r1
        obtain ⟨⟨q0, q1, q2, q3⟩, q4, q5, q6, q7⟩ := HK.out _ L5.out
        clear hr5 hr6
        go_wp2_with fail
        go_quiet (fail)
        go_wp2_with fail
        go_ret
        exact ⟨rfl, below_drewN (HB.out _ L5.out) _⟩
end Go.Proofs.YtdkkeaaepebafaaGreatDoor
