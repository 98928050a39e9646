/-
  ObjectBack, walked.
-/
import Derived.Test.YtdkkeaaepebafaaGreatDoorNames
import Derived.Test.YtdkkeaaepebafaaGreatDoorSameC
import Derived.Test.YtdkkeaaepebafaaGreatDoorArgs
import Derived.Test.YtdkkeaaepebafaaGreatDoorOrdA
namespace Go.Proofs.YtdkkeaaepebafaaGreatDoor
open Go Go.RowKit Go.Shelf

/-- A commit's box, and a tag's, wherever nothing below has turned. -/
theorem two_boxes (w : World) (a0 a1 a2 a3 b0 b1 b2 b3 : Value) (W : World) (hW : Below ((w.alloc (.cells #[a0, a1, a2, a3] 40)).alloc (.cells #[b0, b1, b2, b3] 42)).heap.size ((w.alloc (.cells #[a0, a1, a2, a3] 40)).alloc (.cells #[b0, b1, b2, b3] 42)) W) :
    (W.cell? ⟨w.heap.size, 0, none⟩ = some a0 ∧ W.cell? ⟨w.heap.size, 1, none⟩ = some a1 ∧ W.cell? ⟨w.heap.size, 2, none⟩ = some a2 ∧ W.cell? ⟨w.heap.size, 3, none⟩ = some a3) ∧
    W.cell? ⟨w.heap.size + 1, 0, none⟩ = some b0 ∧ W.cell? ⟨w.heap.size + 1, 1, none⟩ = some b1 ∧ W.cell? ⟨w.heap.size + 1, 2, none⟩ = some b2 ∧ W.cell? ⟨w.heap.size + 1, 3, none⟩ = some b3 :=
  ⟨⟨(hW.cell (p := ⟨w.heap.size, 0, none⟩) (by simp; omega)).trans (by simp), (hW.cell (p := ⟨w.heap.size, 1, none⟩) (by simp; omega)).trans (by simp), (hW.cell (p := ⟨w.heap.size, 2, none⟩) (by simp; omega)).trans (by simp), (hW.cell (p := ⟨w.heap.size, 3, none⟩) (by simp; omega)).trans (by simp)⟩,
   (hW.cell (p := ⟨w.heap.size + 1, 0, none⟩) (by simp)).trans (by simp), (hW.cell (p := ⟨w.heap.size + 1, 1, none⟩) (by simp)).trans (by simp), (hW.cell (p := ⟨w.heap.size + 1, 2, none⟩) (by simp)).trans (by simp), (hW.cell (p := ⟨w.heap.size + 1, 3, none⟩) (by simp)).trans (by simp)⟩
/-- A commit's box alone. -/
theorem one_box (w : World) (a0 a1 a2 a3 : Value) (W : World) (hW : Below (w.alloc (.cells #[a0, a1, a2, a3] 40)).heap.size (w.alloc (.cells #[a0, a1, a2, a3] 40)) W) :
    W.cell? ⟨w.heap.size, 0, none⟩ = some a0 ∧ W.cell? ⟨w.heap.size, 1, none⟩ = some a1 ∧ W.cell? ⟨w.heap.size, 2, none⟩ = some a2 ∧ W.cell? ⟨w.heap.size, 3, none⟩ = some a3 :=
  ⟨(hW.cell (p := ⟨w.heap.size, 0, none⟩) (by simp)).trans (by simp), (hW.cell (p := ⟨w.heap.size, 1, none⟩) (by simp)).trans (by simp), (hW.cell (p := ⟨w.heap.size, 2, none⟩) (by simp)).trans (by simp), (hW.cell (p := ⟨w.heap.size, 3, none⟩) (by simp)).trans (by simp)⟩

theorem getT_small {s : List UInt8} {m : List Itm} (h : getT s = some m) : Smalls m ∧ m.length ≤ 256 ∧ rightT m = true ∧ putT m = s := by
  obtain ⟨h1, h2⟩ := getT_iff.1 h
  refine ⟨fun x hx => ?_, (rightT_parts.1 h1).1, h1, h2⟩
  obtain ⟨_, _, h3, h4⟩ := itemB_parts (rightT_items h1 x hx)
  have := part_len h3
  have := named_len64 h4
  omega
theorem rightC_small {c : Chg} (h : rightC c = true) (ht : c.text.length ≤ 100000) : SmallC c := by
  obtain ⟨h1, h2, h3, _, h5⟩ := rightC_parts.1 h
  have e1 := named_len64 h1
  have e3 : c.who.length ≤ 100 := by
    unfold whoB at h5
    simp only [Bool.and_eq_true, decide_eq_true_eq] at h5
    exact h5.2
  exact ⟨by omega, fun p hp => by have := named_len64 (h3 p hp); omega, by omega, ht⟩
theorem getC_small {s : List UInt8} {c : Chg} (h : getC s = some c) (hs : s.length ≤ 100000) : SmallC c ∧ rightC c = true ∧ putC c = s := by
  obtain ⟨h1, h2⟩ := getC_iff.1 h
  refine ⟨rightC_small h1 ?_, h1, h2⟩
  have e := congrArg List.length h2
  unfold putC at e
  simp only [List.length_append, List.length_cons] at e
  omega
theorem getL_small {s : List UInt8} {l : Lbl} (h : getL4 s = some l) (hs : s.length ≤ 100000) : SmallL l ∧ rightL l = true ∧ putL4 l = s := by
  obtain ⟨h1, h2⟩ := getL4_iff.1 h
  refine ⟨?_, h1, h2⟩
  have e := congrArg List.length h2
  unfold putL4 at e
  simp only [List.length_append, List.length_cons] at e
  exact ⟨by omega, by omega, by omega⟩
theorem smallC_of {c : Chg} (h : SmallChg c) : SmallC c := by
  obtain ⟨h1, h2, h3, _, h5⟩ := h
  exact ⟨by omega, fun p hp => by have := h5 p hp; omega, by omega, by omega⟩

set_option maxRecDepth 100000 in
set_option maxHeartbeats 16000000 in
theorem Back_law (w : World) (ho : Ob w) (v : Value) (l : List Itm) (hl : l.length ≤ lim) (hr : ItmsR w v l) (c : Chg) (vp : Value) (fc : FitC c) (hp : StrsR w vp c.parents) (t : Lbl) (ft : FitL t) (s : List UInt8) :
    Calls Tryz.prog 6 #[v, ChgV c vp, LblV t, SV s] w (RetBelow (.bool true) w) := by
  obtain ⟨A, ca, rfl⟩ := hr.shape
  obtain ⟨A2, ca2, rfl⟩ := hp.shape
  obtain ⟨w0, hw0⟩ : ∃ w0, w0 = (w.alloc (.cells #[.string ⟨c.tree.toArray⟩, .slice A2 c.parents.length ca2, .string ⟨c.who.toArray⟩, .string ⟨c.text.toArray⟩] 40)).alloc (.cells #[.string ⟨t.id.toArray⟩, .int .i64 t.kind, .string ⟨t.name.toArray⟩, .string ⟨t.text.toArray⟩] 42) := ⟨_, rfl⟩
  have B1 := below_new w (.cells #[.string ⟨c.tree.toArray⟩, .slice A2 c.parents.length ca2, .string ⟨c.who.toArray⟩, .string ⟨c.text.toArray⟩] 40)
  have B2 := B1.alloc B1.size (.cells #[.string ⟨t.id.toArray⟩, .int .i64 t.kind, .string ⟨t.name.toArray⟩, .string ⟨t.text.toArray⟩] 42)
  have hk := two_boxes w (.string ⟨c.tree.toArray⟩) (.slice A2 c.parents.length ca2) (.string ⟨c.who.toArray⟩) (.string ⟨c.text.toArray⟩) (.string ⟨t.id.toArray⟩) (.int .i64 t.kind) (.string ⟨t.name.toArray⟩) (.string ⟨t.text.toArray⟩)
  rw [← hw0] at B2 hk
  have hB : ∀ W, Below w0.heap.size w0 W → Below w.heap.size w W := fun W h => B2.trans (h.mono B2.size)
  have HK := Lib.hid hk; have HB := Lib.hid hB; have HW0 := Lib.hid hw0
  have HH := Lib.hid (head_any w0 (ho.below B2))
  have HG := Lib.hid (fun W (hW : Below w0.heap.size w0 W) => GreatItems_any (hr.below (hB W hW) (Nat.le_refl _)) hl)
  have HGC := Lib.hid (fun W (hW : Below w0.heap.size w0 W) => GreatChange_any (hp.below (hB W hW) (Nat.le_refl _)) fc.2.1)
  obtain ⟨rt, hrt⟩ : ∃ rt, rt = rightT l := ⟨_, rfl⟩
  obtain ⟨pt, hpt⟩ : ∃ pt, pt = if rightT l then putT l else [] := ⟨_, rfl⟩
  have HPT : Hid (SmallI l → ∀ W, Below w0.heap.size w0 W → Calls Tryz.prog 19 #[.slice A l.length ca] W (RetBelow (.tuple #[.string ⟨pt.toArray⟩, .bool rt]) W)) := Lib.hid fun hs W hW => by
    have h := PutTree_any l _ W (hr.below (hB W hW) (Nat.le_refl _)) (fun x hx => by have := hs.2 x hx; omega) (by have := hs.1; omega) (ho.below (hB W hW)).eb.er (ho.below (hB W hW)).tb
    unfold putTV SV at h
    rw [hpt, hrt]; exact h
  have HT : Hid (rt = true → getT pt = some l ∧ pt.length ≤ 40000) := Lib.hid fun h => by
    rw [hrt] at h
    rw [hpt, if_pos h]
    have := putT_len137 (rightT_items h)
    have := (rightT_parts.1 h).1
    exact ⟨getT_iff.2 ⟨h, rfl⟩, by omega⟩
  obtain ⟨rc, hrc⟩ : ∃ rc, rc = rightC c := ⟨_, rfl⟩
  obtain ⟨pc, hpc⟩ : ∃ pc, pc = if rightC c then putC c else [] := ⟨_, rfl⟩
  have HPC : Hid (SmallChg c → ∀ W, Below w0.heap.size w0 W → Calls Tryz.prog 25 #[.agg #[.string ⟨c.tree.toArray⟩, .slice A2 c.parents.length ca2, .string ⟨c.who.toArray⟩, .string ⟨c.text.toArray⟩]] W (RetBelow (.tuple #[.string ⟨pc.toArray⟩, .bool rc]) W)) := Lib.hid fun hs W hW => by
    have h := PutChange_any c _ W (hp.below (hB W hW) (Nat.le_refl _)) (smallC_of hs) (ho.below (hB W hW)).eb.er
    unfold putCV SV at h
    rw [hpc, hrc]; exact h
  have HC : Hid (rc = true → SmallChg c → getC pc = some c ∧ pc.length ≤ 40000) := Lib.hid fun h hs => by
    rw [hrc] at h
    rw [hpc, if_pos h]
    have := putC_len h
    have := hs.2.2.1
    exact ⟨getC_iff.2 ⟨h, rfl⟩, by omega⟩
  obtain ⟨rl, hrl⟩ : ∃ rl, rl = rightL t := ⟨_, rfl⟩
  obtain ⟨pl, hpl⟩ : ∃ pl, pl = if rightL t then putL4 t else [] := ⟨_, rfl⟩
  have HPL : Hid (SmallL t → ∀ W, Below w0.heap.size w0 W → Calls Tryz.prog 27 #[.agg #[.string ⟨t.id.toArray⟩, .int .i64 t.kind, .string ⟨t.name.toArray⟩, .string ⟨t.text.toArray⟩]] W (RetBelow (.tuple #[.string ⟨pl.toArray⟩, .bool rl]) W)) := Lib.hid fun hs W hW => by
    have h := PutLabel_any t W hs (ho.below (hB W hW)).eb.er
    unfold putLV SV at h
    rw [hpl, hrl]; exact h
  have HL : Hid (rl = true → t.text.length ≤ 9000 → getL4 pl = some t ∧ pl.length ≤ 40000) := Lib.hid fun h hs => by
    rw [hrl] at h
    rw [hpl, if_pos h]
    have := putL_len4 h
    exact ⟨getL4_iff.2 ⟨h, rfl⟩, by omega⟩
  have HGT : Hid (∀ x : List UInt8, x.length ≤ 100000 → ∀ W, Below w0.heap.size w0 W → Calls Tryz.prog 21 #[.string ⟨x.toArray⟩] W (GtPost (getT x) W)) := Lib.hid fun x hx W hW => GetTree_any x (by omega) W (ho.below (hB W hW)).eb.er (ho.below (hB W hW)).tb
  have HGCh : Hid (∀ x : List UInt8, x.length ≤ 100000 → ∀ W, Below w0.heap.size w0 W → Calls Tryz.prog 29 #[.string ⟨x.toArray⟩] W (GcPost (getC x) W)) := Lib.hid fun x hx W hW => GetChange_any x hx W (ho.below (hB W hW)).eb
  have HGL : Hid (∀ x : List UInt8, x.length ≤ 100000 → ∀ W, Below w0.heap.size w0 W → Calls Tryz.prog 31 #[.string ⟨x.toArray⟩] W (GlPost (getL4 x) W)) := Lib.hid fun x hx W hW => GetLabel_any x hx W (ho.below (hB W hW)).eb.er
  have HSI : Hid (l.length ≤ 300 → ∀ W u, Below w0.heap.size w0 W → ItmsR W u l → Calls Tryz.prog 23 #[u, .slice A l.length ca] W (RetBelow (.bool true) W)) := Lib.hid fun hs W u hW hu => by
    have h := SameItems_any hu (hr.below (hB W hW) (Nat.le_refl _)) (by omega)
    rw [decide_eq_true rfl] at h; exact h
  have HSC : Hid (SmallChg c → ∀ W u, Below w0.heap.size w0 W → StrsR W u c.parents → Calls Tryz.prog 33 #[.agg #[.string ⟨c.tree.toArray⟩, u, .string ⟨c.who.toArray⟩, .string ⟨c.text.toArray⟩], .agg #[.string ⟨c.tree.toArray⟩, .slice A2 c.parents.length ca2, .string ⟨c.who.toArray⟩, .string ⟨c.text.toArray⟩]] W (RetBelow (.bool true) W)) := Lib.hid fun hs W u hW hu => by
    have h := SameChange_any (c := c) (d := c) hu (hp.below (hB W hW) (Nat.le_refl _)) (by have := hs.2.2.2.1; omega)
    rw [decide_eq_true rfl] at h; exact h
  have HPTm : Hid (∀ W u (m : List Itm), Below w0.heap.size w0 W → ItmsR W u m → getT s = some m → Calls Tryz.prog 19 #[u] W (RetBelow (.tuple #[.string ⟨s.toArray⟩, .bool true]) W)) := Lib.hid fun W u m hW hu hm => by
    obtain ⟨g1, g2, g3, g4⟩ := getT_small hm
    have h := PutTree_any m u W hu g1 (by omega) (ho.below (hB W hW)).eb.er (ho.below (hB W hW)).tb
    rw [putTV_yes g3, g4] at h; exact h
  have HPCm : Hid (s.length ≤ 9000 → ∀ W u (m : Chg), Below w0.heap.size w0 W → StrsR W u m.parents → getC s = some m → Calls Tryz.prog 25 #[.agg #[.string ⟨m.tree.toArray⟩, u, .string ⟨m.who.toArray⟩, .string ⟨m.text.toArray⟩]] W (RetBelow (.tuple #[.string ⟨s.toArray⟩, .bool true]) W)) := Lib.hid fun hs W u m hW hu hm => by
    obtain ⟨g1, g3, g4⟩ := getC_small hm (by omega)
    have h := PutChange_any m u W hu g1 (ho.below (hB W hW)).eb.er
    rw [putCV_yes g3, g4] at h; exact h
  have HPLm : Hid (s.length ≤ 9000 → ∀ W (m : Lbl), Below w0.heap.size w0 W → getL4 s = some m → Calls Tryz.prog 27 #[.agg #[.string ⟨m.id.toArray⟩, .int .i64 m.kind, .string ⟨m.name.toArray⟩, .string ⟨m.text.toArray⟩]] W (RetBelow (.tuple #[.string ⟨s.toArray⟩, .bool true]) W)) := Lib.hid fun hs W m hW hm => by
    obtain ⟨g1, g3, g4⟩ := getL_small hm (by omega)
    have h := PutLabel_any m W g1 (ho.below (hB W hW)).eb.er
    rw [putLV_yes g3, g4] at h; exact h
  have f1 : t.id.length ≤ 140737488355328 := ft.1
  have f2 : t.name.length ≤ 140737488355328 := ft.2.1
  have f3 : t.text.length ≤ 140737488355328 := ft.2.2
  clear ho hr hl hp fc ft hrt hpt hrc hpc hrl hpl hB hk hw0 B1 B2
  unfold ChgV LblV SV
  go_enter Tryz.func6, Tryz.ntmps6
  go_wp2_with fail
  rw [← HW0.out]
  refine HH.out.mono ?_
  rintro e w1 ⟨rfl, l1⟩
  have L1 := Lib.hid l1
  obtain ⟨⟨q0, q1, q2, q3⟩, q4, q5, q6, q7⟩ := HK.out _ l1
  clear l1 HH
  go_wp2_with fail
  refine (HG.out _ L1.out).mono ?_
  rintro e w2 ⟨g, rfl, l2, hsm⟩
  have L2 := Lib.hid (L1.out.trans (l2.mono L1.out.size))
  clear l2 q0 q1 q2 q3 q4 q5 q6 q7
  cases g
  case true =>
    clear hsm
    go_wp2_with fail
    go_ret
    exact ⟨rfl, HB.out _ L2.out⟩
  have HS := Lib.hid (hsm rfl)
  obtain ⟨⟨q0, q1, q2, q3⟩, q4, q5, q6, q7⟩ := HK.out _ L2.out
  clear hsm HG L1
  go_wp2_with fail
  refine (HGC.out _ L2.out).mono ?_
  rintro e w3 ⟨g, rfl, l3, hsm⟩
  have L3 := Lib.hid (L2.out.trans (l3.mono L2.out.size))
  clear l3 q0 q1 q2 q3 q4 q5 q6 q7
  cases g
  case true =>
    clear hsm
    go_wp2_with fail
    go_ret
    exact ⟨rfl, HB.out _ L3.out⟩
  have HSc := Lib.hid (hsm rfl)
  clear hsm HGC L2
  by_cases h9 : 9000 < s.length
  · go_wp2_with fail
    go_ret
    exact ⟨rfl, HB.out _ L3.out⟩
  by_cases ht : 9000 < t.id.length + t.name.length + t.text.length
  · obtain ⟨⟨q0, q1, q2, q3⟩, q4, q5, q6, q7⟩ := HK.out _ L3.out
    go_wp2_with fail
    go_ret
    exact ⟨rfl, HB.out _ L3.out⟩
  have HSl : Hid (SmallL t) := Lib.hid ⟨by omega, by omega, by omega⟩
  have HTx : Hid (t.text.length ≤ 9000) := Lib.hid (by omega)
  obtain ⟨⟨q0, q1, q2, q3⟩, q4, q5, q6, q7⟩ := HK.out _ L3.out
  go_wp2_with fail
  refine (HPT.out HS.out _ L3.out).mono ?_
  rintro e w4 ⟨rfl, l4⟩
  have L4 := Lib.hid (L3.out.trans (l4.mono L3.out.size))
  clear l4 L3 HPT
  clear q0 q1 q2 q3 q4 q5 q6 q7
  go_upto_if 66 with fail
  go_cut [12, 13] from 67 to 79 (fun _a _b wx => Below w0.heap.size w0 wx)
  case first =>
    cases rt
    · go_wp2
      go_meet
      case rel => exact L4.out
    · obtain ⟨hg, hlen⟩ := HT.out rfl
      have hgt := HGT.out pt (by omega)
      rw [hg] at hgt
      have HGTm := Lib.hid hgt
      clear hg hgt hlen
      go_wp2_with fail
      refine (HGTm.out _ L4.out).mono ?_
      rintro e w5 ⟨⟨u, m, he, hr5, hm⟩, l5⟩
      rw [show m = l from hm] at hr5
      have HR5 := Lib.hid hr5
      obtain ⟨A5, c5, rfl⟩ := hr5.shape
      subst he
      have L5 := Lib.hid (L4.out.trans (l5.mono L4.out.size))
      clear hr5 hm l5
      go_wp2_with fail
      refine (HSI.out HS.out.1 _ _ L5.out HR5.out).mono ?_
      rintro e w6 ⟨rfl, l6⟩
      have L6 := Lib.hid (L5.out.trans (l6.mono L5.out.size))
      clear l6
      go_wp2
      go_meet
      case rel => exact L6.out
  case rest =>
    have L5 := Lib.hid hcut
    clear hcut L4 HT HSI
    obtain ⟨⟨q0, q1, q2, q3⟩, q4, q5, q6, q7⟩ := HK.out _ L5.out
    go_wp2_with fail
    refine (HPC.out HSc.out _ L5.out).mono ?_
    rintro e w4 ⟨rfl, l4⟩
    have L4 := Lib.hid (L5.out.trans (l4.mono L5.out.size))
    clear l4 L5 HPC
    clear q0 q1 q2 q3 q4 q5 q6 q7
    go_upto_if 85 with fail
    go_cut [16, 17] from 86 to 98 (fun _a _b wx => Below w0.heap.size w0 wx)
    case first =>
      cases rc
      · go_wp2
        go_meet
        case rel => exact L4.out
      · obtain ⟨hg, hlen⟩ := HC.out rfl HSc.out
        have hgt := HGCh.out pc (by omega)
        rw [hg] at hgt
        have HGTm := Lib.hid hgt
        clear hg hgt hlen
        go_wp2_with fail
        refine (HGTm.out _ L4.out).mono ?_
        rintro e w5 ⟨l5, c2, u, hr5, he, hc2⟩
        rw [show c2 = c from hc2] at hr5 he
        have HR5 := Lib.hid hr5
        obtain ⟨A5, c5, rfl⟩ := hr5.shape
        unfold ChgV at he
        subst he
        have L5 := Lib.hid (L4.out.trans (l5.mono L4.out.size))
        have L6 := Lib.hid (L5.out.alloc L5.out.size (.cells #[.string ⟨c.tree.toArray⟩, .slice A5 c.parents.length c5, .string ⟨c.who.toArray⟩, .string ⟨c.text.toArray⟩] 40))
        have HR6 := Lib.hid (HR5.out.below (below_new w5 (.cells #[.string ⟨c.tree.toArray⟩, .slice A5 c.parents.length c5, .string ⟨c.who.toArray⟩, .string ⟨c.text.toArray⟩] 40)) (Nat.le_refl _))
        obtain ⟨⟨q0, q1, q2, q3⟩, q4, q5, q6, q7⟩ := HK.out _ L6.out
        clear hr5 hc2 l5
        go_wp2_with fail
        refine (HSC.out HSc.out _ _ L6.out HR6.out).mono ?_
        rintro e w6 ⟨rfl, l6⟩
        have L7 := Lib.hid (L6.out.trans (l6.mono L6.out.size))
        clear l6
        clear q0 q1 q2 q3 q4 q5 q6 q7
        go_wp2
        go_meet
        case rel => exact L7.out
    case rest =>
      have L5 := Lib.hid hcut
      clear hcut L4 HC HSC
      obtain ⟨⟨q0, q1, q2, q3⟩, q4, q5, q6, q7⟩ := HK.out _ L5.out
      go_wp2_with fail
      refine (HPL.out HSl.out _ L5.out).mono ?_
      rintro e w4 ⟨rfl, l4⟩
      have L4 := Lib.hid (L5.out.trans (l4.mono L5.out.size))
      clear l4 L5 HPL
      clear q0 q1 q2 q3 q4 q5 q6 q7
      go_upto_if 104 with fail
      go_cut [20, 21] from 105 to 116 (fun _a _b wx => Below w0.heap.size w0 wx)
      case first =>
        cases rl
        · go_wp2
          go_meet
          case rel => exact L4.out
        · obtain ⟨hg, hlen⟩ := HL.out rfl HTx.out
          have hgt := HGL.out pl (by omega)
          rw [hg] at hgt
          have HGTm := Lib.hid hgt
          clear hg hgt hlen
          go_wp2_with fail
          refine (HGTm.out _ L4.out).mono ?_
          rintro e w5 ⟨l5, he⟩
          unfold LblV at he
          subst he
          have L5 := Lib.hid (L4.out.trans (l5.mono L4.out.size))
          have L6 := Lib.hid (L5.out.alloc L5.out.size (.cells #[.string ⟨t.id.toArray⟩, .int .i64 t.kind, .string ⟨t.name.toArray⟩, .string ⟨t.text.toArray⟩] 42))
          obtain ⟨⟨q0, q1, q2, q3⟩, q4, q5, q6, q7⟩ := HK.out _ L6.out
          clear l5
          go_wp2_with fail
          go_meet
          case rel => exact L6.out
      case rest =>
        have L5 := Lib.hid hcut
        clear hcut L4 HL
        have h9' : s.length ≤ 9000 := by omega
        have HGTm := Lib.hid (HGT.out s (by omega))
        have HGCm := Lib.hid (HGCh.out s (by omega))
        have HGLm := Lib.hid (HGL.out s (by omega))
        have HP2 := Lib.hid (HPCm.out h9')
        have HP3 := Lib.hid (HPLm.out h9')
        clear HGT HGCh HGL HPCm HPLm
        go_wp2_with fail
        refine (HGTm.out _ L5.out).mono ?_
        rintro e w6 ⟨⟨u, m, he, hr6, hm⟩, l6⟩
        have HR6 := Lib.hid hr6
        obtain ⟨A6, c6, rfl⟩ := hr6.shape
        have L6 := Lib.hid (L5.out.trans (l6.mono L5.out.size))
        have HM := Lib.hid hm
        subst he
        clear hr6 l6 hm HGTm L5
        go_wp2_with fail
        refine (HGCm.out _ L6.out).mono ?_
        rintro e w7 ⟨l7, d, vq, hr7, he, hd⟩
        have HR7 := Lib.hid hr7
        obtain ⟨A7, c7, rfl⟩ := hr7.shape
        have L7 := Lib.hid (L6.out.trans (l7.mono L6.out.size))
        have HR6' := Lib.hid (HR6.out.below l7 (Nat.le_refl _))
        have HD := Lib.hid hd
        unfold ChgV at he
        subst he
        clear hr7 l7 hd HGCm L6 HR6
        obtain ⟨dt, dp, dw, dx⟩ := d
        simp only at HR7 ⊢
        have L8 := Lib.hid (L7.out.alloc L7.out.size (.cells #[.string ⟨dt.toArray⟩, .slice A7 dp.length c7, .string ⟨dw.toArray⟩, .string ⟨dx.toArray⟩] 40))
        go_wp2_with fail
        refine (HGLm.out _ L8.out).mono ?_
        rintro e w8 ⟨l8, he⟩
        have HBx := Lib.hid (one_box w7 (.string ⟨dt.toArray⟩) (.slice A7 dp.length c7) (.string ⟨dw.toArray⟩) (.string ⟨dx.toArray⟩))
        obtain ⟨f, hf⟩ : ∃ f, f = (getL4 s).getD noLbl := ⟨_, rfl⟩
        rw [← hf] at he
        obtain ⟨fi, fk, fn, fx⟩ := f
        unfold LblV at he
        simp only at he
        subst he
        have HF := Lib.hid hf
        have hb8 := l8.alloc l8.size (.cells #[.string ⟨fi.toArray⟩, .int .i64 fk, .string ⟨fn.toArray⟩, .string ⟨fx.toArray⟩] 42)
        have LB8 := Lib.hid hb8
        have L9 := Lib.hid (L8.out.trans (hb8.mono L8.out.size))
        have B7 := below_new w7 (.cells #[.string ⟨dt.toArray⟩, .slice A7 dp.length c7, .string ⟨dw.toArray⟩, .string ⟨dx.toArray⟩] 40)
        have HR9 := Lib.hid (HR7.out.below (B7.trans (hb8.mono B7.size)) (Nat.le_refl _))
        have HI9 := Lib.hid (HR6'.out.below (B7.trans (hb8.mono B7.size)) (Nat.le_refl _))
        clear l8 hb8 hf HR7 HR6' L7 L8 HGLm B7
        cases h1 : getT s with
        | some m1 =>
          cases h2 : getC s with
          | some d2 => rw [(apart_C h2).1] at h1; cases h1
          | none =>
            cases h3 : getL4 s with
            | some f2 => rw [(apart_L h3).1] at h1; cases h1
            | none =>
              have hmm : m = m1 := by have := HM.out; rw [h1] at this; exact this
              have hcall := fun W hW hu => HPTm.out W (.slice A6 m.length c6) m hW hu (by rw [hmm]; exact h1)
              have HC1 := Lib.hid hcall
              clear hmm hcall h1 h2 h3 HP2 HP3 HPTm
              go_wp2_with fail
              refine (HC1.out _ L9.out HI9.out).mono ?_
              rintro e w9 ⟨rfl, l9⟩
              have L10 := Lib.hid (L9.out.trans (l9.mono L9.out.size))
              clear l9
              go_wp2_with fail
              go_ret
              exact ⟨rfl, HB.out _ L10.out⟩
        | none =>
          cases h2 : getC s with
          | some d2 =>
            have h3 := (apart_C h2).2
            have hcall := fun W hW hu => HP2.out W (.slice A7 dp.length c7) ⟨dt, dp, dw, dx⟩ hW hu (by rw [HD.out, h2]; rfl)
            have HC1 := Lib.hid hcall
            obtain ⟨r0, r1, r2, r3⟩ := HBx.out _ LB8.out
            simp only at HC1
            clear hcall h1 h2 HP2 HP3 HPTm
            rw [h3]
            clear h3
            go_wp2_with fail
            refine (HC1.out _ L9.out HR9.out).mono ?_
            rintro e w9 ⟨rfl, l9⟩
            have L10 := Lib.hid (L9.out.trans (l9.mono L9.out.size))
            clear l9 r0 r1 r2 r3
            go_wp2_with fail
            go_ret
            exact ⟨rfl, HB.out _ L10.out⟩
          | none =>
            cases h3 : getL4 s with
            | some f2 =>
              have hcall := fun W hW => HP3.out W ⟨fi, fk, fn, fx⟩ hW (by rw [HF.out, h3]; rfl)
              have HC1 := Lib.hid hcall
              simp only at HC1
              clear hcall h1 h2 h3 HP2 HP3 HPTm
              go_wp2_with fail
              refine (HC1.out _ L9.out).mono ?_
              rintro e w9 ⟨rfl, l9⟩
              have L10 := Lib.hid (L9.out.trans (l9.mono L9.out.size))
              clear l9
              go_wp2_with fail
              go_ret
              exact ⟨rfl, HB.out _ L10.out⟩
            | none =>
              clear h1 h2 h3 HP2 HP3 HPTm
              go_wp2_with fail
              go_ret
              exact ⟨rfl, HB.out _ L9.out⟩
end Go.Proofs.YtdkkeaaepebafaaGreatDoor
