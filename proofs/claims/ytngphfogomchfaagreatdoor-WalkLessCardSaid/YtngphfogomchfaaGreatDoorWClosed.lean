/-
  WalkClosed: a closure is closed.
-/
import Derived.Test.YtngphfogomchfaaGreatDoorC41
import Derived.Test.YtngphfogomchfaaGreatDoorC42
import Derived.Test.YtngphfogomchfaaGreatDoorC43

namespace Go.Proofs.YtngphfogomchfaaGreatDoor
open Go Go.RowKit Go.Maps

theorem th_mem {L : List Hld} {x : Bs} (h : thB L x = true) : ∃ u ∈ L, u.id = x := by
  obtain ⟨u, hu⟩ := thB_some.1 h
  exact ⟨u, findL_mem hu, findL_id hu⟩
theorem IsClo.few {L : List Hld} {tips a b : List Bs} (h : IsClo (wfL L) (thB L) tips a b) : a.length ≤ L.length := by
  rw [← List.length_map (f := Hld.id)]
  exact nodup_len h.ra.nodup fun x hx => by
    obtain ⟨u, hu, e⟩ := th_mem ((h.ma x).1 hx).2
    exact List.mem_map.2 ⟨u, hu, e⟩
theorem IsClo.in_ {wf : Bs → List (Bs × Int)} {th : Bs → Bool} {tips a b : List Bs} (h : IsClo wf th tips a b) {x : Bs} (hx : Reach wf tips x) : x ∈ a ∨ x ∈ b := by
  cases ht : th x
  · exact .inr ((h.mb x).2 ⟨hx, ht⟩)
  · exact .inl ((h.ma x).2 ⟨hx, ht⟩)
theorem rise_at {l : List Bs} (h : Rising l) {j k : Nat} (hk : k < l.length) (hj : j < k) : l.getD j [] < l.getD k [] := by
  rw [List.getD_eq_getElem?_getD, List.getD_eq_getElem?_getD, List.getElem?_eq_getElem hk, List.getElem?_eq_getElem (by omega)]
  exact List.pairwise_iff_getElem.1 h j k (by omega) hk hj
set_option maxHeartbeats 16000000 in
set_option maxRecDepth 100000 in
theorem Closed_law (w : World) (ho : Ob w) {v vt : Value} {l : List Hld} {tips : List Bs} (h : HldsR w v l) (hl : l.length ≤ limW) (h2 : StrsR w vt tips) (hl2 : tips.length ≤ limW) :
    Calls Tryz.prog 5 #[v, vt] w (RetBelow (.bool true) w) := by
  obtain ⟨A, c, rfl⟩ := h.shape
  obtain ⟨A2, c2, rfl⟩ := h2.shape
  have HH := Lib.hid (head_any ho); have HO := Lib.hid ho; have Hx := Lib.hid h; have Ht := Lib.hid h2; have Hl := Lib.hid hl; have Hl2 := Lib.hid hl2
  clear h h2 hl hl2 ho
  go_enter Tryz.func5, Tryz.ntmps5
  go_wp2_with fail
  refine HH.out.mono ?_
  rintro e w1 ⟨rfl, l9⟩
  have L1 := Lib.hid l9
  clear l9
  go_wp2_with fail
  refine (Great_any (Hx.out.below L1.out (Nat.le_refl _)) Hl.out).mono ?_
  rintro e w2 ⟨gr, rfl, l9, hg⟩
  have L2 := Lib.hid (L1.out.trans (l9.mono L1.out.size))
  clear l9
  cases gr with
  | true =>
    clear hg
    go_wp2_with fail
    go_ret
    exact ⟨rfl, L2.out⟩
  | false =>
  have HS := Lib.hid (hg rfl)
  clear hg
  go_wp2_with fail
  refine (GreatTexts_any (Ht.out.below L2.out (Nat.le_refl _)) Hl2.out).mono ?_
  rintro e w4 ⟨gr, rfl, l9, hg⟩
  have L4 := Lib.hid (L2.out.trans (l9.mono L2.out.size))
  clear l9
  cases gr with
  | true =>
    clear hg
    go_wp2_with fail
    go_ret
    exact ⟨rfl, L4.out⟩
  | false =>
  have HS2 := Lib.hid (hg rfl)
  clear hg
  go_wp2_with fail
  have hs := HS.out.1
  have hs2 := HS2.out.1
  refine (clo_small (Hx.out.below L4.out (Nat.le_refl _)) (Ht.out.below L4.out (Nat.le_refl _)) (HO.out.below L4.out) HS.out (smallT_len HS2.out).1 (smallT_len HS2.out).2).mono ?_
  rintro e w5 ⟨va, vb, a, b, rfl, ra, rb, hab, la, lb, l9⟩
  obtain ⟨Aa, ca, rfl⟩ := ra.shape
  obtain ⟨Ab, cb, rfl⟩ := rb.shape
  have L5 := Lib.hid (L4.out.trans (l9.mono L4.out.size)); have HRa := Lib.hid ra; have HRb := Lib.hid rb; have HAB := Lib.hid hab
  have HRt := Lib.hid (Ht.out.below L5.out (Nat.le_refl _)); have HRl := Lib.hid (Hx.out.below L5.out (Nat.le_refl _))
  have E0 : Hid (∀ s ∈ tips, s ∈ a ∨ s ∈ b) := Lib.hid fun s hs => HAB.out.in_ (.tip hs)
  have hal := HAB.out.few
  clear l9 ra rb hab
  go_wp2_with fail
  go_loop [8] (fun vi => ∃ k : Nat, k ≤ tips.length ∧ vi = .int .i64 k) (fun vi => tips.length - (intOf vi).toNat)
  case atStart => exact ⟨0, Nat.zero_le _, rfl⟩
  case round =>
    obtain ⟨k, hk, rfl⟩ := hrel
    by_cases hlt : k < tips.length
    · obtain ⟨g, o, c', e, _, hg⟩ := HRt.out.pos (by omega)
      cases e
      have p0 := StrsR.cell HRt.out k hlt
      have hm := E0.out _ (getD_mem tips [] k hlt)
      obtain ⟨s, hs⟩ : ∃ s, s = tips.getD k ([] : Bs) := ⟨_, rfl⟩
      rw [← hs] at p0 hm
      unfold SV at p0
      clear hs
      by_cases ha : s ∈ a
      · have HA := Lib.hid (has_yes HRa.out (by omega) ha)
        clear ha hm
        go_wp2_with fail
        refine HA.out.mono ?_
        rintro e w2 ⟨rfl, rfl⟩
        go_wp2_with fail
        go_round
        case rel => exact ⟨k + 1, hlt, by go_num⟩
        case measure => simp [intOf]; omega
      · have HA := Lib.hid (has_no HRa.out (by omega) ha); have HC := Lib.hid (has_yes HRb.out (by omega) (hm.resolve_left ha))
        clear ha hm
        go_wp2_with fail
        refine HA.out.mono ?_
        rintro e w2 ⟨rfl, rfl⟩
        go_wp2_with fail
        refine HC.out.mono ?_
        rintro e w2 ⟨rfl, rfl⟩
        go_wp2_with fail
        go_round
        case rel => exact ⟨k + 1, hlt, by go_num⟩
        case measure => simp [intOf]; omega
    obtain rfl : k = tips.length := by omega
    clear hk hlt
    go_wp2_with fail
    go_loopw [9] (fun vi wr => Hid (Below w5.heap.size w5 wr) ∧ ∃ k : Nat, k ≤ a.length ∧ vi = .int .i64 k) (fun vi _ => a.length - (intOf vi).toNat)
    case atStart => exact ⟨Lib.hid (Below.refl _ _), 0, Nat.zero_le _, rfl⟩
    case round =>
      obtain ⟨hB, k, hk, rfl⟩ := hrel
      by_cases hlt : k < a.length
      · obtain ⟨g, o, c', e, _, hg⟩ := HRa.out.pos (by omega)
        cases e
        have p0 := StrsR.cell (HRa.out.below hB.out (Nat.le_refl _)) k hlt
        have hm := (HAB.out.ma _).1 (getD_mem a [] k hlt)
        obtain ⟨j, hj⟩ : ∃ j, j = k - 1 := ⟨_, rfl⟩
        have hlo : 0 < k → a.getD j [] < a.getD k [] := fun h => rise_at HAB.out.ra hlt (by omega)
        have hq0 := fun hjl : j < a.length => StrsR.cell HRa.out j hjl
        obtain ⟨s, hs⟩ : ∃ s, s = a.getD k ([] : Bs) := ⟨_, rfl⟩
        obtain ⟨t, ht⟩ : ∃ t, t = a.getD j ([] : Bs) := ⟨_, rfl⟩
        rw [← hs] at p0 hm hlo
        rw [← ht] at hlo hq0
        unfold SV at p0 hq0
        obtain ⟨u, hu⟩ := thB_some.1 hm.2
        have hF := Find_any (HRl.out.below hB.out (Nat.le_refl _)) (by omega) s
        have hwf := wfL_some hu
        rw [show findV l s = .tuple #[.agg #[.int .i64 u.kind, .string ⟨u.data.toArray⟩], .bool true] by unfold findV thB; rw [hu]; rfl] at hF
        have hdl := (HS.out.2 u (findL_mem hu)).2
        obtain ⟨ui, q, d⟩ := u
        simp only at hF hwf hdl
        have HF := Lib.hid hF; have HWf := Lib.hid hwf; have HDl := Lib.hid hdl; have HM := Lib.hid hm; have HLo := Lib.hid hlo; have HQ0 := Lib.hid hq0; have HJ := Lib.hid hj
        have hHS := Lib.hid hs
        clear hF hwf hdl hm hu hs ht hlo hq0 hj
        go_wp2_with fail
        refine HF.out.mono ?_
        rintro e w6 ⟨rfl, b2⟩
        obtain ⟨w7, hw7⟩ : ∃ w7, w7 = w6.alloc (.cells #[.int .i64 q, .string ⟨d.toArray⟩] 30) := ⟨_, rfl⟩
        have hb7 := b2.alloc b2.size (.cells #[.int .i64 q, .string ⟨d.toArray⟩] 30)
        rw [← hw7] at hb7
        have hk7 : w7.heap[w6.heap.size]? = some (.cells #[.int .i64 q, .string ⟨d.toArray⟩] 30 (0, 0)) := by rw [hw7]; exact heap_alloc_new w6 _
        have q0 : w7.cell? ⟨w6.heap.size, 0, none⟩ = some (.int .i64 q) := (cell_of_row w7 _ 0 _ _ _ hk7).trans rfl
        have q1 : w7.cell? ⟨w6.heap.size, 1, none⟩ = some (.string ⟨d.toArray⟩) := (cell_of_row w7 _ 1 _ _ _ hk7).trans rfl
        have HW7 := Lib.hid hw7; have HB7 := Lib.hid (hB.out.trans (hb7.mono hB.out.size))
        have p0 := cell_to p0 hb7
        have HQ := Lib.hid (And.intro q0 q1)
        clear b2 hb7 hk7 hw7 q0 q1
        go_upto_region 14 with fail
        rw [← HW7.out]
        go_cut [87] from 70 to 87 (fun t wx => t = .bool false ∧ Hid (Below w7.heap.size w7 wx))
        case first =>
          by_cases hk0 : k = 0
          · subst hk0
            clear p0
            go_quiet (fail)
            go_wp2
            go_meet
            exact ⟨rfl, Lib.hid (below_drewN' (Below.refl _ _) _)⟩
          · have hkp : 0 < k := by omega
            have hjk : k = j + 1 := by have := HJ.out; omega
            have r0 := (HB7.out.cell (p := ⟨g, o + j, none⟩) (World.block_lt_of_cell? w5 _ (HQ0.out (by omega)))).trans (HQ0.out (by omega))
            have hle : Op.bytesLess t s = true := less_yes (HLo.out hkp)
            have hsub : IntKind.i64.wrap ((k : Int) - 1) = (j : Int) := by rw [show ((k : Int) - 1) = (j : Int) by omega]; exact IntWalk.i64_in _ (by omega)
            have hjl : j < a.length := by omega
            clear hjk
            refine AnyK.start w7.heap.size w7 (by kernel_rfl) ?_
            have LD := Lib.hid (show Below w7.heap.size w7 w7.drew from (Below.refl _ _).drew)
            generalize w7.drew = wd at LD ⊢
            refine AnyK.take 0 (.bool true) LD.out rfl (by kernel_rfl) (by kernel_rfl) (by kernel_rfl) (fun _ _ _ h => h) (by kernel_rfl) (fun W hW => by kernel_rfl) ?_
            refine AnyK.take 1 (.bool false) LD.out rfl (by kernel_rfl) (by kernel_rfl) (by kernel_rfl) (fun _ _ _ h => h) (by kernel_rfl) (fun W hW => by kernel_rfl) ?_
            refine AnyK.take 2 (.bool false) LD.out rfl (by kernel_rfl) (by kernel_rfl) (by kernel_rfl) (fun _ _ _ h => h) (by kernel_rfl) (fun W hW => by kernel_rfl) ?_
            refine AnyK.take 3 (.int .i64 (k : Int)) LD.out rfl (by kernel_rfl) (by kernel_rfl) (by kernel_rfl) (fun _ _ _ h => h) (by kernel_rfl) (fun W hW => by kernel_rfl) ?_
            refine AnyK.take 4 (.bool true) LD.out rfl (by kernel_rfl) (by kernel_rfl) (by kernel_rfl) (fun _ _ _ h => h) (by kernel_rfl) (fun W hW => y_bin (x := .int .i64 (k : Int)) (y := .int .i64 0) rfl (by kernel_rfl) (by kernel_rfl) rfl (gtrH W k hkp)) ?_
            refine AnyK.take 5 (.bool true) LD.out rfl (by kernel_rfl) (by kernel_rfl) (by kernel_rfl) (fun _ _ _ h => h) (by kernel_rfl) (fun W hW => by kernel_rfl) ?_
            refine AnyK.take 6 (.slice (some ⟨g, o, none⟩) a.length ca) LD.out rfl (by kernel_rfl) (by kernel_rfl) (by kernel_rfl) (fun _ _ _ h => h) (by kernel_rfl) (fun W hW => by kernel_rfl) ?_
            refine AnyK.take 7 (.int .i64 (k : Int)) LD.out rfl (by kernel_rfl) (by kernel_rfl) (by kernel_rfl) (fun _ _ _ h => h) (by kernel_rfl) (fun W hW => by kernel_rfl) ?_
            refine AnyK.take 8 (.int .i64 (j : Int)) LD.out rfl (by kernel_rfl) (by kernel_rfl) (by kernel_rfl) (fun _ _ _ h => h) (by kernel_rfl) (fun W hW => y_bin (x := .int .i64 (k : Int)) (y := .int .i64 1) rfl (by kernel_rfl) (by kernel_rfl) rfl (sub_i64 W _ _ _ hsub)) ?_
            refine AnyK.take 9 (.pointer (some ⟨g, o + j, none⟩)) LD.out rfl (by kernel_rfl) (by kernel_rfl) (by kernel_rfl) (fun _ _ _ h => h) (by kernel_rfl) (fun W hW => y_index (sv := .slice (some ⟨g, o, none⟩) a.length ca) (iv := .int .i64 (j : Int)) rfl (by kernel_rfl) (by kernel_rfl) (at_str W g o _ _ j hjl)) ?_
            refine AnyK.take 10 (.string ⟨t.toArray⟩) LD.out rfl (by kernel_rfl) (by kernel_rfl) (by kernel_rfl) (fun _ _ _ h => h) (by kernel_rfl) (fun W hW => y_load (sv := .pointer (some ⟨g, o + j, none⟩)) rfl (by kernel_rfl) (l_str W _ _ _ (cell_to r0 hW))) ?_
            refine AnyK.take 11 (.slice (some ⟨g, o, none⟩) a.length ca) LD.out rfl (by kernel_rfl) (by kernel_rfl) (by kernel_rfl) (fun _ _ _ h => h) (by kernel_rfl) (fun W hW => by kernel_rfl) ?_
            refine AnyK.take 12 (.int .i64 (k : Int)) LD.out rfl (by kernel_rfl) (by kernel_rfl) (by kernel_rfl) (fun _ _ _ h => h) (by kernel_rfl) (fun W hW => by kernel_rfl) ?_
            refine AnyK.take 13 (.pointer (some ⟨g, o + k, none⟩)) LD.out rfl (by kernel_rfl) (by kernel_rfl) (by kernel_rfl) (fun _ _ _ h => h) (by kernel_rfl) (fun W hW => y_index (sv := .slice (some ⟨g, o, none⟩) a.length ca) (iv := .int .i64 (k : Int)) rfl (by kernel_rfl) (by kernel_rfl) (at_str W g o _ _ k hlt)) ?_
            refine AnyK.take 14 (.string ⟨s.toArray⟩) LD.out rfl (by kernel_rfl) (by kernel_rfl) (by kernel_rfl) (fun _ _ _ h => h) (by kernel_rfl) (fun W hW => y_load (sv := .pointer (some ⟨g, o + k, none⟩)) rfl (by kernel_rfl) (l_str W _ _ _ (cell_to p0 hW))) ?_
            refine AnyK.take 15 (.bool false) LD.out rfl (by kernel_rfl) (by kernel_rfl) (by kernel_rfl) (fun _ _ _ h => h) (by kernel_rfl) (fun W hW => y_bin (x := .string ⟨t.toArray⟩) (y := .string ⟨s.toArray⟩) rfl (by kernel_rfl) (by kernel_rfl) rfl (ge_strH W _ _ hle)) ?_
            refine AnyK.take 16 (.bool false) LD.out rfl (by kernel_rfl) (by kernel_rfl) (by kernel_rfl) (fun _ _ _ h => h) (by kernel_rfl) (fun W hW => by kernel_rfl) ?_
            refine AnyK.take 17 (.bool false) LD.out rfl (by kernel_rfl) (by kernel_rfl) (by kernel_rfl) (fun _ _ _ h => h) (by kernel_rfl) (fun W hW => by kernel_rfl) ?_
            refine AnyK.done _ (by kernel_rfl) ?_
            go_simp
            go_wp2
            go_meet
            exact ⟨rfl, Lib.hid LD.out⟩
        case rest =>
        obtain ⟨rfl, hbc⟩ := hcut
        have q0 := cell_to HQ.out.1 hbc.out
        have q1 := cell_to HQ.out.2 hbc.out
        have HWa := Lib.hid (RWants_any q d (by have := HDl.out; omega) wc)
        have HBc := Lib.hid (HB7.out.trans (hbc.out.mono HB7.out.size))
        clear p0 hbc
        go_wp2_with fail
        refine HWa.out.mono ?_
        rintro e w8 ⟨b8, vw, rfl, hrw, hwl, -⟩
        rw [← HWf.out] at hrw hwl
        obtain ⟨Aw, cw, rfl⟩ := hrw.shape
        have B8 := HBc.out.trans (b8.mono HBc.out.size)
        have HB8 := Lib.hid B8; have HRw := Lib.hid hrw
        have HRa8 := Lib.hid (HRa.out.below B8 (Nat.le_refl _)); have HRb8 := Lib.hid (HRb.out.below B8 (Nat.le_refl _))
        have E8 : Hid (∀ p ∈ wfL l s, p.1 ∈ a ∨ p.1 ∈ b) := Lib.hid fun p hp => HAB.out.in_ (.want (k := p.2) HM.out.1 hp)
        obtain ⟨ws, hws⟩ : ∃ ws, ws = wfL l s := ⟨_, rfl⟩
        rw [← hws] at HRw E8 hwl ⊢
        clear hrw b8 B8 hws q0 q1
        go_wp2_with fail
        go_loop [13] (fun vi => ∃ k : Nat, k ≤ ws.length ∧ vi = .int .i64 k) (fun vi => ws.length - (intOf vi).toNat)
        case atStart => exact ⟨0, Nat.zero_le _, rfl⟩
        case round =>
          obtain ⟨j, hj, rfl⟩ := hrel
          by_cases hjl : j < ws.length
          · obtain ⟨g2, o2, c3, e, _, hg2⟩ := HRw.out.pos (by omega)
            cases e
            obtain ⟨r0, r1⟩ := WantsR.cells HRw.out j hjl
            have hm := E8.out _ (getD_mem ws ([], 0) j hjl)
            obtain ⟨y, hy⟩ : ∃ y, y = ws.getD j ([], 0) := ⟨_, rfl⟩
            rw [← hy] at r0 r1 hm
            obtain ⟨yi, yk⟩ := y
            unfold SV at r0
            simp only at r0 r1 hm
            clear hy
            by_cases ha : yi ∈ a
            · have HA := Lib.hid (has_yes HRa8.out (by omega) ha)
              clear ha hm
              go_wp2_with fail
              refine HA.out.mono ?_
              rintro e w9 ⟨rfl, rfl⟩
              go_wp2_with fail
              go_round
              case rel => exact ⟨j + 1, hjl, by go_num⟩
              case measure => simp [intOf]; omega
            · have HA := Lib.hid (has_no HRa8.out (by omega) ha); have HC := Lib.hid (has_yes HRb8.out (by omega) (hm.resolve_left ha))
              clear ha hm
              go_wp2_with fail
              refine HA.out.mono ?_
              rintro e w9 ⟨rfl, rfl⟩
              go_wp2_with fail
              refine HC.out.mono ?_
              rintro e w9 ⟨rfl, rfl⟩
              go_wp2_with fail
              go_round
              case rel => exact ⟨j + 1, hjl, by go_num⟩
              case measure => simp [intOf]; omega
          obtain rfl : j = ws.length := by omega
          clear hj hjl
          go_wp2_with fail
          go_roundw
          case rel => exact ⟨HB8, k + 1, hlt, by go_num⟩
          case measure => simp [intOf]; omega
      obtain rfl : k = a.length := by omega
      have HBa := hB
      clear hk hlt hB
      go_wp2_with fail
      go_loopw [14] (fun vi wr => Hid (Below w5.heap.size w5 wr) ∧ ∃ k : Nat, k ≤ b.length ∧ vi = .int .i64 k) (fun vi _ => b.length - (intOf vi).toNat)
      case atStart => exact ⟨HBa, 0, Nat.zero_le _, rfl⟩
      case round =>
        obtain ⟨hB, k, hk, rfl⟩ := hrel
        by_cases hlt : k < b.length
        · obtain ⟨g, o, c', e, _, hg⟩ := HRb.out.pos (by omega)
          cases e
          have p0 := StrsR.cell (HRb.out.below hB.out (Nat.le_refl _)) k hlt
          have hm := (HAB.out.mb _).1 (getD_mem b [] k hlt)
          obtain ⟨j, hj⟩ : ∃ j, j = k - 1 := ⟨_, rfl⟩
          have hlo : 0 < k → b.getD j [] < b.getD k [] := fun h => rise_at HAB.out.rb hlt (by omega)
          have hq0 := fun hjl : j < b.length => StrsR.cell HRb.out j hjl
          obtain ⟨s, hs⟩ : ∃ s, s = b.getD k ([] : Bs) := ⟨_, rfl⟩
          obtain ⟨t, ht⟩ : ∃ t, t = b.getD j ([] : Bs) := ⟨_, rfl⟩
          rw [← hs] at p0 hm hlo
          rw [← ht] at hlo hq0
          unfold SV at p0 hq0
          have hF := Find_any (HRl.out.below hB.out (Nat.le_refl _)) (by omega) s
          have hno : findL l s = none := by
            have := hm.2
            unfold thB at this
            cases hq : findL l s with
            | none => rfl
            | some u => rw [hq] at this; cases this
          rw [show findV l s = .tuple #[.agg #[.int .i64 0, .string ⟨#[]⟩], .bool false] by unfold findV thB; rw [hno]; rfl] at hF
          have HF := Lib.hid hF; have HLo := Lib.hid hlo; have HQ0 := Lib.hid hq0; have HJ := Lib.hid hj
          clear hF hm hs ht hlo hq0 hj hno
          go_wp2_with fail
          refine HF.out.mono ?_
          rintro e w6 ⟨rfl, b2⟩
          obtain ⟨w7, hw7⟩ : ∃ w7, w7 = w6.alloc (.cells #[.int .i64 0, .string ⟨#[]⟩] 30) := ⟨_, rfl⟩
          have hb7 := b2.alloc b2.size (.cells #[.int .i64 0, .string ⟨#[]⟩] 30)
          rw [← hw7] at hb7
          have HW7 := Lib.hid hw7; have HB7 := Lib.hid (hB.out.trans (hb7.mono hB.out.size))
          have p0 := cell_to p0 hb7
          clear b2 hb7 hw7
          go_upto_region 26 with fail
          rw [← HW7.out]
          go_cut [145] from 129 to 145 (fun t wx => t = .bool false ∧ Hid (Below w7.heap.size w7 wx))
          case first =>
            by_cases hk0 : k = 0
            · subst hk0
              clear p0
              go_quiet (fail)
              go_wp2
              go_meet
              exact ⟨rfl, Lib.hid (below_drewN' (Below.refl _ _) _)⟩
            · have hkp : 0 < k := by omega
              have hjk : k = j + 1 := by have := HJ.out; omega
              have r0 := (HB7.out.cell (p := ⟨g, o + j, none⟩) (World.block_lt_of_cell? w5 _ (HQ0.out (by omega)))).trans (HQ0.out (by omega))
              have hle : Op.bytesLess t s = true := less_yes (HLo.out hkp)
              have hsub : IntKind.i64.wrap ((k : Int) - 1) = (j : Int) := by rw [show ((k : Int) - 1) = (j : Int) by omega]; exact IntWalk.i64_in _ (by omega)
              have hjl : j < b.length := by omega
              clear hjk
              refine AnyK.start w7.heap.size w7 (by kernel_rfl) ?_
              have LD := Lib.hid (show Below w7.heap.size w7 w7.drew from (Below.refl _ _).drew)
              generalize w7.drew = wd at LD ⊢
              refine AnyK.take 0 (.bool false) LD.out rfl (by kernel_rfl) (by kernel_rfl) (by kernel_rfl) (fun _ _ _ h => h) (by kernel_rfl) (fun W hW => by kernel_rfl) ?_
              refine AnyK.take 1 (.bool false) LD.out rfl (by kernel_rfl) (by kernel_rfl) (by kernel_rfl) (fun _ _ _ h => h) (by kernel_rfl) (fun W hW => by kernel_rfl) ?_
              refine AnyK.take 2 (.int .i64 (k : Int)) LD.out rfl (by kernel_rfl) (by kernel_rfl) (by kernel_rfl) (fun _ _ _ h => h) (by kernel_rfl) (fun W hW => by kernel_rfl) ?_
              refine AnyK.take 3 (.bool true) LD.out rfl (by kernel_rfl) (by kernel_rfl) (by kernel_rfl) (fun _ _ _ h => h) (by kernel_rfl) (fun W hW => y_bin (x := .int .i64 (k : Int)) (y := .int .i64 0) rfl (by kernel_rfl) (by kernel_rfl) rfl (gtrH W k hkp)) ?_
              refine AnyK.take 4 (.bool true) LD.out rfl (by kernel_rfl) (by kernel_rfl) (by kernel_rfl) (fun _ _ _ h => h) (by kernel_rfl) (fun W hW => by kernel_rfl) ?_
              refine AnyK.take 5 (.slice (some ⟨g, o, none⟩) b.length cb) LD.out rfl (by kernel_rfl) (by kernel_rfl) (by kernel_rfl) (fun _ _ _ h => h) (by kernel_rfl) (fun W hW => by kernel_rfl) ?_
              refine AnyK.take 6 (.int .i64 (k : Int)) LD.out rfl (by kernel_rfl) (by kernel_rfl) (by kernel_rfl) (fun _ _ _ h => h) (by kernel_rfl) (fun W hW => by kernel_rfl) ?_
              refine AnyK.take 7 (.int .i64 (j : Int)) LD.out rfl (by kernel_rfl) (by kernel_rfl) (by kernel_rfl) (fun _ _ _ h => h) (by kernel_rfl) (fun W hW => y_bin (x := .int .i64 (k : Int)) (y := .int .i64 1) rfl (by kernel_rfl) (by kernel_rfl) rfl (sub_i64 W _ _ _ hsub)) ?_
              refine AnyK.take 8 (.pointer (some ⟨g, o + j, none⟩)) LD.out rfl (by kernel_rfl) (by kernel_rfl) (by kernel_rfl) (fun _ _ _ h => h) (by kernel_rfl) (fun W hW => y_index (sv := .slice (some ⟨g, o, none⟩) b.length cb) (iv := .int .i64 (j : Int)) rfl (by kernel_rfl) (by kernel_rfl) (at_str W g o _ _ j hjl)) ?_
              refine AnyK.take 9 (.string ⟨t.toArray⟩) LD.out rfl (by kernel_rfl) (by kernel_rfl) (by kernel_rfl) (fun _ _ _ h => h) (by kernel_rfl) (fun W hW => y_load (sv := .pointer (some ⟨g, o + j, none⟩)) rfl (by kernel_rfl) (l_str W _ _ _ (cell_to r0 hW))) ?_
              refine AnyK.take 10 (.slice (some ⟨g, o, none⟩) b.length cb) LD.out rfl (by kernel_rfl) (by kernel_rfl) (by kernel_rfl) (fun _ _ _ h => h) (by kernel_rfl) (fun W hW => by kernel_rfl) ?_
              refine AnyK.take 11 (.int .i64 (k : Int)) LD.out rfl (by kernel_rfl) (by kernel_rfl) (by kernel_rfl) (fun _ _ _ h => h) (by kernel_rfl) (fun W hW => by kernel_rfl) ?_
              refine AnyK.take 12 (.pointer (some ⟨g, o + k, none⟩)) LD.out rfl (by kernel_rfl) (by kernel_rfl) (by kernel_rfl) (fun _ _ _ h => h) (by kernel_rfl) (fun W hW => y_index (sv := .slice (some ⟨g, o, none⟩) b.length cb) (iv := .int .i64 (k : Int)) rfl (by kernel_rfl) (by kernel_rfl) (at_str W g o _ _ k hlt)) ?_
              refine AnyK.take 13 (.string ⟨s.toArray⟩) LD.out rfl (by kernel_rfl) (by kernel_rfl) (by kernel_rfl) (fun _ _ _ h => h) (by kernel_rfl) (fun W hW => y_load (sv := .pointer (some ⟨g, o + k, none⟩)) rfl (by kernel_rfl) (l_str W _ _ _ (cell_to p0 hW))) ?_
              refine AnyK.take 14 (.bool false) LD.out rfl (by kernel_rfl) (by kernel_rfl) (by kernel_rfl) (fun _ _ _ h => h) (by kernel_rfl) (fun W hW => y_bin (x := .string ⟨t.toArray⟩) (y := .string ⟨s.toArray⟩) rfl (by kernel_rfl) (by kernel_rfl) rfl (ge_strH W _ _ hle)) ?_
              refine AnyK.take 15 (.bool false) LD.out rfl (by kernel_rfl) (by kernel_rfl) (by kernel_rfl) (fun _ _ _ h => h) (by kernel_rfl) (fun W hW => by kernel_rfl) ?_
              refine AnyK.take 16 (.bool false) LD.out rfl (by kernel_rfl) (by kernel_rfl) (by kernel_rfl) (fun _ _ _ h => h) (by kernel_rfl) (fun W hW => by kernel_rfl) ?_
              refine AnyK.done _ (by kernel_rfl) ?_
              go_simp
              go_wp2
              go_meet
              exact ⟨rfl, Lib.hid LD.out⟩
          case rest =>
          obtain ⟨rfl, hbc⟩ := hcut
          have HBc := Lib.hid (HB7.out.trans (hbc.out.mono HB7.out.size))
          clear p0 hbc
          go_wp2_with fail
          go_roundw
          case rel => exact ⟨HBc, k + 1, hlt, by go_num⟩
          case measure => simp [intOf]; omega
        obtain rfl : k = b.length := by omega
        have HBb := hB
        clear hk hlt hB
        have LB := Lib.hid (L5.out.trans (HBb.out.mono L5.out.size))
        have HRab := Lib.hid (HRa.out.below HBb.out (Nat.le_refl _))
        have hn10 : ∀ x ∈ a, x.length ≤ 10000 := fun x hx => by
          obtain ⟨u, hu, e⟩ := th_mem ((HAB.out.ma x).1 hx).2
          have := (HS.out.2 u hu).1
          rw [← e]; omega
        have HN10 := Lib.hid hn10
        clear hn10
        go_wp2_with fail
        refine (clo_small (tips := a) (HRl.out.below HBb.out (Nat.le_refl _)) HRab.out (HO.out.below LB.out) HS.out (by omega) HN10.out).mono ?_
        rintro e w10 ⟨vc, vd, c0, d, rfl, rc, rd, hcd, lc, ld, l9⟩
        obtain ⟨Ac, cc, rfl⟩ := rc.shape
        obtain ⟨Ad, cd, rfl⟩ := rd.shape
        obtain ⟨e1, e2⟩ := IsClo.again HAB.out hcd
        have hst := SameTexts_any (HRab.out.below l9 (Nat.le_refl _)) rc (by omega)
        rw [decide_eq_true e1] at hst
        have HSt := Lib.hid hst; have L10 := Lib.hid (LB.out.trans (l9.mono LB.out.size)); have E2 := Lib.hid e2
        have e2I : (d.length : Int) ≤ (b.length : Int) := by omega
        clear l9 rc rd hcd hst e1 e2
        go_wp2_with fail
        refine HSt.out.mono ?_
        rintro e w11 ⟨rfl, l9⟩
        have L11 := Lib.hid (L10.out.trans (l9.mono L10.out.size))
        clear l9
        go_wp2_with fail
        refine (sou_small (Hx.out.below L11.out (Nat.le_refl _)) (Ht.out.below L11.out (Nat.le_refl _)) (HO.out.below L11.out) HS.out (smallT_len HS2.out).1 (smallT_len HS2.out).2).mono ?_
        rintro e w12 ⟨r, rfl, hr, l9⟩
        have L12 := Lib.hid (L11.out.trans (l9.mono L11.out.size))
        have hlk := IsSound.lack hr HAB.out
        clear l9 hr
        by_cases hb0 : 0 < b.length
        · obtain rfl := hlk.2 hb0
          have hbI : (0 : Int) < (b.length : Int) := by omega
          clear hlk
          go_wp2_with fail
          go_ret
          exact ⟨rfl, L12.out⟩
        · have hr : ¬ r = 51 := fun e => hb0 (hlk.1 e)
          have h1 : (r == 51) = false := by simpa using hr
          have hbI : ¬ (0 : Int) < (b.length : Int) := by omega
          clear hlk
          go_wp2_with fail
          go_ret
          exact ⟨rfl, L12.out⟩
end Go.Proofs.YtngphfogomchfaaGreatDoor
