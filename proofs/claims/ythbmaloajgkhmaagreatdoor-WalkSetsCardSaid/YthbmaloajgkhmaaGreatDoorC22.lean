/-
  symMerge, one behind many.
  symMerge of two that have more than one each, over smaller ones.
-/
import Derived.Test.YthbmaloajgkhmaaGreatDoorC21

namespace Go.Proofs.YthbmaloajgkhmaaGreatDoor
open Go Go.RowKit Go.Maps Go.Sort

set_option maxHeartbeats 8000000 in
set_option maxRecDepth 100000 in
theorem merge_right {w : World} {B g c n a m b : Nat} {p A r : List Hld} {y : Hld} (h0 : 1 < A.length) (hA : SortedH A) (h : NewH B w (.slice (some ⟨g, 0, none⟩) n c) (p ++ (A ++ ([y] ++ r)))) (hn : n ≤ 1000000) (ha : a = p.length) (hm : m = a + A.length) (hb : b = m + 1) :
    Calls Tryz.prog 87 #[.slice (some ⟨g, 0, none⟩) n c, .int .i64 (a : Int), .int .i64 (m : Int), .int .i64 (b : Int), .func (.func 37) #[] #[]] w (MergePost B g c n p A [y] r w) := by
  obtain ⟨L, hLe⟩ : ∃ L, L = p ++ (A ++ ([y] ++ r)) := ⟨_, rfl⟩
  rw [← hLe] at h
  have hnl := own_len h
  have hlen : n = p.length + A.length + 1 + r.length := by rw [hnl, hLe]; simp; omega
  obtain ⟨d9, hd9⟩ : ∃ d9, d9 = m - a := ⟨_, rfl⟩
  have e1 : (m : Int) - (a : Int) = (d9 : Int) := by omega
  have e2 : (b : Int) - (m : Int) = 1 := by omega
  have e3 : ((d9 : Int) == 1) = false := by
    have : ¬ (d9 : Int) = 1 := by omega
    simpa using this
  have ham : a ≤ m := by omega
  have hmn : m < n := by omega
  have hd8 : d9 ≤ n := by omega
  have H := Lib.hid h; have HLe := Lib.hid hLe; have HA := Lib.hid ha; have HLen := Lib.hid hlen; have HAs := Lib.hid hA; have HM : Hid (m = a + A.length) := Lib.hid hm
  clear h hLe hnl hlen ha hA hm h0 hd9 hb
  go_enter Tryz.func87, Tryz.ntmps87
  go_wp2_with fail
  clear e1 e2 e3 hd8
  go_loopw [14, 15, 16] (fun iv jv _ wr => ∃ i j : Nat, a ≤ i ∧ i ≤ j ∧ j ≤ m ∧ iv = .int .i64 i ∧ jv = .int .i64 j ∧ Hid (LeqTo A y (i - a)) ∧ Hid (GtFrom A y (j - a)) ∧ Hid (NewH B wr (.slice (some ⟨g, 0, none⟩) n c) L) ∧ Hid (But (fun q => q = g) w wr)) (fun iv jv _ _ => (intOf jv).toNat - (intOf iv).toNat)
  case atStart => exact ⟨a, m, Nat.le_refl _, ham, Nat.le_refl _, rfl, rfl, Lib.hid (.inl (by omega)), Lib.hid (.inl (by have := HM.out; omega)), H, Lib.hid (But.refl _ _)⟩
  case round =>
    clear H
    obtain ⟨i, j, hmi, hij, hjb, rfl, rfl, hT, hU, hN, hBt⟩ := hrel
    by_cases hlt : i < j
    · obtain ⟨h, hh⟩ : ∃ h, h = (i + j) / 2 := ⟨_, rfl⟩
      have hs9 : h < j := by omega
      have hs8 : i ≤ h := by omega
      have hai9 : a ≤ h := by omega
      obtain ⟨s, hs⟩ : ∃ s, s = i + j := ⟨_, rfl⟩
      have s1 : IntKind.i64.wrap ((i : Int) + (j : Int)) = (s : Int) := by rw [show ((i : Int) + (j : Int)) = (s : Int) by omega]; exact IntWalk.i64_in _ (by omega)
      have s2 : IntKind.u64.wrap (s : Int) = (s : Int) := by exact IntWalk.u64_in _ (by omega)
      have s3 : (s : Int) / 2 = (h : Int) := by omega
      have s4 : IntKind.i64.wrap (h : Int) = (h : Int) := IntWalk.i64_in _ (by omega)
      clear hs hh
      go_upto_region 17 with fail
      clear s1 s2 s3 s4
      have hL1 : L.getD m noHld = y := by rw [HLe.out]; exact mid_r1 HA.out HM.out
      have hL2 : L.getD h noHld = A.getD (h - a) noHld := by rw [HLe.out]; exact mid_r2 HA.out HM.out hai9 (by omega)
      obtain ⟨x, hx⟩ : ∃ x, x = A.getD (h - a) noHld := ⟨_, rfl⟩
      rw [← hx] at hL2
      have hr1 := fun W (hW : Below wr.heap.size wr W) => ld_row hN.out (i := m) (by rw [← own_len hN.out]; omega) hW
      have hr2 := fun W (hW : Below wr.heap.size wr W) => ld_row hN.out (i := h) (by rw [← own_len hN.out]; omega) hW
      rw [hL1] at hr1
      rw [hL2] at hr2
      have R1 := Lib.hid hr1; have R2 := Lib.hid hr2
      obtain ⟨z, hz, hzb⟩ := cmp_z y x
      have HC := Lib.hid (fun W => cmp_b y x W z hz)
      clear hr1 hr2 hL1 hL2 hz
      cases hlt9 : ltH y x with
      | true =>
        rw [hlt9] at hzb
        refine AnyK.start wr.heap.size wr (by kernel_rfl) ?_
        have LD := Lib.hid (show Below wr.heap.size wr wr.drew from (Below.refl _ _).drew)
        generalize wr.drew = wd at LD ⊢
        refine AnyK.take 0 (.func (.func 37) #[] #[]) LD.out rfl (by kernel_rfl) (by kernel_rfl) (by kernel_rfl) (fun _ _ _ h => h) (by kernel_rfl) (fun W hW => by kernel_rfl) ?_
        refine AnyK.take 1 (.slice (some ⟨g, 0, none⟩) n c) LD.out rfl (by kernel_rfl) (by kernel_rfl) (by kernel_rfl) (fun _ _ _ h => h) (by kernel_rfl) (fun W hW => by kernel_rfl) ?_
        refine AnyK.take 2 (.int .i64 (m : Int)) LD.out rfl (by kernel_rfl) (by kernel_rfl) (by kernel_rfl) (fun _ _ _ h => h) (by kernel_rfl) (fun W hW => by kernel_rfl) ?_
        refine AnyK.take 3 (.pointer (some ⟨g, 0 + m * 3, none⟩)) LD.out rfl (by kernel_rfl) (by kernel_rfl) (by kernel_rfl) (fun _ _ _ h => h) (by kernel_rfl) (fun W hW => y_index (sv := .slice (some ⟨g, 0, none⟩) n c) (iv := .int .i64 (m : Int)) rfl (by kernel_rfl) (by kernel_rfl) (at_held W g 0 n c m (by omega))) ?_
        refine AnyK.take 4 (.agg (heldC y).toArray) LD.out rfl (by kernel_rfl) (by kernel_rfl) (by kernel_rfl) (fun _ _ _ h => h) (by kernel_rfl) (fun W hW => y_load (sv := .pointer (some ⟨g, 0 + m * 3, none⟩)) rfl (by kernel_rfl) (R1.out W hW)) ?_
        refine AnyK.take 5 (.slice (some ⟨g, 0, none⟩) n c) LD.out rfl (by kernel_rfl) (by kernel_rfl) (by kernel_rfl) (fun _ _ _ h => h) (by kernel_rfl) (fun W hW => by kernel_rfl) ?_
        refine AnyK.take 6 (.int .i64 (h : Int)) LD.out rfl (by kernel_rfl) (by kernel_rfl) (by kernel_rfl) (fun _ _ _ h => h) (by kernel_rfl) (fun W hW => by kernel_rfl) ?_
        refine AnyK.take 7 (.pointer (some ⟨g, 0 + h * 3, none⟩)) LD.out rfl (by kernel_rfl) (by kernel_rfl) (by kernel_rfl) (fun _ _ _ h => h) (by kernel_rfl) (fun W hW => y_index (sv := .slice (some ⟨g, 0, none⟩) n c) (iv := .int .i64 (h : Int)) rfl (by kernel_rfl) (by kernel_rfl) (at_held W g 0 n c h (by omega))) ?_
        refine AnyK.take 8 (.agg (heldC x).toArray) LD.out rfl (by kernel_rfl) (by kernel_rfl) (by kernel_rfl) (fun _ _ _ h => h) (by kernel_rfl) (fun W hW => y_load (sv := .pointer (some ⟨g, 0 + h * 3, none⟩)) rfl (by kernel_rfl) (R2.out W hW)) ?_
        refine AnyK.call 9 37 #[.agg (heldC y).toArray, .agg (heldC x).toArray] (by kernel_rfl) rfl (by kernel_rfl) (by kernel_rfl) ((HC.out wd).mono ?_)
        rintro e w2 ⟨rfl, l9⟩
        have L2 := LD.out.trans (l9.mono LD.out.size)
        refine ⟨_, rfl, L2, ?_⟩
        refine AnyK.take 10 (.bool true) L2 rfl (by kernel_rfl) (by kernel_rfl) (by kernel_rfl) (fun _ _ _ h => h) (by kernel_rfl) (fun W hW => y_bin (x := .int .i64 z) (y := .int .i64 0) rfl (by kernel_rfl) (by kernel_rfl) rfl (lss0 W z _ hzb)) ?_
        refine AnyK.take 11 (.bool false) L2 rfl (by kernel_rfl) (by kernel_rfl) (by kernel_rfl) (fun _ _ _ h => h) (by kernel_rfl) (fun W hW => by kernel_rfl) ?_
        refine AnyK.done _ (by kernel_rfl) ?_
        have HN2 : Hid (NewH B w2 (.slice (some ⟨g, 0, none⟩) n c) L) := Lib.hid (OwK.below hN.out L2 (Nat.le_refl _))
        have HB2 : Hid (But (fun q => q = g) w w2) := Lib.hid (hBt.out.trans (But.of_new L2))
        clear l9 LD L2 HC R1 R2 hzb
        go_simp
        have HU : Hid (GtFrom A y (h - a)) := Lib.hid (.inr (by rw [← hx]; exact ltH_t hlt9))
        clear hlt9 hx hN hBt hU x
        go_wp2_with fail
        go_roundw
        case rel => exact ⟨i, h, hmi, by omega, by omega, rfl, rfl, hT, HU, HN2, HB2⟩
        case measure => simp [intOf]; omega
      | false =>
        rw [hlt9] at hzb
        refine AnyK.start wr.heap.size wr (by kernel_rfl) ?_
        have LD := Lib.hid (show Below wr.heap.size wr wr.drew from (Below.refl _ _).drew)
        generalize wr.drew = wd at LD ⊢
        refine AnyK.take 0 (.func (.func 37) #[] #[]) LD.out rfl (by kernel_rfl) (by kernel_rfl) (by kernel_rfl) (fun _ _ _ h => h) (by kernel_rfl) (fun W hW => by kernel_rfl) ?_
        refine AnyK.take 1 (.slice (some ⟨g, 0, none⟩) n c) LD.out rfl (by kernel_rfl) (by kernel_rfl) (by kernel_rfl) (fun _ _ _ h => h) (by kernel_rfl) (fun W hW => by kernel_rfl) ?_
        refine AnyK.take 2 (.int .i64 (m : Int)) LD.out rfl (by kernel_rfl) (by kernel_rfl) (by kernel_rfl) (fun _ _ _ h => h) (by kernel_rfl) (fun W hW => by kernel_rfl) ?_
        refine AnyK.take 3 (.pointer (some ⟨g, 0 + m * 3, none⟩)) LD.out rfl (by kernel_rfl) (by kernel_rfl) (by kernel_rfl) (fun _ _ _ h => h) (by kernel_rfl) (fun W hW => y_index (sv := .slice (some ⟨g, 0, none⟩) n c) (iv := .int .i64 (m : Int)) rfl (by kernel_rfl) (by kernel_rfl) (at_held W g 0 n c m (by omega))) ?_
        refine AnyK.take 4 (.agg (heldC y).toArray) LD.out rfl (by kernel_rfl) (by kernel_rfl) (by kernel_rfl) (fun _ _ _ h => h) (by kernel_rfl) (fun W hW => y_load (sv := .pointer (some ⟨g, 0 + m * 3, none⟩)) rfl (by kernel_rfl) (R1.out W hW)) ?_
        refine AnyK.take 5 (.slice (some ⟨g, 0, none⟩) n c) LD.out rfl (by kernel_rfl) (by kernel_rfl) (by kernel_rfl) (fun _ _ _ h => h) (by kernel_rfl) (fun W hW => by kernel_rfl) ?_
        refine AnyK.take 6 (.int .i64 (h : Int)) LD.out rfl (by kernel_rfl) (by kernel_rfl) (by kernel_rfl) (fun _ _ _ h => h) (by kernel_rfl) (fun W hW => by kernel_rfl) ?_
        refine AnyK.take 7 (.pointer (some ⟨g, 0 + h * 3, none⟩)) LD.out rfl (by kernel_rfl) (by kernel_rfl) (by kernel_rfl) (fun _ _ _ h => h) (by kernel_rfl) (fun W hW => y_index (sv := .slice (some ⟨g, 0, none⟩) n c) (iv := .int .i64 (h : Int)) rfl (by kernel_rfl) (by kernel_rfl) (at_held W g 0 n c h (by omega))) ?_
        refine AnyK.take 8 (.agg (heldC x).toArray) LD.out rfl (by kernel_rfl) (by kernel_rfl) (by kernel_rfl) (fun _ _ _ h => h) (by kernel_rfl) (fun W hW => y_load (sv := .pointer (some ⟨g, 0 + h * 3, none⟩)) rfl (by kernel_rfl) (R2.out W hW)) ?_
        refine AnyK.call 9 37 #[.agg (heldC y).toArray, .agg (heldC x).toArray] (by kernel_rfl) rfl (by kernel_rfl) (by kernel_rfl) ((HC.out wd).mono ?_)
        rintro e w2 ⟨rfl, l9⟩
        have L2 := LD.out.trans (l9.mono LD.out.size)
        refine ⟨_, rfl, L2, ?_⟩
        refine AnyK.take 10 (.bool false) L2 rfl (by kernel_rfl) (by kernel_rfl) (by kernel_rfl) (fun _ _ _ h => h) (by kernel_rfl) (fun W hW => y_bin (x := .int .i64 z) (y := .int .i64 0) rfl (by kernel_rfl) (by kernel_rfl) rfl (lss0 W z _ hzb)) ?_
        refine AnyK.take 11 (.bool true) L2 rfl (by kernel_rfl) (by kernel_rfl) (by kernel_rfl) (fun _ _ _ h => h) (by kernel_rfl) (fun W hW => by kernel_rfl) ?_
        refine AnyK.done _ (by kernel_rfl) ?_
        have HN2 : Hid (NewH B w2 (.slice (some ⟨g, 0, none⟩) n c) L) := Lib.hid (OwK.below hN.out L2 (Nat.le_refl _))
        have HB2 : Hid (But (fun q => q = g) w w2) := Lib.hid (hBt.out.trans (But.of_new L2))
        clear l9 LD L2 HC R1 R2 hzb
        go_simp
        have HT : Hid (LeqTo A y (h + 1 - a)) := Lib.hid (.inr ⟨by have := HM.out; omega, by rw [show h + 1 - a - 1 = h - a by omega, ← hx]; exact ltH_f hlt9⟩)
        clear hlt9 hx hN hBt hT x
        go_wp2_with fail
        go_roundw
        case rel => exact ⟨h + 1, j, by omega, by omega, hjb, by go_num, rfl, HT, hU, HN2, HB2⟩
        case measure => simp [intOf]; omega

    obtain rfl : i = j := by omega
    obtain ⟨t, rfl⟩ : ∃ t, i = a + t := ⟨i - a, by omega⟩
    have htl : t ≤ A.length := by have := HM.out; omega
    have hT2 := hT.out; have hU2 := hU.out
    rw [Nat.add_sub_cancel_left] at hT2 hU2
    obtain ⟨b1, hb1⟩ : ∃ b1, b1 = A.take t := ⟨_, rfl⟩
    obtain ⟨b2, hb2⟩ : ∃ b2, b2 = A.drop t := ⟨_, rfl⟩
    have hbb : A = b1 ++ b2 := by rw [hb1, hb2, List.take_append_drop]
    have hl1 : b1.length = t := by rw [hb1, List.length_take]; omega
    have hl2 : b2.length = A.length - t := by rw [hb2, List.length_drop]
    have HSt : Hid (Stab (A ++ [y]) (b1 ++ ([y] ++ b2))) := Lib.hid (by
      have h1 := sorted_leq HAs.out hT2
      have h2 := sorted_gt HAs.out hU2
      rw [← hb1] at h1
      rw [← hb2] at h2
      have hs := HAs.out
      rw [hbb] at hs ⊢
      exact stab_one_right hs h1 h2)
    obtain ⟨p2, hp2⟩ : ∃ p2, p2 = p ++ b1 := ⟨_, rfl⟩
    have HN0 : Hid (NewH B wr (.slice (some ⟨g, 0, none⟩) n c) (leadK p2 y b2 r b2.length)) := Lib.hid (by
      rw [leadK_end, hp2]
      have h := hN.out
      rw [HLe.out, hbb] at h
      simpa [List.append_assoc] using h)
    obtain ⟨q9, hq9⟩ : ∃ q9, q9 = a + t := ⟨_, rfl⟩
    obtain ⟨l9, hl9⟩ : ∃ l9, l9 = b2.length := ⟨_, rfl⟩
    have hqm : m = q9 + l9 := by have := HM.out; omega
    have HP2 : Hid (q9 = p2.length) := Lib.hid (by rw [hp2, List.length_append, hl1, hq9, HA.out])
    have HPe := Lib.hid hp2; have HL9 := Lib.hid hl9; have HQM := Lib.hid hqm
    have HBt := Lib.hid hBt.out
    have hqn : q9 + l9 < n := by omega
    rw [← hl9] at HN0
    rw [← hq9]
    clear hT hU hT2 hU2 hN hBt hb1 hb2 hbb hl1 hl2 hij hlt htl hq9 hl9 hp2 hqm hmi hjb HAs
    go_wp2_with fail
    go_loopw [17] (fun kv wx => ∃ k s : Nat, s ≤ l9 ∧ kv = .int .i64 k ∧ Hid (k = q9 + s) ∧ Hid (NewH B wx (.slice (some ⟨g, 0, none⟩) n c) (leadK p2 y b2 r s)) ∧ Hid (But (fun q => q = g) w wx)) (fun kv _ => (intOf kv).toNat - q9)
    case atStart => exact ⟨m, l9, Nat.le_refl _, rfl, HQM, HN0, HBt⟩
    case round =>
      clear HN0 HBt
      obtain ⟨k, s, hs, rfl, hk, hN, hBt⟩ := hrel
      by_cases hlt : q9 < k
      · obtain ⟨s, rfl⟩ : ∃ s', s = s' + 1 := ⟨s - 1, by have := hk.out; omega⟩
        obtain ⟨j, rfl⟩ : ∃ j, k = j + 1 := ⟨k - 1, by omega⟩
        have hjs : j = q9 + s := by have := hk.out; omega
        have hjp : j = p2.length + s := by rw [hjs, HP2.out]
        have hjn : j + 1 < n := by omega
        have hsl : s < b2.length := by rw [← HL9.out]; omega
        have c1 := HldsR.cells hN.out.rd (j + 1) (by rw [← own_len hN.out]; omega)
        have c2 := HldsR.cells hN.out.rd j (by rw [← own_len hN.out]; omega)
        rw [show j + 1 = p2.length + (s + 1) by omega, leadK_here (by omega), show p2.length + (s + 1) = j + 1 by omega, Nat.zero_add] at c1
        rw [show j = p2.length + (s + 1) - 1 by omega, leadK_prev (by omega) (by omega), show p2.length + (s + 1) - 1 = j by omega, Nat.zero_add, Nat.add_sub_cancel] at c2
        obtain ⟨c10, c11, c12⟩ := c1
        obtain ⟨c20, c21, c22⟩ := c2
        have hst := leadK_back (p := p2) (x := y) (r := r) hsl
        rw [← hjp] at hst
        have hw2 : NewH B ((wr.setCells g ((j + 1) * 3) (heldC (b2.getD s noHld))).setCells g (j * 3) (heldC y)) (.slice (some ⟨g, 0, none⟩) n c) (leadK p2 y b2 r s) := by
          rw [← hst]
          exact set_own (set_own hN.out (by rw [← own_len hN.out]; omega) _) (by rw [List.length_set, ← own_len hN.out]; omega) _
        have hb2 : But (fun q => q = g) w ((wr.setCells g ((j + 1) * 3) (heldC (b2.getD s noHld))).setCells g (j * 3) (heldC y)) := (hBt.out.trans (but_setCells (S := fun q => q = g) rfl _ _ _)).trans (but_setCells (S := fun q => q = g) rfl _ _ _)
        have f := fun i => own_fz hN.out i
        have f10 := f ((j + 1) * 3); have f11 := f ((j + 1) * 3 + 1); have f12 := f ((j + 1) * 3 + 2)
        have f20 := f (j * 3); have f21 := f (j * 3 + 1); have f22 := f (j * 3 + 2)
        obtain ⟨v, hv⟩ : ∃ v, v = b2.getD s noHld := ⟨_, rfl⟩
        rw [← hv] at c20 c21 c22 hw2 hb2
        obtain ⟨ui, uk, ud⟩ := y
        obtain ⟨vi, vk, vd⟩ := v
        unfold SV at c10 c12 c20 c22
        simp only at c10 c11 c12 c20 c21 c22
        have hch : (wr.setCells g ((j + 1) * 3) (heldC ⟨vi, vk, vd⟩)).setCells g (j * 3) (heldC ⟨ui, uk, ud⟩) =
            (((((wr.setCell ⟨g, (j + 1) * 3, none⟩ (.string ⟨vi.toArray⟩)).setCell ⟨g, (j + 1) * 3 + 1, none⟩ (.int .i64 vk)).setCell ⟨g, (j + 1) * 3 + 2, none⟩ (.string ⟨vd.toArray⟩)).setCell ⟨g, j * 3, none⟩ (.string ⟨ui.toArray⟩)).setCell ⟨g, j * 3 + 1, none⟩ (.int .i64 uk)).setCell ⟨g, j * 3 + 2, none⟩ (.string ⟨ud.toArray⟩) := rfl
        rw [hch] at hw2 hb2
        have HW2 := Lib.hid hw2; have HB2 := Lib.hid hb2; have HJ := Lib.hid hjs
        have w1 : IntKind.i64.wrap (((j + 1 : Nat) : Int) - 1) = (j : Int) := by rw [show (((j + 1 : Nat) : Int) - 1) = (j : Int) by omega]; exact IntWalk.i64_in _ (by omega)
        have w2 : IntKind.i64.wrap (j : Int) = (j : Int) := IntWalk.i64_in _ (by omega)
        have i1 : ((j + 1 : Nat) : Int) < (n : Int) := by omega
        have i2 : (j : Int) < (n : Int) := by omega
        have hkI : (q9 : Int) < ((j + 1 : Nat) : Int) := by omega
        clear hw2 hb2 hst hv f hch hk hjp hjs hN hBt hsl
        go_upto_region 23 with fail
        go_big_region
        clear c10 c11 c12 c20 c21 c22 f10 f11 f12 f20 f21 f22 i1 i2
        go_wp2_with fail
        have HW3 := Lib.hid (HW2.out.below (Below.refl _ _).drew (Nat.le_refl _))
        have HB3 := Lib.hid HB2.out.drew
        exact ⟨⟨j, s, by omega, by go_num, HJ, HW3, HB3⟩, by simp [intOf]; omega⟩
      · obtain rfl : s = 0 := by have := hk.out; omega
        have hf := hN.out
        rw [leadK_zero, HPe.out] at hf
        have HF : Hid (NewH B wr (.slice (some ⟨g, 0, none⟩) n c) (p ++ ((b1 ++ ([y] ++ b2)) ++ r))) := Lib.hid (by simpa [List.append_assoc] using hf)
        have hkI : ¬ (q9 : Int) < (k : Int) := by omega
        clear hf hk hN
        go_wp2_with fail
        go_end0
        exact ⟨rfl, _, HSt.out, HF.out, hBt.out⟩
end Go.Proofs.YthbmaloajgkhmaaGreatDoor


namespace Go.Proofs.YthbmaloajgkhmaaGreatDoor
open Go Go.RowKit Go.Maps Go.Sort

/-- The search: between s and q. -/
structure Srch (A B : List Hld) (s q : Nat) : Prop where
  sq : s ≤ q
  qa : q ≤ A.length
  qm : q ≤ (A.length + B.length) / 2
  lo : (A.length + B.length) / 2 ≤ s + B.length
  no : s = 0 ∨ s + B.length = (A.length + B.length) / 2 ∨ ltH ((A ++ B).getD ((A.length + B.length) / 2 + A.length - s) noHld) ((A ++ B).getD (s - 1) noHld) = false
  yes : q = A.length ∨ q = (A.length + B.length) / 2 ∨ ltH ((A ++ B).getD ((A.length + B.length) / 2 + A.length - 1 - q) noHld) ((A ++ B).getD q noHld) = true
theorem Srch.found {A B : List Hld} {s : Nat} (h : Srch A B s s) : Found A B s := ⟨h.qa, h.lo, h.qm, h.no, h.yes⟩
theorem Srch.up {A B : List Hld} {s q t : Nat} (h : Srch A B s q) (h1 : s ≤ t) (h2 : t < q) (hf : ltH ((A ++ B).getD ((A.length + B.length) / 2 + A.length - 1 - t) noHld) ((A ++ B).getD t noHld) = false) : Srch A B (t + 1) q :=
  ⟨h2, h.qa, h.qm, by have := h.lo; omega, .inr (.inr (by rw [show (A.length + B.length) / 2 + A.length - (t + 1) = (A.length + B.length) / 2 + A.length - 1 - t by omega, Nat.add_sub_cancel]; exact hf)), h.yes⟩
theorem Srch.down {A B : List Hld} {s q t : Nat} (h : Srch A B s q) (h1 : s ≤ t) (h2 : t < q) (hf : ltH ((A ++ B).getD ((A.length + B.length) / 2 + A.length - 1 - t) noHld) ((A ++ B).getD t noHld) = true) : Srch A B s t :=
  ⟨h1, by have := h.qa; omega, by have := h.qm; omega, h.lo, h.no, .inr (.inr hf)⟩
theorem mid_g {p A Bl r : List Hld} {t : Nat} (h : t < A.length + Bl.length) : (p ++ (A ++ (Bl ++ r))).getD (p.length + t) noHld = (A ++ Bl).getD t noHld := by
  rw [getD_right (by omega), Nat.add_sub_cancel_left, ← List.append_assoc, getD_left (by rw [List.length_append]; exact h)]
theorem sub_nat (W : World) (x y : Nat) (h : y ≤ x) (hx : x ≤ 10000000) : (binOp .sub 3 (.int .i64 (x : Int)) (.int .i64 (y : Int))).run Tryz.prog W = .ok (.int .i64 ((x - y : Nat) : Int)) W := by
  have e : IntKind.i64.wrap ((x : Int) - (y : Int)) = ((x - y : Nat) : Int) := by rw [show ((x : Int) - (y : Int)) = ((x - y : Nat) : Int) by omega]; exact IntWalk.i64_in _ (by omega)
  simp [go_sem, e]
set_option maxHeartbeats 16000000 in
set_option maxRecDepth 100000 in
theorem merge_gen {w : World} {B g c n a m b : Nat} {p A Bl r : List Hld} (hA2 : 1 < A.length) (hB2 : 1 < Bl.length) (hA : SortedH A) (hB : SortedH Bl) (h : NewH B w (.slice (some ⟨g, 0, none⟩) n c) (p ++ (A ++ (Bl ++ r)))) (hn : n ≤ 1000000) (ha : a = p.length) (hm : m = a + A.length) (hb : b = m + Bl.length)
    (IH : ∀ (w' : World) (p' A' B' r' : List Hld) (a' m' b' : Nat), A'.length + B'.length < A.length + Bl.length → 0 < A'.length → 0 < B'.length → SortedH A' → SortedH B' → NewH B w' (.slice (some ⟨g, 0, none⟩) n c) (p' ++ (A' ++ (B' ++ r'))) → a' = p'.length → m' = a' + A'.length → b' = m' + B'.length → Calls Tryz.prog 87 #[.slice (some ⟨g, 0, none⟩) n c, .int .i64 (a' : Int), .int .i64 (m' : Int), .int .i64 (b' : Int), .func (.func 37) #[] #[]] w' (MergePost B g c n p' A' B' r' w')) :
    Calls Tryz.prog 87 #[.slice (some ⟨g, 0, none⟩) n c, .int .i64 (a : Int), .int .i64 (m : Int), .int .i64 (b : Int), .func (.func 37) #[] #[]] w (MergePost B g c n p A Bl r w) := by
  obtain ⟨L, hLe⟩ : ∃ L, L = p ++ (A ++ (Bl ++ r)) := ⟨_, rfl⟩
  rw [← hLe] at h
  have hnl := own_len h
  have hlen : n = p.length + A.length + Bl.length + r.length := by rw [hnl, hLe]; simp; omega
  obtain ⟨d9, hd9⟩ : ∃ d9, d9 = m - a := ⟨_, rfl⟩
  obtain ⟨d8, hd8⟩ : ∃ d8, d8 = b - m := ⟨_, rfl⟩
  have e1 : (m : Int) - (a : Int) = (d9 : Int) := by omega
  have e2 : (b : Int) - (m : Int) = (d8 : Int) := by omega
  have e3 : ((d9 : Int) == 1) = false := by
    have : ¬ (d9 : Int) = 1 := by omega
    simpa using this
  have e4 : ((d8 : Int) == 1) = false := by
    have : ¬ (d8 : Int) = 1 := by omega
    simpa using this
  have hbn : b ≤ n := by omega
  have h9n : d9 ≤ n := by omega
  have h8n : d8 ≤ n := by omega
  obtain ⟨mid, hmid⟩ : ∃ h, h = (a + b) / 2 := ⟨_, rfl⟩
  obtain ⟨s, hs⟩ : ∃ s, s = a + b := ⟨_, rfl⟩
  obtain ⟨k9, hk9⟩ : ∃ k, k = mid + m := ⟨_, rfl⟩
  have hm0 : a + (A.length + Bl.length) / 2 = mid := by omega
  have s1 : IntKind.i64.wrap ((a : Int) + (b : Int)) = (s : Int) := by rw [show ((a : Int) + (b : Int)) = (s : Int) by omega]; exact IntWalk.i64_in _ (by omega)
  have s2 : IntKind.u64.wrap (s : Int) = (s : Int) := IntWalk.u64_in _ (by omega)
  have s3 : (s : Int) / 2 = (mid : Int) := by omega
  have s4 : IntKind.i64.wrap (mid : Int) = (mid : Int) := IntWalk.i64_in _ (by omega)
  have t1 : IntKind.i64.wrap ((mid : Int) + (m : Int)) = (k9 : Int) := by rw [show ((mid : Int) + (m : Int)) = (k9 : Int) by omega]; exact IntWalk.i64_in _ (by omega)
  have hmidn : mid ≤ n := by omega
  have hmn : m ≤ n := by omega
  have hk9n : k9 ≤ 2000000 := by omega
  have hk91 : 1 ≤ k9 := by omega
  have HMid0 := Lib.hid hmid
  have HMid := Lib.hid hm0; have HK9 := Lib.hid hk9
  have H := Lib.hid h; have HLe := Lib.hid hLe; have HA := Lib.hid ha; have HBb := Lib.hid hb; have HLen := Lib.hid hlen; have HAs := Lib.hid hA; have HBs := Lib.hid hB; have HM : Hid (m = a + A.length) := Lib.hid hm
  have HA2 := Lib.hid hA2; have HB2 := Lib.hid hB2; have HIH := Lib.hid IH
  have HC0 : Hid (¬ mid < m → Srch A Bl 0 A.length) := Lib.hid fun h => ⟨Nat.zero_le _, Nat.le_refl _, by omega, by omega, .inl rfl, .inl rfl⟩
  have HC1 : Hid (mid < m → b + a ≤ k9 ∧ Srch A Bl (k9 - b - a) (mid - a)) := Lib.hid fun h => ⟨by omega, by omega, by omega, by omega, by omega, .inr (.inl (by omega)), .inr (.inl (by omega))⟩
  clear h hLe hnl hlen ha hb hA hB hm hd9 hd8 hmid hs hk9 hm0 hA2 hB2 IH
  go_enter Tryz.func87, Tryz.ntmps87
  go_upto_if 140 with fail
  clear e1 e2 e3 e4 s1 s2 s3 s4 h9n h8n t1
  go_cut [20, 21] from 138 to 146 (fun sv rv wx => ∃ i j : Nat, a ≤ i ∧ i ≤ j ∧ j ≤ m ∧ sv = .int .i64 i ∧ rv = .int .i64 j ∧ Hid (Srch A Bl (i - a) (j - a)) ∧ wx = w)
  case first =>
    by_cases hc : mid < m
    · have hcI : (mid : Int) < (m : Int) := by omega
      obtain ⟨h1, h2⟩ := HC1.out hc
      obtain ⟨i, hi⟩ : ∃ i, i = k9 - b := ⟨_, rfl⟩
      have t2 : IntKind.i64.wrap ((k9 : Int) - (b : Int)) = (i : Int) := by rw [show ((k9 : Int) - (b : Int)) = (i : Int) by omega]; exact IntWalk.i64_in _ (by omega)
      have hai : a ≤ i := by omega
      rw [← hi] at h2
      have him : i ≤ mid := by have := h2.sq; have := HMid.out; omega
      have H2 := Lib.hid h2
      have hmm : mid ≤ m := by omega
      clear hi h1 h2 hc
      go_wp2_with fail
      go_meet
      case rel => exact ⟨i, mid, hai, him, hmm, rfl, rfl, H2, rfl⟩
    · have hcI : ¬ (mid : Int) < (m : Int) := by omega
      have h2 := HC0.out hc
      have H2 : Hid (Srch A Bl (a - a) (m - a)) := Lib.hid (by rw [Nat.sub_self, show m - a = A.length by have := HM.out; omega]; exact h2)
      have ham : a ≤ m := by have := HM.out; omega
      clear h2 hc
      go_wp2_with fail
      go_meet
      case rel => exact ⟨a, m, Nat.le_refl _, ham, Nat.le_refl _, rfl, rfl, H2, rfl⟩
  obtain ⟨i0, j0, hai0, hij0, hjm0, rfl, rfl, HS0, hwc⟩ := hcut
  have hwc2 := hwc.symm
  clear hwc
  subst hwc2
  clear HC0 HC1
  obtain ⟨p9, hp9⟩ : ∃ x, x = k9 - 1 := ⟨_, rfl⟩
  have t3 : IntKind.i64.wrap ((k9 : Int) - 1) = (p9 : Int) := by rw [show ((k9 : Int) - 1) = (p9 : Int) by omega]; exact IntWalk.i64_in _ (by omega)
  have hp9n : p9 ≤ 2000000 := by omega
  have HP9 := Lib.hid hp9
  clear hp9
  go_wp2_with fail
  clear t3
  go_loopw [20, 21, 23] (fun iv jv _ wr => ∃ i j : Nat, a ≤ i ∧ i ≤ j ∧ j ≤ m ∧ iv = .int .i64 i ∧ jv = .int .i64 j ∧ Hid (Srch A Bl (i - a) (j - a)) ∧ Hid (NewH B wr (.slice (some ⟨g, 0, none⟩) n c) L) ∧ Hid (But (fun q => q = g) w wr)) (fun iv jv _ _ => (intOf jv).toNat - (intOf iv).toNat)
  case atStart => exact ⟨i0, j0, hai0, hij0, hjm0, rfl, rfl, HS0, H, Lib.hid (But.refl _ _)⟩
  case round =>
    clear H HS0
    obtain ⟨i, j, hai, hij, hjm, rfl, rfl, hS, hN, hBt⟩ := hrel
    by_cases hlt : i < j
    · obtain ⟨h, hh⟩ : ∃ h, h = (i + j) / 2 := ⟨_, rfl⟩
      have hs9 : h < j := by omega
      have hs8 : i ≤ h := by omega
      have hah : a ≤ h := by omega
      obtain ⟨s, hs⟩ : ∃ s, s = i + j := ⟨_, rfl⟩
      have s1 : IntKind.i64.wrap ((i : Int) + (j : Int)) = (s : Int) := by rw [show ((i : Int) + (j : Int)) = (s : Int) by omega]; exact IntWalk.i64_in _ (by omega)
      have s2 : IntKind.u64.wrap (s : Int) = (s : Int) := by exact IntWalk.u64_in _ (by omega)
      have s3 : (s : Int) / 2 = (h : Int) := by omega
      have s4 : IntKind.i64.wrap (h : Int) = (h : Int) := IntWalk.i64_in _ (by omega)
      have q1 := hS.out.qa; have q2 := hS.out.qm; have q3 := hS.out.lo
      have hp9h : h ≤ p9 := by have := HP9.out; have := HK9.out; have := HMid.out; omega
      obtain ⟨x1, hx1⟩ : ∃ x, x = p9 - h := ⟨_, rfl⟩
      obtain ⟨t9, ht9⟩ : ∃ t, t = (A.length + Bl.length) / 2 + A.length - 1 - (h - a) := ⟨_, rfl⟩
      have hx1e : x1 = a + t9 := by have := HP9.out; have := HK9.out; have := HMid.out; have := HM.out; omega
      have ht9b : t9 < A.length + Bl.length := by have := HM.out; omega
      have hx1n : x1 < n := by have := HBb.out; have := HM.out; omega
      have hhn : h < n := by omega
      have HX1 := Lib.hid hx1
      have hL1 : L.getD x1 noHld = (A ++ Bl).getD t9 noHld := by
        rw [HLe.out, show x1 = p.length + t9 by have := HA.out; omega]; exact mid_g ht9b
      have hL2 : L.getD h noHld = (A ++ Bl).getD (h - a) noHld := by
        conv => lhs; rw [HLe.out, show h = p.length + (h - a) by have := HA.out; omega]
        exact mid_g (by omega)
      have HT9 := Lib.hid ht9
      clear hs hh q1 q2 q3 hx1e hx1 ht9 ht9b
      go_upto_region 35 with fail
      clear s1 s2 s3 s4
      obtain ⟨y, hy⟩ : ∃ y, y = (A ++ Bl).getD t9 noHld := ⟨_, rfl⟩
      obtain ⟨x, hx⟩ : ∃ x, x = (A ++ Bl).getD (h - a) noHld := ⟨_, rfl⟩
      rw [← hy] at hL1
      rw [← hx] at hL2
      rw [HT9.out] at hy
      have HY := Lib.hid hy; have HX := Lib.hid hx
      have hr1 := fun W (hW : Below wr.heap.size wr W) => ld_row hN.out (i := x1) (by rw [← own_len hN.out]; omega) hW
      have hr2 := fun W (hW : Below wr.heap.size wr W) => ld_row hN.out (i := h) (by rw [← own_len hN.out]; omega) hW
      rw [hL1] at hr1
      rw [hL2] at hr2
      have R1 := Lib.hid hr1; have R2 := Lib.hid hr2
      obtain ⟨z, hz, hzb⟩ := cmp_z y x
      have HC := Lib.hid (fun W => cmp_b y x W z hz)
      clear hr1 hr2 hL1 hL2 hz hy hx
      cases hlt9 : ltH y x with
      | true =>
        rw [hlt9] at hzb
        refine AnyK.start wr.heap.size wr (by kernel_rfl) ?_
        have LD := Lib.hid (show Below wr.heap.size wr wr.drew from (Below.refl _ _).drew)
        generalize wr.drew = wd at LD ⊢
        refine AnyK.take 0 (.func (.func 37) #[] #[]) LD.out rfl (by kernel_rfl) (by kernel_rfl) (by kernel_rfl) (fun _ _ _ h => h) (by kernel_rfl) (fun W hW => by kernel_rfl) ?_
        refine AnyK.take 1 (.slice (some ⟨g, 0, none⟩) n c) LD.out rfl (by kernel_rfl) (by kernel_rfl) (by kernel_rfl) (fun _ _ _ h => h) (by kernel_rfl) (fun W hW => by kernel_rfl) ?_
        refine AnyK.take 2 (.int .i64 (p9 : Int)) LD.out rfl (by kernel_rfl) (by kernel_rfl) (by kernel_rfl) (fun _ _ _ h => h) (by kernel_rfl) (fun W hW => by kernel_rfl) ?_
        refine AnyK.take 3 (.int .i64 (h : Int)) LD.out rfl (by kernel_rfl) (by kernel_rfl) (by kernel_rfl) (fun _ _ _ h => h) (by kernel_rfl) (fun W hW => by kernel_rfl) ?_
        refine AnyK.take 4 (.int .i64 (x1 : Int)) LD.out rfl (by kernel_rfl) (by kernel_rfl) (by kernel_rfl) (fun _ _ _ h => h) (by kernel_rfl) (fun W hW => y_bin (x := .int .i64 (p9 : Int)) (y := .int .i64 (h : Int)) rfl (by kernel_rfl) (by kernel_rfl) rfl (by rw [HX1.out]; exact sub_nat W p9 h hp9h (by omega))) ?_
        refine AnyK.take 5 (.pointer (some ⟨g, 0 + x1 * 3, none⟩)) LD.out rfl (by kernel_rfl) (by kernel_rfl) (by kernel_rfl) (fun _ _ _ h => h) (by kernel_rfl) (fun W hW => y_index (sv := .slice (some ⟨g, 0, none⟩) n c) (iv := .int .i64 (x1 : Int)) rfl (by kernel_rfl) (by kernel_rfl) (at_held W g 0 n c x1 (by omega))) ?_
        refine AnyK.take 6 (.agg (heldC y).toArray) LD.out rfl (by kernel_rfl) (by kernel_rfl) (by kernel_rfl) (fun _ _ _ h => h) (by kernel_rfl) (fun W hW => y_load (sv := .pointer (some ⟨g, 0 + x1 * 3, none⟩)) rfl (by kernel_rfl) (R1.out W hW)) ?_
        refine AnyK.take 7 (.slice (some ⟨g, 0, none⟩) n c) LD.out rfl (by kernel_rfl) (by kernel_rfl) (by kernel_rfl) (fun _ _ _ h => h) (by kernel_rfl) (fun W hW => by kernel_rfl) ?_
        refine AnyK.take 8 (.int .i64 (h : Int)) LD.out rfl (by kernel_rfl) (by kernel_rfl) (by kernel_rfl) (fun _ _ _ h => h) (by kernel_rfl) (fun W hW => by kernel_rfl) ?_
        refine AnyK.take 9 (.pointer (some ⟨g, 0 + h * 3, none⟩)) LD.out rfl (by kernel_rfl) (by kernel_rfl) (by kernel_rfl) (fun _ _ _ h => h) (by kernel_rfl) (fun W hW => y_index (sv := .slice (some ⟨g, 0, none⟩) n c) (iv := .int .i64 (h : Int)) rfl (by kernel_rfl) (by kernel_rfl) (at_held W g 0 n c h (by omega))) ?_
        refine AnyK.take 10 (.agg (heldC x).toArray) LD.out rfl (by kernel_rfl) (by kernel_rfl) (by kernel_rfl) (fun _ _ _ h => h) (by kernel_rfl) (fun W hW => y_load (sv := .pointer (some ⟨g, 0 + h * 3, none⟩)) rfl (by kernel_rfl) (R2.out W hW)) ?_
        refine AnyK.call 11 37 #[.agg (heldC y).toArray, .agg (heldC x).toArray] (by kernel_rfl) rfl (by kernel_rfl) (by kernel_rfl) ((HC.out wd).mono ?_)
        rintro e w2 ⟨rfl, l9⟩
        have L2 := LD.out.trans (l9.mono LD.out.size)
        refine ⟨_, rfl, L2, ?_⟩
        refine AnyK.take 12 (.bool true) L2 rfl (by kernel_rfl) (by kernel_rfl) (by kernel_rfl) (fun _ _ _ h => h) (by kernel_rfl) (fun W hW => y_bin (x := .int .i64 z) (y := .int .i64 0) rfl (by kernel_rfl) (by kernel_rfl) rfl (lss0 W z _ hzb)) ?_
        refine AnyK.take 13 (.bool false) L2 rfl (by kernel_rfl) (by kernel_rfl) (by kernel_rfl) (fun _ _ _ h => h) (by kernel_rfl) (fun W hW => by kernel_rfl) ?_
        refine AnyK.done _ (by kernel_rfl) ?_
        have HN2 : Hid (NewH B w2 (.slice (some ⟨g, 0, none⟩) n c) L) := Lib.hid (OwK.below hN.out L2 (Nat.le_refl _))
        have HB2' : Hid (But (fun q => q = g) w w2) := Lib.hid (hBt.out.trans (But.of_new L2))
        clear l9 LD L2 HC R1 R2 hzb
        go_simp
        have HS2 : Hid (Srch A Bl (i - a) (h - a)) := Lib.hid (hS.out.down (by omega) (by omega) (by rw [← HY.out, ← HX.out]; exact hlt9))
        clear hlt9 hS hN hBt HY HX hx1n hp9h HX1
        go_wp2_with fail
        go_roundw
        case rel => exact ⟨i, h, hai, by omega, by omega, rfl, rfl, HS2, HN2, HB2'⟩
        case measure => simp [intOf]; omega
      | false =>
        rw [hlt9] at hzb
        refine AnyK.start wr.heap.size wr (by kernel_rfl) ?_
        have LD := Lib.hid (show Below wr.heap.size wr wr.drew from (Below.refl _ _).drew)
        generalize wr.drew = wd at LD ⊢
        refine AnyK.take 0 (.func (.func 37) #[] #[]) LD.out rfl (by kernel_rfl) (by kernel_rfl) (by kernel_rfl) (fun _ _ _ h => h) (by kernel_rfl) (fun W hW => by kernel_rfl) ?_
        refine AnyK.take 1 (.slice (some ⟨g, 0, none⟩) n c) LD.out rfl (by kernel_rfl) (by kernel_rfl) (by kernel_rfl) (fun _ _ _ h => h) (by kernel_rfl) (fun W hW => by kernel_rfl) ?_
        refine AnyK.take 2 (.int .i64 (p9 : Int)) LD.out rfl (by kernel_rfl) (by kernel_rfl) (by kernel_rfl) (fun _ _ _ h => h) (by kernel_rfl) (fun W hW => by kernel_rfl) ?_
        refine AnyK.take 3 (.int .i64 (h : Int)) LD.out rfl (by kernel_rfl) (by kernel_rfl) (by kernel_rfl) (fun _ _ _ h => h) (by kernel_rfl) (fun W hW => by kernel_rfl) ?_
        refine AnyK.take 4 (.int .i64 (x1 : Int)) LD.out rfl (by kernel_rfl) (by kernel_rfl) (by kernel_rfl) (fun _ _ _ h => h) (by kernel_rfl) (fun W hW => y_bin (x := .int .i64 (p9 : Int)) (y := .int .i64 (h : Int)) rfl (by kernel_rfl) (by kernel_rfl) rfl (by rw [HX1.out]; exact sub_nat W p9 h hp9h (by omega))) ?_
        refine AnyK.take 5 (.pointer (some ⟨g, 0 + x1 * 3, none⟩)) LD.out rfl (by kernel_rfl) (by kernel_rfl) (by kernel_rfl) (fun _ _ _ h => h) (by kernel_rfl) (fun W hW => y_index (sv := .slice (some ⟨g, 0, none⟩) n c) (iv := .int .i64 (x1 : Int)) rfl (by kernel_rfl) (by kernel_rfl) (at_held W g 0 n c x1 (by omega))) ?_
        refine AnyK.take 6 (.agg (heldC y).toArray) LD.out rfl (by kernel_rfl) (by kernel_rfl) (by kernel_rfl) (fun _ _ _ h => h) (by kernel_rfl) (fun W hW => y_load (sv := .pointer (some ⟨g, 0 + x1 * 3, none⟩)) rfl (by kernel_rfl) (R1.out W hW)) ?_
        refine AnyK.take 7 (.slice (some ⟨g, 0, none⟩) n c) LD.out rfl (by kernel_rfl) (by kernel_rfl) (by kernel_rfl) (fun _ _ _ h => h) (by kernel_rfl) (fun W hW => by kernel_rfl) ?_
        refine AnyK.take 8 (.int .i64 (h : Int)) LD.out rfl (by kernel_rfl) (by kernel_rfl) (by kernel_rfl) (fun _ _ _ h => h) (by kernel_rfl) (fun W hW => by kernel_rfl) ?_
        refine AnyK.take 9 (.pointer (some ⟨g, 0 + h * 3, none⟩)) LD.out rfl (by kernel_rfl) (by kernel_rfl) (by kernel_rfl) (fun _ _ _ h => h) (by kernel_rfl) (fun W hW => y_index (sv := .slice (some ⟨g, 0, none⟩) n c) (iv := .int .i64 (h : Int)) rfl (by kernel_rfl) (by kernel_rfl) (at_held W g 0 n c h (by omega))) ?_
        refine AnyK.take 10 (.agg (heldC x).toArray) LD.out rfl (by kernel_rfl) (by kernel_rfl) (by kernel_rfl) (fun _ _ _ h => h) (by kernel_rfl) (fun W hW => y_load (sv := .pointer (some ⟨g, 0 + h * 3, none⟩)) rfl (by kernel_rfl) (R2.out W hW)) ?_
        refine AnyK.call 11 37 #[.agg (heldC y).toArray, .agg (heldC x).toArray] (by kernel_rfl) rfl (by kernel_rfl) (by kernel_rfl) ((HC.out wd).mono ?_)
        rintro e w2 ⟨rfl, l9⟩
        have L2 := LD.out.trans (l9.mono LD.out.size)
        refine ⟨_, rfl, L2, ?_⟩
        refine AnyK.take 12 (.bool false) L2 rfl (by kernel_rfl) (by kernel_rfl) (by kernel_rfl) (fun _ _ _ h => h) (by kernel_rfl) (fun W hW => y_bin (x := .int .i64 z) (y := .int .i64 0) rfl (by kernel_rfl) (by kernel_rfl) rfl (lss0 W z _ hzb)) ?_
        refine AnyK.take 13 (.bool true) L2 rfl (by kernel_rfl) (by kernel_rfl) (by kernel_rfl) (fun _ _ _ h => h) (by kernel_rfl) (fun W hW => by kernel_rfl) ?_
        refine AnyK.done _ (by kernel_rfl) ?_
        have HN2 : Hid (NewH B w2 (.slice (some ⟨g, 0, none⟩) n c) L) := Lib.hid (OwK.below hN.out L2 (Nat.le_refl _))
        have HB2' : Hid (But (fun q => q = g) w w2) := Lib.hid (hBt.out.trans (But.of_new L2))
        clear l9 LD L2 HC R1 R2 hzb
        go_simp
        have HS2 : Hid (Srch A Bl (h + 1 - a) (j - a)) := Lib.hid (by
          rw [show h + 1 - a = (h - a) + 1 by omega]
          exact hS.out.up (by omega) (by omega) (by rw [← HY.out, ← HX.out]; exact hlt9))
        clear hlt9 hS hN hBt HY HX hx1n hp9h HX1
        go_wp2_with fail
        go_roundw
        case rel => exact ⟨h + 1, j, by omega, by omega, hjm, by go_num, rfl, HS2, HN2, HB2'⟩
        case measure => simp [intOf]; omega

    obtain rfl : i = j := by omega
    have hF := hS.out.found
    obtain ⟨t, ht⟩ : ∃ t, t = i - a := ⟨_, rfl⟩
    rw [← ht] at hF
    obtain ⟨md, hmd⟩ : ∃ x, x = (A.length + Bl.length) / 2 := ⟨_, rfl⟩
    obtain ⟨hq1, hq2⟩ := hF.parts HAs.out HBs.out
    have f1 := hF.le; have f2 := hF.lo; have f3 := hF.mid
    rw [← hmd] at hq1 hq2 f2 f3
    obtain ⟨u1, hu1⟩ : ∃ x, x = A.take t := ⟨_, rfl⟩
    obtain ⟨u2, hu2⟩ : ∃ x, x = A.drop t := ⟨_, rfl⟩
    obtain ⟨v1, hv1⟩ : ∃ x, x = Bl.take (md - t) := ⟨_, rfl⟩
    obtain ⟨v2, hv2⟩ : ∃ x, x = Bl.drop (md - t) := ⟨_, rfl⟩
    rw [← hu2, ← hv1] at hq1
    rw [← hu1, ← hv2] at hq2
    have hAe : A = u1 ++ u2 := by rw [hu1, hu2, List.take_append_drop]
    have hBe : Bl = v1 ++ v2 := by rw [hv1, hv2, List.take_append_drop]
    have l1 : u1.length = t := by rw [hu1, List.length_take]; omega
    have l2 : u2.length = A.length - t := by rw [hu2, List.length_drop]
    have l3 : v1.length = md - t := by rw [hv1, List.length_take]; omega
    have l4 : v2.length = Bl.length - (md - t) := by rw [hv2, List.length_drop]
    obtain ⟨e9, he9⟩ : ∃ x, x = k9 - i := ⟨_, rfl⟩
    have g1 : i = p.length + u1.length := by rw [l1, ht]; have := HA.out; omega
    have g2 : m = p.length + u1.length + u2.length := by have := HM.out; have := HA.out; omega
    have g3 : e9 = p.length + u1.length + u2.length + v1.length := by have := HK9.out; have := HMid.out; have := HM.out; have := HA.out; omega
    have g4 : mid = p.length + u1.length + v1.length := by have := HMid.out; have := HA.out; omega
    have g5 : b = p.length + u1.length + u2.length + v1.length + v2.length := by have := HBb.out; have := HM.out; have := HA.out; omega
    have hte : IntKind.i64.wrap ((k9 : Int) - (i : Int)) = (e9 : Int) := by rw [show ((k9 : Int) - (i : Int)) = (e9 : Int) by have := HK9.out; omega]; exact IntWalk.i64_in _ (by omega)
    have hsA := HAs.out; have hsB := HBs.out
    rw [hAe] at hsA
    rw [hBe] at hsB
    have HFin : Hid (∀ M1 M2, Stab (u1 ++ v1) M1 → Stab (u2 ++ v2) M2 → Stab (A ++ Bl) (M1 ++ M2)) := Lib.hid fun M1 M2 h1 h2 => by rw [hAe, hBe]; exact stab_halves h1 h2 hsA hsB hq1 hq2
    have HN0 : Hid (NewH B wr (.slice (some ⟨g, 0, none⟩) n c) (p ++ (u1 ++ (u2 ++ (v1 ++ (v2 ++ r)))))) := Lib.hid (by
      have h := hN.out
      rw [HLe.out, hAe, hBe] at h
      simpa [List.append_assoc] using h)
    have HS1 : Hid (SortedH u1 ∧ SortedH u2 ∧ SortedH v1 ∧ SortedH v2) := Lib.hid ⟨hsA.left, hsA.right, hsB.left, hsB.right⟩
    have HLt : Hid (u1.length + v1.length < A.length + Bl.length ∧ u2.length + v2.length < A.length + Bl.length) := Lib.hid ⟨by have := HA2.out; have := HB2.out; omega, by have := HA2.out; have := HB2.out; omega⟩
    have G1 := Lib.hid g1; have G2 := Lib.hid g2; have G3 := Lib.hid g3; have G4 := Lib.hid g4; have G5 := Lib.hid g5
    have HBt := Lib.hid hBt.out
    have he9n : e9 ≤ n := by omega
    clear hS hF ht hmd hq1 hq2 f1 f2 f3 hu1 hu2 hv1 hv2 hAe hBe l1 l2 l3 l4 he9 g1 g2 g3 g4 g5 hsA hsB hN hBt hij hlt
    obtain ⟨β1, hβ1⟩ : ∃ β, β = (decide (i < m) && decide (m < e9)) := ⟨_, rfl⟩
    obtain ⟨β2, hβ2⟩ : ∃ β, β = (decide (a < i) && decide (i < mid)) := ⟨_, rfl⟩
    obtain ⟨β3, hβ3⟩ : ∃ β, β = (decide (mid < e9) && decide (e9 < b)) := ⟨_, rfl⟩
    have HB1 := Lib.hid hβ1; have HB2 := Lib.hid hβ2; have HB3 := Lib.hid hβ3
    clear hβ1 hβ2 hβ3
    go_upto_region 39 with fail
    clear hte
    go_cut [185] from 178 to 185 (fun cv wx => cv = .bool β1 ∧ wx = wr)
    case first =>
      by_cases x1 : i < m
      · have x1I : (i : Int) < (m : Int) := by omega
        by_cases x2 : m < e9
        · have x2I : (m : Int) < (e9 : Int) := by omega
          have hb : β1 = true := by rw [HB1.out, decide_eq_true x1, decide_eq_true x2]; rfl
          subst hb
          go_wp2_with fail
          go_meet
          case rel => exact ⟨rfl, rfl⟩
        · have x2I : ¬ (m : Int) < (e9 : Int) := by omega
          have hb : β1 = false := by rw [HB1.out, decide_eq_true x1, decide_eq_false x2]; rfl
          subst hb
          go_wp2_with fail
          go_meet
          case rel => exact ⟨rfl, rfl⟩
      · have x1I : ¬ (i : Int) < (m : Int) := by omega
        have hb : β1 = false := by rw [HB1.out, decide_eq_false x1]; rfl
        subst hb
        go_wp2_with fail
        go_meet
        case rel => exact ⟨rfl, rfl⟩
    obtain ⟨rfl, rfl⟩ := hcut
    generalize wc = wr at HN0 HBt ⊢
    have HR1 : Hid (β1 = true → Calls Tryz.prog 112 #[.slice (some ⟨g, 0, none⟩) n c, .int .i64 (i : Int), .int .i64 (m : Int), .int .i64 (e9 : Int), .func (.func 37) #[] #[]] wr (SwapPost B g c n (p ++ (u1 ++ (v1 ++ (u2 ++ (v2 ++ r))))) wr)) := Lib.hid fun hb => by
      rw [HB1.out, Bool.and_eq_true, decide_eq_true_eq, decide_eq_true_eq] at hb
      have h := rotate_any (w := wr) (B := B) (g := g) (c := c) (n := n) (a := i) (m := m) (b := e9) (p := p ++ u1) (u := u2) (v := v1) (r := v2 ++ r) (by rw [List.append_assoc]; exact HN0.out) (by have := G1.out; have := G2.out; omega) (by have := G2.out; have := G3.out; omega) hn (by rw [List.length_append]; exact G1.out) (by rw [List.length_append]; exact G2.out) (by rw [List.length_append]; exact G3.out)
      rw [List.append_assoc] at h
      exact h
    have HNo1 : Hid (β1 = false → NewH B wr (.slice (some ⟨g, 0, none⟩) n c) (p ++ (u1 ++ (v1 ++ (u2 ++ (v2 ++ r)))))) := Lib.hid fun hb => by
      have h := HN0.out
      have hd : u2 = [] ∨ v1 = [] := by
        rw [HB1.out, Bool.and_eq_false_iff, decide_eq_false_iff_not, decide_eq_false_iff_not] at hb
        rcases hb with hb | hb
        · exact .inl (List.eq_nil_of_length_eq_zero (by have := G1.out; have := G2.out; omega))
        · exact .inr (List.eq_nil_of_length_eq_zero (by have := G2.out; have := G3.out; omega))
      rcases hd with rfl | rfl
      · rw [List.nil_append] at h ⊢; exact h
      · rw [List.nil_append] at h ⊢; exact h
    go_upto_if 185 with fail
    go_cut [24] from 185 to 191 (fun ev wx => ev = .int .i64 (e9 : Int) ∧ Hid (NewH B wx (.slice (some ⟨g, 0, none⟩) n c) (p ++ (u1 ++ (v1 ++ (u2 ++ (v2 ++ r)))))) ∧ Hid (But (fun q => q = g) w wx))
    case first =>
      cases β1 with
      | true =>
        have HC := Lib.hid (HR1.out rfl)
        clear HR1 HNo1 HN0
        go_wp2_with fail
        refine HC.out.mono ?_
        rintro e w2 ⟨rfl, n2, b2⟩
        have HN2 := Lib.hid n2; have HB2' := Lib.hid (HBt.out.trans b2)
        clear n2 b2 HC
        go_wp2_with fail
        go_meet
        case rel => exact ⟨rfl, HN2, HB2'⟩
      | false =>
        have HN2 := Lib.hid (HNo1.out rfl)
        clear HR1 HNo1 HN0
        go_wp2_with fail
        go_meet
        case rel => exact ⟨rfl, HN2, HBt⟩
    obtain ⟨rfl, HN1, HBt1⟩ := hcut
    clear HR1 HNo1 HN0 HBt HB1
    go_upto_region 41 with fail
    go_cut [199] from 192 to 199 (fun cv wx => cv = .bool β2 ∧ wx = wc)
    case first =>
      by_cases x1 : a < i
      · have x1I : (a : Int) < (i : Int) := by omega
        by_cases x2 : i < mid
        · have x2I : (i : Int) < (mid : Int) := by omega
          have hb : β2 = true := by rw [HB2.out, decide_eq_true x1, decide_eq_true x2]; rfl
          subst hb
          go_wp2_with fail
          go_meet
          case rel => exact ⟨rfl, rfl⟩
        · have x2I : ¬ (i : Int) < (mid : Int) := by omega
          have hb : β2 = false := by rw [HB2.out, decide_eq_true x1, decide_eq_false x2]; rfl
          subst hb
          go_wp2_with fail
          go_meet
          case rel => exact ⟨rfl, rfl⟩
      · have x1I : ¬ (a : Int) < (i : Int) := by omega
        have hb : β2 = false := by rw [HB2.out, decide_eq_false x1]; rfl
        subst hb
        go_wp2_with fail
        go_meet
        case rel => exact ⟨rfl, rfl⟩
    obtain ⟨rfl, rfl⟩ := hcut
    generalize wc = wr at HN1 HBt1 ⊢
    have HR2 : Hid (β2 = true → Calls Tryz.prog 87 #[.slice (some ⟨g, 0, none⟩) n c, .int .i64 (a : Int), .int .i64 (i : Int), .int .i64 (mid : Int), .func (.func 37) #[] #[]] wr (MergePost B g c n p u1 v1 (u2 ++ (v2 ++ r)) wr)) := Lib.hid fun hb => by
      rw [HB2.out, Bool.and_eq_true, decide_eq_true_eq, decide_eq_true_eq] at hb
      exact HIH.out wr p u1 v1 (u2 ++ (v2 ++ r)) a i mid HLt.out.1 (by have := G1.out; have := HA.out; omega) (by have := G1.out; have := G4.out; omega) HS1.out.1 HS1.out.2.2.1 HN1.out HA.out (by have := G1.out; have := HA.out; omega) (by have := G1.out; have := G4.out; omega)
    have HNo2 : Hid (β2 = false → Stab (u1 ++ v1) (u1 ++ v1)) := Lib.hid fun hb => by
      have hd : u1 = [] ∨ v1 = [] := by
        rw [HB2.out, Bool.and_eq_false_iff, decide_eq_false_iff_not, decide_eq_false_iff_not] at hb
        rcases hb with hb | hb
        · exact .inl (List.eq_nil_of_length_eq_zero (by have := G1.out; have := HA.out; omega))
        · exact .inr (List.eq_nil_of_length_eq_zero (by have := G1.out; have := G4.out; omega))
      rcases hd with rfl | rfl
      · exact Stab.refl (by rw [List.nil_append]; exact HS1.out.2.2.1)
      · exact Stab.refl (by rw [List.append_nil]; exact HS1.out.1)
    go_upto_if 199 with fail
    go_cut [24] from 199 to 205 (fun ev wx => ev = .int .i64 (e9 : Int) ∧ ∃ M1, Hid (Stab (u1 ++ v1) M1) ∧ Hid (NewH B wx (.slice (some ⟨g, 0, none⟩) n c) (p ++ (M1 ++ (u2 ++ (v2 ++ r))))) ∧ Hid (But (fun q => q = g) w wx))
    case first =>
      cases β2 with
      | true =>
        have HC := Lib.hid (HR2.out rfl)
        clear HR2 HNo2 HN1
        go_wp2_with fail
        refine HC.out.mono ?_
        rintro e w2 ⟨rfl, M1, s1, n2, b2⟩
        have HN2 := Lib.hid n2; have HB2' := Lib.hid (HBt1.out.trans b2); have HSt := Lib.hid s1
        clear n2 b2 s1 HC
        go_wp2_with fail
        go_meet
        case rel => exact ⟨rfl, M1, HSt, HN2, HB2'⟩
      | false =>
        have HSt := Lib.hid (HNo2.out rfl)
        have HN2 : Hid (NewH B wr (.slice (some ⟨g, 0, none⟩) n c) (p ++ ((u1 ++ v1) ++ (u2 ++ (v2 ++ r))))) := Lib.hid (by rw [List.append_assoc]; exact HN1.out)
        clear HR2 HNo2 HN1
        go_wp2_with fail
        go_meet
        case rel => exact ⟨rfl, _, HSt, HN2, HBt1⟩
    obtain ⟨rfl, M1, HSt1, HN2, HBt2⟩ := hcut
    clear HR2 HNo2 HN1 HBt1
    go_upto_region 43 with fail
    go_cut [213] from 206 to 213 (fun cv wx => cv = .bool β3 ∧ wx = wc)
    case first =>
      by_cases x1 : mid < e9
      · have x1I : (mid : Int) < (e9 : Int) := by omega
        by_cases x2 : e9 < b
        · have x2I : (e9 : Int) < (b : Int) := by omega
          have hb : β3 = true := by rw [HB3.out, decide_eq_true x1, decide_eq_true x2]; rfl
          subst hb
          go_wp2_with fail
          go_meet
          case rel => exact ⟨rfl, rfl⟩
        · have x2I : ¬ (e9 : Int) < (b : Int) := by omega
          have hb : β3 = false := by rw [HB3.out, decide_eq_true x1, decide_eq_false x2]; rfl
          subst hb
          go_wp2_with fail
          go_meet
          case rel => exact ⟨rfl, rfl⟩
      · have x1I : ¬ (mid : Int) < (e9 : Int) := by omega
        have hb : β3 = false := by rw [HB3.out, decide_eq_false x1]; rfl
        subst hb
        go_wp2_with fail
        go_meet
        case rel => exact ⟨rfl, rfl⟩
    obtain ⟨rfl, rfl⟩ := hcut
    generalize wc = wr at HN2 HBt2 ⊢
    have hm1 : M1.length = u1.length + v1.length := by rw [HSt1.out.perm.length_eq, List.length_append]
    have HR3 : Hid (β3 = true → Calls Tryz.prog 87 #[.slice (some ⟨g, 0, none⟩) n c, .int .i64 (mid : Int), .int .i64 (e9 : Int), .int .i64 (b : Int), .func (.func 37) #[] #[]] wr (MergePost B g c n (p ++ M1) u2 v2 r wr)) := Lib.hid fun hb => by
      rw [HB3.out, Bool.and_eq_true, decide_eq_true_eq, decide_eq_true_eq] at hb
      exact HIH.out wr (p ++ M1) u2 v2 r mid e9 b HLt.out.2 (by have := G3.out; have := G4.out; omega) (by have := G3.out; have := G5.out; omega) HS1.out.2.1 HS1.out.2.2.2 (by rw [List.append_assoc]; exact HN2.out) (by rw [List.length_append, hm1]; have := G4.out; omega) (by have := G3.out; have := G4.out; omega) (by have := G3.out; have := G5.out; omega)
    have HNo3 : Hid (β3 = false → Stab (u2 ++ v2) (u2 ++ v2)) := Lib.hid fun hb => by
      have hd : u2 = [] ∨ v2 = [] := by
        rw [HB3.out, Bool.and_eq_false_iff, decide_eq_false_iff_not, decide_eq_false_iff_not] at hb
        rcases hb with hb | hb
        · exact .inl (List.eq_nil_of_length_eq_zero (by have := G3.out; have := G4.out; omega))
        · exact .inr (List.eq_nil_of_length_eq_zero (by have := G3.out; have := G5.out; omega))
      rcases hd with rfl | rfl
      · exact Stab.refl (by rw [List.nil_append]; exact HS1.out.2.2.2)
      · exact Stab.refl (by rw [List.append_nil]; exact HS1.out.2.1)
    clear hm1
    cases β3 with
    | true =>
      have HC := Lib.hid (HR3.out rfl)
      clear HR3 HNo3 HN2
      go_wp2_with fail
      refine HC.out.mono ?_
      rintro e w2 ⟨rfl, M2, s2, n2, b2⟩
      have HN3 : Hid (NewH B w2 (.slice (some ⟨g, 0, none⟩) n c) (p ++ ((M1 ++ M2) ++ r))) := Lib.hid (by simpa [List.append_assoc] using n2)
      have HB3' := Lib.hid (HBt2.out.trans b2); have HSt2 := Lib.hid (HFin.out M1 M2 HSt1.out s2)
      clear n2 b2 s2 HC
      go_wp2_with fail
      go_end0
      exact ⟨rfl, _, HSt2.out, HN3.out, HB3'.out⟩
    | false =>
      have HSt2 := Lib.hid (HFin.out M1 _ HSt1.out (HNo3.out rfl))
      have HN3 : Hid (NewH B wr (.slice (some ⟨g, 0, none⟩) n c) (p ++ ((M1 ++ (u2 ++ v2)) ++ r))) := Lib.hid (by simpa [List.append_assoc] using HN2.out)
      clear HR3 HNo3 HN2
      go_wp2_with fail
      go_end0
      exact ⟨rfl, _, HSt2.out, HN3.out, HBt2.out⟩
end Go.Proofs.YthbmaloajgkhmaaGreatDoor
