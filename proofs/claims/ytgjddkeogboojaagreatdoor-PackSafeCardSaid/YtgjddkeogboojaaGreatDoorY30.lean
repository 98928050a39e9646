/-
  WMerL WMerR
  WMerG WSrt
-/
import Derived.Test.YtgjddkeogboojaaGreatDoorY29
import Derived.Test.YtgjddkeogboojaaGreatDoorY21
set_option maxHeartbeats 16000000
set_option maxRecDepth 100000
namespace Go.Proofs.YtgjddkeogboojaaGreatDoor
open Go Go.RowKit Go.Maps Go.Sort
theorem zjw {w : World} {B g c n a m b : Nat} {p Bl r : List Hld} {x : Hld} (h0 : 0 < Bl.length) (hB : SortedH Bl) (h : NewH B w (.slice (some ⟨g, 0, none⟩) n c) (p ++ ([x] ++ (Bl ++ r)))) (hn : n ≤ 1000000) (ha : a = p.length) (hm : m = a + 1) (hb : b = m + Bl.length) :
 Calls Tryz.prog 135 #[.slice (some ⟨g, 0, none⟩) n c, .int .i64 (a : Int), .int .i64 (m : Int), .int .i64 (b : Int), .func (.func 113) #[] #[]] w (z2w B g c n p [x] Bl r w) := by
 obtain ⟨L, hLe⟩ := zx (p ++ ([x] ++ (Bl ++ r)));rw [← hLe] at h;have hnl := z1q h;have hlen : n = p.length + 1 + Bl.length + r.length := by rw [hnl, hLe]; simp; omega
 have e1 : (m : Int) - (a : Int) = 1 := by omega
 have hmb : m ≤ b := by omega
 have hbn : b ≤ n := by omega
 have ham : a < m := by omega
 have H := zh h; have HLe := zh hLe; have HA := zh ha; have HBb := zh hb; have HLen := zh hlen; have HBs := zh hB; have HM : Hid (m = a + 1) := zh hm;clear h hLe hnl hlen ha hb hB hm h0
 go_enter Tryz.func135, Tryz.ntmps135
 go_wp2_with fail
 clear e1
 go_loopw [10, 11, 12] (fun iv jv _ wr => ∃ i j : Nat, m ≤ i ∧ i ≤ j ∧ j ≤ b ∧ iv = .int .i64 i ∧ jv = .int .i64 j ∧ Hid (LessTo Bl x (i - m)) ∧ Hid (zhx Bl x (j - m)) ∧ Hid (NewH B wr (.slice (some ⟨g, 0, none⟩) n c) L) ∧ Hid (But (fun q => q = g) w wr)) (fun iv jv _ _ => (intOf jv).toNat - (intOf iv).toNat)
 case atStart => exact ⟨m, b, Nat.le_refl _, hmb, Nat.le_refl _, rfl, rfl, zh (.inl (by omega)), zh (.inl (by have := HBb.out; omega)), H, zh (But.refl _ _)⟩
 case round =>
  clear H;obtain ⟨i, j, hmi, hij, hjb, rfl, rfl, hT, hU, hN, hBt⟩ := hrel;by_cases hlt : i < j
  · obtain ⟨h, hh⟩ := zx ((i + j) / 2);have hs9 : h < j := by omega
    have hs8 : i ≤ h := by omega
    have hmi9 : m ≤ h := by omega
    obtain ⟨s, hs⟩ := zx (i + j);have s1 : IntKind.i64.wrap ((i : Int) + (j : Int)) = (s : Int) := by rw [show ((i : Int) + (j : Int)) = (s : Int) by omega]; exact IntWalk.i64_in _ (by omega)
    have s2 : IntKind.u64.wrap (s : Int) = (s : Int) := by exact IntWalk.u64_in _ (by omega)
    have s3 : (s : Int) / 2 = (h : Int) := by omega
    have s4 : IntKind.i64.wrap (h : Int) = (h : Int) := IntWalk.i64_in _ (by omega);clear hs hh
    go_upto_region 5 with fail
    clear s1 s2 s3 s4;have hL1 : L.getD h z05 = Bl.getD (h - m) z05 := by rw [HLe.out]; exact mid_l hmi9 HA.out HM.out HBb.out (by omega)
    have hL2 : L.getD a z05 = x := by rw [HLe.out, HA.out]; simp
    obtain ⟨y, hy⟩ := zx (Bl.getD (h - m) z05);rw [← hy] at hL1;have hr1 := fun W (hW : Below wr.heap.size wr W) => zbh hN.out (i := h) (by rw [← z1q hN.out]; omega) hW;have hr2 := fun W (hW : Below wr.heap.size wr W) => zbh hN.out (i := a) (by rw [← z1q hN.out]; omega) hW;rw [hL1] at hr1;rw [hL2] at hr2;have R1 := zh hr1; have R2 := zh hr2;obtain ⟨z, hz, hzb⟩ := cmp_z y x;have HC := zh (fun W => cmp_b y x W z hz);clear hr1 hr2 hL1 hL2 hz;cases hlt9 : ltH y x with
    | true =>
      rw [hlt9] at hzb;refine AnyK.start wr.heap.size wr (by kernel_rfl) ?_;have LD := zh (show Below wr.heap.size wr wr.drew from (Below.refl _ _).drew);generalize wr.drew = wd at LD ⊢;refine AnyK.tm 0 (.func (.func 113) #[] #[]) LD.out rfl ?_;refine AnyK.tm 1 (.slice (some ⟨g, 0, none⟩) n c) LD.out rfl ?_;refine AnyK.tm 2 (.int .i64 (h : Int)) LD.out rfl ?_;refine AnyK.tk 3 (.pointer (some ⟨g, 0 + h * 3, none⟩)) LD.out rfl (fun W hW => z0s rfl (by kernel_rfl) (by kernel_rfl) (z1o W g 0 n c h (by omega))) ?_;refine AnyK.tk 4 (.agg (z0b y).toArray) LD.out rfl (fun W hW => z0f rfl (by kernel_rfl) (R1.out W hW)) ?_;refine AnyK.tm 5 (.slice (some ⟨g, 0, none⟩) n c) LD.out rfl ?_;refine AnyK.tm 6 (.int .i64 (a : Int)) LD.out rfl ?_;refine AnyK.tk 7 (.pointer (some ⟨g, 0 + a * 3, none⟩)) LD.out rfl (fun W hW => z0s rfl (by kernel_rfl) (by kernel_rfl) (z1o W g 0 n c a (by omega))) ?_;refine AnyK.tk 8 (.agg (z0b x).toArray) LD.out rfl (fun W hW => z0f rfl (by kernel_rfl) (R2.out W hW)) ?_;refine AnyK.call 9 113 #[.agg (z0b y).toArray, .agg (z0b x).toArray] (by kernel_rfl) rfl (by kernel_rfl) (by kernel_rfl) ((HC.out wd).mono ?_);rintro e w2 ⟨rfl, l9⟩;have L2 := LD.out.trans (l9.mono LD.out.size);refine ⟨_, rfl, L2, ?_⟩;refine AnyK.tk 10 (.bool true) L2 rfl (fun W hW => y_bin rfl (by kernel_rfl) (by kernel_rfl) rfl (lss0 W z _ hzb)) ?_;refine AnyK.done _ (by kernel_rfl) ?_;have HN2 : Hid (NewH B w2 (.slice (some ⟨g, 0, none⟩) n c) L) := zh (OwK.below hN.out L2 zl);have HB2 : Hid (But (fun q => q = g) w w2) := zh (hBt.out.trans (But.of_new L2));clear l9 LD L2 HC R1 R2 hzb;go_simp;have HT : Hid (LessTo Bl x (h + 1 - m)) := zh (.inr ⟨by have := HBb.out; omega, by rw [show h + 1 - m - 1 = h - m by omega, ← hy]; exact ltH_t hlt9⟩);clear hlt9 hy hN hBt hT y
      go_wp2_with fail
      go_roundw
      case rel => exact ⟨h + 1, j, by omega, by omega, hjb, by go_num, rfl, HT, hU, HN2, HB2⟩
      case measure => simp [intOf]; omega
    | false =>
      rw [hlt9] at hzb;refine AnyK.start wr.heap.size wr (by kernel_rfl) ?_;have LD := zh (show Below wr.heap.size wr wr.drew from (Below.refl _ _).drew);generalize wr.drew = wd at LD ⊢;refine AnyK.tm 0 (.func (.func 113) #[] #[]) LD.out rfl ?_;refine AnyK.tm 1 (.slice (some ⟨g, 0, none⟩) n c) LD.out rfl ?_;refine AnyK.tm 2 (.int .i64 (h : Int)) LD.out rfl ?_;refine AnyK.tk 3 (.pointer (some ⟨g, 0 + h * 3, none⟩)) LD.out rfl (fun W hW => z0s rfl (by kernel_rfl) (by kernel_rfl) (z1o W g 0 n c h (by omega))) ?_;refine AnyK.tk 4 (.agg (z0b y).toArray) LD.out rfl (fun W hW => z0f rfl (by kernel_rfl) (R1.out W hW)) ?_;refine AnyK.tm 5 (.slice (some ⟨g, 0, none⟩) n c) LD.out rfl ?_;refine AnyK.tm 6 (.int .i64 (a : Int)) LD.out rfl ?_;refine AnyK.tk 7 (.pointer (some ⟨g, 0 + a * 3, none⟩)) LD.out rfl (fun W hW => z0s rfl (by kernel_rfl) (by kernel_rfl) (z1o W g 0 n c a (by omega))) ?_;refine AnyK.tk 8 (.agg (z0b x).toArray) LD.out rfl (fun W hW => z0f rfl (by kernel_rfl) (R2.out W hW)) ?_;refine AnyK.call 9 113 #[.agg (z0b y).toArray, .agg (z0b x).toArray] (by kernel_rfl) rfl (by kernel_rfl) (by kernel_rfl) ((HC.out wd).mono ?_);rintro e w2 ⟨rfl, l9⟩;have L2 := LD.out.trans (l9.mono LD.out.size);refine ⟨_, rfl, L2, ?_⟩;refine AnyK.tk 10 (.bool false) L2 rfl (fun W hW => y_bin rfl (by kernel_rfl) (by kernel_rfl) rfl (lss0 W z _ hzb)) ?_;refine AnyK.done _ (by kernel_rfl) ?_;have HN2 : Hid (NewH B w2 (.slice (some ⟨g, 0, none⟩) n c) L) := zh (OwK.below hN.out L2 zl);have HB2 : Hid (But (fun q => q = g) w w2) := zh (hBt.out.trans (But.of_new L2));clear l9 LD L2 HC R1 R2 hzb;go_simp;have HU : Hid (zhx Bl x (h - m)) := zh (.inr (by rw [← hy]; exact ltH_f hlt9));clear hlt9 hy hN hBt hU y
      go_wp2_with fail
      go_roundw
      case rel => exact ⟨i, h, hmi, by omega, by omega, rfl, rfl, hT, HU, HN2, HB2⟩
      case measure => simp [intOf]; omega
  obtain rfl : i = j := by omega
  obtain ⟨t, rfl⟩ : ∃ t, i = m + t := ⟨i - m, by omega⟩
  have htl : t ≤ Bl.length := by have := HBb.out; omega
  have hT2 := hT.out; have hU2 := hU.out;rw [Nat.add_sub_cancel_left] at hT2 hU2;obtain ⟨b1, hb1⟩ := zx (Bl.take t);obtain ⟨b2, hb2⟩ := zx (Bl.drop t);have hbb : Bl = b1 ++ b2 := by rw [hb1, hb2, List.take_append_drop]
  have hl1 : b1.length = t := by rw [hb1, List.length_take]; omega
  have HSt : Hid (Stab ([x] ++ Bl) (b1 ++ ([x] ++ b2))) := zh (by
   have h1 := zg7 HBs.out hT2;have h2 := zg8 HBs.out hU2;rw [← hb1] at h1;rw [← hb2] at h2;have hs := HBs.out;rw [hbb] at hs ⊢;exact zca hs h1 h2)
  have HN0 : Hid (NewH B wr (.slice (some ⟨g, 0, none⟩) n c) (z2c p x b1 (b2 ++ r) 0)) := zh (by
   rw [zbe];have h := hN.out;rw [HLe.out, hbb, List.append_assoc] at h;exact h)
  have Hl1 := zh hl1;have HBt := zh hBt.out;have hlI : ¬ (((m + t : Nat) : Int) < ((m + t : Nat) : Int)) := by omega
  have hLen2 : Hid (n = p.length + 1 + t + (b2 ++ r).length) := zh (by have := HLen.out; rw [hbb] at this; simp at this ⊢; omega);have hat : a + t < n := by have := hLen2.out; have := HA.out; omega
  obtain ⟨k9, hk9⟩ := zx (m + t);rw [← hk9] at hlI ⊢;have e9 : IntKind.i64.wrap ((k9 : Int) - 1) = ((a + t : Nat) : Int) := by rw [show ((k9 : Int) - 1) = ((a + t : Nat) : Int) by have := HM.out; omega]; exact IntWalk.i64_in _ (by omega)
  obtain ⟨q9, hq9⟩ := zx (a + t);rw [← hq9] at e9 hat;have HQ9 := zh hq9;clear hT hU hT2 hU2 hN hBt hb1 hb2 hbb hl1 hij hlt htl hk9 hq9 HBs
  go_wp2_with fail
  go_loopw [13] (fun kv wx => ∃ s : Nat, s ≤ t ∧ kv = .int .i64 ((a + s : Nat) : Int) ∧ Hid (NewH B wx (.slice (some ⟨g, 0, none⟩) n c) (z2c p x b1 (b2 ++ r) s)) ∧ Hid (But (fun q => q = g) w wx)) (fun kv _ => q9 - (intOf kv).toNat)
  case atStart => exact ⟨0, Nat.zero_le _, rfl, HN0, HBt⟩
  case round =>
   clear HN0 HBt;obtain ⟨s, hs, rfl, hN, hBt⟩ := hrel;obtain ⟨k, hk⟩ := zx (a + s);rw [← hk];by_cases hlt : k < q9
   · have hst9 : s < t := by have := HQ9.out; omega
     have hsl : s < b1.length := by rw [Hl1.out]; exact hst9
     have hll := zos (p := p) (x := x) (r := b2 ++ r) (Nat.le_of_lt hsl);have c1 := HldsR.cells hN.out.rd k (by rw [← z1q hN.out]; omega);have c2 := HldsR.cells hN.out.rd (k + 1) (by rw [← z1q hN.out]; omega);have hkp : k = p.length + s := by rw [hk, HA.out]
     rw [hkp, zbf (Nat.le_of_lt hsl), ← hkp, Nat.zero_add] at c1;rw [hkp, zjs hsl, ← hkp, Nat.zero_add] at c2;obtain ⟨c10, c11, c12⟩ := c1;obtain ⟨c20, c21, c22⟩ := c2;have hst := zju (p := p) (x := x) (r := b2 ++ r) hsl;rw [← hkp] at hst
     have hw2 : NewH B ((wr.setCells g (k * 3) (z0b (b1.getD s z05))).setCells g ((k + 1) * 3) (z0b x)) (.slice (some ⟨g, 0, none⟩) n c) (z2c p x b1 (b2 ++ r) (s + 1)) := by
      rw [← hst];exact z7o (z7o hN.out (by rw [← z1q hN.out]; omega) _) (by rw [List.length_set, ← z1q hN.out]; omega) _
     have hb2 : But (fun q => q = g) w ((wr.setCells g (k * 3) (z0b (b1.getD s z05))).setCells g ((k + 1) * 3) (z0b x)) := (hBt.out.trans (z15 (S := fun q => q = g) rfl _ _ _)).trans (z15 (S := fun q => q = g) rfl _ _ _);have f := fun i => own_fz hN.out i;have f10 := f (k * 3); have f11 := f (k * 3 + 1); have f12 := f (k * 3 + 2);have f20 := f ((k + 1) * 3); have f21 := f ((k + 1) * 3 + 1); have f22 := f ((k + 1) * 3 + 2);obtain ⟨v, hv⟩ := zx (b1.getD s z05);rw [← hv] at c20 c21 c22 hw2 hb2;obtain ⟨ui, uk, ud⟩ := x;obtain ⟨vi, vk, vd⟩ := v;unfold SV at c10 c12 c20 c22;simp only at c10 c11 c12 c20 c21 c22
     have hch : (wr.setCells g (k * 3) (z0b ⟨vi, vk, vd⟩)).setCells g ((k + 1) * 3) (z0b ⟨ui, uk, ud⟩) =
      (((((wr.setCell ⟨g, k * 3, none⟩ (.string ⟨vi.toArray⟩)).setCell ⟨g, k * 3 + 1, none⟩ (.int .i64 vk)).setCell ⟨g, k * 3 + 2, none⟩ (.string ⟨vd.toArray⟩)).setCell ⟨g, (k + 1) * 3, none⟩ (.string ⟨ui.toArray⟩)).setCell ⟨g, (k + 1) * 3 + 1, none⟩ (.int .i64 uk)).setCell ⟨g, (k + 1) * 3 + 2, none⟩ (.string ⟨ud.toArray⟩) := rfl
     rw [hch] at hw2 hb2;have HW2 := zh hw2; have HB2 := zh hb2;have w1 : IntKind.i64.wrap ((k : Int) + 1) = ((k + 1 : Nat) : Int) := by rw [show ((k : Int) + 1) = ((k + 1 : Nat) : Int) by omega]; exact IntWalk.i64_in _ (by omega)
     have i1 : (k : Int) < (n : Int) := by omega
     have i2 : ((k + 1 : Nat) : Int) < (n : Int) := by omega
     have hkI : (k : Int) < (q9 : Int) := by omega
     have HK := zh hk;clear hw2 hb2 hst hv hll f hch hk hkp hN hBt hlI
     go_upto_region 11 with fail
     go_big_region
     clear c10 c11 c12 c20 c21 c22 f10 f11 f12 f20 f21 f22 i1 i2
     go_wp2_with fail
     have HW3 := zh (HW2.out.below (Below.refl _ _).drew zl);have HB3 := zh HB2.out.drew;exact ⟨⟨s + 1, hst9, by rw [HK.out]; go_num, HW3, HB3⟩, by simp [intOf]; omega⟩
   · obtain rfl : s = t := by have := HQ9.out; omega
     have hf := hN.out;have e := zek p x b1 (b2 ++ r);rw [Hl1.out] at e;rw [e] at hf;have HF : Hid (NewH B wr (.slice (some ⟨g, 0, none⟩) n c) (p ++ ((b1 ++ ([x] ++ b2)) ++ r))) := zh (by simpa [List.append_assoc] using hf);have hkI : ¬ (k : Int) < (q9 : Int) := by omega
     clear hf e hk hN
     go_wp2_with fail
     go_end0
     exact ⟨rfl, _, HSt.out, HF.out, hBt.out⟩
theorem zg9 {w : World} {B g c n a m b : Nat} {p A r : List Hld} {y : Hld} (h0 : 1 < A.length) (hA : SortedH A) (h : NewH B w (.slice (some ⟨g, 0, none⟩) n c) (p ++ (A ++ ([y] ++ r)))) (hn : n ≤ 1000000) (ha : a = p.length) (hm : m = a + A.length) (hb : b = m + 1) :
 Calls Tryz.prog 135 #[.slice (some ⟨g, 0, none⟩) n c, .int .i64 (a : Int), .int .i64 (m : Int), .int .i64 (b : Int), .func (.func 113) #[] #[]] w (z2w B g c n p A [y] r w) := by
 obtain ⟨L, hLe⟩ := zx (p ++ (A ++ ([y] ++ r)));rw [← hLe] at h;have hnl := z1q h;have hlen : n = p.length + A.length + 1 + r.length := by rw [hnl, hLe]; simp; omega
 obtain ⟨d9, hd9⟩ := zx (m - a);have e1 : (m : Int) - (a : Int) = (d9 : Int) := by omega
 have e2 : (b : Int) - (m : Int) = 1 := by omega
 have e3 : ((d9 : Int) == 1) = false := by
  have : ¬ (d9 : Int) = 1 := by omega
  simpa using this
 have ham : a ≤ m := by omega
 have hmn : m < n := by omega
 have hd8 : d9 ≤ n := by omega
 have H := zh h; have HLe := zh hLe; have HA := zh ha; have HLen := zh hlen; have HAs := zh hA; have HM : Hid (m = a + A.length) := zh hm;clear h hLe hnl hlen ha hA hm h0 hd9 hb
 go_enter Tryz.func135, Tryz.ntmps135
 go_wp2_with fail
 clear e1 e2 e3 hd8
 go_loopw [14, 15, 16] (fun iv jv _ wr => ∃ i j : Nat, a ≤ i ∧ i ≤ j ∧ j ≤ m ∧ iv = .int .i64 i ∧ jv = .int .i64 j ∧ Hid (LeqTo A y (i - a)) ∧ Hid (GtFrom A y (j - a)) ∧ Hid (NewH B wr (.slice (some ⟨g, 0, none⟩) n c) L) ∧ Hid (But (fun q => q = g) w wr)) (fun iv jv _ _ => (intOf jv).toNat - (intOf iv).toNat)
 case atStart => exact ⟨a, m, Nat.le_refl _, ham, Nat.le_refl _, rfl, rfl, zh (.inl (by omega)), zh (.inl (by have := HM.out; omega)), H, zh (But.refl _ _)⟩
 case round =>
  clear H;obtain ⟨i, j, hmi, hij, hjb, rfl, rfl, hT, hU, hN, hBt⟩ := hrel;by_cases hlt : i < j
  · obtain ⟨h, hh⟩ := zx ((i + j) / 2);have hs9 : h < j := by omega
    have hs8 : i ≤ h := by omega
    have hai9 : a ≤ h := by omega
    obtain ⟨s, hs⟩ := zx (i + j);have s1 : IntKind.i64.wrap ((i : Int) + (j : Int)) = (s : Int) := by rw [show ((i : Int) + (j : Int)) = (s : Int) by omega]; exact IntWalk.i64_in _ (by omega)
    have s2 : IntKind.u64.wrap (s : Int) = (s : Int) := by exact IntWalk.u64_in _ (by omega)
    have s3 : (s : Int) / 2 = (h : Int) := by omega
    have s4 : IntKind.i64.wrap (h : Int) = (h : Int) := IntWalk.i64_in _ (by omega);clear hs hh
    go_upto_region 17 with fail
    clear s1 s2 s3 s4;have hL1 : L.getD m z05 = y := by rw [HLe.out]; exact mid_r1 HA.out HM.out
    have hL2 : L.getD h z05 = A.getD (h - a) z05 := by rw [HLe.out]; exact mid_r2 HA.out HM.out hai9 (by omega)
    obtain ⟨x, hx⟩ := zx (A.getD (h - a) z05);rw [← hx] at hL2;have hr1 := fun W (hW : Below wr.heap.size wr W) => zbh hN.out (i := m) (by rw [← z1q hN.out]; omega) hW;have hr2 := fun W (hW : Below wr.heap.size wr W) => zbh hN.out (i := h) (by rw [← z1q hN.out]; omega) hW;rw [hL1] at hr1;rw [hL2] at hr2;have R1 := zh hr1; have R2 := zh hr2;obtain ⟨z, hz, hzb⟩ := cmp_z y x;have HC := zh (fun W => cmp_b y x W z hz);clear hr1 hr2 hL1 hL2 hz;cases hlt9 : ltH y x with
    | true =>
      rw [hlt9] at hzb;refine AnyK.start wr.heap.size wr (by kernel_rfl) ?_;have LD := zh (show Below wr.heap.size wr wr.drew from (Below.refl _ _).drew);generalize wr.drew = wd at LD ⊢;refine AnyK.tm 0 (.func (.func 113) #[] #[]) LD.out rfl ?_;refine AnyK.tm 1 (.slice (some ⟨g, 0, none⟩) n c) LD.out rfl ?_;refine AnyK.tm 2 (.int .i64 (m : Int)) LD.out rfl ?_;refine AnyK.tk 3 (.pointer (some ⟨g, 0 + m * 3, none⟩)) LD.out rfl (fun W hW => z0s rfl (by kernel_rfl) (by kernel_rfl) (z1o W g 0 n c m (by omega))) ?_;refine AnyK.tk 4 (.agg (z0b y).toArray) LD.out rfl (fun W hW => z0f rfl (by kernel_rfl) (R1.out W hW)) ?_;refine AnyK.tm 5 (.slice (some ⟨g, 0, none⟩) n c) LD.out rfl ?_;refine AnyK.tm 6 (.int .i64 (h : Int)) LD.out rfl ?_;refine AnyK.tk 7 (.pointer (some ⟨g, 0 + h * 3, none⟩)) LD.out rfl (fun W hW => z0s rfl (by kernel_rfl) (by kernel_rfl) (z1o W g 0 n c h (by omega))) ?_;refine AnyK.tk 8 (.agg (z0b x).toArray) LD.out rfl (fun W hW => z0f rfl (by kernel_rfl) (R2.out W hW)) ?_;refine AnyK.call 9 113 #[.agg (z0b y).toArray, .agg (z0b x).toArray] (by kernel_rfl) rfl (by kernel_rfl) (by kernel_rfl) ((HC.out wd).mono ?_);rintro e w2 ⟨rfl, l9⟩;have L2 := LD.out.trans (l9.mono LD.out.size);refine ⟨_, rfl, L2, ?_⟩;refine AnyK.tk 10 (.bool true) L2 rfl (fun W hW => y_bin rfl (by kernel_rfl) (by kernel_rfl) rfl (lss0 W z _ hzb)) ?_;refine AnyK.tm 11 (.bool false) L2 rfl ?_;refine AnyK.done _ (by kernel_rfl) ?_;have HN2 : Hid (NewH B w2 (.slice (some ⟨g, 0, none⟩) n c) L) := zh (OwK.below hN.out L2 zl);have HB2 : Hid (But (fun q => q = g) w w2) := zh (hBt.out.trans (But.of_new L2));clear l9 LD L2 HC R1 R2 hzb;go_simp;have HU : Hid (GtFrom A y (h - a)) := zh (.inr (by rw [← hx]; exact ltH_t hlt9));clear hlt9 hx hN hBt hU x
      go_wp2_with fail
      go_roundw
      case rel => exact ⟨i, h, hmi, by omega, by omega, rfl, rfl, hT, HU, HN2, HB2⟩
      case measure => simp [intOf]; omega
    | false =>
      rw [hlt9] at hzb;refine AnyK.start wr.heap.size wr (by kernel_rfl) ?_;have LD := zh (show Below wr.heap.size wr wr.drew from (Below.refl _ _).drew);generalize wr.drew = wd at LD ⊢;refine AnyK.tm 0 (.func (.func 113) #[] #[]) LD.out rfl ?_;refine AnyK.tm 1 (.slice (some ⟨g, 0, none⟩) n c) LD.out rfl ?_;refine AnyK.tm 2 (.int .i64 (m : Int)) LD.out rfl ?_;refine AnyK.tk 3 (.pointer (some ⟨g, 0 + m * 3, none⟩)) LD.out rfl (fun W hW => z0s rfl (by kernel_rfl) (by kernel_rfl) (z1o W g 0 n c m (by omega))) ?_;refine AnyK.tk 4 (.agg (z0b y).toArray) LD.out rfl (fun W hW => z0f rfl (by kernel_rfl) (R1.out W hW)) ?_;refine AnyK.tm 5 (.slice (some ⟨g, 0, none⟩) n c) LD.out rfl ?_;refine AnyK.tm 6 (.int .i64 (h : Int)) LD.out rfl ?_;refine AnyK.tk 7 (.pointer (some ⟨g, 0 + h * 3, none⟩)) LD.out rfl (fun W hW => z0s rfl (by kernel_rfl) (by kernel_rfl) (z1o W g 0 n c h (by omega))) ?_;refine AnyK.tk 8 (.agg (z0b x).toArray) LD.out rfl (fun W hW => z0f rfl (by kernel_rfl) (R2.out W hW)) ?_;refine AnyK.call 9 113 #[.agg (z0b y).toArray, .agg (z0b x).toArray] (by kernel_rfl) rfl (by kernel_rfl) (by kernel_rfl) ((HC.out wd).mono ?_);rintro e w2 ⟨rfl, l9⟩;have L2 := LD.out.trans (l9.mono LD.out.size);refine ⟨_, rfl, L2, ?_⟩;refine AnyK.tk 10 (.bool false) L2 rfl (fun W hW => y_bin rfl (by kernel_rfl) (by kernel_rfl) rfl (lss0 W z _ hzb)) ?_;refine AnyK.tm 11 (.bool true) L2 rfl ?_;refine AnyK.done _ (by kernel_rfl) ?_;have HN2 : Hid (NewH B w2 (.slice (some ⟨g, 0, none⟩) n c) L) := zh (OwK.below hN.out L2 zl);have HB2 : Hid (But (fun q => q = g) w w2) := zh (hBt.out.trans (But.of_new L2));clear l9 LD L2 HC R1 R2 hzb;go_simp;have HT : Hid (LeqTo A y (h + 1 - a)) := zh (.inr ⟨by have := HM.out; omega, by rw [show h + 1 - a - 1 = h - a by omega, ← hx]; exact ltH_f hlt9⟩);clear hlt9 hx hN hBt hT x
      go_wp2_with fail
      go_roundw
      case rel => exact ⟨h + 1, j, by omega, by omega, hjb, by go_num, rfl, HT, hU, HN2, HB2⟩
      case measure => simp [intOf]; omega
  obtain rfl : i = j := by omega
  obtain ⟨t, rfl⟩ : ∃ t, i = a + t := ⟨i - a, by omega⟩
  have htl : t ≤ A.length := by have := HM.out; omega
  have hT2 := hT.out; have hU2 := hU.out;rw [Nat.add_sub_cancel_left] at hT2 hU2;obtain ⟨b1, hb1⟩ := zx (A.take t);obtain ⟨b2, hb2⟩ := zx (A.drop t);have hbb : A = b1 ++ b2 := by rw [hb1, hb2, List.take_append_drop]
  have hl1 : b1.length = t := by rw [hb1, List.length_take]; omega
  have hl2 : b2.length = A.length - t := by rw [hb2, List.length_drop]
  have HSt : Hid (Stab (A ++ [y]) (b1 ++ ([y] ++ b2))) := zh (by
   have h1 := zjr HAs.out hT2;have h2 := zor HAs.out hU2;rw [← hb1] at h1;rw [← hb2] at h2;have hs := HAs.out;rw [hbb] at hs ⊢;exact zah hs h1 h2)
  obtain ⟨p2, hp2⟩ := zx (p ++ b1)
  have HN0 : Hid (NewH B wr (.slice (some ⟨g, 0, none⟩) n c) (z2c p2 y b2 r b2.length)) := zh (by
   rw [zek, hp2];have h := hN.out;rw [HLe.out, hbb] at h;simpa [List.append_assoc] using h)
  obtain ⟨q9, hq9⟩ := zx (a + t);obtain ⟨l9, hl9⟩ := zx b2.length;have hqm : m = q9 + l9 := by have := HM.out; omega
  have HP2 : Hid (q9 = p2.length) := zh (by rw [hp2, List.length_append, hl1, hq9, HA.out]);have HPe := zh hp2; have HL9 := zh hl9; have HQM := zh hqm;have HBt := zh hBt.out;have hqn : q9 + l9 < n := by omega
  rw [← hl9] at HN0;rw [← hq9];clear hT hU hT2 hU2 hN hBt hb1 hb2 hbb hl1 hl2 hij hlt htl hq9 hl9 hp2 hqm hmi hjb HAs
  go_wp2_with fail
  go_loopw [17] (fun kv wx => ∃ k s : Nat, s ≤ l9 ∧ kv = .int .i64 k ∧ Hid (k = q9 + s) ∧ Hid (NewH B wx (.slice (some ⟨g, 0, none⟩) n c) (z2c p2 y b2 r s)) ∧ Hid (But (fun q => q = g) w wx)) (fun kv _ => (intOf kv).toNat - q9)
  case atStart => exact ⟨m, l9, Nat.le_refl _, rfl, HQM, HN0, HBt⟩
  case round =>
   clear HN0 HBt;obtain ⟨k, s, hs, rfl, hk, hN, hBt⟩ := hrel;by_cases hlt : q9 < k
   · obtain ⟨s, rfl⟩ : ∃ s', s = s' + 1 := ⟨s - 1, by have := hk.out; omega⟩
     obtain ⟨j, rfl⟩ : ∃ j, k = j + 1 := ⟨k - 1, by omega⟩
     have hjs : j = q9 + s := by have := hk.out; omega
     have hjp : j = p2.length + s := by rw [hjs, HP2.out]
     have hjn : j + 1 < n := by omega
     have hsl : s < b2.length := by rw [← HL9.out]; omega
     have c1 := HldsR.cells hN.out.rd (j + 1) (by rw [← z1q hN.out]; omega);have c2 := HldsR.cells hN.out.rd j (by rw [← z1q hN.out]; omega);rw [show j + 1 = p2.length + (s + 1) by omega, zbf (by omega), show p2.length + (s + 1) = j + 1 by omega, Nat.zero_add] at c1;rw [show j = p2.length + (s + 1) - 1 by omega, zjt (by omega) (by omega), show p2.length + (s + 1) - 1 = j by omega, Nat.zero_add, Nat.add_sub_cancel] at c2;obtain ⟨c10, c11, c12⟩ := c1;obtain ⟨c20, c21, c22⟩ := c2;have hst := zjv (p := p2) (x := y) (r := r) hsl;rw [← hjp] at hst
     have hw2 : NewH B ((wr.setCells g ((j + 1) * 3) (z0b (b2.getD s z05))).setCells g (j * 3) (z0b y)) (.slice (some ⟨g, 0, none⟩) n c) (z2c p2 y b2 r s) := by
      rw [← hst];exact z7o (z7o hN.out (by rw [← z1q hN.out]; omega) _) (by rw [List.length_set, ← z1q hN.out]; omega) _
     have hb2 : But (fun q => q = g) w ((wr.setCells g ((j + 1) * 3) (z0b (b2.getD s z05))).setCells g (j * 3) (z0b y)) := (hBt.out.trans (z15 (S := fun q => q = g) rfl _ _ _)).trans (z15 (S := fun q => q = g) rfl _ _ _);have f := fun i => own_fz hN.out i;have f10 := f ((j + 1) * 3); have f11 := f ((j + 1) * 3 + 1); have f12 := f ((j + 1) * 3 + 2);have f20 := f (j * 3); have f21 := f (j * 3 + 1); have f22 := f (j * 3 + 2);obtain ⟨v, hv⟩ := zx (b2.getD s z05);rw [← hv] at c20 c21 c22 hw2 hb2;obtain ⟨ui, uk, ud⟩ := y;obtain ⟨vi, vk, vd⟩ := v;unfold SV at c10 c12 c20 c22;simp only at c10 c11 c12 c20 c21 c22
     have hch : (wr.setCells g ((j + 1) * 3) (z0b ⟨vi, vk, vd⟩)).setCells g (j * 3) (z0b ⟨ui, uk, ud⟩) =
      (((((wr.setCell ⟨g, (j + 1) * 3, none⟩ (.string ⟨vi.toArray⟩)).setCell ⟨g, (j + 1) * 3 + 1, none⟩ (.int .i64 vk)).setCell ⟨g, (j + 1) * 3 + 2, none⟩ (.string ⟨vd.toArray⟩)).setCell ⟨g, j * 3, none⟩ (.string ⟨ui.toArray⟩)).setCell ⟨g, j * 3 + 1, none⟩ (.int .i64 uk)).setCell ⟨g, j * 3 + 2, none⟩ (.string ⟨ud.toArray⟩) := rfl
     rw [hch] at hw2 hb2;have HW2 := zh hw2; have HB2 := zh hb2; have HJ := zh hjs;have w1 : IntKind.i64.wrap (((j + 1 : Nat) : Int) - 1) = (j : Int) := by rw [show (((j + 1 : Nat) : Int) - 1) = (j : Int) by omega]; exact IntWalk.i64_in _ (by omega)
     have w2 : IntKind.i64.wrap (j : Int) = (j : Int) := IntWalk.i64_in _ (by omega);have i1 : ((j + 1 : Nat) : Int) < (n : Int) := by omega
     have i2 : (j : Int) < (n : Int) := by omega
     have hkI : (q9 : Int) < ((j + 1 : Nat) : Int) := by omega
     clear hw2 hb2 hst hv f hch hk hjp hjs hN hBt hsl
     go_upto_region 23 with fail
     go_big_region
     clear c10 c11 c12 c20 c21 c22 f10 f11 f12 f20 f21 f22 i1 i2
     go_wp2_with fail
     have HW3 := zh (HW2.out.below (Below.refl _ _).drew zl);have HB3 := zh HB2.out.drew;exact ⟨⟨j, s, by omega, by go_num, HJ, HW3, HB3⟩, by simp [intOf]; omega⟩
   · obtain rfl : s = 0 := by have := hk.out; omega
     have hf := hN.out;rw [zbe, HPe.out] at hf;have HF : Hid (NewH B wr (.slice (some ⟨g, 0, none⟩) n c) (p ++ ((b1 ++ ([y] ++ b2)) ++ r))) := zh (by simpa [List.append_assoc] using hf);have hkI : ¬ (q9 : Int) < (k : Int) := by omega
     clear hf hk hN
     go_wp2_with fail
     go_end0
     exact ⟨rfl, _, HSt.out, HF.out, hBt.out⟩
structure Srch (A B : List Hld) (s q : Nat) : Prop where
 sq : s ≤ q
 qa : q ≤ A.length
 qm : q ≤ (A.length + B.length) / 2
 lo : (A.length + B.length) / 2 ≤ s + B.length
 no : s = 0 ∨ s + B.length = (A.length + B.length) / 2 ∨ ltH ((A ++ B).getD ((A.length + B.length) / 2 + A.length - s) z05) ((A ++ B).getD (s - 1) z05) = false
 yes : q = A.length ∨ q = (A.length + B.length) / 2 ∨ ltH ((A ++ B).getD ((A.length + B.length) / 2 + A.length - 1 - q) z05) ((A ++ B).getD q z05) = true
theorem Srch.found {A B : List Hld} {s : Nat} (h : Srch A B s s) : Found A B s := ⟨h.qa, h.lo, h.qm, h.no, h.yes⟩
theorem Srch.up {A B : List Hld} {s q t : Nat} (h : Srch A B s q) (h1 : s ≤ t) (h2 : t < q) (hf : ltH ((A ++ B).getD ((A.length + B.length) / 2 + A.length - 1 - t) z05) ((A ++ B).getD t z05) = false) : Srch A B (t + 1) q :=
 ⟨h2, h.qa, h.qm, by have := h.lo; omega, .inr (.inr (by rw [show (A.length + B.length) / 2 + A.length - (t + 1) = (A.length + B.length) / 2 + A.length - 1 - t by omega, Nat.add_sub_cancel]; exact hf)), h.yes⟩
theorem Srch.down {A B : List Hld} {s q t : Nat} (h : Srch A B s q) (h1 : s ≤ t) (h2 : t < q) (hf : ltH ((A ++ B).getD ((A.length + B.length) / 2 + A.length - 1 - t) z05) ((A ++ B).getD t z05) = true) : Srch A B s t :=
 ⟨h1, by have := h.qa; omega, by have := h.qm; omega, h.lo, h.no, .inr (.inr hf)⟩
theorem mid_g {p A Bl r : List Hld} {t : Nat} (h : t < A.length + Bl.length) : (p ++ (A ++ (Bl ++ r))).getD (p.length + t) z05 = (A ++ Bl).getD t z05 := by
 rw [z2l (by omega), Nat.add_sub_cancel_left, ← List.append_assoc, z5d (by rw [List.length_append]; exact h)]
theorem zot (W : World) (x y : Nat) (h : y ≤ x) (hx : x ≤ 10000000) : (binOp .sub 3 (.int .i64 (x : Int)) (.int .i64 (y : Int))).run Tryz.prog W = .ok (.int .i64 ((x - y : Nat) : Int)) W := by
 have e : IntKind.i64.wrap ((x : Int) - (y : Int)) = ((x - y : Nat) : Int) := by rw [show ((x : Int) - (y : Int)) = ((x - y : Nat) : Int) by omega]; exact IntWalk.i64_in _ (by omega)
 simp [go_sem, e]
theorem zou {w : World} {B g c n a m b : Nat} {p A Bl r : List Hld} (hA2 : 1 < A.length) (hB2 : 1 < Bl.length) (hA : SortedH A) (hB : SortedH Bl) (h : NewH B w (.slice (some ⟨g, 0, none⟩) n c) (p ++ (A ++ (Bl ++ r)))) (hn : n ≤ 1000000) (ha : a = p.length) (hm : m = a + A.length) (hb : b = m + Bl.length)
 (IH : ∀ (w' : World) (p' A' B' r' : List Hld) (a' m' b' : Nat), A'.length + B'.length < A.length + Bl.length → 0 < A'.length → 0 < B'.length → SortedH A' → SortedH B' → NewH B w' (.slice (some ⟨g, 0, none⟩) n c) (p' ++ (A' ++ (B' ++ r'))) → a' = p'.length → m' = a' + A'.length → b' = m' + B'.length → Calls Tryz.prog 135 #[.slice (some ⟨g, 0, none⟩) n c, .int .i64 (a' : Int), .int .i64 (m' : Int), .int .i64 (b' : Int), .func (.func 113) #[] #[]] w' (z2w B g c n p' A' B' r' w')) :
 Calls Tryz.prog 135 #[.slice (some ⟨g, 0, none⟩) n c, .int .i64 (a : Int), .int .i64 (m : Int), .int .i64 (b : Int), .func (.func 113) #[] #[]] w (z2w B g c n p A Bl r w) := by
 obtain ⟨L, hLe⟩ := zx (p ++ (A ++ (Bl ++ r)));rw [← hLe] at h;have hnl := z1q h;have hlen : n = p.length + A.length + Bl.length + r.length := by rw [hnl, hLe]; simp; omega
 obtain ⟨d9, hd9⟩ := zx (m - a);obtain ⟨d8, hd8⟩ := zx (b - m);have e1 : (m : Int) - (a : Int) = (d9 : Int) := by omega
 have e2 : (b : Int) - (m : Int) = (d8 : Int) := by omega
 have e3 : ((d9 : Int) == 1) = false := by
  have : ¬ (d9 : Int) = 1 := by omega
  simpa using this
 have e4 : ((d8 : Int) == 1) = false := by
  have : ¬ (d8 : Int) = 1 := by omega
  simpa using this
 have hbn : b ≤ n := by omega
 have h9n : d9 ≤ n := by omega
 have h8n : d8 ≤ n := by omega
 obtain ⟨mid, hmid⟩ := zx ((a + b) / 2);obtain ⟨s, hs⟩ := zx (a + b);obtain ⟨k9, hk9⟩ := zx (mid + m);have hm0 : a + (A.length + Bl.length) / 2 = mid := by omega
 have s1 : IntKind.i64.wrap ((a : Int) + (b : Int)) = (s : Int) := by rw [show ((a : Int) + (b : Int)) = (s : Int) by omega]; exact IntWalk.i64_in _ (by omega)
 have s2 : IntKind.u64.wrap (s : Int) = (s : Int) := IntWalk.u64_in _ (by omega);have s3 : (s : Int) / 2 = (mid : Int) := by omega
 have s4 : IntKind.i64.wrap (mid : Int) = (mid : Int) := IntWalk.i64_in _ (by omega);have t1 : IntKind.i64.wrap ((mid : Int) + (m : Int)) = (k9 : Int) := by rw [show ((mid : Int) + (m : Int)) = (k9 : Int) by omega]; exact IntWalk.i64_in _ (by omega)
 have hmidn : mid ≤ n := by omega
 have hmn : m ≤ n := by omega
 have hk9n : k9 ≤ 2000000 := by omega
 have hk91 : 1 ≤ k9 := by omega
 have HMid0 := zh hmid;have HMid := zh hm0; have HK9 := zh hk9;have H := zh h; have HLe := zh hLe; have HA := zh ha; have HBb := zh hb; have HLen := zh hlen; have HAs := zh hA; have HBs := zh hB; have HM : Hid (m = a + A.length) := zh hm;have HA2 := zh hA2; have HB2 := zh hB2; have HIH := zh IH;have HC0 : Hid (¬ mid < m → Srch A Bl 0 A.length) := zh fun h => ⟨Nat.zero_le _, Nat.le_refl _, by omega, by omega, .inl rfl, .inl rfl⟩
 have HC1 : Hid (mid < m → b + a ≤ k9 ∧ Srch A Bl (k9 - b - a) (mid - a)) := zh fun h => ⟨by omega, by omega, by omega, by omega, by omega, .inr (.inl (by omega)), .inr (.inl (by omega))⟩
 clear h hLe hnl hlen ha hb hA hB hm hd9 hd8 hmid hs hk9 hm0 hA2 hB2 IH
 go_enter Tryz.func135, Tryz.ntmps135
 go_upto_if 140 with fail
 clear e1 e2 e3 e4 s1 s2 s3 s4 h9n h8n t1
 go_cut [20, 21] from 138 to 146 (fun sv rv wx => ∃ i j : Nat, a ≤ i ∧ i ≤ j ∧ j ≤ m ∧ sv = .int .i64 i ∧ rv = .int .i64 j ∧ Hid (Srch A Bl (i - a) (j - a)) ∧ wx = w)
 case first =>
  by_cases hc : mid < m
  · have hcI : (mid : Int) < (m : Int) := by omega
    obtain ⟨h1, h2⟩ := HC1.out hc;obtain ⟨i, hi⟩ := zx (k9 - b);have t2 : IntKind.i64.wrap ((k9 : Int) - (b : Int)) = (i : Int) := by rw [show ((k9 : Int) - (b : Int)) = (i : Int) by omega]; exact IntWalk.i64_in _ (by omega)
    have hai : a ≤ i := by omega
    rw [← hi] at h2;have him : i ≤ mid := by have := h2.sq; have := HMid.out; omega
    have H2 := zh h2;have hmm : mid ≤ m := by omega
    clear hi h1 h2 hc
    go_wp2_with fail
    go_meet
    case rel => exact ⟨i, mid, hai, him, hmm, rfl, rfl, H2, rfl⟩
  · have hcI : ¬ (mid : Int) < (m : Int) := by omega
    have h2 := HC0.out hc;have H2 : Hid (Srch A Bl (a - a) (m - a)) := zh (by rw [Nat.sub_self, show m - a = A.length by have := HM.out; omega]; exact h2);have ham : a ≤ m := by have := HM.out; omega
    clear h2 hc
    go_wp2_with fail
    go_meet
    case rel => exact ⟨a, m, Nat.le_refl _, ham, Nat.le_refl _, rfl, rfl, H2, rfl⟩
 obtain ⟨i0, j0, hai0, hij0, hjm0, rfl, rfl, HS0, hwc⟩ := hcut;have hwc2 := hwc.symm;clear hwc;subst hwc2;clear HC0 HC1;obtain ⟨p9, hp9⟩ := zx (k9 - 1);have t3 : IntKind.i64.wrap ((k9 : Int) - 1) = (p9 : Int) := by rw [show ((k9 : Int) - 1) = (p9 : Int) by omega]; exact IntWalk.i64_in _ (by omega)
 have hp9n : p9 ≤ 2000000 := by omega
 have HP9 := zh hp9;clear hp9
 go_wp2_with fail
 clear t3
 go_loopw [20, 21, 23] (fun iv jv _ wr => ∃ i j : Nat, a ≤ i ∧ i ≤ j ∧ j ≤ m ∧ iv = .int .i64 i ∧ jv = .int .i64 j ∧ Hid (Srch A Bl (i - a) (j - a)) ∧ Hid (NewH B wr (.slice (some ⟨g, 0, none⟩) n c) L) ∧ Hid (But (fun q => q = g) w wr)) (fun iv jv _ _ => (intOf jv).toNat - (intOf iv).toNat)
 case atStart => exact ⟨i0, j0, hai0, hij0, hjm0, rfl, rfl, HS0, H, zh (But.refl _ _)⟩
 case round =>
  clear H HS0;obtain ⟨i, j, hai, hij, hjm, rfl, rfl, hS, hN, hBt⟩ := hrel;by_cases hlt : i < j
  · obtain ⟨h, hh⟩ := zx ((i + j) / 2);have hs9 : h < j := by omega
    have hs8 : i ≤ h := by omega
    have hah : a ≤ h := by omega
    obtain ⟨s, hs⟩ := zx (i + j);have s1 : IntKind.i64.wrap ((i : Int) + (j : Int)) = (s : Int) := by rw [show ((i : Int) + (j : Int)) = (s : Int) by omega]; exact IntWalk.i64_in _ (by omega)
    have s2 : IntKind.u64.wrap (s : Int) = (s : Int) := by exact IntWalk.u64_in _ (by omega)
    have s3 : (s : Int) / 2 = (h : Int) := by omega
    have s4 : IntKind.i64.wrap (h : Int) = (h : Int) := IntWalk.i64_in _ (by omega);have q1 := hS.out.qa; have q2 := hS.out.qm; have q3 := hS.out.lo;have hp9h : h ≤ p9 := by have := HP9.out; have := HK9.out; have := HMid.out; omega
    obtain ⟨x1, hx1⟩ := zx (p9 - h);obtain ⟨t9, ht9⟩ := zx ((A.length + Bl.length) / 2 + A.length - 1 - (h - a));have hx1e : x1 = a + t9 := by have := HP9.out; have := HK9.out; have := HMid.out; have := HM.out; omega
    have ht9b : t9 < A.length + Bl.length := by have := HM.out; omega
    have hx1n : x1 < n := by have := HBb.out; have := HM.out; omega
    have hhn : h < n := by omega
    have HX1 := zh hx1
    have hL1 : L.getD x1 z05 = (A ++ Bl).getD t9 z05 := by
     rw [HLe.out, show x1 = p.length + t9 by have := HA.out; omega]; exact mid_g ht9b
    have hL2 : L.getD h z05 = (A ++ Bl).getD (h - a) z05 := by
     conv => lhs; rw [HLe.out, show h = p.length + (h - a) by have := HA.out; omega]
     exact mid_g (by omega)
    have HT9 := zh ht9;clear hs hh q1 q2 q3 hx1e hx1 ht9 ht9b
    go_upto_region 35 with fail
    clear s1 s2 s3 s4;obtain ⟨y, hy⟩ := zx ((A ++ Bl).getD t9 z05);obtain ⟨x, hx⟩ := zx ((A ++ Bl).getD (h - a) z05);rw [← hy] at hL1;rw [← hx] at hL2;rw [HT9.out] at hy;have HY := zh hy; have HX := zh hx;have hr1 := fun W (hW : Below wr.heap.size wr W) => zbh hN.out (i := x1) (by rw [← z1q hN.out]; omega) hW;have hr2 := fun W (hW : Below wr.heap.size wr W) => zbh hN.out (i := h) (by rw [← z1q hN.out]; omega) hW;rw [hL1] at hr1;rw [hL2] at hr2;have R1 := zh hr1; have R2 := zh hr2;obtain ⟨z, hz, hzb⟩ := cmp_z y x;have HC := zh (fun W => cmp_b y x W z hz);clear hr1 hr2 hL1 hL2 hz hy hx;cases hlt9 : ltH y x with
    | true =>
      rw [hlt9] at hzb;refine AnyK.start wr.heap.size wr (by kernel_rfl) ?_;have LD := zh (show Below wr.heap.size wr wr.drew from (Below.refl _ _).drew);generalize wr.drew = wd at LD ⊢;refine AnyK.tm 0 (.func (.func 113) #[] #[]) LD.out rfl ?_;refine AnyK.tm 1 (.slice (some ⟨g, 0, none⟩) n c) LD.out rfl ?_;refine AnyK.tm 2 (.int .i64 (p9 : Int)) LD.out rfl ?_;refine AnyK.tm 3 (.int .i64 (h : Int)) LD.out rfl ?_;refine AnyK.tk 4 (.int .i64 (x1 : Int)) LD.out rfl (fun W hW => y_bin (x := .int .i64 (p9 : Int)) (y := .int .i64 (h : Int)) rfl (by kernel_rfl) (by kernel_rfl) rfl (by rw [HX1.out]; exact zot W p9 h hp9h (by omega))) ?_;refine AnyK.tk 5 (.pointer (some ⟨g, 0 + x1 * 3, none⟩)) LD.out rfl (fun W hW => z0s rfl (by kernel_rfl) (by kernel_rfl) (z1o W g 0 n c x1 (by omega))) ?_;refine AnyK.tk 6 (.agg (z0b y).toArray) LD.out rfl (fun W hW => z0f rfl (by kernel_rfl) (R1.out W hW)) ?_;refine AnyK.tm 7 (.slice (some ⟨g, 0, none⟩) n c) LD.out rfl ?_;refine AnyK.tm 8 (.int .i64 (h : Int)) LD.out rfl ?_;refine AnyK.tk 9 (.pointer (some ⟨g, 0 + h * 3, none⟩)) LD.out rfl (fun W hW => z0s rfl (by kernel_rfl) (by kernel_rfl) (z1o W g 0 n c h (by omega))) ?_;refine AnyK.tk 10 (.agg (z0b x).toArray) LD.out rfl (fun W hW => z0f rfl (by kernel_rfl) (R2.out W hW)) ?_;refine AnyK.call 11 113 #[.agg (z0b y).toArray, .agg (z0b x).toArray] (by kernel_rfl) rfl (by kernel_rfl) (by kernel_rfl) ((HC.out wd).mono ?_);rintro e w2 ⟨rfl, l9⟩;have L2 := LD.out.trans (l9.mono LD.out.size);refine ⟨_, rfl, L2, ?_⟩;refine AnyK.tk 12 (.bool true) L2 rfl (fun W hW => y_bin rfl (by kernel_rfl) (by kernel_rfl) rfl (lss0 W z _ hzb)) ?_;refine AnyK.tm 13 (.bool false) L2 rfl ?_;refine AnyK.done _ (by kernel_rfl) ?_;have HN2 : Hid (NewH B w2 (.slice (some ⟨g, 0, none⟩) n c) L) := zh (OwK.below hN.out L2 zl);have HB2' : Hid (But (fun q => q = g) w w2) := zh (hBt.out.trans (But.of_new L2));clear l9 LD L2 HC R1 R2 hzb;go_simp;have HS2 : Hid (Srch A Bl (i - a) (h - a)) := zh (hS.out.down (by omega) (by omega) (by rw [← HY.out, ← HX.out]; exact hlt9));clear hlt9 hS hN hBt HY HX hx1n hp9h HX1
      go_wp2_with fail
      go_roundw
      case rel => exact ⟨i, h, hai, by omega, by omega, rfl, rfl, HS2, HN2, HB2'⟩
      case measure => simp [intOf]; omega
    | false =>
      rw [hlt9] at hzb;refine AnyK.start wr.heap.size wr (by kernel_rfl) ?_;have LD := zh (show Below wr.heap.size wr wr.drew from (Below.refl _ _).drew);generalize wr.drew = wd at LD ⊢;refine AnyK.tm 0 (.func (.func 113) #[] #[]) LD.out rfl ?_;refine AnyK.tm 1 (.slice (some ⟨g, 0, none⟩) n c) LD.out rfl ?_;refine AnyK.tm 2 (.int .i64 (p9 : Int)) LD.out rfl ?_;refine AnyK.tm 3 (.int .i64 (h : Int)) LD.out rfl ?_;refine AnyK.tk 4 (.int .i64 (x1 : Int)) LD.out rfl (fun W hW => y_bin (x := .int .i64 (p9 : Int)) (y := .int .i64 (h : Int)) rfl (by kernel_rfl) (by kernel_rfl) rfl (by rw [HX1.out]; exact zot W p9 h hp9h (by omega))) ?_;refine AnyK.tk 5 (.pointer (some ⟨g, 0 + x1 * 3, none⟩)) LD.out rfl (fun W hW => z0s rfl (by kernel_rfl) (by kernel_rfl) (z1o W g 0 n c x1 (by omega))) ?_;refine AnyK.tk 6 (.agg (z0b y).toArray) LD.out rfl (fun W hW => z0f rfl (by kernel_rfl) (R1.out W hW)) ?_;refine AnyK.tm 7 (.slice (some ⟨g, 0, none⟩) n c) LD.out rfl ?_;refine AnyK.tm 8 (.int .i64 (h : Int)) LD.out rfl ?_;refine AnyK.tk 9 (.pointer (some ⟨g, 0 + h * 3, none⟩)) LD.out rfl (fun W hW => z0s rfl (by kernel_rfl) (by kernel_rfl) (z1o W g 0 n c h (by omega))) ?_;refine AnyK.tk 10 (.agg (z0b x).toArray) LD.out rfl (fun W hW => z0f rfl (by kernel_rfl) (R2.out W hW)) ?_;refine AnyK.call 11 113 #[.agg (z0b y).toArray, .agg (z0b x).toArray] (by kernel_rfl) rfl (by kernel_rfl) (by kernel_rfl) ((HC.out wd).mono ?_);rintro e w2 ⟨rfl, l9⟩;have L2 := LD.out.trans (l9.mono LD.out.size);refine ⟨_, rfl, L2, ?_⟩;refine AnyK.tk 12 (.bool false) L2 rfl (fun W hW => y_bin rfl (by kernel_rfl) (by kernel_rfl) rfl (lss0 W z _ hzb)) ?_;refine AnyK.tm 13 (.bool true) L2 rfl ?_;refine AnyK.done _ (by kernel_rfl) ?_;have HN2 : Hid (NewH B w2 (.slice (some ⟨g, 0, none⟩) n c) L) := zh (OwK.below hN.out L2 zl);have HB2' : Hid (But (fun q => q = g) w w2) := zh (hBt.out.trans (But.of_new L2));clear l9 LD L2 HC R1 R2 hzb;go_simp
      have HS2 : Hid (Srch A Bl (h + 1 - a) (j - a)) := zh (by
       rw [show h + 1 - a = (h - a) + 1 by omega];exact hS.out.up (by omega) (by omega) (by rw [← HY.out, ← HX.out]; exact hlt9))
      clear hlt9 hS hN hBt HY HX hx1n hp9h HX1
      go_wp2_with fail
      go_roundw
      case rel => exact ⟨h + 1, j, by omega, by omega, hjm, by go_num, rfl, HS2, HN2, HB2'⟩
      case measure => simp [intOf]; omega
  obtain rfl : i = j := by omega
  have hF := hS.out.found;obtain ⟨t, ht⟩ := zx (i - a);rw [← ht] at hF;obtain ⟨md, hmd⟩ := zx ((A.length + Bl.length) / 2);obtain ⟨hq1, hq2⟩ := hF.parts HAs.out HBs.out;have f1 := hF.le; have f2 := hF.lo; have f3 := hF.mid;rw [← hmd] at hq1 hq2 f2 f3;obtain ⟨u1, hu1⟩ := zx (A.take t);obtain ⟨u2, hu2⟩ := zx (A.drop t);obtain ⟨v1, hv1⟩ := zx (Bl.take (md - t));obtain ⟨v2, hv2⟩ := zx (Bl.drop (md - t));rw [← hu2, ← hv1] at hq1;rw [← hu1, ← hv2] at hq2;have hAe : A = u1 ++ u2 := by rw [hu1, hu2, List.take_append_drop]
  have hBe : Bl = v1 ++ v2 := by rw [hv1, hv2, List.take_append_drop]
  have l1 : u1.length = t := by rw [hu1, List.length_take]; omega
  have l2 : u2.length = A.length - t := by rw [hu2, List.length_drop]
  have l3 : v1.length = md - t := by rw [hv1, List.length_take]; omega
  have l4 : v2.length = Bl.length - (md - t) := by rw [hv2, List.length_drop]
  obtain ⟨e9, he9⟩ := zx (k9 - i);have g1 : i = p.length + u1.length := by rw [l1, ht]; have := HA.out; omega
  have g2 : m = p.length + u1.length + u2.length := by have := HM.out; have := HA.out; omega
  have g3 : e9 = p.length + u1.length + u2.length + v1.length := by have := HK9.out; have := HMid.out; have := HM.out; have := HA.out; omega
  have g4 : mid = p.length + u1.length + v1.length := by have := HMid.out; have := HA.out; omega
  have g5 : b = p.length + u1.length + u2.length + v1.length + v2.length := by have := HBb.out; have := HM.out; have := HA.out; omega
  have hte : IntKind.i64.wrap ((k9 : Int) - (i : Int)) = (e9 : Int) := by rw [show ((k9 : Int) - (i : Int)) = (e9 : Int) by have := HK9.out; omega]; exact IntWalk.i64_in _ (by omega)
  have hsA := HAs.out; have hsB := HBs.out;rw [hAe] at hsA;rw [hBe] at hsB;have HFin : Hid (∀ M1 M2, Stab (u1 ++ v1) M1 → Stab (u2 ++ v2) M2 → Stab (A ++ Bl) (M1 ++ M2)) := zh fun M1 M2 h1 h2 => by rw [hAe, hBe]; exact z6b h1 h2 hsA hsB hq1 hq2
  have HN0 : Hid (NewH B wr (.slice (some ⟨g, 0, none⟩) n c) (p ++ (u1 ++ (u2 ++ (v1 ++ (v2 ++ r)))))) := zh (by
   have h := hN.out;rw [HLe.out, hAe, hBe] at h;simpa [List.append_assoc] using h)
  have HS1 : Hid (SortedH u1 ∧ SortedH u2 ∧ SortedH v1 ∧ SortedH v2) := zh ⟨hsA.left, hsA.right, hsB.left, hsB.right⟩;have HLt : Hid (u1.length + v1.length < A.length + Bl.length ∧ u2.length + v2.length < A.length + Bl.length) := zh ⟨by have := HA2.out; have := HB2.out; omega, by have := HA2.out; have := HB2.out; omega⟩;have G1 := zh g1; have G2 := zh g2; have G3 := zh g3; have G4 := zh g4; have G5 := zh g5;have HBt := zh hBt.out;have he9n : e9 ≤ n := by omega
  clear hS hF ht hmd hq1 hq2 f1 f2 f3 hu1 hu2 hv1 hv2 hAe hBe l1 l2 l3 l4 he9 g1 g2 g3 g4 g5 hsA hsB hN hBt hij hlt;obtain ⟨β1, hβ1⟩ := zx ((decide (i < m) && decide (m < e9)));obtain ⟨β2, hβ2⟩ := zx ((decide (a < i) && decide (i < mid)));obtain ⟨β3, hβ3⟩ := zx ((decide (mid < e9) && decide (e9 < b)));have HB1 := zh hβ1; have HB2 := zh hβ2; have HB3 := zh hβ3;clear hβ1 hβ2 hβ3
  go_upto_region 39 with fail
  clear hte
  go_cut [185] from 178 to 185 (fun cv wx => cv = .bool β1 ∧ wx = wr)
  case first =>
   by_cases x1 : i < m
   · have x1I : (i : Int) < (m : Int) := by omega
     by_cases x2 : m < e9
     · have x2I : (m : Int) < (e9 : Int) := by omega
       have hb : β1 = true := by rw [HB1.out, decide_eq_true x1, decide_eq_true x2]; rfl
       subst hb
       go_wp2_with fail
       go_meet
       case rel => exact ⟨rfl, rfl⟩
     · have x2I : ¬ (m : Int) < (e9 : Int) := by omega
       have hb : β1 = false := by rw [HB1.out, decide_eq_true x1, decide_eq_false x2]; rfl
       subst hb
       go_wp2_with fail
       go_meet
       case rel => exact ⟨rfl, rfl⟩
   · have x1I : ¬ (i : Int) < (m : Int) := by omega
     have hb : β1 = false := by rw [HB1.out, decide_eq_false x1]; rfl
     subst hb
     go_wp2_with fail
     go_meet
     case rel => exact ⟨rfl, rfl⟩
  obtain ⟨rfl, rfl⟩ := hcut;generalize wc = wr at HN0 HBt ⊢
  have HR1 : Hid (β1 = true → Calls Tryz.prog 147 #[.slice (some ⟨g, 0, none⟩) n c, .int .i64 (i : Int), .int .i64 (m : Int), .int .i64 (e9 : Int), .func (.func 113) #[] #[]] wr (z5r B g c n (p ++ (u1 ++ (v1 ++ (u2 ++ (v2 ++ r))))) wr)) := zh fun hb => by
   rw [HB1.out, Bool.and_eq_true, decide_eq_true_eq, decide_eq_true_eq] at hb;have h := zjq (w := wr) (B := B) (g := g) (c := c) (n := n) (a := i) (m := m) (b := e9) (p := p ++ u1) (u := u2) (v := v1) (r := v2 ++ r) (by rw [List.append_assoc]; exact HN0.out) (by have := G1.out; have := G2.out; omega) (by have := G2.out; have := G3.out; omega) hn (by rw [List.length_append]; exact G1.out) (by rw [List.length_append]; exact G2.out) (by rw [List.length_append]; exact G3.out);rw [List.append_assoc] at h;exact h
  have HNo1 : Hid (β1 = false → NewH B wr (.slice (some ⟨g, 0, none⟩) n c) (p ++ (u1 ++ (v1 ++ (u2 ++ (v2 ++ r)))))) := zh fun hb => by
   have h := HN0.out
   have hd : u2 = [] ∨ v1 = [] := by
    rw [HB1.out, Bool.and_eq_false_iff, decide_eq_false_iff_not, decide_eq_false_iff_not] at hb;rcases hb with hb | hb
    · exact .inl (List.eq_nil_of_length_eq_zero (by have := G1.out; have := G2.out; omega))
    · exact .inr (List.eq_nil_of_length_eq_zero (by have := G2.out; have := G3.out; omega))
   rcases hd with rfl | rfl
   · rw [List.nil_append] at h ⊢; exact h
   · rw [List.nil_append] at h ⊢; exact h
  go_upto_if 185 with fail
  go_cut [24] from 185 to 191 (fun ev wx => ev = .int .i64 (e9 : Int) ∧ Hid (NewH B wx (.slice (some ⟨g, 0, none⟩) n c) (p ++ (u1 ++ (v1 ++ (u2 ++ (v2 ++ r)))))) ∧ Hid (But (fun q => q = g) w wx))
  case first =>
   cases β1 with
   | true =>
     have HC := zh (HR1.out rfl);clear HR1 HNo1 HN0
     go_wp2_with fail
     refine HC.out.mono ?_;rintro e w2 ⟨rfl, n2, b2⟩;have HN2 := zh n2; have HB2' := zh (HBt.out.trans b2);clear n2 b2 HC
     go_wp2_with fail
     go_meet
     case rel => exact ⟨rfl, HN2, HB2'⟩
   | false =>
     have HN2 := zh (HNo1.out rfl);clear HR1 HNo1 HN0
     go_wp2_with fail
     go_meet
     case rel => exact ⟨rfl, HN2, HBt⟩
  obtain ⟨rfl, HN1, HBt1⟩ := hcut;clear HR1 HNo1 HN0 HBt HB1
  go_upto_region 41 with fail
  go_cut [199] from 192 to 199 (fun cv wx => cv = .bool β2 ∧ wx = wc)
  case first =>
   by_cases x1 : a < i
   · have x1I : (a : Int) < (i : Int) := by omega
     by_cases x2 : i < mid
     · have x2I : (i : Int) < (mid : Int) := by omega
       have hb : β2 = true := by rw [HB2.out, decide_eq_true x1, decide_eq_true x2]; rfl
       subst hb
       go_wp2_with fail
       go_meet
       case rel => exact ⟨rfl, rfl⟩
     · have x2I : ¬ (i : Int) < (mid : Int) := by omega
       have hb : β2 = false := by rw [HB2.out, decide_eq_true x1, decide_eq_false x2]; rfl
       subst hb
       go_wp2_with fail
       go_meet
       case rel => exact ⟨rfl, rfl⟩
   · have x1I : ¬ (a : Int) < (i : Int) := by omega
     have hb : β2 = false := by rw [HB2.out, decide_eq_false x1]; rfl
     subst hb
     go_wp2_with fail
     go_meet
     case rel => exact ⟨rfl, rfl⟩
  obtain ⟨rfl, rfl⟩ := hcut;generalize wc = wr at HN1 HBt1 ⊢
  have HR2 : Hid (β2 = true → Calls Tryz.prog 135 #[.slice (some ⟨g, 0, none⟩) n c, .int .i64 (a : Int), .int .i64 (i : Int), .int .i64 (mid : Int), .func (.func 113) #[] #[]] wr (z2w B g c n p u1 v1 (u2 ++ (v2 ++ r)) wr)) := zh fun hb => by
   rw [HB2.out, Bool.and_eq_true, decide_eq_true_eq, decide_eq_true_eq] at hb;exact HIH.out wr p u1 v1 (u2 ++ (v2 ++ r)) a i mid HLt.out.1 (by have := G1.out; have := HA.out; omega) (by have := G1.out; have := G4.out; omega) HS1.out.1 HS1.out.2.2.1 HN1.out HA.out (by have := G1.out; have := HA.out; omega) (by have := G1.out; have := G4.out; omega)
  have HNo2 : Hid (β2 = false → Stab (u1 ++ v1) (u1 ++ v1)) := zh fun hb => by
   have hd : u1 = [] ∨ v1 = [] := by
    rw [HB2.out, Bool.and_eq_false_iff, decide_eq_false_iff_not, decide_eq_false_iff_not] at hb;rcases hb with hb | hb
    · exact .inl (List.eq_nil_of_length_eq_zero (by have := G1.out; have := HA.out; omega))
    · exact .inr (List.eq_nil_of_length_eq_zero (by have := G1.out; have := G4.out; omega))
   rcases hd with rfl | rfl
   · exact Stab.refl (by rw [List.nil_append]; exact HS1.out.2.2.1)
   · exact Stab.refl (by rw [List.append_nil]; exact HS1.out.1)
  go_upto_if 199 with fail
  go_cut [24] from 199 to 205 (fun ev wx => ev = .int .i64 (e9 : Int) ∧ ∃ M1, Hid (Stab (u1 ++ v1) M1) ∧ Hid (NewH B wx (.slice (some ⟨g, 0, none⟩) n c) (p ++ (M1 ++ (u2 ++ (v2 ++ r))))) ∧ Hid (But (fun q => q = g) w wx))
  case first =>
   cases β2 with
   | true =>
     have HC := zh (HR2.out rfl);clear HR2 HNo2 HN1
     go_wp2_with fail
     refine HC.out.mono ?_;rintro e w2 ⟨rfl, M1, s1, n2, b2⟩;have HN2 := zh n2; have HB2' := zh (HBt1.out.trans b2); have HSt := zh s1;clear n2 b2 s1 HC
     go_wp2_with fail
     go_meet
     case rel => exact ⟨rfl, M1, HSt, HN2, HB2'⟩
   | false =>
     have HSt := zh (HNo2.out rfl);have HN2 : Hid (NewH B wr (.slice (some ⟨g, 0, none⟩) n c) (p ++ ((u1 ++ v1) ++ (u2 ++ (v2 ++ r))))) := zh (by rw [List.append_assoc]; exact HN1.out);clear HR2 HNo2 HN1
     go_wp2_with fail
     go_meet
     case rel => exact ⟨rfl, _, HSt, HN2, HBt1⟩
  obtain ⟨rfl, M1, HSt1, HN2, HBt2⟩ := hcut;clear HR2 HNo2 HN1 HBt1
  go_upto_region 43 with fail
  go_cut [213] from 206 to 213 (fun cv wx => cv = .bool β3 ∧ wx = wc)
  case first =>
   by_cases x1 : mid < e9
   · have x1I : (mid : Int) < (e9 : Int) := by omega
     by_cases x2 : e9 < b
     · have x2I : (e9 : Int) < (b : Int) := by omega
       have hb : β3 = true := by rw [HB3.out, decide_eq_true x1, decide_eq_true x2]; rfl
       subst hb
       go_wp2_with fail
       go_meet
       case rel => exact ⟨rfl, rfl⟩
     · have x2I : ¬ (e9 : Int) < (b : Int) := by omega
       have hb : β3 = false := by rw [HB3.out, decide_eq_true x1, decide_eq_false x2]; rfl
       subst hb
       go_wp2_with fail
       go_meet
       case rel => exact ⟨rfl, rfl⟩
   · have x1I : ¬ (mid : Int) < (e9 : Int) := by omega
     have hb : β3 = false := by rw [HB3.out, decide_eq_false x1]; rfl
     subst hb
     go_wp2_with fail
     go_meet
     case rel => exact ⟨rfl, rfl⟩
  obtain ⟨rfl, rfl⟩ := hcut;generalize wc = wr at HN2 HBt2 ⊢;have hm1 : M1.length = u1.length + v1.length := by rw [HSt1.out.perm.length_eq, List.length_append]
  have HR3 : Hid (β3 = true → Calls Tryz.prog 135 #[.slice (some ⟨g, 0, none⟩) n c, .int .i64 (mid : Int), .int .i64 (e9 : Int), .int .i64 (b : Int), .func (.func 113) #[] #[]] wr (z2w B g c n (p ++ M1) u2 v2 r wr)) := zh fun hb => by
   rw [HB3.out, Bool.and_eq_true, decide_eq_true_eq, decide_eq_true_eq] at hb;exact HIH.out wr (p ++ M1) u2 v2 r mid e9 b HLt.out.2 (by have := G3.out; have := G4.out; omega) (by have := G3.out; have := G5.out; omega) HS1.out.2.1 HS1.out.2.2.2 (by rw [List.append_assoc]; exact HN2.out) (by rw [List.length_append, hm1]; have := G4.out; omega) (by have := G3.out; have := G4.out; omega) (by have := G3.out; have := G5.out; omega)
  have HNo3 : Hid (β3 = false → Stab (u2 ++ v2) (u2 ++ v2)) := zh fun hb => by
   have hd : u2 = [] ∨ v2 = [] := by
    rw [HB3.out, Bool.and_eq_false_iff, decide_eq_false_iff_not, decide_eq_false_iff_not] at hb;rcases hb with hb | hb
    · exact .inl (List.eq_nil_of_length_eq_zero (by have := G3.out; have := G4.out; omega))
    · exact .inr (List.eq_nil_of_length_eq_zero (by have := G3.out; have := G5.out; omega))
   rcases hd with rfl | rfl
   · exact Stab.refl (by rw [List.nil_append]; exact HS1.out.2.2.2)
   · exact Stab.refl (by rw [List.append_nil]; exact HS1.out.2.1)
  clear hm1;cases β3 with
  | true =>
    have HC := zh (HR3.out rfl);clear HR3 HNo3 HN2
    go_wp2_with fail
    refine HC.out.mono ?_;rintro e w2 ⟨rfl, M2, s2, n2, b2⟩;have HN3 : Hid (NewH B w2 (.slice (some ⟨g, 0, none⟩) n c) (p ++ ((M1 ++ M2) ++ r))) := zh (by simpa [List.append_assoc] using n2);have HB3' := zh (HBt2.out.trans b2); have HSt2 := zh (HFin.out M1 M2 HSt1.out s2);clear n2 b2 s2 HC
    go_wp2_with fail
    go_end0
    exact ⟨rfl, _, HSt2.out, HN3.out, HB3'.out⟩
  | false =>
    have HSt2 := zh (HFin.out M1 _ HSt1.out (HNo3.out rfl));have HN3 : Hid (NewH B wr (.slice (some ⟨g, 0, none⟩) n c) (p ++ ((M1 ++ (u2 ++ v2)) ++ r))) := zh (by simpa [List.append_assoc] using HN2.out);clear HR3 HNo3 HN2
    go_wp2_with fail
    go_end0
    exact ⟨rfl, _, HSt2.out, HN3.out, HBt2.out⟩
theorem z81 {B g c n : Nat} (hn : n ≤ 1000000) : ∀ (N : Nat) (w : World) (p A Bl r : List Hld) (a m b : Nat), A.length + Bl.length ≤ N → 0 < A.length → 0 < Bl.length → SortedH A → SortedH Bl → NewH B w (.slice (some ⟨g, 0, none⟩) n c) (p ++ (A ++ (Bl ++ r))) → a = p.length → m = a + A.length → b = m + Bl.length →
 Calls Tryz.prog 135 #[.slice (some ⟨g, 0, none⟩) n c, .int .i64 (a : Int), .int .i64 (m : Int), .int .i64 (b : Int), .func (.func 113) #[] #[]] w (z2w B g c n p A Bl r w)
 | 0, w, p, A, Bl, r, a, m, b, hN, h1, h2, hA, hB, h, ha, hm, hb => by omega
 | N + 1, w, p, A, Bl, r, a, m, b, hN, h1, h2, hA, hB, h, ha, hm, hb => by
   by_cases hA1 : A.length = 1
   · obtain ⟨x, rfl⟩ := List.length_eq_one_iff.1 hA1;exact zjw h2 hB h hn ha hm hb
   · by_cases hB1 : Bl.length = 1
     · obtain ⟨y, rfl⟩ := List.length_eq_one_iff.1 hB1;exact zg9 (by omega) hA h hn ha hm hb
     · exact zou (by omega) (by omega) hA hB h hn ha hm hb fun w' p' A' B' r' a' m' b' k1 k2 k3 k4 k5 k6 k7 k8 k9 => z81 hn N w' p' A' B' r' a' m' b' (by omega) k2 k3 k4 k5 k6 k7 k8 k9
def zov (B g c n : Nat) (p x r : List Hld) (w : World) (e : Ending) (w' : World) : Prop := e = .returned (.tuple #[]) ∧ ∃ y, Stab x y ∧ NewH B w' (.slice (some ⟨g, 0, none⟩) n c) (p ++ (y ++ r)) ∧ But (fun q => q = g) w w'
theorem ins_seg {w : World} {B g c n a b : Nat} {p x r : List Hld} (h : NewH B w (.slice (some ⟨g, 0, none⟩) n c) (p ++ (x ++ r))) (hn : n ≤ 1000000) (ha : a = p.length) (hb : b = a + x.length) :
 Calls Tryz.prog 134 #[.slice (some ⟨g, 0, none⟩) n c, .int .i64 (a : Int), .int .i64 (b : Int), .func (.func 113) #[] #[]] w (zov B g c n p x r w) := by
 obtain ⟨cur, hnl, hB, hg, r1, r2, r3, hc⟩ := z0m h;subst hnl;have hi := znm (c := c) hg hc a b (by omega) (by rw [List.length_append, List.length_append]; omega) hn;refine hi.mono ?_;rintro e w' ⟨rfl, k, os, rfl⟩;obtain ⟨y, hy, hst⟩ := zcc p x r;rw [← ha, ← hb] at hy;refine ⟨rfl, y, hst, ?_, (z9j _).mono fun q _ e => (Option.some.inj e).symm⟩
 have hsz : (insertionSort ltH (p ++ (x ++ r)).toArray a b).size = (p ++ (x ++ r)).length := by
  have := congrArg List.length hy;rw [Array.length_toList] at this;rw [this, List.length_append, List.length_append, List.length_append, List.length_append, hst.perm.length_eq]
 have := z9k (n := k) h (insertionSort ltH (p ++ (x ++ r)).toArray a b) hsz os;rw [hy] at this;exact this
theorem cutH_two (m : List Hld) (a s : Nat) : m = m.take a ++ ((m.drop a).take s ++ m.drop (a + s)) := by
 have e2 : m.drop a = (m.drop a).take s ++ m.drop (a + s) := by rw [← List.drop_drop (i := s) (j := a)]; exact (List.take_append_drop _ _).symm
 rw [← e2, List.take_append_drop]
theorem cutH_one (m : List Hld) (a : Nat) : m = m.take a ++ (m.drop a ++ []) := by rw [List.append_nil, List.take_append_drop]
theorem sort_nil {w : World} {B : Nat} : z5b B [] (.slice none 0 0) w := by
 unfold z5b
 have HI : Hid (∀ W, Calls Tryz.prog 134 #[.slice none 0 0, .int .i64 0, .int .i64 0, .func (.func 113) #[] #[]] W fun e w' => e = .returned (.tuple #[]) ∧ W = w') := zh fun W => by
  go_enter Tryz.func134, Tryz.ntmps134
  go_wp2_with fail
  refine wp_loop_rounds 1 ?_;rw [rounds_succ]
  go_wp2_with fail
  go_end0
  exact ⟨rfl, rfl⟩
 go_enter Tryz.func123, Tryz.ntmps123
 go_wp2_with fail
 refine wp_loop_rounds 1 ?_;rw [rounds_succ]
 go_wp2_with fail
 refine (HI.out _).mono ?_;rintro e w2 ⟨rfl, rfl⟩
 go_wp2_with fail
 refine wp_loop_rounds 1 ?_;rw [rounds_succ]
 go_wp2_with fail
 go_end0
 exact ⟨rfl, [], Stab.nil, World.ownsRow_nil _ _ _ _, But.refl _ _⟩
theorem sort_big {w : World} {B g c n : Nat} {l : List Hld} (h : NewH B w (.slice (some ⟨g, 0, none⟩) n c) l) (hnl : n = l.length) (h20 : 20 ≤ n) (hn : n ≤ 1000000) : Calls Tryz.prog 123 #[.slice (some ⟨g, 0, none⟩) n c, .int .i64 (n : Int), .func (.func 113) #[] #[]] w (zc1 B l (.slice (some ⟨g, 0, none⟩) n c) w) := by
 have H := zh h; have HN := zh hnl;have HIns : Hid (∀ W p x r a b, NewH B W (.slice (some ⟨g, 0, none⟩) n c) (p ++ (x ++ r)) → a = p.length → b = a + x.length → Calls Tryz.prog 134 #[.slice (some ⟨g, 0, none⟩) n c, .int .i64 (a : Int), .int .i64 (b : Int), .func (.func 113) #[] #[]] W (zov B g c n p x r W)) := zh fun W p x r a b h1 h2 h3 => ins_seg h1 hn h2 h3;have HMer : Hid (∀ W p A Bl r a m b, 0 < A.length → 0 < Bl.length → SortedH A → SortedH Bl → NewH B W (.slice (some ⟨g, 0, none⟩) n c) (p ++ ((A ++ Bl) ++ r)) → a = p.length → m = a + A.length → b = m + Bl.length → Calls Tryz.prog 135 #[.slice (some ⟨g, 0, none⟩) n c, .int .i64 (a : Int), .int .i64 (m : Int), .int .i64 (b : Int), .func (.func 113) #[] #[]] W (z2w B g c n p A Bl r W)) := zh fun W p A Bl r a m b k1 k2 k3 k4 k5 k6 k7 k8 => z81 hn _ W p A Bl r a m b zl k1 k2 k3 k4 (by rw [List.append_assoc] at k5; exact k5) k6 k7 k8;clear h hnl
 go_enter Tryz.func123, Tryz.ntmps123
 go_wp2_with fail
 go_loopw [7, 8] (fun av bv wr => ∃ (a k : Nat) (m : List Hld), a ≤ n ∧ av = .int .i64 a ∧ bv = .int .i64 ((a + 20 : Nat) : Int) ∧ Hid (a = k * 20) ∧ Hid (Ini 20 k l m) ∧ Hid (NewH B wr (.slice (some ⟨g, 0, none⟩) n c) m) ∧ Hid (But (fun q => q = g) w wr)) (fun av _ _ => n - (intOf av).toNat)
 case atStart => exact ⟨0, 0, l, Nat.zero_le _, rfl, rfl, zh (by omega), zh (Ini.start 20 l), H, zh (But.refl _ _)⟩
 case round =>
  clear H;obtain ⟨a, k, m, han, rfl, rfl, hak, hI, hN, hBt⟩ := hrel;have hml : m.length = n := by rw [hI.out.len, HN.out]
  by_cases hlt : a + 20 ≤ n
  · obtain ⟨p, hp⟩ := zx (m.take a);obtain ⟨x, hx⟩ := zx ((m.drop a).take 20);obtain ⟨r, hr⟩ := zx (m.drop (a + 20));have hc := cutH_two m a 20;rw [← hp, ← hx, ← hr] at hc;have hpl : p.length = a := by rw [hp, List.length_take]; omega
    have hxl : x.length = 20 := by rw [hx, List.length_take, List.length_drop]; omega
    obtain ⟨b, hb⟩ := zx (a + 20);have HC := zh (HIns.out wr p x r a b (by rw [← hc]; exact hN.out) hpl.symm (by rw [hb, hxl]));have HI2 : Hid (∀ y, Stab x y → Ini 20 (k + 1) l (p ++ (y ++ r))) := zh fun y hy => Ini.step (by rw [← hc]; exact hI.out) (by rw [hpl, hak.out]) (.inl hxl) hy;have hbI : (b : Int) ≤ (n : Int) := by omega
    have hbn : b ≤ n := by omega
    have HB := zh hb;rw [← hb];have HAK : Hid (b = (k + 1) * 20) := zh (by rw [hb, hak.out]; omega);have HBt := zh hBt.out;have hba : a < b := by omega
    have w1 : IntKind.i64.wrap ((b : Int) + 20) = ((b + 20 : Nat) : Int) := by rw [show ((b : Int) + 20) = ((b + 20 : Nat) : Int) by omega]; exact IntWalk.i64_in _ (by omega)
    clear hp hx hr hc hpl hxl hb hI hN hBt hml hlt hak
    go_wp2_with fail
    refine HC.out.mono ?_;rintro e w2 ⟨rfl, y, hst, n2, b2⟩;have HN2 := zh n2; have HB2 := zh (HBt.out.trans b2); have HI3 := zh (HI2.out y hst);clear n2 b2 hst HC HI2 HBt
    go_wp2_with fail
    go_roundw
    case rel => exact ⟨b, k + 1, _, hbn, rfl, by first | rfl | go_num, HAK, HI3, HN2, HB2⟩
    case measure => simp [intOf]; omega
  have hc := cutH_one m a;have hpl : (m.take a).length = a := by rw [List.length_take]; omega
  have hxl : (m.drop a).length = n - a := by rw [List.length_drop, hml]
  have HC := zh (HIns.out wr (m.take a) (m.drop a) [] a n (by rw [← hc]; exact hN.out) hpl.symm (by rw [hxl]; omega));have HP2 : Hid (∀ y, Stab (m.drop a) y → Parts 20 l (m.take a ++ (y ++ []))) := zh fun y hy => Ini.parts (Ini.step (k := k) (by rw [← hc]; exact hI.out) (by rw [hpl, hak.out]) (.inr ⟨rfl, by rw [hxl]; omega⟩) hy) (by rw [← HN.out]; have := hak.out; omega);have hbI : ¬ ((a + 20 : Nat) : Int) ≤ (n : Int) := by omega
  have HBt := zh hBt.out;clear hc hpl hxl hI hN hBt hml hlt hak
  go_wp2_with fail
  refine HC.out.mono ?_;rintro e w2 ⟨rfl, y, hst, n2, b2⟩;have HN2 := zh n2; have HB2 := zh (HBt.out.trans b2); have HP3 := zh (HP2.out y hst);clear n2 b2 hst HC HP2 HBt hbI
  go_wp2_with fail
  go_loopw [6, 7, 8, 9] (fun sv _ _ _ wr => ∃ (s : Nat) (m : List Hld), 20 ≤ s ∧ s ≤ 2 * n ∧ sv = .int .i64 s ∧ Hid (Parts s l m) ∧ Hid (NewH B wr (.slice (some ⟨g, 0, none⟩) n c) m) ∧ Hid (But (fun q => q = g) w wr)) (fun sv _ _ _ _ => n - (intOf sv).toNat)
  case atStart => exact ⟨20, _, Nat.le_refl _, by omega, rfl, HP3, HN2, HB2⟩
  case round =>
   clear HP3 HN2 HB2;obtain ⟨s, m, hs20, hs2n, rfl, hP, hN, hBt⟩ := hrel;by_cases hlt : s < n
   · obtain ⟨s2, hs2⟩ := zx (2 * s);have w1 : IntKind.i64.wrap (2 * (s : Int)) = (s2 : Int) := by rw [show (2 * (s : Int)) = (s2 : Int) by omega]; exact IntWalk.i64_in _ (by omega)
     have w2 : IntKind.i64.wrap ((s : Int) * 2) = (s2 : Int) := by rw [show ((s : Int) * 2) = (s2 : Int) by omega]; exact IntWalk.i64_in _ (by omega)
     have hsI : (s : Int) < (n : Int) := by omega
     have hs2b : s2 ≤ 2 * n := by omega
     have hs2c : s < s2 := by omega
     have HS2 := zh hs2;have HM0 := zh hP.out.mix;have HN0 := zh hN.out; have HBt0 := zh hBt.out;clear hs2 hP hN hBt hlt
     go_wp2_with fail
     generalize wr = wq at HN0 HBt0 ⊢
     go_loopw [7, 8] (fun av bv wr => ∃ (a b k : Nat) (m : List Hld), a ≤ n ∧ av = .int .i64 a ∧ bv = .int .i64 b ∧ b ≤ a + s2 ∧ Hid (b = a + s2) ∧ Hid (a = k * (2 * s)) ∧ Hid (Mix s k l m) ∧ Hid (NewH B wr (.slice (some ⟨g, 0, none⟩) n c) m) ∧ Hid (But (fun q => q = g) w wr)) (fun av _ _ => n - (intOf av).toNat)
     case atStart => exact ⟨0, s2, 0, m, Nat.zero_le _, rfl, rfl, by omega, zh (by omega), zh (by omega), HM0, HN0, HBt0⟩
     case round =>
      clear HN0 HBt0 HM0;obtain ⟨a, b, k, m, han, rfl, rfl, hbb, hb, hak, hM, hN, hBt⟩ := hrel;have hml : m.length = n := by rw [hM.out.len, HN.out]
      have h2s := HS2.out;have hka : 2 * k * s = a := by rw [hak.out, ← Nat.mul_assoc, Nat.mul_comm k 2]
      have hka2 : (2 * k + 1) * s = a + s := by rw [Nat.add_mul, Nat.one_mul, hka]
      obtain ⟨hso1, hso2⟩ := hM.out.sorted;unfold z16 at hso1 hso2;rw [hka] at hso1;rw [hka2] at hso2;obtain ⟨p, hp⟩ := zx (m.take a);obtain ⟨A, hA⟩ := zx ((m.drop a).take s);obtain ⟨Bl, hBl⟩ := zx ((m.drop (a + s)).take s);obtain ⟨r, hr⟩ := zx (m.drop (a + s + s));have hc := cut_four m a s;rw [← hp, ← hA, ← hBl, ← hr] at hc;rw [← hA] at hso1;rw [← hBl] at hso2;have hpl : p.length = a := by rw [hp, List.length_take]; omega
      obtain ⟨q, hq⟩ := zx (a + s);have w3 : IntKind.i64.wrap ((a : Int) + (s : Int)) = (q : Int) := by rw [show ((a : Int) + (s : Int)) = (q : Int) by omega]; exact IntWalk.i64_in _ (by omega)
      have hbe := hb.out;by_cases hlt : b ≤ n
      · have hAl : A.length = s := by rw [hA, List.length_take, List.length_drop]; omega
        have hBll : Bl.length = s := by rw [hBl, List.length_take, List.length_drop]; omega
        have HC := zh (HMer.out wr p A Bl r a q b (by omega) (by omega) hso1 hso2 (by rw [← hc]; exact hN.out) hpl.symm (by omega) (by omega));have HM2 : Hid (∀ M, Stab (A ++ Bl) M → Mix s (k + 1) l (p ++ (M ++ r))) := zh fun M hM2 => Mix.step (by rw [← hc]; exact hM.out) (by rw [hpl, hak.out]) hAl (.inl hBll) hM2;have HAK : Hid (b = (k + 1) * (2 * s)) := zh (by rw [Nat.add_mul, Nat.one_mul, ← hak.out]; omega);have hbI : (b : Int) ≤ (n : Int) := by omega
        have w4 : IntKind.i64.wrap ((b : Int) + (s2 : Int)) = ((b + s2 : Nat) : Int) := by rw [show ((b : Int) + (s2 : Int)) = ((b + s2 : Nat) : Int) by omega]; exact IntWalk.i64_in _ (by omega)
        have hab : a < b := by omega
        have HBt := zh hBt.out;clear hp hA hBl hr hc hpl hq hAl hBll hM hN hBt hml h2s hka hka2 hso1 hso2 hbe hb hak
        go_wp2_with fail
        refine HC.out.mono ?_;rintro e w2 ⟨rfl, M, hst, n2, b2⟩;have HN2 := zh n2; have HB2 := zh (HBt.out.trans b2); have HM3 := zh (HM2.out M hst);clear n2 b2 hst HC HM2 HBt
        go_wp2_with fail
        go_roundw
        case rel => exact ⟨b, b + s2, k + 1, _, hlt, rfl, rfl, Nat.le_refl _, zh rfl, HAK, HM3, HN2, HB2⟩
        case measure => simp [intOf]; omega
      have hbI : ¬ (b : Int) ≤ (n : Int) := by omega
      have HBt := zh hBt.out;by_cases hqn : q < n
      · have hqI : (q : Int) < (n : Int) := by omega
        have hAl : A.length = s := by rw [hA, List.length_take, List.length_drop]; omega
        have hBll : Bl.length = n - q := by rw [hBl, List.length_take, List.length_drop]; omega
        have hr0 : r = [] := by rw [hr]; exact List.drop_of_length_le (by omega)
        have HC := zh (HMer.out wr p A Bl r a q n (by omega) (by omega) hso1 hso2 (by rw [← hc]; exact hN.out) hpl.symm (by omega) (by omega))
        have HM2 : Hid (∀ M, Stab (A ++ Bl) M → Parts s2 l (p ++ (M ++ r))) := zh fun M hM2 => by
         have h := (Mix.step (k := k) (by rw [← hc]; exact hM.out) (by rw [hpl, hak.out]) hAl (.inr ⟨hr0, by omega⟩) hM2).parts (by rw [← HN.out, Nat.add_mul, Nat.one_mul, ← hak.out]; omega);rw [← h2s] at h; exact h
        clear hp hA hBl hr hc hpl hq hAl hBll hM hN hBt hml h2s hka hka2 hso1 hso2 hbe hb hak hr0
        go_wp2_with fail
        refine HC.out.mono ?_;rintro e w2' ⟨rfl, M, hst, n2, b2⟩;have HN2 := zh n2; have HB2 := zh (HBt.out.trans b2); have HM3 := zh (HM2.out M hst);clear n2 b2 hst HC HM2 HBt
        go_wp2_with fail
        go_roundw
        case rel => exact ⟨s2, _, by omega, hs2b, rfl, HM3, HN2, HB2⟩
        case measure => simp [intOf]; omega
      · have hqI : ¬ (q : Int) < (n : Int) := by omega
        have HM3 : Hid (Parts s2 l m) := zh (by
         have h := hM.out.parts (by rw [← HN.out, ← hak.out]; omega);rw [← h2s] at h; exact h)
        have HN2 := zh hN.out;clear hp hA hBl hr hc hpl hq hM hN hBt hml h2s hka hka2 hso1 hso2 hbe hb hak
        go_wp2_with fail
        go_roundw
        case rel => exact ⟨s2, m, by omega, hs2b, rfl, HM3, HN2, HBt⟩
        case measure => simp [intOf]; omega
   · have hst := hP.out.all (by rw [← HN.out]; omega);have HSt := zh hst;have hsI : ¬ (s : Int) < (n : Int) := by omega
     clear hst hP
     go_wp2_with fail
     go_end0
     exact ⟨rfl, m, HSt.out, hN.out, hBt.out.mono fun q _ e => by rw [e]; rfl⟩
theorem sort_any {w : World} {B : Nat} {v : Value} {l : List Hld} (h : NewH B w v l) (hl : l.length ≤ 1000000) : z5b B l v w := by
 rcases h.2 with ⟨rfl, hz⟩ | ⟨g, cap, cur, rfl, _⟩
 · obtain rfl : l = [] := List.eq_nil_of_length_eq_zero hz;exact sort_nil
 · by_cases h20 : l.length < 20
   · exact zb4 h h20
   · exact sort_big h rfl (by omega) hl
end Go.Proofs.YtgjddkeogboojaaGreatDoor
