/-
  One of a set's entries, made a delta of another one, is resolved to what it was.
-/
import Derived.Test.YtgjddkeogboojaaGreatDoorX32
import Derived.Test.YtgjddkeogboojaaGreatDoorX23
set_option maxHeartbeats 16000000
set_option maxRecDepth 100000
namespace Go.Proofs.YtgjddkeogboojaaGreatDoor.Pk
open Go.Proofs.YtgjddkeogboojaaGreatDoor
open Go Go.RowKit Go.Maps
theorem znr (w : World) (hw : Wd w) {v : Value} {ob : List (Int × Bs)} (h : ObjsR w v ob) (hl : ob.length ≤ limW) (fr : Nat) (hfr : fr < 256) (tt : Nat) (htt : tt < 256) (named : Bool) :
 Calls Tryz.prog 6 #[v, .int .u8 (fr : Int), .int .u8 (tt : Int), .bool named] w (z06 (.bool true) w) := by
 obtain ⟨A, c, rfl⟩ := h.shape;obtain ⟨N, hN⟩ := zx ob.length;have hNl : N ≤ 140737488355328 := by unfold limW at hl; omega
 rw [← hN] at h ⊢;have HH := zh (head_any w hw); have Hw := zh hw; have HO := zh h; have HN := zh hN;clear h hl hw hN
 go_enter Tryz.func6, Tryz.ntmps6
 go_wp2_with fail
 refine HH.out.mono ?_;rintro e w1 ⟨rfl, l9⟩;have L1 := zh l9;clear l9 HH
 go_wp2_with fail
 go_loopw [10, 11] (fun nv iv wr => Hid (Below w.heap.size w wr) ∧ ∃ k m : Nat, k ≤ N ∧ m ≤ N + 20000 ∧ iv = .int .i64 k ∧ nv = .int .i64 m ∧ Hid (m = N + z7s 4000 (ob.take k))) (fun _ iv _ => N - (intOf iv).toNat)
 case atStart => exact ⟨L1, 0, N, Nat.zero_le _, by omega, rfl, rfl, zh (by simp [z7s])⟩
 case round =>
  obtain ⟨hB, k, m, hk, hm, rfl, rfl, hS⟩ := hrel;by_cases hm9 : m < 4000
  · by_cases hlt : k < N
    · obtain ⟨g, o, c', e, _, hg⟩ := HO.out.pos (by have := HN.out; omega);obtain rfl : A = some ⟨g, o, none⟩ := by rw [← HN.out] at e; cases e; rfl
      clear e;have hkl : k < ob.length := by have := HN.out; omega
      obtain ⟨c0, c1⟩ := ObjsR.cells (HO.out.below hB.out zl) k hkl;have hsn := zio 4000 hkl;obtain ⟨d, hd⟩ := zx ((ob.getD k (0, [])).2);rw [← hd] at c1 hsn;unfold SV at c1;obtain ⟨m2, hm2⟩ := zx (m + min d.length 4000);have HS2 : Hid (m2 = N + z7s 4000 (ob.take (k + 1))) := zh (by rw [hsn, hm2, hS.out]; omega);have t1 : IntKind.i64.wrap ((m : Int) + min (d.length : Int) 4000) = (m2 : Int) := by rw [show ((m : Int) + min (d.length : Int) 4000) = (m2 : Int) by omega]; exact IntWalk.i64_in _ (by omega)
      have t2 : (m : Int) + min (d.length : Int) 4000 = (m2 : Int) := by omega
      have hm2b : m2 ≤ N + 20000 := by omega
      have hmI : (m : Int) < 4000 := by omega
      have T2 := zh t2;clear t2 hsn hd hm2 hg hkl c0 hS
      go_wp2_with fail
      go_roundw
      case rel => exact ⟨hB, k + 1, m2, hlt, hm2b, by go_num, by first | rfl | (rw [T2.out]) | go_num, HS2⟩
      case measure => simp [intOf]; omega
    obtain rfl : k = N := by omega
    have hCost : ob.length + z7s 4000 ob < 4000 := by
     have h := hS.out;rw [HN.out, List.take_length] at h;omega
    have HCost := zh hCost;have hmI : (m : Int) < 4000 := by omega
    have hmI2 : ¬ (4000 : Int) ≤ (m : Int) := by omega
    have HB5 := zh hB.out;clear hS hCost hB hm9 hk;by_cases hN4 : 40 < k
    · have hNI : (40 : Int) < (k : Int) := by omega
      go_wp2_with fail
      go_ret
      exact ⟨rfl, HB5.out⟩
    have hNI : ¬ (40 : Int) < (k : Int) := by omega
    by_cases hN2 : k < 2
    · have hN2I : (k : Int) < 2 := by omega
      go_wp2_with fail
      go_ret
      exact ⟨rfl, HB5.out⟩
    have hN2I : ¬ (k : Int) < 2 := by omega
    have HN40 : Hid (ob.length ≤ 40) := zh (by have := HN.out; omega);have hcl := zh0 (c := 4000) (o := ob) (by have := HCost.out; omega);have HCl := zh hcl;have HRS := zh (Ct.Set_p (w := wr) (HO.out.below HB5.out zl) (by have := HN40.out; omega) (fun x hx => by have := hcl.2 x hx; omega));clear hN4 hN2 hcl
    go_wp2_with fail
    refine HRS.out.mono ?_;rintro e w2 ⟨u2, s, rfl, h2, s2, k2, b2⟩;have L2 := zh (HB5.out.trans (b2.mono HB5.out.size));obtain ⟨As, cs, rfl⟩ := h2.shape;have HF : Hid (∀ h ∈ s, Fine h) := zh fun h hh => (zgz s2 hh).1;have HSm : Hid (∀ h ∈ s, h.data.length ≤ 4000) := zh fun h hh => by have := HCl.out.2 _ (zgz s2 hh).2; simp only at this; omega
    have HSl : Hid (s.length ≤ 40) := zh (by have := HN40.out; have := znq ob; omega);have HRise := zh s2.rise;have H2 := zh h2;obtain ⟨n, hn⟩ := zx s.length;have Hn := zh hn;rw [← hn] at H2 ⊢;have hn40 : n ≤ 40 := by have := HSl.out; omega
    clear h2 s2 k2 b2 HRS hn hNI hN2I hm hmI hmI2;by_cases hn2 : n < 2
    · have hn2I : (n : Int) < 2 := by omega
      go_wp2_with fail
      go_ret
      exact ⟨rfl, L2.out⟩
    have hn2I : ¬ (n : Int) < 2 := by omega
    obtain ⟨i, hi⟩ := zx (tt % n);have hin : i < n := by rw [hi]; exact Nat.mod_lt _ (by omega)
    have i1 : (tt : Int) % (n : Int) = (i : Int) := by rw [hi, Int.natCast_emod]
    have i2 : Int.tmod (tt : Int) (n : Int) = (i : Int) := by rw [Int.tmod_eq_emod_of_nonneg (by omega)]; exact i1
    obtain ⟨j, hj⟩ := zx (fr % n);have hjn : j < n := by rw [hj]; exact Nat.mod_lt _ (by omega)
    have j1 : (fr : Int) % (n : Int) = (j : Int) := by rw [hj, Int.natCast_emod]
    have j2 : Int.tmod (fr : Int) (n : Int) = (j : Int) := by rw [Int.tmod_eq_emod_of_nonneg (by omega)]; exact j1
    have hn0 : ¬ (n : Int) = 0 := by omega
    have httI : (tt : Int) < 256 := by omega
    have hfrI : (fr : Int) < 256 := by omega
    obtain ⟨gs, os, c', e, _, hg⟩ := H2.out.pos (by have := Hn.out; omega);obtain rfl : As = some ⟨gs, os, none⟩ := by rw [← Hn.out] at e; cases e; rfl
    clear e hg hi hj hn2
    go_upto_region 14 with fail
    clear i1 i2 j1 j2 hn0 httI hfrI hn2I;have hB' : ∀ W, Below w2.drew.heap.size w2.drew W → Below w2.heap.size w2 W := fun W hW => ((Below.refl _ _).drew).trans (hW.mono zl);obtain ⟨kj, hkj⟩ := zx ((s.getD j noHld).kind);obtain ⟨ki, hki⟩ := zx ((s.getD i noHld).kind);have hjs : j < s.length := by have := Hn.out; omega
    have his : i < s.length := by have := Hn.out; omega
    have HLj := zh (fun W (hW : Below w2.drew.heap.size w2.drew W) => l_I (W := W) (g := gs) (o := os + j * 3 + 1) (k := kj) (by
     have := (HldsR.cells (H2.out.below (hB' W hW) zl) j hjs).2.1
     rwa [← hkj] at this))
    have HLi := zh (fun W (hW : Below w2.drew.heap.size w2.drew W) => l_I (W := W) (g := gs) (o := os + i * 3 + 1) (k := ki) (by
     have := (HldsR.cells (H2.out.below (hB' W hW) zl) i his).2.1
     rwa [← hki] at this))
    have HKj := zh hkj; have HKi := zh hki; have Hjs := zh hjs; have His := zh his;have L2d := zh L2.out.drew;clear hB' hkj hki hjs his;by_cases hji : i ≤ j
    · have hge : decide (i ≤ j) = true := decide_eq_true hji;refine AnyB.start (by kernel_rfl) ?_;refine AnyB.tm 0 (.int .i64 (j : Int)) rfl ?_;refine AnyB.tm 1 (.int .i64 (i : Int)) rfl ?_;refine AnyB.tk 2 (.bool true) rfl (fun W hW => y_bin rfl (by kernel_rfl) (by kernel_rfl) (by kernel_rfl) (znm W j i _ hge)) ?_;refine AnyB.tm 3 (.bool true) rfl ?_;refine AnyB.sk 4 rfl ?_;refine AnyB.sk 5 rfl ?_;refine AnyB.sk 6 rfl ?_;refine AnyB.sk 7 rfl ?_;refine AnyB.sk 8 rfl ?_;refine AnyB.sk 9 rfl ?_;refine AnyB.sk 10 rfl ?_;refine AnyB.sk 11 rfl ?_;refine AnyB.sk 12 rfl ?_;refine AnyB.sk 13 rfl ?_;refine AnyB.sk 14 rfl ?_;refine AnyB.sk 15 rfl ?_;refine AnyB.sk 16 rfl ?_;refine AnyB.tm 17 (.bool true) rfl ?_;refine AnyB.done _ (by kernel_rfl) ?_;clear HLj HLi hge hji;go_simp
      go_wp2_with fail
      go_ret
      exact ⟨rfl, L2d.out⟩
    have hge : decide (i ≤ j) = false := decide_eq_false hji;have Hji : Hid (j < i) := zh (by omega);by_cases hkk : kj = ki
    case neg =>
     have hne : (kj != ki) = true := by simpa using hkk
     refine AnyB.start (by kernel_rfl) ?_;refine AnyB.tm 0 (.int .i64 (j : Int)) rfl ?_;refine AnyB.tm 1 (.int .i64 (i : Int)) rfl ?_;refine AnyB.tk 2 (.bool false) rfl (fun W hW => y_bin rfl (by kernel_rfl) (by kernel_rfl) (by kernel_rfl) (znm W j i _ hge)) ?_;refine AnyB.tm 3 (.bool false) rfl ?_;refine AnyB.tm 4 (.slice (some ⟨gs, os, none⟩) n cs) rfl ?_;refine AnyB.tm 5 (.int .i64 (j : Int)) rfl ?_;refine AnyB.tk 6 (.pointer (some ⟨gs, os + j * 3, none⟩)) rfl (fun W hW => z0o rfl (by kernel_rfl) (by kernel_rfl) (za3 W gs os n cs j hjn)) ?_;refine AnyB.tk 7 (.pointer (some ⟨gs, os + j * 3 + 1, none⟩)) rfl (fun W hW => z0f rfl (by kernel_rfl) (zby W gs (os + j * 3))) ?_;refine AnyB.tk 8 (.pointer (some ⟨gs, os + j * 3 + 1, none⟩)) rfl (fun W hW => z0f rfl (by kernel_rfl) (fo_0 W gs (os + j * 3 + 1))) ?_;refine AnyB.tk 9 (.int .i64 kj) rfl (fun W hW => z0a rfl (by kernel_rfl) (HLj.out W hW)) ?_;refine AnyB.tm 10 (.slice (some ⟨gs, os, none⟩) n cs) rfl ?_;refine AnyB.tm 11 (.int .i64 (i : Int)) rfl ?_;refine AnyB.tk 12 (.pointer (some ⟨gs, os + i * 3, none⟩)) rfl (fun W hW => z0o rfl (by kernel_rfl) (by kernel_rfl) (za3 W gs os n cs i hin)) ?_;refine AnyB.tk 13 (.pointer (some ⟨gs, os + i * 3 + 1, none⟩)) rfl (fun W hW => z0f rfl (by kernel_rfl) (zby W gs (os + i * 3))) ?_;refine AnyB.tk 14 (.pointer (some ⟨gs, os + i * 3 + 1, none⟩)) rfl (fun W hW => z0f rfl (by kernel_rfl) (fo_0 W gs (os + i * 3 + 1))) ?_;refine AnyB.tk 15 (.int .i64 ki) rfl (fun W hW => z0a rfl (by kernel_rfl) (HLi.out W hW)) ?_;refine AnyB.tk 16 (.bool true) rfl (fun W hW => y_bin rfl (by kernel_rfl) (by kernel_rfl) (by kernel_rfl) (zh9 W kj ki _ hne)) ?_;refine AnyB.tm 17 (.bool true) rfl ?_;refine AnyB.done _ (by kernel_rfl) ?_;clear HLj HLi hge hji hne hkk;go_simp
     go_wp2_with fail
     go_ret
     exact ⟨rfl, L2d.out⟩
    have hne : (kj != ki) = false := by simp [hkk]
    have Hkk := zh hkk;refine AnyB.start (by kernel_rfl) ?_;refine AnyB.tm 0 (.int .i64 (j : Int)) rfl ?_;refine AnyB.tm 1 (.int .i64 (i : Int)) rfl ?_;refine AnyB.tk 2 (.bool false) rfl (fun W hW => y_bin rfl (by kernel_rfl) (by kernel_rfl) (by kernel_rfl) (znm W j i _ hge)) ?_;refine AnyB.tm 3 (.bool false) rfl ?_;refine AnyB.tm 4 (.slice (some ⟨gs, os, none⟩) n cs) rfl ?_;refine AnyB.tm 5 (.int .i64 (j : Int)) rfl ?_;refine AnyB.tk 6 (.pointer (some ⟨gs, os + j * 3, none⟩)) rfl (fun W hW => z0o rfl (by kernel_rfl) (by kernel_rfl) (za3 W gs os n cs j hjn)) ?_;refine AnyB.tk 7 (.pointer (some ⟨gs, os + j * 3 + 1, none⟩)) rfl (fun W hW => z0f rfl (by kernel_rfl) (zby W gs (os + j * 3))) ?_;refine AnyB.tk 8 (.pointer (some ⟨gs, os + j * 3 + 1, none⟩)) rfl (fun W hW => z0f rfl (by kernel_rfl) (fo_0 W gs (os + j * 3 + 1))) ?_;refine AnyB.tk 9 (.int .i64 kj) rfl (fun W hW => z0a rfl (by kernel_rfl) (HLj.out W hW)) ?_;refine AnyB.tm 10 (.slice (some ⟨gs, os, none⟩) n cs) rfl ?_;refine AnyB.tm 11 (.int .i64 (i : Int)) rfl ?_;refine AnyB.tk 12 (.pointer (some ⟨gs, os + i * 3, none⟩)) rfl (fun W hW => z0o rfl (by kernel_rfl) (by kernel_rfl) (za3 W gs os n cs i hin)) ?_;refine AnyB.tk 13 (.pointer (some ⟨gs, os + i * 3 + 1, none⟩)) rfl (fun W hW => z0f rfl (by kernel_rfl) (zby W gs (os + i * 3))) ?_;refine AnyB.tk 14 (.pointer (some ⟨gs, os + i * 3 + 1, none⟩)) rfl (fun W hW => z0f rfl (by kernel_rfl) (fo_0 W gs (os + i * 3 + 1))) ?_;refine AnyB.tk 15 (.int .i64 ki) rfl (fun W hW => z0a rfl (by kernel_rfl) (HLi.out W hW)) ?_;refine AnyB.tk 16 (.bool false) rfl (fun W hW => y_bin rfl (by kernel_rfl) (by kernel_rfl) (by kernel_rfl) (zh9 W kj ki _ hne)) ?_;refine AnyB.tm 17 (.bool false) rfl ?_;refine AnyB.done _ (by kernel_rfl) ?_;clear HLj HLi hge hji hne hkk;go_simp;obtain ⟨w3, hw3⟩ := zx w2.drew;have H3 : Hid (HldsR w3 (.slice (some ⟨gs, os, none⟩) n cs) s) := zh (by rw [hw3]; exact H2.out.below ((Below.refl _ _).drew) zl);rw [← hw3] at L2d ⊢;have HWh := zh (zdr H3.out (by have := HSl.out; omega));clear hw3 H2
    go_wp2_with fail
    refine HWh.out.mono ?_;rintro e w5 ⟨u4, rfl, o4, b5⟩;have L5 := zh (L2d.out.trans (b5.mono L2d.out.size)); have H5 := zh (H3.out.below b5 zl);have o4' : NewE w3.heap.size w5 u4 (z2c s) := o4;have e4 := o4'.rd;obtain ⟨A4, c4, rfl⟩ := e4.shape;have hwl : (z2c s).length = n := by unfold z2c; rw [List.length_map, Hn.out]
    rw [hwl] at e4 ⊢;have HE4 := zh e4; have Hwl := zh hwl;clear o4 o4' e4 b5 HWh H3 hwl;have hnn : ((n : Int) != (n : Int)) = false := by simp
    obtain ⟨bd, hbd⟩ := zx ((s.getD j noHld).data);obtain ⟨td, htd⟩ := zx ((s.getD i noHld).data);obtain ⟨idj, hidj⟩ := zx ((s.getD j noHld).id);obtain ⟨dl, hdl⟩ := zx (Dl.makeL bd td);obtain ⟨dij, hdij⟩ := zx (i - j);have HDel : Hid (DelF s i j) := zh ⟨Hji.out, His.out, HSl.out, HRise.out, HF.out, HSm.out, by rw [← HKj.out, ← HKi.out]; exact Hkk.out⟩;have hbl : bd.length ≤ 4000 := by rw [hbd]; exact HSm.out _ (z0e Hjs.out)
    have htl : td.length ≤ 4000 := by rw [htd]; exact HSm.out _ (z0e His.out)
    have HMk : Hid (∀ W, Calls Tryz.prog 23 #[.string ⟨bd.toArray⟩, .string ⟨td.toArray⟩] W (z06 (.string ⟨dl.toArray⟩) W)) := zh fun W => by rw [hdl]; exact Dl.RMake_any bd td (by omega) (by omega) W
    have HLb := zh (fun W (hW : Below w5.heap.size w5 W) => l_S2 (W := W) (g := gs) (o := os + j * 3) (s := bd) (by
     have := (HldsR.cells (H5.out.below hW zl) j Hjs.out).2.2
     rwa [← hbd] at this))
    have HLt := zh (fun W (hW : Below w5.heap.size w5 W) => l_S2 (W := W) (g := gs) (o := os + i * 3) (s := td) (by
     have := (HldsR.cells (H5.out.below hW zl) i His.out).2.2
     rwa [← htd] at this))
    have HLid := zh (fun W (hW : Below w5.heap.size w5 W) => l_S0 (W := W) (g := gs) (o := os + j * 3) (s := idj) (by
     have := (HldsR.cells (H5.out.below hW zl) j Hjs.out).1
     rwa [← hidj] at this))
    have Hdij : Hid (i = j + dij) := zh (by have := Hji.out; omega);have Hdi2 := zh hdij;have Hi6 : Hid (i ≤ 1000000) := zh (by omega);have Hbd := zh hbd; have Htd := zh htd; have Hidj := zh hidj; have Hdl := zh hdl;clear hbd htd hidj hdl hdij hbl htl
    go_upto_region 19 with fail
    clear hnn
    go_cut [16] from 101 to 117 (fun v16 wx => ∃ p, v16 = .pointer (some ⟨p, 0, none⟩) ∧ Hid (wx.heap[p]? = some (.cells #[.int .i64 6, .int .i64 (dij : Int), .string ⟨#[]⟩, .string ⟨dl.toArray⟩] 51 (0, 0)) ∧ w5.heap.size ≤ p ∧ Below w5.heap.size w5 wx))
    case first =>
     refine AnyK.start w5.heap.size w5 (by kernel_rfl) ?_;have LD := zh (show Below w5.heap.size w5 w5.drew from (Below.refl _ _).drew);generalize w5.drew = wd at LD ⊢;refine AnyK.tm 0 (.int .i64 (i : Int)) (LD.out) rfl ?_;refine AnyK.tm 1 (.int .i64 (j : Int)) (LD.out) rfl ?_;refine AnyK.tk 2 (.int .i64 (dij : Int)) (LD.out) rfl (fun W hW => y_bin rfl (by kernel_rfl) (by kernel_rfl) (by kernel_rfl) (sub_nn W i j dij Hdij.out Hi6.out)) ?_;refine AnyK.tm 3 (.slice (some ⟨gs, os, none⟩) n cs) (LD.out) rfl ?_;refine AnyK.tm 4 (.int .i64 (j : Int)) (LD.out) rfl ?_;refine AnyK.tk 5 (.pointer (some ⟨gs, os + j * 3, none⟩)) (LD.out) rfl (fun W hW => z0o rfl (by kernel_rfl) (by kernel_rfl) (za3 W gs os n cs j hjn)) ?_;refine AnyK.tk 6 (.pointer (some ⟨gs, os + j * 3 + 1, none⟩)) (LD.out) rfl (fun W hW => z0f rfl (by kernel_rfl) (zby W gs (os + j * 3))) ?_;refine AnyK.tk 7 (.pointer (some ⟨gs, os + j * 3 + 1 + 1, none⟩)) (LD.out) rfl (fun W hW => z0f rfl (by kernel_rfl) (fo_1 W gs (os + j * 3 + 1))) ?_;refine AnyK.tk 8 (.string ⟨bd.toArray⟩) (LD.out) rfl (fun W hW => z0a rfl (by kernel_rfl) (HLb.out W hW)) ?_;refine AnyK.tm 9 (.slice (some ⟨gs, os, none⟩) n cs) (LD.out) rfl ?_;refine AnyK.tm 10 (.int .i64 (i : Int)) (LD.out) rfl ?_;refine AnyK.tk 11 (.pointer (some ⟨gs, os + i * 3, none⟩)) (LD.out) rfl (fun W hW => z0o rfl (by kernel_rfl) (by kernel_rfl) (za3 W gs os n cs i hin)) ?_;refine AnyK.tk 12 (.pointer (some ⟨gs, os + i * 3 + 1, none⟩)) (LD.out) rfl (fun W hW => z0f rfl (by kernel_rfl) (zby W gs (os + i * 3))) ?_;refine AnyK.tk 13 (.pointer (some ⟨gs, os + i * 3 + 1 + 1, none⟩)) (LD.out) rfl (fun W hW => z0f rfl (by kernel_rfl) (fo_1 W gs (os + i * 3 + 1))) ?_;refine AnyK.tk 14 (.string ⟨td.toArray⟩) (LD.out) rfl (fun W hW => z0a rfl (by kernel_rfl) (HLt.out W hW)) ?_;refine AnyK.callop2 15 17 (by kernel_rfl) 23 #[.string ⟨bd.toArray⟩, .string ⟨td.toArray⟩] (.pointer (some ⟨wd.heap.size, 0, none⟩)) (wd.alloc (entO z0n)) rfl rfl (by kernel_rfl) (by kernel_rfl) (by kernel_rfl) (z_al rfl (al_e wd)) (LD.out.trans ((below_new wd _).mono LD.out.size)) ?_ ?_
     · refine (HMk.out _).mono ?_;rintro e w6 ⟨rfl, b6⟩;have LE := zh (LD.out.trans (b6.mono LD.out.size));refine ⟨_, rfl, LE.out, ?_⟩;refine AnyK.tk 16 (.agg #[.int .i64 6, .int .i64 (dij : Int), .string ⟨#[]⟩, .string ⟨dl.toArray⟩]) (LE.out) rfl (fun W hW => z_bld (ps := #[(0, .int .i64 6), (1, .int .i64 (dij : Int)), (3, .string ⟨dl.toArray⟩)]) rfl (by kernel_rfl) (bl_6 W (dij : Int) dl)) ?_;have LF := zh (LE.out.trans ((below_new w6 (entO z0n)).mono LE.out.size));refine AnyK.op 17 (.pointer (some ⟨w6.heap.size, 0, none⟩)) (w6.alloc (entO z0n)) (by kernel_rfl) rfl (by kernel_rfl) (z_al rfl (al_e w6)) LF.out ?_;obtain ⟨w7, hst, hk7, ht7⟩ := zno (a1 := 6) (b1 := (dij : Int)) (s1 := []) (d1 := dl) (heap_alloc_new w6 (entO z0n));have L7 := zh (LF.out.trans (ht7.below (fun k _ h => by rw [h]; exact LE.out.size) LF.out.size));refine AnyK.sto 18 w7 (by kernel_rfl) rfl (by kernel_rfl) (z_st (sv := .pointer (some ⟨w6.heap.size, 0, none⟩)) (xv := .agg #[.int .i64 6, .int .i64 (dij : Int), .string ⟨#[]⟩, .string ⟨dl.toArray⟩]) rfl (by kernel_rfl) (by kernel_rfl) hst) L7.out ?_;have HFin := zh (And.intro hk7 (And.intro LE.out.size L7.out));refine AnyK.done _ (by kernel_rfl) ?_;clear hst hk7 ht7 b6;go_simp
       go_wp2
       go_meet
       case rel => exact ⟨_, rfl, HFin⟩
     · have LE := zh (LD.out.trans ((below_new wd (entO z0n)).mono LD.out.size));have k6 := heap_alloc_new wd (entO z0n);have z6 : wd.heap.size < (wd.alloc (entO z0n)).heap.size := by simp
       obtain ⟨p6, hp6⟩ := zx wd.heap.size;have hpb : w5.heap.size ≤ p6 := by rw [hp6]; exact LD.out.size
       rw [← hp6] at k6 z6 ⊢;generalize wd.alloc (entO z0n) = w6 at LE k6 z6 ⊢;clear hp6;refine AnyK.call 15 23 #[.string ⟨bd.toArray⟩, .string ⟨td.toArray⟩] (by kernel_rfl) rfl (by kernel_rfl) (by kernel_rfl) ?_;refine (HMk.out _).mono ?_;rintro e w7 ⟨rfl, b7⟩;have LF := zh (LE.out.trans (b7.mono LE.out.size));have k7 := (b7.block p6 z6).trans k6;refine ⟨_, rfl, LF.out, ?_⟩;refine AnyK.tk 16 (.agg #[.int .i64 6, .int .i64 (dij : Int), .string ⟨#[]⟩, .string ⟨dl.toArray⟩]) (LF.out) rfl (fun W hW => z_bld (ps := #[(0, .int .i64 6), (1, .int .i64 (dij : Int)), (3, .string ⟨dl.toArray⟩)]) rfl (by kernel_rfl) (bl_6 W (dij : Int) dl)) ?_;obtain ⟨w8, hst, hk8, ht8⟩ := zno (a1 := 6) (b1 := (dij : Int)) (s1 := []) (d1 := dl) k7;have L8 := zh (LF.out.trans (ht8.below (fun k _ h => by rw [h]; exact hpb) LF.out.size));refine AnyK.sto 18 w8 (by kernel_rfl) rfl (by kernel_rfl) (z_st (sv := .pointer (some ⟨p6, 0, none⟩)) (xv := .agg #[.int .i64 6, .int .i64 (dij : Int), .string ⟨#[]⟩, .string ⟨dl.toArray⟩]) rfl (by kernel_rfl) (by kernel_rfl) hst) L8.out ?_;have HFin := zh (And.intro hk8 (And.intro hpb L8.out));refine AnyK.done _ (by kernel_rfl) ?_;clear hst hk8 ht8 b7 k7 k6 z6 hpb;go_simp
       go_wp2
       go_meet
       case rel => exact ⟨_, rfl, HFin⟩
    case rest =>
    obtain ⟨p, rfl, hX⟩ := hcut;obtain ⟨w6, hw6⟩ := zx wc;rw [← hw6] at hX ⊢;clear hw6;obtain ⟨x, hx⟩ := zx (z1v s i j named);have hxd : x.data = dl := by rw [hx, Hdl.out, Hbd.out, Htd.out]; rfl
    go_upto_if 118 with fail
    go_cut [16] from 118 to 126 (fun v16 wx => v16 = .pointer (some ⟨p, 0, none⟩) ∧ Hid (wx.heap[p]? = some (.cells #[.int .i64 x.kind, .int .i64 x.back, .string ⟨x.base.toArray⟩, .string ⟨x.data.toArray⟩] 51 (0, 0)) ∧ w5.heap.size ≤ p ∧ Below w5.heap.size w5 wx))
    case first =>
     obtain ⟨hk6, hp6, hb6⟩ := hX;cases named with
     | false =>
       have HFin : Hid (w6.heap[p]? = some (.cells #[.int .i64 x.kind, .int .i64 x.back, .string ⟨x.base.toArray⟩, .string ⟨x.data.toArray⟩] 51 (0, 0)) ∧ w5.heap.size ≤ p ∧ Below w5.heap.size w5 w6) := zh ⟨by
        rw [hxd, hx];show w6.heap[p]? = some (.cells #[.int .i64 6, .int .i64 ((i - j : Nat) : Int), .string ⟨#[]⟩, .string ⟨dl.toArray⟩] 51 (0, 0));rw [← Hdi2.out];exact hk6, hp6, hb6⟩
       clear hk6 hp6 hb6 hx hxd
       go_wp2
       go_meet
       case rel => exact ⟨rfl, HFin⟩
     | true =>
       obtain ⟨wA, hwA⟩ := zx (w6.setCell ⟨p, 0, none⟩ (.int .i64 7));obtain ⟨wB, hwB⟩ := zx (wA.setCell ⟨p, 1, none⟩ (.int .i64 0));obtain ⟨wC, hwC⟩ := zx (wB.setCell ⟨p, 2, none⟩ (.string ⟨idj.toArray⟩));have tA : Dl.But (fun k => k = p) w6 wA := by rw [hwA]; exact but_setCell w6 p 0 _
       have tB : Dl.But (fun k => k = p) wA wB := by rw [hwB]; exact but_setCell wA p 1 _
       have tC : Dl.But (fun k => k = p) wB wC := by rw [hwC]; exact but_setCell wB p 2 _
       have kA := blk_setCell hk6 (i := 0) (.int .i64 7);rw [← hwA] at kA;have kB := blk_setCell kA (i := 1) (.int .i64 0);rw [← hwB] at kB;have kC := blk_setCell kB (i := 2) (.string ⟨idj.toArray⟩);rw [← hwC] at kC;have kC' : wC.heap[p]? = some (.cells #[.int .i64 7, .int .i64 0, .string ⟨idj.toArray⟩, .string ⟨dl.toArray⟩] 51 (0, 0)) := kC.trans rfl;have kA' : wA.heap[p]? = some (.cells #[.int .i64 7, .int .i64 (dij : Int), .string ⟨#[]⟩, .string ⟨dl.toArray⟩] 51 (0, 0)) := kA.trans rfl;have kB' : wB.heap[p]? = some (.cells #[.int .i64 7, .int .i64 0, .string ⟨#[]⟩, .string ⟨dl.toArray⟩] 51 (0, 0)) := kB.trans rfl;have bA := hb6.trans (tA.below (fun k _ h => by rw [h]; exact hp6) hb6.size);have bB := bA.trans (tB.below (fun k _ h => by rw [h]; exact hp6) bA.size);have bC := bB.trans (tC.below (fun k _ h => by rw [h]; exact hp6) bB.size);have hidc := (HldsR.cells (H5.out.below bB zl) j Hjs.out).1;rw [← Hidj.out] at hidc;unfold SV at hidc
       have HFin : Hid (wC.heap[p]? = some (.cells #[.int .i64 x.kind, .int .i64 x.back, .string ⟨x.base.toArray⟩, .string ⟨x.data.toArray⟩] 51 (0, 0)) ∧ w5.heap.size ≤ p ∧ Below w5.heap.size w5 wC) := zh ⟨by
        rw [hxd, hx];show wC.heap[p]? = some (.cells #[.int .i64 7, .int .i64 0, .string ⟨(s.getD j noHld).id.toArray⟩, .string ⟨dl.toArray⟩] 51 (0, 0));rw [← Hidj.out];exact kC', hp6, bC⟩
       obtain ⟨c0, c1, c2, c3⟩ := cells4 hk6;have f0 := z05 hk6 0;have HA := zh hwA; have HB := zh hwB; have HC := zh hwC; have HkA := zh kA'; have HkB := zh kB'; have Hidc := zh hidc;clear hwA hwB hwC tA tB tC kA kB kC kC' kA' kB' bA bB bC hidc hk6 hp6 hb6 hx hxd
       go_upto_region 22 with fail
       rw [← HA.out];clear c0 c1 c2 c3 f0 HA;obtain ⟨c0, c1, c2, c3⟩ := cells4 HkA.out;have f1 := z05 HkA.out 1
       go_upto_region 23 with fail
       rw [← HB.out];clear c0 c1 c2 c3 f1 HB;obtain ⟨c0, c1, c2, c3⟩ := cells4 HkB.out;have f2 := z05 HkB.out 2;have hidc := Hidc.out
       go_wp2
       rw [← HC.out]
       go_meet
       case rel => exact ⟨rfl, HFin⟩
    case rest =>
    obtain ⟨rfl, hX⟩ := hcut;obtain ⟨w7, hw7⟩ := zx wc;rw [← hw7] at hX ⊢;clear hw7;have HX := zh hX.out;have Hx := zh hx;clear hX;obtain ⟨xk, xb, xs, xd⟩ := x;simp only at hxd;have hxd2 := hxd.symm;subst hxd2;clear hxd;simp only at HX;have B7 := zh HX.out.2.2;have e7 := HE4.out.below B7.out zl;obtain ⟨hs1, hr1⟩ := cutE_to e7 Hwl.out.symm i (by omega);obtain ⟨A8, c8, hs2, hr2⟩ := znp e7 Hwl.out.symm (i + 1) (by omega);have HS1 := zh hs1; have HS2 := zh hs2;have HRt := zh (fun W (hW : Below w7.heap.size w7 W) => hr1.below hW zl);have HRd := zh hr2;have HRm : Hid (([] : List Ent).length + ((z2c s).take i).length ≤ 1000000) := zh (by rw [List.length_take]; simp; omega);have HRl : Hid (((z2c s).take i).length + 1 + ((z2c s).drop (i + 1)).length ≤ 1000) := zh (by rw [List.length_take, List.length_drop, Hwl.out]; omega);have HDl : Hid (((z2c s).take i ++ [(⟨xk, xb, xs, dl⟩ : Ent)] ++ (z2c s).drop (i + 1)).length = n) := zh (by have := z2l His.out ⟨xk, xb, xs, dl⟩; unfold z3m at this; rw [this, Hn.out]);have HLx := zh (fun W (hW : Below w7.heap.size w7 W) => l_E (W := W) ((hW.block p (lt_heap HX.out.1)).trans HX.out.1));clear e7 hs1 hr1 hs2 hr2
    go_upto_region 24 with fail
    go_cut [15] from 127 to 139 (fun v15 wx => ∃ A9 c9, v15 = .slice A9 n c9 ∧ Hid (EntsR wx (.slice A9 n c9) ((z2c s).take i ++ [⟨xk, xb, xs, dl⟩] ++ (z2c s).drop (i + 1)) ∧ Below w7.heap.size w7 wx))
    case first =>
     refine AnyK.start w7.heap.size w7 (by kernel_rfl) ?_;have LD := zh (show Below w7.heap.size w7 w7.drew from (Below.refl _ _).drew);generalize w7.drew = wd at LD ⊢;refine AnyK.tm 1 (.slice A4 n c4) (LD.out) rfl ?_;refine AnyK.tm 2 (.int .i64 (i : Int)) (LD.out) rfl ?_;refine AnyK.tk 3 (.slice A4 i c4) (LD.out) rfl (fun W hW => y_slice (xv := .slice A4 n c4) (lv := none) (hv := some (.int .i64 (i : Int))) (mv := none) rfl (by kernel_rfl) (by kernel_rfl) (by kernel_rfl) (by kernel_rfl) (HS1.out W)) ?_;refine AnyK.tk 5 (.agg #[.int .i64 xk, .int .i64 xb, .string ⟨xs.toArray⟩, .string ⟨dl.toArray⟩]) (LD.out) rfl (fun W hW => z0a rfl (by kernel_rfl) (HLx.out W hW)) ?_;refine AnyK.tm 8 (.slice A4 n c4) (LD.out) rfl ?_;refine AnyK.tm 9 (.int .i64 (i : Int)) (LD.out) rfl ?_;refine AnyK.tk 10 (.int .i64 ((i + 1 : Nat) : Int)) (LD.out) rfl (fun W hW => y_bin rfl (by kernel_rfl) (by kernel_rfl) (by kernel_rfl) (add_n1 W i Hi6.out)) ?_;refine AnyK.tk 11 (.slice A8 (n - (i + 1)) c8) (LD.out) rfl (fun W hW => y_slice (xv := .slice A4 n c4) (lv := some (.int .i64 ((i + 1 : Nat) : Int))) (hv := none) (mv := none) rfl (by kernel_rfl) (by kernel_rfl) (by kernel_rfl) (by kernel_rfl) (HS2.out W)) ?_;have P0 := below_new wd (.cells #[] 51);have P1 := below_new wd (.cells #[.int .i64 xk, .int .i64 xb, .string ⟨xs.toArray⟩, .string ⟨dl.toArray⟩] 51);refine AnyK.two 0 6 (by kernel_rfl) (.slice (some ⟨wd.heap.size, 0, none⟩) 0 0) (.slice (some ⟨wd.heap.size, 0, none⟩) 1 1) (wd.alloc (.cells #[] 51)) (wd.alloc (.cells #[.int .i64 xk, .int .i64 xb, .string ⟨xs.toArray⟩, .string ⟨dl.toArray⟩] 51)) rfl rfl (by kernel_rfl) (by kernel_rfl) (zii (ps := #[]) rfl (by kernel_rfl) (bs_0 wd)) (zii (ps := #[(0, .agg #[.int .i64 xk, .int .i64 xb, .string ⟨xs.toArray⟩, .string ⟨dl.toArray⟩])]) rfl (by kernel_rfl) (bs_1 wd xk xb xs dl)) (LD.out.trans (P0.mono LD.out.size)) (LD.out.trans (P1.mono LD.out.size)) ?_ ?_
     · have hn0 := OwK.new0 (t := 51) (k := 4) (f := entC) wd wd.heap.size zl;have hlt4 : wd.heap.size < (wd.alloc (.cells #[] 51)).heap.size := by simp
       generalize wd.alloc (.cells #[] 51) = wa at P0 hn0 hlt4 ⊢;clear P1;obtain ⟨v1, wb, g1, o1, b1, r1⟩ := z9c entK hn0 (HRt.out wa (LD.out.trans (P0.mono LD.out.size))) HRm.out (by decide) P0.size 22;refine AnyK.two 4 6 (by kernel_rfl) v1 (.slice (some ⟨wa.heap.size, 0, none⟩) 1 1) wb (wa.alloc (.cells #[.int .i64 xk, .int .i64 xb, .string ⟨xs.toArray⟩, .string ⟨dl.toArray⟩] 51)) rfl rfl (by kernel_rfl) (by kernel_rfl) (z1p rfl (by kernel_rfl) (by kernel_rfl) g1) (zii (ps := #[(0, .agg #[.int .i64 xk, .int .i64 xb, .string ⟨xs.toArray⟩, .string ⟨dl.toArray⟩])]) rfl (by kernel_rfl) (bs_1 wa xk xb xs dl)) (LD.out.trans ((P0.trans b1).mono LD.out.size)) (LD.out.trans ((P0.trans ((below_new wa _).mono P0.size)).mono LD.out.size)) ?_ ?_
       · have P2 := P0.trans b1;refine AnyK.op 6 (.slice (some ⟨wb.heap.size, 0, none⟩) 1 1) (wb.alloc (.cells #[.int .i64 xk, .int .i64 xb, .string ⟨xs.toArray⟩, .string ⟨dl.toArray⟩] 51)) (by kernel_rfl) rfl (by kernel_rfl) (zii (ps := #[(0, .agg #[.int .i64 xk, .int .i64 xb, .string ⟨xs.toArray⟩, .string ⟨dl.toArray⟩])]) rfl (by kernel_rfl) (bs_1 wb xk xb xs dl)) (LD.out.trans ((P2.trans ((below_new wb _).mono P2.size)).mono LD.out.size)) ?_;have P3 := P2.trans ((below_new wb (.cells #[.int .i64 xk, .int .i64 xb, .string ⟨xs.toArray⟩, .string ⟨dl.toArray⟩] 51)).mono P2.size);have o2 := OwK.below o1 (below_new wb (.cells #[.int .i64 xk, .int .i64 xb, .string ⟨xs.toArray⟩, .string ⟨dl.toArray⟩] 51)) zl;have k2 := lit_d wb xk xb xs dl;generalize wb.alloc (.cells #[.int .i64 xk, .int .i64 xb, .string ⟨xs.toArray⟩, .string ⟨dl.toArray⟩] 51) = wc' at P3 o2 k2 ⊢;clear g1 o1 b1 r1 hn0 P2 P0;rw [List.nil_append] at o2;obtain ⟨v3, w3', v4, w4', g3, g4, o4, b3, b4⟩ := app3 o2 k2 (fun W hW => HRd.out W hW) (LD.out.trans ((P3).mono LD.out.size)) (Nat.le_trans LD.out.size zl) (P3).size HRl.out 22 22;have LX := zh (LD.out.trans (((P3).trans (b3.mono zl)).mono LD.out.size));have LY := zh (LX.out.trans (b4.mono (Nat.le_trans LD.out.size zl)));refine AnyK.op 7 v3 w3' (by kernel_rfl) rfl (by kernel_rfl) (z1p rfl (by kernel_rfl) (by kernel_rfl) g3) LX.out ?_;refine AnyK.op 12 v4 w4' (by kernel_rfl) rfl (by kernel_rfl) (z1p rfl (by kernel_rfl) (by kernel_rfl) g4) LY.out ?_;obtain ⟨A9, c9, e9⟩ := zb7 o4;have hlen := HDl.out;rw [hlen] at e9;subst e9;have HFin := zh (And.intro o4.rd LY.out);refine AnyK.tm 13 (.slice A9 n c9) (LY.out) rfl ?_;refine AnyK.done _ (by kernel_rfl) ?_;clear g3 g4 o4 b3 b4 hlen;go_simp
         go_wp2
         go_meet
         case rel => exact ⟨A9, c9, rfl, HFin⟩
       · clear g1 o1 b1 r1 v1 wb;have k1 := lit_d wa xk xb xs dl;have hn2 := OwK.below hn0 (below_new wa (.cells #[.int .i64 xk, .int .i64 xb, .string ⟨xs.toArray⟩, .string ⟨dl.toArray⟩] 51)) zl;have P2 := P0.trans ((below_new wa (.cells #[.int .i64 xk, .int .i64 xb, .string ⟨xs.toArray⟩, .string ⟨dl.toArray⟩] 51)).mono P0.size);have h5 : wa.heap.size < (wa.alloc (.cells #[.int .i64 xk, .int .i64 xb, .string ⟨xs.toArray⟩, .string ⟨dl.toArray⟩] 51)).heap.size := by simp
         generalize wa.alloc (.cells #[.int .i64 xk, .int .i64 xb, .string ⟨xs.toArray⟩, .string ⟨dl.toArray⟩] 51) = wb at P2 hn2 k1 h5 ⊢;obtain ⟨v1, wc', g1, o2, b1, r1⟩ := z9c entK hn2 (HRt.out wb (LD.out.trans (P2.mono LD.out.size))) HRm.out (by decide) P2.size 22;refine AnyK.op 4 v1 wc' (by kernel_rfl) rfl (by kernel_rfl) (z1p rfl (by kernel_rfl) (by kernel_rfl) g1) (LD.out.trans ((P2.trans b1).mono LD.out.size)) ?_;have P3 := P2.trans b1;have k2 := k1.block (r1.block wa.heap.size h5 (fun e => by have e2 : wa.heap.size = wd.heap.size := Option.some.inj e; omega));rw [List.nil_append] at o2;obtain ⟨v3, w3', v4, w4', g3, g4, o4, b3, b4⟩ := app3 o2 k2 (fun W hW => HRd.out W hW) (LD.out.trans ((P3).mono LD.out.size)) (Nat.le_trans LD.out.size zl) (P3).size HRl.out 22 22;have LX := zh (LD.out.trans (((P3).trans (b3.mono zl)).mono LD.out.size));have LY := zh (LX.out.trans (b4.mono (Nat.le_trans LD.out.size zl)));refine AnyK.op 7 v3 w3' (by kernel_rfl) rfl (by kernel_rfl) (z1p rfl (by kernel_rfl) (by kernel_rfl) g3) LX.out ?_;refine AnyK.op 12 v4 w4' (by kernel_rfl) rfl (by kernel_rfl) (z1p rfl (by kernel_rfl) (by kernel_rfl) g4) LY.out ?_;obtain ⟨A9, c9, e9⟩ := zb7 o4;have hlen := HDl.out;rw [hlen] at e9;subst e9;have HFin := zh (And.intro o4.rd LY.out);refine AnyK.tm 13 (.slice A9 n c9) (LY.out) rfl ?_;refine AnyK.done _ (by kernel_rfl) ?_;clear g3 g4 o4 b3 b4 hlen;go_simp
         go_wp2
         go_meet
         case rel => exact ⟨A9, c9, rfl, HFin⟩
     · have k1 := lit_d wd xk xb xs dl;have h5 : wd.heap.size < (wd.alloc (.cells #[.int .i64 xk, .int .i64 xb, .string ⟨xs.toArray⟩, .string ⟨dl.toArray⟩] 51)).heap.size := by simp
       generalize wd.alloc (.cells #[.int .i64 xk, .int .i64 xb, .string ⟨xs.toArray⟩, .string ⟨dl.toArray⟩] 51) = wa at P1 k1 h5 ⊢;clear P0;refine AnyK.op 0 (.slice (some ⟨wa.heap.size, 0, none⟩) 0 0) (wa.alloc (.cells #[] 51)) (by kernel_rfl) rfl (by kernel_rfl) (zii (ps := #[]) rfl (by kernel_rfl) (bs_0 wa)) (LD.out.trans ((P1.trans ((below_new wa _).mono P1.size)).mono LD.out.size)) ?_;have hn0 := OwK.new0 (t := 51) (k := 4) (f := entC) wa wa.heap.size zl;have Q0 := below_new wa (.cells #[] 51);have P2 := P1.trans (Q0.mono P1.size);generalize wa.alloc (.cells #[] 51) = wb at P2 Q0 hn0 ⊢;obtain ⟨v1, wc', g1, o2, b1, r1⟩ := z9c entK hn0 (HRt.out wb (LD.out.trans (P2.mono LD.out.size))) HRm.out (by decide) Q0.size 22;refine AnyK.op 4 v1 wc' (by kernel_rfl) rfl (by kernel_rfl) (z1p rfl (by kernel_rfl) (by kernel_rfl) g1) (LD.out.trans ((P1.trans ((Q0.trans b1).mono P1.size)).mono LD.out.size)) ?_;have Q3 := Q0.trans b1;have k2 := k1.block (Q3.block _ h5);have P3 := P1.trans (Q3.mono P1.size);have o2 := OwK.mono o2 P1.size;rw [List.nil_append] at o2;obtain ⟨v3, w3', v4, w4', g3, g4, o4, b3, b4⟩ := app3 o2 k2 (fun W hW => HRd.out W hW) (LD.out.trans ((P3).mono LD.out.size)) (Nat.le_trans LD.out.size zl) (P3).size HRl.out 22 22;have LX := zh (LD.out.trans (((P3).trans (b3.mono zl)).mono LD.out.size));have LY := zh (LX.out.trans (b4.mono (Nat.le_trans LD.out.size zl)));refine AnyK.op 7 v3 w3' (by kernel_rfl) rfl (by kernel_rfl) (z1p rfl (by kernel_rfl) (by kernel_rfl) g3) LX.out ?_;refine AnyK.op 12 v4 w4' (by kernel_rfl) rfl (by kernel_rfl) (z1p rfl (by kernel_rfl) (by kernel_rfl) g4) LY.out ?_;obtain ⟨A9, c9, e9⟩ := zb7 o4;have hlen := HDl.out;rw [hlen] at e9;subst e9;have HFin := zh (And.intro o4.rd LY.out);refine AnyK.tm 13 (.slice A9 n c9) (LY.out) rfl ?_;refine AnyK.done _ (by kernel_rfl) ?_;clear g3 g4 o4 b3 b4 hlen;go_simp
       go_wp2
       go_meet
       case rel => exact ⟨A9, c9, rfl, HFin⟩
    case rest =>
    obtain ⟨A9, c9, rfl, hI⟩ := hcut;obtain ⟨w8, hw8⟩ := zx wc;rw [← hw8] at hI ⊢;clear hw8;obtain ⟨L, hL⟩ := zx (z3m s i (z1v s i j named));have hLe : (z2c s).take i ++ [⟨xk, xb, xs, dl⟩] ++ (z2c s).drop (i + 1) = L := by rw [hL, ← Hx.out]; rfl
    have HI := zh hI.out;rw [hLe] at HI;have HSmal := zh (ziz HDel.out named);have HRes := zh (zn4 HDel.out named);rw [← hL] at HSmal HRes;have L8 := zh (L5.out.trans ((B7.out.trans (HI.out.2.mono B7.out.size)).mono L5.out.size));have HRs := zh (z5y HI.out.1 HSmal.out.1 HSmal.out.2 (Hw.out.below L8.out));clear hI hL hLe HS1 HS2 HRt HRd HRm HRl HDl HLx
    go_wp2_with fail
    refine HRs.out.mono ?_;intro e w9 hh;unfold RsOP at hh;rw [HRes.out] at hh;obtain ⟨b9, v9, rfl, o9⟩ := hh;have L9 := zh (L8.out.trans (b9.mono L8.out.size));have C9 := zh (HI.out.2.trans (b9.mono HI.out.2.size));have B59 := zh ((B7.out.trans (HI.out.2.mono B7.out.size)).trans (b9.mono (Nat.le_trans B7.out.size HI.out.2.size)));obtain ⟨A10, c10, rfl⟩ := zb7 o9;have h9l : ((z2d s i).map obM).length = n := by rw [List.length_map, Hn.out]; unfold z2d zb3; rw [List.length_set, List.length_map]
    have O9 := zh o9; have H9l := zh h9l;rw [h9l] at O9 ⊢;have HDp := zh (zgw (HI.out.1.below b9 zl) HSmal.out.1 HSmal.out.2 (Hw.out.below L9.out));clear o9 b9 HRs h9l
    go_wp2_with fail
    refine HDp.out.mono ?_;intro e w10 hh;unfold RsIP at hh;rw [HRes.out] at hh;obtain ⟨b10, v10, rfl, o10⟩ := hh;have L10 := zh (L9.out.trans (b10.mono L9.out.size)); have B10 := zh (B59.out.trans (b10.mono B59.out.size)); have C10 := zh (C9.out.trans (b10.mono C9.out.size));obtain ⟨A11, c11, rfl⟩ := zb7 o10;have h10l : ((z2d s i).map dpM).length = n := by rw [List.length_map, Hn.out]; unfold z2d zb3; rw [List.length_set, List.length_map]
    have O10 := zh o10; have H10l := zh h10l; have O910 : Hid (NewO w8.heap.size w10 (.slice A10 n c10) ((z2d s i).map obM)) := zh (OwK.below O9.out b10 zl);rw [h10l] at O10 ⊢;clear o10 b10 HDp h10l O9;have H10 := zh (H5.out.below B10.out zl);have hnn : ((n : Int) != (n : Int)) = false := by simp
    go_wp2_with fail
    clear hnn
    go_loopw [21] (fun iv wr => Hid (Below w10.heap.size w10 wr) ∧ ∃ q : Nat, q ≤ n ∧ iv = .int .i64 q) (fun iv _ => n - (intOf iv).toNat)
    case atStart => exact ⟨zh (Below.refl _ _), 0, Nat.zero_le _, rfl⟩
    case round =>
     obtain ⟨hB, q, hq, rfl⟩ := hrel;by_cases hlt : q < n
     · obtain ⟨ga, rfl, hca⟩ := z38 O910.out H9l.out.symm (by omega);obtain ⟨gd, rfl, hcd⟩ := zb6 O10.out H10l.out.symm (by omega);have hqs : q < s.length := by have := Hn.out; omega
       obtain ⟨kd, hkd⟩ := zx ((s.getD q noHld).kind);obtain ⟨dt, hdt⟩ := zx ((s.getD q noHld).data);have hl : q < (z2d s i).length := by unfold z2d zb3; rw [List.length_set, List.length_map]; exact hqs
       have eT : ((z2d s i).map obM).getD q (0, []) = (kd, dt) := by
        rw [getD_map obM (z2d s i) q hl noMd (0, []), z6o His.out hqs, hkd, hdt];by_cases e : q = i
        · rw [if_pos e, e]; rfl
        · rw [if_neg e]; rfl
       have eD : ((z2d s i).map dpM).getD q 0 = if q = i then 1 else 0 := by
        rw [getD_map dpM (z2d s i) q hl noMd 0, z6o His.out hqs];by_cases e : q = i
        · rw [if_pos e, if_pos e]; rfl
        · rw [if_neg e, if_neg e]; rfl
       have hB' : ∀ W, Below wr.drew.heap.size wr.drew W → Below w10.heap.size w10 W := fun W hW => hB.out.drew.trans (hW.mono hB.out.drew.size)
       have HL1 := zh (fun W (hW : Below wr.drew.heap.size wr.drew W) => l_obO (W := W) (g := ga) (o := q * 2) (k := kd) (d := dt) (by
        have h := ((z38 (OwK.below O910.out (hB' W hW) zl) H9l.out.symm (by omega)))
        obtain ⟨g', e, hc⟩ := h;cases e;have := (hc q hlt).1
        rwa [eT] at this) (by
        have h := ((z38 (OwK.below O910.out (hB' W hW) zl) H9l.out.symm (by omega)))
        obtain ⟨g', e, hc⟩ := h;cases e;have := (hc q hlt).2
        rwa [eT] at this))
       have HL2 := zh (fun W (hW : Below wr.drew.heap.size wr.drew W) => l_obH (W := W) (g := gs) (o := os + q * 3) (k := kd) (d := dt) (by
        have := (HldsR.cells (H10.out.below (hB' W hW) zl) q hqs).2.1
        rwa [← hkd] at this) (by
        have := (HldsR.cells (H10.out.below (hB' W hW) zl) q hqs).2.2
        rwa [← hdt] at this))
       have HL3 := zh (fun W (hW : Below wr.drew.heap.size wr.drew W) => l_I (W := W) (g := gd) (o := q * 1) (k := if q = i then 1 else 0) (by
        have h := ((zb6 (OwK.below O10.out (hB' W hW) zl) H10l.out.symm (by omega)))
        obtain ⟨g', e, hc⟩ := h;cases e;have := hc q hlt
        rwa [eD] at this))
       have HBd := zh hB.out.drew;have hltI : (q : Int) < (n : Int) := by omega
       have hkb : q < 60 := by omega
       clear hca hcd hkd hdt eT eD hB' hB hqs hl;by_cases hqi : q = i
       · have hqn : ((q : Int) != (i : Int)) = false := by simp [hqi]
         have hqe : ((q : Int) == (i : Int)) = true := by simp [hqi]
         rw [if_pos hqi] at HL3;have Hqi := zh hqi;clear hqi
         go_upto_region 32 with fail
         refine AnyB.start (by kernel_rfl) ?_;refine AnyB.tm 0 (.slice (some ⟨ga, 0, none⟩) n c10) rfl ?_;refine AnyB.tm 1 (.int .i64 (q : Int)) rfl ?_;refine AnyB.tk 2 (.pointer (some ⟨ga, q * 2, none⟩)) rfl (fun W hW => z0o rfl (by kernel_rfl) (by kernel_rfl) (at_o0 W ga n c10 q hlt)) ?_;refine AnyB.tk 3 (.agg #[.int .i64 kd, .string ⟨dt.toArray⟩]) rfl (fun W hW => z0a rfl (by kernel_rfl) (HL1.out W hW)) ?_;refine AnyB.tm 4 (.slice (some ⟨gs, os, none⟩) n cs) rfl ?_;refine AnyB.tm 5 (.int .i64 (q : Int)) rfl ?_;refine AnyB.tk 6 (.pointer (some ⟨gs, os + q * 3, none⟩)) rfl (fun W hW => z0o rfl (by kernel_rfl) (by kernel_rfl) (za3 W gs os n cs q hlt)) ?_;refine AnyB.tk 7 (.pointer (some ⟨gs, os + q * 3 + 1, none⟩)) rfl (fun W hW => z0f rfl (by kernel_rfl) (zby W gs (os + q * 3))) ?_;refine AnyB.tk 8 (.agg #[.int .i64 kd, .string ⟨dt.toArray⟩]) rfl (fun W hW => z0a rfl (by kernel_rfl) (HL2.out W hW)) ?_;refine AnyB.tk 9 (.bool false) rfl (fun W hW => y_bin (x := .agg #[.int .i64 kd, .string ⟨dt.toArray⟩]) (y := .agg #[.int .i64 kd, .string ⟨dt.toArray⟩]) rfl (by kernel_rfl) (by kernel_rfl) (grd_ob W _ _ kd _) (neq_ob W kd _)) ?_;refine AnyB.tm 10 (.bool false) rfl ?_;refine AnyB.tm 11 (.int .i64 (q : Int)) rfl ?_;refine AnyB.tm 12 (.int .i64 (i : Int)) rfl ?_;refine AnyB.tk 13 (.bool false) rfl (fun W hW => y_bin rfl (by kernel_rfl) (by kernel_rfl) (by kernel_rfl) (zh9 W q i _ hqn)) ?_;refine AnyB.tm 14 (.bool false) rfl ?_;refine AnyB.sk 15 rfl ?_;refine AnyB.sk 16 rfl ?_;refine AnyB.sk 17 rfl ?_;refine AnyB.sk 18 rfl ?_;refine AnyB.sk 19 rfl ?_;refine AnyB.tm 20 (.bool false) rfl ?_;refine AnyB.tm 21 (.bool false) rfl ?_;refine AnyB.tm 22 (.bool false) rfl ?_;refine AnyB.tm 23 (.int .i64 (q : Int)) rfl ?_;refine AnyB.tm 24 (.int .i64 (i : Int)) rfl ?_;refine AnyB.tk 25 (.bool true) rfl (fun W hW => y_bin rfl (by kernel_rfl) (by kernel_rfl) (by kernel_rfl) (znn W q i _ hqe)) ?_;refine AnyB.tm 26 (.bool true) rfl ?_;refine AnyB.tm 27 (.slice (some ⟨gd, 0, none⟩) n c11) rfl ?_;refine AnyB.tm 28 (.int .i64 (q : Int)) rfl ?_;refine AnyB.tk 29 (.pointer (some ⟨gd, q * 1, none⟩)) rfl (fun W hW => z0o rfl (by kernel_rfl) (by kernel_rfl) (at_i0 W gd n c11 q hlt)) ?_;refine AnyB.tk 30 (.int .i64 1) rfl (fun W hW => z0a rfl (by kernel_rfl) (HL3.out W hW)) ?_;refine AnyB.tk 31 (.bool false) rfl (fun W hW => y_bin rfl (by kernel_rfl) (by kernel_rfl) (by kernel_rfl) (neq_ii W 1)) ?_;refine AnyB.tm 32 (.bool false) rfl ?_;refine AnyB.tm 33 (.bool false) rfl ?_;refine AnyB.done _ (by kernel_rfl) ?_;clear HL1 HL2 HL3 hqn hqe;go_simp
         go_wp2_with fail
         go_roundw
         case rel => exact ⟨HBd, q + 1, hlt, by go_num⟩
         case measure => simp [intOf]; omega
       · have hqn : ((q : Int) != (i : Int)) = true := by simp; omega
         have hqe : ((q : Int) == (i : Int)) = false := by simp; omega
         rw [if_neg hqi] at HL3;have Hqi := zh hqi;clear hqi
         go_upto_region 32 with fail
         refine AnyB.start (by kernel_rfl) ?_;refine AnyB.tm 0 (.slice (some ⟨ga, 0, none⟩) n c10) rfl ?_;refine AnyB.tm 1 (.int .i64 (q : Int)) rfl ?_;refine AnyB.tk 2 (.pointer (some ⟨ga, q * 2, none⟩)) rfl (fun W hW => z0o rfl (by kernel_rfl) (by kernel_rfl) (at_o0 W ga n c10 q hlt)) ?_;refine AnyB.tk 3 (.agg #[.int .i64 kd, .string ⟨dt.toArray⟩]) rfl (fun W hW => z0a rfl (by kernel_rfl) (HL1.out W hW)) ?_;refine AnyB.tm 4 (.slice (some ⟨gs, os, none⟩) n cs) rfl ?_;refine AnyB.tm 5 (.int .i64 (q : Int)) rfl ?_;refine AnyB.tk 6 (.pointer (some ⟨gs, os + q * 3, none⟩)) rfl (fun W hW => z0o rfl (by kernel_rfl) (by kernel_rfl) (za3 W gs os n cs q hlt)) ?_;refine AnyB.tk 7 (.pointer (some ⟨gs, os + q * 3 + 1, none⟩)) rfl (fun W hW => z0f rfl (by kernel_rfl) (zby W gs (os + q * 3))) ?_;refine AnyB.tk 8 (.agg #[.int .i64 kd, .string ⟨dt.toArray⟩]) rfl (fun W hW => z0a rfl (by kernel_rfl) (HL2.out W hW)) ?_;refine AnyB.tk 9 (.bool false) rfl (fun W hW => y_bin (x := .agg #[.int .i64 kd, .string ⟨dt.toArray⟩]) (y := .agg #[.int .i64 kd, .string ⟨dt.toArray⟩]) rfl (by kernel_rfl) (by kernel_rfl) (grd_ob W _ _ kd _) (neq_ob W kd _)) ?_;refine AnyB.tm 10 (.bool false) rfl ?_;refine AnyB.tm 11 (.int .i64 (q : Int)) rfl ?_;refine AnyB.tm 12 (.int .i64 (i : Int)) rfl ?_;refine AnyB.tk 13 (.bool true) rfl (fun W hW => y_bin rfl (by kernel_rfl) (by kernel_rfl) (by kernel_rfl) (zh9 W q i _ hqn)) ?_;refine AnyB.tm 14 (.bool true) rfl ?_;refine AnyB.tm 15 (.slice (some ⟨gd, 0, none⟩) n c11) rfl ?_;refine AnyB.tm 16 (.int .i64 (q : Int)) rfl ?_;refine AnyB.tk 17 (.pointer (some ⟨gd, q * 1, none⟩)) rfl (fun W hW => z0o rfl (by kernel_rfl) (by kernel_rfl) (at_i0 W gd n c11 q hlt)) ?_;refine AnyB.tk 18 (.int .i64 0) rfl (fun W hW => z0a rfl (by kernel_rfl) (HL3.out W hW)) ?_;refine AnyB.tk 19 (.bool false) rfl (fun W hW => y_bin rfl (by kernel_rfl) (by kernel_rfl) (by kernel_rfl) (neq_ii W 0)) ?_;refine AnyB.tm 20 (.bool false) rfl ?_;refine AnyB.tm 21 (.bool false) rfl ?_;refine AnyB.tm 22 (.bool false) rfl ?_;refine AnyB.tm 23 (.int .i64 (q : Int)) rfl ?_;refine AnyB.tm 24 (.int .i64 (i : Int)) rfl ?_;refine AnyB.tk 25 (.bool false) rfl (fun W hW => y_bin rfl (by kernel_rfl) (by kernel_rfl) (by kernel_rfl) (znn W q i _ hqe)) ?_;refine AnyB.tm 26 (.bool false) rfl ?_;refine AnyB.sk 27 rfl ?_;refine AnyB.sk 28 rfl ?_;refine AnyB.sk 29 rfl ?_;refine AnyB.sk 30 rfl ?_;refine AnyB.sk 31 rfl ?_;refine AnyB.tm 32 (.bool false) rfl ?_;refine AnyB.tm 33 (.bool false) rfl ?_;refine AnyB.done _ (by kernel_rfl) ?_;clear HL1 HL2 HL3 hqn hqe;go_simp
         go_wp2_with fail
         go_roundw
         case rel => exact ⟨HBd, q + 1, hlt, by go_num⟩
         case measure => simp [intOf]; omega
     · obtain rfl : q = n := by omega
       have hltI : ¬ (q : Int) < (q : Int) := by omega
       have L11 := zh (L10.out.trans (hB.out.mono L10.out.size)); have B11 := zh (B10.out.trans (hB.out.mono B10.out.size)); have C11 := zh (C10.out.trans (hB.out.mono C10.out.size));clear hB;obtain ⟨w11, hw11⟩ := zx wr;rw [← hw11] at L11 B11 C11 ⊢;clear hw11;have hAl := zn6 HDel.out;rw [← Hidj.out, ← Hbd.out, ← Htd.out, ← Hdl.out, ← HKi.out] at hAl;have HAl := zh hAl
       have hidl : idj.length ≤ 1000000 := by
        have := named_len (z6p (HF.out _ (z0e Hjs.out)));rw [Hidj.out]; omega
       have hdll : dl.length ≤ 9000 := by
        have := z5g bd td (by rw [Hbd.out]; exact HSm.out _ (z0e Hjs.out)) (by rw [Htd.out]; exact HSm.out _ (z0e His.out));rw [Hdl.out]; exact this
       have HH11 := zh (H5.out.below B11.out zl)
       have HRa : Hid (∀ W, Below w11.heap.size w11 W → ∀ g8, EntsR W (.slice (some ⟨g8, 0, none⟩) 1 1) [⟨7, 0, idj, dl⟩] → Calls Tryz.prog 21 #[.slice (some ⟨g8, 0, none⟩) 1 1, .slice (some ⟨gs, os, none⟩) q cs] W (RsOP [⟨7, 0, idj, dl⟩] s W)) := zh fun W hW g8 hE => by
        have hWd := (Hw.out.below L11.out).below hW;refine z9f hE ⟨by simp, fun e he => by obtain rfl := List.mem_singleton.1 he; exact ⟨hidl, by show dl.length ≤ 1000000; omega⟩⟩ (fun e he => by obtain rfl := List.mem_singleton.1 he; show dl.length ≤ 10000; omega) (fun h hh => by have := HSm.out h hh; omega) hWd.ob hWd.et (fun _ w1 hb1 => ?_);refine zfl (hE.below hb1 zl) ((HH11.out.below hW zl).below hb1 zl) (by simp) (by have := HSl.out; omega) (fun h hh => by have := named_len (z6p (HF.out h hh)); omega) (fun y hy => by rw [show y = idj by simpa [z0z] using hy]; exact hidl) (fun B v' w' hh => sort_few (by have := pick_one HRise.out idj; show (z3p s [idj]).length < 20; omega) B v' w' hh)
       have HLid2 := zh (fun W (hW : Below w11.heap.size w11 W) => HLid.out W (B11.out.trans (hW.mono B11.out.size)))
       have HLdl := zh (fun W (hW : Below w11.heap.size w11 W) => l_S0 (W := W) (g := p) (o := 3) (s := dl) (by
        have h2 := (C11.out.block p (lt_heap HX.out.1)).trans HX.out.1;exact (cells4 ((hW.block p (lt_heap h2)).trans h2)).2.2.2))
       clear HLid hAl hidl hdll
       go_upto_region 34 with fail
       refine AnyK.start w11.heap.size w11 (by kernel_rfl) ?_;have LD := zh (show Below w11.heap.size w11 w11.drew from (Below.refl _ _).drew);generalize w11.drew = wd at LD ⊢;refine AnyK.tm 0 (.slice (some ⟨gs, os, none⟩) q cs) (LD.out) rfl ?_;refine AnyK.tm 1 (.int .i64 (j : Int)) (LD.out) rfl ?_;refine AnyK.tk 2 (.pointer (some ⟨gs, os + j * 3, none⟩)) (LD.out) rfl (fun W hW => z0o rfl (by kernel_rfl) (by kernel_rfl) (za3 W gs os q cs j hjn)) ?_;refine AnyK.tk 3 (.pointer (some ⟨gs, os + j * 3, none⟩)) (LD.out) rfl (fun W hW => z0f rfl (by kernel_rfl) (fhh_0 W gs (os + j * 3))) ?_;refine AnyK.tk 4 (.string ⟨idj.toArray⟩) (LD.out) rfl (fun W hW => z0a rfl (by kernel_rfl) (HLid2.out W hW)) ?_;refine AnyK.tk 5 (.pointer (some ⟨p, 3, none⟩)) (LD.out) rfl (fun W hW => z0f rfl (by kernel_rfl) (fe_3 W p (0))) ?_;refine AnyK.tk 6 (.string ⟨dl.toArray⟩) (LD.out) rfl (fun W hW => z0a rfl (by kernel_rfl) (HLdl.out W hW)) ?_;refine AnyK.tk 7 (.agg #[.int .i64 7, .int .i64 0, .string ⟨idj.toArray⟩, .string ⟨dl.toArray⟩]) (LD.out) rfl (fun W hW => z_bld (ps := #[(0, .int .i64 7), (2, .string ⟨idj.toArray⟩), (3, .string ⟨dl.toArray⟩)]) rfl (by kernel_rfl) (bl_7 W idj dl)) ?_;refine AnyK.tm 9 (.slice (some ⟨gs, os, none⟩) q cs) (LD.out) rfl ?_;have LE := zh (LD.out.trans ((below_new wd (.cells #[.int .i64 7, .int .i64 0, .string ⟨idj.toArray⟩, .string ⟨dl.toArray⟩] 51)).mono LD.out.size));refine AnyK.op 8 (.slice (some ⟨wd.heap.size, 0, none⟩) 1 1) (wd.alloc (.cells #[.int .i64 7, .int .i64 0, .string ⟨idj.toArray⟩, .string ⟨dl.toArray⟩] 51)) (by kernel_rfl) rfl (by kernel_rfl) (zii (ps := #[(0, .agg #[.int .i64 7, .int .i64 0, .string ⟨idj.toArray⟩, .string ⟨dl.toArray⟩])]) rfl (by kernel_rfl) (bs_1 wd 7 0 idj dl)) LE.out ?_;have hone := zgx wd ⟨7, 0, idj, dl⟩;obtain ⟨g8, hg8⟩ := zx wd.heap.size;simp only at hone;rw [← hg8] at hone ⊢;generalize wd.alloc (.cells #[.int .i64 7, .int .i64 0, .string ⟨idj.toArray⟩, .string ⟨dl.toArray⟩] 51) = w20 at LE hone ⊢;clear hg8;refine AnyK.call 10 21 #[.slice (some ⟨g8, 0, none⟩) 1 1, .slice (some ⟨gs, os, none⟩) q cs] (by kernel_rfl) rfl (by kernel_rfl) (by kernel_rfl) ?_;refine (HRa.out w20 LE.out _ hone).mono ?_;intro e w21 hh;unfold RsOP at hh;rw [HAl.out] at hh;obtain ⟨b21, v21, rfl, o21⟩ := hh;have LF := zh (LE.out.trans (b21.mono LE.out.size));obtain ⟨A21, c21, rfl⟩ := zb7 o21;have O21 : Hid (NewO w20.heap.size w21 (.slice A21 1 c21) [(ki, td)]) := zh o21;clear o21 b21 hone;refine ⟨_, rfl, LF.out, ?_⟩;refine AnyK.tm 11 (.tuple #[.slice A21 1 c21, .int .i64 0]) (LF.out) rfl ?_;refine AnyK.tm 12 (.slice A21 1 c21) (LF.out) rfl ?_;refine AnyK.tm 14 (.slice A21 1 c21) (LF.out) rfl ?_;refine AnyK.tm 13 (.int .i64 0) (LF.out) rfl ?_;refine AnyK.tm 15 (.int .i64 0) (LF.out) rfl ?_;refine AnyK.done _ (by kernel_rfl) ?_;go_simp;have L21 := zh (L11.out.trans (LF.out.mono L11.out.size));have H21 := zh (HH11.out.below LF.out zl);clear LE LF HRa HAl HLid2 HLdl;obtain ⟨ga, rfl, hca⟩ := z38 O21.out rfl (by omega);clear hca
       have HL1 := zh (fun W (hW : Below w21.drew.heap.size w21.drew W) => l_obO (W := W) (g := ga) (o := 0) (k := ki) (d := td) (by
        have h := z38 (OwK.below O21.out (((Below.refl _ w21).drew).trans (hW.mono zl)) zl) rfl (by omega);obtain ⟨g', e, hc⟩ := h;cases e;exact (hc 0 (by omega)).1) (by
        have h := z38 (OwK.below O21.out (((Below.refl _ w21).drew).trans (hW.mono zl)) zl) rfl (by omega);obtain ⟨g', e, hc⟩ := h;cases e;exact (hc 0 (by omega)).2))
       have HL2 := zh (fun W (hW : Below w21.drew.heap.size w21.drew W) => l_obH (W := W) (g := gs) (o := os + i * 3) (k := ki) (d := td) (by
        have := (HldsR.cells (H21.out.below (((Below.refl _ w21).drew).trans (hW.mono zl)) zl) i His.out).2.1
        rwa [← HKi.out] at this) (by
        have := (HldsR.cells (H21.out.below (((Below.refl _ w21).drew).trans (hW.mono zl)) zl) i His.out).2.2
        rwa [← Htd.out] at this))
       have L21d := zh L21.out.drew
       go_upto_region 35 with fail
       refine AnyB.start (by kernel_rfl) ?_;refine AnyB.tm 0 (.bool true) rfl ?_;refine AnyB.tm 1 (.bool true) rfl ?_;refine AnyB.tm 2 (.int .i64 0) rfl ?_;refine AnyB.tk 3 (.bool true) rfl (fun W hW => y_bin rfl (by kernel_rfl) (by kernel_rfl) (by kernel_rfl) (eql_no W 0)) ?_;refine AnyB.tm 4 (.bool true) rfl ?_;refine AnyB.tm 5 (.bool true) rfl ?_;refine AnyB.tm 6 (.slice (some ⟨ga, 0, none⟩) 1 c21) rfl ?_;refine AnyB.tk 7 (.int .i64 (1 : Int)) rfl (fun W hW => z_len (sv := .slice (some ⟨ga, 0, none⟩) 1 c21) rfl (by kernel_rfl) (by go_simp)) ?_;refine AnyB.tk 8 (.bool true) rfl (fun W hW => y_bin rfl (by kernel_rfl) (by kernel_rfl) (by kernel_rfl) (znn W 1 1 true rfl)) ?_;refine AnyB.tm 9 (.bool true) rfl ?_;refine AnyB.tm 10 (.bool true) rfl ?_;refine AnyB.tm 11 (.slice (some ⟨ga, 0, none⟩) 1 c21) rfl ?_;refine AnyB.tk 12 (.pointer (some ⟨ga, 0, none⟩)) rfl (fun W hW => z0o rfl (by kernel_rfl) (by kernel_rfl) (at_oz W ga 1 c21 (Nat.lt_succ_self 0))) ?_;refine AnyB.tk 13 (.agg #[.int .i64 ki, .string ⟨td.toArray⟩]) rfl (fun W hW => z0a rfl (by kernel_rfl) (HL1.out W hW)) ?_;refine AnyB.tm 14 (.slice (some ⟨gs, os, none⟩) q cs) rfl ?_;refine AnyB.tm 15 (.int .i64 (i : Int)) rfl ?_;refine AnyB.tk 16 (.pointer (some ⟨gs, os + i * 3, none⟩)) rfl (fun W hW => z0o rfl (by kernel_rfl) (by kernel_rfl) (za3 W gs os q cs i hin)) ?_;refine AnyB.tk 17 (.pointer (some ⟨gs, os + i * 3 + 1, none⟩)) rfl (fun W hW => z0f rfl (by kernel_rfl) (zby W gs (os + i * 3))) ?_;refine AnyB.tk 18 (.agg #[.int .i64 ki, .string ⟨td.toArray⟩]) rfl (fun W hW => z0a rfl (by kernel_rfl) (HL2.out W hW)) ?_;refine AnyB.tk 19 (.bool true) rfl (fun W hW => y_bin (x := .agg #[.int .i64 ki, .string ⟨td.toArray⟩]) (y := .agg #[.int .i64 ki, .string ⟨td.toArray⟩]) rfl (by kernel_rfl) (by kernel_rfl) (grd_eq W _ _ ki _) (eq_ob W ki _)) ?_;refine AnyB.tm 20 (.bool true) rfl ?_;refine AnyB.tm 21 (.bool true) rfl ?_;refine AnyB.done _ (by kernel_rfl) ?_;clear HL1 HL2;go_simp
       go_wp2_with fail
       go_ret
       exact ⟨rfl, L21d.out⟩
  · have hmI : ¬ (m : Int) < 4000 := by omega
    have hmI2 : (4000 : Int) ≤ (m : Int) := by omega
    clear hS hm9;by_cases hlt : k < N
    · have hkI : (k : Int) < (N : Int) := by omega
      go_wp2_with fail
      go_ret
      exact ⟨rfl, hB.out⟩
    · have hkI : ¬ (k : Int) < (N : Int) := by omega
      go_wp2_with fail
      go_ret
      exact ⟨rfl, hB.out⟩
end Go.Proofs.YtgjddkeogboojaaGreatDoor.Pk
