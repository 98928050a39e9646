/-
  RefsNames, walked.
-/
import Derived.Test.YtfnepffccenebaaGreatDoorRNmsP
import Derived.Test.YtfnepffccenebaaGreatDoorRHead
import Derived.Test.YtfnepffccenebaaGreatDoorWrite
namespace Go.Proofs.YtfnepffccenebaaGreatDoor.Rf
open Go.Proofs.YtfnepffccenebaaGreatDoor
open Go Go.RowKit

theorem rb_1 (w : World) (c : UInt8) : Rb (w.alloc (.cells #[.int .u8 (c.toNat : Int)] 5)) (.slice (some ⟨w.heap.size, 0, none⟩) 1 1) [c] :=
  .inr ⟨w.heap.size, 0, 1, rfl, by simp, by simp, fun j hj => by
    rw [Nat.zero_add, cell_of_row _ _ j _ _ _ (heap_alloc_new w _)]
    match j, hj with
    | 0, _ => rfl⟩
theorem count_snoc (s : Bs) (k : Nat) (h : k < s.length) : (s.take (k + 1)).count 47 = (s.take k).count 47 + (if (s[k].toNat : Int) == 47 then 1 else 0) := by
  have e : ((s[k].toNat : Int) == 47) = (s[k] == 47) := u8_beq s[k] 47 (by decide)
  rw [List.take_succ_eq_append_getElem h, List.count_append, e]
  simp [List.count_cons]
theorem letter_ways (c : UInt8) (z : Int) (hz : z = (c.toNat : Int)) : ((z = 45 ∨ z = 95 ∨ (97 ≤ z ∧ z ≤ 122) ∨ (48 ≤ z ∧ z ≤ 57)) ↔ letterB c = true) := by
  have e : ∀ n : Nat, n < 256 → ((c == UInt8.ofNat n) = true ↔ z = (n : Int)) := fun n hn => by
    rw [← u8_beq c n hn, beq_iff_eq, hz]
  have e1 : (c == 45) = true ↔ z = 45 := e 45 (by decide)
  have e2 : (c == 95) = true ↔ z = 95 := e 95 (by decide)
  have d1 : (97 : UInt8) ≤ c ↔ 97 ≤ z := by rw [UInt8.le_iff_toNat_le, hz]; simp; omega
  have d2 : c ≤ (122 : UInt8) ↔ z ≤ 122 := by rw [UInt8.le_iff_toNat_le, hz]; simp; omega
  have d3 : (48 : UInt8) ≤ c ↔ 48 ≤ z := by rw [UInt8.le_iff_toNat_le, hz]; simp; omega
  have d4 : c ≤ (57 : UInt8) ↔ z ≤ 57 := by rw [UInt8.le_iff_toNat_le, hz]; simp; omega
  unfold letterB
  simp only [Bool.or_eq_true, Bool.and_eq_true, decide_eq_true_eq, e1, e2, d1, d2, d3, d4, or_assoc]
set_option maxRecDepth 100000 in
set_option maxHeartbeats 8000000 in
theorem Names_law (w : World) (s : Bs) (hs : s.length ≤ maxLen) (c : UInt8) : Calls Tryz.prog 8 #[SV s, .int .u8 (c.toNat : Int)] w (BoolB true w) := by
  unfold maxLen at hs
  unfold SV
  have HH := Lib.hid (head_p w)
  by_cases h3 : s.length ≤ 3000
  case neg =>
    have hI : (3000 : Int) < (s.length : Int) := by omega
    clear h3
    go_enter Tryz.func8, Tryz.ntmps8
    go_wp2_with fail
    refine HH.out.mono ?_
    rintro e w1 ⟨rfl, hb⟩
    have HB := Lib.hid hb
    clear hb
    go_wp2_with fail
    go_ret
    exact ⟨rfl, HB.out⟩
  have hI : ¬ (3000 : Int) < (s.length : Int) := by omega
  have H3 := Lib.hid h3
  obtain ⟨b, hbn⟩ : ∃ b, b = nameB s := ⟨_, rfl⟩
  have HN := fun W => Lib.hid (Named_p s W (by unfold maxLen; omega))
  rw [← hbn] at HN
  unfold SV at HN
  have HBn := Lib.hid hbn
  obtain ⟨m, hm⟩ : ∃ m, m = s.count 47 := ⟨_, rfl⟩
  have hm3 : m ≤ 3000 := by rw [hm]; exact Nat.le_trans List.count_le_length h3
  have HM := Lib.hid hm
  -- the four texts
  obtain ⟨t1, ht1⟩ : ∃ t : ByteArray, t = ⟨(s ++ [47]).toArray⟩ := ⟨_, rfl⟩
  obtain ⟨t2, ht2⟩ : ∃ t : ByteArray, t = ⟨([47] ++ s).toArray⟩ := ⟨_, rfl⟩
  obtain ⟨t3, ht3⟩ : ∃ t : ByteArray, t = ⟨([120] ++ s).toArray⟩ := ⟨_, rfl⟩
  obtain ⟨t4, ht4⟩ : ∃ t : ByteArray, t = ⟨((s ++ [47]) ++ [c]).toArray⟩ := ⟨_, rfl⟩
  have r1 := cat_run s [47] t1 ht1 (by omega) (by simp)
  have r2 := cat_run [47] s t2 ht2 (by simp) (by omega)
  have r3 := cat_run [120] s t3 ht3 (by simp) (by omega)
  have r4 := cat_run2 (s ++ [47]) [c] t1 t4 ht1 ht4 (by simp; omega) (by simp)
  have N1 : ∀ W, Hid (Calls Tryz.prog 15 #[.string t1] W (BoolB false W)) := fun W => Lib.hid (by rw [ht1, ← end_slash s]; exact Named_p _ W (by unfold maxLen; simp; omega))
  have N2 : ∀ W, Hid (Calls Tryz.prog 15 #[.string t2] W (BoolB false W)) := fun W => Lib.hid (by rw [ht2, ← start_slash s]; exact Named_p _ W (by unfold maxLen; simp; omega))
  have N3 : ∀ W, Hid (Calls Tryz.prog 15 #[.string t3] W (BoolB false W)) := fun W => Lib.hid (by rw [ht3, ← start_x s]; exact Named_p _ W (by unfold maxLen; simp; omega))
  obtain ⟨b4, hb4⟩ : ∃ b4, b4 = nameB ((s ++ [47]) ++ [c]) := ⟨_, rfl⟩
  have N4 : ∀ W, Hid (Calls Tryz.prog 15 #[.string t4] W (BoolB b4 W)) := fun W => Lib.hid (by rw [ht4, hb4]; exact Named_p _ W (by unfold maxLen; simp; omega))
  have HB4 := Lib.hid hb4
  have HCv : ∀ W : World, (convert 48 9 (.slice (some ⟨W.heap.size, 0, none⟩) 1 1)).run Tryz.prog (W.alloc (.cells #[.int .u8 (c.toNat : Int)] 5)) = .ok (.string ⟨[c].toArray⟩) (W.alloc (.cells #[.int .u8 (c.toNat : Int)] 5)) := fun W => (rb_1 W c).conv
  obtain ⟨z, hz⟩ : ∃ z : Int, z = (c.toNat : Int) := ⟨_, rfl⟩
  have HLw := Lib.hid (letter_ways c z hz)
  rw [← hz] at HCv ⊢
  clear ht1 ht2 ht3 ht4 hbn hm hb4 hz h3
  go_enter Tryz.func8, Tryz.ntmps8
  go_wp2_with fail
  refine HH.out.mono ?_
  rintro e w1 ⟨rfl, hb⟩
  have L1 := Lib.hid hb
  clear hb
  go_wp2_with fail
  refine (HN _).out.mono ?_
  rintro e w2 ⟨rfl, hb⟩
  have L2 := Lib.hid (L1.out.trans (hb.mono L1.out.size))
  clear hb
  go_wp2_with fail
  go_loop [7, 8] (fun n i => ∃ k q : Nat, k ≤ s.length ∧ i = .int .i64 k ∧ n = .int .i64 q ∧ q ≤ k ∧ Hid (q = (s.take k).count 47)) (fun _ i => s.length - (intOf i).toNat)
  case atStart => exact ⟨0, 0, Nat.zero_le _, rfl, rfl, Nat.le_refl _, Lib.hid (by simp)⟩
  case round =>
    obtain ⟨k, q, hk, rfl, rfl, hq, hc⟩ := hrel
    by_cases hlt : k < s.length
    · have hsn := count_snoc s k hlt
      cases h47 : ((s[k].toNat : Int) == 47) with
      | true =>
        have HQ : Hid (q + 1 = (s.take (k + 1)).count 47) := Lib.hid (by rw [hsn, h47, ← hc.out]; rfl)
        have hx : ((((⟨s.toArray⟩ : ByteArray)[k]'hlt).toNat : Int) == 47) = true := h47
        clear hsn h47 hc
        go_wp2_with fail
        go_round
        case rel => exact ⟨k + 1, q + 1, hlt, by go_num, by go_num, by omega, HQ⟩
        case measure => simp [intOf]; omega
      | false =>
        have HQ : Hid (q = (s.take (k + 1)).count 47) := Lib.hid (by rw [hsn, h47, ← hc.out]; rfl)
        have hx : ((((⟨s.toArray⟩ : ByteArray)[k]'hlt).toNat : Int) == 47) = false := h47
        clear hsn h47 hc
        go_wp2_with fail
        go_round
        case rel => exact ⟨k + 1, q, hlt, by go_num, by go_num, by omega, HQ⟩
        case measure => simp [intOf]; omega
    have hkl : k = s.length := by omega
    have HQ : Hid (q = s.count 47) := Lib.hid (by rw [hc.out, hkl, List.take_length])
    have hqm : q = m := by rw [HQ.out, HM.out]
    subst hqm
    clear hkl hc HQ
    obtain ⟨L, hL⟩ : ∃ L, L = letterB c := ⟨_, rfl⟩
    have HLL := Lib.hid hL
    clear hL
    cases b with
    | false =>
      clear r2 r3 N1 N2 N3
      go_upto_region 13 with fail
      generalize hwz : w2 = wz at L2 ⊢
      clear hwz
      go_cut [9] from 54 to 75 (fun v9 wx => v9 = .bool L ∧ wz = wx)
      case first =>
        have hways : z < 45 ∨ z = 45 ∨ (45 < z ∧ z < 48) ∨ (48 ≤ z ∧ z ≤ 57) ∨ (57 < z ∧ z < 95) ∨ z = 95 ∨ z = 96 ∨ (97 ≤ z ∧ z ≤ 122) ∨ 122 < z := by omega
        rcases hways with hw | hw | hw | hw | hw | hw | hw | hw | hw
        · have HL : Hid (L = false) := Lib.hid (by
            rw [HLL.out]
            exact Bool.eq_false_iff.2 fun h => by have := HLw.out.2 h; omega)
          have k1 : (z == 45) = false := by simp; omega
          have k2 : (z == 95) = false := by simp; omega
          have i1 : ¬ 97 ≤ z := by omega
          have i2 : z ≤ 122 := by omega
          have i3 : ¬ 48 ≤ z := by omega
          have i4 : z ≤ 57 := by omega
          clear hw
          go_wp2
          go_meet
          case rel => exact ⟨by rw [HL.out], rfl⟩
        · have HL : Hid (L = true) := Lib.hid (by
            rw [HLL.out]
            exact HLw.out.1 (by omega))
          have k1 : (z == 45) = true := by simp; omega
          have k2 : (z == 95) = false := by simp; omega
          have i1 : ¬ 97 ≤ z := by omega
          have i2 : z ≤ 122 := by omega
          have i3 : ¬ 48 ≤ z := by omega
          have i4 : z ≤ 57 := by omega
          clear hw
          go_wp2
          go_meet
          case rel => exact ⟨by rw [HL.out], rfl⟩
        · have HL : Hid (L = false) := Lib.hid (by
            rw [HLL.out]
            exact Bool.eq_false_iff.2 fun h => by have := HLw.out.2 h; omega)
          have k1 : (z == 45) = false := by simp; omega
          have k2 : (z == 95) = false := by simp; omega
          have i1 : ¬ 97 ≤ z := by omega
          have i2 : z ≤ 122 := by omega
          have i3 : ¬ 48 ≤ z := by omega
          have i4 : z ≤ 57 := by omega
          clear hw
          go_wp2
          go_meet
          case rel => exact ⟨by rw [HL.out], rfl⟩
        · have HL : Hid (L = true) := Lib.hid (by
            rw [HLL.out]
            exact HLw.out.1 (by omega))
          have k1 : (z == 45) = false := by simp; omega
          have k2 : (z == 95) = false := by simp; omega
          have i1 : ¬ 97 ≤ z := by omega
          have i2 : z ≤ 122 := by omega
          have i3 : 48 ≤ z := by omega
          have i4 : z ≤ 57 := by omega
          clear hw
          go_wp2
          go_meet
          case rel => exact ⟨by rw [HL.out], rfl⟩
        · have HL : Hid (L = false) := Lib.hid (by
            rw [HLL.out]
            exact Bool.eq_false_iff.2 fun h => by have := HLw.out.2 h; omega)
          have k1 : (z == 45) = false := by simp; omega
          have k2 : (z == 95) = false := by simp; omega
          have i1 : ¬ 97 ≤ z := by omega
          have i2 : z ≤ 122 := by omega
          have i3 : 48 ≤ z := by omega
          have i4 : ¬ z ≤ 57 := by omega
          clear hw
          go_wp2
          go_meet
          case rel => exact ⟨by rw [HL.out], rfl⟩
        · have HL : Hid (L = true) := Lib.hid (by
            rw [HLL.out]
            exact HLw.out.1 (by omega))
          have k1 : (z == 45) = false := by simp; omega
          have k2 : (z == 95) = true := by simp; omega
          have i1 : ¬ 97 ≤ z := by omega
          have i2 : z ≤ 122 := by omega
          have i3 : 48 ≤ z := by omega
          have i4 : ¬ z ≤ 57 := by omega
          clear hw
          go_wp2
          go_meet
          case rel => exact ⟨by rw [HL.out], rfl⟩
        · have HL : Hid (L = false) := Lib.hid (by
            rw [HLL.out]
            exact Bool.eq_false_iff.2 fun h => by have := HLw.out.2 h; omega)
          have k1 : (z == 45) = false := by simp; omega
          have k2 : (z == 95) = false := by simp; omega
          have i1 : ¬ 97 ≤ z := by omega
          have i2 : z ≤ 122 := by omega
          have i3 : 48 ≤ z := by omega
          have i4 : ¬ z ≤ 57 := by omega
          clear hw
          go_wp2
          go_meet
          case rel => exact ⟨by rw [HL.out], rfl⟩
        · have HL : Hid (L = true) := Lib.hid (by
            rw [HLL.out]
            exact HLw.out.1 (by omega))
          have k1 : (z == 45) = false := by simp; omega
          have k2 : (z == 95) = false := by simp; omega
          have i1 : 97 ≤ z := by omega
          have i2 : z ≤ 122 := by omega
          have i3 : 48 ≤ z := by omega
          have i4 : ¬ z ≤ 57 := by omega
          clear hw
          go_wp2
          go_meet
          case rel => exact ⟨by rw [HL.out], rfl⟩
        · have HL : Hid (L = false) := Lib.hid (by
            rw [HLL.out]
            exact Bool.eq_false_iff.2 fun h => by have := HLw.out.2 h; omega)
          have k1 : (z == 45) = false := by simp; omega
          have k2 : (z == 95) = false := by simp; omega
          have i1 : 97 ≤ z := by omega
          have i2 : ¬ z ≤ 122 := by omega
          have i3 : 48 ≤ z := by omega
          have i4 : ¬ z ≤ 57 := by omega
          clear hw
          go_wp2
          go_meet
          case rel => exact ⟨by rw [HL.out], rfl⟩
      case rest =>
      obtain ⟨rfl, hzz⟩ := hcut
      subst hzz
      go_wp2_with fail
      refine (N4 _).out.mono ?_
      rintro e w3 ⟨rfl, hb⟩
      have L3 := Lib.hid hb
      clear hb
      go_wp2_with fail
      go_ret
      exact ⟨rfl, (L2.out.trans ((below_new _ _).mono L2.out.size)).trans (L3.out.mono (Nat.le_trans L2.out.size (below_new _ _).size))⟩
    | true =>
      have hcn := nameB_count HBn.out.symm
      have hq1 : ¬ (q : Int) < 1 := by have := HM.out; omega
      have hq3 : ¬ (3 : Int) < (q : Int) := by have := HM.out; omega
      clear hcn
      go_wp2_with fail
      refine (N1 _).out.mono ?_
      rintro e w3 ⟨rfl, hb⟩
      have L3 := Lib.hid (L2.out.trans (hb.mono L2.out.size))
      clear hb
      go_wp2_with fail
      refine (N2 _).out.mono ?_
      rintro e w4 ⟨rfl, hb⟩
      have L4 := Lib.hid (L3.out.trans (hb.mono L3.out.size))
      clear hb
      go_wp2_with fail
      refine (N3 _).out.mono ?_
      rintro e w5 ⟨rfl, hb⟩
      have L5 := Lib.hid (L4.out.trans (hb.mono L4.out.size))
      clear hb r2 r3 N1 N2 N3
      go_upto_region 13 with fail
      generalize hwz : w5 = wz at L5 ⊢
      clear hwz
      go_cut [9] from 54 to 75 (fun v9 wx => v9 = .bool L ∧ wz = wx)
      case first =>
        have hways : z < 45 ∨ z = 45 ∨ (45 < z ∧ z < 48) ∨ (48 ≤ z ∧ z ≤ 57) ∨ (57 < z ∧ z < 95) ∨ z = 95 ∨ z = 96 ∨ (97 ≤ z ∧ z ≤ 122) ∨ 122 < z := by omega
        rcases hways with hw | hw | hw | hw | hw | hw | hw | hw | hw
        · have HL : Hid (L = false) := Lib.hid (by
            rw [HLL.out]
            exact Bool.eq_false_iff.2 fun h => by have := HLw.out.2 h; omega)
          have k1 : (z == 45) = false := by simp; omega
          have k2 : (z == 95) = false := by simp; omega
          have i1 : ¬ 97 ≤ z := by omega
          have i2 : z ≤ 122 := by omega
          have i3 : ¬ 48 ≤ z := by omega
          have i4 : z ≤ 57 := by omega
          clear hw
          go_wp2
          go_meet
          case rel => exact ⟨by rw [HL.out], rfl⟩
        · have HL : Hid (L = true) := Lib.hid (by
            rw [HLL.out]
            exact HLw.out.1 (by omega))
          have k1 : (z == 45) = true := by simp; omega
          have k2 : (z == 95) = false := by simp; omega
          have i1 : ¬ 97 ≤ z := by omega
          have i2 : z ≤ 122 := by omega
          have i3 : ¬ 48 ≤ z := by omega
          have i4 : z ≤ 57 := by omega
          clear hw
          go_wp2
          go_meet
          case rel => exact ⟨by rw [HL.out], rfl⟩
        · have HL : Hid (L = false) := Lib.hid (by
            rw [HLL.out]
            exact Bool.eq_false_iff.2 fun h => by have := HLw.out.2 h; omega)
          have k1 : (z == 45) = false := by simp; omega
          have k2 : (z == 95) = false := by simp; omega
          have i1 : ¬ 97 ≤ z := by omega
          have i2 : z ≤ 122 := by omega
          have i3 : ¬ 48 ≤ z := by omega
          have i4 : z ≤ 57 := by omega
          clear hw
          go_wp2
          go_meet
          case rel => exact ⟨by rw [HL.out], rfl⟩
        · have HL : Hid (L = true) := Lib.hid (by
            rw [HLL.out]
            exact HLw.out.1 (by omega))
          have k1 : (z == 45) = false := by simp; omega
          have k2 : (z == 95) = false := by simp; omega
          have i1 : ¬ 97 ≤ z := by omega
          have i2 : z ≤ 122 := by omega
          have i3 : 48 ≤ z := by omega
          have i4 : z ≤ 57 := by omega
          clear hw
          go_wp2
          go_meet
          case rel => exact ⟨by rw [HL.out], rfl⟩
        · have HL : Hid (L = false) := Lib.hid (by
            rw [HLL.out]
            exact Bool.eq_false_iff.2 fun h => by have := HLw.out.2 h; omega)
          have k1 : (z == 45) = false := by simp; omega
          have k2 : (z == 95) = false := by simp; omega
          have i1 : ¬ 97 ≤ z := by omega
          have i2 : z ≤ 122 := by omega
          have i3 : 48 ≤ z := by omega
          have i4 : ¬ z ≤ 57 := by omega
          clear hw
          go_wp2
          go_meet
          case rel => exact ⟨by rw [HL.out], rfl⟩
        · have HL : Hid (L = true) := Lib.hid (by
            rw [HLL.out]
            exact HLw.out.1 (by omega))
          have k1 : (z == 45) = false := by simp; omega
          have k2 : (z == 95) = true := by simp; omega
          have i1 : ¬ 97 ≤ z := by omega
          have i2 : z ≤ 122 := by omega
          have i3 : 48 ≤ z := by omega
          have i4 : ¬ z ≤ 57 := by omega
          clear hw
          go_wp2
          go_meet
          case rel => exact ⟨by rw [HL.out], rfl⟩
        · have HL : Hid (L = false) := Lib.hid (by
            rw [HLL.out]
            exact Bool.eq_false_iff.2 fun h => by have := HLw.out.2 h; omega)
          have k1 : (z == 45) = false := by simp; omega
          have k2 : (z == 95) = false := by simp; omega
          have i1 : ¬ 97 ≤ z := by omega
          have i2 : z ≤ 122 := by omega
          have i3 : 48 ≤ z := by omega
          have i4 : ¬ z ≤ 57 := by omega
          clear hw
          go_wp2
          go_meet
          case rel => exact ⟨by rw [HL.out], rfl⟩
        · have HL : Hid (L = true) := Lib.hid (by
            rw [HLL.out]
            exact HLw.out.1 (by omega))
          have k1 : (z == 45) = false := by simp; omega
          have k2 : (z == 95) = false := by simp; omega
          have i1 : 97 ≤ z := by omega
          have i2 : z ≤ 122 := by omega
          have i3 : 48 ≤ z := by omega
          have i4 : ¬ z ≤ 57 := by omega
          clear hw
          go_wp2
          go_meet
          case rel => exact ⟨by rw [HL.out], rfl⟩
        · have HL : Hid (L = false) := Lib.hid (by
            rw [HLL.out]
            exact Bool.eq_false_iff.2 fun h => by have := HLw.out.2 h; omega)
          have k1 : (z == 45) = false := by simp; omega
          have k2 : (z == 95) = false := by simp; omega
          have i1 : 97 ≤ z := by omega
          have i2 : ¬ z ≤ 122 := by omega
          have i3 : 48 ≤ z := by omega
          have i4 : ¬ z ≤ 57 := by omega
          clear hw
          go_wp2
          go_meet
          case rel => exact ⟨by rw [HL.out], rfl⟩
      case rest =>
      obtain ⟨rfl, hzz⟩ := hcut
      subst hzz
      have HB4' : Hid (s.length ≤ 78 → b4 = (L && decide (q < 3))) := Lib.hid fun h78 => by
        rw [HB4.out, List.append_assoc]
        have := name_more HBn.out.symm h78 c
        rw [← HM.out, ← HLL.out] at this
        exact this
      go_wp2_with fail
      refine (N4 _).out.mono ?_
      rintro e w6 ⟨rfl, hb⟩
      have L6 := Lib.hid ((L5.out.trans ((below_new _ _).mono L5.out.size)).trans (hb.mono (Nat.le_trans L5.out.size (below_new _ _).size)))
      clear hb
      by_cases h78 : s.length ≤ 78
      · have hI78 : ¬ (78 : Int) < (s.length : Int) := by omega
        have hb4 := HB4'.out h78
        clear HB4' h78
        cases L with
        | false =>
          obtain rfl : b4 = false := hb4
          go_wp2_with fail
          go_ret
          exact ⟨rfl, L6.out⟩
        | true =>
          by_cases h3 : q < 3
          · have hI3 : (q : Int) < 3 := by omega
            obtain rfl : b4 = true := by rw [hb4, decide_eq_true h3]; rfl
            clear hb4 h3
            go_wp2_with fail
            go_ret
            exact ⟨rfl, L6.out⟩
          · have hI3 : ¬ (q : Int) < 3 := by omega
            obtain rfl : b4 = false := by rw [hb4, decide_eq_false h3]; rfl
            clear hb4 h3
            go_wp2_with fail
            go_ret
            exact ⟨ret_bool (by simp; omega), L6.out⟩
      · have hI78 : (78 : Int) < (s.length : Int) := by omega
        clear HB4' h78
        go_wp2_with fail
        go_ret
        exact ⟨rfl, L6.out⟩
end Go.Proofs.YtfnepffccenebaaGreatDoor.Rf
