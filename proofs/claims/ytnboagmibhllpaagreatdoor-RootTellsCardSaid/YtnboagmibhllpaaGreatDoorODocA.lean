/-
  The document's root: names, rows, places.
-/
import Derived.Test.YtnboagmibhllpaaGreatDoorOGrt
import Derived.Test.YtnboagmibhllpaaGreatDoorOLawP
import Derived.Test.YtnboagmibhllpaaGreatDoorC20
import Derived.Test.YtnboagmibhllpaaGreatDoorOFindP
namespace Go.Proofs.YtnboagmibhllpaaGreatDoor.Ro
open Go.Proofs.YtnboagmibhllpaaGreatDoor
open Go.Proofs.YtnboagmibhllpaaGreatDoor.Rf (BoolB Ref RefsR nameB)
open Go Go.RowKit

set_option maxRecDepth 100000 in
set_option maxHeartbeats 4000000 in
theorem RNamed10 (l : Bs) (w : World) (hl : l.length ≤ maxLen) : Calls Tryz.prog 20 #[.string ⟨l.toArray⟩] w fun e w' => e = .returned (.bool (forkB l)) ∧ w = w' := by
  unfold maxLen at hl
  obtain ⟨n, hn⟩ : ∃ n, n = l.length := ⟨_, rfl⟩
  have hnl : n ≤ 9223372036854775807 := by omega
  have HN := Lib.hid hn
  have hsz : (⟨l.toArray⟩ : ByteArray).size = n := by rw [hn]; show l.toArray.size = _; simp
  have HIx : Hid (∀ k, k < n → ∃ c : UInt8, l[k]? = some c ∧ ∀ hh, (⟨l.toArray⟩ : ByteArray)[k]'hh = c) := Lib.hid fun k hk => by
    have h : k < l.length := by omega
    exact ⟨l[k], List.getElem?_eq_getElem h, fun hh => by show l.toArray[k] = _; simp⟩
  obtain ⟨s, hs⟩ : ∃ s : ByteArray, s = ⟨l.toArray⟩ := ⟨_, rfl⟩
  rw [← hs] at hsz HIx ⊢
  have HSz := Lib.hid hsz
  clear hn hl hs
  go_enter Tryz.func20, Tryz.ntmps20
  go_wp2_with fail
  go_loopw [3, 4] (fun i _ wr => ∃ k : Nat, k ≤ n ∧ i = .int .i64 k ∧ Hid (w = wr) ∧ Hid ((l.take k).all nmByte = true)) (fun i _ _ => n - (intOf i).toNat)
  case atStart => exact ⟨0, Nat.zero_le _, rfl, Lib.hid rfl, Lib.hid rfl⟩
  case round =>
    obtain ⟨k, hk, rfl, hw, ha⟩ := hrel
    by_cases hlt : k < n
    · obtain ⟨c, hc, hix⟩ := HIx.out k hlt
      have hkl : k < l.length := (List.getElem?_eq_some_iff.1 hc).1
      have hce : l[k] = c := (List.getElem?_eq_some_iff.1 hc).2
      have HYes : Hid (nmByte c = true → (l.take (k + 1)).all nmByte = true) := Lib.hid fun h => by rw [all_snoc _ _ _ hkl ha.out, hce]; exact h
      have HNo : Hid (nmByte c = false → forkB l = false) := Lib.hid fun h => fork_no l k hkl (by rw [hce]; exact h)
      have HX : Hid (nmByte c = ((decide (97 ≤ c.toNat) && decide (c.toNat ≤ 122)) || (decide (48 ≤ c.toNat) && decide (c.toNat ≤ 57)) || decide (c.toNat = 45))) := Lib.hid (by
        have e2 : (c == 45) = decide (c.toNat = 45) := by
          rw [Bool.eq_iff_iff, beq_iff_eq, decide_eq_true_eq]
          constructor
          · rintro rfl; rfl
          · intro h; exact UInt8.toNat_inj.1 h
        have d1 : decide ((97 : UInt8) ≤ c) = decide (97 ≤ c.toNat) := by rw [decide_eq_decide, UInt8.le_iff_toNat_le]; exact Iff.rfl
        have d2 : decide (c ≤ (122 : UInt8)) = decide (c.toNat ≤ 122) := by rw [decide_eq_decide, UInt8.le_iff_toNat_le]; exact Iff.rfl
        have d3 : decide ((48 : UInt8) ≤ c) = decide (48 ≤ c.toNat) := by rw [decide_eq_decide, UInt8.le_iff_toNat_le]; exact Iff.rfl
        have d4 : decide (c ≤ (57 : UInt8)) = decide (c.toNat ≤ 57) := by rw [decide_eq_decide, UInt8.le_iff_toNat_le]; exact Iff.rfl
        show ((decide (97 ≤ c) && decide (c ≤ 122)) || (decide (48 ≤ c) && decide (c ≤ 57)) || c == 45) = _
        rw [d1, d2, d3, d4, e2])
      have hkI : (k : Int) < (n : Int) := by omega
      obtain ⟨z, hz⟩ : ∃ z, z = c.toNat := ⟨_, rfl⟩
      rw [← hz] at HX
      have HW := hw
      clear hc hkl hce ha
      by_cases h0 : z = 45
      · have f0 : ((z : Int) != 45) = false := by simp; omega
        have hr : nmByte c = true := by rw [HX.out, Bool.eq_iff_iff]; simp; omega
        have HY := Lib.hid (HYes.out hr)
        clear hr HX HYes HNo
        rw [hz] at *
        go_wp2_with fail
        go_roundw
        case rel => exact ⟨k + 1, hlt, by go_num, HW, HY⟩
        case measure => simp [intOf]; omega
      have f0 : ((z : Int) != 45) = true := by simp; omega
      by_cases h1 : z < 97
      · have f1 : (z : Int) < 97 := by omega
        by_cases h2 : z < 48
        · have f2 : (z : Int) < 48 := by omega
          have hr : nmByte c = false := by rw [HX.out, Bool.eq_iff_iff]; simp; omega
          have HY := Lib.hid (HNo.out hr)
          clear hr HX HYes HNo
          rw [hz] at *
          go_wp2_with fail
          go_ret
          exact ⟨by rw [HY.out]; first | rfl | simp, HW.out⟩
        have f2 : ¬ (z : Int) < 48 := by omega
        by_cases h3 : 57 < z
        · have f3 : (57 : Int) < (z : Int) := by omega
          have hr : nmByte c = false := by rw [HX.out, Bool.eq_iff_iff]; simp; omega
          have HY := Lib.hid (HNo.out hr)
          clear hr HX HYes HNo
          rw [hz] at *
          go_wp2_with fail
          go_ret
          exact ⟨by rw [HY.out]; first | rfl | simp, HW.out⟩
        · have f3 : ¬ (57 : Int) < (z : Int) := by omega
          have hr : nmByte c = true := by rw [HX.out, Bool.eq_iff_iff]; simp; omega
          have HY := Lib.hid (HYes.out hr)
          clear hr HX HYes HNo
          rw [hz] at *
          go_wp2_with fail
          go_roundw
          case rel => exact ⟨k + 1, hlt, by go_num, HW, HY⟩
          case measure => simp [intOf]; omega
      have f1 : ¬ (z : Int) < 97 := by omega
      have f2 : ¬ (z : Int) < 48 := by omega
      have f3 : (57 : Int) < (z : Int) := by omega
      by_cases h4 : 122 < z
      · have f4 : (122 : Int) < (z : Int) := by omega
        have hr : nmByte c = false := by rw [HX.out, Bool.eq_iff_iff]; simp; omega
        have HY := Lib.hid (HNo.out hr)
        clear hr HX HYes HNo
        rw [hz] at *
        go_wp2_with fail
        go_ret
        exact ⟨by rw [HY.out]; first | rfl | simp, HW.out⟩
      · have f4 : ¬ (122 : Int) < (z : Int) := by omega
        have hr : nmByte c = true := by rw [HX.out, Bool.eq_iff_iff]; simp; omega
        have HY := Lib.hid (HYes.out hr)
        clear hr HX HYes HNo
        rw [hz] at *
        go_wp2_with fail
        go_roundw
        case rel => exact ⟨k + 1, hlt, by go_num, HW, HY⟩
        case measure => simp [intOf]; omega
    have HAll : Hid (l.all nmByte = true) := Lib.hid (by have h := ha.out; rw [show k = n by omega, HN.out, List.take_length] at h; exact h)
    have hkI : ¬ (k : Int) < (n : Int) := by omega
    have HW := hw
    clear ha hw hlt
    by_cases h1 : 1 ≤ n
    · have g1 : (1 : Int) ≤ (n : Int) := by omega
      by_cases h2 : n ≤ 20
      · have g2 : (n : Int) ≤ 20 := by omega
        have HY : Hid (forkB l = true) := Lib.hid (fork_yes l (by rw [← HN.out]; exact h1) (by rw [← HN.out]; exact h2) HAll.out)
        clear h1 h2 HAll
        go_wp2_with fail
        go_ret
        exact ⟨by rw [HY.out]; first | rfl | simp, HW.out⟩
      · have g2 : ¬ (n : Int) ≤ 20 := by omega
        have HY : Hid (forkB l = false) := Lib.hid (fork_hi l (by rw [← HN.out]; exact h2))
        clear h1 h2 HAll
        go_wp2_with fail
        go_ret
        exact ⟨by rw [HY.out]; first | rfl | simp, HW.out⟩
    · have g1 : ¬ (1 : Int) ≤ (n : Int) := by omega
      have HY : Hid (forkB l = false) := Lib.hid (fork_lo l (by rw [← HN.out]; exact h1))
      clear h1 HAll
      go_wp2_with fail
      go_ret
      exact ⟨by rw [HY.out]; first | rfl | simp, HW.out⟩
theorem packsL_snocD (l : List Bs) (x : Bs) : packsL (l ++ [x]) = (packsL l ++ x) ++ [10] := by unfold packsL; rw [List.flatMap_append]; simp [List.append_assoc]
theorem packsL_take_le (l : List Bs) (k : Nat) : (packsL (l.take k)).length ≤ (packsL l).length := by
  conv => rhs; rw [← List.take_append_drop k l]
  unfold packsL
  rw [List.flatMap_append, List.length_append]; omega
set_option maxRecDepth 100000 in
set_option maxHeartbeats 4000000 in
theorem Rrows10 (l : List Bs) (v : Value) (w : World) (hv : StrsR w v l) (hl : l.length ≤ 1000000) (hs : (packsL l).length ≤ 900000) : Calls Tryz.prog 27 #[v] w (fun e w' => e = .returned (.string ⟨(packsL l).toArray⟩) ∧ Below w.heap.size w w') := by
  obtain ⟨A, c, rfl⟩ := hv.shape
  obtain ⟨n, hn⟩ : ∃ n, n = l.length := ⟨_, rfl⟩
  have hnl : n ≤ 1000000 := by omega
  rw [← hn] at hv ⊢
  have HV := Lib.hid hv; have HN := Lib.hid hn; have HS := Lib.hid hs
  clear hv hn hl hs
  go_enter Tryz.func27, Tryz.ntmps27
  go_wp2_with fail
  go_loopw [3, 4] (fun z i wr => ∃ k : Nat, k ≤ n ∧ i = .int .i64 k ∧ z = .string ⟨(packsL (l.take k)).toArray⟩ ∧ Hid (Below w.heap.size w wr)) (fun _ i _ => n - (intOf i).toNat)
  case atStart => exact ⟨0, Nat.zero_le _, rfl, rfl, Lib.hid (Below.refl _ _)⟩
  case round =>
    obtain ⟨k, hk, rfl, rfl, hB⟩ := hrel
    by_cases hlt : k < n
    · obtain ⟨g, o, c', e, _, hg⟩ := HV.out.pos (by have := HN.out; omega)
      obtain rfl : A = some ⟨g, o, none⟩ := by rw [← HN.out] at e; cases e; rfl
      clear e hg
      obtain ⟨x, hx⟩ : ∃ x, l[k]? = some x := ⟨_, List.getElem?_eq_getElem (by have := HN.out; omega)⟩
      have c0 := Rf.RdK.at (RdK.below HV.out hB.out (Nat.le_refl _)) hx (i := 0) (by decide) rfl
      unfold SV at c0
      rw [Nat.mul_one, Nat.add_zero] at c0
      have htk : packsL (l.take (k + 1)) = (packsL (l.take k) ++ x) ++ [10] := by rw [List.take_add_one, hx, Option.toList_some, packsL_snocD]
      have hle := packsL_take_le l (k + 1)
      rw [htk] at hle
      simp only [List.length_append, List.length_singleton] at hle
      have hS := HS.out
      obtain ⟨a, ha⟩ : ∃ a, a = packsL (l.take k) := ⟨_, rfl⟩
      rw [← ha] at htk hle ⊢
      obtain ⟨sa, hsa⟩ : ∃ s : ByteArray, s = ⟨a.toArray⟩ := ⟨_, rfl⟩
      obtain ⟨sx, hsx⟩ : ∃ s : ByteArray, s = ⟨x.toArray⟩ := ⟨_, rfl⟩
      obtain ⟨t1, ht1⟩ : ∃ s : ByteArray, s = ⟨(a ++ x).toArray⟩ := ⟨_, rfl⟩
      obtain ⟨t2, ht2⟩ : ∃ s : ByteArray, s = ⟨(a ++ x ++ [10]).toArray⟩ := ⟨_, rfl⟩
      have r1 := cat_run a x t1 ht1 (by omega) (by omega)
      have r2 := cat_run2 (a ++ x) [10] t1 t2 ht1 ht2 (by simp; omega) (by simp)
      rw [← hsa, ← hsx] at r1
      have r2' : ∀ W : World, (Op.stringOp .add t1 ⟨#[10]⟩).run Tryz.prog W = .ok (.string t2) W := r2
      rw [← hsa]
      rw [← hsx] at c0
      have HE : Hid (t2 = ⟨(packsL (l.take (k + 1))).toArray⟩) := Lib.hid (by rw [ht2, htk])
      clear hx htk hle hS ha hsa hsx ht1 ht2 r2
      go_wp2_with fail
      go_roundw
      case rel => exact ⟨k + 1, hlt, by go_num, by rw [HE.out], hB⟩
      case measure => simp [intOf]; omega
    · have HE : Hid (packsL (l.take k) = packsL l) := Lib.hid (by rw [show k = n by omega, HN.out, List.take_length])
      have HB := Lib.hid hB.out
      have hkI : ¬ (k : Int) < (n : Int) := by omega
      clear hB hlt
      go_wp2_with fail
      go_ret
      exact ⟨by rw [HE.out]; first | rfl | simp, HB.out⟩
theorem findF_noneD {l : List Fk} {s : Bs} (h : ∀ f ∈ l, f.name ≠ s) : findF l s = -1 := by
  unfold findF
  have : l.findIdx? (fun f => f.name == s) = none := by rw [List.findIdx?_eq_none_iff]; intro f hf; simpa using h f hf
  rw [this]
set_option maxRecDepth 100000 in
set_option maxHeartbeats 4000000 in
theorem RFind10 (r : Rt) (v : Value) (s : Bs) (w : World) (hv : RtR w v r) (hl : r.forks.length ≤ 1000000) : Calls Tryz.prog 22 #[v, .string ⟨s.toArray⟩] w fun e w' => e = .returned (.int .i64 (findF r.forks s)) ∧ Below w.heap.size w w' := by
  obtain ⟨A, c, B, d, rfl, hpl, hk⟩ := hv.parts
  obtain ⟨n, hn⟩ : ∃ n, n = r.pool.length := ⟨_, rfl⟩
  obtain ⟨m, hm⟩ : ∃ m, m = r.forks.length := ⟨_, rfl⟩
  obtain ⟨z, hz⟩ : ∃ z, z = r.count := ⟨_, rfl⟩
  have hml : m ≤ 1000000 := by omega
  rw [← hn] at hpl
  rw [← hm] at hk
  rw [← hn, ← hm, ← hz] at hv ⊢
  obtain ⟨wa, hwa⟩ : ∃ y, y = w.alloc (.cells #[.int .i64 z, .slice A n c, .slice B m d] 25) := ⟨_, rfl⟩
  have la : Below w.heap.size w wa := by rw [hwa]; exact below_new _ _
  have sa : w.heap.size < wa.heap.size := by rw [hwa]; simp
  have C2 : Hid (∀ W, Below wa.heap.size wa W → W.cell? ⟨w.heap.size, 2, none⟩ = some (.slice B m d)) := Lib.hid fun W h => (h.cell (p := ⟨w.heap.size, 2, none⟩) sa).trans (by rw [hwa, cell_of_row _ _ _ _ _ _ (heap_alloc_new w _)]; rfl)
  have HK := Lib.hid (hk.below la (Nat.le_refl _))
  have LA := Lib.hid la; have HW := Lib.hid hwa; have HM := Lib.hid hm
  clear hv hpl hk hn hm hz la sa hwa hl
  go_enter Tryz.func22, Tryz.ntmps22
  go_upto_region 1 with fail
  rw [← HW.out]
  clear HW
  have W0 := Lib.hid (Below.refl wa.heap.size wa)
  go_wp2_with fail
  go_loopw [5] (fun i wr => ∃ k : Nat, k ≤ m ∧ i = .int .i64 k ∧ Hid (Below wa.heap.size wa wr) ∧ Hid (∀ j f, j < k → r.forks[j]? = some f → f.name ≠ s)) (fun i _ => m - (intOf i).toNat)
  case atStart => exact ⟨0, Nat.zero_le _, rfl, W0, Lib.hid fun j f h => absurd h (Nat.not_lt_zero j)⟩
  case round =>
    clear W0
    obtain ⟨k, hk, rfl, hB, hno⟩ := hrel
    have f2 := C2.out wr hB.out
    by_cases hlt : k < m
    · obtain ⟨g, o, c', e, _, hg⟩ := HK.out.pos (by have := HM.out; omega)
      obtain rfl : B = some ⟨g, o, none⟩ := by rw [← HM.out] at e; cases e; rfl
      clear e hg
      obtain ⟨f, hf⟩ : ∃ f, r.forks[k]? = some f := ⟨_, List.getElem?_eq_getElem (by have := HM.out; omega)⟩
      have c0 : wr.cell? ⟨g, o + k * 5, none⟩ = some (.string ⟨f.name.toArray⟩) := by
        obtain ⟨x, hx, d0, _⟩ := (HK.out.below hB.out (Nat.le_refl _)).at hf
        rw [hx.name] at d0; exact d0
      obtain ⟨nm, hnm⟩ : ∃ nm, nm = f.name := ⟨_, rfl⟩
      rw [← hnm] at c0
      by_cases he : nm = s
      · have HE : Hid (findF r.forks s = (k : Int)) := Lib.hid (findF_some (by have := HM.out; omega) (by rw [hf]; simp; rw [← hnm]; exact he) fun j hj => by
          have hjl : j < r.forks.length := by have := HM.out; omega
          have := hno.out j _ hj (List.getElem?_eq_getElem hjl)
          rw [List.getElem?_eq_getElem hjl]; simpa using this)
        have HB := Lib.hid hB.out
        clear hnm hno hf hB
        subst he
        go_wp2_with fail
        go_ret
        exact ⟨by rw [HE.out]; first | rfl | simp, LA.out.trans (HB.out.mono LA.out.size)⟩
      · have HNo : Hid (∀ j f, j < k + 1 → r.forks[j]? = some f → f.name ≠ s) := Lib.hid fun j f' hj hf' => by
          by_cases e : j = k
          · subst e
            rw [hf] at hf'
            cases hf'
            rw [← hnm]; exact he
          · exact hno.out j f' (by omega) hf'
        have heb : (nm == s) = false := by simpa using he
        clear hnm hno hf
        go_wp2_with fail
        go_roundw
        case rel => exact ⟨k + 1, hlt, by go_num, hB, HNo⟩
        case measure => simp [intOf]; omega
    · have HE : Hid (findF r.forks s = -1) := Lib.hid (findF_noneD fun f hf => by
        obtain ⟨j, hj⟩ := List.getElem?_of_mem hf
        exact hno.out j f (by have := (List.getElem?_eq_some_iff.1 hj).1; have := HM.out; omega) hj)
      have HB := Lib.hid hB.out
      have hkI : ¬ (k : Int) < (m : Int) := by omega
      clear hno hB hlt
      go_wp2_with fail
      go_ret
      exact ⟨by rw [HE.out]; first | rfl | simp, LA.out.trans (HB.out.mono LA.out.size)⟩
end Go.Proofs.YtnboagmibhllpaaGreatDoor.Ro
