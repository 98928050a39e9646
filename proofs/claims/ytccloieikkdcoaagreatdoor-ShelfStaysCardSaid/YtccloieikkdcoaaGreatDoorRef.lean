/-
  The document's Part, Dir, Path.
-/
import Derived.Test.YtccloieikkdcoaaGreatDoorSame
namespace Go.Proofs.YtccloieikkdcoaaGreatDoor
open Go Go.RowKit Go.Maps Go.Shelf Go.Deep

theorem pb_true (c : UInt8) (h : (c.toNat : Int) = 46 ∨ (c.toNat : Int) = 45 ∨ (97 ≤ (c.toNat : Int) ∧ (c.toNat : Int) ≤ 122) ∨ (48 ≤ (c.toNat : Int) ∧ (c.toNat : Int) ≤ 57)) : partByte c = true := by
  unfold partByte; simp; omega
theorem pb_false (c : UInt8) (h : ¬ ((c.toNat : Int) = 46 ∨ (c.toNat : Int) = 45 ∨ (97 ≤ (c.toNat : Int) ∧ (c.toNat : Int) ≤ 122) ∨ (48 ≤ (c.toNat : Int) ∧ (c.toNat : Int) ≤ 57))) : partByte c = false := by
  rw [Bool.eq_false_iff]; intro e; apply h; revert e; unfold partByte; simp; omega

set_option maxHeartbeats 4000000 in
set_option maxRecDepth 100000 in
theorem Part_any (s : By) (w : World) (hs : s.length ≤ lim) : Calls Tryz.prog 58 #[S s] w fun e w' => e = .returned (.bool (partB s)) ∧ w = w' := by
  unfold S
  have hs' : s.length ≤ 140737488355328 := hs
  go_enter Tryz.func58, Tryz.ntmps58
  go_wp2_with fail
  go_loop [3] (fun i => ∃ k : Nat, k ≤ s.length ∧ i = .int .i64 k ∧ (s.take k).all partByte = true) (fun i => s.length - (intOf i).toNat)
  case atStart => exact ⟨0, Nat.zero_le _, rfl, rfl⟩
  case round =>
    obtain ⟨k, hk, rfl, hall⟩ := hrel
    by_cases hlt : k < s.length
    · have hsn : (s.take (k + 1)).all partByte = (partByte s[k]) := by
        rw [List.take_succ_eq_append_getElem hlt, List.all_append, hall]; simp
      have hf : partByte s[k] = false → partB s = false := fun hp => by
        unfold partB
        have : s.all partByte = false := by
          rw [← List.take_append_drop (k + 1) s, List.all_append, hsn, hp]; rfl
        rw [this]; simp
      have Hs := Lib.hid hsn; have Hf := Lib.hid hf
      clear hsn hf hall
      have hgk : (({ data := List.toArray s } : ByteArray)[k]'(by simpa [ByteArray.size] using hlt)).toNat = s[k].toNat := rfl
      by_cases h46 : (s[k].toNat : Int) = 46
      · have Hp : Hid (partByte s[k] = true) := Lib.hid (pb_true _ (by omega))
        have e46 : ((s[k].toNat : Int) == 46) = true := by simpa using h46
        go_wp2
        go_round
        case rel => exact ⟨k + 1, by omega, by go_num, by rw [Hs.out]; exact Hp.out⟩
        case measure => simp [intOf]; omega
      by_cases h45 : (s[k].toNat : Int) = 45
      · have Hp : Hid (partByte s[k] = true) := Lib.hid (pb_true _ (by omega))
        have e45 : ((s[k].toNat : Int) == 45) = true := by simpa using h45
        have e46 : ((s[k].toNat : Int) == 46) = false := by simp; omega
        go_wp2
        go_round
        case rel => exact ⟨k + 1, by omega, by go_num, by rw [Hs.out]; exact Hp.out⟩
        case measure => simp [intOf]; omega
      by_cases hL : 97 ≤ (s[k].toNat : Int) ∧ (s[k].toNat : Int) ≤ 122
      · have Hp : Hid (partByte s[k] = true) := Lib.hid (pb_true _ (by omega))
        have e46 : ((s[k].toNat : Int) == 46) = false := by simp; omega
        have e45 : ((s[k].toNat : Int) == 45) = false := by simp; omega
        have n46 : ((s[k].toNat : Int) != 46) = true := by simp; omega
        have n45 : ((s[k].toNat : Int) != 45) = true := by simp; omega
        obtain ⟨hL1, hL2⟩ := hL
        have : ¬ (s[k].toNat : Int) < 97 := by omega
        have : ¬ 122 < (s[k].toNat : Int) := by omega
        go_wp2
        go_round
        case rel => exact ⟨k + 1, by omega, by go_num, by rw [Hs.out]; exact Hp.out⟩
        case measure => simp [intOf]; omega
      by_cases hD : 48 ≤ (s[k].toNat : Int) ∧ (s[k].toNat : Int) ≤ 57
      · have Hp : Hid (partByte s[k] = true) := Lib.hid (pb_true _ (by omega))
        have e46 : ((s[k].toNat : Int) == 46) = false := by simp; omega
        have e45 : ((s[k].toNat : Int) == 45) = false := by simp; omega
        have n46 : ((s[k].toNat : Int) != 46) = true := by simp; omega
        have n45 : ((s[k].toNat : Int) != 45) = true := by simp; omega
        obtain ⟨hD1, hD2⟩ := hD
        have hD3 : (s[k].toNat : Int) < 97 := by omega
        have : ¬ (s[k].toNat : Int) < 48 := by omega
        have : ¬ 57 < (s[k].toNat : Int) := by omega
        go_wp2
        go_round
        case rel => exact ⟨k + 1, by omega, by go_num, by rw [Hs.out]; exact Hp.out⟩
        case measure => simp [intOf]; omega
      by_cases hA : (s[k].toNat : Int) < 48
      · have Hp : Hid (partByte s[k] = false) := Lib.hid (pb_false _ (by omega))
        have e46 : ((s[k].toNat : Int) == 46) = false := by simp; omega
        have e45 : ((s[k].toNat : Int) == 45) = false := by simp; omega
        have n46 : ((s[k].toNat : Int) != 46) = true := by simp; omega
        have n45 : ((s[k].toNat : Int) != 45) = true := by simp; omega
        have hD3 : (s[k].toNat : Int) < 97 := by omega
        clear hL hD
        go_wp2
        go_ret
        exact ⟨congrArg (fun b => Ending.returned (Value.bool b)) (Hf.out Hp.out).symm, rfl⟩
      by_cases hB : (s[k].toNat : Int) < 97
      · have Hp : Hid (partByte s[k] = false) := Lib.hid (pb_false _ (by omega))
        have e46 : ((s[k].toNat : Int) == 46) = false := by simp; omega
        have e45 : ((s[k].toNat : Int) == 45) = false := by simp; omega
        have n46 : ((s[k].toNat : Int) != 46) = true := by simp; omega
        have n45 : ((s[k].toNat : Int) != 45) = true := by simp; omega
        have hD3 : 57 < (s[k].toNat : Int) := by omega
        have hD4 : ¬ (s[k].toNat : Int) < 48 := by omega
        clear hL hD
        go_wp2
        go_ret
        exact ⟨congrArg (fun b => Ending.returned (Value.bool b)) (Hf.out Hp.out).symm, rfl⟩
      · have Hp : Hid (partByte s[k] = false) := Lib.hid (pb_false _ (by omega))
        have e46 : ((s[k].toNat : Int) == 46) = false := by simp; omega
        have e45 : ((s[k].toNat : Int) == 45) = false := by simp; omega
        have n46 : ((s[k].toNat : Int) != 46) = true := by simp; omega
        have n45 : ((s[k].toNat : Int) != 45) = true := by simp; omega
        have hD3 : 57 < (s[k].toNat : Int) := by omega
        have hD4 : 122 < (s[k].toNat : Int) := by omega
        clear hL hD
        go_wp2
        go_ret
        exact ⟨congrArg (fun b => Ending.returned (Value.bool b)) (Hf.out Hp.out).symm, rfl⟩
    · rw [List.take_of_length_le (by omega)] at hall
      have hf : partB s = (decide (1 ≤ s.length) && decide (s.length ≤ 70)) := by unfold partB; rw [hall]; simp
      have Hf := Lib.hid hf; clear hf hall
      by_cases h1 : (1 : Int) ≤ s.length
      · by_cases h2 : (s.length : Int) ≤ 70
        · go_wp2
          go_ret
          exact ⟨congrArg (fun b => Ending.returned (Value.bool b)) (by rw [Hf.out]; simp; omega), rfl⟩
        · go_wp2
          go_ret
          exact ⟨congrArg (fun b => Ending.returned (Value.bool b)) (by rw [Hf.out]; simp; omega), rfl⟩
      · go_wp2
        go_ret
        exact ⟨congrArg (fun b => Ending.returned (Value.bool b)) (by rw [Hf.out]; simp; omega), rfl⟩

def refDir (p : By) : By := if p.contains 47 = true then dirOf p else []

theorem slash_at : ∀ {p : By} {k : Nat}, (p.take k).contains 47 = false → p[k]? = some 47 → p.take k = dirOf p ∧ p.drop (k + 1) = nameOf p ∧ p.contains 47 = true
  | [], _, _, h => by simp at h
  | b :: l, 0, _, h => by
    simp at h; subst h
    exact ⟨rfl, rfl, by simp⟩
  | b :: l, k + 1, h0, h => by
    rw [List.take_succ_cons, List.contains_cons, Bool.or_eq_false_iff] at h0
    obtain ⟨hb, h0⟩ := h0
    have hbn : (b != 47) = true := by rw [bne, beq_eq_false_iff_ne.2]; rfl; intro e; rw [e] at hb; simp at hb
    obtain ⟨h1, h2, h3⟩ := slash_at (k := k) h0 (by simpa using h)
    refine ⟨?_, ?_, by rw [List.contains_cons, h3]; simp⟩
    · simp [dirOf, hbn] at h1 ⊢; exact h1
    · simp [nameOf, hbn] at h2 ⊢; exact h2

def DirRPost (p : By) (w : World) (e : Ending) (w' : World) : Prop := e = .returned (.tuple #[S (refDir p), .bool (pathB p)]) ∧ Below w.heap.size w w'
end Go.Proofs.YtccloieikkdcoaaGreatDoor
