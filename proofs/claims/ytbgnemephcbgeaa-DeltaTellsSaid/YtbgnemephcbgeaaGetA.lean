/-
  Get.
-/
import Derived.Test.YtbgnemephcbgeaaGet
namespace Go.Proofs.Ytbgnemephcbgeaa
open Go Go.RowKit

theorem pow_bd (k : Nat) (h : k ≤ 6) : 128 ^ k ≤ 4398046511104 := by
  have := Nat.pow_le_pow_right (n := 128) (by decide) h
  have e : (128 : Nat) ^ 6 = 4398046511104 := by decide
  omega
theorem acc_lt (acc d k : Nat) (hd : d < 128) (ha : acc < 128 ^ k) : acc + d * 128 ^ k < 128 ^ (k + 1) := by
  rw [pow128]
  have h1 : d * 128 ^ k ≤ 127 * 128 ^ k := Nat.mul_le_mul_right _ (by omega)
  omega
/-- A digit that is put where it belongs. -/
theorem shl_acc (acc d k : Nat) (z : Int) (hz : z = (d : Int)) (hd : d < 128) (hk : k < 6) (ha : acc < 128 ^ k) : wrap64 ((acc : Int) + wrap64 (z * 2 ^ (7 * k))) = ((acc + d * 128 ^ k : Nat) : Int) := by
  subst hz
  have h1 := acc_lt acc d k hd ha
  have h2 := pow_bd (k + 1) (by omega)
  have e : (2 : Int) ^ (7 * k) = ((128 ^ k : Nat) : Int) := by rw [Int.pow_mul]; simp
  have e2 : (d : Int) * ((128 ^ k : Nat) : Int) = ((d * 128 ^ k : Nat) : Int) := by simp
  rw [e, e2]
  generalize d * 128 ^ k = p at *
  generalize 128 ^ (k + 1) = q at *
  unfold wrap64
  omega

set_option maxRecDepth 100000 in
set_option maxHeartbeats 400000 in
theorem Get_some (w : World) (g o c : Nat) (l : List UInt8) (hl : l.length ≤ maxLen)
    (hr : ∀ j, j < l.length → w.cell? ⟨g, o + j, none⟩ = some (.int .u8 ((l.getD j 0).toNat : Int))) :
    Calls Try.prog 50 #[.slice (some ⟨g, o, none⟩) l.length c] w fun e w' => e = .returned (gotV (getL l)) ∧ w = w' := by
  unfold maxLen at hl
  have HR := Lib.hid hr; clear hr
  obtain ⟨n, hn⟩ : ∃ n, n = l.length := ⟨_, rfl⟩
  obtain ⟨m, hm⟩ : ∃ m, m = min n 6 := ⟨_, rfl⟩
  rw [← hn] at HR hl ⊢
  have Hm := Lib.hid hm
  have Hn := Lib.hid hn
  have hmi : min (n : Int) 6 = (m : Int) := by omega
  have hm6 : m ≤ 6 := by omega
  have hmn : m ≤ n := by omega
  obtain ⟨ra, rb, rc, hrr⟩ : ∃ a b t, gotV (getL l) = .tuple #[.int .i64 ((a : Nat) : Int), .int .i64 ((b : Nat) : Int), .bool t] := ⟨_, _, _, rfl⟩
  have Hr := Lib.hid hrr
  rw [hrr]
  clear hm hn hrr
  go_enter Try.func50, Try.ntmps50
  go_wp2
  go_loop [5, 12] (fun vn vi => ∃ (k acc : Nat), k ≤ m ∧ vi = .int .i64 k ∧ vn = .int .i64 acc ∧ Hid (acc < 128 ^ k) ∧ Hid (getG (6 - k) k acc (l.drop k) = getL l)) (fun _ vi => m - (intOf vi).toNat)
  case atStart => exact ⟨0, 0, Nat.zero_le _, rfl, rfl, Lib.hid (by decide), Lib.hid rfl⟩
  case round =>
    obtain ⟨k, acc, hk, rfl, rfl, hacc, hg⟩ := hrel
    by_cases hlt : k < m
    · obtain ⟨x, hx⟩ : ∃ x, x = l.getD k 0 := ⟨_, rfl⟩
      have cx := HR.out k (by omega)
      rw [← hx] at cx
      have hxl := x.toNat_lt
      have Hx := Lib.hid hx
      clear hx
      have hd : l.drop k = x :: l.drop (k + 1) := by
        rw [Hx.out, List.getD_eq_getElem?_getD, List.getElem?_eq_getElem (by have := Hn.out; omega)]
        exact List.drop_eq_getElem_cons (by have := Hn.out; omega)
      have hstep := hg.out
      rw [hd, show 6 - k = 5 - k + 1 by omega] at hstep
      have Hstep := Lib.hid hstep
      clear hd hstep
      by_cases h128 : 128 ≤ x.toNat
      · go_wp2
        go_round
        case rel =>
          refine ⟨k + 1, acc + (x.toNat - 128) * 128 ^ k, by omega, by go_num, by rw [shl_acc acc (x.toNat - 128) k _ (by omega) (by omega) (by omega) hacc.out], ?_, ?_⟩
          · exact acc_lt acc _ k (by omega) hacc.out
          · have := Hstep.out
            rw [getG, if_pos h128, show 5 - k = 6 - (k + 1) by omega] at this
            exact this
        case measure => simp [intOf]; omega
      · have hw := Lib.hid (shl_acc acc x.toNat k _ rfl (by omega) (by omega) hacc.out)
        have HW : Hid (∀ (nn : Nat) (W : World), nn = acc + x.toNat * 128 ^ k → Calls Try.prog 56 #[.int .i64 (nn : Int), .int .i64 ((k : Int) + 1), .int .i64 (x.toNat : Int)] W fun e w' => e = .returned (.tuple #[.int .i64 (ra : Int), .int .i64 (rb : Int), .bool rc]) ∧ W = w') := Lib.hid fun nn W hnn => by
          rw [← Hr.out]
          have h1 := acc_lt acc x.toNat k (by omega) hacc.out
          have h2 := pow_bd (k + 1) (by omega)
          rw [← hnn] at h1
          have h3 := Hstep.out
          rw [getG, if_neg h128, ← hnn] at h3
          rw [← h3]
          exact whole_any nn k x.toNat (by omega) (by omega) (by omega) W
        go_wp2_with fail
        rw [hw.out]
        refine (HW.out _ _ rfl).mono ?_
        rintro e w' ⟨rfl, rfl⟩
        go_wp2
        go_ret3
        exact ⟨rfl, rfl⟩
    · have hend : getL l = none := by
        have h := hg.out
        have hm := Hm.out
        by_cases h6 : n ≤ 5
        · rw [List.drop_eq_nil_of_le (by have := Hn.out; omega)] at h
          rw [← h]
          have : 6 - k = 5 - k + 1 := by omega
          rw [this]; rfl
        · rw [show 6 - k = 0 by omega] at h
          rw [← h]; rfl
      have hr := Hr.out
      rw [hend, gotV_none] at hr
      have HR2 := Lib.hid hr
      clear hend hr
      go_wp2
      go_ret3
      exact ⟨congrArg Ending.returned HR2.out, rfl⟩
set_option maxRecDepth 100000 in
set_option maxHeartbeats 400000 in
theorem Get_nil (w : World) (A : Option Addr) :
    Calls Try.prog 50 #[.slice A 0 0] w fun e w' => e = .returned (gotV (getL [])) ∧ w = w' := by
  rw [show gotV (getL []) = .tuple #[.int .i64 0, .int .i64 0, .bool false] from rfl]
  have hmi : min (0 : Int) 6 = 0 := by omega
  go_enter Try.func50, Try.ntmps50
  go_wp2
  go_loop [5, 12] (fun vn vi => vi = .int .i64 0 ∧ vn = .int .i64 0) (fun _ _ => 0)
  case atStart => exact ⟨rfl, rfl⟩
  case round =>
    obtain ⟨rfl, rfl⟩ := hrel
    go_wp2
    go_ret3
    exact ⟨rfl, rfl⟩

theorem Get_any (w : World) (v : Value) (l : List UInt8) (hl : l.length ≤ maxLen) (hr : Rb w v l) :
    Calls Try.prog 50 #[v] w fun e w' => e = .returned (gotV (getL l)) ∧ w = w' := by
  rcases hr with ⟨⟨A, rfl⟩, rfl⟩ | ⟨g, o, c, rfl, _, _, hcell⟩
  · exact Get_nil w A
  · exact Get_some w g o c l hl hcell
end Go.Proofs.Ytbgnemephcbgeaa
