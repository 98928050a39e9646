/-
  The document's Get.
-/
import Derived.Test.YtbgnemephcbgeaaGetA
namespace Go.Proofs.Ytbgnemephcbgeaa
open Go Go.RowKit

set_option maxRecDepth 100000 in
set_option maxHeartbeats 1000000 in
theorem RGet_some (w : World) (g o c : Nat) (l : List UInt8)
    (hr : ∀ j, j < l.length → w.cell? ⟨g, o + j, none⟩ = some (.int .u8 ((l.getD j 0).toNat : Int))) :
    Calls Try.prog 17 #[.slice (some ⟨g, o, none⟩) l.length c] w fun e w' => e = .returned (gotV (getL l)) ∧ w = w' := by
  have HR := Lib.hid hr; clear hr
  obtain ⟨n, hn⟩ : ∃ n, n = l.length := ⟨_, rfl⟩
  rw [← hn] at HR ⊢
  have Hn := Lib.hid hn
  obtain ⟨ra, rb, rc, hrr⟩ : ∃ a b t, gotV (getL l) = .tuple #[.int .i64 ((a : Nat) : Int), .int .i64 ((b : Nat) : Int), .bool t] := ⟨_, _, _, rfl⟩
  have Hr := Lib.hid hrr
  rw [hrr]
  clear hn hrr
  go_enter Try.func17, Try.ntmps17
  go_wp2
  go_loop [5, 6, 7] (fun vn vb vi => ∃ (k acc p : Nat), k ≤ n ∧ k ≤ 6 ∧ vi = .int .i64 k ∧ vn = .int .i64 acc ∧ vb = .int .i64 p ∧ Hid (p = 128 ^ k) ∧ Hid (acc < 128 ^ k) ∧ Hid (getG (6 - k) k acc (l.drop k) = getL l)) (fun _ _ vi => 6 - (intOf vi).toNat)
  case atStart => exact ⟨0, 0, 1, Nat.zero_le _, Nat.zero_le _, rfl, rfl, rfl, Lib.hid rfl, Lib.hid (by decide), Lib.hid rfl⟩
  case round =>
    obtain ⟨k, acc, p, hk, hk6, rfl, rfl, rfl, hp, hacc, hg⟩ := hrel
    by_cases hlt : k < n ∧ k < 6
    · obtain ⟨hkn, hkl⟩ := hlt
      obtain ⟨x, hx⟩ : ∃ x, x = l.getD k 0 := ⟨_, rfl⟩
      have cx := HR.out k (by omega)
      rw [← hx] at cx
      have hxl := x.toNat_lt
      have Hx := Lib.hid hx
      clear hx
      have hd : l.drop k = x :: l.drop (k + 1) := by
        rw [Hx.out, List.getD_eq_getElem?_getD, List.getElem?_eq_getElem (by have := Hn.out; omega)]
        exact List.drop_eq_getElem_cons (by have := Hn.out; omega)
      have hstep := hg.out
      rw [hd, show 6 - k = 5 - k + 1 by omega, getG, ← hp.out] at hstep
      obtain ⟨d, hd128⟩ : ∃ d, d = x.toNat % 128 := ⟨_, rfl⟩
      have hdl : d < 128 := by omega
      obtain ⟨q, hq⟩ : ∃ q, q = d * p := ⟨_, rfl⟩
      have hlt1 := acc_lt acc d k hdl hacc.out
      have hpb := pow_bd (k + 1) (by omega)
      rw [← hp.out, ← hq] at hlt1
      have hpk : 128 * p = 128 ^ (k + 1) := by rw [pow128, hp.out]
      have gd : (x.toNat : Int) % 128 = (d : Int) := by omega
      have gq : (d : Int) * (p : Int) = (q : Int) := by rw [hq]; simp
      have hql : acc + q ≤ 4398046511104 := by omega
      have hpl : p ≤ 4398046511104 := by omega
      have Hlt1 := Lib.hid hlt1; have Hpk := Lib.hid hpk
      clear hd hlt1 hpb hpk
      by_cases h128 : 128 ≤ x.toNat
      · rw [if_pos h128, show x.toNat - 128 = d by omega, ← hq] at hstep
        have Hstep := Lib.hid hstep
        clear hstep hq hd128
        go_wp2
        go_round
        case rel =>
          exact ⟨k + 1, acc + q, p * 128, by omega, by omega, by go_num, by go_num, by go_num, Lib.hid (by rw [← Hpk.out, Nat.mul_comm]), Lib.hid Hlt1.out, Lib.hid (by rw [show 6 - (k + 1) = 5 - k by omega]; exact Hstep.out)⟩
        case measure => simp [intOf]; omega
      · have hxd : x.toNat = d := by omega
        rw [if_neg h128, hxd, ← hq] at hstep
        have hlow : (x.toNat : Int) < 128 := by omega
        have fin : ∀ r, (if (d = 0 ∧ 0 < k) ∨ 1099511627776 < acc + q then none else some (acc + q, k + 1)) = r → Ending.returned (gotV r) = Ending.returned (.tuple #[.int .i64 ((ra : Nat) : Int), .int .i64 ((rb : Nat) : Int), .bool rc]) := fun r h => by
          rw [← h, hstep]; exact congrArg Ending.returned Hr.out
        by_cases hA : 1099511627776 < acc + q
        · have F := Lib.hid (fin none (if_pos (.inr hA)))
          have hA' : (1099511627776 : Int) < (acc : Int) + (q : Int) := by omega
          clear hstep hq hd128 hxd fin hA
          go_wp2
          go_ret3
          exact ⟨F.out, rfl⟩
        · have hA' : ¬ (1099511627776 : Int) < (acc : Int) + (q : Int) := by omega
          by_cases hB : d = 0 ∧ 0 < k
          · have F := Lib.hid (fin none (if_pos (.inl hB)))
            obtain ⟨hd0, hk0⟩ := hB
            have hx0 : (x.toNat : Int) = 0 := by rw [hxd, hd0]; rfl
            have gd0 : (0 : Int) * (p : Int) = (q : Int) := by rw [← gq, hd0]; rfl
            rw [hx0] at cx
            clear hstep hq hd128 hxd fin hA hx0 hxl h128 hlow gd gq hd0
            go_wp2
            go_ret3
            exact ⟨F.out, rfl⟩
          · have F := Lib.hid (fin _ (if_neg (fun h => h.elim hB hA)))
            clear hstep hq hd128 fin hA
            by_cases hk0 : 0 < k
            · have hx0 : 0 < (x.toNat : Int) := by
                have : d ≠ 0 := fun h => hB ⟨h, hk0⟩
                omega
              clear hB hxd
              go_wp2
              go_ret3
              exact ⟨F.out, rfl⟩
            · clear hB hxd
              go_wp2
              go_ret3
              exact ⟨F.out, rfl⟩
    · have hend : getL l = none := by
        have h := hg.out
        by_cases h6 : k < 6
        · rw [List.drop_eq_nil_of_le (by have := Hn.out; omega)] at h
          rw [← h]
          have : 6 - k = 5 - k + 1 := by omega
          rw [this]; rfl
        · rw [show 6 - k = 0 by omega] at h
          rw [← h]; rfl
      have hr := Hr.out
      rw [hend, gotV_none] at hr
      have HR2 := Lib.hid hr
      clear hend hr
      by_cases h1 : k < n
      · have h2 : ¬ k < 6 := fun h => hlt ⟨h1, h⟩
        clear hlt
        go_wp2
        go_ret3
        exact ⟨congrArg Ending.returned HR2.out, rfl⟩
      · clear hlt
        go_wp2
        go_ret3
        exact ⟨congrArg Ending.returned HR2.out, rfl⟩

set_option maxRecDepth 100000 in
set_option maxHeartbeats 400000 in
theorem RGet_nil (w : World) (A : Option Addr) :
    Calls Try.prog 17 #[.slice A 0 0] w fun e w' => e = .returned (gotV (getL [])) ∧ w = w' := by
  rw [show gotV (getL []) = .tuple #[.int .i64 0, .int .i64 0, .bool false] from rfl]
  go_enter Try.func17, Try.ntmps17
  go_wp2
  go_loop [7] (fun vi => vi = .int .i64 0) (fun _ => 0)
  case atStart => rfl
  case round =>
    obtain rfl := hrel
    go_wp2
    go_ret3
    exact ⟨rfl, rfl⟩

theorem RGet_any (w : World) (v : Value) (l : List UInt8) (hr : Rb w v l) :
    Calls Try.prog 17 #[v] w fun e w' => e = .returned (gotV (getL l)) ∧ w = w' := by
  rcases hr with ⟨⟨A, rfl⟩, rfl⟩ | ⟨g, o, c, rfl, _, _, hcell⟩
  · exact RGet_nil w A
  · exact RGet_some w g o c l hcell
end Go.Proofs.Ytbgnemephcbgeaa
