/-
  The document's Decimal.
-/
import Derived.Test.YtnboagmibhllpaaGreatDoorC20
namespace Go.Proofs.YtnboagmibhllpaaGreatDoor.Nu
open Go.Proofs.YtnboagmibhllpaaGreatDoor
open Go Go.RowKit

theorem getD_mem {s : List UInt8} {k : Nat} (h : k < s.length) : s.getD k 0 ∈ s := by
  rw [List.getD_eq_getElem?_getD, List.getElem?_eq_getElem h]; exact List.getElem_mem h
theorem ba_get (s : List UInt8) (k : Nat) (h : k < (⟨s.toArray⟩ : ByteArray).size) : (⟨s.toArray⟩ : ByteArray)[k]'h = s.getD k 0 := by
  have h' : k < s.length := h
  rw [List.getD_eq_getElem?_getD, List.getElem?_eq_getElem h']; rfl
theorem head_getD {s : List UInt8} (h : 0 < s.length) : s.head? = some (s.getD 0 0) := by
  cases s with
  | nil => simp at h
  | cons a t => rfl
theorem dec_lt13 {s : List UInt8} {k acc : Nat} (h : Lib.decFrom 0 (s.take k) = some acc) (hk : k ≤ 13) : acc < 10000000000000 := by
  have h1 := Lib.decFrom_lt _ 0 acc h
  have h2 : (s.take k).length ≤ 13 := by rw [List.length_take]; omega
  have h3 := Nat.pow_le_pow_right (n := 10) (by decide) h2
  have e : (10 : Nat) ^ 13 = 10000000000000 := by decide
  omega

set_option maxRecDepth 100000 in
set_option maxHeartbeats 1000000 in
theorem RDecimal_loop (s : List UInt8) (h0 : 0 < s.length) (h13 : s.length ≤ 13) (hh : 1 < s.length → s.getD 0 0 ≠ 48) (w : World) :
    Calls Tryz.prog 32 #[.string ⟨s.toArray⟩] w fun e w' => e = .returned (decV (decL s)) ∧ w = w' := by
  have hsz : (⟨s.toArray⟩ : ByteArray).size = s.length := rfl
  obtain ⟨n, hn⟩ : ∃ n, n = s.length := ⟨_, rfl⟩
  have HN := Lib.hid hn
  obtain ⟨c0, hc0⟩ : ∃ c, c = s.getD 0 0 := ⟨_, rfl⟩
  have g0 : ∀ h, (⟨s.toArray⟩ : ByteArray)[0]'h = c0 := fun h => by rw [hc0]; exact ba_get s 0 h
  rw [← hn] at h0 h13 hh hsz
  rw [← hc0] at hh
  have hh2 : decide ((1 : Int) < (n : Int)) = false ∨ (decide ((1 : Int) < (n : Int)) = true ∧ ((c0.toNat : Int) == 48) = false) := by
    rcases Nat.lt_or_ge 1 n with h | h
    · refine .inr ⟨by simp; omega, beq_eq_false_iff_ne.2 fun e => hh h (UInt8.toNat_inj.1 ?_)⟩
      show c0.toNat = 48
      omega
    · exact .inl (by simp; omega)
  have e0 : ((n : Int) == 0) = false := beq_eq_false_iff_ne.2 (by omega)
  have e13 : decide ((13 : Int) < (n : Int)) = false := by simp; omega
  have HC0 := Lib.hid hc0; have HH := Lib.hid hh; have Hsz := Lib.hid hsz
  obtain ⟨ra, rb, hrr⟩ : ∃ a b, decV (decL s) = .tuple #[.int .i64 ((a : Nat) : Int), .bool b] := ⟨_, _, rfl⟩
  have Hr := Lib.hid hrr
  rw [hrr]
  clear hn hc0 hrr hh
  have Hdec : Hid (decL s = none → Ending.returned (.tuple #[.int .i64 0, .bool false]) = Ending.returned (.tuple #[.int .i64 (ra : Int), .bool rb])) := Lib.hid fun h => by
    have := Hr.out
    rw [h, decV_none] at this
    exact congrArg _ this
  rcases hh2 with h1 | ⟨h1, h2⟩
  all_goals
    go_enter Tryz.func32, Tryz.ntmps32
    go_wp2
    clear h1 e0 e13 g0
    go_loop [4, 5] (fun vn vi => ∃ (k acc : Nat), k ≤ n ∧ vi = .int .i64 k ∧ vn = .int .i64 acc ∧ Hid (Lib.decFrom 0 (s.take k) = some acc)) (fun _ vi => n - (intOf vi).toNat)
    case atStart => exact ⟨0, 0, Nat.zero_le _, rfl, rfl, Lib.hid rfl⟩
    case round =>
      obtain ⟨k, acc, hk, rfl, rfl, hd⟩ := hrel
      by_cases hlt : k < n
      · obtain ⟨x, hx⟩ : ∃ x, x = s.getD k 0 := ⟨_, rfl⟩
        have gx : ∀ h, (⟨s.toArray⟩ : ByteArray)[k]'h = x := fun h => by rw [hx]; exact ba_get s k h
        have hmem : x ∈ s := by rw [hx]; exact getD_mem (by rw [← HN.out]; exact hlt)
        have hxk : s[k]? = some x := by rw [hx, List.getD_eq_getElem?_getD, List.getElem?_eq_getElem (by rw [← HN.out]; exact hlt)]; rfl
        have hxl := x.toNat_lt
        have Hxk := Lib.hid hxk
        clear hx hxk
        by_cases hD : 48 ≤ x.toNat ∧ x.toNat ≤ 57
        · obtain ⟨hD1, hD2⟩ := hD
          obtain ⟨d, hd2⟩ : ∃ d, d = x.toNat - 48 := ⟨_, rfl⟩
          have gd : (x.toNat : Int) - 48 = (d : Int) := by omega
          have hacc := dec_lt13 hd.out (by omega)
          have hd9 : d ≤ 9 := by omega
          have HS : Hid (Lib.decFrom 0 (s.take (k + 1)) = some (acc * 10 + d)) := Lib.hid (Lib.decFrom_take s k 0 acc x d hd.out Hxk.out (by unfold Lib.digitVal; rw [if_pos ⟨hD1, hD2⟩, hd2]))
          clear hd2 hmem hd
          go_wp2
          go_round
          case rel => exact ⟨k + 1, acc * 10 + d, by omega, by go_num, by go_num, HS.out⟩
          case measure => simp [intOf]; omega
        · have F := Lib.hid (Hdec.out (decL_other x hmem hD))
          by_cases hlo : x.toNat < 48
          · clear hmem hd hD
            go_wp2
            go_ret2
            exact ⟨F.out, rfl⟩
          · have hhi : 57 < (x.toNat : Int) := by omega
            clear hmem hd hD
            go_wp2
            go_ret2
            exact ⟨F.out, rfl⟩
      · have hall : Lib.decFrom 0 s = some acc := by
          have := hd.out
          rwa [List.take_of_length_le (by rw [← HN.out]; omega)] at this
        have hacc := dec_lt13 hd.out (by omega)
        have hN := HN.out
        have hv := decL_num (s := s) (n := acc) (fun e => by rw [e] at hN; simp at hN; omega) (fun h e => by
          rw [head_getD (by omega), ← HC0.out] at e
          exact HH.out (by omega) (Option.some.inj e)) hall
        by_cases hb : acc ≤ 1099511627776
        · rw [if_pos hb] at hv
          have F : Hid (Ending.returned (.tuple #[.int .i64 (acc : Int), .bool true]) = Ending.returned (.tuple #[.int .i64 (ra : Int), .bool rb])) := Lib.hid (by
            have := Hr.out
            rw [hv, decV_some] at this
            exact congrArg _ this)
          clear hall hd hN hv
          go_wp2
          go_ret2
          exact ⟨F.out, rfl⟩
        · rw [if_neg hb] at hv
          have F := Lib.hid (Hdec.out hv)
          have hb' : (1099511627776 : Int) < (acc : Int) := by omega
          clear hall hd hN hv hb
          go_wp2
          go_ret2
          exact ⟨F.out, rfl⟩

set_option maxRecDepth 100000 in
set_option maxHeartbeats 1000000 in
theorem RDecimal_any (s : List UInt8) (hs : s.length ≤ maxLen) (w : World) :
    Calls Tryz.prog 32 #[SV s] w fun e w' => e = .returned (decV (decL s)) ∧ w = w' := by
  unfold SV
  unfold maxLen at hs
  by_cases h0 : s = []
  · subst h0
    rw [decL_len0, decV_none]
    have hsz : (⟨([] : List UInt8).toArray⟩ : ByteArray).size = 0 := rfl
    go_enter Tryz.func32, Tryz.ntmps32
    go_wp2
    go_ret2
    exact ⟨rfl, rfl⟩
  · have hp : 0 < s.length := List.length_pos_iff.2 h0
    by_cases h13 : s.length ≤ 13
    · by_cases h1 : 1 < s.length → s.getD 0 0 ≠ 48
      · exact RDecimal_loop s hp h13 h1 w
      · have h2 : 1 < s.length ∧ s.getD 0 0 = 48 := ⟨Decidable.byContradiction fun h => h1 fun h' => absurd h' h, Decidable.byContradiction fun h => h1 fun _ => h⟩
        rw [decL_nought h2.1 (by rw [head_getD hp, h2.2]), decV_none]
        obtain ⟨n, hn⟩ : ∃ n, n = s.length := ⟨_, rfl⟩
        have hsz : (⟨s.toArray⟩ : ByteArray).size = n := hn.symm
        have g0 : ∀ h, (⟨s.toArray⟩ : ByteArray)[0]'h = 48 := fun h => by rw [← h2.2]; exact ba_get s 0 h
        rw [← hn] at hp h13 h2 hs
        obtain ⟨h2, _⟩ := h2
        have e0 : ((n : Int) == 0) = false := beq_eq_false_iff_ne.2 (by omega)
        have e13 : decide ((13 : Int) < (n : Int)) = false := by simp; omega
        have e1 : decide ((1 : Int) < (n : Int)) = true := by simp; omega
        clear hn h1 h0
        go_enter Tryz.func32, Tryz.ntmps32
        go_wp2
        go_ret2
        exact ⟨rfl, rfl⟩
    · rw [decL_long (by omega), decV_none]
      obtain ⟨n, hn⟩ : ∃ n, n = s.length := ⟨_, rfl⟩
      have hsz : (⟨s.toArray⟩ : ByteArray).size = n := hn.symm
      rw [← hn] at hp h13 hs
      have e0 : ((n : Int) == 0) = false := beq_eq_false_iff_ne.2 (by omega)
      have e13 : decide ((13 : Int) < (n : Int)) = true := by simp; omega
      clear hn h0
      go_enter Tryz.func32, Tryz.ntmps32
      go_wp2
      go_ret2
      exact ⟨rfl, rfl⟩
end Go.Proofs.YtnboagmibhllpaaGreatDoor.Nu
