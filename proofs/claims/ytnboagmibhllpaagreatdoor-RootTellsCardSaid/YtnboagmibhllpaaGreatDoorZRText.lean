/-
  The document's Text.
-/
import Derived.Test.YtnboagmibhllpaaGreatDoorC20
namespace Go.Proofs.YtnboagmibhllpaaGreatDoor.Nu
open Go.Proofs.YtnboagmibhllpaaGreatDoor
open Go Go.RowKit

def dd0 (m : Nat) : List UInt8 := if m = 0 then [] else Lib.decDigits m
theorem dd0_step {m : Nat} (h : 0 < m) : dd0 (m / 10) ++ [UInt8.ofNat (48 + m % 10)] = dd0 m := by
  unfold dd0
  rw [if_neg (show ¬ m = 0 by omega)]
  by_cases h10 : m < 10
  · rw [if_pos (by omega), dd_lo h10, Nat.mod_eq_of_lt h10]; rfl
  · rw [if_neg (by omega), dd_hi (u := m) (by omega)]

theorem dd_step (n : Nat) : dd0 (n / 10) ++ [UInt8.ofNat (48 + n % 10)] = Lib.decDigits n := by
  by_cases h : n = 0
  · subst h; rw [dd_zero]; rfl
  · rw [dd0_step (by omega)]; unfold dd0; rw [if_neg h]

theorem conv_one (w : World) (c : UInt8) : (convert 26 9 (.slice (some ⟨w.heap.size, 0, none⟩) 1 1)).run Tryz.prog (w.alloc (.cells #[.int .u8 (c.toNat : Int)] 5)) = .ok (.string ⟨([c] : List UInt8).toArray⟩) (w.alloc (.cells #[.int .u8 (c.toNat : Int)] 5)) := (rb_one w c).conv

set_option maxRecDepth 100000 in
set_option maxHeartbeats 1000000 in
theorem RText_nat (n : Nat) (h1 : n ≤ 9223372036854775807) (w : World) :
    Calls Tryz.prog 26 #[.int .i64 (n : Int)] w fun e w' => e = .returned (SV (Lib.decDigits n)) ∧ Below w.heap.size w w' := by
  have HL : Hid ((Lib.decDigits n).length ≤ 20) := Lib.hid (by rw [Lib.decDigits_length]; exact nd_len 19 n (Nat.lt_of_le_of_lt h1 (by decide)))
  have HS := Lib.hid (dd_step n)
  generalize Lib.decDigits n = D at HL HS ⊢
  unfold SV
  obtain ⟨x, hx⟩ : ∃ x, x = UInt8.ofNat (48 + n % 10) := ⟨_, rfl⟩
  have gx : IntKind.u8.wrap (48 + (n : Int) % 10) = (x.toNat : Int) := by rw [hx, byte_of (by omega), IntKind.wrap_u8']; omega
  have gx2 : 48 + (n : Int) % 10 = (x.toNat : Int) := by rw [hx, byte_of (by omega)]; omega
  have hcv := conv_one w x
  have L0 : Hid (Below w.heap.size w (w.alloc (.cells #[.int .u8 (x.toNat : Int)] 5))) := Lib.hid (below_new w _)
  rw [← hx] at HS
  clear hx
  go_enter Tryz.func26, Tryz.ntmps26
  go_wp2
  clear gx gx2 hcv
  go_loopw [0, 3] (fun vn vo wr => ∃ (m : Nat) (r : List UInt8), m ≤ 9223372036854775807 ∧ vn = .int .i64 m ∧ vo = .string ⟨r.toArray⟩ ∧ Hid (dd0 m ++ r = D) ∧ Below w.heap.size w wr) (fun vn _ _ => (intOf vn).toNat)
  case atStart => exact ⟨n / 10, [x], by omega, by go_num, rfl, HS, L0.out⟩
  case round =>
    obtain ⟨m, r, hm, rfl, rfl, hD, hb⟩ := hrel
    have hr20 : r.length ≤ 20 := by have := HL.out; rw [← hD.out, List.length_append] at this; omega
    by_cases hlt : 0 < m
    · obtain ⟨x, hx⟩ : ∃ x, x = UInt8.ofNat (48 + m % 10) := ⟨_, rfl⟩
      have gx : IntKind.u8.wrap (48 + (m : Int) % 10) = (x.toNat : Int) := by rw [hx, byte_of (by omega), IntKind.wrap_u8']; omega
      have gx2 : 48 + (m : Int) % 10 = (x.toNat : Int) := by rw [hx, byte_of (by omega)]; omega
      have hcv := conv_one wr x
      have L1 : Hid (Below w.heap.size w (wr.alloc (.cells #[.int .u8 (x.toNat : Int)] 5))) := Lib.hid (hb.alloc hb.size _)
      have happ : (⟨([x] : List UInt8).toArray⟩ : ByteArray) ++ (⟨r.toArray⟩ : ByteArray) = ⟨(x :: r).toArray⟩ := append_S [x] r
      have HD : Hid (dd0 (m / 10) ++ (x :: r) = D) := Lib.hid (by rw [← hD.out, ← dd0_step hlt, hx, List.append_assoc]; rfl)
      clear hx hb hD
      go_wp2
      go_roundw
      case rel => exact ⟨m / 10, x :: r, by omega, by go_num, rfl, HD.out, L1.out⟩
      case measure => simp [intOf]; omega
    · have HD : Hid (r = D) := Lib.hid (by have := hD.out; rw [show m = 0 by omega] at this; exact this)
      have hle : ¬ (0 : Int) < (m : Int) := by omega
      clear hD hlt
      go_wp2
      go_ret
      exact ⟨by rw [HD.out]; rfl, hb⟩

set_option maxHeartbeats 400000 in
theorem RText_any (n : Int) (h1 : n ≤ 9223372036854775807) (w : World) :
    Calls Tryz.prog 26 #[.int .i64 n] w fun e w' => e = .returned (SV (textL n)) ∧ Below w.heap.size w w' := by
  by_cases h : n < 0
  · rw [show textL n = [] from if_pos h]
    unfold SV
    go_enter Tryz.func26, Tryz.ntmps26
    go_wp2
    go_ret
    exact ⟨rfl, Below.refl _ _⟩
  · obtain ⟨m, rfl⟩ := Int.eq_ofNat_of_zero_le (show 0 ≤ n by omega)
    rw [textL_nat]
    exact RText_nat m (by omega) w
end Go.Proofs.YtnboagmibhllpaaGreatDoor.Nu
