/-
  Words of 32 and 64 bits as the walk spells them, and turn.
-/
import Derived.Test.YtjbagoedaelmnaaDoorPure
import Derived.Test.YtjbagoedaelmnaaDoorProg
import Derived.WalkKit
import Derived.OneCell
import Derived.Laws.BitsAllLaws
import Derived.Laws.Bits64b
import Derived.Laws.Shifts
import Derived.Deep.QuietTactic
namespace Go.Proofs.YtjbagoedaelmnaaDoor
open Go Go.RowKit

/-! ### 32 bits -/
theorem u32_lt (x : UInt32) : x.toNat < 4294967296 := x.toNat_lt
theorem w32_nat (n : Nat) : IntKind.u32.wrap (n : Int) = ((n % 4294967296 : Nat) : Int) := by rw [IntKind.wrap_u32']; omega
theorem ofInt32 (x : UInt32) : BitVec.ofInt 32 (x.toNat : Int) = x.toBitVec := by
  rw [BitVec.ofInt_natCast]; exact BitVec.eq_of_toNat_eq (by simp)
theorem u32_back (b : BitVec 32) : IntKind.u32.wrap (b.toNat : Int) = (b.toNat : Int) := by
  have := b.isLt
  rw [w32_nat, Nat.mod_eq_of_lt (by omega)]
theorem and32 (x y : UInt32) : bits .and .u32 (x.toNat : Int) (y.toNat : Int) = ((x &&& y).toNat : Int) := by
  show IntKind.u32.wrap ((BitVec.ofInt 32 (x.toNat : Int) &&& BitVec.ofInt 32 (y.toNat : Int)).toNat : Int) = _
  rw [u32_back, ofInt32, ofInt32]; rfl
theorem or32 (x y : UInt32) : bits .or .u32 (x.toNat : Int) (y.toNat : Int) = ((x ||| y).toNat : Int) := by
  show IntKind.u32.wrap ((BitVec.ofInt 32 (x.toNat : Int) ||| BitVec.ofInt 32 (y.toNat : Int)).toNat : Int) = _
  rw [u32_back, ofInt32, ofInt32]; rfl
theorem xor32 (x y : UInt32) : bits .xor .u32 (x.toNat : Int) (y.toNat : Int) = ((x ^^^ y).toNat : Int) := by
  show IntKind.u32.wrap ((BitVec.ofInt 32 (x.toNat : Int) ^^^ BitVec.ofInt 32 (y.toNat : Int)).toNat : Int) = _
  rw [u32_back, ofInt32, ofInt32]; rfl
theorem not32 (x : UInt32) : bits .xor .u32 4294967295 (x.toNat : Int) = ((~~~x).toNat : Int) := by
  show IntKind.u32.wrap ((BitVec.ofInt 32 4294967295 ^^^ BitVec.ofInt 32 (x.toNat : Int)).toNat : Int) = _
  rw [u32_back, ofInt32]
  have : BitVec.ofInt 32 4294967295 ^^^ x.toBitVec = ~~~x.toBitVec := by
    rw [show BitVec.ofInt 32 4294967295 = BitVec.allOnes 32 by decide, BitVec.allOnes_xor]
  rw [this]; rfl
theorem add32 (x y : UInt32) : IntKind.u32.wrap ((x.toNat : Int) + (y.toNat : Int)) = ((x + y).toNat : Int) := by
  rw [← Int.natCast_add, w32_nat, UInt32.toNat_add]
theorem shr32 (x : UInt32) (n : Nat) (h : n < 32) : (x.toNat : Int) / ((2 ^ n : Nat) : Int) = ((x >>> UInt32.ofNat n).toNat : Int) := by
  rw [← Int.natCast_ediv, UInt32.toNat_shiftRight, UInt32.toNat_ofNat', Nat.mod_eq_of_lt (a := n) (by omega), Nat.mod_eq_of_lt h, Nat.shiftRight_eq_div_pow]
theorem shl32 (x : UInt32) (n : Nat) (h : n < 32) : IntKind.u32.wrap ((x.toNat : Int) * ((2 ^ n : Nat) : Int)) = ((x <<< UInt32.ofNat n).toNat : Int) := by
  rw [← Int.natCast_mul, w32_nat, UInt32.toNat_shiftLeft, UInt32.toNat_ofNat', Nat.mod_eq_of_lt (a := n) (by omega), Nat.mod_eq_of_lt h, Nat.shiftLeft_eq]

theorem shrP (x : UInt32) (n : Nat) (h : n < 32) : (x.toNat : Int) / 2 ^ n = ((x >>> UInt32.ofNat n).toNat : Int) := by
  rw [← shr32 x n h]; simp
theorem shlP (x : UInt32) (n : Nat) (h : n < 32) : (x.toNat : Int) * 2 ^ n % 4294967296 = ((x <<< UInt32.ofNat n).toNat : Int) := by
  rw [← shl32 x n h, IntKind.wrap_u32']; simp
theorem ret_u32 {a b : Int} (h : a = b) : Ending.returned (.int .u32 a) = .returned (.int .u32 b) := by rw [h]

set_option maxHeartbeats 400000 in
theorem rotl_any (x : UInt32) (k : Int) (l r : Nat) (he : bits .and .u64 (IntKind.u64.wrap k) 31 = (l : Int)) (hl : l < 32) (hr : r < 32) (hlr : l + r = 32) (w : World) :
    Calls Tryd.prog 34 #[.int .u32 (x.toNat : Int), .int .i64 k] w fun e w' => e = .returned (.int .u32 ((rotr x (UInt32.ofNat r)).toNat : Int)) ∧ w = w' := by
  have e1 : IntKind.u64.wrap (32 - (l : Int)) = (r : Int) := by rw [IntKind.wrap_u64]; omega
  have hz : bits .or .u32 ((x.toNat : Int) * 2 ^ l % 4294967296) ((x.toNat : Int) / 2 ^ r) = ((rotr x (UInt32.ofNat r)).toNat : Int) := by
    unfold rotr
    rw [shlP x l hl, shrP x r hr, or32, UInt32.or_comm, show 32 - UInt32.ofNat r = UInt32.ofNat l by rw [← UInt32.toNat_inj, UInt32.toNat_sub]; simp; omega]
  have HZ := Lib.hid hz; clear hz
  go_enter Tryd.func34, Tryd.ntmps34
  go_wp2
  go_ret
  exact ⟨ret_u32 HZ.out, rfl⟩

/-- turn by n places, n a number that is written. -/
theorem turn_any (x : UInt32) (n : Nat) (h1 : 1 ≤ n) (h2 : n < 32) (w : World) :
    Calls Tryd.prog 32 #[.int .u32 (x.toNat : Int), .int .i64 (n : Int)] w fun e w' => e = .returned (.int .u32 ((rotr x (UInt32.ofNat n)).toNat : Int)) ∧ w = w' := by
  have he : bits .and .u64 (IntKind.u64.wrap (-(n : Int))) 31 = ((32 - n : Nat) : Int) := by
    rw [IntKind.wrap_u64, show (-(n : Int)) % 18446744073709551616 = ((18446744073709551616 - n : Nat) : Int) by omega]
    have := bits_and_u64_nat (18446744073709551616 - n) 31 (by omega) (by omega)
    rw [show ((31 : Nat) : Int) = 31 from rfl] at this
    rw [this, show 31 = 2 ^ 5 - 1 from rfl, Nat.and_two_pow_sub_one_eq_mod]
    omega
  have hc := rotl_any x (-(n : Int)) (32 - n) n he (by omega) h2 (by omega)
  have HC := Lib.hid hc; clear hc he
  go_enter Tryd.func32, Tryd.ntmps32
  go_wp2_with fail
  refine (HC.out _).mono ?_
  rintro e w' ⟨rfl, rfl⟩
  go_wp2
  go_ret
  exact ⟨rfl, rfl⟩
theorem turn_still (x : UInt32) (n : Nat) (h1 : 1 ≤ n) (h2 : n < 32) (w : World) :
    Calls Tryd.prog 32 #[.int .u32 (x.toNat : Int), .int .i64 (n : Int)] w fun e w' => e = .returned (.int .u32 ((rotr x (UInt32.ofNat n)).toNat : Int)) ∧ w' = w :=
  (turn_any x n h1 h2 w).mono fun _ _ h => ⟨h.1, h.2.symm⟩

theorem ss1_bits (x : UInt32) : bits .xor .u32 (bits .xor .u32 ((rotr x 17).toNat : Int) ((rotr x 19).toNat : Int)) ((x.toNat : Int) / 1024) = ((ss1 x).toNat : Int) := by
  have h := shr32 x 10 (by omega)
  rw [show ((2 ^ 10 : Nat) : Int) = 1024 from rfl] at h
  rw [h, xor32, xor32]; rfl
theorem ss0_bits (x : UInt32) : bits .xor .u32 (bits .xor .u32 ((rotr x 7).toNat : Int) ((rotr x 18).toNat : Int)) ((x.toNat : Int) / 8) = ((ss0 x).toNat : Int) := by
  have h := shr32 x 3 (by omega)
  rw [show ((2 ^ 3 : Nat) : Int) = 8 from rfl] at h
  rw [h, xor32, xor32]; rfl
theorem not32' (x : UInt32) : bits .xor .u32 (if IntKind.u32.signed = true then -1 else IntKind.u32.max) (x.toNat : Int) = ((~~~x).toNat : Int) := not32 x
theorem add32m (x y : UInt32) : ((x.toNat : Int) + (y.toNat : Int)) % 4294967296 = ((x + y).toNat : Int) := by rw [← add32, IntKind.wrap_u32']
theorem turnL_2 (x r : UInt32) (hr : r = rotr x 2) (w : World) : Calls Tryd.prog 32 #[.int .u32 (x.toNat : Int), .int .i64 2] w fun e w' => e = .returned (.int .u32 (r.toNat : Int)) ∧ w = w' := hr ▸ turn_any x 2 (by omega) (by omega) w
theorem turnQ_2 (x r : UInt32) (hr : r = rotr x 2) (w : World) (m : Nat) : Calls Tryd.prog 32 #[.int .u32 (x.toNat : Int), .int .i64 2] (w.drewN m) fun e w'' => e = .returned (.int .u32 (r.toNat : Int)) ∧ ∃ m, w'' = w.drewN m := hr ▸ Calls.quiet_of_same (turn_still x 2 (by omega) (by omega) _)
theorem turnL_13 (x r : UInt32) (hr : r = rotr x 13) (w : World) : Calls Tryd.prog 32 #[.int .u32 (x.toNat : Int), .int .i64 13] w fun e w' => e = .returned (.int .u32 (r.toNat : Int)) ∧ w = w' := hr ▸ turn_any x 13 (by omega) (by omega) w
theorem turnQ_13 (x r : UInt32) (hr : r = rotr x 13) (w : World) (m : Nat) : Calls Tryd.prog 32 #[.int .u32 (x.toNat : Int), .int .i64 13] (w.drewN m) fun e w'' => e = .returned (.int .u32 (r.toNat : Int)) ∧ ∃ m, w'' = w.drewN m := hr ▸ Calls.quiet_of_same (turn_still x 13 (by omega) (by omega) _)
theorem turnL_22 (x r : UInt32) (hr : r = rotr x 22) (w : World) : Calls Tryd.prog 32 #[.int .u32 (x.toNat : Int), .int .i64 22] w fun e w' => e = .returned (.int .u32 (r.toNat : Int)) ∧ w = w' := hr ▸ turn_any x 22 (by omega) (by omega) w
theorem turnQ_22 (x r : UInt32) (hr : r = rotr x 22) (w : World) (m : Nat) : Calls Tryd.prog 32 #[.int .u32 (x.toNat : Int), .int .i64 22] (w.drewN m) fun e w'' => e = .returned (.int .u32 (r.toNat : Int)) ∧ ∃ m, w'' = w.drewN m := hr ▸ Calls.quiet_of_same (turn_still x 22 (by omega) (by omega) _)
theorem turnL_6 (x r : UInt32) (hr : r = rotr x 6) (w : World) : Calls Tryd.prog 32 #[.int .u32 (x.toNat : Int), .int .i64 6] w fun e w' => e = .returned (.int .u32 (r.toNat : Int)) ∧ w = w' := hr ▸ turn_any x 6 (by omega) (by omega) w
theorem turnQ_6 (x r : UInt32) (hr : r = rotr x 6) (w : World) (m : Nat) : Calls Tryd.prog 32 #[.int .u32 (x.toNat : Int), .int .i64 6] (w.drewN m) fun e w'' => e = .returned (.int .u32 (r.toNat : Int)) ∧ ∃ m, w'' = w.drewN m := hr ▸ Calls.quiet_of_same (turn_still x 6 (by omega) (by omega) _)
theorem turnL_11 (x r : UInt32) (hr : r = rotr x 11) (w : World) : Calls Tryd.prog 32 #[.int .u32 (x.toNat : Int), .int .i64 11] w fun e w' => e = .returned (.int .u32 (r.toNat : Int)) ∧ w = w' := hr ▸ turn_any x 11 (by omega) (by omega) w
theorem turnQ_11 (x r : UInt32) (hr : r = rotr x 11) (w : World) (m : Nat) : Calls Tryd.prog 32 #[.int .u32 (x.toNat : Int), .int .i64 11] (w.drewN m) fun e w'' => e = .returned (.int .u32 (r.toNat : Int)) ∧ ∃ m, w'' = w.drewN m := hr ▸ Calls.quiet_of_same (turn_still x 11 (by omega) (by omega) _)
theorem turnL_25 (x r : UInt32) (hr : r = rotr x 25) (w : World) : Calls Tryd.prog 32 #[.int .u32 (x.toNat : Int), .int .i64 25] w fun e w' => e = .returned (.int .u32 (r.toNat : Int)) ∧ w = w' := hr ▸ turn_any x 25 (by omega) (by omega) w
theorem turnQ_25 (x r : UInt32) (hr : r = rotr x 25) (w : World) (m : Nat) : Calls Tryd.prog 32 #[.int .u32 (x.toNat : Int), .int .i64 25] (w.drewN m) fun e w'' => e = .returned (.int .u32 (r.toNat : Int)) ∧ ∃ m, w'' = w.drewN m := hr ▸ Calls.quiet_of_same (turn_still x 25 (by omega) (by omega) _)
theorem turnL_7 (x r : UInt32) (hr : r = rotr x 7) (w : World) : Calls Tryd.prog 32 #[.int .u32 (x.toNat : Int), .int .i64 7] w fun e w' => e = .returned (.int .u32 (r.toNat : Int)) ∧ w = w' := hr ▸ turn_any x 7 (by omega) (by omega) w
theorem turnQ_7 (x r : UInt32) (hr : r = rotr x 7) (w : World) (m : Nat) : Calls Tryd.prog 32 #[.int .u32 (x.toNat : Int), .int .i64 7] (w.drewN m) fun e w'' => e = .returned (.int .u32 (r.toNat : Int)) ∧ ∃ m, w'' = w.drewN m := hr ▸ Calls.quiet_of_same (turn_still x 7 (by omega) (by omega) _)
theorem turnL_18 (x r : UInt32) (hr : r = rotr x 18) (w : World) : Calls Tryd.prog 32 #[.int .u32 (x.toNat : Int), .int .i64 18] w fun e w' => e = .returned (.int .u32 (r.toNat : Int)) ∧ w = w' := hr ▸ turn_any x 18 (by omega) (by omega) w
theorem turnQ_18 (x r : UInt32) (hr : r = rotr x 18) (w : World) (m : Nat) : Calls Tryd.prog 32 #[.int .u32 (x.toNat : Int), .int .i64 18] (w.drewN m) fun e w'' => e = .returned (.int .u32 (r.toNat : Int)) ∧ ∃ m, w'' = w.drewN m := hr ▸ Calls.quiet_of_same (turn_still x 18 (by omega) (by omega) _)
theorem turnL_17 (x r : UInt32) (hr : r = rotr x 17) (w : World) : Calls Tryd.prog 32 #[.int .u32 (x.toNat : Int), .int .i64 17] w fun e w' => e = .returned (.int .u32 (r.toNat : Int)) ∧ w = w' := hr ▸ turn_any x 17 (by omega) (by omega) w
theorem turnQ_17 (x r : UInt32) (hr : r = rotr x 17) (w : World) (m : Nat) : Calls Tryd.prog 32 #[.int .u32 (x.toNat : Int), .int .i64 17] (w.drewN m) fun e w'' => e = .returned (.int .u32 (r.toNat : Int)) ∧ ∃ m, w'' = w.drewN m := hr ▸ Calls.quiet_of_same (turn_still x 17 (by omega) (by omega) _)
theorem turnL_19 (x r : UInt32) (hr : r = rotr x 19) (w : World) : Calls Tryd.prog 32 #[.int .u32 (x.toNat : Int), .int .i64 19] w fun e w' => e = .returned (.int .u32 (r.toNat : Int)) ∧ w = w' := hr ▸ turn_any x 19 (by omega) (by omega) w
theorem turnQ_19 (x r : UInt32) (hr : r = rotr x 19) (w : World) (m : Nat) : Calls Tryd.prog 32 #[.int .u32 (x.toNat : Int), .int .i64 19] (w.drewN m) fun e w'' => e = .returned (.int .u32 (r.toNat : Int)) ∧ ∃ m, w'' = w.drewN m := hr ▸ Calls.quiet_of_same (turn_still x 19 (by omega) (by omega) _)
end Go.Proofs.YtjbagoedaelmnaaDoor
