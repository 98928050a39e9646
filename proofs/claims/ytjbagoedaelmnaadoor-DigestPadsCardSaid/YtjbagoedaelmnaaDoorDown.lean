/-
  down, LeadingZeros64, Div64.
-/
import Derived.Test.YtjbagoedaelmnaaDoorDiv
namespace Go.Proofs.YtjbagoedaelmnaaDoor
open Go Go.RowKit

theorem ret_u64 {a b : Int} (h : a = b) : Ending.returned (.int .u64 a) = .returned (.int .u64 b) := by rw [h]
theorem shl64w (x : UInt64) (s : Nat) : IntKind.u64.wrap ((x.toNat : Int) * 2 ^ s) = ((shl64 x s).toNat : Int) := by rw [IntKind.wrap_u64, shl64_eq]

set_option maxHeartbeats 400000 in
theorem down_any (n : Two) (b : Nat) (hb : b ≤ 63) (hb1 : 1 ≤ b) (w : World) :
    Calls Tryd.prog 36 #[.agg #[.int .u64 (n.hi.toNat : Int), .int .u64 (n.lo.toNat : Int)], .int .u64 (b : Int)] w fun e w' =>
      e = .returned (.int .u64 ((n.down b).toNat : Int)) ∧ Below w.heap.size w w' := by
  obtain ⟨x, y⟩ := n
  obtain ⟨c, hc⟩ : ∃ c, c = 64 - b := ⟨_, rfl⟩
  have g1 : IntKind.u64.wrap (64 - (b : Int)) = (c : Int) := by rw [IntKind.wrap_u64]; omega
  have HD : Hid (Two.down ⟨x, y⟩ b = shl64 x c ||| shr64 y b) := Lib.hid (by rw [hc]; rfl)
  have hc1 : c ≤ 63 := by omega
  clear hc
  go_enter Tryd.func36, Tryd.ntmps36
  go_wp2
  go_ret
  refine ⟨ret_u64 ?_, (Below.refl _ _).alloc (Nat.le_refl _) _⟩
  rw [shl64w, shr64_eq, or64, HD.out]

theorem lz_nat (x : UInt64) (w : World) : Calls Tryd.prog 40 #[.int .u64 (x.toNat : Int)] w fun e w' => e = .returned (.int .i64 ((64 - lenN x.toNat : Nat) : Int)) ∧ w = w' := by
  have hx := x.toNat_lt
  refine (lz_any (x.toNat : Int) w (by omega) (by omega)).mono ?_
  rintro e w' ⟨rfl, rfl⟩
  refine ⟨?_, rfl⟩
  have e1 : Lib.bitLen ((x.toNat : Int)).toNat = lenN x.toNat := by
    rw [Int.toNat_natCast]; rfl
  have e2 : lenN x.toNat ≤ 64 := Go.Lib.bitLen_le x.toNat 64 (by omega) (by omega)
  rw [e1]
  congr 2
  omega
end Go.Proofs.YtjbagoedaelmnaaDoor
