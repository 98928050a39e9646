/-
  The document's index: a number's bytes.
-/
import Derived.Test.YtdjmcehoaneekaaDoorIRefT
namespace Go.Proofs.YtdjmcehoaneekaaDoor.Ix
open Go.Proofs.YtdjmcehoaneekaaDoor
open Go Go.RowKit

theorem ow_pair (w : World) (c d : UInt8) : Dl.Ow (w.alloc (.cells #[.int .u8 (c.toNat : Int), .int .u8 (d.toNat : Int)] 5)) w.heap.size (.slice (some ⟨w.heap.size, 0, none⟩) 2 2) [c, d] :=
  ⟨rfl, .inr ⟨w.heap.size, 2, #[.int .u8 (c.toNat : Int), .int .u8 (d.toNat : Int)], rfl, Nat.le_refl _, heap_alloc_new w _, Nat.le_refl _, by unfold maxLen; omega, rfl, rfl⟩⟩
set_option maxRecDepth 100000 in
set_option maxHeartbeats 1000000 in
theorem Rtwo_any (w : World) (n : Nat) (hn : n < 65536) : Calls Tryd.prog 29 #[.int .i64 (n : Int)] w (BytesP (num2 n) w) := by
  unfold num2
  obtain ⟨c, hc⟩ : ∃ c, c = UInt8.ofNat (n / 256) := ⟨_, rfl⟩
  obtain ⟨d, hd⟩ : ∃ d, d = UInt8.ofNat n := ⟨_, rfl⟩
  rw [← hc, ← hd]
  have q1 : Int.tdiv (n : Int) 256 = ((n / 256 : Nat) : Int) := by rw [Int.tdiv_eq_ediv_of_nonneg (by omega)]; omega
  have r1 : Int.tmod (n : Int) 256 = ((n % 256 : Nat) : Int) := by rw [Int.tmod_eq_emod_of_nonneg (by omega)]; omega
  have c1 : IntKind.u8.wrap ((n : Int) / 256) = (c.toNat : Int) := by rw [hc, IntKind.wrap_u8', UInt8.toNat_ofNat']; omega
  have d1 : IntKind.u8.wrap ((n : Int) % 256) = (d.toNat : Int) := by rw [hd, IntKind.wrap_u8', UInt8.toNat_ofNat']; omega
  have c2 : IntKind.u8.wrap (((n / 256 : Nat) : Int)) = (c.toNat : Int) := by rw [hc, IntKind.wrap_u8', UInt8.toNat_ofNat']; omega
  have d2 : IntKind.u8.wrap (((n % 256 : Nat) : Int)) = (d.toNat : Int) := by rw [hd, IntKind.wrap_u8', UInt8.toNat_ofNat']; omega
  have O := Lib.hid (ow_pair w c d)
  clear hc hd
  go_enter Tryd.func29, Tryd.ntmps29
  go_wp2
  go_ret
  exact ⟨below_alloc w _, _, rfl, O.out⟩
end Go.Proofs.YtdjmcehoaneekaaDoor.Ix
