/-
  A byte's digits, walked.
-/
import Derived.Test.YtdjmcehoaneekaaDoorIArg
namespace Go.Proofs.YtdjmcehoaneekaaDoor.Ix
open Go.Proofs.YtdjmcehoaneekaaDoor
open Go Go.RowKit

def digs : Array UInt8 := #[48, 49, 50, 51, 52, 53, 54, 55, 56, 57, 97, 98, 99, 100, 101, 102]
def dig (a : Nat) : ByteArray := ⟨#[hexD (UInt8.ofNat a)]⟩
theorem digs_at : ∀ a : Fin 16, (⟨digs⟩ : ByteArray).extract a.val (a.val + 1) = dig a.val := by decide +kernel
theorem run_quo (W : World) (c : Nat) (hc : c < 256) : (binOp .quo 3 (.int .i64 (c : Int)) (.int .i64 16)).run Tryd.prog W = .ok (.int .i64 ((c / 16 : Nat) : Int)) W := by
  have q1 : Int.tdiv (c : Int) 16 = ((c / 16 : Nat) : Int) := by rw [Int.tdiv_eq_ediv_of_nonneg (by omega)]; omega
  have e : IntKind.i64.wrap ((c / 16 : Nat) : Int) = ((c / 16 : Nat) : Int) := IntWalk.i64_in _ (by omega)
  simp only [go_sem, q1, e]
  simp
theorem run_rem (W : World) (c : Nat) (hc : c < 256) : (binOp .rem 3 (.int .i64 (c : Int)) (.int .i64 16)).run Tryd.prog W = .ok (.int .i64 ((c % 16 : Nat) : Int)) W := by
  have q1 : Int.tmod (c : Int) 16 = ((c % 16 : Nat) : Int) := by rw [Int.tmod_eq_emod_of_nonneg (by omega)]; omega
  simp only [go_sem, q1]
  simp
theorem run_inc (W : World) (k : Nat) (hk : k ≤ 1000000) : (binOp .add 3 (.int .i64 (k : Int)) (.int .i64 1)).run Tryd.prog W = .ok (.int .i64 ((k + 1 : Nat) : Int)) W := by
  have e : IntKind.i64.wrap ((k : Int) + 1) = (k : Int) + 1 := IntWalk.i64_in _ (by omega)
  simp [go_sem, e]
theorem run_dig (W : World) (a : Nat) (ha : a < 16) : (Instr.sliceAt 9 (.string ⟨digs⟩) (some (.int .i64 (a : Int))) (some (.int .i64 ((a + 1 : Nat) : Int))) none).run Tryd.prog W = .ok (.string (dig a)) W := by
  have h := digs_at ⟨a, ha⟩
  have hs : (⟨digs⟩ : ByteArray).size = 16 := rfl
  have h1 : (a : Int) + 1 ≤ 16 := by omega
  have h2 : (a : Int) ≤ (a : Int) + 1 := by omega
  simp [go_sem, hs, h1, h2, h]
theorem run_cat (W : World) (a b : Nat) : (binOp .add 9 (.string (dig a)) (.string (dig b))).run Tryd.prog W = .ok (.string ⟨#[hexD (UInt8.ofNat a), hexD (UInt8.ofNat b)]⟩) W := by
  have h : dig a ++ dig b = ⟨#[hexD (UInt8.ofNat a), hexD (UInt8.ofNat b)]⟩ := by unfold dig; exact ByteArray.ext rfl
  have hs : (dig a).size = 1 := rfl
  have hs2 : (dig b).size = 1 := rfl
  simp [go_sem, h, hs, hs2]

set_option maxRecDepth 100000 in
set_option maxHeartbeats 4000000 in
theorem two_any (w : World) (c : Nat) (hc : c < 256) : Calls Tryd.prog 20 #[.int .i64 (c : Int)] w fun e w' => e = .returned (SV (twoL c)) ∧ Below w.heap.size w w' := by
  have HQ := Lib.hid fun W => run_quo W c hc
  have HR := Lib.hid fun W => run_rem W c hc
  unfold SV twoL
  obtain ⟨a, ha⟩ : ∃ a, a = c / 16 := ⟨_, rfl⟩
  obtain ⟨b, hb⟩ : ∃ b, b = c % 16 := ⟨_, rfl⟩
  have ha16 : a < 16 := by omega
  have hb16 : b < 16 := by omega
  rw [← ha] at HQ ⊢
  rw [← hb] at HR ⊢
  clear ha hb
  have HA := Lib.hid fun W => run_dig W a ha16
  have HB := Lib.hid fun W => run_dig W b hb16
  have HA1 := Lib.hid fun W => run_inc W a (by omega)
  have HB1 := Lib.hid fun W => run_inc W b (by omega)
  go_enter Tryd.func20, Tryd.ntmps20
  go_wp2_with fail
  refine AnyB.start (by kernel_rfl) ?_
  have LL : Hid (Below w.heap.size w w.drew) := Lib.hid (Below.refl _ _).drew
  refine AnyB.take 0 (.string ⟨digs⟩) rfl (by kernel_rfl) (by kernel_rfl) (by kernel_rfl) (fun _ _ _ h => h) (by kernel_rfl) (fun W hW => by kernel_rfl) ?_
  refine AnyB.take 1 (.int .i64 (c : Int)) rfl (by kernel_rfl) (by kernel_rfl) (by kernel_rfl) (fun _ _ _ h => h) (by kernel_rfl) (fun W hW => by kernel_rfl) ?_
  refine AnyB.take 2 (.int .i64 (a : Int)) rfl (by kernel_rfl) (by kernel_rfl) (by kernel_rfl) (fun _ _ _ h => h) (by kernel_rfl) (fun W hW => y_bin (x := .int .i64 (c : Int)) (y := .int .i64 16) rfl (by kernel_rfl) (by kernel_rfl) rfl (HQ.out W)) ?_
  refine AnyB.take 3 (.int .i64 (c : Int)) rfl (by kernel_rfl) (by kernel_rfl) (by kernel_rfl) (fun _ _ _ h => h) (by kernel_rfl) (fun W hW => by kernel_rfl) ?_
  refine AnyB.take 4 (.int .i64 (a : Int)) rfl (by kernel_rfl) (by kernel_rfl) (by kernel_rfl) (fun _ _ _ h => h) (by kernel_rfl) (fun W hW => y_bin (x := .int .i64 (c : Int)) (y := .int .i64 16) rfl (by kernel_rfl) (by kernel_rfl) rfl (HQ.out W)) ?_
  refine AnyB.take 5 (.int .i64 ((a + 1 : Nat) : Int)) rfl (by kernel_rfl) (by kernel_rfl) (by kernel_rfl) (fun _ _ _ h => h) (by kernel_rfl) (fun W hW => y_bin (x := .int .i64 (a : Int)) (y := .int .i64 1) rfl (by kernel_rfl) (by kernel_rfl) rfl (HA1.out W)) ?_
  refine AnyB.take 6 (.string (dig a)) rfl (by kernel_rfl) (by kernel_rfl) (by kernel_rfl) (fun _ _ _ h => h) (by kernel_rfl) (fun W hW => y_slice (xv := .string ⟨digs⟩) (lv := some (.int .i64 (a : Int))) (hv := some (.int .i64 ((a + 1 : Nat) : Int))) (mv := none) rfl (by kernel_rfl) (by kernel_rfl) (by kernel_rfl) rfl (HA.out W)) ?_
  refine AnyB.take 7 (.string ⟨digs⟩) rfl (by kernel_rfl) (by kernel_rfl) (by kernel_rfl) (fun _ _ _ h => h) (by kernel_rfl) (fun W hW => by kernel_rfl) ?_
  refine AnyB.take 8 (.int .i64 (c : Int)) rfl (by kernel_rfl) (by kernel_rfl) (by kernel_rfl) (fun _ _ _ h => h) (by kernel_rfl) (fun W hW => by kernel_rfl) ?_
  refine AnyB.take 9 (.int .i64 (b : Int)) rfl (by kernel_rfl) (by kernel_rfl) (by kernel_rfl) (fun _ _ _ h => h) (by kernel_rfl) (fun W hW => y_bin (x := .int .i64 (c : Int)) (y := .int .i64 16) rfl (by kernel_rfl) (by kernel_rfl) rfl (HR.out W)) ?_
  refine AnyB.take 10 (.int .i64 (c : Int)) rfl (by kernel_rfl) (by kernel_rfl) (by kernel_rfl) (fun _ _ _ h => h) (by kernel_rfl) (fun W hW => by kernel_rfl) ?_
  refine AnyB.take 11 (.int .i64 (b : Int)) rfl (by kernel_rfl) (by kernel_rfl) (by kernel_rfl) (fun _ _ _ h => h) (by kernel_rfl) (fun W hW => y_bin (x := .int .i64 (c : Int)) (y := .int .i64 16) rfl (by kernel_rfl) (by kernel_rfl) rfl (HR.out W)) ?_
  refine AnyB.take 12 (.int .i64 ((b + 1 : Nat) : Int)) rfl (by kernel_rfl) (by kernel_rfl) (by kernel_rfl) (fun _ _ _ h => h) (by kernel_rfl) (fun W hW => y_bin (x := .int .i64 (b : Int)) (y := .int .i64 1) rfl (by kernel_rfl) (by kernel_rfl) rfl (HB1.out W)) ?_
  refine AnyB.take 13 (.string (dig b)) rfl (by kernel_rfl) (by kernel_rfl) (by kernel_rfl) (fun _ _ _ h => h) (by kernel_rfl) (fun W hW => y_slice (xv := .string ⟨digs⟩) (lv := some (.int .i64 (b : Int))) (hv := some (.int .i64 ((b + 1 : Nat) : Int))) (mv := none) rfl (by kernel_rfl) (by kernel_rfl) (by kernel_rfl) rfl (HB.out W)) ?_
  refine AnyB.take 14 (.string ⟨#[hexD (UInt8.ofNat a), hexD (UInt8.ofNat b)]⟩) rfl (by kernel_rfl) (by kernel_rfl) (by kernel_rfl) (fun _ _ _ h => h) (by kernel_rfl) (fun W hW => y_bin (x := .string (dig a)) (y := .string (dig b)) rfl (by kernel_rfl) (by kernel_rfl) rfl (run_cat W a b)) ?_
  refine AnyB.take 15 (.string ⟨#[hexD (UInt8.ofNat a), hexD (UInt8.ofNat b)]⟩) rfl (by kernel_rfl) (by kernel_rfl) (by kernel_rfl) (fun _ _ _ h => h) (by kernel_rfl) (fun W hW => by kernel_rfl) ?_
  refine AnyB.done _ (by kernel_rfl) ?_
  go_simp
  go_wp2
  go_ret
  exact ⟨rfl, LL.out⟩
end Go.Proofs.YtdjmcehoaneekaaDoor.Ix
