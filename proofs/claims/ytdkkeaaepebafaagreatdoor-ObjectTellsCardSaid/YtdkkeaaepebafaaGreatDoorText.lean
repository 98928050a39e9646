/-
  A number's decimals; what an item is called in an error.
-/
import Derived.Test.YtdkkeaaepebafaaGreatDoorCheck
import Derived.Test.YtdkkeaaepebafaaGreatDoorLay
import Derived.Lib.ItoaMem
import Derived.Lib.ItoaNum
import Derived.Lib.LaidTab
import Derived.Lib.AppendIntMem
namespace Go.Proofs.YtdkkeaaepebafaaGreatDoor
open Go Go.RowKit

/-- The table of the powers of ten. -/
def Tb (w : World) : Prop := Lib.TabIs Tryz.prog w "internal/strconv.uint64pow10" .u64 Lib.pow10Tab
theorem Tb.below {w w' : World} (h : Tb w) (hb : Below w.heap.size w w') : Tb w' := by
  have hg : Tryz.prog.globalNamed "internal/strconv.uint64pow10" = some 5 := by kernel_rfl
  have hlt : 5 < w.heap.size := World.block_lt_of_cell? w _ (Lib.TabIs.cell h hg 0 (by rw [Lib.pow10Tab_length]; decide))
  unfold Tb Lib.TabIs World.var? at h ⊢
  rw [hg] at h ⊢
  simp only [Option.bind_some] at h ⊢
  rw [hb.block _ hlt]
  exact h

theorem dd_lo {u : Nat} (h : u < 10) : Lib.decDigits u = [UInt8.ofNat (48 + u)] := by rw [Lib.decDigits, dif_pos h]
theorem dd_hi {u : Nat} (h : 10 ≤ u) : Lib.decDigits u = Lib.decDigits (u / 10) ++ [UInt8.ofNat (48 + u % 10)] := by rw [Lib.decDigits, dif_neg (by omega)]
theorem nd_len : ∀ (k u : Nat), u < 10 ^ (k + 1) → Lib.nDigits u ≤ k + 1
  | k, u, h => by
    by_cases hu : u < 10
    · rw [Lib.nDigits_small hu]; omega
    · rw [Lib.nDigits_big hu]
      cases k with
      | zero => rw [Nat.pow_one] at h; omega
      | succ k =>
        rw [Nat.pow_succ] at h
        have := nd_len k (u / 10) (by omega)
        omega
theorem dd_zero : Lib.decDigits 0 = [48] := by rw [dd_lo (by omega)]; rfl
theorem byte_of {n : Nat} (h : n < 256) : ((UInt8.ofNat n).toNat : Int) = (n : Int) := by rw [UInt8.toNat_ofNat']; omega

/-- A number's decimals; nothing below 0. -/
def textL (n : Int) : List UInt8 := if n < 0 then [] else Lib.decDigits n.toNat
theorem textL_nat (n : Nat) : textL (n : Int) = Lib.decDigits n := by unfold textL; rw [if_neg (by omega), Int.toNat_natCast]
theorem textL_mode {m : Int} (h1 : 1 ≤ m) (h2 : m ≤ 3) : textL m = [UInt8.ofNat (48 + m.toNat)] := by
  obtain ⟨k, rfl⟩ := Int.eq_ofNat_of_zero_le (show 0 ≤ m by omega)
  rw [textL_nat, dd_lo (by omega), Int.toNat_natCast]
theorem textL_len {n : Int} (h : n ≤ 9223372036854775807) : (textL n).length ≤ 20 := by
  unfold textL
  by_cases h0 : n < 0
  · rw [if_pos h0]; simp
  · rw [if_neg h0, Lib.decDigits_length]
    exact nd_len 19 n.toNat (by omega)

set_option maxHeartbeats 400000 in
theorem Text_any (n : Int) (h0 : -9223372036854775808 ≤ n) (h1 : n ≤ 9223372036854775807) (w : World) (hp : Tb w) :
    Calls Tryz.prog 64 #[.int .i64 n] w fun e w' => e = .returned (SV (textL n)) ∧ Below w.heap.size w w' := by
  have HI := Lib.hid (Any.strconv_Itoa Tryz.itoaA n h0 h1 w hp)
  clear hp
  by_cases h : n < 0
  · rw [show textL n = [] from if_pos h]
    unfold SV
    clear HI
    go_enter Tryz.func64, Tryz.ntmps64
    go_wp2
    go_ret
    exact ⟨rfl, Below.refl _ _⟩
  · have HT : Hid (Lib.itoa n = textL n) := Lib.hid (by unfold textL Lib.itoa; rw [if_neg h, if_neg h])
    rw [HT.out] at HI
    generalize textL n = t at HI ⊢
    clear HT
    unfold SV
    go_enter Tryz.func64, Tryz.ntmps64
    go_wp2_with fail
    refine HI.out.mono ?_
    rintro e w' ⟨rfl, k, os, rfl⟩
    go_wp2
    go_ret
    exact ⟨rfl, Lib.below_grow _ _ (Nat.le_refl _) _ _⟩

set_option maxHeartbeats 400000 in
theorem item_any (n : Nat) (h1 : n ≤ 1000000) (w : World) (hp : Tb w) :
    Calls Tryz.prog 71 #[.int .i64 (n : Int)] w fun e w' => (∃ s, e = .returned (.string s)) ∧ Below w.heap.size w w' := by
  have HT := Lib.hid (Text_any n (by omega) (by omega) w hp)
  have hl := textL_len (n := (n : Int)) (by omega)
  generalize textL (n : Int) = t at HT hl
  unfold SV at HT
  clear hp
  go_enter Tryz.func71, Tryz.ntmps71
  go_wp2_with fail
  refine HT.out.mono ?_
  rintro e w' ⟨rfl, l⟩
  go_wp2
  go_ret
  exact ⟨⟨_, rfl⟩, l⟩
end Go.Proofs.YtdkkeaaepebafaaGreatDoor
