/-
  Text, the program's and the document's.
-/
import Derived.Test.YtfafndehkhgmjaaDoorPut
import Derived.Lib.ItoaMem
namespace Go.Proofs.YtfafndehkhgmjaaDoor
open Go Go.RowKit

/-- A number's decimals; nothing below 0. -/
def textL (n : Int) : List UInt8 := if n < 0 then [] else Lib.decDigits n.toNat
theorem textL_nat (n : Nat) : textL (n : Int) = Lib.decDigits n := by unfold textL; rw [if_neg (by omega), Int.toNat_natCast]

set_option maxHeartbeats 400000 in
theorem Text_any (n : Int) (h0 : -9223372036854775808 ≤ n) (h1 : n ≤ 9223372036854775807) (w : World) (hp : Pr w) :
    Calls Tryd.prog 15 #[.int .i64 n] w fun e w' => e = .returned (SV (textL n)) ∧ Below w.heap.size w w' := by
  have HI := Lib.hid (Any.strconv_Itoa Tryd.itoaA n h0 h1 w hp.tab)
  clear hp
  by_cases h : n < 0
  · rw [show textL n = [] from if_pos h]
    unfold SV
    clear HI
    go_enter Tryd.func15, Tryd.ntmps15
    go_wp2
    go_ret
    exact ⟨rfl, Below.refl _ _⟩
  · have HT : Hid (Lib.itoa n = textL n) := Lib.hid (by unfold textL Lib.itoa; rw [if_neg h, if_neg h])
    rw [HT.out] at HI
    generalize textL n = t at HI ⊢
    clear HT
    unfold SV
    go_enter Tryd.func15, Tryd.ntmps15
    go_wp2_with fail
    refine HI.out.mono ?_
    rintro e w' ⟨rfl, k, os, rfl⟩
    go_wp2
    go_ret
    exact ⟨rfl, Lib.below_grow _ _ (Nat.le_refl _) _ _⟩
end Go.Proofs.YtfafndehkhgmjaaDoor
