/-
  fits, whole, Get.
-/
import Derived.Test.YtbgnemephcbgeaaOrd
import Derived.Lib.MinMax
namespace Go.Proofs.Ytbgnemephcbgeaa
open Go Go.RowKit

def fitsB (n : Int) : Bool := decide (0 ≤ n) && decide (n ≤ 1099511627776)

set_option maxHeartbeats 400000 in
theorem fits_any (n : Int) (w : World) : Calls Try.prog 35 #[.int .i64 n] w fun e w' => e = .returned (.bool (fitsB n)) ∧ w = w' := by
  unfold fitsB
  go_enter Try.func35, Try.ntmps35
  go_wp2
  all_goals (go_ret; refine ⟨ret_bool ?_, rfl⟩; first | rfl | (rw [Bool.eq_iff_iff]; simp; done) | (rw [Bool.eq_iff_iff]; simp; omega) | (simp; omega))

/-- What Get answers. -/
def gN (r : Option (Nat × Nat)) : Nat := match r with | some x => x.1 | none => 0
def gK (r : Option (Nat × Nat)) : Nat := match r with | some x => x.2 | none => 0
def gotV (r : Option (Nat × Nat)) : Value := .tuple #[.int .i64 (gN r : Int), .int .i64 (gK r : Int), .bool r.isSome]
theorem gotV_some (n k : Nat) : gotV (some (n, k)) = .tuple #[.int .i64 (n : Int), .int .i64 (k : Int), .bool true] := rfl
theorem gotV_none : gotV none = .tuple #[.int .i64 0, .int .i64 0, .bool false] := rfl

set_option maxHeartbeats 400000 in
theorem whole_any (n d h : Nat) (hn : n ≤ 9223372036854775807) (hd : d ≤ 5) (hh : h < 128) (w : World) :
    Calls Try.prog 56 #[.int .i64 (n : Int), .int .i64 ((d : Int) + 1), .int .i64 (h : Int)] w fun e w' =>
      e = .returned (gotV (if (h = 0 ∧ 0 < d) ∨ 1099511627776 < n then none else some (n, d + 1))) ∧ w = w' := by
  have HF := Lib.hid (fits_any (n : Int))
  by_cases h1 : h = 0 ∧ 0 < d
  · obtain ⟨rfl, h1⟩ := h1
    rw [if_pos (.inl ⟨rfl, h1⟩), gotV_none]
    go_enter Try.func56, Try.ntmps56
    go_wp2_with fail
    go_ret3
    exact ⟨rfl, rfl⟩
  · by_cases h2 : 1099511627776 < n
    · rw [if_pos (.inr h2), gotV_none]
      have hf : fitsB (n : Int) = false := by unfold fitsB; simp; omega
      rw [hf] at HF
      by_cases h3 : h = 0
      · have h4 : ¬ 0 < d := fun h => h1 ⟨h3, h⟩
        subst h3
        clear h1 hf 
        go_enter Try.func56, Try.ntmps56
        go_wp2_with ((with_reducible refine (HF.out _).mono ?_); rintro e w' ⟨rfl, rfl⟩)
        go_ret3
        exact ⟨rfl, rfl⟩
      · clear h1 hf 
        have h5 : 0 < h := by omega
        go_enter Try.func56, Try.ntmps56
        go_wp2_with ((with_reducible refine (HF.out _).mono ?_); rintro e w' ⟨rfl, rfl⟩)
        go_ret3
        exact ⟨rfl, rfl⟩
    · rw [if_neg (by omega), gotV_some]
      have hf : fitsB (n : Int) = true := by unfold fitsB; simp; omega
      rw [hf] at HF
      by_cases h3 : h = 0
      · have h4 : ¬ 0 < d := fun h => h1 ⟨h3, h⟩
        subst h3
        clear h1 hf 
        go_enter Try.func56, Try.ntmps56
        go_wp2_with ((with_reducible refine (HF.out _).mono ?_); rintro e w' ⟨rfl, rfl⟩)
        go_ret3
        exact ⟨rfl, rfl⟩
      · clear h1 hf 
        have h5 : 0 < h := by omega
        go_enter Try.func56, Try.ntmps56
        go_wp2_with ((with_reducible refine (HF.out _).mono ?_); rintro e w' ⟨rfl, rfl⟩)
        go_ret3
        exact ⟨rfl, rfl⟩
end Go.Proofs.Ytbgnemephcbgeaa
