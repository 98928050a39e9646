/-
  DigestTells, walked.
-/
import Derived.Test.YtjbagoedaelmnaaDoorTold
namespace Go.Proofs.YtjbagoedaelmnaaDoor
open Go Go.ChangeShapes Go.WideShapes Go.RowKit

theorem string_of {W : World} {r : Reach} {b0 : Nat} {v : Value} (hval : Value.okWide Tryd.prog W r b0 9 v) : ∃ l : List UInt8, l.length ≤ maxLen ∧ v = SV l := by
  obtain ⟨s, rfl⟩ := okWide_string Tryd.underlying9 hval
  have h2 : IntKind.i64.max = 9223372036854775807 := rfl
  have h3 : (s.size : Int) ≤ IntKind.i64.max := by simpa [Value.okWide, Cell.okWide, Cell.ok, Tryd.underlying9] using hval
  refine ⟨s.data.toList, ?_, rfl⟩
  have h4 : s.data.toList.length = s.size := rfl
  unfold maxLen
  omega

set_option maxRecDepth 100000 in
set_option maxHeartbeats 2000000 in
theorem Tells_law (w : World) (hp : Pr w) (v : Value) (l : List UInt8) (hl : l.length ≤ maxLen) (hr : Rb w v l) (s : List UInt8) (hs : s.length ≤ maxLen) :
    Calls Tryd.prog 3 #[v, SV s] w fun e w' => e = .returned (.bool true) ∧ Below w.heap.size w w' := by
  unfold maxLen at hl hs
  obtain ⟨A, ca, rfl⟩ := hr.shape
  unfold SV
  have HH := Lib.hid (head_any w hp)
  by_cases h1 : 20000 < l.length
  · clear hp hr
    go_enter Tryd.func3, Tryd.ntmps3
    go_wp2_with fail
    refine HH.out.mono ?_
    rintro e w1 ⟨rfl, l1⟩
    go_wp2
    go_ret
    exact ⟨rfl, l1⟩
  by_cases h2 : 3000 < s.length
  · clear hp hr
    go_enter Tryd.func3, Tryd.ntmps3
    go_wp2_with fail
    refine HH.out.mono ?_
    rintro e w1 ⟨rfl, l1⟩
    go_wp2
    go_ret
    exact ⟨rfl, l1⟩
  obtain ⟨S, nm, -, -, hT⟩ := told w w _ l hp (Below.refl _ _) (by omega) hr
  have e1 := hT.eq
  have TT := Lib.hid hT
  obtain ⟨bn, hbn⟩ : ∃ bn, bn = namedB s := ⟨_, rfl⟩
  have HN : Hid (∀ W : World, Calls Tryd.prog 14 #[.string ⟨s.toArray⟩] W fun e w' => e = .returned (.bool bn) ∧ W = w') := Lib.hid fun W => by have := Named_any s W (by unfold maxLen; omega); rw [← hbn] at this; exact this
  have HR : Hid (∀ W : World, Calls Tryd.prog 15 #[.string ⟨s.toArray⟩] W fun e w' => e = .returned (.bool bn) ∧ W = w') := Lib.hid fun W => by have := RNamed_any s W (by unfold maxLen; omega); rw [← hbn] at this; exact this
  have l0 := Below.refl w.heap.size w
  clear hT hp hr hbn
  go_enter Tryd.func3, Tryd.ntmps3
  go_wp2_with fail
  refine HH.out.mono ?_
  rintro e w1 ⟨rfl, l1⟩
  clear HH
  go_wp2_with (first
    | ((with_reducible refine (TT.out.sum _ (by assumption)).mono ?_); rintro e w5 ⟨rfl, l5⟩)
    | ((with_reducible refine (TT.out.rsum _ (by assumption)).mono ?_); rintro e w6 ⟨rfl, l6⟩)
    | ((with_reducible refine (TT.out.name _ (by assumption)).mono ?_); rintro e w7 ⟨rfl, l7⟩)
    | ((with_reducible refine (TT.out.rname _ (by assumption)).mono ?_); rintro e w8 ⟨rfl, l8⟩)
    | ((with_reducible refine (HN.out _).mono ?_); rintro e w9 ⟨rfl, rfl⟩)
    | ((with_reducible refine (HR.out _).mono ?_); rintro e w10 ⟨rfl, rfl⟩))
  go_ret
  first
    | exact ⟨rfl, l8⟩
    | exact ⟨by simp, l8⟩
end Go.Proofs.YtjbagoedaelmnaaDoor
