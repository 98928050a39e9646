/-
  DigestWords, walked.
-/
import Derived.Test.YtjbagoedaelmnaaDoorTold
namespace Go.Proofs.YtjbagoedaelmnaaDoor
open Go Go.RowKit

set_option maxRecDepth 100000 in
set_option maxHeartbeats 2000000 in
theorem Words_law (w : World) (hp : Pr w) (va : Value) (la : List UInt8) (hla : la.length ≤ maxLen) (hra : Rb w va la) (vb : Value) (lb : List UInt8) (hlb : lb.length ≤ maxLen) (hrb : Rb w vb lb) :
    Calls Tryd.prog 6 #[va, vb] w fun e w' => e = .returned (.bool true) ∧ Below w.heap.size w w' := by
  unfold maxLen at hla hlb
  obtain ⟨A, ca, rfl⟩ := hra.shape
  obtain ⟨B, cb, rfl⟩ := hrb.shape
  have HH := Lib.hid (head_any w hp)
  by_cases h1 : 9000 < la.length
  · clear hp hra hrb
    go_enter Tryd.func6, Tryd.ntmps6
    go_wp2_with fail
    refine HH.out.mono ?_
    rintro e w1 ⟨rfl, l1⟩
    go_wp2
    go_ret
    exact ⟨rfl, l1⟩
  by_cases h2 : 9000 < lb.length
  · clear hp hra hrb
    go_enter Tryd.func6, Tryd.ntmps6
    go_wp2_with fail
    refine HH.out.mono ?_
    rintro e w1 ⟨rfl, l1⟩
    go_wp2
    go_ret
    exact ⟨rfl, l1⟩
  have Hp := Lib.hid hp; have Ra := Lib.hid hra; have Rb0 := Lib.hid hrb
  clear hp hra hrb
  go_enter Tryd.func6, Tryd.ntmps6
  go_wp2_with fail
  refine HH.out.mono ?_
  rintro e w1 ⟨rfl, l1⟩
  have o0 : Hid (Ow (w1.alloc (.cells #[] 5)) w1.heap.size (.slice (some ⟨w1.heap.size, 0, none⟩) 0 0) []) := Lib.hid (Ow.new0 w1 _ (Nat.le_refl _))
  have Q0 : Hid (Rb (w1.alloc (.cells #[] 5)) (.slice A la.length ca) la) := Lib.hid (Ra.out.below (l1.alloc l1.size _) (Nat.le_refl _))
  have QL : Hid (([] : List UInt8).length + la.length ≤ 140737488355328) := Lib.hid (by simp; omega)
  have S0 : Hid (w1.heap.size ≤ (w1.alloc (.cells #[] 5)).heap.size) := Lib.hid (by simp)
  go_wp2_with (refine wpList_app (o := ⟨some 19, _, _, _, _, _⟩) rfl _ _ rfl w1.heap.size _ _ _ _ rfl rfl o0.out Q0.out QL.out S0.out ?_)
  intro v2 w2 o2 l2
  have l2' : Below w1.heap.size w1 w2 := ((Below.refl _ w1).alloc (Nat.le_refl _) _).trans l2
  have lw2 : Below w.heap.size w w2 := l1.trans (l2'.mono l1.size)
  have O2 : Hid (Ow w2 w1.heap.size v2 la) := Lib.hid o2
  have Q2 : Hid (Rb w2 (.slice B lb.length cb) lb) := Lib.hid (Rb0.out.below lw2 (Nat.le_refl _))
  have QL2 : Hid (la.length + lb.length ≤ 140737488355328) := Lib.hid (by omega)
  have S2 : Hid (w1.heap.size ≤ w2.heap.size) := Lib.hid l2'.size
  clear o0 Q0 QL S0 o2 l2 l2'
  have Lw2 := Lib.hid lw2
  clear lw2
  go_wp2_with (refine wpList_app (o := ⟨some 21, _, _, _, _, _⟩) rfl _ _ rfl w1.heap.size _ _ _ _ rfl rfl O2.out Q2.out QL2.out S2.out ?_)
  intro v3 w3 o3 l3
  have lw3 : Below w.heap.size w w3 := Lw2.out.trans (l3.mono l1.size)
  obtain ⟨S, nm, -, -, hT⟩ := told w w3 v3 (la ++ lb) Hp.out lw3 (by rw [List.length_append]; omega) o3.rb
  obtain ⟨SA, nmA, -, -, hTA⟩ := told w w3 _ la Hp.out lw3 (by omega) (Ra.out.below lw3 (Nat.le_refl _))
  obtain ⟨SB, nmB, -, -, hTB⟩ := told w w3 _ lb Hp.out lw3 (by omega) (Rb0.out.below lw3 (Nat.le_refl _))
  have e1 := hT.eq; have e2 := hTA.eq
  have TT := Lib.hid hT; have TA := Lib.hid hTA; have TB := Lib.hid hTB; have Lw3 := Lib.hid lw3
  clear hT hTA hTB lw3 l3 o3 O2 Q2 QL2 S2 Lw2 l1 Hp Ra Rb0 HH
  have l33 : Below w3.heap.size w3 w3 := Below.refl _ _
  go_wp2_with (first
    | ((with_reducible refine (TT.out.sum _ (by assumption)).mono ?_); rintro e w5 ⟨rfl, l5⟩)
    | ((with_reducible refine (TT.out.rsum _ (by assumption)).mono ?_); rintro e w6 ⟨rfl, l6⟩)
    | ((with_reducible refine (TA.out.sum _ (by assumption)).mono ?_); rintro e w7 ⟨rfl, l7⟩)
    | ((with_reducible refine (TA.out.rsum _ (by assumption)).mono ?_); rintro e w8 ⟨rfl, l8⟩)
    | ((with_reducible refine (TB.out.name _ (by assumption)).mono ?_); rintro e w9 ⟨rfl, l9⟩)
    | ((with_reducible refine (TB.out.rname _ (by assumption)).mono ?_); rintro e w10 ⟨rfl, l10⟩))
  go_ret
  exact ⟨rfl, Lw3.out.trans (l10.mono Lw3.out.size)⟩
end Go.Proofs.YtjbagoedaelmnaaDoor
