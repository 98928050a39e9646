/-
  head: a live question, whose answer is fixed.
-/
import Derived.Test.YtfafndehkhgmjaaDoorRPut
import Derived.Test.YtfafndehkhgmjaaDoorRGet
import Derived.Test.YtfafndehkhgmjaaDoorRText
import Derived.Test.YtfafndehkhgmjaaDoorRDecimal
namespace Go.Proofs.YtfafndehkhgmjaaDoor
open Go Go.RowKit

theorem put300 : putI 300 = [172, 2] := by
  rw [show (300 : Int) = ((300 : Nat) : Int) from rfl, putI_nat (by decide), putL_hi (by decide), putL_lo (by decide)]; rfl
theorem put_neg : putI (-1) = [] := putI_none (by decide)
theorem get300 : getL [172, 2, 9] = some (300, 2) := by decide
theorem get_long : getL [128, 0] = none := by decide
theorem dd120 : Lib.decDigits 120 = [49, 50, 48] := by rw [dd_hi (by decide), dd_hi (by decide), dd_lo (by decide)]; rfl
theorem dec120 : decL [49, 50, 48] = some 120 := by rw [← dd120]; exact decL_dd (by decide)
theorem dec012 : decL [48, 49, 50] = none := decL_nought (by decide) rfl
theorem text0 : textL 0 = [48] := by rw [show (0 : Int) = ((0 : Nat) : Int) from rfl, textL_nat, dd_zero]

theorem lit3 (W : World) : Rb (W.alloc (.cells #[.int .u8 172, .int .u8 2, .int .u8 9] 5)) (.slice (some ⟨W.heap.size, 0, none⟩) 3 3) [172, 2, 9] :=
  .inr ⟨W.heap.size, 0, 3, rfl, Nat.le_refl _, by simp, fun j hj => by
    rw [Nat.zero_add, cell_of_row (W.alloc _) W.heap.size j _ _ _ (heap_alloc_new W _)]
    match j, hj with
    | 0, _ => rfl
    | 1, _ => rfl
    | 2, _ => rfl⟩
theorem lit2 (W : World) : Rb (W.alloc (.cells #[.int .u8 128, .int .u8 0] 5)) (.slice (some ⟨W.heap.size, 0, none⟩) 2 2) [128, 0] :=
  .inr ⟨W.heap.size, 0, 2, rfl, Nat.le_refl _, by simp, fun j hj => by
    rw [Nat.zero_add, cell_of_row (W.alloc _) W.heap.size j _ _ _ (heap_alloc_new W _)]
    match j, hj with
    | 0, _ => rfl
    | 1, _ => rfl⟩
theorem hPut300 (W : World) : Calls Tryd.prog 13 #[.int .i64 300] W fun e w' => ∃ g o c, e = .returned (.slice (some ⟨g, o, none⟩) 2 c) ∧ g < w'.heap.size ∧ w'.cell? ⟨g, o, none⟩ = some (.int .u8 172) ∧ w'.cell? ⟨g, o + 1, none⟩ = some (.int .u8 2) ∧ Below W.heap.size W w' := by
  have h := Put_any 300 W
  rw [put300] at h
  refine h.mono ?_
  rintro e w' ⟨A, c, rfl, hr, hb⟩
  rcases hr with ⟨_, h⟩ | ⟨g, o, cc, hv, _, hg, hc⟩
  · cases h
  simp only [Value.slice.injEq] at hv
  obtain ⟨rfl, _, rfl⟩ := hv
  exact ⟨g, o, c, rfl, hg, hc 0 (by decide), hc 1 (by decide), hb⟩
theorem hPutNeg (W : World) : Calls Tryd.prog 13 #[.int .i64 (-1)] W fun e w' => ∃ A c, e = .returned (.slice A 0 c) ∧ Below W.heap.size W w' := by
  have h := Put_any (-1) W
  rw [put_neg] at h
  refine h.mono ?_
  rintro e w' ⟨A, c, rfl, _, hb⟩
  exact ⟨A, c, rfl, hb⟩
theorem hText0 (W : World) (hW : Pr W) : Calls Tryd.prog 15 #[.int .i64 0] W fun e w' => e = .returned (.string ⟨#[48]⟩) ∧ Below W.heap.size W w' := by
  have h := Text_any 0 (by decide) (by decide) W hW
  rw [text0] at h
  exact h
theorem hGet3 (W : World) : Calls Tryd.prog 9 #[.slice (some ⟨W.heap.size, 0, none⟩) 3 3] (W.alloc (.cells #[.int .u8 172, .int .u8 2, .int .u8 9] 5)) fun e w' => e = .returned (.tuple #[.int .i64 300, .int .i64 2, .bool true]) ∧ (W.alloc (.cells #[.int .u8 172, .int .u8 2, .int .u8 9] 5)) = w' := by
  have h := Get_any _ _ [172, 2, 9] (by decide) (lit3 W)
  rw [get300, gotV_some] at h
  exact h
theorem hGet2 (W : World) (g : Nat) (hg : W.heap.size = g) : Calls Tryd.prog 9 #[.slice (some ⟨g, 0, none⟩) 2 2] (W.alloc (.cells #[.int .u8 128, .int .u8 0] 5)) fun e w' => e = .returned (.tuple #[.int .i64 0, .int .i64 0, .bool false]) ∧ (W.alloc (.cells #[.int .u8 128, .int .u8 0] 5)) = w' := by
  subst hg
  have h := Get_any _ _ [128, 0] (by decide) (lit2 W)
  rw [get_long, gotV_none] at h
  exact h
theorem hDec120 (W : World) (hW : Pr W) : Calls Tryd.prog 11 #[.string ⟨#[49, 50, 48]⟩] W fun e w' => e = .returned (.tuple #[.int .i64 120, .bool true]) ∧ Below W.heap.size W w' := by
  have h := Decimal_any [49, 50, 48] (by decide) W hW
  rw [dec120, decV_some] at h
  exact h
theorem hDec012 (W : World) (hW : Pr W) : Calls Tryd.prog 11 #[.string ⟨#[48, 49, 50]⟩] W fun e w' => e = .returned (.tuple #[.int .i64 0, .bool false]) ∧ Below W.heap.size W w' := by
  have h := Decimal_any [48, 49, 50] (by decide) W hW
  rw [dec012, decV_none] at h
  exact h

set_option maxRecDepth 100000 in
set_option maxHeartbeats 1000000 in
theorem head_any (w : World) (hp : Pr w) : Calls Tryd.prog 8 #[] w fun e w' => e = .returned (.bool true) ∧ Below w.heap.size w w' := by
  have Hp := Lib.hid hp
  clear hp
  go_enter Tryd.func8, Tryd.ntmps8
  go_wp2_with fail
  refine (hPut300 _).mono ?_
  rintro e w1 ⟨g, o, c, rfl, hg, c0, c1, l1⟩
  have L1 := Lib.hid l1; have C0 := Lib.hid c0; have C1 := Lib.hid c1
  clear l1 c0 c1
  go_wp2_with fail
  refine (hGet3 _).mono ?_
  rintro e w2 ⟨rfl, rfl⟩
  go_wp2_with fail
  refine (hGet2 _ _ (by simp)).mono ?_
  rintro e w3 ⟨rfl, rfl⟩
  have l4 := (below_new w1 (.cells #[.int .u8 172, .int .u8 2, .int .u8 9] 5)).trans ((below_new (w1.alloc (.cells #[.int .u8 172, .int .u8 2, .int .u8 9] 5)) (.cells #[.int .u8 128, .int .u8 0] 5)).mono (by simp))
  obtain ⟨w4, hw4⟩ : ∃ w4, w4 = (w1.alloc (.cells #[.int .u8 172, .int .u8 2, .int .u8 9] 5)).alloc (.cells #[.int .u8 128, .int .u8 0] 5) := ⟨_, rfl⟩
  rw [← hw4] at l4 ⊢
  have L4 := Lib.hid l4
  clear hw4 l4
  go_wp2_with fail
  refine (hDec120 _ (Hp.out.below (L1.out.trans (L4.out.mono L1.out.size)))).mono ?_
  rintro e w5 ⟨rfl, l5⟩
  have L5 := Lib.hid (L4.out.trans (l5.mono L4.out.size))
  clear L4 l5
  go_wp2_with fail
  refine (hDec012 _ (Hp.out.below (L1.out.trans (L5.out.mono L1.out.size)))).mono ?_
  rintro e w6 ⟨rfl, l6⟩
  have L6 := Lib.hid (L5.out.trans (l6.mono L5.out.size))
  clear L5 l6
  have c0 : w6.cell? ⟨g, o, none⟩ = some (.int .u8 172) := (L6.out.cell (p := ⟨g, o, none⟩) hg).trans C0.out
  have c1 : w6.cell? ⟨g, o + 1, none⟩ = some (.int .u8 2) := (L6.out.cell (p := ⟨g, o + 1, none⟩) hg).trans C1.out
  have P6 := Lib.hid (Hp.out.below (L1.out.trans (L6.out.mono L1.out.size)))
  clear hg
  go_wp2_with fail
  refine (hText0 _ P6.out).mono ?_
  rintro e w7 ⟨rfl, l7⟩
  have L7 := Lib.hid ((L1.out.trans (L6.out.mono L1.out.size)).trans (l7.mono (L1.out.trans (L6.out.mono L1.out.size)).size))
  clear l7 c0 c1
  go_wp2_with fail
  refine (hPutNeg _).mono ?_
  rintro e w8 ⟨A8, c8, rfl, l8⟩
  have L8 := Lib.hid (L7.out.trans (l8.mono L7.out.size))
  clear l8
  go_wp2
  go_ret
  exact ⟨rfl, L8.out⟩
end Go.Proofs.YtfafndehkhgmjaaDoor
