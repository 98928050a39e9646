/-
  strings.Cut at one byte.
-/
import Derived.Test.YtfnepffccenebaaGreatDoorBase
import Derived.Test.YtfnepffccenebaaGreatDoorFault
import Derived.Deep.QuietTactic
import Derived.BigQuiet
import Derived.IntWalk
import Derived.Shelf.Abstract
import Derived.Test.YtfnepffccenebaaGreatDoorDNamed
import Derived.Test.YtfnepffccenebaaGreatDoorLay
namespace Go.Proofs.YtfnepffccenebaaGreatDoor
open Go Go.RowKit Go.Shelf
theorem ixb_none (c : UInt8) : ∀ s : List UInt8, cutAt c s = none → Lib.indexByte s c = -1
  | [], _ => rfl
  | x :: s, h => by
    rw [cutAt] at h
    by_cases hx : x = c
    · rw [if_pos hx] at h; cases h
    · rw [if_neg hx, Option.map_eq_none_iff] at h
      rw [Lib.indexByte, if_neg (by simpa using hx), ixb_none c s h]; rfl
theorem ixb_some (c : UInt8) : ∀ (s a r : List UInt8), cutAt c s = some (a, r) → Lib.indexByte s c = (a.length : Int)
  | [], _, _, h => by cases h
  | x :: s, a, r, h => by
    rw [cutAt] at h
    by_cases hx : x = c
    · rw [if_pos hx] at h
      simp only [Option.some.injEq, Prod.mk.injEq] at h
      obtain ⟨rfl, rfl⟩ := h
      rw [Lib.indexByte, if_pos (by simpa using hx)]; rfl
    · rw [if_neg hx] at h
      obtain ⟨⟨a', r'⟩, h1, h2⟩ := Option.map_eq_some_iff.1 h
      simp only [Prod.mk.injEq] at h2
      obtain ⟨rfl, rfl⟩ := h2
      have ih := ixb_some c s a' r' h1
      rw [Lib.indexByte, if_neg (by simpa using hx), ih, if_neg (by simp)]
      simp
set_option maxRecDepth 100000 in
set_option maxHeartbeats 2000000 in
theorem Index_any (s : List UInt8) (c : UInt8) (w : World) : Calls Tryz.prog 90 #[.string ⟨s.toArray⟩, .string ⟨#[c]⟩] w fun e w' => e = .returned (.int .i64 (Lib.indexByte s c)) ∧ w = w' := by
  by_cases hs : s = [c]
  · subst hs
    rw [show Lib.indexByte [c] c = 0 by unfold Lib.indexByte; simp]
    go_enter Tryz.func90, Tryz.ntmps90
    go_wp2_with fail
    go_ret
    exact ⟨rfl, rfl⟩
  have b1 : ([c] == s) = false := by rw [beq_eq_false_iff_ne]; exact fun e => hs e.symm
  clear hs
  have h := Any.stringslite_IndexByte Tryz.ixbA ⟨s.toArray⟩ (c.toNat : Int) w
  have ec : ((c.toNat : Int).toNat).toUInt8 = c := UInt8.toNat_inj.1 (by have := c.toNat_lt; simp)
  rw [ec] at h
  have H := Lib.hid h
  clear h ec
  go_enter Tryz.func90, Tryz.ntmps90
  go_wp2_with fail
  refine H.out.mono ?_
  rintro e w' ⟨rfl, rfl⟩
  go_wp2_with fail
  go_ret
  exact ⟨rfl, rfl⟩
/-- What Cut answers. -/
def cutV (s : List UInt8) (o : Option (List UInt8 × List UInt8)) : Value := match o with
  | some (a, r) => .tuple #[SV a, SV r, .bool true]
  | none => .tuple #[SV s, SV [], .bool false]
set_option maxRecDepth 100000 in
set_option maxHeartbeats 2000000 in
theorem cutLite_any (s : List UInt8) (hs : s.length ≤ 1000000) (c : UInt8) (w : World) : Calls Tryz.prog 70 #[.string ⟨s.toArray⟩, .string ⟨#[c]⟩] w fun e w' => e = .returned (cutV s (cutAt c s)) ∧ ∃ n, w' = w.drewN n := by
  have H := Lib.hid (Index_any s c w)
  cases hc : cutAt c s with
  | none =>
    have e := ixb_none c s hc
    rw [e] at H
    unfold cutV SV
    clear e hc
    go_enter Tryz.func70, Tryz.ntmps70
    go_wp2_with fail
    refine H.out.mono ?_
    rintro e w' ⟨rfl, rfl⟩
    go_wp2_with fail
    go_ret3
    exact ⟨rfl, 0, rfl⟩
  | some p =>
    obtain ⟨a, r⟩ := p
    have e := ixb_some c s a r hc
    obtain ⟨es, _⟩ := cutAt_some hc
    rw [e] at H
    unfold cutV SV
    have hl : a.length + 1 ≤ s.length := by rw [es]; simp
    have x1 : (⟨s.toArray⟩ : ByteArray).extract 0 a.length = ⟨a.toArray⟩ := by rw [extract_S, es, List.take_left]; rfl
    have x2 : (⟨s.toArray⟩ : ByteArray).extract (a.length + 1) s.length = ⟨r.toArray⟩ := by
      rw [extract_S, List.take_length, es, List.drop_append]; simp
    have e1 : IntKind.i64.wrap ((a.length : Int) + 1) = ((a.length + 1 : Nat) : Int) := by rw [IntWalk.i64_in _ (by omega)]; omega
    have p0 : 0 ≤ (a.length : Int) := by omega
    have p1 : (a.length : Int) ≤ (s.length : Int) := by omega
    have p2 : 0 ≤ ((a.length + 1 : Nat) : Int) := by omega
    have p3 : ((a.length + 1 : Nat) : Int) ≤ (s.length : Int) := by omega
    clear e hc es hs
    go_enter Tryz.func70, Tryz.ntmps70
    go_wp2_with fail
    refine H.out.mono ?_
    rintro e w' ⟨rfl, rfl⟩
    go_wp2_with fail
    go_region
    all_goals
      go_wp2_with fail
      go_ret3
      exact ⟨rfl, 1, rfl⟩
set_option maxHeartbeats 1000000 in
theorem Cut_any (s : List UInt8) (hs : s.length ≤ 1000000) (c : UInt8) (w : World) : Calls Tryz.prog 51 #[.string ⟨s.toArray⟩, .string ⟨#[c]⟩] w fun e w' => e = .returned (cutV s (cutAt c s)) ∧ ∃ n, w' = w.drewN n := by
  have H := Lib.hid (cutLite_any s hs c w)
  cases hc : cutAt c s with
  | none =>
    rw [hc] at H
    unfold cutV SV at H ⊢
    clear hc
    go_enter Tryz.func51, Tryz.ntmps51
    go_wp2_with fail
    refine H.out.mono ?_
    rintro e w' ⟨rfl, n, rfl⟩
    go_wp2_with fail
    go_ret3
    exact ⟨rfl, n, rfl⟩
  | some p =>
    obtain ⟨a, r⟩ := p
    rw [hc] at H
    unfold cutV SV at H ⊢
    clear hc
    go_enter Tryz.func51, Tryz.ntmps51
    go_wp2_with fail
    refine H.out.mono ?_
    rintro e w' ⟨rfl, n, rfl⟩
    go_wp2_with fail
    go_ret3
    exact ⟨rfl, n, rfl⟩
end Go.Proofs.YtfnepffccenebaaGreatDoor
