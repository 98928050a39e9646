/-
  Decimal.
-/
import Derived.Test.YtfafndehkhgmjaaDoorText
import Derived.Lib.AtoiAllCases
namespace Go.Proofs.YtfafndehkhgmjaaDoor
open Go Go.RowKit

def dN (r : Option Nat) : Nat := match r with | some n => n | none => 0
/-- What Decimal answers. -/
def decV (r : Option Nat) : Value := .tuple #[.int .i64 (dN r : Int), .bool r.isSome]
theorem decV_some (n : Nat) : decV (some n) = .tuple #[.int .i64 (n : Int), .bool true] := rfl
theorem decV_none : decV none = .tuple #[.int .i64 0, .bool false] := rfl

theorem decL_ok {s : List UInt8} {v : Int} (h : Lib.atoiAll s = .ok v) : decL s = if fitsB v = true ∧ textL v = s then some v.toNat else none := by
  unfold decL
  rw [h]
  by_cases hf : fitsB v = true
  · obtain ⟨a, b⟩ := (fitsB_iff v).1 hf
    have : textL v = Lib.decDigits v.toNat := by unfold textL; rw [if_neg (by omega)]
    rw [this]
    by_cases hs : Lib.decDigits v.toNat = s
    · rw [if_pos ⟨hf, hs⟩]
      exact if_pos ⟨a, b, hs⟩
    · rw [if_neg (fun h => hs h.2)]
      exact if_neg (fun h => hs h.2.2)
  · rw [if_neg (fun h => hf h.1)]
    exact if_neg (fun h => hf ((fitsB_iff v).2 ⟨h.1, h.2.1⟩))

set_option maxRecDepth 100000 in
set_option maxHeartbeats 1000000 in
theorem Decimal_any (s : List UInt8) (hs : s.length ≤ 1000000) (w : World) (hp : Pr w) :
    Calls Tryd.prog 11 #[SV s] w fun e w' => e = .returned (decV (decL s)) ∧ Below w.heap.size w w' := by
  unfold SV
  rcases ha : Lib.atoiAll s with v | _ | _
  · obtain ⟨b0, b1⟩ := Lib.atoiAll_bounds ha
    have HA := Lib.hid (Any.strconv_Atoi_ok Tryd.atoiA ⟨s.toArray⟩ (by show s.length ≤ _; omega) v ha w)
    rw [decL_ok ha]
    clear ha
    have HF := Lib.hid (fits_any v)
    have Hp := Lib.hid hp
    clear hp
    cases hf : fitsB v with
    | false =>
      rw [hf] at HF
      rw [if_neg (fun h => by cases h.1), decV_none]
      clear hf
      go_enter Tryd.func11, Tryd.ntmps11
      go_wp2_with fail
      refine HA.out.mono ?_
      rintro e w1 ⟨rfl, hw⟩
      have l1 : Below w.heap.size w w1 := by
        rcases hw with rfl | ⟨t, rfl⟩
        · exact Below.refl _ _
        · exact Lib.bytesWorld_below _ _ _
      clear hw
      go_wp2_with ((with_reducible refine (HF.out _).mono ?_); rintro e w' ⟨rfl, rfl⟩)
      go_ret2
      exact ⟨rfl, l1⟩
    | true =>
      rw [hf] at HF
      have HT := Lib.hid (Text_any v b0 b1)
      by_cases hts : textL v = s
      · rw [if_pos ⟨rfl, hts⟩, decV_some]
        have hv : Hid ((v.toNat : Int) = v) := Lib.hid (by have := ((fitsB_iff v).1 hf).1; omega)
        rw [hv.out]
        rw [hts] at HT
        unfold SV at HT
        clear hf hts hv
        go_enter Tryd.func11, Tryd.ntmps11
        go_wp2_with fail
        refine HA.out.mono ?_
        rintro e w1 ⟨rfl, hw⟩
        have l1 : Below w.heap.size w w1 := by
          rcases hw with rfl | ⟨t, rfl⟩
          · exact Below.refl _ _
          · exact Lib.bytesWorld_below _ _ _
        clear hw
        go_wp2_with fail
        refine (HF.out _).mono ?_
        rintro e w' ⟨rfl, rfl⟩
        go_wp2_with fail
        refine (HT.out _ (Hp.out.below l1)).mono ?_
        rintro e w2 ⟨rfl, l2⟩
        go_wp2
        go_ret2
        exact ⟨rfl, l1.trans (l2.mono l1.size)⟩
      · rw [if_neg (fun h => hts h.2), decV_none]
        obtain ⟨t, ht⟩ : ∃ t, t = textL v := ⟨_, rfl⟩
        rw [← ht] at HT hts
        have e1 : (t == s) = false := by rw [beq_eq_false_iff_ne]; exact hts
        have e2 : (t != s) = true := by simp [bne, e1]
        unfold SV at HT
        clear hf hts ht
        go_enter Tryd.func11, Tryd.ntmps11
        go_wp2_with fail
        refine HA.out.mono ?_
        rintro e w1 ⟨rfl, hw⟩
        have l1 : Below w.heap.size w w1 := by
          rcases hw with rfl | ⟨t, rfl⟩
          · exact Below.refl _ _
          · exact Lib.bytesWorld_below _ _ _
        clear hw
        go_wp2_with fail
        refine (HF.out _).mono ?_
        rintro e w' ⟨rfl, rfl⟩
        go_wp2_with fail
        refine (HT.out _ (Hp.out.below l1)).mono ?_
        rintro e w2 ⟨rfl, l2⟩
        go_wp2
        go_ret2
        exact ⟨rfl, l1.trans (l2.mono l1.size)⟩
  · rw [show decL s = none by unfold decL; rw [ha], decV_none]
    obtain ⟨ev, hv, hev⟩ := hp.syn
    have HA := Lib.hid (Any.strconv_Atoi_syntax Tryd.atoiA ⟨s.toArray⟩ (by show s.length ≤ _; omega) ha ev w hv hev)
    clear ha hv hev hp
    go_enter Tryd.func11, Tryd.ntmps11
    go_wp2_with fail
    refine HA.out.mono ?_
    rintro e w1 ⟨N, rfl, hN, hb, l1⟩
    clear hb
    go_wp2
    go_ret2
    exact ⟨rfl, l1⟩
  · rw [show decL s = none by unfold decL; rw [ha], decV_none]
    obtain ⟨ev, hv, hev⟩ := hp.rng
    have HA := Lib.hid (Any.strconv_Atoi_range Tryd.atoiA ⟨s.toArray⟩ (by show s.length ≤ _; omega) ha ev w hv hev)
    clear ha hv hev hp
    go_enter Tryd.func11, Tryd.ntmps11
    go_wp2_with fail
    refine HA.out.mono ?_
    rintro e w1 ⟨N, rfl, hN, hb, l1⟩
    clear hb
    go_wp2
    go_ret2
    exact ⟨rfl, l1⟩
end Go.Proofs.YtfafndehkhgmjaaDoor
