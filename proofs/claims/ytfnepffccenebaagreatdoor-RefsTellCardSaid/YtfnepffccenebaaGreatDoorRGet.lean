/-
  Get: the refs whose lines a text is.
-/
import Derived.Test.YtfnepffccenebaaGreatDoorRRight
import Derived.Test.YtfnepffccenebaaGreatDoorRApp
import Derived.Test.YtfnepffccenebaaGreatDoorRGetP
import Derived.Test.YtfnepffccenebaaGreatDoorCut
namespace Go.Proofs.YtfnepffccenebaaGreatDoor.Rf
open Go.Proofs.YtfnepffccenebaaGreatDoor
open Go Go.RowKit

/-- What Get answers. -/
def GetP (s : Bs) (w : World) (e : Ending) (w' : World) : Prop :=
  ((∃ v l, e = .returned (.tuple #[v, .bool true]) ∧ OwR w' w.heap.size v l ∧ IsGet s l) ∨ (e = .returned (.tuple #[.slice none 0 0, .bool false]) ∧ ∀ l, ¬ IsGet s l)) ∧ Below w.heap.size w w'
theorem bdrN {B : Nat} {w w' : World} (h : Below B w w') (n : Nat) : Below B w (w'.drewN n) := ⟨h.os, h.tape, h.output, h.size, h.block⟩
def sLen (v : Value) : Nat := match v with | .string b => b.size | _ => 0
theorem cutV_cases (c : UInt8) (s : Bs) : ∃ a r b, cutV s (cutAt c s) = .tuple #[SV a, SV r, .bool b] ∧ ((b = true ∧ cutAt c s = some (a, r)) ∨ (b = false ∧ cutAt c s = none ∧ a = s ∧ r = [])) := by
  cases h : cutAt c s with
  | none => exact ⟨s, [], false, rfl, .inr ⟨rfl, rfl, rfl, rfl⟩⟩
  | some p => exact ⟨p.1, p.2, true, rfl, .inl ⟨rfl, rfl⟩⟩
set_option maxRecDepth 100000 in
set_option maxHeartbeats 4000000 in
theorem Get_p (s0 : Bs) (w : World) (hs : s0.length ≤ 1000000) : Calls Tryz.prog 27 #[.string ⟨s0.toArray⟩] w (GetP s0 w) := by
  have HS0 := Lib.hid hs
  clear hs
  go_enter Tryz.func27, Tryz.ntmps27
  go_wp2_with fail
  go_loopw [0, 4] (fun v0 v4 wr => ∃ (s : Bs) (l : List Ref), v0 = .string ⟨s.toArray⟩ ∧ Hid (GetI s0 s l) ∧ Hid (OwR wr w.heap.size v4 l) ∧ Hid (Below w.heap.size w wr)) (fun v0 _ _ => sLen v0)
  case atStart => exact ⟨s0, [], rfl, Lib.hid (GetI.start s0), Lib.hid (OwK.nil _ _ _ _ _), Lib.hid (Below.refl _ _)⟩
  case round =>
    obtain ⟨s, l, rfl, hI, hO, hB⟩ := hrel
    obtain ⟨A, n, c, hv4, hn⟩ := OwK.shape hO.out
    subst hv4
    have HN := Lib.hid hn
    have hn64 : n ≤ 64 := by rw [hn]; exact hI.out.len
    have hFit : Fit l := fun r hr => by
      have := hI.out.fit r hr; have := HS0.out; unfold maxLen; omega
    by_cases hs : s = []
    · subst hs
      have HC := Lib.hid (Right_p l (.slice A n c) wr (OwK.rd refC_len hO.out) hFit (by omega))
      clear hn hFit
      by_cases hr : Right l
      · rw [rightB_yes hr] at HC
        have HR := Lib.hid (hI.out.yes hr)
        clear hr hI
        go_wp2_with fail
        refine HC.out.mono ?_
        rintro e w2 ⟨rfl, hb⟩
        have HB := Lib.hid (hB.out.trans (hb.mono hB.out.size))
        have HO := Lib.hid (hO.out.below hb (Nat.le_refl _))
        clear hb hO hB
        go_wp2_with fail
        go_ret2
        exact ⟨.inl ⟨_, l, rfl, HO.out, HR.out⟩, HB.out⟩
      · rw [rightB_no hr] at HC
        have HR := Lib.hid (hI.out.no hr)
        clear hr hI
        go_wp2_with fail
        refine HC.out.mono ?_
        rintro e w2 ⟨rfl, hb⟩
        have HB := Lib.hid (hB.out.trans (hb.mono hB.out.size))
        clear hb hO hB
        go_wp2_with fail
        go_ret2
        exact ⟨.inr ⟨rfl, HR.out⟩, HB.out⟩
    have hs1 : s.length ≤ 1000000 := by have := hI.out.sl; have := HS0.out; omega
    obtain ⟨line, rest, b1, hc1, hb1⟩ := cutV_cases 10 s
    have HK1 := fun W => Cut_any s hs1 10 W
    rw [hc1] at HK1
    unfold SV at HK1
    have hl1 : line.length ≤ 1000000 := by
      rcases hb1 with ⟨_, h⟩ | ⟨_, _, h, _⟩
      · have := cutAt_some h; rw [this.1] at hs1; simp at hs1; omega
      · rw [h]; exact hs1
    obtain ⟨id, nm, b2, hc2, hb2⟩ := cutV_cases 32 line
    have HK2 := fun W => Cut_any line hl1 32 W
    rw [hc2] at HK2
    unfold SV at HK2
    have HK1' := fun W => Lib.hid (HK1 W); have HK2' := fun W => Lib.hid (HK2 W)
    have Hs := Lib.hid hs
    have hse : s.isEmpty = false := by cases s with | nil => exact absurd rfl hs | cons _ _ => rfl
    have HB1 := Lib.hid hb1; have HB2 := Lib.hid hb2
    clear hs hn hc1 hc2 HK1 HK2 hb1 hb2 hl1 hs1 hFit
    cases b1 with
    | false =>
      have HR := Lib.hid (hI.out.no_end Hs.out (by rcases HB1.out with ⟨h, _⟩ | ⟨_, h, _⟩; cases h; exact h))
      clear hI
      go_wp2_with fail
      refine (HK1' _).out.mono ?_
      rintro e w2 ⟨rfl, m1, rfl⟩
      go_wp2_with fail
      refine (HK2' _).out.mono ?_
      rintro e w3 ⟨rfl, m2, rfl⟩
      go_wp2_with fail
      go_ret2
      exact ⟨.inr ⟨rfl, HR.out⟩, bdrN hB.out _⟩
    | true =>
    have hc := (show cutAt 10 s = some (line, rest) by rcases HB1.out with ⟨_, h⟩ | ⟨h, _⟩; exact h; cases h)
    by_cases h64 : n = 64
    · have HR := Lib.hid (hI.out.full Hs.out (by rw [← HN.out]; exact h64))
      have hI64 : ((n : Int) == 64) = true := by rw [h64]; rfl
      clear hI hc h64
      go_wp2_with fail
      refine (HK1' _).out.mono ?_
      rintro e w2 ⟨rfl, m1, rfl⟩
      go_wp2_with fail
      refine (HK2' _).out.mono ?_
      rintro e w3 ⟨rfl, m2, rfl⟩
      go_wp2_with fail
      go_ret2
      exact ⟨.inr ⟨rfl, HR.out⟩, bdrN hB.out _⟩
    have hI64 : ((n : Int) == 64) = false := by simp; omega
    have hst := hI.out.step (x := ⟨nm, id⟩) (by have := HN.out; omega) hc (by
      rcases HB2.out with ⟨_, h⟩ | ⟨_, h, h3, h4⟩
      · exact .inl h
      · exact .inr ⟨h, h3, h4⟩)
    have HI2 := Lib.hid hst.1; have HM := Lib.hid hst.2
    have hB2 := fun m1 m2 => Lib.hid (bdrN (bdrN hB.out m1) m2)
    have hO2 := fun m1 m2 => Lib.hid (show OwR ((wr.drewN m1).drewN m2) w.heap.size (.slice A n c) l from hO.out)
    have hll : Hid (l.length < 1000000) := Lib.hid (by have := HN.out; omega)
    clear hI hc h64 hst hB hO
    go_wp2_with fail
    refine (HK1' _).out.mono ?_
    rintro e w2 ⟨rfl, m1, rfl⟩
    go_wp2_with fail
    refine (HK2' _).out.mono ?_
    rintro e w3 ⟨rfl, m2, rfl⟩
    have HO3 := hO2 m1 m2; have HB3 := hB2 m1 m2
    generalize (wr.drewN m1).drewN m2 = w4 at HO3 HB3 ⊢
    clear hO2 hB2
    go_wp2_with (refine wpList_push elRef (o := ⟨some 37, _, _, _, _, _⟩) rfl _ _ rfl w.heap.size _ l ⟨nm, id⟩ _ rfl rfl rfl HO3.out hll.out (by decide) HB3.out.size ?_)
    intro v' w5 hO5 hB5 _
    have HO5 := Lib.hid hO5
    have HB5 := Lib.hid (HB3.out.trans hB5)
    clear hO5 hB5
    go_wp2_with fail
    go_roundw
    case rel => exact ⟨rest, l ++ [⟨nm, id⟩], rfl, HI2, HO5, HB5⟩
    case measure => exact HM.out
end Go.Proofs.YtfnepffccenebaaGreatDoor.Rf
