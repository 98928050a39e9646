/-
  slices.IndexFunc over refs and updates, with a closure that may turn memory of its own.
-/
import Derived.Test.YtfnepffccenebaaGreatDoorRMem
namespace Go.Proofs.YtfnepffccenebaaGreatDoor.Rf
open Go.Proofs.YtfnepffccenebaaGreatDoor
open Go Go.RowKit

/-- The first that holds, or none. -/
def IdxP (N : Nat) (p : Nat → Bool) (J E : Nat → World → Prop) (e : Ending) (w' : World) : Prop :=
  (∃ k : Nat, k < N ∧ p k = true ∧ (∀ j, j < k → p j = false) ∧ e = .returned (.int .i64 (k : Int)) ∧ E k w') ∨ ((∀ j, j < N → p j = false) ∧ e = .returned (.int .i64 (-1)) ∧ J N w')

set_option maxHeartbeats 4000000 in
set_option maxRecDepth 100000 in
theorem idxR {l : List Ref} {A : Option Addr} {c N : Nat} (hN : N = l.length) (hl : N ≤ 1000000) (g : FuncId) (eg : ∀ args w, (callFunc g args).run Tryz.prog w = .ok (.enter g args) w) (lb : Array Value) (p : Nat → Bool) (J E : Nat → World → Prop) (w : World) (h0 : J 0 w)
    (hr : ∀ k W, J k W → RefsR W (.slice A N c) l)
    (hs : ∀ k x W, l[k]? = some x → J k W → Calls Tryz.prog g (#[.agg (refC x).toArray] ++ lb) W fun e w' => e = .returned (.bool (p k)) ∧ (p k = true → E k w') ∧ (p k = false → J (k + 1) w')) :
    Calls Tryz.prog 45 #[.slice A N c, .func (.func g) #[] lb] w (IdxP N p J E) := by
  have HR := Lib.hid hr; have HS := Lib.hid hs; have HJ := Lib.hid h0; have HN := Lib.hid hN
  clear hr hs h0 hN
  go_enter Tryz.func45, Tryz.ntmps45
  go_wp2_with fail
  go_loopw [8] (fun i wr => ∃ k : Nat, k ≤ N ∧ i = .int .i64 k ∧ Hid (J k wr) ∧ Hid (∀ j, j < k → p j = false)) (fun i _ => N - (intOf i).toNat)
  case atStart => exact ⟨0, Nat.zero_le _, rfl, HJ, Lib.hid fun j hj => absurd hj (Nat.not_lt_zero _)⟩
  case round =>
    obtain ⟨k, hk, rfl, hJ, hno⟩ := hrel
    by_cases hlt : k < N
    case neg =>
      have hkN : k = N := by omega
      have HE : Hid (J N wr ∧ ∀ j, j < N → p j = false) := Lib.hid (by rw [← hkN]; exact ⟨hJ.out, hno.out⟩)
      clear hkN hJ hno HJ
      go_wp2_with fail
      go_ret
      exact .inr ⟨HE.out.2, rfl, HE.out.1⟩
    have hrd := HR.out k wr hJ.out
    obtain ⟨g', o, c', e, _, hg⟩ := hrd.pos (by have := HN.out; omega)
    obtain rfl : A = some ⟨g', o, none⟩ := by cases e; rfl
    clear e
    obtain ⟨x, hx⟩ : ∃ x, l[k]? = some x := ⟨_, List.getElem?_eq_getElem (by have := HN.out; omega)⟩
    obtain ⟨c0, c1⟩ := RefsR.cells hrd hx
    have hcall := HS.out k x wr hx hJ.out
    obtain ⟨b, hb⟩ : ∃ b, b = p k := ⟨_, rfl⟩
    rw [← hb] at hcall
    have HB := Lib.hid hb
    unfold refC at hcall
    obtain ⟨nm, id⟩ := x
    simp only [SV] at hcall c0 c1
    have HC := Lib.hid hcall
    clear hb hcall hrd hg hx hJ HJ
    cases b with
    | true =>
      go_wp2_with (go_at_fn g; refine HC.out.mono ?_; rintro e w2 ⟨rfl, hE, hJ2⟩; have HE := Lib.hid (hE rfl); clear hE hJ2 c0 c1)
      go_ret
      exact .inl ⟨k, hlt, HB.out.symm, hno.out, rfl, HE.out⟩
    | false =>
      have HN2 : Hid (∀ j, j < k + 1 → p j = false) := Lib.hid fun j hj => by
        rcases Nat.lt_or_ge j k with h | h
        · exact hno.out j h
        · have e : j = k := by omega
          rw [e]; exact HB.out.symm
      clear hno
      go_wp2_with (go_at_fn g; refine HC.out.mono ?_; rintro e w2 ⟨rfl, hE, hJ2⟩; have HE := Lib.hid (hJ2 rfl); clear hE hJ2 c0 c1)
      go_roundw
      case rel => exact ⟨k + 1, hlt, by go_num, HE, HN2⟩
      case measure => simp [intOf]; omega

set_option maxHeartbeats 4000000 in
set_option maxRecDepth 100000 in
theorem idxU {l : List Upd} {A : Option Addr} {c N : Nat} (hN : N = l.length) (hl : N ≤ 1000000) (g : FuncId) (eg : ∀ args w, (callFunc g args).run Tryz.prog w = .ok (.enter g args) w) (lb : Array Value) (p : Nat → Bool) (J E : Nat → World → Prop) (w : World) (h0 : J 0 w)
    (hr : ∀ k W, J k W → UpdsR W (.slice A N c) l)
    (hs : ∀ k x W, l[k]? = some x → J k W → Calls Tryz.prog g (#[.agg (updC x).toArray] ++ lb) W fun e w' => e = .returned (.bool (p k)) ∧ (p k = true → E k w') ∧ (p k = false → J (k + 1) w')) :
    Calls Tryz.prog 59 #[.slice A N c, .func (.func g) #[] lb] w (IdxP N p J E) := by
  have HR := Lib.hid hr; have HS := Lib.hid hs; have HJ := Lib.hid h0; have HN := Lib.hid hN
  clear hr hs h0 hN
  go_enter Tryz.func59, Tryz.ntmps59
  go_wp2_with fail
  go_loopw [8] (fun i wr => ∃ k : Nat, k ≤ N ∧ i = .int .i64 k ∧ Hid (J k wr) ∧ Hid (∀ j, j < k → p j = false)) (fun i _ => N - (intOf i).toNat)
  case atStart => exact ⟨0, Nat.zero_le _, rfl, HJ, Lib.hid fun j hj => absurd hj (Nat.not_lt_zero _)⟩
  case round =>
    obtain ⟨k, hk, rfl, hJ, hno⟩ := hrel
    by_cases hlt : k < N
    case neg =>
      have hkN : k = N := by omega
      have HE : Hid (J N wr ∧ ∀ j, j < N → p j = false) := Lib.hid (by rw [← hkN]; exact ⟨hJ.out, hno.out⟩)
      clear hkN hJ hno HJ
      go_wp2_with fail
      go_ret
      exact .inr ⟨HE.out.2, rfl, HE.out.1⟩
    have hrd := HR.out k wr hJ.out
    obtain ⟨g', o, c', e, _, hg⟩ := hrd.pos (by have := HN.out; omega)
    obtain rfl : A = some ⟨g', o, none⟩ := by cases e; rfl
    clear e
    obtain ⟨x, hx⟩ : ∃ x, l[k]? = some x := ⟨_, List.getElem?_eq_getElem (by have := HN.out; omega)⟩
    obtain ⟨c0, c1, c2⟩ := UpdsR.cells hrd hx
    have hcall := HS.out k x wr hx hJ.out
    obtain ⟨b, hb⟩ : ∃ b, b = p k := ⟨_, rfl⟩
    rw [← hb] at hcall
    have HB := Lib.hid hb
    unfold updC at hcall
    obtain ⟨nm, od, nw⟩ := x
    simp only [SV] at hcall c0 c1 c2
    have HC := Lib.hid hcall
    clear hb hcall hrd hg hx hJ HJ
    cases b with
    | true =>
      go_wp2_with (go_at_fn g; refine HC.out.mono ?_; rintro e w2 ⟨rfl, hE, hJ2⟩; have HE := Lib.hid (hE rfl); clear hE hJ2 c0 c1 c2)
      go_ret
      exact .inl ⟨k, hlt, HB.out.symm, hno.out, rfl, HE.out⟩
    | false =>
      have HN2 : Hid (∀ j, j < k + 1 → p j = false) := Lib.hid fun j hj => by
        rcases Nat.lt_or_ge j k with h | h
        · exact hno.out j h
        · have e : j = k := by omega
          rw [e]; exact HB.out.symm
      clear hno
      go_wp2_with (go_at_fn g; refine HC.out.mono ?_; rintro e w2 ⟨rfl, hE, hJ2⟩; have HE := Lib.hid (hJ2 rfl); clear hE hJ2 c0 c1 c2)
      go_roundw
      case rel => exact ⟨k + 1, hlt, by go_num, HE, HN2⟩
      case measure => simp [intOf]; omega
end Go.Proofs.YtfnepffccenebaaGreatDoor.Rf
