/-
  A region that draws its order, in a round of a range over an iterator.
-/
import Derived.Test.YtbgnemephcbgeaaCc
namespace Go.Proofs.Ytbgnemephcbgeaa
open Go Go.RowKit

def noDefer (ops : Array Oper) : Bool := ops.all fun o => match o.op with | .defer _ => false | _ => true
theorem noDefer_at {ops : Array Oper} (h : noDefer ops = true) {i : Nat} {o : Oper} (hi : ops[i]? = some o) : ∀ c, o.op ≠ .defer c := by
  intro c hc
  obtain ⟨hlt, rfl⟩ := Array.getElem?_eq_some_iff.1 hi
  have := Array.all_eq_true.1 h i hlt
  rw [hc] at this
  cases this
section
variable {P : Program} {ops : Array Oper} {Q : Exit → Go.Act → World → Prop}
theorem upon_in {o : Oper} {a : Go.Act} {K K' : Go.Act → World → Prop} {l n : Nat} (hK : ∀ a w, K a w → K' a w) (hQ : ¬ LetsOut Q) : ∀ {r : Result Next}, o.upon P a K Q r → o.uponIn (Fence.wide.inRound l) n P a K' Q r
  | .ok x w', h => by
    cases x with
    | value v => exact hK _ _ h
    | skip => exact hK _ _ h
    | defer d => exact hK _ _ h
    | enter f args =>
      refine ⟨fun hd => (by cases hd), (callsIn_wide.2 (h : Calls P f args w' _)).mono fun e w'' he => ?_⟩
      cases e with
      | returned v => exact hK _ _ he
      | panicked c => exact he
      | outgrown => exact absurd he hQ
    | row row args =>
      refine ⟨fun hd => (by cases hd), fun c cs _ => ?_⟩
      obtain ⟨v, w'', r, s⟩ := (h : Rows P row args w' _) c cs
      exact ⟨v, w'', hK _ _ r, stepsIn_wide.2 s⟩
    | _ => exact (h : False).elim
  | .halt x w', h => by
    cases x with
    | panic v => exact h
    | _ => exact (h : False).elim
theorem opsIn_round (hnd : noDefer ops = true) (hQ : ¬ LetsOut Q) {l n : Nat} : ∀ (s : List Nat) (a : Go.Act) (w : World), wpOps P ops Q s a w → wpOpsIn (Fence.wide.inRound l) n P ops Q s a w
  | [], _, _, h => h
  | i :: rest, a, w, h => by
    unfold wpOps at h
    unfold wpOpsIn
    cases hi : ops[i]? with
    | none => rw [hi] at h; exact opsIn_round hnd hQ rest a w h
    | some o =>
      rw [hi] at h
      simp only at h ⊢
      split
      · rename_i hw
        rw [if_pos hw] at h
        rcases h with h | h
        · refine ⟨fun _ _ => trivial, ?_⟩
          rw [Oper.semAt_eq _ _ _ (noDefer_at hnd hi)]
          exact upon_in (fun a w => opsIn_round hnd hQ rest a w) hQ h
        · exact absurd h.2 hQ
      · rename_i hw
        rw [if_neg hw] at h
        exact ⟨fun _ _ => trivial, opsIn_round hnd hQ rest _ w h⟩
/-- It is enough to walk it as in any function. -/
theorem region_round {S : World → Prop} {id : Nat} {a : Go.Act} {w : World} {l n : Nat} (hm : P.follows .mixedOrders = true) (hnd : noDefer ops = true) (hQ : ¬ LetsOut Q) (h : wpAnyH P .any ops Q S ops.size (Array.replicate ops.size false) a w.drew) :
    (Code.region id ops true).wpIn (Fence.wide.inRound l) n P Q a w :=
  wpIn_region_draw fun t => by
    simp only [Region.schedule, hm, Bool.true_or, if_true]
    exact opsIn_round hnd hQ _ _ _ (wpAny_sound ops.size t _ a _ (wpAny_of_held _ _ _ _ h))
end
end Go.Proofs.Ytbgnemephcbgeaa
