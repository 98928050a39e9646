/-
  The plain side of layer 4: trees, commits and tags as lists of bytes, there and back.
-/
import Derived.Test.YtfnepffccenebaaGreatDoorDPure
import GoSem.ClaimWide
namespace Go.Proofs.YtfnepffccenebaaGreatDoor
open Go
def cutAt (c : UInt8) : List UInt8 → Option (List UInt8 × List UInt8)
  | [] => none
  | x :: s => if x = c then some ([], s) else (cutAt c s).map fun p => (x :: p.1, p.2)
theorem cutAt_some {c : UInt8} : ∀ {s a r : List UInt8}, cutAt c s = some (a, r) → s = a ++ c :: r ∧ c ∉ a
  | [], _, _, h => by cases h
  | x :: s, a, r, h => by
    rw [cutAt] at h
    by_cases hx : x = c
    · rw [if_pos hx] at h
      simp only [Option.some.injEq, Prod.mk.injEq] at h
      obtain ⟨rfl, rfl⟩ := h
      exact ⟨by rw [hx]; rfl, by simp⟩
    · rw [if_neg hx] at h
      obtain ⟨⟨a', r'⟩, h1, h2⟩ := Option.map_eq_some_iff.1 h
      simp only [Prod.mk.injEq] at h2
      obtain ⟨rfl, rfl⟩ := h2
      obtain ⟨e1, e2⟩ := cutAt_some h1
      exact ⟨by rw [e1]; rfl, by simp only [List.mem_cons, not_or]; exact ⟨fun e => hx e.symm, e2⟩⟩
structure Itm where
  mode : Int
  name : List UInt8
  id : List UInt8
deriving DecidableEq
def noItm : Itm := ⟨0, [], []⟩
end Go.Proofs.YtfnepffccenebaaGreatDoor
