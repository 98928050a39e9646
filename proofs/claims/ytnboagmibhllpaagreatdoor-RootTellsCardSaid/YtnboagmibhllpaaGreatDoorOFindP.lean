/-
  Find among rising names, plainly.
-/
import Derived.Test.YtnboagmibhllpaaGreatDoorC20
namespace Go.Proofs.YtnboagmibhllpaaGreatDoor.Ro
open Go.Proofs.YtnboagmibhllpaaGreatDoor
open Go Go.RowKit

theorem name_at {l : List Fk} {s : Bs} {j : Nat} {f : Fk} (h : l[j]? = some f) : ((l[j]?.map (·.name)) == some s) = decide (f.name = s) := by
  rw [h]
  simp only [Option.map_some]
  rw [Bool.eq_iff_iff]
  simp
/-- In rising forks each is found at its place. -/
theorem findF_at {l : List Fk} (hl : l.Pairwise fun a b => a.name < b.name) {k : Nat} {f : Fk} (h : l[k]? = some f) : findF l f.name = (k : Int) := by
  have hk := (List.getElem?_eq_some_iff.1 h).1
  refine findF_some hk (by rw [name_at h]; simp) fun j hj => ?_
  have hjl : j < l.length := by omega
  rw [name_at (List.getElem?_eq_getElem hjl), decide_eq_false_iff_not]
  intro e
  have hlt := List.pairwise_iff_getElem.1 hl j k hjl hk hj
  have e2 : l[k] = f := by rw [List.getElem?_eq_getElem hk] at h; exact Option.some.inj h
  rw [e2, e] at hlt
  exact absurd hlt (List.lt_irrefl _)
/-- A name that none has is found nowhere; one that some has is found somewhere. -/
theorem findF_iff {l : List Fk} {s : Bs} : (0 ≤ findF l s) ↔ ∃ f ∈ l, f.name = s := by
  unfold findF
  cases h : l.findIdx? (fun f => f.name == s) with
  | none =>
    rw [List.findIdx?_eq_none_iff] at h
    constructor
    · intro hh; exact absurd hh (by decide)
    · rintro ⟨f, hf, rfl⟩
      have := h f hf
      simp at this
  | some k =>
    rw [List.findIdx?_eq_some_iff_getElem] at h
    obtain ⟨hk, he, _⟩ := h
    exact ⟨fun _ => ⟨l[k], List.getElem_mem hk, by simpa using he⟩, fun _ => Int.natCast_nonneg k⟩
end Go.Proofs.YtnboagmibhllpaaGreatDoor.Ro
