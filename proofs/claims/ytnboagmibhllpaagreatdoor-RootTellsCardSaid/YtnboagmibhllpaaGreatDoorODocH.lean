/-
  The document's Get: a part of the lines.
-/
import Derived.Test.YtnboagmibhllpaaGreatDoorC20
namespace Go.Proofs.YtnboagmibhllpaaGreatDoor.Ro
open Go.Proofs.YtnboagmibhllpaaGreatDoor
open Go.Proofs.YtnboagmibhllpaaGreatDoor.Rf (BoolB Ref RefsR OwR OwS nameB linesL)
open Go Go.RowKit

theorem strs_cut (W : World) (g o n c a b : Nat) (hab : a ≤ b) (hb : b ≤ c) (hx : b ≤ 100000000) : (Instr.sliceAt 22 (.slice (some ⟨g, o, none⟩) n c) (some (.int .i64 (a : Int))) (some (.int .i64 (b : Int))) none).run Tryz.prog W = .ok (.slice (if c - a = 0 then some ⟨g, o, none⟩ else some ⟨g, o + a, none⟩) (b - a) (c - a)) W := by
  have h1 : (b : Int) ≤ (c : Int) := by omega
  have h2 : (a : Int) ≤ (b : Int) := by omega
  by_cases e : c = a
  · have h3 : b = a := by omega
    subst h3 e
    simp [go_sem]
  · have h3 : ¬ c - a = 0 := by omega
    rw [if_neg h3]
    by_cases e2 : a = 0
    · subst e2; simp [go_sem, h1, e]
    · simp [go_sem, h1, h2, e]
theorem strs_sub {w : World} {g o n c : Nat} {l : List Bs} (h : StrsR w (.slice (some ⟨g, o, none⟩) n c) l) (hn : n = l.length) (hc : n ≤ c) {a b : Nat} (hab : a ≤ b) (hb : b ≤ n) (hx : n ≤ 100000000) :
    ∃ A' c', (∀ W, (Instr.sliceAt 22 (.slice (some ⟨g, o, none⟩) n c) (some (.int .i64 (a : Int))) (some (.int .i64 (b : Int))) none).run Tryz.prog W = .ok (.slice A' (b - a) c') W) ∧ StrsR w (.slice A' (b - a) c') ((l.drop a).take (b - a)) := by
  refine ⟨_, _, fun W => strs_cut W g o n c a b hab (by omega) (by omega), ?_⟩
  have hl : ((l.drop a).take (b - a)).length = b - a := by rw [List.length_take, List.length_drop]; omega
  by_cases hz : b - a = 0
  · rw [hz, List.take_zero]
    exact .inl ⟨⟨_, _, rfl⟩, rfl⟩
  rw [if_neg (by omega)]
  rcases h with ⟨⟨A', c', e⟩, rfl⟩ | ⟨g', o', c', e, hc', hg, hcell⟩
  · simp at hn; omega
  · cases e
    refine .inr ⟨g, o + a, c - a, by rw [hl], by omega, hg, fun j hj x hx i hi => ?_⟩
    rw [hl] at hj
    rw [List.getElem?_take, if_pos hj, List.getElem?_drop] at hx
    have := hcell (a + j) (by omega) x hx i hi
    rw [show o + a + j * 1 + i = o + (a + j) * 1 + i by omega]
    exact this
end Go.Proofs.YtnboagmibhllpaaGreatDoor.Ro
