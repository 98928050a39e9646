/-
  ShelfRefused: its walk.
-/
import Derived.Test.YtccloieikkdcoaaGreatDoorRefDir
import Derived.Test.YtccloieikkdcoaaGreatDoorDoesM
import Derived.Deep.CutBlock
import Derived.Deep.CutRange
namespace Go.Proofs.YtccloieikkdcoaaGreatDoor
open Go Go.RowKit Go.Maps Go.Shelf Go.Deep

theorem newSt_bdF {r : Int} {t : Tb} (h : GoodT t) : Bd (newSt r t) 400 :=
  ⟨h.1, by show t.length + 0 ≤ 400; exact h.1, fun q hq => (h.2 q hq).1, fun q hq => (h.2 q hq).1, by simp [newSt], by simp [newSt], by decide⟩

/-- There is power, and no fuse. -/
def Pw (st : St) : Prop := st.fuse = -1 ∧ st.down = false
theorem Pw.on {st : St} (h : Pw st) : on st = true := by unfold Go.Proofs.YtccloieikkdcoaaGreatDoor.on; rw [h.1, h.2]; rfl
theorem pw_do {st st1 : St} {er : Int} (h : Pw st) (h1 : Pw st1) : Pw (doSt st er st1) := by
  unfold doSt
  rw [if_pos h.on]
  split
  · exact ⟨by show burnt st1.fuse = -1; rw [h1.1]; rfl, h1.2⟩
  · exact h
theorem Pw.does {st : St} (h : Pw st) (o : OpR) : Pw (doesSt o st) := by
  unfold doesSt
  split
  · exact pw_do h ⟨h.1, h.2⟩
  · split
    · exact pw_do h ⟨h.1, h.2⟩
    · split
      · exact pw_do h ⟨h.1, h.2⟩
      · split
        · exact pw_do h ⟨h.1, h.2⟩
        · exact h

theorem do_refused {st st1 : St} {er : Int} (h : Pw st) (hn : doN st er ≠ 0) : doSt st er st1 = st := by
  unfold doN at hn
  unfold doSt
  rw [if_pos h.on] at hn ⊢
  rw [if_neg hn]
/-- What is refused changes nothing. -/
theorem does_refused {o : OpR} {st : St} (h : Pw st) (hn : doesN o st ≠ 0) : doesSt o st = st := by
  unfold doesN at hn
  unfold doesSt
  by_cases h1 : o.what = 0 ∨ o.what = 1
  · rw [if_pos h1] at hn ⊢; exact do_refused h hn
  · rw [if_neg h1] at hn ⊢
    by_cases h2 : o.what = 2
    · rw [if_pos h2] at hn ⊢; exact do_refused h hn
    · rw [if_neg h2] at hn ⊢
      by_cases h3 : o.what = 3
      · rw [if_pos h3] at hn ⊢; exact do_refused h hn
      · rw [if_neg h3] at hn ⊢
        by_cases h4 : o.what = 4
        · rw [if_pos h4] at hn ⊢; exact do_refused h hn
        · rw [if_neg h4]
/-- A path that is none is refused. -/
theorem does_none {o : OpR} {st : St} (h : Pw st) (h0 : 0 ≤ o.what) (h4 : o.what < 4) (hp : pathB o.path = false) : doesN o st = 1 := by
  unfold doesN doN
  rw [if_pos h.on, if_pos h.on, if_pos h.on, if_pos h.on]
  by_cases h1 : o.what = 0 ∨ o.what = 1
  · rw [if_pos h1]; exact writeErr_1 hp
  · rw [if_neg h1]
    by_cases h2 : o.what = 2
    · rw [if_pos h2]; unfold renameErr; rw [if_pos hp]; split <;> rfl
    · rw [if_neg h2, if_pos (by omega)]; unfold thereErr; rw [if_pos hp]
end Go.Proofs.YtccloieikkdcoaaGreatDoor
