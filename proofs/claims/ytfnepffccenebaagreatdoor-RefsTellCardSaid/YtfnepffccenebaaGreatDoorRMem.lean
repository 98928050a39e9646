/-
  Refs and updates as they lie in memory.
-/
import Derived.Test.YtfnepffccenebaaGreatDoorRNamed
import Derived.Test.YtfnepffccenebaaGreatDoorWMem
namespace Go.Proofs.YtfnepffccenebaaGreatDoor.Rf
open Go.Proofs.YtfnepffccenebaaGreatDoor
open Go Go.RowKit

def refC (r : Ref) : List Value := [SV r.name, SV r.id]
theorem refC_len (r : Ref) : (refC r).length = 2 := rfl
theorem refC_one (r : Ref) : ∀ u ∈ refC r, u.oneCell' = true := fun u hu => by
  simp [refC] at hu; rcases hu with rfl | rfl <;> rfl
def updC (u : Upd) : List Value := [SV u.name, SV u.old, SV u.new]
theorem updC_len (u : Upd) : (updC u).length = 3 := rfl
def RefsR (w : World) (v : Value) (l : List Ref) : Prop := RdK 2 refC w v l
def UpdsR (w : World) (v : Value) (l : List Upd) : Prop := RdK 3 updC w v l
theorem RdK.at {α : Type} {k : Nat} {f : α → List Value} {w : World} {g o n c : Nat} {l : List α} (h : RdK k f w (.slice (some ⟨g, o, none⟩) n c) l) {j : Nat} {x : α} (hx : l[j]? = some x) {i : Nat} (hi : i < k) {u : Value} (hu : (f x)[i]? = some u) : w.cell? ⟨g, o + j * k + i, none⟩ = some u := by
  have hj : j < l.length := (List.getElem?_eq_some_iff.1 hx).1
  rcases h with ⟨_, rfl⟩ | ⟨g', o', c', e, hc, hg, hcell⟩
  · simp at hj
  · cases e
    rw [hcell j hj x hx i hi]; exact hu
theorem RefsR.cells {w : World} {g o n c : Nat} {l : List Ref} (h : RefsR w (.slice (some ⟨g, o, none⟩) n c) l) {k : Nat} {x : Ref} (hx : l[k]? = some x) :
    w.cell? ⟨g, o + k * 2, none⟩ = some (SV x.name) ∧ w.cell? ⟨g, o + k * 2 + 1, none⟩ = some (SV x.id) := ⟨RdK.at h hx (i := 0) (by decide) rfl, RdK.at h hx (i := 1) (by decide) rfl⟩
theorem UpdsR.cells {w : World} {g o n c : Nat} {l : List Upd} (h : UpdsR w (.slice (some ⟨g, o, none⟩) n c) l) {k : Nat} {x : Upd} (hx : l[k]? = some x) :
    w.cell? ⟨g, o + k * 3, none⟩ = some (SV x.name) ∧ w.cell? ⟨g, o + k * 3 + 1, none⟩ = some (SV x.old) ∧ w.cell? ⟨g, o + k * 3 + 2, none⟩ = some (SV x.new) :=
  ⟨RdK.at h hx (i := 0) (by decide) rfl, RdK.at h hx (i := 1) (by decide) rfl, RdK.at h hx (i := 2) (by decide) rfl⟩
theorem elRef : ElK (α := Ref) 22 45 2 32 refC where
  ut := Tryz.underlying22
  info := ⟨.agg #[.string ⟨#[]⟩, .string ⟨#[]⟩], by kernel_rfl, rfl⟩
  pos := by decide
  len := refC_len
  one := refC_one
/-- Texts that are no longer than a text may be. -/
def Fit (l : List Ref) : Prop := ∀ r ∈ l, r.name.length ≤ maxLen ∧ r.id.length ≤ maxLen
def FitU (l : List Upd) : Prop := ∀ r ∈ l, r.name.length ≤ maxLen ∧ r.old.length ≤ maxLen ∧ r.new.length ≤ maxLen

open Classical in
noncomputable def rightB (l : List Ref) : Bool := decide (Right l)
theorem rightB_yes {l : List Ref} (h : Right l) : rightB l = true := by unfold rightB; simp [h]
theorem rightB_no {l : List Ref} (h : ¬ Right l) : rightB l = false := by unfold rightB; simp [h]
theorem rightB_iff {l : List Ref} : rightB l = true ↔ Right l := by unfold rightB; simp

/-! ### Right, plain -/
theorem above_lt {a b : Bs} (h : aboveB a b = true) : a < b := by
  obtain ⟨t, rfl⟩ := List.isPrefixOf_iff_prefix.1 h
  induction a with
  | nil => exact List.nil_lt_cons _ _
  | cons c a ih => rw [List.cons_append, List.cons_append, List.cons_lt_cons_iff]; exact .inr ⟨rfl, ih (List.isPrefixOf_iff_prefix.2 ⟨t, rfl⟩)⟩
def OkTo (l : List Ref) (k : Nat) : Prop := (∀ r ∈ l.take k, nameB r.name = true ∧ namedB r.id = true) ∧ (l.take k).Pairwise fun a b => a.name < b.name ∧ aboveB a.name b.name = false
theorem OkTo.zero (l : List Ref) : OkTo l 0 := ⟨fun r hr => by simp at hr, by simp⟩
def AheadTo (l : List Ref) (x : Ref) (j : Nat) : Prop := ∀ i, i < j → ∀ y, l[i]? = some y → y.name < x.name ∧ aboveB y.name x.name = false
theorem AheadTo.zero (l : List Ref) (x : Ref) : AheadTo l x 0 := fun _ hi => absurd hi (Nat.not_lt_zero _)
theorem AheadTo.succ {l : List Ref} {x y : Ref} {j : Nat} (h : AheadTo l x j) (hy : l[j]? = some y) (h1 : y.name < x.name) (h2 : aboveB y.name x.name = false) : AheadTo l x (j + 1) := fun i hi z hz => by
  rcases Nat.lt_or_ge i j with hlt | hge
  · exact h i hlt z hz
  · have e : i = j := by omega
    rw [e, hy] at hz
    cases hz; exact ⟨h1, h2⟩
theorem OkTo.succ {l : List Ref} {k : Nat} {x : Ref} (h : OkTo l k) (hx : l[k]? = some x) (h1 : nameB x.name = true) (h2 : namedB x.id = true) (h3 : AheadTo l x k) : OkTo l (k + 1) := by
  unfold OkTo
  rw [List.take_add_one, hx, Option.toList_some]
  refine ⟨fun r hr => ?_, List.pairwise_append.2 ⟨h.2, List.pairwise_singleton _ _, fun a ha b hb => ?_⟩⟩
  · rcases List.mem_append.1 hr with hr | hr
    · exact h.1 r hr
    · rw [List.mem_singleton.1 hr]; exact ⟨h1, h2⟩
  · rw [List.mem_singleton.1 hb]
    obtain ⟨i, hi, e⟩ := List.mem_iff_getElem.1 ha
    rw [List.length_take] at hi
    exact h3 i (by omega) a (by rw [← e, List.getElem_take]; exact List.getElem?_eq_getElem (by omega))
theorem OkTo.right {l : List Ref} (h : OkTo l l.length) (h64 : l.length ≤ 64) : Right l := by
  unfold OkTo at h
  rw [List.take_length] at h
  refine ⟨h64, fun r hr => (h.1 r hr).1, fun r hr => (h.1 r hr).2, h.2.imp fun hh => hh.1, fun a ha b hb => ?_⟩
  obtain ⟨i, hi, rfl⟩ := List.mem_iff_getElem.1 ha
  obtain ⟨j, hj, rfl⟩ := List.mem_iff_getElem.1 hb
  have hp := List.pairwise_iff_getElem.1 h.2
  cases hab : aboveB l[i].name l[j].name with
  | false => rfl
  | true =>
    exfalso
    have hlt := above_lt hab
    rcases Nat.lt_trichotomy i j with hij | hij | hij
    · rw [(hp i j hi hj hij).2] at hab; cases hab
    · subst hij; exact lt_irr _ hlt
    · exact lt_irr _ (lt_tr hlt (hp j i hj hi hij).1)
theorem no_name {l : List Ref} {k : Nat} {x : Ref} (hx : l[k]? = some x) (h : nameB x.name = false) : ¬ Right l := fun hr => by
  have := hr.name x (List.mem_of_getElem? hx); rw [h] at this; cases this
theorem no_id {l : List Ref} {k : Nat} {x : Ref} (hx : l[k]? = some x) (h : namedB x.id = false) : ¬ Right l := fun hr => by
  have := hr.id x (List.mem_of_getElem? hx); rw [h] at this; cases this
theorem no_rise {l : List Ref} {j k : Nat} {x y : Ref} (hx : l[k]? = some x) (hy : l[j]? = some y) (hjk : j < k) (h : ¬ y.name < x.name) : ¬ Right l := fun hr => by
  obtain ⟨hk, rfl⟩ := List.getElem?_eq_some_iff.1 hx
  obtain ⟨hj, rfl⟩ := List.getElem?_eq_some_iff.1 hy
  exact h (List.pairwise_iff_getElem.1 hr.rise j k hj hk hjk)
theorem no_above {l : List Ref} {j k : Nat} {x y : Ref} (hx : l[k]? = some x) (hy : l[j]? = some y) (h : aboveB y.name x.name = true) : ¬ Right l := fun hr => by
  have := hr.above y (List.mem_of_getElem? hy) x (List.mem_of_getElem? hx); rw [h] at this; cases this
end Go.Proofs.YtfnepffccenebaaGreatDoor.Rf
