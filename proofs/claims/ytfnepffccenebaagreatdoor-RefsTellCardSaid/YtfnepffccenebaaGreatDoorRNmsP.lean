/-
  Names of refs, plain: a part more, an empty part, a letter more.
-/
import Derived.Test.YtfnepffccenebaaGreatDoorRNamed
namespace Go.Proofs.YtfnepffccenebaaGreatDoor.Rf
open Go.Proofs.YtfnepffccenebaaGreatDoor

theorem parts_snoc : ∀ (s t : Bs), parts (s ++ 47 :: t) = parts s ++ parts t
  | [], t => by rw [List.nil_append, parts_slash]; rfl
  | c :: s, t => by
    have ih := parts_snoc s t
    by_cases h : c = 47
    · subst h
      rw [List.cons_append, parts_slash, ih, parts_slash]; rfl
    · cases hp : parts s with
      | nil => exact absurd hp (parts_ne s)
      | cons p r =>
        rw [hp] at ih
        rw [List.cons_append, parts_cons c h _ p (r ++ parts t) ih, parts_cons c h s p r hp]; rfl
theorem nameB_parts {s : Bs} (h : nameB s = true) : s.length ≤ 80 ∧ ∃ p r, parts s = p :: r ∧ 1 ≤ r.length ∧ r.length ≤ 3 ∧ firstB p = true ∧ r.all partB = true := by
  unfold nameB at h
  simp only [Bool.and_eq_true, decide_eq_true_eq] at h
  obtain ⟨⟨⟨h1, h2, h3⟩, h4⟩, h5⟩ := h
  cases hp : parts s with
  | nil => exact absurd hp (parts_ne s)
  | cons p r =>
    rw [hp] at h2 h3 h4 h5
    simp only [List.length_cons] at h2 h3
    exact ⟨h1, p, r, rfl, by omega, by omega, h4, h5⟩
theorem nameB_count {s : Bs} (h : nameB s = true) : 1 ≤ s.count 47 ∧ s.count 47 ≤ 3 := by
  obtain ⟨_, p, r, hp, h1, h2, _⟩ := nameB_parts h
  have := parts_len s
  rw [hp, List.length_cons] at this
  omega
theorem end_slash (s : Bs) : nameB (s ++ [47]) = false := by
  cases h : nameB (s ++ [47]) with
  | false => rfl
  | true =>
    obtain ⟨_, p, r, hp, _, _, _, h5⟩ := nameB_parts h
    have e : parts (s ++ [47]) = parts s ++ [[]] := parts_snoc s []
    rw [e] at hp
    cases hs : parts s with
    | nil => exact absurd hs (parts_ne s)
    | cons q t =>
      rw [hs] at hp
      injection hp with e1 e2
      have := List.all_eq_true.1 h5 [] (by rw [← e2]; simp)
      revert this; decide
theorem start_slash (s : Bs) : nameB (47 :: s) = false := by
  cases h : nameB (47 :: s) with
  | false => rfl
  | true =>
    obtain ⟨_, p, r, hp, _, _, h4, _⟩ := nameB_parts h
    rw [parts_slash] at hp
    injection hp with e1 e2
    rw [← e1] at h4; revert h4; decide
theorem start_x (s : Bs) : nameB (120 :: s) = false := by
  cases h : nameB (120 :: s) with
  | false => rfl
  | true =>
    obtain ⟨_, p, r, hp, _, _, h4, _⟩ := nameB_parts h
    cases hs : parts s with
    | nil => exact absurd hs (parts_ne s)
    | cons q t =>
      rw [parts_cons 120 (by decide) s q t hs] at hp
      injection hp with e1 e2
      rw [← e1] at h4
      unfold firstB wHeads wTags at h4
      simp at h4
def letterB (c : UInt8) : Bool := c == 45 || c == 95 || (97 ≤ c && c ≤ 122) || (48 ≤ c && c ≤ 57)
theorem part_one (c : UInt8) (h : c ≠ 47) : partB [c] = letterB c := by
  have key : ∀ c : UInt8, (c == 47 || (partB [c] == letterB c)) = true := u8_all (p := fun c => c == 47 || (partB [c] == letterB c)) (by decide +kernel)
  have := key c
  simpa [h] using this
theorem letter_slash : letterB 47 = false := by decide
theorem name_more {s : Bs} (h : nameB s = true) (hl : s.length ≤ 78) (c : UInt8) : nameB (s ++ 47 :: [c]) = (letterB c && decide (s.count 47 < 3)) := by
  obtain ⟨_, p, r, hp, h1, h2, h4, h5⟩ := nameB_parts h
  have hc : s.count 47 = r.length := by have := parts_len s; rw [hp, List.length_cons] at this; omega
  have e := parts_snoc s [c]
  rw [hp] at e
  by_cases h47 : c = 47
  · subst h47
    rw [letter_slash, Bool.false_and]
    cases hn : nameB (s ++ 47 :: [47]) with
    | false => rfl
    | true =>
      obtain ⟨_, p', r', hp', _, _, _, h6⟩ := nameB_parts hn
      rw [e] at hp'
      injection hp' with e1 e2
      have := List.all_eq_true.1 h6 [] (by rw [← e2]; simp [parts])
      revert this; decide
  · have e3 : parts (s ++ 47 :: [c]) = p :: (r ++ [[c]]) := by rw [e, parts_one (p := [c]) (by simpa using fun x => h47 x.symm)]; rfl
    rw [hc, ← part_one c h47]
    by_cases h3 : r.length < 3
    · rw [decide_eq_true h3, name_parts (n := r.length + 2) (by simp; omega) e3 (by simp) (by omega) (by omega) h4, List.all_append, h5]
      simp
    · rw [decide_eq_false h3, Bool.and_false]
      exact name_many (by rw [e3]; simp; omega)
end Go.Proofs.YtfnepffccenebaaGreatDoor.Rf
