/-
  Lines of refs, plain: how they are read.
-/
import Derived.Test.YtfnepffccenebaaGreatDoorRMem
import Derived.Test.YtfnepffccenebaaGreatDoorPlain
namespace Go.Proofs.YtfnepffccenebaaGreatDoor.Rf
open Go.Proofs.YtfnepffccenebaaGreatDoor

theorem cut_mk {c : UInt8} : ∀ {a r : Bs}, c ∉ a → cutAt c (a ++ c :: r) = some (a, r)
  | [], r, _ => by simp [cutAt]
  | x :: a, r, h => by
    have hx : ¬ x = c := fun e => h (by rw [e]; simp)
    rw [List.cons_append, cutAt, if_neg hx, cut_mk fun hm => h (List.mem_cons_of_mem _ hm)]; rfl
theorem cut_no {c : UInt8} : ∀ {s : Bs}, cutAt c s = none → c ∉ s
  | [], _ => by simp
  | x :: s, h => by
    rw [cutAt] at h
    by_cases hx : x = c
    · rw [if_pos hx] at h; cases h
    · rw [if_neg hx, Option.map_eq_none_iff] at h
      intro hm
      rcases List.mem_cons.1 hm with e | hm
      · exact hx e.symm
      · exact cut_no h hm
theorem mem_parts : ∀ {s : Bs} {c : UInt8}, c ∈ s → c = 47 ∨ ∃ p ∈ parts s, c ∈ p
  | [], c, h => by cases h
  | x :: s, c, h => by
    by_cases hx : x = 47
    · rcases List.mem_cons.1 h with e | h
      · exact .inl (e.trans hx)
      · rcases mem_parts h with h | ⟨p, hp, hc⟩
        · exact .inl h
        · exact .inr ⟨p, by rw [hx, parts_slash]; exact List.mem_cons_of_mem _ hp, hc⟩
    · cases hp : parts s with
      | nil => exact absurd hp (parts_ne s)
      | cons q r =>
        rw [parts_cons x hx s q r hp]
        rcases List.mem_cons.1 h with e | h
        · exact .inr ⟨x :: q, List.mem_cons_self, by rw [e]; simp⟩
        · rcases mem_parts h with h | ⟨p, hpm, hc⟩
          · exact .inl h
          · rw [hp] at hpm
            rcases List.mem_cons.1 hpm with rfl | hpm
            · exact .inr ⟨x :: p, List.mem_cons_self, List.mem_cons_of_mem _ hc⟩
            · exact .inr ⟨p, List.mem_cons_of_mem _ hpm, hc⟩
theorem name_char {s : Bs} (h : nameB s = true) {c : UInt8} (hc : c ∈ s) : c ≠ 10 ∧ c ≠ 32 := by
  rcases mem_parts hc with rfl | ⟨p, hp, hcp⟩
  · exact ⟨by decide, by decide⟩
  · unfold nameB at h
    simp only [Bool.and_eq_true] at h
    obtain ⟨⟨_, hf⟩, hr⟩ := h
    cases hps : parts s with
    | nil => exact absurd hps (parts_ne s)
    | cons q r =>
      rw [hps] at hp hf hr
      rcases List.mem_cons.1 hp with rfl | hp
      · have hf : firstB p = true := hf
        unfold firstB at hf
        simp only [Bool.or_eq_true, beq_iff_eq] at hf
        rcases hf with rfl | rfl
        · simp [wHeads] at hcp
          rcases hcp with rfl | rfl | rfl | rfl | rfl <;> decide
        · simp [wTags] at hcp
          rcases hcp with rfl | rfl | rfl | rfl <;> decide
      · have hq := List.all_eq_true.1 hr p hp
        unfold partB at hq
        simp only [Bool.and_eq_true] at hq
        have hb := List.all_eq_true.1 hq.2 c hcp
        constructor <;> (rintro rfl; revert hb; decide)
theorem named_char {s : Bs} (h : namedB s = true) {c : UInt8} (hc : c ∈ s) : c ≠ 10 ∧ c ≠ 32 := by
  unfold namedB at h
  simp only [Bool.and_eq_true] at h
  have hb := List.all_eq_true.1 h.2 c hc
  constructor <;> (rintro rfl; revert hb; decide)
/-- A right ref's line, read. -/
theorem line_cut {x : Ref} (h1 : nameB x.name = true) (h2 : namedB x.id = true) (r : Bs) : cutAt 10 (lineL x ++ r) = some (x.id ++ 32 :: x.name, r) ∧ cutAt 32 (x.id ++ 32 :: x.name) = some (x.id, x.name) := by
  constructor
  · have e : lineL x ++ r = (x.id ++ 32 :: x.name) ++ 10 :: r := by unfold lineL; simp
    rw [e]
    refine cut_mk fun hm => ?_
    rcases List.mem_append.1 hm with hm | hm
    · exact (named_char h2 hm).1 rfl
    · rcases List.mem_cons.1 hm with e | hm
      · cases e
      · exact (name_char h1 hm).1 rfl
  · exact cut_mk fun hm => (named_char h2 hm).2 rfl
theorem linesL_cons (x : Ref) (l : List Ref) : linesL (x :: l) = lineL x ++ linesL l := rfl
theorem linesL_app (l m : List Ref) : linesL (l ++ m) = linesL l ++ linesL m := List.flatMap_append
/-- Lines are those of one list alone. -/
theorem lines_inj : ∀ {l m : List Ref}, (∀ x ∈ l, nameB x.name = true ∧ namedB x.id = true) → (∀ x ∈ m, nameB x.name = true ∧ namedB x.id = true) → linesL l = linesL m → l = m
  | [], [], _, _, _ => rfl
  | [], y :: m, _, _, h => by rw [linesL_cons] at h; have := congrArg List.length h; simp [linesL, lineL] at this
  | x :: l, [], _, _, h => by rw [linesL_cons] at h; have := congrArg List.length h; simp [linesL, lineL] at this
  | x :: l, y :: m, hl, hm, h => by
    have hx := hl x List.mem_cons_self
    have hy := hm y List.mem_cons_self
    rw [linesL_cons, linesL_cons] at h
    obtain ⟨a1, a2⟩ := line_cut hx.1 hx.2 (linesL l)
    obtain ⟨b1, b2⟩ := line_cut hy.1 hy.2 (linesL m)
    rw [h, b1] at a1
    injection a1 with a1
    injection a1 with a3 a4
    rw [← a3, b2] at a2
    injection a2 with a2
    injection a2 with a5 a6
    rw [Ref.ext' a6.symm a5.symm, lines_inj (fun z hz => hl z (List.mem_cons_of_mem _ hz)) (fun z hz => hm z (List.mem_cons_of_mem _ hz)) a4.symm]
theorem Right.each {l : List Ref} (h : Right l) : ∀ x ∈ l, nameB x.name = true ∧ namedB x.id = true := fun x hx => ⟨h.name x hx, h.id x hx⟩
theorem IsGet.unique {s : Bs} {l m : List Ref} (h : IsGet s l) (k : IsGet s m) : l = m := lines_inj h.1.each k.1.each (h.2.trans k.2.symm)
/-- What is read so far. -/
structure GetI (s0 s : Bs) (l : List Ref) : Prop where
  eq : (∃ r ∈ l, r.name = []) ∨ s0 = linesL l ++ s
  all : ∀ m, IsGet s0 m → ∃ t, m = l ++ t ∧ linesL t = s
  len : l.length ≤ 64
  fit : ∀ r ∈ l, r.name.length ≤ s0.length ∧ r.id.length ≤ s0.length
  sl : s.length ≤ s0.length
theorem GetI.start (s : Bs) : GetI s s [] := ⟨.inr rfl, fun m h => ⟨m, rfl, h.2⟩, Nat.zero_le _, (fun _ h => by cases h), Nat.le_refl _⟩
theorem GetI.no_end {s0 s : Bs} {l : List Ref} (h : GetI s0 s l) (hs : s ≠ []) (hc : cutAt 10 s = none) : ∀ m, ¬ IsGet s0 m := fun m hm => by
  obtain ⟨t, _, ht⟩ := h.all m hm
  cases t with
  | nil => exact hs ht.symm
  | cons r t =>
    rw [linesL_cons] at ht
    refine cut_no hc ?_
    rw [← ht]; simp [lineL]
theorem GetI.full {s0 s : Bs} {l : List Ref} (h : GetI s0 s l) (hs : s ≠ []) (hl : l.length = 64) : ∀ m, ¬ IsGet s0 m := fun m hm => by
  obtain ⟨t, e, ht⟩ := h.all m hm
  cases t with
  | nil => exact hs ht.symm
  | cons r t =>
    have := hm.1.len
    rw [e] at this; simp at this; omega
theorem GetI.step {s0 s line rest : Bs} {l : List Ref} (h : GetI s0 s l) (hl : l.length < 64) (hc : cutAt 10 s = some (line, rest)) (x : Ref)
    (hx : cutAt 32 line = some (x.id, x.name) ∨ cutAt 32 line = none ∧ x.id = line ∧ x.name = []) : GetI s0 rest (l ++ [x]) ∧ rest.length < s.length := by
  obtain ⟨e, _⟩ := cutAt_some hc
  have hlen : s.length = line.length + 1 + rest.length := by rw [e]; simp; omega
  have hxl : x.name.length ≤ line.length ∧ x.id.length ≤ line.length := by
    rcases hx with hx | ⟨_, h1, h2⟩
    · obtain ⟨e2, _⟩ := cutAt_some hx
      rw [e2]; simp; omega
    · rw [h1, h2]; exact ⟨Nat.zero_le _, Nat.le_refl _⟩
  have hsl := h.sl
  refine ⟨⟨?_, fun m hm => ?_, by simp; omega, fun r hr => ?_, by omega⟩, by omega⟩
  · rcases hx with hx | ⟨_, _, h2⟩
    · rcases h.eq with ⟨r, hr, h3⟩ | h3
      · exact .inl ⟨r, List.mem_append_left _ hr, h3⟩
      · obtain ⟨e2, _⟩ := cutAt_some hx
        refine .inr ?_
        rw [h3, linesL_app, e, e2]
        show _ = linesL l ++ (lineL x ++ []) ++ rest
        unfold lineL
        simp
    · exact .inl ⟨x, by simp, h2⟩
  · obtain ⟨t, e1, ht⟩ := h.all m hm
    cases t with
    | nil =>
      have : s.length = 0 := by rw [← ht]; rfl
      omega
    | cons r t =>
      rw [linesL_cons] at ht
      have hr : r ∈ m := by rw [e1]; simp
      obtain ⟨a1, a2⟩ := line_cut (hm.1.name r hr) (hm.1.id r hr) (linesL t)
      rw [ht, hc] at a1
      injection a1 with a1
      injection a1 with a3 a4
      rw [← a3] at a2
      rcases hx with hx | ⟨hx, _, _⟩
      · rw [hx] at a2
        injection a2 with a2
        injection a2 with a5 a6
        refine ⟨t, ?_, a4.symm⟩
        rw [e1, ← Ref.ext' a6 a5]; simp
      · rw [hx] at a2; cases a2
  · rcases List.mem_append.1 hr with hr | hr
    · exact h.fit r hr
    · rw [List.mem_singleton.1 hr]; omega
theorem GetI.yes {s0 : Bs} {l : List Ref} (h : GetI s0 [] l) (hr : Right l) : IsGet s0 l := by
  rcases h.eq with ⟨r, hm, h3⟩ | h3
  · have := hr.name r hm
    rw [h3] at this; cases this
  · exact ⟨hr, by rw [h3]; simp⟩
theorem GetI.no {s0 : Bs} {l : List Ref} (h : GetI s0 [] l) (hr : ¬ Right l) : ∀ m, ¬ IsGet s0 m := fun m hm => by
  obtain ⟨t, e, ht⟩ := h.all m hm
  cases t with
  | nil => rw [List.append_nil] at e; rw [← e] at hr; exact hr hm.1
  | cons r t => rw [linesL_cons] at ht; have := congrArg List.length ht; simp [lineL] at this
end Go.Proofs.YtfnepffccenebaaGreatDoor.Rf
