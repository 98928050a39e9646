/-
  Plain facts, without the program: a table of files as a list of paths and bytes that rises by its paths, held against what a map of the program reads as.
-/
import Derived.Maps.OwnSet
import Derived.Maps.Range
namespace Go.Proofs.YtccloieikkdcoaaGreatDoor
open Go

abbrev By := List UInt8
abbrev Tb := List (By × By)

def tins (x : By × By) : Tb → Tb
  | [] => [x]
  | y :: r => if bytesBefore x.1 y.1 then x :: y :: r else y :: tins x r
def tdel (p : By) (t : Tb) : Tb := t.filter fun q => !(q.1 == p)
def tput (p b : By) (t : Tb) : Tb := tins (p, b) (tdel p t)
def tget (p : By) (t : Tb) : Option By := (t.find? fun q => q.1 == p).map (·.2)
def tsize (t : Tb) : Nat := (t.map fun q => q.2.length).sum

/-- The entries of a map as read are those of a table, each value by Q. -/
def EntsOk (Q : Value → By → Prop) : List (Lit × DataW Value) → Tb → Prop
  | [], [] => True
  | x :: es, q :: t => x.1 = .string q.1 ∧ (∃ v, x.2 = .held v ∧ Q v q.2) ∧ EntsOk Q es t
  | _, _ => False

theorem EntsOk.mono {Q Q' : Value → By → Prop} (hq : ∀ v b, Q v b → Q' v b) : ∀ {es t}, EntsOk Q es t → EntsOk Q' es t
  | [], [], _ => trivial
  | _ :: _, _ :: _, ⟨h1, ⟨v, h2, h3⟩, h4⟩ => ⟨h1, ⟨v, h2, hq _ _ h3⟩, EntsOk.mono hq h4⟩
  | [], _ :: _, h => h.elim
  | _ :: _, [], h => h.elim

theorem EntsOk.insert {Q : Value → By → Prop} {p b : By} {v : Value} (hv : Q v b) : ∀ {es t}, EntsOk Q es t → EntsOk Q (DataW.insert (.string p, .held v) es) (tins (p, b) t)
  | [], [], _ => ⟨rfl, ⟨v, rfl, hv⟩, trivial⟩
  | x :: es, q :: t, ⟨h1, h2, h4⟩ => by
    unfold DataW.insert tins
    have e : (Lit.string p).before x.1 = bytesBefore p q.1 := by rw [h1]; rfl
    simp only [e]
    split
    · exact ⟨rfl, ⟨v, rfl, hv⟩, h1, h2, h4⟩
    · exact ⟨h1, h2, EntsOk.insert hv h4⟩
  | [], _ :: _, h => h.elim
  | _ :: _, [], h => h.elim

theorem sameKey_string (a b : By) : (Lit.string a).sameKey (.string b) = (a == b) := rfl

theorem EntsOk.filter {Q : Value → By → Prop} (p : By) : ∀ {es t}, EntsOk Q es t → EntsOk Q (es.filter fun x => !x.1.sameKey (.string p)) (tdel p t)
  | [], [], _ => trivial
  | x :: es, q :: t, ⟨h1, h2, h4⟩ => by
    have ih := EntsOk.filter p h4
    have e : x.1.sameKey (.string p) = (q.1 == p) := by rw [h1]; rfl
    unfold tdel at ih ⊢
    cases hq : (q.1 == p)
    · rw [List.filter_cons_of_pos (by rw [e, hq]; rfl), List.filter_cons_of_pos (by rw [hq]; rfl)]
      exact ⟨h1, h2, ih⟩
    · rw [List.filter_cons_of_neg (by rw [e, hq]; simp), List.filter_cons_of_neg (by rw [hq]; simp)]
      exact ih
  | [], _ :: _, h => h.elim
  | _ :: _, [], h => h.elim

theorem EntsOk.find {Q : Value → By → Prop} (p : By) : ∀ {es t}, EntsOk Q es t →
    (tget p t = none ∧ es.find? (fun x => x.1.sameKey (.string p)) = none) ∨
    (∃ b v k, tget p t = some b ∧ es.find? (fun x => x.1.sameKey (.string p)) = some (k, .held v) ∧ Q v b)
  | [], [], _ => .inl ⟨rfl, rfl⟩
  | x :: es, q :: t, ⟨h1, ⟨v, h2, h3⟩, h4⟩ => by
    have e : x.1.sameKey (.string p) = (q.1 == p) := by rw [h1]; rfl
    unfold tget
    cases hq : (q.1 == p)
    · rw [List.find?_cons_of_neg (by simp [hq]), List.find?_cons_of_neg (by simp [e, hq])]
      exact EntsOk.find p h4
    · rw [List.find?_cons_of_pos (by simp [hq]), List.find?_cons_of_pos (by simp [e, hq])]
      refine .inr ⟨q.2, v, x.1, rfl, ?_, h3⟩
      rw [← h2]
  | [], _ :: _, h => h.elim
  | _ :: _, [], h => h.elim

theorem EntsOk.length {Q : Value → By → Prop} : ∀ {es t}, EntsOk Q es t → es.length = t.length
  | [], [], _ => rfl
  | _ :: _, _ :: _, ⟨_, _, h4⟩ => by simp [EntsOk.length h4]
  | [], _ :: _, h => h.elim
  | _ :: _, [], h => h.elim

theorem EntsOk.mem {Q : Value → By → Prop} : ∀ {es t}, EntsOk Q es t → ∀ x ∈ es, ∃ q ∈ t, x.1 = .string q.1 ∧ ∃ v, x.2 = .held v ∧ Q v q.2
  | [], [], _, _, hx => by cases hx
  | y :: es, q :: t, ⟨h1, h2, h4⟩, x, hx => by
    rcases List.mem_cons.1 hx with rfl | hx
    · exact ⟨q, by simp, h1, h2⟩
    · obtain ⟨q', hq', r⟩ := EntsOk.mem h4 x hx
      exact ⟨q', by simp [hq'], r⟩
  | [], _ :: _, h, _, _ => h.elim
  | _ :: _, [], h, _, _ => h.elim

/-! ### bytesBefore is a strict order that is whole -/
theorem before_irrefl : ∀ a : By, bytesBefore a a = false
  | [] => rfl
  | x :: r => by simp [bytesBefore, before_irrefl r]

theorem before_trans : ∀ {a b c : By}, bytesBefore a b = true → bytesBefore b c = true → bytesBefore a c = true
  | [], _ :: _, _ :: _, _, _ => rfl
  | [], [], _, h, _ => by cases h
  | _ :: _, [], _, h, _ => by cases h
  | [], _ :: _, [], _, h => by cases h
  | _ :: _, _ :: _, [], _, h => by cases h
  | x :: a, y :: b, z :: c, h1, h2 => by
    simp only [bytesBefore, Bool.or_eq_true, Bool.and_eq_true, decide_eq_true_eq, beq_iff_eq] at h1 h2 ⊢
    rcases h1 with h1 | ⟨rfl, h1⟩ <;> rcases h2 with h2 | ⟨rfl, h2⟩
    · exact .inl (UInt8.lt_trans h1 h2)
    · exact .inl h1
    · exact .inl h2
    · exact .inr ⟨rfl, before_trans h1 h2⟩

theorem before_total : ∀ {a b : By}, bytesBefore a b = false → a ≠ b → bytesBefore b a = true
  | [], [], _, h => absurd rfl h
  | [], _ :: _, h, _ => by cases h
  | _ :: _, [], _, _ => rfl
  | x :: a, y :: b, h, hne => by
    simp only [bytesBefore, Bool.or_eq_false_iff, Bool.and_eq_false_iff, decide_eq_false_iff_not, beq_eq_false_iff_ne] at h
    simp only [bytesBefore, Bool.or_eq_true, Bool.and_eq_true, decide_eq_true_eq, beq_iff_eq]
    obtain ⟨h1, h2⟩ := h
    by_cases e : x = y
    · subst e
      refine .inr ⟨rfl, before_total (h2.resolve_left (fun h => h rfl)) (fun e => hne (by rw [e]))⟩
    · exact .inl (by
        rcases UInt8.lt_or_eq_of_le (UInt8.not_lt.1 h1) with h | h
        · exact h
        · exact absurd h.symm e)

theorem before_asymm {a b : By} (h : bytesBefore a b = true) : bytesBefore b a = false := by
  cases h' : bytesBefore b a
  · rfl
  · have := before_trans h h'; rw [before_irrefl] at this; cases this

theorem before_ne {a b : By} (h : bytesBefore a b = true) : a ≠ b := fun e => by subst e; rw [before_irrefl] at h; cases h

/-- The table rises by its paths. -/
def Rises (t : Tb) : Prop := t.Pairwise fun x y => bytesBefore x.1 y.1 = true

theorem Rises.nil : Rises [] := List.Pairwise.nil

theorem mem_tins {x y : By × By} : ∀ {t : Tb}, y ∈ tins x t ↔ y = x ∨ y ∈ t
  | [] => by simp [tins]
  | z :: r => by
    unfold tins
    split
    · simp
    · simp only [List.mem_cons, mem_tins (t := r)]
      constructor
      · rintro (h | h | h) <;> simp [h]
      · rintro (h | h | h) <;> simp [h]

theorem Rises.tins {x : By × By} : ∀ {t : Tb}, Rises t → (∀ y ∈ t, y.1 ≠ x.1) → Rises (tins x t)
  | [], _, _ => by simp [Go.Proofs.YtccloieikkdcoaaGreatDoor.tins, Rises]
  | z :: r, h, hne => by
    unfold Go.Proofs.YtccloieikkdcoaaGreatDoor.tins
    have h' := List.pairwise_cons.1 h
    split
    · rename_i hb
      refine List.pairwise_cons.2 ⟨fun y hy => ?_, h⟩
      rcases List.mem_cons.1 hy with rfl | hy
      · exact hb
      · exact before_trans hb (h'.1 y hy)
    · rename_i hb
      refine List.pairwise_cons.2 ⟨fun y hy => ?_, Rises.tins h'.2 (fun y hy => hne y (by simp [hy]))⟩
      rcases mem_tins.1 hy with rfl | hy
      · exact before_total (by simpa using hb) (fun e => hne z (by simp) e.symm)
      · exact h'.1 y hy

theorem mem_tdel {p : By} {y : By × By} {t : Tb} : y ∈ tdel p t ↔ y ∈ t ∧ y.1 ≠ p := by
  simp [tdel, List.mem_filter]

theorem Rises.tdel {p : By} {t : Tb} (h : Rises t) : Rises (tdel p t) := List.Pairwise.filter _ h

theorem Rises.tput {p b : By} {t : Tb} (h : Rises t) : Rises (tput p b t) :=
  Rises.tins h.tdel (fun _ hy => (mem_tdel.1 hy).2)

/-! ### sizes -/
theorem tsize_tins (x : By × By) : ∀ t : Tb, tsize (tins x t) = x.2.length + tsize t
  | [] => by simp [tins, tsize]
  | z :: r => by
    unfold tins
    split
    · simp [tsize]
    · have := tsize_tins x r
      simp only [tsize, List.map_cons, List.sum_cons] at this ⊢
      omega

theorem tget_none_of {p : By} {t : Tb} (h : ∀ y ∈ t, y.1 ≠ p) : tget p t = none := by
  unfold tget
  rw [List.find?_eq_none.2 (fun y hy => by simpa using h y hy)]
  rfl

theorem tdel_of_none {p : By} : ∀ {t : Tb}, tget p t = none → tdel p t = t
  | [], _ => rfl
  | z :: r, h => by
    unfold tget at h
    cases hz : (z.1 == p)
    · rw [List.find?_cons_of_neg (by rw [hz]; simp)] at h
      have := tdel_of_none (p := p) (t := r) h
      unfold tdel at this ⊢
      rw [List.filter_cons_of_pos (by rw [hz]; rfl), this]
    · rw [List.find?_cons_of_pos (by rw [hz])] at h; cases h

theorem tsize_tdel {p : By} : ∀ {t : Tb}, Rises t → ∀ b, tget p t = some b → tsize (tdel p t) + b.length = tsize t
  | [], _, _, h => by cases h
  | z :: r, hr, b, h => by
    have h' := List.pairwise_cons.1 hr
    unfold tget at h
    cases hz : (z.1 == p)
    · rw [List.find?_cons_of_neg (by rw [hz]; simp)] at h
      have := tsize_tdel h'.2 b h
      unfold tdel at this ⊢
      rw [List.filter_cons_of_pos (by rw [hz]; rfl)]
      simp only [tsize, List.map_cons, List.sum_cons] at this ⊢
      omega
    · rw [List.find?_cons_of_pos (by rw [hz])] at h
      have e : z.2 = b := by simpa using h
      have hzp : z.1 = p := by simpa using hz
      unfold tdel
      rw [List.filter_cons_of_neg (by rw [hz]; simp)]
      have hn : tdel p r = r := tdel_of_none (tget_none_of fun y hy e' => before_ne (h'.1 y hy) (by rw [hzp, e']))
      unfold tdel at hn
      rw [hn]
      simp [tsize, e]; omega

/-- How many bytes the file of a path has; none: 0. -/
def tlen (p : By) (t : Tb) : Nat := ((tget p t).getD []).length

theorem tsize_tput {p b : By} {t : Tb} (hr : Rises t) : tsize (tput p b t) + tlen p t = tsize t + b.length := by
  unfold tput tlen
  rw [tsize_tins]
  cases h : tget p t with
  | none => simp [tdel_of_none h]; omega
  | some c => have := tsize_tdel hr c h; simp; omega

theorem tsize_del {p : By} {t : Tb} (hr : Rises t) : tsize (tdel p t) + tlen p t = tsize t := by
  unfold tlen
  cases h : tget p t with
  | none => simp [tdel_of_none h]
  | some c => have := tsize_tdel hr c h; simp; omega

theorem tlen_le {p : By} {t : Tb} (hr : Rises t) : tlen p t ≤ tsize t := by
  have := tsize_del (p := p) hr; omega

/-! ### what is found -/
theorem find_tins_miss {p : By} {x : By × By} (hx : (x.1 == p) = false) : ∀ t : Tb, (tins x t).find? (fun q => q.1 == p) = t.find? (fun q => q.1 == p)
  | [] => by simp [tins, hx]
  | z :: r => by
    have ih := find_tins_miss hx r
    unfold tins
    split
    · rw [List.find?_cons_of_neg (by simp [hx])]
    · cases hz : (z.1 == p)
      · rw [List.find?_cons_of_neg (by simp [hz]), List.find?_cons_of_neg (by simp [hz]), ih]
      · rw [List.find?_cons_of_pos (by simp [hz]), List.find?_cons_of_pos (by simp [hz])]

theorem find_tins_hit {p : By} {x : By × By} (hx : (x.1 == p) = true) : ∀ t : Tb, (∀ y ∈ t, y.1 ≠ p) → (tins x t).find? (fun q => q.1 == p) = some x
  | [], _ => by simp [tins, hx]
  | z :: r, h => by
    have ih := find_tins_hit hx r (fun y hy => h y (by simp [hy]))
    unfold tins
    split
    · rw [List.find?_cons_of_pos (by simp [hx])]
    · rw [List.find?_cons_of_neg (by simpa using h z (by simp)), ih]

theorem tget_tput_same {p b : By} {t : Tb} : tget p (tput p b t) = some b := by
  unfold tput tget
  rw [find_tins_hit (by simp) _ (fun y hy => (mem_tdel.1 hy).2)]
  rfl

theorem find_tdel {p q : By} (h : q ≠ p) : ∀ t : Tb, (tdel p t).find? (fun x => x.1 == q) = t.find? (fun x => x.1 == q)
  | [] => rfl
  | z :: r => by
    have ih := find_tdel h r
    unfold tdel at ih ⊢
    cases hz : (z.1 == p)
    · rw [List.filter_cons_of_pos (by simp [hz])]
      cases hq : (z.1 == q)
      · rw [List.find?_cons_of_neg (by simp [hq]), List.find?_cons_of_neg (by simp [hq]), ih]
      · rw [List.find?_cons_of_pos (by simp [hq]), List.find?_cons_of_pos (by simp [hq])]
    · rw [List.filter_cons_of_neg (by simp [hz])]
      have e : z.1 = p := by simpa using hz
      rw [List.find?_cons_of_neg (by rw [e]; simpa using fun e => h e.symm), ih]

theorem tget_tput_other {p q b : By} {t : Tb} (h : q ≠ p) : tget q (tput p b t) = tget q t := by
  unfold tput tget
  rw [find_tins_miss (by simpa using fun e => h e.symm), find_tdel h]

theorem tget_tdel_same {p : By} {t : Tb} : tget p (tdel p t) = none := tget_none_of fun _ hy => (mem_tdel.1 hy).2
theorem tget_tdel_other {p q : By} {t : Tb} (h : q ≠ p) : tget q (tdel p t) = tget q t := by
  unfold tget; rw [find_tdel h]

theorem tget_mem {p b : By} {t : Tb} (h : tget p t = some b) : (p, b) ∈ t := by
  unfold tget at h
  cases hf : t.find? (fun q => q.1 == p) with
  | none => rw [hf] at h; cases h
  | some x =>
    rw [hf] at h
    have h1 := List.find?_some hf
    have h2 := List.mem_of_find?_eq_some hf
    have e1 : x.1 = p := by simpa using h1
    have e2 : x.2 = b := by simpa using h
    rw [← e1, ← e2]; exact h2

theorem tget_of_mem {p b : By} : ∀ {t : Tb}, Rises t → (p, b) ∈ t → tget p t = some b
  | [], _, h => by cases h
  | z :: r, hr, h => by
    have h' := List.pairwise_cons.1 hr
    unfold tget
    rcases List.mem_cons.1 h with rfl | h
    · rw [List.find?_cons_of_pos (by simp)]; rfl
    · rw [List.find?_cons_of_neg (by simpa using before_ne (h'.1 _ h))]
      exact tget_of_mem h'.2 h

theorem tdel_length_le (p : By) (t : Tb) : (tdel p t).length ≤ t.length := List.length_filter_le _ _
theorem tins_length (x : By × By) : ∀ t : Tb, (tins x t).length = t.length + 1
  | [] => rfl
  | z :: r => by
    unfold tins
    split
    · rfl
    · simp [tins_length x r]
theorem tput_length_le (p b : By) (t : Tb) : (tput p b t).length ≤ t.length + 1 := by
  unfold tput; rw [tins_length]; have := tdel_length_le p t; omega

/-- Two tables that rise, and tell the same of each path, are one. -/
theorem rises_ext : ∀ {t u : Tb}, Rises t → Rises u → (∀ p, tget p t = tget p u) → t = u
  | [], [], _, _, _ => rfl
  | [], z :: r, _, hu, h => by
    have := h z.1
    rw [tget_of_mem hu (p := z.1) (b := z.2) (by simp)] at this; cases this
  | z :: r, [], ht, _, h => by
    have := h z.1
    rw [tget_of_mem ht (p := z.1) (b := z.2) (by simp)] at this; cases this
  | z :: r, y :: s, ht, hu, h => by
    have ht' := List.pairwise_cons.1 ht
    have hu' := List.pairwise_cons.1 hu
    have hz : tget z.1 (y :: s) = some z.2 := by rw [← h, tget_of_mem ht (b := z.2) (by simp)]
    have hy : tget y.1 (z :: r) = some y.2 := by rw [h, tget_of_mem hu (b := y.2) (by simp)]
    have hzm := tget_mem hz
    have hym := tget_mem hy
    have e : z = y := by
      rcases List.mem_cons.1 hzm with e | hzs
      · exact e
      · rcases List.mem_cons.1 hym with e | hyr
        · exact e.symm
        · have h1 := hu'.1 _ hzs
          have h2 := ht'.1 _ hyr
          simp only at h1 h2
          rw [before_asymm h1] at h2; cases h2
    subst e
    congr 1
    refine rises_ext ht'.2 hu'.2 fun p => ?_
    by_cases hp : p = z.1
    · subst hp
      rw [tget_none_of fun w hw e => before_ne (ht'.1 w hw) e.symm, tget_none_of fun w hw e => before_ne (hu'.1 w hw) e.symm]
    · have := h p
      unfold tget at this ⊢
      rwa [List.find?_cons_of_neg (by simpa using fun e => hp e.symm), List.find?_cons_of_neg (by simpa using fun e => hp e.symm)] at this

end Go.Proofs.YtccloieikkdcoaaGreatDoor
