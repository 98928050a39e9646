/-
  A row of bytes as ways from a first state, by a byte each: what makes such a graph right, and that it stays so when a byte comes behind.
-/
import Derived.WalkKit
namespace Go.Proofs.Ytbgnemephcbgeaa
abbrev Bs := List UInt8

/-- A word ends in p at e. -/
def Ends (p w : Bs) (e : Nat) : Prop := e ≤ p.length ∧ w <:+ p.take e
def Occ (p w : Bs) : Prop := ∃ e, Ends p w e
/-- Two words end at the same places. -/
def Alike (p u w : Bs) : Prop := ∀ e, Ends p u e ↔ Ends p w e

theorem Alike.refl (p u : Bs) : Alike p u u := fun _ => Iff.rfl
theorem Alike.symm {p u w : Bs} (h : Alike p u w) : Alike p w u := fun e => (h e).symm
theorem Alike.trans {p u v w : Bs} (h : Alike p u v) (k : Alike p v w) : Alike p u w := fun e => (h e).trans (k e)
theorem Alike.occ {p u w : Bs} (h : Alike p u w) (k : Occ p u) : Occ p w := k.imp fun e he => (h e).1 he
theorem Ends.suffix {p u w : Bs} {e : Nat} (h : Ends p w e) (k : u <:+ w) : Ends p u e := ⟨h.1, k.trans h.2⟩
theorem Ends.both {p u w : Bs} {e : Nat} (h : Ends p u e) (k : Ends p w e) (hl : u.length ≤ w.length) : u <:+ w := List.suffix_of_suffix_length_le h.2 k.2 hl
theorem Ends.len {p w : Bs} {e : Nat} (h : Ends p w e) : w.length ≤ e := by
  have := h.2.length_le
  rw [List.length_take] at this
  omega
theorem ends_nil (p : Bs) {e : Nat} (h : e ≤ p.length) : Ends p [] e := ⟨h, List.nil_suffix⟩
theorem Occ.suffix {p u w : Bs} (h : Occ p w) (k : u <:+ w) : Occ p u := h.imp fun _ he => he.suffix k
theorem ends_all (p : Bs) : Ends p p p.length := ⟨Nat.le_refl _, by rw [List.take_length]; exact List.suffix_refl _⟩
theorem suffix_ends {p w : Bs} : w <:+ p ↔ Ends p w p.length := ⟨fun h => ⟨Nat.le_refl _, by rw [List.take_length]; exact h⟩, fun h => by have := h.2; rwa [List.take_length] at this⟩

theorem suffix_snoc {u w : Bs} {a b : UInt8} : u ++ [a] <:+ w ++ [b] ↔ u <:+ w ∧ a = b := by
  constructor
  · rintro ⟨t, ht⟩
    rw [← List.append_assoc] at ht
    have := List.append_inj' ht rfl
    exact ⟨⟨t, this.1⟩, by simpa using this.2⟩
  · rintro ⟨⟨t, ht⟩, rfl⟩
    exact ⟨t, by rw [← List.append_assoc, ht]⟩

/-- A word with a byte more. -/
theorem ends_snoc {p w : Bs} {c : UInt8} {e : Nat} : Ends p (w ++ [c]) e ↔ ∃ d, e = d + 1 ∧ Ends p w d ∧ p[d]? = some c := by
  constructor
  · intro h
    have hl := h.len
    rw [List.length_append, List.length_singleton] at hl
    obtain ⟨d, rfl⟩ : ∃ d, e = d + 1 := ⟨e - 1, by omega⟩
    have hd : d < p.length := h.1
    have h2 := h.2
    rw [List.take_add_one, List.getElem?_eq_getElem hd, Option.toList_some, suffix_snoc] at h2
    exact ⟨d, rfl, ⟨by omega, h2.1⟩, by rw [List.getElem?_eq_getElem hd, h2.2]⟩
  · rintro ⟨d, rfl, h, hc⟩
    have hd : d < p.length := (List.getElem?_eq_some_iff.1 hc).1
    refine ⟨hd, ?_⟩
    rw [List.take_add_one, hc, Option.toList_some, suffix_snoc]
    exact ⟨h.2, rfl⟩
theorem Alike.snoc {p u w : Bs} (h : Alike p u w) (c : UInt8) : Alike p (u ++ [c]) (w ++ [c]) := fun e => by
  rw [ends_snoc, ends_snoc]
  exact ⟨fun ⟨d, a, b, x⟩ => ⟨d, a, (h d).1 b, x⟩, fun ⟨d, a, b, x⟩ => ⟨d, a, (h d).2 b, x⟩⟩

/-- Where a word ends when a byte has come behind. -/
theorem ends_more {p w : Bs} {c : UInt8} {e : Nat} : Ends (p ++ [c]) w e ↔ Ends p w e ∨ (e = p.length + 1 ∧ w <:+ p ++ [c]) := by
  constructor
  · intro h
    have h1 := h.1
    rw [List.length_append, List.length_singleton] at h1
    by_cases he : e ≤ p.length
    · left
      have h2 := h.2
      rw [List.take_append_of_le_length he] at h2
      exact ⟨he, h2⟩
    · right
      obtain rfl : e = p.length + 1 := by omega
      have h2 := h.2
      rw [List.take_of_length_le (by simp)] at h2
      exact ⟨rfl, h2⟩
  · rintro (h | ⟨rfl, h⟩)
    · exact ⟨by rw [List.length_append]; have := h.1; omega, by rw [List.take_append_of_le_length h.1]; exact h.2⟩
    · exact ⟨by simp, by rw [List.take_of_length_le (by simp)]; exact h⟩
theorem alike_old {p u w : Bs} {c : UInt8} (h : Alike (p ++ [c]) u w) : Alike p u w := fun e => by
  have := h e
  rw [ends_more, ends_more] at this
  constructor
  · intro k
    rcases this.1 (.inl k) with k2 | ⟨rfl, _⟩
    · exact k2
    · exact absurd k.1 (by omega)
  · intro k
    rcases this.2 (.inl k) with k2 | ⟨rfl, _⟩
    · exact k2
    · exact absurd k.1 (by omega)
theorem alike_more {p u w : Bs} {c : UInt8} (h : Alike p u w) (k : u <:+ p ++ [c] ↔ w <:+ p ++ [c]) : Alike (p ++ [c]) u w := fun e => by
  rw [ends_more, ends_more, h e, k]
theorem alike_snoc_more {p u w : Bs} {c : UInt8} (h : Alike p u w) (d : UInt8) : Alike (p ++ [c]) (u ++ [d]) (w ++ [d]) := fun e => by
  have key : ∀ {u w : Bs}, Alike p u w → Ends (p ++ [c]) (u ++ [d]) e → Ends (p ++ [c]) (w ++ [d]) e := fun {u w} h k => by
    obtain ⟨j, h1, h2, h3⟩ := ends_snoc.1 k
    have hj : j < (p ++ [c]).length := (List.getElem?_eq_some_iff.1 h3).1
    rw [List.length_append, List.length_singleton] at hj
    refine ends_snoc.2 ⟨j, h1, ?_, h3⟩
    rcases ends_more.1 h2 with h4 | ⟨rfl, _⟩
    · exact ends_more.2 (.inl ((h j).1 h4))
    · omega
  exact ⟨key h, key h.symm⟩
theorem occ_more {p w : Bs} {c : UInt8} : Occ (p ++ [c]) w ↔ Occ p w ∨ w <:+ p ++ [c] := by
  constructor
  · rintro ⟨e, h⟩
    exact (ends_more.1 h).imp (fun h => ⟨e, h⟩) (fun h => h.2)
  · rintro (⟨e, h⟩ | h)
    · exact ⟨e, ends_more.2 (.inl h)⟩
    · exact ⟨_, ends_more.2 (.inr ⟨rfl, h⟩)⟩

/-- States, with their words (the longest of each), the first place where these end, what is wider, the edges. -/
structure Au where
  n : Nat
  W : Nat → Bs
  fin : Nat → Nat
  link : Nat → Option Nat
  δ : Nat → UInt8 → Option Nat

structure Good (p : Bs) (A : Au) : Prop where
  pos : 0 < A.n
  w0 : A.W 0 = []
  l0 : A.link 0 = none
  fst : ∀ v, v < A.n → Ends p (A.W v) (A.fin v) ∧ ∀ e, Ends p (A.W v) e → A.fin v ≤ e
  inj : ∀ u v, u < A.n → v < A.n → Alike p (A.W u) (A.W v) → u = v
  cls : ∀ w, Occ p w → ∃ v, v < A.n ∧ w.length ≤ (A.W v).length ∧ Alike p w (A.W v)
  lnk : ∀ v, v < A.n → v ≠ 0 → ∃ u, u < A.n ∧ A.link v = some u ∧ (A.W u).length < (A.W v).length ∧ A.W u <:+ A.W v ∧ ∀ w, w <:+ A.W v → (A.W u).length < w.length → Alike p w (A.W v)
  edg : ∀ v c t, v < A.n → A.δ v c = some t → t < A.n ∧ Occ p (A.W v ++ [c]) ∧ Alike p (A.W v ++ [c]) (A.W t)
  all : ∀ v c, v < A.n → Occ p (A.W v ++ [c]) → ∃ t, A.δ v c = some t

/-- A word is of a state. -/
def Of (p : Bs) (A : Au) (w : Bs) (v : Nat) : Prop := v < A.n ∧ w.length ≤ (A.W v).length ∧ Alike p w (A.W v)

namespace Good
variable {p : Bs} {A : Au} (G : Good p A)
include G

theorem occ {v : Nat} (h : v < A.n) : Occ p (A.W v) := ⟨_, (G.fst v h).1⟩
omit G in
theorem of_self {v : Nat} (h : v < A.n) : Of p A (A.W v) v := ⟨h, Nat.le_refl _, .refl _ _⟩
theorem of_uniq {w : Bs} {u v : Nat} (h : Of p A w u) (k : Of p A w v) : u = v := G.inj u v h.1 k.1 (h.2.2.symm.trans k.2.2)
/-- What is alike to a state's word is no longer, and it ends with it. -/
theorem of_alike {w : Bs} {v : Nat} (h : v < A.n) (k : Alike p w (A.W v)) : Of p A w v := by
  obtain ⟨u, h1, h2, h3⟩ := G.cls w (k.symm.occ (G.occ h))
  obtain rfl := G.inj u v h1 h (h3.symm.trans k)
  exact ⟨h1, h2, h3⟩
theorem of_suffix {w : Bs} {v : Nat} (h : Of p A w v) : w <:+ A.W v := by
  have h1 := (G.fst v h.1).1
  exact ((h.2.2 _).2 h1).both h1 h.2.1
/-- Along an edge. -/
theorem step {w : Bs} {v t : Nat} {c : UInt8} (h : Of p A w v) (hd : A.δ v c = some t) : Of p A (w ++ [c]) t := by
  obtain ⟨h1, h2, h3⟩ := G.edg v c t h.1 hd
  exact G.of_alike h1 ((h.2.2.snoc c).trans h3)
theorem stuck {w : Bs} {v : Nat} {c : UInt8} (h : Of p A w v) (hd : A.δ v c = none) : ¬ Occ p (w ++ [c]) := fun k => by
  obtain ⟨t, ht⟩ := G.all v c h.1 ((h.2.2.snoc c).occ k)
  rw [hd] at ht; cases ht
theorem first {w : Bs} {v : Nat} (h : Of p A w v) : Ends p w (A.fin v) ∧ ∀ e, Ends p w e → A.fin v ≤ e :=
  ⟨(h.2.2 _).2 (G.fst v h.1).1, fun e he => (G.fst v h.1).2 e ((h.2.2 e).1 he)⟩
theorem of_nil : Of p A [] 0 := ⟨G.pos, by rw [G.w0]; exact Nat.le_refl _, by rw [G.w0]; exact .refl _ _⟩
/-- Of the way along what is wider. -/
theorem chain {v u : Nat} (h : v < A.n) (hs : A.W v <:+ p) (hl : A.link v = some u) : u < A.n ∧ (A.W u).length < (A.W v).length ∧ A.W u <:+ p ∧ ∀ w, w <:+ p → w.length ≤ (A.W v).length → (A.W u).length < w.length → Of p A w v := by
  have h0 : v ≠ 0 := by rintro rfl; rw [G.l0] at hl; cases hl
  obtain ⟨x, h1, h2, h3, h4, h5⟩ := G.lnk v h h0
  rw [hl] at h2; cases h2
  exact ⟨h1, h3, h4.trans hs, fun w hw hwl hul => ⟨h, hwl, h5 w (List.suffix_of_suffix_length_le hw hs hwl) hul⟩⟩
theorem lnk_of {v u : Nat} (h : v < A.n) (hl : A.link v = some u) : u < A.n ∧ (A.W u).length < (A.W v).length ∧ A.W u <:+ A.W v ∧ ∀ w, w <:+ A.W v → (A.W u).length < w.length → Of p A w v := by
  have h0 : v ≠ 0 := by rintro rfl; rw [G.l0] at hl; cases hl
  obtain ⟨x, h1, h2, h3, h4, h5⟩ := G.lnk v h h0
  rw [hl] at h2; cases h2
  exact ⟨h1, h3, h4, fun w hw hul => ⟨h, hw.length_le, h5 w hw hul⟩⟩
theorem none_zero {v : Nat} (h : v < A.n) (hl : A.link v = none) : v = 0 := by
  rcases Nat.eq_zero_or_pos v with h0 | h0
  · exact h0
  · obtain ⟨u, _, h2, _⟩ := G.lnk v h (by omega)
    rw [hl] at h2; cases h2
/-- A state whose word is none has the number 0. -/
theorem nil_zero {v : Nat} (h : v < A.n) (hw : A.W v = []) : v = 0 := G.inj v 0 h G.pos (by rw [hw, G.w0]; exact .refl _ _)
theorem edge_len {v t : Nat} {c : UInt8} (h : v < A.n) (hd : A.δ v c = some t) : (A.W v).length + 1 ≤ (A.W t).length := by
  have := (G.step (Good.of_self h) hd).2.1
  simpa using this
end Good

/-- What goes ahead of a new byte: the first state on the way along what is wider that has an edge by it (none if there is none such). -/
structure Goes (p : Bs) (A : Au) (c : UInt8) (at_ : Option Nat) : Prop where
  lt : ∀ v, at_ = some v → v < A.n ∧ A.W v <:+ p
  no : ∀ w, w <:+ p → (∀ v, at_ = some v → (A.W v).length < w.length) → ¬ Occ p (w ++ [c])

theorem Goes.start {p : Bs} {A : Au} {c : UInt8} {last : Nat} (h : last < A.n) (hw : A.W last = p) : Goes p A c (some last) :=
  ⟨fun v e => by cases e; exact ⟨h, by rw [hw]; exact List.suffix_refl _⟩, fun w h1 h2 => by have := h2 last rfl; rw [hw] at this; have := h1.length_le; omega⟩
theorem Goes.next {p : Bs} {A : Au} (G : Good p A) {c : UInt8} {v : Nat} (h : Goes p A c (some v)) (hd : A.δ v c = none) : Goes p A c (A.link v) := by
  obtain ⟨h1, h2⟩ := h.lt v rfl
  have hno : ∀ w, Of p A w v → ¬ Occ p (w ++ [c]) := fun w hw => G.stuck hw hd
  cases hl : A.link v with
  | none =>
    obtain rfl := G.none_zero h1 hl
    refine ⟨fun v e => (by cases e), fun w hw _ => ?_⟩
    by_cases hlen : (A.W 0).length < w.length
    · exact h.no w hw fun v e => by cases e; exact hlen
    · rw [G.w0] at hlen
      obtain rfl : w = [] := List.length_eq_zero_iff.1 (by simpa using hlen)
      exact hno [] G.of_nil
  | some u =>
    obtain ⟨h3, h4, h5, h6⟩ := G.chain h1 h2 hl
    refine ⟨fun v e => by cases e; exact ⟨h3, h5⟩, fun w hw hul => ?_⟩
    by_cases hlen : (A.W v).length < w.length
    · exact h.no w hw fun v e => by cases e; exact hlen
    · exact hno w (h6 w hw (by omega) (hul u rfl))

/-- The longest end of all that there is now that was there ahead: what Goes comes to. -/
structure Long (p : Bs) (c : UInt8) (s : Bs) : Prop where
  suf : s <:+ p ++ [c]
  occ : Occ p s
  max : ∀ w, w <:+ p ++ [c] → Occ p w → w.length ≤ s.length

theorem suffix_snoc_cases {w p : Bs} {c : UInt8} (h : w <:+ p ++ [c]) : w = [] ∨ ∃ u, w = u ++ [c] ∧ u <:+ p := by
  rcases List.eq_nil_or_concat w with rfl | ⟨u, a, rfl⟩
  · exact .inl rfl
  · rw [List.concat_eq_append] at h ⊢
    obtain ⟨h1, rfl⟩ := suffix_snoc.1 h
    exact .inr ⟨u, rfl, h1⟩
theorem Goes.long_none {p : Bs} {A : Au} {c : UInt8} (h : Goes p A c none) : Long p c [] :=
  ⟨List.nil_suffix, ⟨0, ends_nil p (Nat.zero_le _)⟩, fun w hw ho => by
    rcases suffix_snoc_cases hw with rfl | ⟨u, rfl, hu⟩
    · exact Nat.le_refl _
    · exact absurd ho (h.no u hu fun v e => by cases e)⟩
theorem Goes.long_some {p : Bs} {A : Au} (G : Good p A) {c : UInt8} {v q : Nat} (h : Goes p A c (some v)) (hd : A.δ v c = some q) : Long p c (A.W v ++ [c]) := by
  obtain ⟨h1, h2⟩ := h.lt v rfl
  refine ⟨suffix_snoc.2 ⟨h2, rfl⟩, (G.edg v c q h1 hd).2.1, fun w hw ho => ?_⟩
  rcases suffix_snoc_cases hw with rfl | ⟨u, rfl, hu⟩
  · simp
  · rw [List.length_append, List.length_append]
    refine Nat.add_le_add_right ?_ _
    rcases Nat.lt_or_ge (A.W v).length u.length with hlt | hge
    · exact absurd ho (h.no u hu fun v e => by cases e; exact hlt)
    · exact hge

/-- When a byte has come behind: no state is split. -/
structure Plain (p : Bs) (A : Au) (c : UInt8) (s : Bs) (x : Nat) (A' : Au) : Prop where
  n : A'.n = A.n + 1
  W : ∀ u, u < A.n → A'.W u = A.W u
  Wn : A'.W A.n = p ++ [c]
  fin : ∀ u, u < A.n → A'.fin u = A.fin u
  finn : A'.fin A.n = p.length + 1
  link : ∀ u, u < A.n → A'.link u = A.link u
  linkn : A'.link A.n = some x
  vis : ∀ u, u < A.n → A.W u <:+ p → s.length ≤ (A.W u).length → A'.δ u c = some A.n
  old : ∀ u d, u < A.n → ¬ (d = c ∧ A.W u <:+ p ∧ s.length ≤ (A.W u).length) → A'.δ u d = A.δ u d
  δn : ∀ d, A'.δ A.n d = none

/-- The state that has the longest end is split. -/
structure Split (p : Bs) (A : Au) (c : UInt8) (s : Bs) (q : Nat) (A' : Au) : Prop where
  n : A'.n = A.n + 1 + 1
  W : ∀ u, u < A.n → A'.W u = A.W u
  Wn : A'.W A.n = p ++ [c]
  Ws : A'.W (A.n + 1) = s
  fin : ∀ u, u < A.n → A'.fin u = A.fin u
  finn : A'.fin A.n = p.length + 1
  fins : A'.fin (A.n + 1) = A.fin q
  link : ∀ u, u < A.n → u ≠ q → A'.link u = A.link u
  linkq : A'.link q = some (A.n + 1)
  linkn : A'.link A.n = some (A.n + 1)
  links : A'.link (A.n + 1) = A.link q
  vis : ∀ u, u < A.n → A.W u <:+ p → s.length ≤ (A.W u).length → A'.δ u c = some A.n
  turn : ∀ u, u < A.n → A.W u <:+ p → (A.W u).length < s.length → A.δ u c = some q → A'.δ u c = some (A.n + 1)
  keep : ∀ u, u < A.n → A.W u <:+ p → (A.W u).length < s.length → A.δ u c ≠ some q → A'.δ u c = A.δ u c
  old : ∀ u d, u < A.n → ¬ (d = c ∧ A.W u <:+ p) → A'.δ u d = A.δ u d
  δn : ∀ d, A'.δ A.n d = none
  δs : ∀ d, A'.δ (A.n + 1) d = A'.δ q d

section
variable {p : Bs} {A : Au} {c : UInt8} {s : Bs}

theorem not_occ_all : ¬ Occ p (p ++ [c]) := fun ⟨e, h⟩ => by
  have := h.len
  have := h.1
  simp at *
  omega
theorem new_alike {w : Bs} (h : w <:+ p ++ [c]) (k : ¬ Occ p w) : Alike (p ++ [c]) w (p ++ [c]) := fun e => by
  rw [ends_more, ends_more]
  constructor
  · rintro (h1 | ⟨h1, _⟩)
    · exact absurd ⟨e, h1⟩ k
    · exact .inr ⟨h1, List.suffix_refl _⟩
  · rintro (h1 | ⟨h1, _⟩)
    · exact absurd ⟨e, h1⟩ not_occ_all
    · exact .inr ⟨h1, h⟩

/-- What was alike is so, but in the state that is split. -/
theorem Long.same (L : Long p c s) (G : Good p A) {q : Nat} (hq : Of p A s q) {w : Bs} {v : Nat} (h : Of p A w v) (hne : v ≠ q ∨ (A.W q).length = s.length) : w <:+ p ++ [c] ↔ A.W v <:+ p ++ [c] := by
  constructor
  · intro hw
    have hws : w <:+ s := List.suffix_of_suffix_length_le hw L.suf (L.max w hw (h.2.2.symm.occ (G.occ h.1)))
    obtain ⟨e, he⟩ := L.occ
    have hv : Ends p (A.W v) e := (h.2.2 e).1 (he.suffix hws)
    rcases Nat.lt_or_ge s.length (A.W v).length with hlt | hge
    · have hsv : s <:+ A.W v := he.both hv (Nat.le_of_lt hlt)
      have : Alike p s (A.W v) := fun e => ⟨fun h1 => (h.2.2 e).1 (h1.suffix hws), fun h1 => h1.suffix hsv⟩
      have hvq : v = q := G.of_uniq ⟨h.1, Nat.le_of_lt hlt, this⟩ hq
      rcases hne with hne | hne
      · exact absurd hvq hne
      · rw [hvq] at hlt; omega
    · exact (hv.both he hge).trans L.suf
  · exact fun hw => (G.of_suffix h).trans hw
theorem Long.alike (L : Long p c s) (G : Good p A) {q : Nat} (hq : Of p A s q) {w : Bs} {v : Nat} (h : Of p A w v) (hne : v ≠ q ∨ (A.W q).length = s.length) : Alike (p ++ [c]) w (A.W v) :=
  alike_more h.2.2 (L.same G hq h hne)
theorem Long.lo (L : Long p c s) {q : Nat} (hq : Of p A s q) {w : Bs} (h : Of p A w q) (hl : w.length ≤ s.length) : w <:+ s := by
  obtain ⟨e, he⟩ := L.occ
  exact ((h.2.2 e).2 ((hq.2.2 e).1 he)).both he hl
theorem Long.hi (L : Long p c s) (G : Good p A) {q : Nat} {w : Bs} (h : Of p A w q) (hl : s.length < w.length) : ¬ w <:+ p ++ [c] := fun k => by
  have := L.max w k (h.2.2.symm.occ (G.occ h.1))
  omega
theorem Long.len (L : Long p c s) : s.length ≤ p.length := by
  obtain ⟨e, he⟩ := L.occ
  have := he.len
  have := he.1
  omega
theorem Long.vis (L : Long p c s) {w : Bs} (h : w <:+ p) (hl : s.length ≤ w.length) : ¬ Occ p (w ++ [c]) := fun k => by
  have := L.max _ (suffix_snoc.2 ⟨h, rfl⟩) k
  simp at this
  omega
theorem Long.below (L : Long p c s) {w : Bs} (h : w <:+ p) (hl : w.length < s.length) : w ++ [c] <:+ s := 
  List.suffix_of_suffix_length_le (suffix_snoc.2 ⟨h, rfl⟩) L.suf (by simp; omega)

theorem Plain.good {x : Nat} {A' : Au} (P : Plain p A c s x A') (G : Good p A) (L : Long p c s) (hx : x < A.n) (hs : A.W x = s) : Good (p ++ [c]) A' := by
  have hq : Of p A s x := by rw [← hs]; exact Good.of_self hx
  have hqs : (A.W x).length = s.length := by rw [hs]
  have K : ∀ {w v}, Of p A w v → Alike (p ++ [c]) w (A.W v) := fun h => L.alike G hq h (.inr hqs)
  have hpos := G.pos
  have split : ∀ v, v < A'.n → v < A.n ∨ v = A.n := fun v h => by rw [P.n] at h; omega
  constructor
  · rw [P.n]; omega
  · rw [P.W 0 G.pos, G.w0]
  · rw [P.link 0 G.pos, G.l0]
  · intro v hv
    rcases split v hv with h | rfl
    · rw [P.W v h, P.fin v h]
      obtain ⟨h1, h2⟩ := G.fst v h
      refine ⟨ends_more.2 (.inl h1), fun e he => ?_⟩
      rcases ends_more.1 he with h3 | ⟨rfl, _⟩
      · exact h2 e h3
      · have := h1.1; omega
    · rw [P.Wn, P.finn]
      refine ⟨ends_more.2 (.inr ⟨rfl, List.suffix_refl _⟩), fun e he => ?_⟩
      have := he.len
      simpa using this
  · have key : ∀ u, u < A.n → ¬ Alike (p ++ [c]) (A.W u) (p ++ [c]) := fun u hu k => by
      obtain ⟨h1, _⟩ := G.fst u hu
      have := ((k _).1 (ends_more.2 (.inl h1))).len
      have := h1.1
      simp at *
      omega
    intro u v hu hv h
    rcases split u hu with hu | rfl <;> rcases split v hv with hv | rfl
    · rw [P.W u hu, P.W v hv] at h
      exact G.inj u v hu hv (alike_old h)
    · rw [P.W u hu, P.Wn] at h; exact absurd h (key u hu)
    · rw [P.W v hv, P.Wn] at h; exact absurd h.symm (key v hv)
    · rfl
  · intro w hw
    by_cases ho : Occ p w
    · obtain ⟨v, h1, h2, h3⟩ := G.cls w ho
      exact ⟨v, by rw [P.n]; omega, by rw [P.W v h1]; exact h2, by rw [P.W v h1]; exact K ⟨h1, h2, h3⟩⟩
    · have hsuf := (occ_more.1 hw).resolve_left ho
      exact ⟨A.n, by rw [P.n]; omega, by rw [P.Wn]; exact hsuf.length_le, by rw [P.Wn]; exact new_alike hsuf ho⟩
  · intro v hv hv0
    rcases split v hv with h | rfl
    · obtain ⟨u, h1, h2, h3, h4, h5⟩ := G.lnk v h hv0
      refine ⟨u, by rw [P.n]; omega, by rw [P.link v h]; exact h2, by rw [P.W v h, P.W u h1]; exact h3, by rw [P.W v h, P.W u h1]; exact h4, ?_⟩
      rw [P.W v h, P.W u h1]
      exact fun w hw hl => K ⟨h, hw.length_le, h5 w hw hl⟩
    · refine ⟨x, by rw [P.n]; omega, P.linkn, ?_, ?_, ?_⟩
      · rw [P.Wn, P.W x hx, hs]; have := L.len; simp; omega
      · rw [P.Wn, P.W x hx, hs]; exact L.suf
      · rw [P.Wn, P.W x hx, hs]
        exact fun w hw hl => new_alike hw fun k => by have := L.max w hw k; omega
  · intro v d t hv hd
    rcases split v hv with h | rfl
    · by_cases hc : d = c ∧ A.W v <:+ p ∧ s.length ≤ (A.W v).length
      · obtain ⟨rfl, h2, h3⟩ := hc
        rw [P.vis v h h2 h3] at hd
        cases hd
        rw [P.n, P.Wn, P.W v h]
        exact ⟨by omega, occ_more.2 (.inr (suffix_snoc.2 ⟨h2, rfl⟩)), new_alike (suffix_snoc.2 ⟨h2, rfl⟩) (L.vis h2 h3)⟩
      · rw [P.old v d h hc] at hd
        obtain ⟨h1, h2, _⟩ := G.edg v d t h hd
        rw [P.n, P.W v h, P.W t h1]
        exact ⟨by omega, occ_more.2 (.inl h2), K (G.step (Good.of_self h) hd)⟩
    · rw [P.δn d] at hd; cases hd
  · intro v d hv ho
    rcases split v hv with h | rfl
    · rw [P.W v h] at ho
      by_cases hc : d = c ∧ A.W v <:+ p ∧ s.length ≤ (A.W v).length
      · obtain ⟨rfl, h2, h3⟩ := hc
        exact ⟨_, P.vis v h h2 h3⟩
      · rw [P.old v d h hc]
        refine G.all v d h ?_
        rcases occ_more.1 ho with k | k
        · exact k
        · obtain ⟨k1, rfl⟩ := suffix_snoc.1 k
          exact L.occ.suffix (L.below k1 (Nat.lt_of_not_le fun h => hc ⟨rfl, k1, h⟩))
    · rw [P.Wn] at ho
      obtain ⟨e, he⟩ := ho
      have := he.len
      have := he.1
      simp at *
      omega

theorem Split.good {q : Nat} {A' : Au} (P : Split p A c s q A') (G : Good p A) (L : Long p c s) (hq : Of p A s q) (hs : s.length < (A.W q).length) : Good (p ++ [c]) A' := by
  have K : ∀ {w v}, Of p A w v → v ≠ q → Alike (p ++ [c]) w (A.W v) := fun h k => L.alike G hq h (.inl k)
  have hqn : q < A.n := hq.1
  have K1 : ∀ {w}, Of p A w q → w.length ≤ s.length → Alike (p ++ [c]) w s := fun {w} h k => alike_more (h.2.2.trans hq.2.2.symm) ⟨fun _ => L.suf, fun _ => (L.lo hq h k).trans L.suf⟩
  have nq : ¬ A.W q <:+ p ++ [c] := L.hi G (Good.of_self hqn) hs
  have K2 : ∀ {w}, Of p A w q → s.length < w.length → Alike (p ++ [c]) w (A.W q) := fun {w} h k => alike_more h.2.2 ⟨fun h2 => absurd h2 (L.hi G h k), fun h2 => absurd h2 nq⟩
  have hq0 : q ≠ 0 := by
    rintro rfl
    rw [G.w0] at hs
    simp at hs
  have hpos := G.pos
  obtain ⟨z, z1, z2, z3, z4, z5⟩ := G.lnk q hqn hq0
  have hzs : (A.W z).length < s.length := by
    refine Nat.lt_of_not_le fun hle => ?_
    have hsz : s <:+ A.W z := List.suffix_of_suffix_length_le (G.of_suffix hq) z4 hle
    have : Alike p (A.W z) (A.W q) := fun e => ⟨fun h => (hq.2.2 e).1 (h.suffix hsz), fun h => h.suffix z4⟩
    have := G.inj z q z1 hqn this
    subst this
    omega
  have hzq : z ≠ q := by rintro rfl; omega
  have split : ∀ v, v < A'.n → v < A.n ∨ v = A.n ∨ v = A.n + 1 := fun v h => by rw [P.n] at h; omega
  have hsn := P.Ws
  -- what an old state with an old edge leads to
  have hdq : ∀ v d t, v < A.n → A'.δ v d = some t → t < A'.n ∧ Occ (p ++ [c]) (A.W v ++ [d]) ∧ Alike (p ++ [c]) (A.W v ++ [d]) (A'.W t) := by
    intro v d t h hd
    by_cases hc : d = c ∧ A.W v <:+ p
    · obtain ⟨rfl, h2⟩ := hc
      by_cases h3 : s.length ≤ (A.W v).length
      · rw [P.vis v h h2 h3] at hd
        cases hd
        rw [P.n, P.Wn]
        exact ⟨by omega, occ_more.2 (.inr (suffix_snoc.2 ⟨h2, rfl⟩)), new_alike (suffix_snoc.2 ⟨h2, rfl⟩) (L.vis h2 h3)⟩
      · by_cases h4 : A.δ v d = some q
        · rw [P.turn v h h2 (by omega) h4] at hd
          cases hd
          rw [P.n, P.Ws]
          exact ⟨by omega, occ_more.2 (.inl (G.edg v d q h h4).2.1), K1 (G.step (Good.of_self h) h4) (by simp; omega)⟩
        · rw [P.keep v h h2 (by omega) h4] at hd
          obtain ⟨h5, h6, _⟩ := G.edg v d t h hd
          rw [P.n, P.W t h5]
          exact ⟨by omega, occ_more.2 (.inl h6), K (G.step (Good.of_self h) hd) fun e => h4 (by rw [hd, e])⟩
    · rw [P.old v d h hc] at hd
      obtain ⟨h5, h6, _⟩ := G.edg v d t h hd
      rw [P.n, P.W t h5]
      refine ⟨by omega, occ_more.2 (.inl h6), ?_⟩
      have hof := G.step (Good.of_self h) hd
      by_cases htq : t = q
      · subst htq
        refine K2 hof (Nat.lt_of_not_le fun hle => hc ?_)
        have := suffix_snoc.1 ((L.lo hq hof hle).trans L.suf)
        exact ⟨this.2, this.1⟩
      · exact K hof htq
  have hall : ∀ v d, v < A.n → Occ (p ++ [c]) (A.W v ++ [d]) → ∃ t, A'.δ v d = some t := by
    intro v d h ho
    by_cases hc : d = c ∧ A.W v <:+ p
    · obtain ⟨rfl, h2⟩ := hc
      by_cases h3 : s.length ≤ (A.W v).length
      · exact ⟨_, P.vis v h h2 h3⟩
      · obtain ⟨t, ht⟩ := G.all v d h (L.occ.suffix (L.below h2 (by omega)))
        by_cases h4 : A.δ v d = some q
        · exact ⟨_, P.turn v h h2 (by omega) h4⟩
        · exact ⟨t, by rw [P.keep v h h2 (by omega) h4]; exact ht⟩
    · rw [P.old v d h hc]
      refine G.all v d h ?_
      rcases occ_more.1 ho with k | k
      · exact k
      · have := suffix_snoc.1 k
        exact absurd ⟨this.2, this.1⟩ hc
  constructor
  · rw [P.n]; omega
  · rw [P.W 0 G.pos, G.w0]
  · rw [P.link 0 G.pos (by omega), G.l0]
  · intro v hv
    rcases split v hv with h | rfl | rfl
    · rw [P.W v h, P.fin v h]
      obtain ⟨h1, h2⟩ := G.fst v h
      refine ⟨ends_more.2 (.inl h1), fun e he => ?_⟩
      rcases ends_more.1 he with h3 | ⟨rfl, _⟩
      · exact h2 e h3
      · have := h1.1; omega
    · rw [P.Wn, P.finn]
      refine ⟨ends_more.2 (.inr ⟨rfl, List.suffix_refl _⟩), fun e he => ?_⟩
      have := he.len
      simpa using this
    · rw [P.Ws, P.fins]
      obtain ⟨h1, h2⟩ := G.first hq
      refine ⟨ends_more.2 (.inl h1), fun e he => ?_⟩
      rcases ends_more.1 he with h3 | ⟨rfl, _⟩
      · exact h2 e h3
      · have := h1.1; omega
  · have key : ∀ w, Occ p w → ¬ Alike (p ++ [c]) w (p ++ [c]) := fun w hw k => by
      obtain ⟨e, h1⟩ := hw
      have := ((k _).1 (ends_more.2 (.inl h1))).len
      have := h1.1
      simp at *
      omega
    have key2 : ∀ u, u < A.n → ¬ Alike (p ++ [c]) (A.W u) s := fun u hu k => by
      have : u = q := G.inj u q hu hqn ((alike_old k).trans hq.2.2)
      subst this
      exact nq (suffix_ends.2 ((k _).2 (suffix_ends.1 L.suf)))
    intro u v hu hv h
    rcases split u hu with hu | rfl | rfl <;> rcases split v hv with hv | rfl | rfl
    · rw [P.W u hu, P.W v hv] at h
      exact G.inj u v hu hv (alike_old h)
    · rw [P.W u hu, P.Wn] at h; exact absurd h (key _ (G.occ hu))
    · rw [P.W u hu, P.Ws] at h; exact absurd h (key2 u hu)
    · rw [P.W v hv, P.Wn] at h; exact absurd h.symm (key _ (G.occ hv))
    · rfl
    · rw [P.Wn, P.Ws] at h; exact absurd h.symm (key _ L.occ)
    · rw [P.W v hv, P.Ws] at h; exact absurd h.symm (key2 v hv)
    · rw [P.Wn, P.Ws] at h; exact absurd h (key _ L.occ)
    · rfl
  · intro w hw
    by_cases ho : Occ p w
    · obtain ⟨v, h1, h2, h3⟩ := G.cls w ho
      by_cases hvq : v = q
      · subst hvq
        by_cases hl : w.length ≤ s.length
        · exact ⟨A.n + 1, by rw [P.n]; omega, by rw [P.Ws]; exact hl, by rw [P.Ws]; exact K1 ⟨h1, h2, h3⟩ hl⟩
        · exact ⟨v, by rw [P.n]; omega, by rw [P.W v h1]; exact h2, by rw [P.W v h1]; exact K2 ⟨h1, h2, h3⟩ (by omega)⟩
      · exact ⟨v, by rw [P.n]; omega, by rw [P.W v h1]; exact h2, by rw [P.W v h1]; exact K ⟨h1, h2, h3⟩ hvq⟩
    · have hsuf := (occ_more.1 hw).resolve_left ho
      exact ⟨A.n, by rw [P.n]; omega, by rw [P.Wn]; exact hsuf.length_le, by rw [P.Wn]; exact new_alike hsuf ho⟩
  · intro v hv hv0
    rcases split v hv with h | rfl | rfl
    · by_cases hvq : v = q
      · subst hvq
        refine ⟨A.n + 1, by rw [P.n]; omega, P.linkq, by rw [P.Ws, P.W v h]; exact hs, by rw [P.Ws, P.W v h]; exact G.of_suffix hq, ?_⟩
        rw [P.Ws, P.W v h]
        exact fun w hw hl => K2 ⟨h, hw.length_le, z5 w hw (by omega)⟩ hl
      · obtain ⟨u, h1, h2, h3, h4, h5⟩ := G.lnk v h hv0
        refine ⟨u, by rw [P.n]; omega, by rw [P.link v h hvq]; exact h2, by rw [P.W v h, P.W u h1]; exact h3, by rw [P.W v h, P.W u h1]; exact h4, ?_⟩
        rw [P.W v h, P.W u h1]
        exact fun w hw hl => K ⟨h, hw.length_le, h5 w hw hl⟩ hvq
    · refine ⟨A.n + 1, by rw [P.n]; omega, P.linkn, ?_, ?_, ?_⟩
      · rw [P.Wn, P.Ws]; have := L.len; simp; omega
      · rw [P.Wn, P.Ws]; exact L.suf
      · rw [P.Wn, P.Ws]
        exact fun w hw hl => new_alike hw fun k => by have := L.max w hw k; omega
    · refine ⟨z, by rw [P.n]; omega, by rw [P.links]; exact z2, ?_, ?_, ?_⟩
      · rw [P.Ws, P.W z z1]; exact hzs
      · rw [P.Ws, P.W z z1]; exact List.suffix_of_suffix_length_le z4 (G.of_suffix hq) (Nat.le_of_lt hzs)
      · rw [P.Ws, P.W z z1]
        exact fun w hw hl => K1 ⟨hqn, Nat.le_trans hw.length_le hq.2.1, z5 w (hw.trans (G.of_suffix hq)) hl⟩ hw.length_le
  · intro v d t hv hd
    rcases split v hv with h | rfl | rfl
    · rw [P.W v h]; exact hdq v d t h hd
    · rw [P.δn d] at hd; cases hd
    · rw [P.δs d] at hd
      rw [P.Ws]
      obtain ⟨h1, h2, h3⟩ := hdq q d t hqn hd
      have hsq := alike_snoc_more (c := c) hq.2.2 d
      exact ⟨h1, hsq.symm.occ h2, hsq.trans h3⟩
  · intro v d hv ho
    rcases split v hv with h | rfl | rfl
    · rw [P.W v h] at ho; exact hall v d h ho
    · rw [P.Wn] at ho
      obtain ⟨e, he⟩ := ho
      have := he.len
      have := he.1
      simp at *
      omega
    · rw [P.Ws] at ho
      rw [P.δs d]
      exact hall q d hqn ((alike_snoc_more (c := c) hq.2.2 d).occ ho)
end
end Go.Proofs.Ytbgnemephcbgeaa
