/-
  Plain facts, without the program: a table of files as a list of paths and bytes that rises by its paths, held against what a map of the program reads as.
  What the program's shelf is in memory: the words of the contracts. K: what every call of the shelf keeps; RowIn: a slice of bytes; TabIn: a map of files; ActIn, LooseIn: the acts that are loose; Ok: a shelf.
  Parts and paths: isPartByte, isPart, strings.Cut at one byte, directory.
  directory: the directory of a path, or an error.
-/
import Derived.Maps.OwnSet
import Derived.Maps.Range
import Derived.Test.YtbibogpeagnjoaaGreatDoorProg
import Derived.WalkKit
import Derived.OneCell
import Derived.Deep.QuietTactic
import Derived.BigQuiet
import Derived.Lib.Hide
import Derived.Lib.IndexLaws
import Derived.Laws.Externs

namespace Go.Proofs.YtbibogpeagnjoaaGreatDoor
open Go

abbrev By := List UInt8
abbrev Tb := List (By × By)

def tins (x : By × By) : Tb → Tb
  | [] => [x]
  | y :: r => if bytesBefore x.1 y.1 then x :: y :: r else y :: tins x r
def tdel (p : By) (t : Tb) : Tb := t.filter fun q => !(q.1 == p)
def tput (p b : By) (t : Tb) : Tb := tins (p, b) (tdel p t)
def tget (p : By) (t : Tb) : Option By := (t.find? fun q => q.1 == p).map (·.2)
def tsize (t : Tb) : Nat := (t.map fun q => q.2.length).sum

/-- The entries of a map as read are those of a table, each value by Q. -/
def EntsOk (Q : Value → By → Prop) : List (Lit × DataW Value) → Tb → Prop
  | [], [] => True
  | x :: es, q :: t => x.1 = .string q.1 ∧ (∃ v, x.2 = .held v ∧ Q v q.2) ∧ EntsOk Q es t
  | _, _ => False

theorem EntsOk.mono {Q Q' : Value → By → Prop} (hq : ∀ v b, Q v b → Q' v b) : ∀ {es t}, EntsOk Q es t → EntsOk Q' es t
  | [], [], _ => trivial
  | _ :: _, _ :: _, ⟨h1, ⟨v, h2, h3⟩, h4⟩ => ⟨h1, ⟨v, h2, hq _ _ h3⟩, EntsOk.mono hq h4⟩
  | [], _ :: _, h => h.elim
  | _ :: _, [], h => h.elim

theorem EntsOk.insert {Q : Value → By → Prop} {p b : By} {v : Value} (hv : Q v b) : ∀ {es t}, EntsOk Q es t → EntsOk Q (DataW.insert (.string p, .held v) es) (tins (p, b) t)
  | [], [], _ => ⟨rfl, ⟨v, rfl, hv⟩, trivial⟩
  | x :: es, q :: t, ⟨h1, h2, h4⟩ => by
    unfold DataW.insert tins
    have e : (Lit.string p).before x.1 = bytesBefore p q.1 := by rw [h1]; rfl
    simp only [e]
    split
    · exact ⟨rfl, ⟨v, rfl, hv⟩, h1, h2, h4⟩
    · exact ⟨h1, h2, EntsOk.insert hv h4⟩
  | [], _ :: _, h => h.elim
  | _ :: _, [], h => h.elim

theorem sameKey_string (a b : By) : (Lit.string a).sameKey (.string b) = (a == b) := rfl

theorem EntsOk.filter {Q : Value → By → Prop} (p : By) : ∀ {es t}, EntsOk Q es t → EntsOk Q (es.filter fun x => !x.1.sameKey (.string p)) (tdel p t)
  | [], [], _ => trivial
  | x :: es, q :: t, ⟨h1, h2, h4⟩ => by
    have ih := EntsOk.filter p h4
    have e : x.1.sameKey (.string p) = (q.1 == p) := by rw [h1]; rfl
    unfold tdel at ih ⊢
    cases hq : (q.1 == p)
    · rw [List.filter_cons_of_pos (by rw [e, hq]; rfl), List.filter_cons_of_pos (by rw [hq]; rfl)]
      exact ⟨h1, h2, ih⟩
    · rw [List.filter_cons_of_neg (by rw [e, hq]; simp), List.filter_cons_of_neg (by rw [hq]; simp)]
      exact ih
  | [], _ :: _, h => h.elim
  | _ :: _, [], h => h.elim

theorem EntsOk.find {Q : Value → By → Prop} (p : By) : ∀ {es t}, EntsOk Q es t →
    (tget p t = none ∧ es.find? (fun x => x.1.sameKey (.string p)) = none) ∨
    (∃ b v k, tget p t = some b ∧ es.find? (fun x => x.1.sameKey (.string p)) = some (k, .held v) ∧ Q v b)
  | [], [], _ => .inl ⟨rfl, rfl⟩
  | x :: es, q :: t, ⟨h1, ⟨v, h2, h3⟩, h4⟩ => by
    have e : x.1.sameKey (.string p) = (q.1 == p) := by rw [h1]; rfl
    unfold tget
    cases hq : (q.1 == p)
    · rw [List.find?_cons_of_neg (by simp [hq]), List.find?_cons_of_neg (by simp [e, hq])]
      exact EntsOk.find p h4
    · rw [List.find?_cons_of_pos (by simp [hq]), List.find?_cons_of_pos (by simp [e, hq])]
      refine .inr ⟨q.2, v, x.1, rfl, ?_, h3⟩
      rw [← h2]
  | [], _ :: _, h => h.elim
  | _ :: _, [], h => h.elim

theorem EntsOk.length {Q : Value → By → Prop} : ∀ {es t}, EntsOk Q es t → es.length = t.length
  | [], [], _ => rfl
  | _ :: _, _ :: _, ⟨_, _, h4⟩ => by simp [EntsOk.length h4]
  | [], _ :: _, h => h.elim
  | _ :: _, [], h => h.elim

theorem EntsOk.mem {Q : Value → By → Prop} : ∀ {es t}, EntsOk Q es t → ∀ x ∈ es, ∃ q ∈ t, x.1 = .string q.1 ∧ ∃ v, x.2 = .held v ∧ Q v q.2
  | [], [], _, _, hx => by cases hx
  | y :: es, q :: t, ⟨h1, h2, h4⟩, x, hx => by
    rcases List.mem_cons.1 hx with rfl | hx
    · exact ⟨q, by simp, h1, h2⟩
    · obtain ⟨q', hq', r⟩ := EntsOk.mem h4 x hx
      exact ⟨q', by simp [hq'], r⟩
  | [], _ :: _, h, _, _ => h.elim
  | _ :: _, [], h, _, _ => h.elim

/-! ### bytesBefore is a strict order that is whole -/
theorem before_irrefl : ∀ a : By, bytesBefore a a = false
  | [] => rfl
  | x :: r => by simp [bytesBefore, before_irrefl r]

theorem before_trans : ∀ {a b c : By}, bytesBefore a b = true → bytesBefore b c = true → bytesBefore a c = true
  | [], _ :: _, _ :: _, _, _ => rfl
  | [], [], _, h, _ => by cases h
  | _ :: _, [], _, h, _ => by cases h
  | [], _ :: _, [], _, h => by cases h
  | _ :: _, _ :: _, [], _, h => by cases h
  | x :: a, y :: b, z :: c, h1, h2 => by
    simp only [bytesBefore, Bool.or_eq_true, Bool.and_eq_true, decide_eq_true_eq, beq_iff_eq] at h1 h2 ⊢
    rcases h1 with h1 | ⟨rfl, h1⟩ <;> rcases h2 with h2 | ⟨rfl, h2⟩
    · exact .inl (UInt8.lt_trans h1 h2)
    · exact .inl h1
    · exact .inl h2
    · exact .inr ⟨rfl, before_trans h1 h2⟩

theorem before_total : ∀ {a b : By}, bytesBefore a b = false → a ≠ b → bytesBefore b a = true
  | [], [], _, h => absurd rfl h
  | [], _ :: _, h, _ => by cases h
  | _ :: _, [], _, _ => rfl
  | x :: a, y :: b, h, hne => by
    simp only [bytesBefore, Bool.or_eq_false_iff, Bool.and_eq_false_iff, decide_eq_false_iff_not, beq_eq_false_iff_ne] at h
    simp only [bytesBefore, Bool.or_eq_true, Bool.and_eq_true, decide_eq_true_eq, beq_iff_eq]
    obtain ⟨h1, h2⟩ := h
    by_cases e : x = y
    · subst e
      refine .inr ⟨rfl, before_total (h2.resolve_left (fun h => h rfl)) (fun e => hne (by rw [e]))⟩
    · exact .inl (by
        rcases UInt8.lt_or_eq_of_le (UInt8.not_lt.1 h1) with h | h
        · exact h
        · exact absurd h.symm e)

theorem before_asymm {a b : By} (h : bytesBefore a b = true) : bytesBefore b a = false := by
  cases h' : bytesBefore b a
  · rfl
  · have := before_trans h h'; rw [before_irrefl] at this; cases this

theorem before_ne {a b : By} (h : bytesBefore a b = true) : a ≠ b := fun e => by subst e; rw [before_irrefl] at h; cases h

/-- The table rises by its paths. -/
def Rises (t : Tb) : Prop := t.Pairwise fun x y => bytesBefore x.1 y.1 = true

theorem Rises.nil : Rises [] := List.Pairwise.nil

theorem mem_tins {x y : By × By} : ∀ {t : Tb}, y ∈ tins x t ↔ y = x ∨ y ∈ t
  | [] => by simp [tins]
  | z :: r => by
    unfold tins
    split
    · simp
    · simp only [List.mem_cons, mem_tins (t := r)]
      constructor
      · rintro (h | h | h) <;> simp [h]
      · rintro (h | h | h) <;> simp [h]

theorem Rises.tins {x : By × By} : ∀ {t : Tb}, Rises t → (∀ y ∈ t, y.1 ≠ x.1) → Rises (tins x t)
  | [], _, _ => by simp [Go.Proofs.YtbibogpeagnjoaaGreatDoor.tins, Rises]
  | z :: r, h, hne => by
    unfold Go.Proofs.YtbibogpeagnjoaaGreatDoor.tins
    have h' := List.pairwise_cons.1 h
    split
    · rename_i hb
      refine List.pairwise_cons.2 ⟨fun y hy => ?_, h⟩
      rcases List.mem_cons.1 hy with rfl | hy
      · exact hb
      · exact before_trans hb (h'.1 y hy)
    · rename_i hb
      refine List.pairwise_cons.2 ⟨fun y hy => ?_, Rises.tins h'.2 (fun y hy => hne y (by simp [hy]))⟩
      rcases mem_tins.1 hy with rfl | hy
      · exact before_total (by simpa using hb) (fun e => hne z (by simp) e.symm)
      · exact h'.1 y hy

theorem mem_tdel {p : By} {y : By × By} {t : Tb} : y ∈ tdel p t ↔ y ∈ t ∧ y.1 ≠ p := by
  simp [tdel, List.mem_filter]

theorem Rises.tdel {p : By} {t : Tb} (h : Rises t) : Rises (tdel p t) := List.Pairwise.filter _ h

theorem Rises.tput {p b : By} {t : Tb} (h : Rises t) : Rises (tput p b t) :=
  Rises.tins h.tdel (fun _ hy => (mem_tdel.1 hy).2)

/-! ### sizes -/
theorem tsize_tins (x : By × By) : ∀ t : Tb, tsize (tins x t) = x.2.length + tsize t
  | [] => by simp [tins, tsize]
  | z :: r => by
    unfold tins
    split
    · simp [tsize]
    · have := tsize_tins x r
      simp only [tsize, List.map_cons, List.sum_cons] at this ⊢
      omega

theorem tget_none_of {p : By} {t : Tb} (h : ∀ y ∈ t, y.1 ≠ p) : tget p t = none := by
  unfold tget
  rw [List.find?_eq_none.2 (fun y hy => by simpa using h y hy)]
  rfl

theorem tdel_of_none {p : By} : ∀ {t : Tb}, tget p t = none → tdel p t = t
  | [], _ => rfl
  | z :: r, h => by
    unfold tget at h
    cases hz : (z.1 == p)
    · rw [List.find?_cons_of_neg (by rw [hz]; simp)] at h
      have := tdel_of_none (p := p) (t := r) h
      unfold tdel at this ⊢
      rw [List.filter_cons_of_pos (by rw [hz]; rfl), this]
    · rw [List.find?_cons_of_pos (by rw [hz])] at h; cases h

theorem tsize_tdel {p : By} : ∀ {t : Tb}, Rises t → ∀ b, tget p t = some b → tsize (tdel p t) + b.length = tsize t
  | [], _, _, h => by cases h
  | z :: r, hr, b, h => by
    have h' := List.pairwise_cons.1 hr
    unfold tget at h
    cases hz : (z.1 == p)
    · rw [List.find?_cons_of_neg (by rw [hz]; simp)] at h
      have := tsize_tdel h'.2 b h
      unfold tdel at this ⊢
      rw [List.filter_cons_of_pos (by rw [hz]; rfl)]
      simp only [tsize, List.map_cons, List.sum_cons] at this ⊢
      omega
    · rw [List.find?_cons_of_pos (by rw [hz])] at h
      have e : z.2 = b := by simpa using h
      have hzp : z.1 = p := by simpa using hz
      unfold tdel
      rw [List.filter_cons_of_neg (by rw [hz]; simp)]
      have hn : tdel p r = r := tdel_of_none (tget_none_of fun y hy e' => before_ne (h'.1 y hy) (by rw [hzp, e']))
      unfold tdel at hn
      rw [hn]
      simp [tsize, e]; omega

/-- How many bytes the file of a path has; none: 0. -/
def tlen (p : By) (t : Tb) : Nat := ((tget p t).getD []).length

theorem tsize_tput {p b : By} {t : Tb} (hr : Rises t) : tsize (tput p b t) + tlen p t = tsize t + b.length := by
  unfold tput tlen
  rw [tsize_tins]
  cases h : tget p t with
  | none => simp [tdel_of_none h]; omega
  | some c => have := tsize_tdel hr c h; simp; omega

theorem tsize_del {p : By} {t : Tb} (hr : Rises t) : tsize (tdel p t) + tlen p t = tsize t := by
  unfold tlen
  cases h : tget p t with
  | none => simp [tdel_of_none h]
  | some c => have := tsize_tdel hr c h; simp; omega

theorem tlen_le {p : By} {t : Tb} (hr : Rises t) : tlen p t ≤ tsize t := by
  have := tsize_del (p := p) hr; omega

/-! ### what is found -/
theorem find_tins_miss {p : By} {x : By × By} (hx : (x.1 == p) = false) : ∀ t : Tb, (tins x t).find? (fun q => q.1 == p) = t.find? (fun q => q.1 == p)
  | [] => by simp [tins, hx]
  | z :: r => by
    have ih := find_tins_miss hx r
    unfold tins
    split
    · rw [List.find?_cons_of_neg (by simp [hx])]
    · cases hz : (z.1 == p)
      · rw [List.find?_cons_of_neg (by simp [hz]), List.find?_cons_of_neg (by simp [hz]), ih]
      · rw [List.find?_cons_of_pos (by simp [hz]), List.find?_cons_of_pos (by simp [hz])]

theorem find_tins_hit {p : By} {x : By × By} (hx : (x.1 == p) = true) : ∀ t : Tb, (∀ y ∈ t, y.1 ≠ p) → (tins x t).find? (fun q => q.1 == p) = some x
  | [], _ => by simp [tins, hx]
  | z :: r, h => by
    have ih := find_tins_hit hx r (fun y hy => h y (by simp [hy]))
    unfold tins
    split
    · rw [List.find?_cons_of_pos (by simp [hx])]
    · rw [List.find?_cons_of_neg (by simpa using h z (by simp)), ih]

theorem tget_tput_same {p b : By} {t : Tb} : tget p (tput p b t) = some b := by
  unfold tput tget
  rw [find_tins_hit (by simp) _ (fun y hy => (mem_tdel.1 hy).2)]
  rfl

theorem find_tdel {p q : By} (h : q ≠ p) : ∀ t : Tb, (tdel p t).find? (fun x => x.1 == q) = t.find? (fun x => x.1 == q)
  | [] => rfl
  | z :: r => by
    have ih := find_tdel h r
    unfold tdel at ih ⊢
    cases hz : (z.1 == p)
    · rw [List.filter_cons_of_pos (by simp [hz])]
      cases hq : (z.1 == q)
      · rw [List.find?_cons_of_neg (by simp [hq]), List.find?_cons_of_neg (by simp [hq]), ih]
      · rw [List.find?_cons_of_pos (by simp [hq]), List.find?_cons_of_pos (by simp [hq])]
    · rw [List.filter_cons_of_neg (by simp [hz])]
      have e : z.1 = p := by simpa using hz
      rw [List.find?_cons_of_neg (by rw [e]; simpa using fun e => h e.symm), ih]

theorem tget_tput_other {p q b : By} {t : Tb} (h : q ≠ p) : tget q (tput p b t) = tget q t := by
  unfold tput tget
  rw [find_tins_miss (by simpa using fun e => h e.symm), find_tdel h]

theorem tget_tdel_same {p : By} {t : Tb} : tget p (tdel p t) = none := tget_none_of fun _ hy => (mem_tdel.1 hy).2
theorem tget_tdel_other {p q : By} {t : Tb} (h : q ≠ p) : tget q (tdel p t) = tget q t := by
  unfold tget; rw [find_tdel h]

theorem tget_mem {p b : By} {t : Tb} (h : tget p t = some b) : (p, b) ∈ t := by
  unfold tget at h
  cases hf : t.find? (fun q => q.1 == p) with
  | none => rw [hf] at h; cases h
  | some x =>
    rw [hf] at h
    have h1 := List.find?_some hf
    have h2 := List.mem_of_find?_eq_some hf
    have e1 : x.1 = p := by simpa using h1
    have e2 : x.2 = b := by simpa using h
    rw [← e1, ← e2]; exact h2

theorem tget_of_mem {p b : By} : ∀ {t : Tb}, Rises t → (p, b) ∈ t → tget p t = some b
  | [], _, h => by cases h
  | z :: r, hr, h => by
    have h' := List.pairwise_cons.1 hr
    unfold tget
    rcases List.mem_cons.1 h with rfl | h
    · rw [List.find?_cons_of_pos (by simp)]; rfl
    · rw [List.find?_cons_of_neg (by simpa using before_ne (h'.1 _ h))]
      exact tget_of_mem h'.2 h

theorem tdel_length_le (p : By) (t : Tb) : (tdel p t).length ≤ t.length := List.length_filter_le _ _
theorem tins_length (x : By × By) : ∀ t : Tb, (tins x t).length = t.length + 1
  | [] => rfl
  | z :: r => by
    unfold tins
    split
    · rfl
    · simp [tins_length x r]
theorem tput_length_le (p b : By) (t : Tb) : (tput p b t).length ≤ t.length + 1 := by
  unfold tput; rw [tins_length]; have := tdel_length_le p t; omega

/-- Two tables that rise, and tell the same of each path, are one. -/
theorem rises_ext : ∀ {t u : Tb}, Rises t → Rises u → (∀ p, tget p t = tget p u) → t = u
  | [], [], _, _, _ => rfl
  | [], z :: r, _, hu, h => by
    have := h z.1
    rw [tget_of_mem hu (p := z.1) (b := z.2) (by simp)] at this; cases this
  | z :: r, [], ht, _, h => by
    have := h z.1
    rw [tget_of_mem ht (p := z.1) (b := z.2) (by simp)] at this; cases this
  | z :: r, y :: s, ht, hu, h => by
    have ht' := List.pairwise_cons.1 ht
    have hu' := List.pairwise_cons.1 hu
    have hz : tget z.1 (y :: s) = some z.2 := by rw [← h, tget_of_mem ht (b := z.2) (by simp)]
    have hy : tget y.1 (z :: r) = some y.2 := by rw [h, tget_of_mem hu (b := y.2) (by simp)]
    have hzm := tget_mem hz
    have hym := tget_mem hy
    have e : z = y := by
      rcases List.mem_cons.1 hzm with e | hzs
      · exact e
      · rcases List.mem_cons.1 hym with e | hyr
        · exact e.symm
        · have h1 := hu'.1 _ hzs
          have h2 := ht'.1 _ hyr
          simp only at h1 h2
          rw [before_asymm h1] at h2; cases h2
    subst e
    congr 1
    refine rises_ext ht'.2 hu'.2 fun p => ?_
    by_cases hp : p = z.1
    · subst hp
      rw [tget_none_of fun w hw e => before_ne (ht'.1 w hw) e.symm, tget_none_of fun w hw e => before_ne (hu'.1 w hw) e.symm]
    · have := h p
      unfold tget at this ⊢
      rwa [List.find?_cons_of_neg (by simpa using fun e => hp e.symm), List.find?_cons_of_neg (by simpa using fun e => hp e.symm)] at this

end Go.Proofs.YtbibogpeagnjoaaGreatDoor


namespace Go.Proofs.YtbibogpeagnjoaaGreatDoor
open Go Go.RowKit

def bv (x : UInt8) : Value := .int .u8 (x.toNat : Int)
def S (p : By) : Value := .string ⟨p.toArray⟩

/-- The types of cells that a shelf's calls write again: the shelf's own, and its acts'. -/
def mutT (e : TypeId) : Bool := e == 64 || e == 75

/-- What every call keeps: all below base, and all cells of other types. -/
structure K (base : Nat) (w w' : World) : Prop where
  below : Below base w w'
  const : ∀ (k : Nat) (c : Array Value) (e : TypeId) (fz : Nat × Nat), w.heap[k]? = some (Obj.cells c e fz) → mutT e = false → w'.heap[k]? = some (Obj.cells c e fz)

theorem K.refl (base : Nat) (w : World) : K base w w := ⟨Below.refl _ _, fun _ _ _ _ h _ => h⟩
theorem K.trans {base : Nat} {a b c : World} (h : K base a b) (k : K base b c) : K base a c :=
  ⟨h.below.trans k.below, fun i cs e fz hi he => k.const i cs e fz (h.const i cs e fz hi he) he⟩
theorem K.mono {base b' : Nat} {w w' : World} (h : K base w w') (hb : b' ≤ base) : K b' w w' := ⟨h.below.mono hb, h.const⟩
theorem K.size {base : Nat} {w w' : World} (h : K base w w') : w.heap.size ≤ w'.heap.size := h.below.size

/-- A call that only lays new blocks. -/
theorem K.of_new {base : Nat} {w w' : World} (h : Below w.heap.size w w') (hb : base ≤ w.heap.size) : K base w w' :=
  ⟨h.mono hb, fun k c e fz hk _ => by rw [h.block k (lt_of_block hk)]; exact hk⟩
theorem K.new {base : Nat} {a w w' : World} (k : K base a w) (h : Below w.heap.size w w') (hb : base ≤ w.heap.size) : K base a w' := k.trans (K.of_new h hb)

theorem below_alloc (w : World) (o : Obj) : Below w.heap.size w (w.alloc o) := (Below.refl _ w).alloc (Nat.le_refl _) o

theorem K.alloc {base : Nat} {a w : World} (k : K base a w) (hb : base ≤ w.heap.size) (o : Obj) : K base a (w.alloc o) := k.new (below_alloc w o) hb

theorem K.drew {base : Nat} {a w : World} (k : K base a w) : K base a w.drew := ⟨k.below.drew, k.const⟩

theorem K.setMut {base : Nat} {a w : World} (k : K base a w) {p : Addr} {c : Array Value} {e : TypeId} {fz : Nat × Nat} (hb : w.heap[p.block]? = some (.cells c e fz)) (he : mutT e = true) (hp : base ≤ p.block) (u : Value) : K base a (w.setCell p u) :=
  ⟨k.below.setCell hp u, fun i cs e' fz' hi he' => by
    have h1 := k.const i cs e' fz' hi he'
    rw [Below.heap_setCell _ _ _ _ (fun e1 => by subst e1; rw [hb] at h1; cases h1; rw [he] at he'; cases he')]
    exact h1⟩

theorem K.setNew {base : Nat} {a w : World} (k : K base a w) (hba : base ≤ a.heap.size) {p : Addr} (hp : a.heap.size ≤ p.block) (u : Value) : K base a (w.setCell p u) :=
  ⟨k.below.setCell (by omega) u, fun i cs e' fz' hi he' => by
    rw [Below.heap_setCell _ _ _ _ (fun e1 => by have := lt_of_block hi; omega)]
    exact k.const i cs e' fz' hi he'⟩

/-- A change of one block that is no cells of a kept type. -/
theorem K.grown {base : Nat} {a w w' : World} (k : K base a w) {row : Option Nat} (hg : w.grownBy w' row) (hb : base ≤ w.heap.size)
    (hr : ∀ r, row = some r → base ≤ r ∧ ∀ (c : Array Value) (e : TypeId) (fz : Nat × Nat), w.heap[r]? = some (Obj.cells c e fz) → mutT e = true) : K base a w' :=
  ⟨k.below.grown hg hb (fun r h => (hr r h).1), fun i cs e fz hi he => by
    have h1 := k.const i cs e fz hi he
    rw [hg.block i (lt_of_block h1) (fun e1 => by have := (hr i e1.symm).2 _ _ _ h1; rw [he] at this; cases this)]
    exact h1⟩

theorem K.cellOf {base : Nat} {w w' : World} (k : K base w w') {b : Nat} {v : Value} {e : TypeId} {fz : Nat × Nat} (h : w.heap[b]? = some (.cells #[v] e fz)) (he : mutT e = false) : w'.heap[b]? = some (.cells #[v] e fz) := k.const _ _ _ _ h he

/-- The slice value v holds the bytes b. -/
def RowIn (w : World) (base : Nat) (v : Value) (b : By) : Prop := w.ownsRow base 5 1 v b.length (b.map bv)

theorem RowIn.keep {base b' : Nat} {w w' : World} {v : Value} {b : By} (h : RowIn w base v b) (k : K b' w w') : RowIn w' base v b := by
  obtain ⟨h1, h2⟩ := h
  refine ⟨h1, ?_⟩
  rcases h2 with h2 | ⟨g, cap, cur, rfl, hb, hg, r⟩
  · exact .inl h2
  · exact .inr ⟨g, cap, cur, rfl, hb, k.const g cur _ _ hg rfl, r⟩

theorem RowIn.drew {base : Nat} {w : World} {v : Value} {b : By} (h : RowIn w base v b) : RowIn w.drew base v b := h

/-- Each value of a map of files: as it is. -/
def heldR : Value → Option (DataW Value × List MemPlace)
  | .slice a n c => some (.held (.slice a n c), [])
  | _ => none

theorem RowIn.shape {base : Nat} {w : World} {v : Value} {b : By} (h : RowIn w base v b) : ∃ a c, v = .slice a b.length c := by
  rcases h.2 with ⟨rfl, h2⟩ | ⟨g, cap, cur, rfl, _⟩
  · exact ⟨none, 0, by rw [h2]⟩
  · exact ⟨_, _, rfl⟩
theorem RowIn.heldR {base : Nat} {w : World} {v : Value} {b : By} (h : RowIn w base v b) : heldR v = some (.held v, []) := by
  obtain ⟨a, c, rfl⟩ := h.shape; rfl
theorem heldR_inv {v : Value} {z : DataW Value × List MemPlace} (h : heldR v = some z) : (∃ a n c, v = .slice a n c) ∧ z = (.held v, []) := by
  cases v <;> simp [heldR] at h
  exact ⟨⟨_, _, _, rfl⟩, h.symm⟩

/-- Block m is a map of the files t. -/
def TabIn (w : World) (base m : Nat) (t : Tb) : Prop :=
  base ≤ m ∧ Rises t ∧ ∃ es, w.ownsMap (H := Value) Tryz.prog 9 heldR m t.length (.map es) ∧ EntsOk (RowIn w base) es t

theorem TabIn.keep {base b' m : Nat} {w w' : World} {t : Tb} (h : TabIn w base m t) (k : K b' w w') (hm : w'.heap[m]? = w.heap[m]?) : TabIn w' base m t := by
  obtain ⟨h1, h2, es, ⟨xs, clock, hb, r⟩, h4⟩ := h
  exact ⟨h1, h2, es, ⟨xs, clock, hm.trans hb, r⟩, h4.mono fun _ _ hv => hv.keep k⟩

theorem TabIn.isMap {base m : Nat} {w : World} {t : Tb} (h : TabIn w base m t) : ∃ xs clock, w.heap[m]? = some (.map xs clock) := by
  obtain ⟨_, _, es, ⟨xs, clock, hb, _⟩, _⟩ := h
  exact ⟨xs, clock, hb⟩
theorem TabIn.lt {base m : Nat} {w : World} {t : Tb} (h : TabIn w base m t) : m < w.heap.size := by
  obtain ⟨xs, clock, hb⟩ := h.isMap
  exact lt_of_block hb

/-- The bound on a map's entries may be the number of its files. -/
theorem tight {w : World} {m n : Nat} {es : List (Lit × DataW Value)} (h : w.ownsMap (H := Value) Tryz.prog 9 heldR m n (.map es)) : w.ownsMap (H := Value) Tryz.prog 9 heldR m es.length (.map es) := by
  obtain ⟨xs, clock, hb, F, hs, hD⟩ := h
  refine ⟨xs, clock, hb, F, ?_, hD⟩
  have h1 : es = (xs.toList.map (WideElems.rg Tryz.prog 9 heldR)).foldr DataW.insert [] := by injection hD
  rw [h1, length_sorted]; simp

/-! ### acts -/
inductive Act where
  | write (p b : By)
  | rename (p q : By)
  | remove (p : By)

def Act.play : Act → Tb → Tb
  | .write p b, t => tput p b t
  | .rename p q, t => match tget p t with | none => t | some b => tput q b (tdel p t)
  | .remove p, t => tdel p t

theorem Act.play_rises {a : Act} {t : Tb} (h : Rises t) : Rises (a.play t) := by
  cases a with
  | write p b => exact h.tput
  | rename p q =>
    show Rises (match tget p t with | none => t | some b => tput q b (tdel p t))
    cases tget p t with
    | none => exact h
    | some b => exact h.tdel.tput
  | remove p => exact h.tdel

/-- A variable's block that holds v. -/
def BoxIn (w : World) (base : Nat) (t : TypeId) (bx : Value) (v : Value) : Prop := ∃ g, bx = .pointer (some ⟨g, 0, none⟩) ∧ base ≤ g ∧ w.heap[g]? = some (.cells #[v] t (0, 0))

theorem BoxIn.keep {base b' : Nat} {w w' : World} {t : TypeId} {bx v : Value} (h : BoxIn w base t bx v) (k : K b' w w') (ht : mutT t = false) : BoxIn w' base t bx v := by
  obtain ⟨g, rfl, hb, hg⟩ := h
  exact ⟨g, rfl, hb, k.const _ _ _ _ hg ht⟩

/-- The function value pv is an act. -/
def ActIn (w : World) (base : Nat) (pv : Value) : Act → Prop
  | .write p b => ∃ x y v, pv = .func (.func 66) #[] #[x, y] ∧ BoxIn w base 31 x v ∧ RowIn w base v b ∧ BoxIn w base 9 y (S p)
  | .rename p q => ∃ x y, pv = .func (.func 67) #[] #[x, y] ∧ BoxIn w base 9 x (S p) ∧ BoxIn w base 9 y (S q)
  | .remove p => ∃ x, pv = .func (.func 68) #[] #[x] ∧ BoxIn w base 9 x (S p)

theorem ActIn.keep {base b' : Nat} {w w' : World} {pv : Value} {a : Act} (h : ActIn w base pv a) (k : K b' w w') : ActIn w' base pv a := by
  cases a with
  | write p b =>
    obtain ⟨x, y, v, e, h1, h2, h3⟩ := h
    exact ⟨x, y, v, e, h1.keep k rfl, h2.keep k, h3.keep k rfl⟩
  | rename p q =>
    obtain ⟨x, y, e, h1, h2⟩ := h
    exact ⟨x, y, e, h1.keep k rfl, h2.keep k rfl⟩
  | remove p =>
    obtain ⟨x, e, h1⟩ := h
    exact ⟨x, e, h1.keep k rfl⟩

/-- The cells of a row of acts: each a directory and a function. -/
def ActsIn (w : World) (base : Nat) : List Value → List (By × Act) → Prop
  | [], [] => True
  | d :: pv :: vs, a :: l => d = S a.1 ∧ ActIn w base pv a.2 ∧ ActsIn w base vs l
  | _, _ => False

theorem ActsIn.keep {base b' : Nat} {w w' : World} (k : K b' w w') : ∀ {vs l}, ActsIn w base vs l → ActsIn w' base vs l
  | [], [], _ => trivial
  | _ :: _ :: _, _ :: _, ⟨h1, h2, h3⟩ => ⟨h1, h2.keep k, ActsIn.keep k h3⟩
  | [], _ :: _, h => h.elim
  | [_], _, h => by cases ‹List (By × Act)› <;> exact h.elim
  | _ :: _ :: _, [], h => h.elim

theorem ActsIn.snoc {base : Nat} {w : World} {d pv : Value} {a : By × Act} (hd : d = S a.1) (hp : ActIn w base pv a.2) : ∀ {vs l}, ActsIn w base vs l → ActsIn w base (vs ++ [d, pv]) (l ++ [a])
  | [], [], _ => ⟨hd, hp, trivial⟩
  | _ :: _ :: _, _ :: _, ⟨h1, h2, h3⟩ => ⟨h1, h2, ActsIn.snoc hd hp h3⟩
  | [], _ :: _, h => h.elim
  | [_], _, h => by cases ‹List (By × Act)› <;> exact h.elim
  | _ :: _ :: _, [], h => h.elim

theorem ActsIn.length {base : Nat} {w : World} : ∀ {vs l}, ActsIn w base vs l → vs.length = l.length * 2
  | [], [], _ => rfl
  | _ :: _ :: _, _ :: _, ⟨_, _, h3⟩ => by simp [ActsIn.length h3]; omega
  | [], _ :: _, h => h.elim
  | [_], _, h => by cases ‹List (By × Act)› <;> exact h.elim
  | _ :: _ :: _, [], h => h.elim

theorem ActsIn.at {base : Nat} {w : World} : ∀ {vs l} (_ : ActsIn w base vs l) (i : Nat) (a : By × Act), l[i]? = some a → ∃ pv, vs[i * 2]? = some (S a.1) ∧ vs[i * 2 + 1]? = some pv ∧ ActIn w base pv a.2
  | d :: pv :: vs, b :: l, ⟨h1, h2, h3⟩, 0, a, hi => by
    simp at hi; subst hi
    exact ⟨pv, by simp [h1], by simp, h2⟩
  | d :: pv :: vs, b :: l, ⟨_, _, h3⟩, i + 1, a, hi => by
    obtain ⟨pv', r1, r2, r3⟩ := ActsIn.at h3 i a (by simpa using hi)
    refine ⟨pv', ?_, ?_, r3⟩
    · rw [show (i + 1) * 2 = i * 2 + 1 + 1 from by omega]; simpa using r1
    · rw [show (i + 1) * 2 + 1 = i * 2 + 1 + 1 + 1 from by omega]; simpa using r2
  | [], [], _, _, _, hi => by simp at hi
  | [], _ :: _, h, _, _, _ => h.elim
  | [_], l, h, _, _, _ => by cases l <;> exact h.elim
  | _ :: _ :: _, [], h, _, _, _ => h.elim

def LooseIn (w : World) (base : Nat) (v : Value) (l : List (By × Act)) : Prop := ∃ vs, w.ownsRow base 75 2 v l.length vs ∧ ActsIn w base vs l

/-! ### a shelf -/
structure St where
  files : Tb
  synced : Tb
  loose : List (By × Act)
  room : Int
  acts : Int
  fuse : Int
  down : Bool

def shelfCells (f y : Nat) (lv : Value) (st : St) : Array Value :=
  #[.map (some f), .map (some y), lv, .int .i64 st.room, .int .i64 st.acts, .int .i64 st.fuse, .bool st.down]

/-- The shelf at block s. -/
structure Ok (w : World) (base s f y : Nat) (lv : Value) (st : St) : Prop where
  blk : w.heap[s]? = some (.cells (shelfCells f y lv st) 64 (0, 0))
  base_s : base ≤ s
  ne : f ≠ y
  files : TabIn w base f st.files
  synced : TabIn w base y st.synced
  loose : LooseIn w base lv st.loose

theorem Ok.keep {base s f y : Nat} {lv : Value} {st : St} {w w' : World} (h : Ok w base s f y lv st) (hn : Below w.heap.size w w') : Ok w' base s f y lv st := by
  have hlt := lt_of_block h.blk
  have k : K base w w' := K.of_new hn (by have := h.base_s; omega)
  refine ⟨(hn.block s hlt).trans h.blk, h.base_s, h.ne, h.files.keep k (hn.block f h.files.lt), h.synced.keep k (hn.block y h.synced.lt), ?_⟩
  obtain ⟨vs, h1, h2⟩ := h.loose
  refine ⟨vs, ?_, h2.keep k⟩
  exact h1.kept (w' := w') (row := none) ⟨hn.os, hn.tape, hn.output, hn.size, fun k hk _ => hn.block k hk⟩ (by cases hv : lv.ownBlock <;> simp)

theorem Ok.base_le {base s f y : Nat} {lv : Value} {st : St} {w : World} (h : Ok w base s f y lv st) : base ≤ w.heap.size := by
  have := h.base_s; have := lt_of_block h.blk; omega

end Go.Proofs.YtbibogpeagnjoaaGreatDoor


namespace Go.Proofs.YtbibogpeagnjoaaGreatDoor
open Go Go.RowKit

def partByte (c : UInt8) : Bool := (decide (97 ≤ (c.toNat : Int)) && decide ((c.toNat : Int) ≤ 122)) || (decide (48 ≤ (c.toNat : Int)) && decide ((c.toNat : Int) ≤ 57)) || (c.toNat : Int) == 46 || (c.toNat : Int) == 45
def partB (s : By) : Bool := decide (1 ≤ s.length) && decide (s.length ≤ 70) && s.all partByte

set_option maxHeartbeats 400000 in
theorem isPartByte_any (c : UInt8) (w : World) : Calls Tryz.prog 69 #[.int .u8 (c.toNat : Int)] w fun e w' => e = .returned (.bool (partByte c)) ∧ w = w' := by
  go_enter Tryz.func69, Tryz.ntmps69
  go_wp2
  all_goals (go_ret; refine ⟨congrArg (fun b => Ending.returned (Value.bool b)) ?_, rfl⟩; unfold partByte; rw [Bool.eq_iff_iff]; simp; omega)

set_option maxHeartbeats 400000 in
theorem isPart_any (s : By) (w : World) (hs : s.length ≤ maxLen) : Calls Tryz.prog 53 #[S s] w fun e w' => e = .returned (.bool (partB s)) ∧ w = w' := by
  unfold maxLen at hs
  unfold S
  by_cases h1 : s.length < 1
  · go_enter Tryz.func53, Tryz.ntmps53
    go_wp2
    go_ret
    exact ⟨congrArg (fun b => Ending.returned (Value.bool b)) (by unfold partB; simp; omega), rfl⟩
  by_cases h2 : 70 < s.length
  · go_enter Tryz.func53, Tryz.ntmps53
    go_wp2
    go_ret
    exact ⟨congrArg (fun b => Ending.returned (Value.bool b)) (by unfold partB; simp; omega), rfl⟩
  go_enter Tryz.func53, Tryz.ntmps53
  go_wp2
  go_loop [14] (fun i => ∃ k : Nat, k ≤ s.length ∧ i = .int .i64 k ∧ (s.take k).all partByte = true) (fun i => s.length - (intOf i).toNat)
  case atStart => exact ⟨0, Nat.zero_le _, rfl, rfl⟩
  case round =>
    obtain ⟨k, hk, rfl, hall⟩ := hrel
    by_cases hlt : k < s.length
    · have hcall := isPartByte_any s[k] w
      have hsn : (s.take (k + 1)).all partByte = (partByte s[k]) := by
        rw [List.take_succ_eq_append_getElem hlt, List.all_append, hall]; simp
      cases hp : partByte s[k]
      · rw [hp] at hcall hsn
        have hf : partB s = false := by
          unfold partB
          have : s.all partByte = false := by
            rw [← List.take_append_drop (k + 1) s, List.all_append, hsn]; rfl
          rw [this]; simp
        clear hsn hp hall
        have Hf := Lib.hid hf; clear hf
        go_wp2_with fail
        refine hcall.mono ?_
        rintro e w' ⟨rfl, rfl⟩
        go_wp2
        go_ret
        exact ⟨congrArg (fun b => Ending.returned (Value.bool b)) Hf.out.symm, rfl⟩
      · rw [hp] at hcall hsn
        clear hp hall
        have Hs := Lib.hid hsn; clear hsn
        go_wp2_with fail
        refine hcall.mono ?_
        rintro e w' ⟨rfl, rfl⟩
        go_wp2
        go_round
        case rel => exact ⟨k + 1, by omega, by go_num, Hs.out⟩
        case measure => simp [intOf]; omega
    · have hf : partB s = true := by
        unfold partB
        rw [List.take_of_length_le (by omega)] at hall
        rw [hall]; simp; omega
      clear hall
      have Hf := Lib.hid hf; clear hf
      go_wp2
      go_ret
      exact ⟨congrArg (fun b => Ending.returned (Value.bool b)) Hf.out.symm, rfl⟩

def dirOf (p : By) : By := p.takeWhile (· != 47)
def nameOf (p : By) : By := (p.dropWhile (· != 47)).drop 1
def pathB (p : By) : Bool := p.contains 47 && partB (dirOf p) && partB (nameOf p)

theorem slash_cases : ∀ p : By, (Lib.indexByte p 47 = -1 ∧ p.contains 47 = false) ∨
    ∃ o : Nat, Lib.indexByte p 47 = o ∧ o < p.length ∧ p.take o = dirOf p ∧ p.drop (o + 1) = nameOf p ∧ p.contains 47 = true
  | [] => .inl ⟨rfl, rfl⟩
  | b :: l => by
    by_cases hb : b = 47
    · subst hb
      exact .inr ⟨0, rfl, by simp, rfl, rfl, by simp⟩
    · have hbe : (b == 47) = false := by simpa using hb
      have hbn : (b != 47) = true := by simpa using hb
      rcases slash_cases l with ⟨h1, h2⟩ | ⟨o, h1, h2, h3, h4, h5⟩
      · refine .inl ⟨by simp [Lib.indexByte, hbe, h1], ?_⟩
        rw [List.contains_cons, h2]; simpa using fun e => hb e.symm
      · refine .inr ⟨o + 1, ?_, by simp [h2], ?_, ?_, ?_⟩
        · have : ¬ ((o : Int) = -1) := by omega
          simp [Lib.indexByte, hbe, h1, this]
        · simp [dirOf, hbn] at h3 ⊢; exact h3
        · simp [nameOf, hbn] at h4 ⊢; exact h4
        · rw [List.contains_cons, h5]; simp

set_option maxHeartbeats 1000000 in
set_option maxRecDepth 100000 in
theorem indexByte_slash (p : By) (w : World) : Calls Tryz.prog 99 #[S p, .int .u8 47] w fun e w' => e = .returned (.int .i64 (Lib.indexByte p 47)) ∧ w = w' := by
  unfold S
  go_enter Tryz.func99, Tryz.ntmps99
  go_wp2
  rw [run_callFunc_extern Tryz.func109 (by kernel_rfl) (by kernel_rfl) (by kernel_rfl) (e := Extern.BytealgIndexByte.indexByte) (by kernel_rfl), Lib.run_indexByteString]
  simp only [Result.andThen]
  rw [Oper.upon_value]
  go_wp2
  go_ret
  exact ⟨rfl, rfl⟩

set_option maxHeartbeats 1000000 in
set_option maxRecDepth 100000 in
theorem index_slash (p : By) (w : World) : Calls Tryz.prog 85 #[S p, .string ⟨#[47]⟩] w fun e w' => e = .returned (.int .i64 (Lib.indexByte p 47)) ∧ w = w' := by
  have hc := indexByte_slash p w
  unfold S at hc ⊢
  by_cases h : p = [47]
  · subst h
    go_enter Tryz.func85, Tryz.ntmps85
    go_wp2_with fail
    go_ret
    exact ⟨rfl, rfl⟩
  · have h2 : ([47] == p) = false := by simpa using fun e => h e.symm
    go_enter Tryz.func85, Tryz.ntmps85
    go_wp2_with fail
    refine hc.mono ?_
    rintro e w' ⟨rfl, rfl⟩
    go_wp2
    go_ret
    exact ⟨rfl, rfl⟩

theorem extract_S (p : By) (a b : Nat) : (⟨p.toArray⟩ : ByteArray).extract a b = ⟨((p.take b).drop a).toArray⟩ := by
  apply ByteArray.ext
  rw [ByteArray.data_extract]
  apply Array.ext'
  simp [List.drop_take]

def cutB (p : By) : Value := if p.contains 47 then .tuple #[S (dirOf p), S (nameOf p), .bool true] else .tuple #[S p, S [], .bool false]
theorem cutB_yes {p : By} (h : p.contains 47 = true) : cutB p = .tuple #[S (dirOf p), S (nameOf p), .bool true] := by unfold cutB; rw [if_pos h]
theorem cutB_no {p : By} (h : p.contains 47 = false) : cutB p = .tuple #[S p, S [], .bool false] := by unfold cutB; rw [if_neg (by rw [h]; simp)]
/-- What strings.Cut at a slash comes to. -/
def CutPost (p : By) (w : World) (e : Ending) (w' : World) : Prop := e = .returned (cutB p) ∧ ∃ n, w' = w.drewN n

set_option maxHeartbeats 1000000 in
set_option maxRecDepth 100000 in
/-- strings.Cut at a slash. -/
theorem litecut_slash (p : By) (w : World) (hp : p.length ≤ maxLen) : Calls Tryz.prog 75 #[S p, .string ⟨#[47]⟩] w (CutPost p w) := by
  unfold maxLen at hp
  have hc := index_slash p w
  rcases slash_cases p with ⟨h1, h2⟩ | ⟨o, h1, h2, h3, h4, h5⟩
  · rw [h1] at hc
    have H2 := Lib.hid h2; clear h1 h2
    unfold S at hc ⊢
    go_enter Tryz.func75, Tryz.ntmps75
    go_wp2_with fail
    refine hc.mono ?_
    rintro e w' ⟨rfl, rfl⟩
    go_wp2
    go_ret3
    exact ⟨by rw [cutB_no H2.out]; rfl, 0, rfl⟩
  · rw [h1] at hc
    have e4 : p.drop (o + 1) = nameOf p := h4
    have H3 := Lib.hid h3; have H4 := Lib.hid h4; have H5 := Lib.hid h5; clear h1 h3 h4 h5 e4
    unfold S at hc
    have c1 : (0 : Int) ≤ ↑o := by omega
    have c2 : (↑o : Int) ≤ ↑p.length := by omega
    have c3 : (0 : Int) ≤ ↑o + 1 := by omega
    have c4 : (↑o + 1 : Int) ≤ ↑p.length := by omega
    unfold S
    go_enter Tryz.func75, Tryz.ntmps75
    go_wp2_with fail
    refine hc.mono ?_
    rintro e w' ⟨rfl, rfl⟩
    go_wp2
    go_region
    go_wp2
    go_ret3
    have E1 : (⟨p.toArray⟩ : ByteArray).extract 0 o = ⟨(dirOf p).toArray⟩ := by rw [extract_S, ← H3.out]; rfl
    have E2 : (⟨p.toArray⟩ : ByteArray).extract (o + 1) p.length = ⟨(nameOf p).toArray⟩ := by rw [extract_S, ← H4.out, List.take_length]
    refine ⟨?_, 1, rfl⟩
    rw [cutB_yes H5.out]
    show Ending.returned (.tuple #[.string ((⟨p.toArray⟩ : ByteArray).extract 0 o), .string ((⟨p.toArray⟩ : ByteArray).extract (o + 1) p.length), .bool true]) = _
    rw [E1, E2]
    rfl

set_option maxHeartbeats 1000000 in
theorem cut_slash (p : By) (w : World) (hp : p.length ≤ maxLen) : Calls Tryz.prog 61 #[S p, .string ⟨#[47]⟩] w (CutPost p w) := by
  have hc := litecut_slash p w hp
  cases hh : p.contains 47
  · have hb := cutB_no hh
    have hc' : Calls Tryz.prog 75 #[S p, .string ⟨#[47]⟩] w fun e w' => e = .returned (.tuple #[S p, S [], .bool false]) ∧ ∃ n, w' = w.drewN n := hc.mono fun e w' h => by
      obtain ⟨h1, h2⟩ := h; exact ⟨by rw [h1, hb], h2⟩
    have Hb := Lib.hid hb
    clear hh hb hc
    unfold S at hc' ⊢
    go_enter Tryz.func61, Tryz.ntmps61
    go_wp2_with fail
    refine hc'.mono ?_
    rintro e w' ⟨rfl, n, rfl⟩
    go_wp2
    go_ret3
    exact ⟨by rw [Hb.out]; rfl, n, rfl⟩
  · have hb := cutB_yes hh
    have hc' : Calls Tryz.prog 75 #[S p, .string ⟨#[47]⟩] w fun e w' => e = .returned (.tuple #[S (dirOf p), S (nameOf p), .bool true]) ∧ ∃ n, w' = w.drewN n := hc.mono fun e w' h => by
      obtain ⟨h1, h2⟩ := h; exact ⟨by rw [h1, hb], h2⟩
    have Hb := Lib.hid hb
    clear hh hb hc
    unfold S at hc' ⊢
    go_enter Tryz.func61, Tryz.ntmps61
    go_wp2_with fail
    refine hc'.mono ?_
    rintro e w' ⟨rfl, n, rfl⟩
    go_wp2
    go_ret3
    exact ⟨by rw [Hb.out]; rfl, n, rfl⟩

end Go.Proofs.YtbibogpeagnjoaaGreatDoor


namespace Go.Proofs.YtbibogpeagnjoaaGreatDoor
open Go Go.RowKit

/-! ### directory -/
/-- An error whose number is n, in a block of its own. -/
def FaultIn (w : World) (ev : Value) (n : Int) : Prop := ∃ a x, ev = .iface 85 (.pointer (some ⟨a, 0, none⟩)) ∧ w.heap[a]? = some (.cells #[.string x, .iface 35 (.int .i64 n)] 87 (0, 0))

/-- What tells a directory, or an error. -/
def DirPost (p : By) (w : World) (e : Ending) (w' : World) : Prop :=
  Below w.heap.size w w' ∧ ((pathB p = true ∧ e = .returned (.tuple #[S (dirOf p), .nilIface])) ∨ (pathB p = false ∧ ∃ ev, e = .returned (.tuple #[S [], ev]) ∧ FaultIn w' ev 1))

theorem below_drewN (w : World) (n : Nat) : Below w.heap.size w (w.drewN n) := ⟨rfl, rfl, rfl, Nat.le_refl _, fun _ _ => rfl⟩

theorem pathB_parts {p : By} (h : p.contains 47 = true) : pathB p = (partB (dirOf p) && partB (nameOf p)) := by unfold pathB; rw [h]; rfl
theorem dirOf_le (p : By) : (dirOf p).length ≤ p.length := (List.takeWhile_sublist _).length_le
theorem nameOf_le (p : By) : (nameOf p).length ≤ p.length := by
  unfold nameOf; rw [List.length_drop]; have := (List.dropWhile_sublist (p := (· != 47)) (l := p)).length_le; omega

set_option maxHeartbeats 1000000 in
theorem directory_any (p : By) (w : World) (hp : p.length ≤ maxLen) : Calls Tryz.prog 31 #[S p] w (DirPost p w) := by
  have hc := cut_slash p w hp
  cases hh : p.contains 47
  · have hpb : pathB p = false := by unfold pathB; rw [hh]; rfl
    have hc' : Calls Tryz.prog 61 #[S p, .string ⟨#[47]⟩] w fun e w' => e = .returned (.tuple #[S p, S [], .bool false]) ∧ ∃ n, w' = w.drewN n := hc.mono fun e w' h => by
      obtain ⟨h1, h2⟩ := h; exact ⟨by rw [h1, cutB_no hh], h2⟩
    have Hp := Lib.hid hpb
    clear hh hpb hc
    unfold S at hc' ⊢
    go_enter Tryz.func31, Tryz.ntmps31
    go_wp2_with fail
    refine hc'.mono ?_
    rintro e w' ⟨rfl, n, rfl⟩
    go_wp2
    go_ret2
    exact ⟨⟨rfl, rfl, rfl, by simp, fun k hk => Below.heap_alloc _ _ _ hk⟩, .inr ⟨Hp.out, _, rfl, _, _, rfl, heap_alloc_new w _⟩⟩
  · have hc' : Calls Tryz.prog 61 #[S p, .string ⟨#[47]⟩] w fun e w' => e = .returned (.tuple #[S (dirOf p), S (nameOf p), .bool true]) ∧ ∃ n, w' = w.drewN n := hc.mono fun e w' h => by
      obtain ⟨h1, h2⟩ := h; exact ⟨by rw [h1, cutB_yes hh], h2⟩
    have hpb := pathB_parts hh
    clear hc hh
    have hd := fun w => isPart_any (dirOf p) w (Nat.le_trans (dirOf_le p) hp)
    have hn := fun w => isPart_any (nameOf p) w (Nat.le_trans (nameOf_le p) hp)
    generalize hd0 : dirOf p = d at *
    have Hd0 := Lib.hid hd0; clear hd0
    generalize nameOf p = n at *
    cases h1 : partB d
    · rw [h1] at hpb
      rw [h1] at hd
      have Hp := Lib.hid hpb; have Hd := Lib.hid hd
      clear hpb h1 hd hn
      unfold S at hc' ⊢
      go_enter Tryz.func31, Tryz.ntmps31
      go_wp2_with fail
      refine hc'.mono ?_
      rintro e w' ⟨rfl, m, rfl⟩
      go_wp2_with fail
      refine (Hd.out _).mono ?_
      rintro e w' ⟨rfl, rfl⟩
      go_wp2
      go_ret2
      exact ⟨⟨rfl, rfl, rfl, by simp, fun k hk => Below.heap_alloc _ _ _ hk⟩, .inr ⟨by rw [Hp.out]; rfl, _, rfl, _, _, rfl, heap_alloc_new w _⟩⟩
    · cases h2 : partB n
      · rw [h1, h2] at hpb
        rw [h1] at hd; rw [h2] at hn
        have Hp := Lib.hid hpb; have Hd := Lib.hid hd; have Hn := Lib.hid hn
        clear hpb h1 hd hn h2
        unfold S at hc' ⊢
        go_enter Tryz.func31, Tryz.ntmps31
        go_wp2_with fail
        refine hc'.mono ?_
        rintro e w' ⟨rfl, m, rfl⟩
        go_wp2_with fail
        refine (Hd.out _).mono ?_
        rintro e w' ⟨rfl, rfl⟩
        go_wp2_with fail
        refine (Hn.out _).mono ?_
        rintro e w' ⟨rfl, rfl⟩
        go_wp2
        go_ret2
        exact ⟨⟨rfl, rfl, rfl, by simp, fun k hk => Below.heap_alloc _ _ _ hk⟩, .inr ⟨by rw [Hp.out]; rfl, _, rfl, _, _, rfl, heap_alloc_new w _⟩⟩
      · rw [h1, h2] at hpb
        rw [h1] at hd; rw [h2] at hn
        have Hp := Lib.hid hpb; have Hd := Lib.hid hd; have Hn := Lib.hid hn
        clear hpb h1 hd hn h2
        unfold S at hc' ⊢
        go_enter Tryz.func31, Tryz.ntmps31
        go_wp2_with fail
        refine hc'.mono ?_
        rintro e w' ⟨rfl, m, rfl⟩
        go_wp2_with fail
        refine (Hd.out _).mono ?_
        rintro e w' ⟨rfl, rfl⟩
        go_wp2_with fail
        refine (Hn.out _).mono ?_
        rintro e w' ⟨rfl, rfl⟩
        go_wp2
        go_ret2
        exact ⟨below_drewN w _, .inl ⟨by rw [Hp.out]; rfl, by rw [Hd0.out]; rfl⟩⟩
end Go.Proofs.YtbibogpeagnjoaaGreatDoor
