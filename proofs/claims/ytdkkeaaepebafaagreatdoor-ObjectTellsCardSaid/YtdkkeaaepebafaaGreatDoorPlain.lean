/-
  The plain side of layer 4: trees, commits and tags as lists of bytes, there and back.
-/
import Derived.Test.YtdkkeaaepebafaaGreatDoorDPure
import GoSem.ClaimWide
namespace Go.Proofs.YtdkkeaaepebafaaGreatDoor
open Go

/-! ### Texts that may be -/
def partC (c : UInt8) : Bool := decide (33 ≤ c.toNat) && decide (c.toNat ≤ 126) && !(c == 47)
/-- The name of an item, of a tag. -/
def partB (s : List UInt8) : Bool := s.all partC && (decide (1 ≤ s.length) && decide (s.length ≤ 70)) && !(s == [46]) && !(s == [46, 46])
def whoC (c : UInt8) : Bool := decide (32 ≤ c.toNat) && decide (c.toNat ≤ 126)
def whoB (s : List UInt8) : Bool := s.all whoC && decide (s.length ≤ 100)

/-! ### Up to a byte, and behind it -/
def cutAt (c : UInt8) : List UInt8 → Option (List UInt8 × List UInt8)
  | [] => none
  | x :: s => if x = c then some ([], s) else (cutAt c s).map fun p => (x :: p.1, p.2)
theorem cutAt_some {c : UInt8} : ∀ {s a r : List UInt8}, cutAt c s = some (a, r) → s = a ++ c :: r ∧ c ∉ a
  | [], _, _, h => by cases h
  | x :: s, a, r, h => by
    rw [cutAt] at h
    by_cases hx : x = c
    · rw [if_pos hx] at h
      simp only [Option.some.injEq, Prod.mk.injEq] at h
      obtain ⟨rfl, rfl⟩ := h
      exact ⟨by rw [hx]; rfl, by simp⟩
    · rw [if_neg hx] at h
      obtain ⟨⟨a', r'⟩, h1, h2⟩ := Option.map_eq_some_iff.1 h
      simp only [Prod.mk.injEq] at h2
      obtain ⟨rfl, rfl⟩ := h2
      obtain ⟨e1, e2⟩ := cutAt_some h1
      exact ⟨by rw [e1]; rfl, by simp only [List.mem_cons, not_or]; exact ⟨fun e => hx e.symm, e2⟩⟩
theorem cutAt_mk {c : UInt8} : ∀ {a r : List UInt8}, c ∉ a → cutAt c (a ++ c :: r) = some (a, r)
  | [], r, _ => by rw [List.nil_append, cutAt, if_pos rfl]
  | x :: a, r, h => by
    simp only [List.mem_cons, not_or] at h
    rw [List.cons_append, cutAt, if_neg (fun e => h.1 e.symm), cutAt_mk h.2]; rfl
theorem cutAt_none {c : UInt8} : ∀ {s : List UInt8}, cutAt c s = none ↔ c ∉ s
  | [] => by simp [cutAt]
  | x :: s => by
    rw [cutAt]
    by_cases hx : x = c
    · rw [if_pos hx]; simp [hx]
    · rw [if_neg hx, Option.map_eq_none_iff, cutAt_none]; simp [Ne.symm hx]

/-- A line that begins with a word: what stands behind that, and what is behind the line. -/
def lineP (pre s : List UInt8) : Option (List UInt8 × List UInt8) := if pre.isPrefixOf s then cutAt 10 (s.drop pre.length) else none
theorem pre_iff {pre s : List UInt8} : pre.isPrefixOf s = true ↔ ∃ r, s = pre ++ r := by
  rw [List.isPrefixOf_iff_prefix]
  exact ⟨fun ⟨r, h⟩ => ⟨r, h.symm⟩, fun ⟨r, h⟩ => ⟨r, h.symm⟩⟩
theorem lineP_some {pre s a r : List UInt8} (h : lineP pre s = some (a, r)) : s = pre ++ (a ++ 10 :: r) ∧ 10 ∉ a := by
  unfold lineP at h
  by_cases hp : pre.isPrefixOf s = true
  · rw [if_pos hp] at h
    obtain ⟨q, rfl⟩ := pre_iff.1 hp
    rw [List.drop_left] at h
    obtain ⟨e, e2⟩ := cutAt_some h
    exact ⟨by rw [e], e2⟩
  · rw [if_neg hp] at h; cases h
theorem lineP_mk {pre a r : List UInt8} (h : 10 ∉ a) : lineP pre (pre ++ (a ++ 10 :: r)) = some (a, r) := by
  unfold lineP
  rw [if_pos (pre_iff.2 ⟨_, rfl⟩), List.drop_left, cutAt_mk h]

/-- As many lines of a word as there are, n at most. -/
def linesP (pre : List UInt8) : Nat → List UInt8 → Option (List (List UInt8) × List UInt8)
  | 0, s => some ([], s)
  | n + 1, s => if pre.isPrefixOf s then (match cutAt 10 (s.drop pre.length) with | none => none | some (a, r) => (linesP pre n r).map fun p => (a :: p.1, p.2)) else some ([], s)
theorem linesP_some {pre : List UInt8} : ∀ {n : Nat} {s : List UInt8} {l : List (List UInt8)} {r : List UInt8}, linesP pre n s = some (l, r) → s = (l.flatMap fun a => pre ++ (a ++ [10])) ++ r
  | 0, s, l, r, h => by
    simp only [linesP, Option.some.injEq, Prod.mk.injEq] at h
    obtain ⟨rfl, rfl⟩ := h; rfl
  | n + 1, s, l, r, h => by
    rw [linesP] at h
    by_cases hp : pre.isPrefixOf s = true
    · rw [if_pos hp] at h
      obtain ⟨q, rfl⟩ := pre_iff.1 hp
      rw [List.drop_left] at h
      cases hc : cutAt 10 q with
      | none => rw [hc] at h; cases h
      | some p =>
        obtain ⟨a, q'⟩ := p
        rw [hc] at h
        obtain ⟨⟨l', r'⟩, h1, h2⟩ := Option.map_eq_some_iff.1 h
        simp only [Prod.mk.injEq] at h2
        obtain ⟨rfl, rfl⟩ := h2
        obtain ⟨e1, _⟩ := cutAt_some hc
        have e2 := linesP_some h1
        rw [e1, e2]
        simp [List.flatMap_cons, List.append_assoc]
    · rw [if_neg hp] at h
      simp only [Option.some.injEq, Prod.mk.injEq] at h
      obtain ⟨rfl, rfl⟩ := h; rfl
theorem linesP_mk {pre : List UInt8} : ∀ {n : Nat} {l : List (List UInt8)} {r : List UInt8}, l.length ≤ n → (∀ a ∈ l, 10 ∉ a) → pre.isPrefixOf r = false → linesP pre n ((l.flatMap fun a => pre ++ (a ++ [10])) ++ r) = some (l, r)
  | 0, [], r, _, _, _ => rfl
  | 0, _ :: _, _, h, _, _ => by simp at h
  | n + 1, [], r, _, _, h => by
    rw [linesP, List.flatMap_nil, List.nil_append, h]; rfl
  | n + 1, a :: l, r, hl, ha, h => by
    have e : ((a :: l).flatMap fun a => pre ++ (a ++ [10])) ++ r = pre ++ (a ++ 10 :: ((l.flatMap fun a => pre ++ (a ++ [10])) ++ r)) := by simp [List.flatMap_cons, List.append_assoc]
    rw [e, linesP, if_pos (pre_iff.2 ⟨_, rfl⟩), List.drop_left, cutAt_mk (ha a (by simp))]
    show (linesP pre n _).map _ = _
    rw [linesP_mk (by simpa using hl) (fun b hb => ha b (by simp [hb])) h]; rfl

/-! ### Trees -/
structure Itm where
  mode : Int
  name : List UInt8
  id : List UInt8
deriving DecidableEq
def noItm : Itm := ⟨0, [], []⟩
def itemB (x : Itm) : Bool := decide (1 ≤ x.mode) && decide (x.mode ≤ 3) && partB x.name && namedB x.id
/-- By which items rise. -/
def keyL (x : Itm) : List UInt8 := if x.mode = 3 then x.name ++ [47] else x.name
def goodI (l : List Itm) (i : Nat) : Bool := itemB (l.getD i noItm) && (i == 0 || bytesBefore (keyL (l.getD (i - 1) noItm)) (keyL (l.getD i noItm)))
def rightT (l : List Itm) : Bool := decide (l.length ≤ 256) && (List.range l.length).all (goodI l) && decide ((l.map Itm.name).Nodup)
def putI (x : Itm) : List UInt8 := UInt8.ofNat (48 + x.mode.toNat) :: 32 :: (x.name ++ 0 :: x.id)
def putT (l : List Itm) : List UInt8 := l.flatMap putI
def getI : List UInt8 → Option (Itm × List UInt8)
  | m :: b :: s => if b = 32 then (match cutAt 0 s with | some (a, r) => if 64 ≤ r.length then some (⟨(m.toNat : Int) - 48, a, r.take 64⟩, r.drop 64) else none | none => none) else none
  | _ => none
def getIs : Nat → List UInt8 → Option (List Itm × List UInt8)
  | 0, s => some ([], s)
  | _ + 1, [] => some ([], [])
  | f + 1, c :: s => match getI (c :: s) with | none => none | some (x, r) => (getIs f r).map fun p => (x :: p.1, p.2)
def getT (s : List UInt8) : Option (List Itm) := match getIs 257 s with | none => none | some (l, _) => if rightT l then some l else none

theorem named_len64 {s : List UInt8} (h : namedB s = true) : s.length = 64 := by
  unfold namedB at h
  simp only [Bool.and_eq_true, beq_iff_eq] at h
  exact h.1
theorem named_not {s : List UInt8} (h : namedB s = true) {c : UInt8} (hc : isD c = false) : c ∉ s := by
  unfold namedB at h
  simp only [Bool.and_eq_true, List.all_eq_true] at h
  intro hm
  have := h.2 c hm
  rw [hc] at this; cases this
theorem part_no {s : List UInt8} (h : partB s = true) {c : UInt8} (hc : partC c = false) : c ∉ s := by
  unfold partB at h
  simp only [Bool.and_eq_true, List.all_eq_true] at h
  intro hm
  have := h.1.1.1 c hm
  rw [hc] at this; cases this
theorem itemB_parts {x : Itm} (h : itemB x = true) : 1 ≤ x.mode ∧ x.mode ≤ 3 ∧ partB x.name = true ∧ namedB x.id = true := by
  unfold itemB at h
  simp only [Bool.and_eq_true, decide_eq_true_eq] at h
  exact ⟨h.1.1.1, h.1.1.2, h.1.2, h.2⟩
theorem getI_put {x : Itm} (h : itemB x = true) (r : List UInt8) : getI (putI x ++ r) = some (x, r) := by
  obtain ⟨h1, h2, h3, h4⟩ := itemB_parts h
  unfold putI
  rw [List.cons_append, List.cons_append, List.append_assoc, List.cons_append, getI, if_pos rfl, cutAt_mk (part_no h3 (by decide))]
  have hl := named_len64 h4
  show (if 64 ≤ (x.id ++ r).length then _ else _) = _
  rw [if_pos (by rw [List.length_append]; omega), ← hl, List.take_left, List.drop_left, UInt8.toNat_ofNat']
  have e : (((48 + x.mode.toNat) % 2 ^ 8 : Nat) : Int) - 48 = x.mode := by omega
  rw [e]
theorem getI_some {s r : List UInt8} {x : Itm} (h : getI s = some (x, r)) (hx : itemB x = true) : s = putI x ++ r := by
  match s, h with
  | m :: b :: s, h =>
    rw [getI] at h
    by_cases hb : b = 32
    · rw [if_pos hb] at h
      cases hc : cutAt 0 s with
      | none => rw [hc] at h; cases h
      | some p =>
        obtain ⟨a, q⟩ := p
        rw [hc] at h
        simp only at h
        by_cases hq : 64 ≤ q.length
        · rw [if_pos hq] at h
          simp only [Option.some.injEq, Prod.mk.injEq] at h
          obtain ⟨rfl, rfl⟩ := h
          obtain ⟨e, _⟩ := cutAt_some hc
          obtain ⟨h1, h2, _, _⟩ := itemB_parts hx
          simp only at h1 h2
          unfold putI
          have hm : UInt8.ofNat (48 + ((m.toNat : Int) - 48).toNat) = m := UInt8.toNat_inj.1 (by rw [UInt8.toNat_ofNat']; have := m.toNat_lt; omega)
          rw [hm, hb, e]
          simp
        · rw [if_neg hq] at h; cases h
    · rw [if_neg hb] at h; cases h
  | [], h => cases h
  | [_], h => cases h

theorem putI_ne (x : Itm) (r : List UInt8) : ∃ c s, putI x ++ r = c :: s := ⟨_, _, rfl⟩
theorem getIs_put : ∀ {f : Nat} {l : List Itm}, l.length < f → (∀ x ∈ l, itemB x = true) → getIs f (putT l) = some (l, [])
  | 0, _, h, _ => by omega
  | f + 1, [], _, _ => rfl
  | f + 1, x :: l, h, hx => by
    have e : putT (x :: l) = putI x ++ putT l := rfl
    obtain ⟨c, s, hc⟩ := putI_ne x (putT l)
    rw [e, hc, getIs, ← hc, getI_put (hx x (by simp))]
    show (getIs f (putT l)).map _ = _
    rw [getIs_put (by simpa using h) (fun y hy => hx y (by simp [hy]))]; rfl
theorem getIs_some : ∀ {f : Nat} {s r : List UInt8} {l : List Itm}, getIs f s = some (l, r) → (∀ x ∈ l, itemB x = true) → s = putT l ++ r ∧ l.length ≤ f ∧ (l.length < f → r = [])
  | 0, s, r, l, h, _ => by
    simp only [getIs, Option.some.injEq, Prod.mk.injEq] at h
    obtain ⟨rfl, rfl⟩ := h
    exact ⟨rfl, Nat.le_refl _, fun h => by simp at h⟩
  | f + 1, [], r, l, h, _ => by
    simp only [getIs, Option.some.injEq, Prod.mk.injEq] at h
    obtain ⟨rfl, rfl⟩ := h
    exact ⟨rfl, Nat.zero_le _, fun _ => rfl⟩
  | f + 1, c :: s, r, l, h, hx => by
    rw [getIs] at h
    cases hg : getI (c :: s) with
    | none => rw [hg] at h; cases h
    | some p =>
      obtain ⟨x, q⟩ := p
      rw [hg] at h
      obtain ⟨⟨l', r'⟩, h1, h2⟩ := Option.map_eq_some_iff.1 h
      simp only [Prod.mk.injEq] at h2
      obtain ⟨rfl, rfl⟩ := h2
      obtain ⟨e1, e2, e3⟩ := getIs_some h1 (fun y hy => hx y (by simp [hy]))
      refine ⟨?_, by simpa using e2, fun hl => e3 (by simpa using hl)⟩
      rw [getI_some hg (hx x (by simp)), e1]
      simp [putT, List.append_assoc]
theorem rightT_parts {l : List Itm} : rightT l = true ↔ l.length ≤ 256 ∧ (∀ i, i < l.length → goodI l i = true) ∧ (l.map Itm.name).Nodup := by
  unfold rightT
  simp only [Bool.and_eq_true, decide_eq_true_eq, List.all_eq_true, List.mem_range]
  exact ⟨fun h => ⟨h.1.1, h.1.2, h.2⟩, fun h => ⟨⟨h.1, h.2.1⟩, h.2.2⟩⟩
theorem rightT_items {l : List Itm} (h : rightT l = true) : ∀ x ∈ l, itemB x = true := by
  obtain ⟨_, h2, _⟩ := rightT_parts.1 h
  intro x hx
  obtain ⟨i, hi, rfl⟩ := List.mem_iff_getElem.1 hx
  have := h2 i hi
  unfold goodI at this
  simp only [Bool.and_eq_true] at this
  have h3 := this.1
  rwa [List.getD_eq_getElem?_getD, List.getElem?_eq_getElem hi] at h3
/-- There and back. -/
theorem getT_iff {s : List UInt8} {l : List Itm} : getT s = some l ↔ rightT l = true ∧ putT l = s := by
  unfold getT
  constructor
  · intro h
    cases hg : getIs 257 s with
    | none => rw [hg] at h; cases h
    | some p =>
      obtain ⟨l', r⟩ := p
      rw [hg] at h
      simp only at h
      by_cases hr : rightT l' = true
      · rw [if_pos hr] at h
        cases h
        obtain ⟨e1, _, e3⟩ := getIs_some hg (rightT_items hr)
        have hl := (rightT_parts.1 hr).1
        rw [e3 (by omega), List.append_nil] at e1
        exact ⟨hr, e1.symm⟩
      · rw [if_neg hr] at h; cases h
  · rintro ⟨hr, rfl⟩
    rw [getIs_put (by have := (rightT_parts.1 hr).1; omega) (rightT_items hr)]
    show (if rightT l = true then _ else _) = _
    rw [if_pos hr]

/-! ### Commits -/
structure Chg where
  tree : List UInt8
  parents : List (List UInt8)
  who : List UInt8
  text : List UInt8
deriving DecidableEq
def wTree : List UInt8 := [116, 114, 101, 101, 32]
def wParent : List UInt8 := [112, 97, 114, 101, 110, 116, 32]
def wWho : List UInt8 := [119, 104, 111, 32]
def rightC (c : Chg) : Bool := namedB c.tree && (decide (c.parents.length ≤ 8) && c.parents.all namedB && decide c.parents.Nodup) && whoB c.who
def parL (l : List (List UInt8)) : List UInt8 := l.flatMap fun a => wParent ++ (a ++ [10])
def putC (c : Chg) : List UInt8 := wTree ++ (c.tree ++ 10 :: (parL c.parents ++ (wWho ++ (c.who ++ 10 :: (10 :: c.text)))))
def tailP : List UInt8 → Option (List UInt8)
  | c :: s => if c = 10 then some s else none
  | [] => none
def rawC (s : List UInt8) : Option Chg :=
  match lineP wTree s with
  | none => none
  | some (t, r) => match linesP wParent 8 r with
    | none => none
    | some (ps, r) => match lineP wWho r with
      | none => none
      | some (w, r) => (tailP r).map fun x => ⟨t, ps, w, x⟩
def getC (s : List UInt8) : Option Chg := match rawC s with | none => none | some c => if rightC c then some c else none
theorem tailP_some {s x : List UInt8} (h : tailP s = some x) : s = 10 :: x := by
  match s, h with
  | c :: s, h =>
    rw [tailP] at h
    by_cases hc : c = 10
    · rw [if_pos hc] at h; cases h; rw [hc]
    · rw [if_neg hc] at h; cases h
  | [], h => cases h
theorem rawC_some {s : List UInt8} {c : Chg} (h : rawC s = some c) : s = putC c := by
  unfold rawC at h
  cases h1 : lineP wTree s with
  | none => rw [h1] at h; cases h
  | some p =>
    obtain ⟨t, r1⟩ := p
    rw [h1] at h; simp only at h
    cases h2 : linesP wParent 8 r1 with
    | none => rw [h2] at h; cases h
    | some p =>
      obtain ⟨ps, r2⟩ := p
      rw [h2] at h; simp only at h
      cases h3 : lineP wWho r2 with
      | none => rw [h3] at h; cases h
      | some p =>
        obtain ⟨w, r3⟩ := p
        rw [h3] at h; simp only at h
        obtain ⟨x, h4, rfl⟩ := Option.map_eq_some_iff.1 h
        have e1 := (lineP_some h1).1
        have e2 := linesP_some h2
        have e3 := (lineP_some h3).1
        have e4 := tailP_some h4
        rw [e1, e2, e3, e4]; rfl
theorem who_no {s : List UInt8} (h : whoB s = true) {c : UInt8} (hc : whoC c = false) : c ∉ s := by
  unfold whoB at h
  simp only [Bool.and_eq_true, List.all_eq_true] at h
  intro hm
  have := h.1 c hm
  rw [hc] at this; cases this
theorem rightC_parts {c : Chg} : rightC c = true ↔ namedB c.tree = true ∧ c.parents.length ≤ 8 ∧ (∀ p ∈ c.parents, namedB p = true) ∧ c.parents.Nodup ∧ whoB c.who = true := by
  unfold rightC
  simp only [Bool.and_eq_true, decide_eq_true_eq, List.all_eq_true]
  exact ⟨fun h => ⟨h.1.1, h.1.2.1.1, h.1.2.1.2, h.1.2.2, h.2⟩, fun h => ⟨⟨h.1, ⟨h.2.1, h.2.2.1⟩, h.2.2.2.1⟩, h.2.2.2.2⟩⟩
theorem rawC_put {c : Chg} (h : rightC c = true) : rawC (putC c) = some c := by
  obtain ⟨h1, h2, h3, _, h5⟩ := rightC_parts.1 h
  unfold rawC putC
  rw [lineP_mk (named_not h1 (by decide))]
  simp only
  unfold parL
  rw [linesP_mk h2 (fun a ha => named_not (h3 a ha) (by decide)) (by rfl)]
  simp only
  rw [lineP_mk (who_no h5 (by decide))]
  rfl
theorem getC_iff {s : List UInt8} {c : Chg} : getC s = some c ↔ rightC c = true ∧ putC c = s := by
  unfold getC
  constructor
  · intro h
    cases hg : rawC s with
    | none => rw [hg] at h; cases h
    | some c' =>
      rw [hg] at h; simp only at h
      by_cases hr : rightC c' = true
      · rw [if_pos hr] at h; cases h
        exact ⟨hr, (rawC_some hg).symm⟩
      · rw [if_neg hr] at h; cases h
  · rintro ⟨hr, rfl⟩
    rw [rawC_put hr]
    show (if rightC c = true then _ else _) = _
    rw [if_pos hr]

/-! ### Tags -/
structure Lbl where
  id : List UInt8
  kind : Int
  name : List UInt8
  text : List UInt8
deriving DecidableEq
/-- The word of a kind. -/
def kindW (k : Int) : List UInt8 := if k = 1 then [98, 108, 111, 98] else if k = 2 then [116, 114, 101, 101] else if k = 3 then [99, 111, 109, 109, 105, 116] else if k = 4 then [116, 97, 103] else []
def kindOfW (w : List UInt8) : Int := if w = [98, 108, 111, 98] then 1 else if w = [116, 114, 101, 101] then 2 else if w = [99, 111, 109, 109, 105, 116] then 3 else if w = [116, 97, 103] then 4 else 0
def wObject : List UInt8 := [111, 98, 106, 101, 99, 116, 32]
def wKind : List UInt8 := [107, 105, 110, 100, 32]
def wName : List UInt8 := [110, 97, 109, 101, 32]
def rightL (l : Lbl) : Bool := namedB l.id && (decide (1 ≤ l.kind) && decide (l.kind ≤ 4)) && partB l.name
def putL4 (l : Lbl) : List UInt8 := wObject ++ (l.id ++ 10 :: (wKind ++ (kindW l.kind ++ 10 :: (wName ++ (l.name ++ 10 :: (10 :: l.text))))))
def rawL (s : List UInt8) : Option Lbl :=
  match lineP wObject s with
  | none => none
  | some (i, r) => match lineP wKind r with
    | none => none
    | some (k, r) => match lineP wName r with
      | none => none
      | some (n, r) => (tailP r).map fun x => ⟨i, kindOfW k, n, x⟩
def getL4 (s : List UInt8) : Option Lbl := match rawL s with | none => none | some l => if rightL l then some l else none
theorem kind_cases {k : Int} (h1 : 1 ≤ k) (h2 : k ≤ 4) : k = 1 ∨ k = 2 ∨ k = 3 ∨ k = 4 := by omega
theorem kindOf_word {k : Int} (h1 : 1 ≤ k) (h2 : k ≤ 4) : kindOfW (kindW k) = k := by
  rcases kind_cases h1 h2 with rfl | rfl | rfl | rfl <;> rfl
theorem word_kindOf {w : List UInt8} (h : 1 ≤ kindOfW w) : kindW (kindOfW w) = w := by
  unfold kindOfW at h ⊢
  by_cases h1 : w = [98, 108, 111, 98]
  · rw [if_pos h1, h1]; rfl
  rw [if_neg h1] at h ⊢
  by_cases h2 : w = [116, 114, 101, 101]
  · rw [if_pos h2, h2]; rfl
  rw [if_neg h2] at h ⊢
  by_cases h3 : w = [99, 111, 109, 109, 105, 116]
  · rw [if_pos h3, h3]; rfl
  rw [if_neg h3] at h ⊢
  by_cases h4 : w = [116, 97, 103]
  · rw [if_pos h4, h4]; rfl
  rw [if_neg h4] at h
  omega
theorem word_ne_nil {k : Int} : kindW k = [] ↔ ¬ (1 ≤ k ∧ k ≤ 4) := by
  constructor
  · rintro h ⟨h1, h2⟩
    rcases kind_cases h1 h2 with rfl | rfl | rfl | rfl <;> cases h
  · intro h
    unfold kindW
    rw [if_neg (by omega), if_neg (by omega), if_neg (by omega), if_neg (by omega)]
theorem word_no {k : Int} : (10 : UInt8) ∉ kindW k := by
  by_cases h : 1 ≤ k ∧ k ≤ 4
  · rcases kind_cases h.1 h.2 with rfl | rfl | rfl | rfl <;> decide
  · rw [word_ne_nil.2 h]; simp
theorem rightL_parts {l : Lbl} : rightL l = true ↔ namedB l.id = true ∧ (1 ≤ l.kind ∧ l.kind ≤ 4) ∧ partB l.name = true := by
  unfold rightL
  simp only [Bool.and_eq_true, decide_eq_true_eq]
  exact ⟨fun h => ⟨h.1.1, h.1.2, h.2⟩, fun h => ⟨⟨h.1, h.2.1⟩, h.2.2⟩⟩
theorem rawL_some {s : List UInt8} {l : Lbl} (h : rawL s = some l) (hk : 1 ≤ l.kind) : s = putL4 l := by
  unfold rawL at h
  cases h1 : lineP wObject s with
  | none => rw [h1] at h; cases h
  | some p =>
    obtain ⟨i, r1⟩ := p
    rw [h1] at h; simp only at h
    cases h2 : lineP wKind r1 with
    | none => rw [h2] at h; cases h
    | some p =>
      obtain ⟨k, r2⟩ := p
      rw [h2] at h; simp only at h
      cases h3 : lineP wName r2 with
      | none => rw [h3] at h; cases h
      | some p =>
        obtain ⟨n, r3⟩ := p
        rw [h3] at h; simp only at h
        obtain ⟨x, h4, rfl⟩ := Option.map_eq_some_iff.1 h
        have e1 := (lineP_some h1).1
        have e2 := (lineP_some h2).1
        have e3 := (lineP_some h3).1
        have e4 := tailP_some h4
        unfold putL4
        rw [word_kindOf hk, e1, e2, e3, e4]
theorem rawL_put {l : Lbl} (h : rightL l = true) : rawL (putL4 l) = some l := by
  obtain ⟨h1, h2, h3⟩ := rightL_parts.1 h
  unfold rawL putL4
  rw [lineP_mk (named_not h1 (by decide))]
  simp only
  rw [lineP_mk word_no]
  simp only
  rw [lineP_mk (part_no h3 (by decide))]
  show some (Lbl.mk l.id (kindOfW (kindW l.kind)) l.name l.text) = _
  rw [kindOf_word h2.1 h2.2]
theorem getL4_iff {s : List UInt8} {l : Lbl} : getL4 s = some l ↔ rightL l = true ∧ putL4 l = s := by
  unfold getL4
  constructor
  · intro h
    cases hg : rawL s with
    | none => rw [hg] at h; cases h
    | some c' =>
      rw [hg] at h; simp only at h
      by_cases hr : rightL c' = true
      · rw [if_pos hr] at h; cases h
        exact ⟨hr, (rawL_some hg (rightL_parts.1 hr).2.1.1).symm⟩
      · rw [if_neg hr] at h; cases h
  · rintro ⟨hr, rfl⟩
    rw [rawL_put hr]
    show (if rightL l = true then _ else _) = _
    rw [if_pos hr]

/-! ### Objects -/
def wantI (x : Itm) : List UInt8 × Int := (x.id, if x.mode = 3 then 2 else 1)
def wantC (c : Chg) : List (List UInt8 × Int) := (c.tree, 2) :: c.parents.map fun p => (p, 3)
def wantL (l : Lbl) : List (List UInt8 × Int) := [(l.id, l.kind)]
/-- What an object's bytes name, if it may be one. -/
def wantsO (k : Int) (d : List UInt8) : Option (List (List UInt8 × Int)) :=
  if 65536 < d.length then none
  else if k = 1 then some []
  else if k = 2 then (getT d).map fun l => l.map wantI
  else if k = 3 then (getC d).map wantC
  else if k = 4 then (getL4 d).map wantL
  else none
end Go.Proofs.YtdkkeaaepebafaaGreatDoor
