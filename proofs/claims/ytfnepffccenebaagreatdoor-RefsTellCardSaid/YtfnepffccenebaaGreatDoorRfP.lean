/-
  Refs, plain: names and their parts, refs that are right, what updates make of them, and lines.
-/
import Derived.Test.YtfnepffccenebaaGreatDoorDPure
import Derived.Test.YtfnepffccenebaaGreatDoorWPure
import Derived.Lib.Split
import Derived.Lib.SplitLaws
namespace Go.Proofs.YtfnepffccenebaaGreatDoor.Rf
open Go.Proofs.YtfnepffccenebaaGreatDoor

/-! ### The first of those that hold -/
def firstN (p : Nat → Bool) (n : Nat) : Option Nat := (List.range n).find? p
theorem firstN_succ (p : Nat → Bool) (n : Nat) : firstN p (n + 1) = match firstN p n with | some i => some i | none => if p n then some n else none := by
  unfold firstN
  rw [List.range_succ, List.find?_append]
  cases (List.range n).find? p with
  | some i => rfl
  | none => simp [List.find?_cons]; cases p n <;> rfl
theorem firstN_none {p : Nat → Bool} : ∀ {n : Nat}, (∀ j, j < n → p j = false) → firstN p n = none
  | 0, _ => rfl
  | n + 1, h => by rw [firstN_succ, firstN_none fun j hj => h j (by omega), h n (by omega)]; rfl
theorem firstN_some {p : Nat → Bool} {n k : Nat} (hk : k < n) (hp : p k = true) (h : ∀ j, j < k → p j = false) : firstN p n = some k := by
  induction n with
  | zero => omega
  | succ n ih =>
    rw [firstN_succ]
    rcases Nat.lt_or_ge k n with hlt | hge
    · rw [ih hlt]
    · have e : k = n := by omega
      subst e
      rw [firstN_none h, hp]; rfl
theorem firstN_is {p : Nat → Bool} {n : Nat} : (∃ k, k < n ∧ p k = true ∧ (∀ j, j < k → p j = false) ∧ firstN p n = some k) ∨ ((∀ j, j < n → p j = false) ∧ firstN p n = none) := by
  induction n with
  | zero => exact .inr ⟨fun j hj => absurd hj (Nat.not_lt_zero _), rfl⟩
  | succ n ih =>
    rcases ih with ⟨k, hk, hp, hj, _⟩ | ⟨hn, _⟩
    · exact .inl ⟨k, by omega, hp, hj, firstN_some (by omega) hp hj⟩
    · cases hp : p n with
      | true => exact .inl ⟨n, by omega, hp, hn, firstN_some (by omega) hp hn⟩
      | false =>
        have ha : ∀ j, j < n + 1 → p j = false := fun j hj => by
          rcases Nat.lt_or_ge j n with h | h
          · exact hn j h
          · have e : j = n := by omega
            rw [e]; exact hp
        exact .inr ⟨ha, firstN_none ha⟩
theorem firstN_cong {p q : Nat → Bool} {n : Nat} (h : ∀ j, j < n → p j = q j) : firstN p n = firstN q n := by
  induction n with
  | zero => rfl
  | succ n ih => rw [firstN_succ, firstN_succ, ih fun j hj => h j (by omega), h n (by omega)]

/-! ### Names -/
/-- A text, parted at each slash. -/
def parts : Bs → List Bs
  | [] => [[]]
  | c :: s => if c = 47 then [] :: parts s else match parts s with | p :: r => (c :: p) :: r | [] => [[c]]
theorem parts_ne (s : Bs) : parts s ≠ [] := by
  cases s with
  | nil => simp [parts]
  | cons c s =>
    unfold parts
    split
    · simp
    · split <;> simp
theorem parts_cons (c : UInt8) (h : c ≠ 47) (s p : Bs) (r : List Bs) (hp : parts s = p :: r) : parts (c :: s) = (c :: p) :: r := by
  rw [parts, if_neg h, hp]
theorem parts_slash (s : Bs) : parts (47 :: s) = [] :: parts s := by rw [parts, if_pos rfl]
/-- A part, a slash, the rest. -/
theorem parts_app {p : Bs} (h : (47 : UInt8) ∉ p) (s : Bs) : parts (p ++ 47 :: s) = p :: parts s := by
  induction p with
  | nil => exact parts_slash s
  | cons c p ih =>
    have hc : c ≠ 47 := fun e => h (by rw [e]; simp)
    exact parts_cons c hc _ _ _ (ih fun hm => h (List.mem_cons_of_mem _ hm))
theorem parts_one {p : Bs} (h : (47 : UInt8) ∉ p) : parts p = [p] := by
  induction p with
  | nil => rfl
  | cons c p ih =>
    have hc : c ≠ 47 := fun e => h (by rw [e]; simp)
    exact parts_cons c hc _ _ _ (ih fun hm => h (List.mem_cons_of_mem _ hm))
theorem parts_len : ∀ s : Bs, (parts s).length = s.count 47 + 1
  | [] => rfl
  | c :: s => by
    have ih := parts_len s
    by_cases h : c = 47
    · rw [h, parts_slash, List.count_cons]; simp [ih]
    · cases hp : parts s with
      | nil => exact absurd hp (parts_ne s)
      | cons p r =>
        rw [parts_cons c h s p r hp, List.count_cons]
        rw [hp] at ih
        simp at ih ⊢
        simp [h, ih]
theorem index_ne (s : Bs) (c : UInt8) (h : c ≠ 47) : Go.Lib.index (c :: s) [47] = if Go.Lib.index s [47] == -1 then -1 else Go.Lib.index s [47] + 1 := by
  have hf : List.isPrefixOf [(47 : UInt8)] (c :: s) = false := by simp [List.isPrefixOf]; exact fun e => h e.symm
  rw [Go.Lib.index, hf]
  simp
theorem index_eq (s : Bs) : Go.Lib.index (47 :: s) [47] = 0 := by
  have hf : List.isPrefixOf [(47 : UInt8)] (47 :: s) = true := by simp [List.isPrefixOf]
  rw [Go.Lib.index, hf]
  rfl
theorem index_none : ∀ {s : Bs}, s.count 47 = 0 → Go.Lib.index s [47] = -1
  | [], _ => rfl
  | c :: s, h => by
    have hc : c ≠ 47 := fun e => by rw [e] at h; simp at h
    rw [index_ne s c hc, index_none (s := s) (by rw [List.count_cons_of_ne hc] at h; exact h)]
    rfl
theorem index_some : ∀ {s : Bs}, 0 < s.count 47 → ∃ i : Nat, Go.Lib.index s [47] = i ∧ i < s.length ∧ parts s = s.take i :: parts (s.drop (i + 1)) ∧ s.count 47 = (s.drop (i + 1)).count 47 + 1
  | [], h => by simp at h
  | c :: s, h => by
    by_cases hc : c = 47
    · subst hc
      exact ⟨0, index_eq s, by simp, by rw [parts_slash]; rfl, by simp⟩
    · obtain ⟨i, h1, h2, h3, h4⟩ := index_some (s := s) (by rw [List.count_cons_of_ne hc] at h; exact h)
      refine ⟨i + 1, ?_, by simp; omega, ?_, ?_⟩
      · rw [index_ne s c hc, h1]
        have : ¬ ((i : Int) == -1) = true := by simp
        rw [if_neg this]; omega
      · rw [parts_cons c hc s _ _ h3]; rfl
      · rw [List.count_cons_of_ne hc, h4]; rfl
theorem splitK_parts : ∀ (k : Nat) (s : Bs), s.count 47 = k → Go.Lib.splitK [47] 0 k s = parts s
  | 0, s, h => by
    show [s] = parts s
    rw [parts_one (p := s)]
    exact List.count_eq_zero.1 h
  | k + 1, s, h => by
    obtain ⟨i, h1, h2, h3, h4⟩ := index_some (s := s) (by omega)
    rw [Go.Lib.splitK, h1]
    have : ¬ ((i : Int) == -1) = true := by simp
    rw [if_neg this, h3]
    have ih := splitK_parts k (s.drop (i + 1)) (by omega)
    simp
    exact ih
def partByte (c : UInt8) : Bool := (97 ≤ c && c ≤ 122) || (48 ≤ c && c ≤ 57) || c == 46 || c == 45 || c == 95
/-- May that be a part behind the first? -/
def partB (s : Bs) : Bool := decide (1 ≤ s.length) && decide (s.length ≤ 30) && !(s.getD 0 0 == 46) && s.all partByte
def wHeads : Bs := [104, 101, 97, 100, 115]
def wTags : Bs := [116, 97, 103, 115]
def firstB (s : Bs) : Bool := s == wHeads || s == wTags
/-- Is that a ref's name? -/
def nameB (s : Bs) : Bool := decide (s.length ≤ 80) && (decide (2 ≤ (parts s).length) && decide ((parts s).length ≤ 4)) && firstB ((parts s).headD []) && (parts s).tail.all partB
/-- Is one above another one? -/
def aboveB (a b : Bs) : Bool := (a ++ [47]).isPrefixOf b

/-! ### Refs -/
structure Ref where
  name : Bs
  id : Bs
theorem Ref.ext' {a b : Ref} (h : a.name = b.name) (k : a.id = b.id) : a = b := by cases a; cases b; cases h; cases k; rfl
structure Upd where
  name : Bs
  old : Bs
  new : Bs
structure Right (l : List Ref) : Prop where
  len : l.length ≤ 64
  name : ∀ r ∈ l, nameB r.name = true
  id : ∀ r ∈ l, namedB r.id = true
  rise : l.Pairwise fun a b => a.name < b.name
  above : ∀ a ∈ l, ∀ b ∈ l, aboveB a.name b.name = false
def findL (l : List Ref) (n : Bs) : Bs := match l.find? (fun r => r.name == n) with | some r => r.id | none => []
def Tips (l : List Ref) (t : List Bs) : Prop := Rising t ∧ ∀ x, x ∈ t ↔ ∃ r ∈ l, r.id = x
theorem Tips.unique {l : List Ref} {a b : List Bs} (h : Tips l a) (k : Tips l b) : a = b := rising_ext h.1 k.1 fun x => (h.2 x).trans (k.2 x).symm
theorem key_ext {α : Type} (f : α → Bs) : ∀ {a b : List α}, a.Pairwise (fun x y => f x < f y) → b.Pairwise (fun x y => f x < f y) → (∀ x, x ∈ a ↔ x ∈ b) → a = b
  | [], [], _, _, _ => rfl
  | [], y :: b, _, _, h => by have := (h y).2 (by simp); simp at this
  | x :: a, [], _, _, h => by have := (h x).1 (by simp); simp at this
  | x :: a, y :: b, ha, hb, h => by
    have ha' := List.pairwise_cons.1 ha
    have hb' := List.pairwise_cons.1 hb
    have hxy : x = y := by
      rcases List.mem_cons.1 ((h x).1 (by simp)) with e | hx
      · exact e
      · rcases List.mem_cons.1 ((h y).2 (by simp)) with e | hy
        · exact e.symm
        · exact absurd (lt_tr (hb'.1 x hx) (ha'.1 y hy)) (lt_irr _)
    subst hxy
    congr 1
    refine key_ext f ha'.2 hb'.2 fun z => ⟨fun hz => ?_, fun hz => ?_⟩
    · rcases List.mem_cons.1 ((h z).1 (List.mem_cons_of_mem _ hz)) with e | h2
      · exact absurd (ha'.1 z hz) (by rw [e]; exact lt_irr _)
      · exact h2
    · rcases List.mem_cons.1 ((h z).2 (List.mem_cons_of_mem _ hz)) with e | h2
      · exact absurd (hb'.1 z hz) (by rw [e]; exact lt_irr _)
      · exact h2
theorem rise_inj {l : List Ref} (h : l.Pairwise fun a b => a.name < b.name) {a b : Ref} (ha : a ∈ l) (hb : b ∈ l) (e : a.name = b.name) : a = b := by
  induction l with
  | nil => cases ha
  | cons x l ih =>
    have h' := List.pairwise_cons.1 h
    rcases List.mem_cons.1 ha with rfl | ha'
    · rcases List.mem_cons.1 hb with rfl | hb'
      · rfl
      · exact absurd (h'.1 b hb') (by rw [e]; exact lt_irr _)
    · rcases List.mem_cons.1 hb with rfl | hb'
      · exact absurd (h'.1 a ha') (by rw [e]; exact lt_irr _)
      · exact ih h'.2 ha' hb'
theorem findL_of_mem {l : List Ref} (h : l.Pairwise fun a b => a.name < b.name) {r : Ref} (hr : r ∈ l) : findL l r.name = r.id := by
  unfold findL
  cases hf : l.find? (fun x => x.name == r.name) with
  | none => have := List.find?_eq_none.1 hf r hr; simp at this
  | some x =>
    have h1 := List.mem_of_find?_eq_some hf
    have h2 := List.find?_some hf
    simp at h2
    rw [rise_inj h h1 hr h2]
theorem findL_none {l : List Ref} {n : Bs} (h : ∀ r ∈ l, r.name ≠ n) : findL l n = [] := by
  unfold findL
  rw [List.find?_eq_none.2 fun r hr => by simpa using h r hr]
/-- What is found is one's own. -/
theorem findL_mem {l : List Ref} {n : Bs} (h : findL l n ≠ []) : ⟨n, findL l n⟩ ∈ l := by
  unfold findL at h ⊢
  cases hf : l.find? (fun x => x.name == n) with
  | none => rw [hf] at h; exact absurd rfl h
  | some x =>
    have h1 := List.mem_of_find?_eq_some hf
    have h2 := List.find?_some hf
    simp at h2
    show (⟨n, x.id⟩ : Ref) ∈ l
    rw [← h2]; exact h1
theorem named_ne {s : Bs} (h : namedB s = true) : s ≠ [] := fun e => by rw [e] at h; cases h
theorem findL_iff {l : List Ref} (h : Right l) {n x : Bs} (hx : x ≠ []) : findL l n = x ↔ ⟨n, x⟩ ∈ l := by
  constructor
  · intro e; rw [← e]; exact findL_mem (by rw [e]; exact hx)
  · intro hm; exact findL_of_mem h.rise hm
theorem Right.nil : Right [] := ⟨Nat.zero_le _, (fun _ h => by cases h), (fun _ h => by cases h), List.Pairwise.nil, fun _ h => by cases h⟩

/-! ### Updates -/
def idB (s : Bs) : Bool := s == [] || namedB s
def mayB (x : Upd) : Bool := nameB x.name && idB x.old && idB x.new && !(x.old == [] && x.new == [])
def noU : Upd := ⟨[], [], []⟩
def badI (u : List Upd) (i : Nat) : Bool := !mayB (u.getD i noU) || (u.take i).any fun y => y.name == (u.getD i noU).name
def staleI (l : List Ref) (u : List Upd) (i : Nat) : Bool := !(findL l (u.getD i noU).name == (u.getD i noU).old)
def clashI (out : List Ref) (u : List Upd) (i : Nat) : Bool := !((u.getD i noU).new == []) && out.any fun r => aboveB (u.getD i noU).name r.name || aboveB r.name (u.getD i noU).name
/-- Refs with one of a name; of no Id without it. -/
def putW (x : Ref) : List Ref → List Ref
  | [] => [x]
  | r :: l => if x.name < r.name then x :: r :: l else if r.name = x.name then x :: l else r :: putW x l
def putR (l : List Ref) (x : Ref) : List Ref := if x.id = [] then l.filter (fun r => !(r.name == x.name)) else putW x l
def outL (l : List Ref) (u : List Upd) : List Ref := u.foldl (fun o x => putR o ⟨x.name, x.new⟩) l
def applyL (l : List Ref) (u : List Upd) : List Ref × Nat × Nat :=
  match firstN (badI u) u.length with
  | some i => (l, 1, i)
  | none =>
    match firstN (staleI l u) u.length with
    | some i => (l, 92, i)
    | none =>
      match firstN (clashI (outL l u) u) u.length with
      | some i => (l, 91, i)
      | none => if 64 < (outL l u).length then (l, 2, 0) else (outL l u, 0, 0)
def Asked (l : List Ref) (u : List Upd) : Prop := Right l ∧ 1 ≤ u.length ∧ u.length ≤ 16
/-- What Apply answers. -/
def IsApply (l : List Ref) (u : List Upd) (a : List Ref × Nat × Nat) : Prop := (Asked l u ∧ a = applyL l u) ∨ (¬ Asked l u ∧ a = ([], 1, 0))
theorem IsApply.unique {l : List Ref} {u : List Upd} {a b : List Ref × Nat × Nat} (h : IsApply l u a) (k : IsApply l u b) : a = b := by
  rcases h with ⟨h1, h2⟩ | ⟨h1, h2⟩ <;> rcases k with ⟨k1, k2⟩ | ⟨k1, k2⟩
  · rw [h2, k2]
  · exact absurd h1 k1
  · exact absurd k1 h1
  · rw [h2, k2]

theorem mem_putW {x : Ref} : ∀ {l : List Ref} {r : Ref}, l.Pairwise (fun a b => a.name < b.name) → (r ∈ putW x l ↔ r = x ∨ r ∈ l ∧ r.name ≠ x.name)
  | [], r, _ => by simp [putW]
  | y :: l, r, h => by
    have h' := List.pairwise_cons.1 h
    unfold putW
    split
    · rename_i hlt
      rw [List.mem_cons]
      constructor
      · rintro (rfl | hr)
        · exact .inl rfl
        · refine .inr ⟨hr, fun e => ?_⟩
          rcases List.mem_cons.1 hr with rfl | hr'
          · rw [e] at hlt; exact lt_irr _ hlt
          · have := lt_tr hlt (h'.1 r hr')
            rw [e] at this; exact lt_irr _ this
      · rintro (rfl | ⟨hr, _⟩)
        · exact .inl rfl
        · exact .inr hr
    · split
      · rename_i _ he
        rw [List.mem_cons]
        constructor
        · rintro (rfl | hr)
          · exact .inl rfl
          · exact .inr ⟨List.mem_cons_of_mem _ hr, fun e => lt_irr x.name (by have := h'.1 r hr; rw [he, e] at this; exact this)⟩
        · rintro (rfl | ⟨hr, hn⟩)
          · exact .inl rfl
          · rcases List.mem_cons.1 hr with rfl | hr'
            · exact absurd he hn
            · exact .inr hr'
      · rename_i _ he
        rw [List.mem_cons, mem_putW h'.2]
        constructor
        · rintro (rfl | rfl | ⟨hr, hn⟩)
          · exact .inr ⟨List.mem_cons_self, he⟩
          · exact .inl rfl
          · exact .inr ⟨List.mem_cons_of_mem _ hr, hn⟩
        · rintro (rfl | ⟨hr, hn⟩)
          · exact .inr (.inl rfl)
          · rcases List.mem_cons.1 hr with rfl | hr'
            · exact .inl rfl
            · exact .inr (.inr ⟨hr', hn⟩)
theorem rise_putW {x : Ref} : ∀ {l : List Ref}, l.Pairwise (fun a b => a.name < b.name) → (putW x l).Pairwise fun a b => a.name < b.name
  | [], _ => by simp [putW]
  | y :: l, h => by
    have h' := List.pairwise_cons.1 h
    unfold putW
    split
    · rename_i hlt
      refine List.pairwise_cons.2 ⟨fun r hr => ?_, h⟩
      rcases List.mem_cons.1 hr with rfl | hr'
      · exact hlt
      · exact lt_tr hlt (h'.1 r hr')
    · split
      · rename_i _ he
        exact List.pairwise_cons.2 ⟨fun r hr => by rw [← he]; exact h'.1 r hr, h'.2⟩
      · rename_i hlt he
        refine List.pairwise_cons.2 ⟨fun r hr => ?_, rise_putW h'.2⟩
        rcases (mem_putW h'.2).1 hr with rfl | ⟨hr', _⟩
        · rcases lt_cases y.name r.name with h1 | h1 | h1
          · exact h1
          · exact absurd h1 he
          · exact absurd h1 hlt
        · exact h'.1 r hr'
theorem mem_putR {l : List Ref} {x r : Ref} (h : l.Pairwise fun a b => a.name < b.name) : r ∈ putR l x ↔ (r = x ∧ x.id ≠ []) ∨ r ∈ l ∧ r.name ≠ x.name := by
  unfold putR
  split
  · rename_i he
    simp [he]
  · rename_i he
    rw [mem_putW h]
    simp [he]
theorem rise_putR {l : List Ref} {x : Ref} (h : l.Pairwise fun a b => a.name < b.name) : (putR l x).Pairwise fun a b => a.name < b.name := by
  unfold putR
  split
  · exact h.filter _
  · exact rise_putW h
theorem rise_outL : ∀ {u : List Upd} {l : List Ref}, l.Pairwise (fun a b => a.name < b.name) → (outL l u).Pairwise fun a b => a.name < b.name
  | [], _, h => h
  | _ :: u, _, h => rise_outL (u := u) (rise_putR h)
theorem outL_cons (l : List Ref) (x : Upd) (u : List Upd) : outL l (x :: u) = outL (putR l ⟨x.name, x.new⟩) u := rfl
theorem outL_app (l : List Ref) (u v : List Upd) : outL l (u ++ v) = outL (outL l u) v := List.foldl_append
/-- What is there then. -/
theorem mem_outL : ∀ {u : List Upd} {l : List Ref} {r : Ref}, l.Pairwise (fun a b => a.name < b.name) → (u.Pairwise fun a b => a.name ≠ b.name) →
    (r ∈ outL l u ↔ (∃ x ∈ u, x.new ≠ [] ∧ r = ⟨x.name, x.new⟩) ∨ (r ∈ l ∧ ∀ x ∈ u, r.name ≠ x.name))
  | [], l, r, _, _ => by simp [outL]
  | x :: u, l, r, h, hu => by
    have hu' := List.pairwise_cons.1 hu
    rw [outL_cons, mem_outL (u := u) (rise_putR h) hu'.2, mem_putR h]
    constructor
    · rintro (⟨y, hy, h1, h2⟩ | ⟨⟨h1, h2⟩ | ⟨h1, h2⟩, h3⟩)
      · exact .inl ⟨y, List.mem_cons_of_mem _ hy, h1, h2⟩
      · exact .inl ⟨x, List.mem_cons_self, h2, h1⟩
      · refine .inr ⟨h1, fun y hy => ?_⟩
        rcases List.mem_cons.1 hy with rfl | hy'
        · exact h2
        · exact h3 y hy'
    · rintro (⟨y, hy, h1, h2⟩ | ⟨h1, h2⟩)
      · rcases List.mem_cons.1 hy with rfl | hy'
        · exact .inr ⟨.inl ⟨h2, h1⟩, fun z hz => by rw [h2]; exact hu'.1 z hz⟩
        · exact .inl ⟨y, hy', h1, h2⟩
      · exact .inr ⟨.inr ⟨h1, h2 x List.mem_cons_self⟩, fun y hy => h2 y (List.mem_cons_of_mem _ hy)⟩

/-! ### Lines -/
def lineL (r : Ref) : Bs := r.id ++ 32 :: (r.name ++ [10])
def linesL (l : List Ref) : Bs := l.flatMap lineL
def IsGet (s : Bs) (l : List Ref) : Prop := Right l ∧ linesL l = s
end Go.Proofs.YtfnepffccenebaaGreatDoor.Rf
