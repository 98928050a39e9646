/-
  Root, plain: names of forks, roots that are right, their lines, and how lines are read.
  Names of forks, heads, bonds.
  SameItems, SameTexts, SameWants: alike?
-/
import Derived.Test.YtnboagmibhllpaaGreatDoorC06
import Derived.Shelf.Strings.Prefix
import Derived.Test.YtnboagmibhllpaaGreatDoorC02
import Derived.Test.YtnboagmibhllpaaGreatDoorLay
import Derived.Deep.QuietTactic
import Derived.BigQuiet
import Derived.IntWalk
import Derived.Laws.StructEq
import Derived.Test.YtnboagmibhllpaaGreatDoorC01

namespace Go.Proofs.YtnboagmibhllpaaGreatDoor.Ro
open Go.Proofs.YtnboagmibhllpaaGreatDoor
open Go.Proofs.YtnboagmibhllpaaGreatDoor.Rf (Ref nameB linesL lineL)
open Go.Proofs.YtnboagmibhllpaaGreatDoor.Nu (decL decL_some decL_dd dd_digit)

/-! ### Roots -/
def nmByte (c : UInt8) : Bool := (97 ≤ c && c ≤ 122) || (48 ≤ c && c ≤ 57) || c == 45
/-- May a fork be called so? -/
def forkB (s : Bs) : Bool := decide (1 ≤ s.length) && decide (s.length ≤ 20) && s.all nmByte
def wHd : Bs := [104, 101, 97, 100, 115, 47]
def headB (s : Bs) : Bool := nameB s && wHd.isPrefixOf s
structure PacksOk (l : List Bs) : Prop where
  len : l.length ≤ 24
  id : ∀ x ∈ l, namedB x = true
  once : l.Nodup
structure Fk where
  name : Bs
  linked : Bool
  head : Bs
  refs : List Ref
  packs : List Bs
structure Rt where
  count : Int
  pool : List Bs
  forks : List Fk
structure FkOk (f : Fk) : Prop where
  name : forkB f.name = true
  head : headB f.head = true
  refs : Rf.Right f.refs
  packs : PacksOk f.packs
structure FksOk (l : List Fk) : Prop where
  each : ∀ f ∈ l, FkOk f
  rise : l.Pairwise fun a b => a.name < b.name
structure RtOk (r : Rt) : Prop where
  lo : 0 ≤ r.count
  hi : r.count ≤ 1099511627776
  pool : PacksOk r.pool
  len : r.forks.length ≤ 16
  forks : FksOk r.forks
open Classical in
noncomputable def packsB (l : List Bs) : Bool := decide (PacksOk l)
theorem packsB_iff {l : List Bs} : packsB l = true ↔ PacksOk l := by unfold packsB; simp
open Classical in
noncomputable def rtB (r : Rt) : Bool := decide (RtOk r)
theorem rtB_iff {r : Rt} : rtB r = true ↔ RtOk r := by unfold rtB; simp
theorem rtB_no {r : Rt} (h : ¬ RtOk r) : rtB r = false := by
  cases hb : rtB r with
  | false => rfl
  | true => exact absurd (rtB_iff.1 hb) h
theorem PacksOk.nil : PacksOk [] := ⟨Nat.zero_le _, (fun _ h => by cases h), List.nodup_nil⟩
theorem PacksOk.left {a b : List Bs} (h : PacksOk (a ++ b)) : PacksOk a :=
  ⟨by have := h.len; simp at this; omega, fun x hx => h.id x (List.mem_append_left _ hx), (List.nodup_append.1 h.once).1⟩
theorem FksOk.left {a b : List Fk} (h : FksOk (a ++ b)) : FksOk a :=
  ⟨fun x hx => h.each x (List.mem_append_left _ hx), (List.pairwise_append.1 h.rise).1⟩

/-! ### Lines -/
def dd (n : Nat) : Bs := Go.Lib.decDigits n
def bNet : Bs := [110, 101, 116]
def bPool : Bs := [112, 111, 111, 108]
def bForks : Bs := [102, 111, 114, 107, 115]
def bFork : Bs := [102, 111, 114, 107]
def bLinked : Bs := [108, 105, 110, 107, 101, 100]
def bAlone : Bs := [97, 108, 111, 110, 101]
def bond (b : Bool) : Bs := if b then bLinked else bAlone
def numL (word : Bs) (n : Nat) : Bs := word ++ 32 :: (dd n ++ [10])
def packsL (l : List Bs) : Bs := l.flatMap fun x => x ++ [10]
/-- What the first line of a fork says. -/
structure Op where
  name : Bs
  linked : Bool
  head : Bs
  refs : Nat
  packs : Nat
def openB (o : Op) : Bs := bFork ++ 32 :: (o.name ++ 32 :: (bond o.linked ++ 32 :: (o.head ++ 32 :: (dd o.refs ++ 32 :: dd o.packs))))
def Fk.op (f : Fk) : Op := ⟨f.name, f.linked, f.head, f.refs.length, f.packs.length⟩
def forkL (f : Fk) : Bs := openB f.op ++ 10 :: (linesL f.refs ++ packsL f.packs)
def forksL (l : List Fk) : Bs := l.flatMap forkL
def rootL (r : Rt) : Bs := numL bNet r.count.toNat ++ (numL bPool r.pool.length ++ (packsL r.pool ++ (numL bForks r.forks.length ++ forksL r.forks)))
def IsRoot (b : Bs) (r : Rt) : Prop := RtOk r ∧ rootL r = b

/-! ### Letters -/
theorem nm_char {c : UInt8} (h : nmByte c = true) : c ≠ 10 ∧ c ≠ 32 := by
  constructor <;> (rintro rfl; revert h; decide)
theorem fork_char {s : Bs} (h : forkB s = true) {c : UInt8} (hc : c ∈ s) : c ≠ 10 ∧ c ≠ 32 := by
  unfold forkB at h
  simp only [Bool.and_eq_true] at h
  exact nm_char (List.all_eq_true.1 h.2 c hc)
theorem head_char {s : Bs} (h : headB s = true) {c : UInt8} (hc : c ∈ s) : c ≠ 10 ∧ c ≠ 32 := by
  unfold headB at h
  simp only [Bool.and_eq_true] at h
  exact Rf.name_char h.1 hc
theorem bond_char (b : Bool) {c : UInt8} (hc : c ∈ bond b) : c ≠ 10 ∧ c ≠ 32 := by
  cases b
  · simp [bond, bAlone] at hc
    rcases hc with rfl | rfl | rfl | rfl | rfl <;> decide
  · simp [bond, bLinked] at hc
    rcases hc with rfl | rfl | rfl | rfl | rfl | rfl <;> decide
theorem dd_char (n : Nat) {c : UInt8} (hc : c ∈ dd n) : c ≠ 10 ∧ c ≠ 32 := by
  have h := dd_digit n c hc
  constructor <;> (rintro rfl; revert h; decide)
theorem bond_inj {a b : Bool} (h : bond a = bond b) : a = b := by
  cases a <;> cases b <;> first | rfl | (revert h; decide)

/-! ### Parts between blanks -/
def words : Bs → List Bs
  | [] => [[]]
  | c :: s => if c = 32 then [] :: words s else match words s with | p :: r => (c :: p) :: r | [] => [[c]]
theorem words_ne (s : Bs) : words s ≠ [] := by
  cases s with
  | nil => simp [words]
  | cons c s =>
    unfold words
    split
    · simp
    · split <;> simp
theorem words_cons (c : UInt8) (h : c ≠ 32) (s p : Bs) (r : List Bs) (hp : words s = p :: r) : words (c :: s) = (c :: p) :: r := by
  rw [words, if_neg h, hp]
theorem words_blank (s : Bs) : words (32 :: s) = [] :: words s := by rw [words, if_pos rfl]
theorem words_app {p : Bs} (h : (32 : UInt8) ∉ p) (s : Bs) : words (p ++ 32 :: s) = p :: words s := by
  induction p with
  | nil => exact words_blank s
  | cons c p ih =>
    have hc : c ≠ 32 := fun e => h (by rw [e]; simp)
    exact words_cons c hc _ _ _ (ih fun hm => h (List.mem_cons_of_mem _ hm))
theorem words_one {p : Bs} (h : (32 : UInt8) ∉ p) : words p = [p] := by
  induction p with
  | nil => rfl
  | cons c p ih =>
    have hc : c ≠ 32 := fun e => h (by rw [e]; simp)
    exact words_cons c hc _ _ _ (ih fun hm => h (List.mem_cons_of_mem _ hm))
theorem words_len : ∀ s : Bs, (words s).length = s.count 32 + 1
  | [] => rfl
  | c :: s => by
    have ih := words_len s
    by_cases h : c = 32
    · rw [h, words_blank, List.count_cons]; simp [ih]
    · cases hp : words s with
      | nil => exact absurd hp (words_ne s)
      | cons p r =>
        rw [words_cons c h s p r hp, List.count_cons]
        rw [hp] at ih
        simp at ih ⊢
        simp [h, ih]
/-- Words, with blanks between. -/
def join : List Bs → Bs
  | [] => []
  | [p] => p
  | p :: q :: r => p ++ 32 :: join (q :: r)
theorem join_words : ∀ s : Bs, join (words s) = s
  | [] => rfl
  | c :: s => by
    have ih := join_words s
    by_cases h : c = 32
    · subst h
      rw [words_blank]
      cases hp : words s with
      | nil => exact absurd hp (words_ne s)
      | cons p r => rw [hp] at ih; rw [join, ih]; rfl
    · cases hp : words s with
      | nil => exact absurd hp (words_ne s)
      | cons p r =>
        rw [words_cons c h s p r hp]
        rw [hp] at ih
        cases r with
        | nil => rw [join] at ih ⊢; rw [ih]
        | cons q r => rw [join] at ih ⊢; rw [← ih]; rfl

/-! ### Reading -/
/-- The number behind a word, in a line. -/
def wordO (word : Bs) (most : Nat) (l : Bs) : Option Nat :=
  if (word ++ [32]).isPrefixOf l then
    match decL (l.drop (word.length + 1)) with
    | some n => if n ≤ most then some n else none
    | none => none
  else none
def numO (word : Bs) (most : Nat) (s : Bs) : Option (Nat × Bs) :=
  match cutAt 10 s with
  | some (l, r) => match wordO word most l with | some n => some (n, r) | none => none
  | none => none
open Classical in
noncomputable def packsO : Nat → List Bs → Bs → Option (List Bs × Bs)
  | 0, acc, s => some (acc, s)
  | n + 1, acc, s =>
    match cutAt 10 s with
    | some (l, r) => if PacksOk (acc ++ [l]) then packsO n (acc ++ [l]) r else none
    | none => none
open Classical in
/-- The refs whose lines a text is. -/
noncomputable def getR (s : Bs) : Option (List Ref) := if h : ∃ l, Rf.IsGet s l then some h.choose else none
theorem getR_iff {s : Bs} {l : List Ref} : getR s = some l ↔ Rf.IsGet s l := by
  unfold getR
  constructor
  · intro h
    split at h
    · rename_i hx
      cases h; exact hx.choose_spec
    · cases h
  · intro h
    rw [dif_pos ⟨l, h⟩, Rf.IsGet.unique (Exists.choose_spec (⟨l, h⟩ : ∃ l, Rf.IsGet s l)) h]
theorem getR_none {s : Bs} : getR s = none ↔ ∀ l, ¬ Rf.IsGet s l := by
  constructor
  · intro h l hl
    rw [getR_iff.2 hl] at h; cases h
  · intro h
    cases hg : getR s with
    | none => rfl
    | some l => exact absurd (getR_iff.1 hg) (h l)
noncomputable def refsO : Nat → List Ref → Bs → Option (List Ref × Bs)
  | 0, acc, s => some (acc, s)
  | n + 1, acc, s =>
    match cutAt 10 s with
    | some (l, r) => match getR (l ++ [10]) with | some one => refsO n (acc ++ one) r | none => none
    | none => none
def upO (most : Nat) (s : Bs) : Option Nat := match decL s with | some n => if n ≤ most then some n else none | none => none
def openO (l : Bs) : Option Op :=
  match words l with
  | [w0, w1, w2, w3, w4, w5] =>
    if w0 = bFork ∧ bond (w2 == bLinked) = w2 then
      match upO 64 w4, upO 24 w5 with
      | some a, some b => some ⟨w1, w2 == bLinked, w3, a, b⟩
      | _, _ => none
    else none
  | _ => none
/-- May a fork that begins so stand behind these? -/
def follows (ahead : List Fk) (name head : Bs) : Prop := (∀ f, ahead.getLast? = some f → f.name < name) ∧ forkB name = true ∧ headB head = true
open Classical in
noncomputable def forkO (ahead : List Fk) (s : Bs) : Option (Fk × Bs) :=
  match cutAt 10 s with
  | none => none
  | some (l, r) =>
    match openO l with
    | none => none
    | some o =>
      if follows ahead o.name o.head then
        match refsO o.refs [] r with
        | none => none
        | some (rs, r2) =>
          if Rf.Right rs then
            match packsO o.packs [] r2 with
            | none => none
            | some (ps, r3) => some (⟨o.name, o.linked, o.head, rs, ps⟩, r3)
          else none
      else none
noncomputable def forksO : Nat → List Fk → Bs → Option (List Fk × Bs)
  | 0, acc, s => some (acc, s)
  | n + 1, acc, s => match forkO acc s with | some (f, r) => forksO n (acc ++ [f]) r | none => none
/-- A root, and what is left. -/
noncomputable def getS (b : Bs) : Option (Rt × Bs) :=
  match numO bNet 1099511627776 b with
  | none => none
  | some (c, s1) =>
    match numO bPool 24 s1 with
    | none => none
    | some (np, s2) =>
      match packsO np [] s2 with
      | none => none
      | some (pool, s3) =>
        match numO bForks 16 s3 with
        | none => none
        | some (nf, s4) =>
          match forksO nf [] s4 with
          | none => none
          | some (fs, s5) => some (⟨(c : Int), pool, fs⟩, s5)

/-! ### What is read so -/
theorem wordO_mk {word : Bs} {most n : Nat} (h : n ≤ most) (hm : most ≤ 1099511627776) : wordO word most (word ++ 32 :: dd n) = some n := by
  unfold wordO
  have e : (word ++ [32]).isPrefixOf (word ++ 32 :: dd n) = true := List.isPrefixOf_iff_prefix.2 ⟨dd n, by simp⟩
  have e2 : (word ++ 32 :: dd n).drop (word.length + 1) = dd n := by
    rw [List.drop_append]; simp
  rw [if_pos e, e2]
  unfold dd
  rw [decL_dd (Nat.le_trans h hm)]
  exact if_pos h
theorem wordO_some {word l : Bs} {most n : Nat} (h : wordO word most l = some n) : l = word ++ 32 :: dd n ∧ n ≤ most := by
  unfold wordO at h
  by_cases hp : (word ++ [32]).isPrefixOf l = true
  · rw [if_pos hp] at h
    obtain ⟨t, rfl⟩ := List.isPrefixOf_iff_prefix.1 hp
    have e2 : ((word ++ [32]) ++ t).drop (word.length + 1) = t := by
      rw [List.drop_append]; simp
    rw [e2] at h
    cases hd : decL t with
    | none => rw [hd] at h; cases h
    | some m =>
      rw [hd] at h
      simp only at h
      by_cases hm : m ≤ most
      · rw [if_pos hm] at h
        cases h
        have := (decL_some hd).2
        unfold dd
        rw [this]
        exact ⟨by simp, hm⟩
      · rw [if_neg hm] at h; cases h
  · rw [if_neg hp] at h; cases h
theorem cut_line {l : Bs} (h : ∀ c ∈ l, c ≠ 10) (r : Bs) : cutAt 10 (l ++ 10 :: r) = some (l, r) := Rf.cut_mk fun hm => h _ hm rfl
theorem numO_mk {word : Bs} (hw : ∀ c ∈ word, c ≠ 10) {most n : Nat} (h : n ≤ most) (hm : most ≤ 1099511627776) (r : Bs) : numO word most (numL word n ++ r) = some (n, r) := by
  have e : numL word n ++ r = (word ++ 32 :: dd n) ++ 10 :: r := by unfold numL; simp
  have hc : ∀ c ∈ word ++ 32 :: dd n, c ≠ 10 := fun c hc => by
    rcases List.mem_append.1 hc with hc | hc
    · exact hw c hc
    · rcases List.mem_cons.1 hc with rfl | hc
      · decide
      · exact (dd_char n hc).1
  unfold numO
  rw [e, cut_line hc]
  show (match wordO word most (word ++ 32 :: dd n) with | some n => some (n, r) | none => none) = _
  rw [wordO_mk h hm]
theorem numO_some {word s r : Bs} {most n : Nat} (h : numO word most s = some (n, r)) : s = numL word n ++ r ∧ n ≤ most := by
  unfold numO at h
  cases hc : cutAt 10 s with
  | none => rw [hc] at h; cases h
  | some p =>
    obtain ⟨l, q⟩ := p
    rw [hc] at h
    simp only at h
    cases hw : wordO word most l with
    | none => rw [hw] at h; cases h
    | some m =>
      rw [hw] at h
      cases h
      obtain ⟨e, hm⟩ := wordO_some hw
      obtain ⟨e2, _⟩ := cutAt_some hc
      refine ⟨?_, hm⟩
      rw [e2, e]; unfold numL; simp
theorem packsL_cons (x : Bs) (l : List Bs) : packsL (x :: l) = x ++ 10 :: packsL l := by unfold packsL; simp
theorem packsO_mk : ∀ (l acc : List Bs) (r : Bs), PacksOk (acc ++ l) → packsO l.length acc (packsL l ++ r) = some (acc ++ l, r)
  | [], acc, r, _ => by rw [List.append_nil]; rfl
  | x :: l, acc, r, h => by
    have h' : PacksOk ((acc ++ [x]) ++ l) := by simpa using h
    have hx : namedB x = true := h.id x (by simp)
    rw [List.length_cons, packsL_cons]
    have e : (x ++ 10 :: packsL l) ++ r = x ++ 10 :: (packsL l ++ r) := by simp
    rw [packsO, e, cut_line fun c hc => (Rf.named_char hx hc).1]
    simp only
    rw [if_pos h'.left, packsO_mk l (acc ++ [x]) r h']
    simp
theorem packsO_some : ∀ (n : Nat) (acc : List Bs) (s r : Bs) (l : List Bs), packsO n acc s = some (l, r) → ∃ t, l = acc ++ t ∧ t.length = n ∧ s = packsL t ++ r ∧ (PacksOk acc → PacksOk l)
  | 0, acc, s, r, l, h => by
    cases h
    exact ⟨[], by simp, rfl, rfl, fun h => h⟩
  | n + 1, acc, s, r, l, h => by
    rw [packsO] at h
    cases hc : cutAt 10 s with
    | none => rw [hc] at h; cases h
    | some p =>
      obtain ⟨x, q⟩ := p
      rw [hc] at h
      simp only at h
      by_cases hp : PacksOk (acc ++ [x])
      · rw [if_pos hp] at h
        obtain ⟨t, h1, h2, h3, h4⟩ := packsO_some n _ _ _ _ h
        obtain ⟨e, _⟩ := cutAt_some hc
        refine ⟨x :: t, by rw [h1]; simp, by simp [h2], ?_, fun _ => h4 hp⟩
        rw [packsL_cons, e, h3]; simp
      · rw [if_neg hp] at h; cases h
theorem right_one {x : Ref} (h1 : nameB x.name = true) (h2 : namedB x.id = true) : Rf.Right [x] :=
  ⟨by simp, fun r hr => by rw [List.mem_singleton.1 hr]; exact h1, fun r hr => by rw [List.mem_singleton.1 hr]; exact h2, List.pairwise_singleton _ _, fun a ha b hb => by
    rw [List.mem_singleton.1 ha, List.mem_singleton.1 hb]
    cases h : Rf.aboveB x.name x.name with
    | false => rfl
    | true => exact absurd (Rf.above_lt h) (lt_irr _)⟩
theorem getR_line {x : Ref} (h1 : nameB x.name = true) (h2 : namedB x.id = true) : getR (lineL x) = some [x] :=
  getR_iff.2 ⟨right_one h1 h2, by rw [Rf.linesL_cons]; exact List.append_nil _⟩
theorem refsO_mk : ∀ (l acc : List Ref) (r : Bs), (∀ x ∈ l, nameB x.name = true ∧ namedB x.id = true) → refsO l.length acc (linesL l ++ r) = some (acc ++ l, r)
  | [], acc, r, _ => by rw [List.append_nil]; rfl
  | x :: l, acc, r, h => by
    obtain ⟨h1, h2⟩ := h x List.mem_cons_self
    have e : linesL (x :: l) ++ r = lineL x ++ (linesL l ++ r) := by rw [Rf.linesL_cons]; simp
    have e2 : (x.id ++ 32 :: x.name) ++ [10] = lineL x := by unfold lineL; simp
    rw [List.length_cons, e, refsO, (Rf.line_cut h1 h2 (linesL l ++ r)).1]
    simp only
    rw [e2, getR_line h1 h2]
    simp only
    rw [refsO_mk l _ r fun y hy => h y (List.mem_cons_of_mem _ hy)]
    simp
theorem linesL_count {l : List Ref} (h : ∀ x ∈ l, nameB x.name = true ∧ namedB x.id = true) : (linesL l).count 10 = l.length := by
  induction l with
  | nil => rfl
  | cons x l ih =>
    obtain ⟨h1, h2⟩ := h x List.mem_cons_self
    have c1 : x.id.count 10 = 0 := List.count_eq_zero.2 fun hm => (Rf.named_char h2 hm).1 rfl
    have c2 : x.name.count 10 = 0 := List.count_eq_zero.2 fun hm => (Rf.name_char h1 hm).1 rfl
    rw [Rf.linesL_cons, List.count_append, ih fun y hy => h y (List.mem_cons_of_mem _ hy)]
    unfold lineL
    rw [List.count_append, c1, List.count_cons, List.count_append, c2]
    simp
    omega
/-- A line alone is one ref's. -/
theorem getR_one {l : Bs} (hl : (10 : UInt8) ∉ l) {one : List Ref} (h : getR (l ++ [10]) = some one) : ∃ x, one = [x] := by
  have hg := getR_iff.1 h
  have hc := linesL_count hg.1.each
  rw [hg.2, List.count_append, List.count_eq_zero.2 hl] at hc
  have : one.length = 1 := by rw [← hc]; rfl
  match one, this with
  | [x], _ => exact ⟨x, rfl⟩
theorem refsO_some : ∀ (n : Nat) (acc : List Ref) (s r : Bs) (l : List Ref), refsO n acc s = some (l, r) → ∃ t, l = acc ++ t ∧ t.length = n ∧ s = linesL t ++ r
  | 0, acc, s, r, l, h => by
    cases h
    exact ⟨[], by simp, rfl, rfl⟩
  | n + 1, acc, s, r, l, h => by
    rw [refsO] at h
    cases hc : cutAt 10 s with
    | none => rw [hc] at h; cases h
    | some p =>
      obtain ⟨x, q⟩ := p
      rw [hc] at h
      simp only at h
      obtain ⟨e, hn⟩ := cutAt_some hc
      cases hg : getR (x ++ [10]) with
      | none => rw [hg] at h; cases h
      | some one =>
        rw [hg] at h
        simp only at h
        obtain ⟨y, rfl⟩ := getR_one hn hg
        obtain ⟨t, h1, h2, h3⟩ := refsO_some n _ _ _ _ h
        have hy := (getR_iff.1 hg).2
        have hy2 : lineL y = x ++ [10] := by rw [← hy, Rf.linesL_cons]; exact (List.append_nil _).symm
        refine ⟨y :: t, by rw [h1]; simp, by simp [h2], ?_⟩
        rw [Rf.linesL_cons, hy2, e, h3]; simp
theorem upO_mk {most n : Nat} (h : n ≤ most) (hm : most ≤ 1099511627776) : upO most (dd n) = some n := by
  unfold upO dd
  rw [decL_dd (Nat.le_trans h hm)]
  exact if_pos h
theorem upO_some {most n : Nat} {s : Bs} (h : upO most s = some n) : s = dd n ∧ n ≤ most := by
  unfold upO at h
  cases hd : decL s with
  | none => rw [hd] at h; cases h
  | some m =>
    rw [hd] at h
    simp only at h
    by_cases hm : m ≤ most
    · rw [if_pos hm] at h
      cases h
      exact ⟨(decL_some hd).2.symm, hm⟩
    · rw [if_neg hm] at h; cases h
theorem bond_eq (b : Bool) : (bond b == bLinked) = b := by cases b <;> decide
theorem openO_mk {o : Op} (h1 : (32 : UInt8) ∉ o.name) (h2 : (32 : UInt8) ∉ o.head) (h3 : o.refs ≤ 64) (h4 : o.packs ≤ 24) : openO (openB o) = some o := by
  have e : words (openB o) = [bFork, o.name, bond o.linked, o.head, dd o.refs, dd o.packs] := by
    unfold openB
    rw [words_app (by decide), words_app h1, words_app fun hm => (bond_char _ hm).2 rfl, words_app h2, words_app fun hm => (dd_char _ hm).2 rfl, words_one fun hm => (dd_char _ hm).2 rfl]
  unfold openO
  rw [e]
  simp only
  rw [if_pos ⟨trivial, by rw [bond_eq]⟩, upO_mk h3 (by decide), upO_mk h4 (by decide), bond_eq]
theorem openO_some {l : Bs} {o : Op} (h : openO l = some o) : l = openB o ∧ o.refs ≤ 64 ∧ o.packs ≤ 24 := by
  have hj := join_words l
  unfold openO at h
  split at h
  · rename_i w0 w1 w2 w3 w4 w5 hw
    rw [hw] at hj
    by_cases hc : w0 = bFork ∧ bond (w2 == bLinked) = w2
    · rw [if_pos hc] at h
      split at h
      · rename_i a b ha hb
        cases h
        obtain ⟨e4, h4⟩ := upO_some ha
        obtain ⟨e5, h5⟩ := upO_some hb
        refine ⟨?_, h4, h5⟩
        unfold openB
        simp only
        rw [hc.2, ← e4, ← e5, ← hc.1, ← hj]
        rfl
      · cases h
    · rw [if_neg hc] at h; cases h
  · cases h
theorem open_char {f : Fk} (h : FkOk f) {c : UInt8} (hc : c ∈ openB f.op) : c ≠ 10 := by
  unfold openB Fk.op at hc
  simp only [List.mem_append, List.mem_cons] at hc
  rcases hc with hc | rfl | hc | rfl | hc | rfl | hc | rfl | hc | rfl | hc
  · simp [bFork] at hc
    rcases hc with rfl | rfl | rfl | rfl <;> decide
  · decide
  · exact (fork_char h.name hc).1
  · decide
  · exact (bond_char _ hc).1
  · decide
  · exact (head_char h.head hc).1
  · decide
  · exact (dd_char _ hc).1
  · decide
  · exact (dd_char _ hc).1
theorem follows_of {acc l : List Fk} {f : Fk} (h : FksOk (acc ++ f :: l)) : follows acc f.name f.head := by
  refine ⟨fun g hg => ?_, (h.each f (by simp)).name, (h.each f (by simp)).head⟩
  exact (List.pairwise_append.1 h.rise).2.2 g (List.mem_of_getLast? hg) f (by simp)
theorem forkO_mk {acc : List Fk} {f : Fk} (hf : follows acc f.name f.head) (h : FkOk f) (r : Bs) : forkO acc (forkL f ++ r) = some (f, r) := by
  have e : forkL f ++ r = openB f.op ++ 10 :: (linesL f.refs ++ (packsL f.packs ++ r)) := by unfold forkL; simp
  unfold forkO
  rw [e, cut_line fun c hc => open_char h hc]
  simp only
  rw [openO_mk (o := f.op) (fun hm => (fork_char h.name hm).2 rfl) (fun hm => (head_char h.head hm).2 rfl) h.refs.len h.packs.len]
  simp only
  rw [if_pos (show follows acc f.op.name f.op.head from hf)]
  show (match refsO f.refs.length [] (linesL f.refs ++ (packsL f.packs ++ r)) with | none => none | some (rs, r2) => _) = _
  rw [refsO_mk f.refs [] _ h.refs.each]
  simp only [List.nil_append]
  rw [if_pos h.refs]
  show (match packsO f.packs.length [] (packsL f.packs ++ r) with | none => none | some (ps, r3) => _) = _
  rw [packsO_mk f.packs [] r (by rw [List.nil_append]; exact h.packs)]
  rfl
theorem forkO_some {acc : List Fk} {s r : Bs} {f : Fk} (h : forkO acc s = some (f, r)) : s = forkL f ++ r ∧ FkOk f ∧ follows acc f.name f.head := by
  unfold forkO at h
  cases hc : cutAt 10 s with
  | none => rw [hc] at h; cases h
  | some p =>
    obtain ⟨l, q⟩ := p
    rw [hc] at h
    simp only at h
    obtain ⟨e, _⟩ := cutAt_some hc
    cases ho : openO l with
    | none => rw [ho] at h; cases h
    | some o =>
      rw [ho] at h
      simp only at h
      obtain ⟨e1, h64, h24⟩ := openO_some ho
      by_cases hf : follows acc o.name o.head
      · rw [if_pos hf] at h
        cases hr : refsO o.refs [] q with
        | none => rw [hr] at h; cases h
        | some p =>
          obtain ⟨rs, r2⟩ := p
          rw [hr] at h
          simp only at h
          by_cases hR : Rf.Right rs
          · rw [if_pos hR] at h
            cases hp : packsO o.packs [] r2 with
            | none => rw [hp] at h; cases h
            | some p =>
              obtain ⟨ps, r3⟩ := p
              rw [hp] at h
              simp only at h
              cases h
              obtain ⟨t, h1, h2, h3⟩ := refsO_some _ _ _ _ _ hr
              obtain ⟨u, k1, k2, k3, k4⟩ := packsO_some _ _ _ _ _ hp
              rw [List.nil_append] at h1 k1
              subst h1; subst k1
              refine ⟨?_, ⟨hf.2.1, hf.2.2, hR, k4 PacksOk.nil⟩, hf⟩
              unfold forkL Fk.op
              simp only
              rw [h2, k2, e, e1, h3, k3]
              simp
          · rw [if_neg hR] at h; cases h
      · rw [if_neg hf] at h; cases h
theorem forksL_cons (f : Fk) (l : List Fk) : forksL (f :: l) = forkL f ++ forksL l := rfl
theorem forksO_mk : ∀ (l acc : List Fk) (r : Bs), FksOk (acc ++ l) → forksO l.length acc (forksL l ++ r) = some (acc ++ l, r)
  | [], acc, r, _ => by rw [List.append_nil]; rfl
  | f :: l, acc, r, h => by
    have e : forksL (f :: l) ++ r = forkL f ++ (forksL l ++ r) := by rw [forksL_cons]; simp
    rw [List.length_cons, e, forksO, forkO_mk (follows_of h) (h.each f (by simp))]
    simp only
    rw [forksO_mk l (acc ++ [f]) r (by simpa using h)]
    simp
theorem FksOk.snoc {l : List Fk} {f : Fk} (h : FksOk l) (hf : FkOk f) (hl : follows l f.name f.head) : FksOk (l ++ [f]) := by
  refine ⟨fun g hg => ?_, List.pairwise_append.2 ⟨h.rise, List.pairwise_singleton _ _, fun a ha b hb => ?_⟩⟩
  · rcases List.mem_append.1 hg with hg | hg
    · exact h.each g hg
    · rw [List.mem_singleton.1 hg]; exact hf
  · rw [List.mem_singleton.1 hb]
    have hne : l ≠ [] := fun e => by rw [e] at ha; cases ha
    have hlast := hl.1 _ (List.getLast?_eq_some_getLast hne)
    have hd : l.dropLast ++ [l.getLast hne] = l := List.dropLast_concat_getLast hne
    rw [← hd] at ha
    rcases List.mem_append.1 ha with ha | ha
    · have hr := h.rise
      rw [← hd] at hr
      exact lt_tr ((List.pairwise_append.1 hr).2.2 a ha _ (by simp)) hlast
    · rw [List.mem_singleton.1 ha]; exact hlast
theorem FksOk.nil : FksOk [] := ⟨(fun _ h => by cases h), List.Pairwise.nil⟩
theorem forksO_some : ∀ (n : Nat) (acc : List Fk) (s r : Bs) (l : List Fk), FksOk acc → forksO n acc s = some (l, r) → ∃ t, l = acc ++ t ∧ t.length = n ∧ s = forksL t ++ r ∧ FksOk l
  | 0, acc, s, r, l, ha, h => by
    cases h
    exact ⟨[], by simp, rfl, rfl, ha⟩
  | n + 1, acc, s, r, l, ha, h => by
    rw [forksO] at h
    cases hk : forkO acc s with
    | none => rw [hk] at h; cases h
    | some p =>
      obtain ⟨f, q⟩ := p
      rw [hk] at h
      simp only at h
      obtain ⟨e, hf, hl⟩ := forkO_some hk
      obtain ⟨t, h1, h2, h3, h4⟩ := forksO_some n _ _ _ _ (ha.snoc hf hl) h
      refine ⟨f :: t, by rw [h1]; simp, by simp [h2], ?_, h4⟩
      rw [forksL_cons, e, h3]; simp
/-- A root's lines, with any behind, are read as it. -/
theorem getS_mk {r : Rt} (h : RtOk r) (t : Bs) : getS (rootL r ++ t) = some (r, t) := by
  have hc : ((r.count.toNat : Nat) : Int) = r.count := by have := h.lo; omega
  have e : rootL r ++ t = numL bNet r.count.toNat ++ (numL bPool r.pool.length ++ (packsL r.pool ++ (numL bForks r.forks.length ++ (forksL r.forks ++ t)))) := by unfold rootL; simp
  unfold getS
  rw [e, numO_mk (by decide) (by have := h.hi; omega) (Nat.le_refl _)]
  simp only
  rw [numO_mk (by decide) h.pool.len (by decide)]
  simp only
  rw [packsO_mk r.pool [] _ (by rw [List.nil_append]; exact h.pool)]
  simp only
  rw [numO_mk (by decide) h.len (by decide)]
  simp only
  rw [forksO_mk r.forks [] t (by rw [List.nil_append]; exact h.forks)]
  simp only [List.nil_append, hc]
theorem getS_some {b t : Bs} {r : Rt} (h : getS b = some (r, t)) : RtOk r ∧ b = rootL r ++ t := by
  unfold getS at h
  cases h1 : numO bNet 1099511627776 b with
  | none => rw [h1] at h; cases h
  | some p =>
  obtain ⟨c, s1⟩ := p
  rw [h1] at h
  simp only at h
  cases h2 : numO bPool 24 s1 with
  | none => rw [h2] at h; cases h
  | some p =>
  obtain ⟨np, s2⟩ := p
  rw [h2] at h
  simp only at h
  cases h3 : packsO np [] s2 with
  | none => rw [h3] at h; cases h
  | some p =>
  obtain ⟨pool, s3⟩ := p
  rw [h3] at h
  simp only at h
  cases h4 : numO bForks 16 s3 with
  | none => rw [h4] at h; cases h
  | some p =>
  obtain ⟨nf, s4⟩ := p
  rw [h4] at h
  simp only at h
  cases h5 : forksO nf [] s4 with
  | none => rw [h5] at h; cases h
  | some p =>
  obtain ⟨fs, s5⟩ := p
  rw [h5] at h
  simp only at h
  cases h
  obtain ⟨e1, k1⟩ := numO_some h1
  obtain ⟨e2, k2⟩ := numO_some h2
  obtain ⟨t3, a3, b3, e3, k3⟩ := packsO_some _ _ _ _ _ h3
  obtain ⟨e4, k4⟩ := numO_some h4
  obtain ⟨t5, a5, b5, e5, k5⟩ := forksO_some _ _ _ _ _ FksOk.nil h5
  rw [List.nil_append] at a3 a5
  subst a3; subst a5
  refine ⟨⟨by simp only; omega, by simp only; omega, k3 PacksOk.nil, by simp only; omega, k5⟩, ?_⟩
  unfold rootL
  simp only
  have hc : ((c : Int)).toNat = c := Int.toNat_natCast c
  rw [hc, e1, e2, e3, e4, e5, b3, b5]
  simp
/-- What Get answers. -/
noncomputable def getO (b : Bs) : Option Rt := match getS b with | some (r, []) => some r | _ => none
theorem getO_iff {b : Bs} {r : Rt} : getO b = some r ↔ IsRoot b r := by
  unfold getO
  constructor
  · intro h
    split at h
    · rename_i r' hg
      cases h
      obtain ⟨h1, h2⟩ := getS_some hg
      exact ⟨h1, by rw [h2, List.append_nil]⟩
    · cases h
  · rintro ⟨h1, rfl⟩
    have := getS_mk h1 []
    rw [List.append_nil] at this
    rw [this]
theorem getO_none {b : Bs} (h : getO b = none) : ∀ r, ¬ IsRoot b r := fun r hr => by rw [getO_iff.2 hr] at h; cases h
theorem IsRoot.unique {b : Bs} {r s : Rt} (h : IsRoot b r) (k : IsRoot b s) : r = s := by
  have h1 := getO_iff.2 h
  rw [getO_iff.2 k] at h1
  cases h1; rfl
/-- No root's lines begin with another's. -/
theorem rootL_pre {r s : Rt} (h : RtOk r) (k : RtOk s) {t : Bs} (e : rootL s ++ t = rootL r) : s = r ∧ t = [] := by
  have h1 := getS_mk k t
  have h2 := getS_mk h []
  rw [List.append_nil, ← e, h1] at h2
  cases h2; exact ⟨rfl, rfl⟩
end Go.Proofs.YtnboagmibhllpaaGreatDoor.Ro


namespace Go.Proofs.YtnboagmibhllpaaGreatDoor.Ro
open Go.Proofs.YtnboagmibhllpaaGreatDoor
open Go.Proofs.YtnboagmibhllpaaGreatDoor.Rf (BoolB Ref nameB linesL lineL Named_p)
open Go Go.RowKit

set_option maxHeartbeats 1000000 in
theorem nmByte_any (c : UInt8) (w : World) : Calls Tryz.prog 41 #[.int .u8 (c.toNat : Int)] w fun e w' => e = .returned (.bool (nmByte c)) ∧ w = w' := by
  obtain ⟨b, hb⟩ : ∃ b, b = nmByte c := ⟨_, rfl⟩
  rw [← hb]
  have hI : b = ((decide (97 ≤ (c.toNat : Int)) && decide ((c.toNat : Int) ≤ 122)) || (decide (48 ≤ (c.toNat : Int)) && decide ((c.toNat : Int) ≤ 57)) || ((c.toNat : Int) == 45)) := by
    rw [hb]
    have e2 : (c == 45) = ((c.toNat : Int) == 45) := (Rf.u8_beq c 45 (by decide)).symm
    show ((decide (97 ≤ c) && decide (c ≤ 122)) || (decide (48 ≤ c) && decide (c ≤ 57)) || c == 45) = _
    have d1 : decide ((97 : UInt8) ≤ c) = decide (97 ≤ (c.toNat : Int)) := by rw [decide_eq_decide, UInt8.le_iff_toNat_le]; simp; omega
    have d2 : decide (c ≤ (122 : UInt8)) = decide ((c.toNat : Int) ≤ 122) := by rw [decide_eq_decide, UInt8.le_iff_toNat_le]; simp; omega
    have d3 : decide ((48 : UInt8) ≤ c) = decide (48 ≤ (c.toNat : Int)) := by rw [decide_eq_decide, UInt8.le_iff_toNat_le]; simp; omega
    have d4 : decide (c ≤ (57 : UInt8)) = decide ((c.toNat : Int) ≤ 57) := by rw [decide_eq_decide, UInt8.le_iff_toNat_le]; simp; omega
    rw [d1, d2, d3, d4, e2]
  have HI := Lib.hid hI
  clear hI hb
  generalize (c.toNat : Int) = z at HI ⊢
  by_cases h1 : 97 ≤ z <;> by_cases h2 : z ≤ 122
  all_goals
    by_cases h3 : 48 ≤ z <;> by_cases h4 : z ≤ 57
    all_goals
      go_enter Tryz.func41, Tryz.ntmps41
      go_wp2
      all_goals
        go_ret
        refine ⟨ret_bool ?_, rfl⟩
        rw [HI.out, Bool.eq_iff_iff]
        simp
        try omega

theorem all_snoc (p : UInt8 → Bool) (l : Bs) (k : Nat) (h : k < l.length) (ih : (l.take k).all p = true) : (l.take (k + 1)).all p = p l[k] := by
  rw [List.take_succ_eq_append_getElem h, List.all_append, ih]; simp
theorem fork_no (l : Bs) (k : Nat) (h : k < l.length) (hd : nmByte l[k] = false) : forkB l = false := by
  unfold forkB
  have : l.all nmByte = false := by rw [List.all_eq_false]; exact ⟨l[k], List.getElem_mem h, by simp [hd]⟩
  rw [this, Bool.and_false]
theorem fork_yes (l : Bs) (h1 : 1 ≤ l.length) (h2 : l.length ≤ 20) (ha : l.all nmByte = true) : forkB l = true := by
  unfold forkB
  rw [ha, decide_eq_true h1, decide_eq_true h2]; rfl
theorem fork_lo (l : Bs) (h : ¬ 1 ≤ l.length) : forkB l = false := by unfold forkB; rw [decide_eq_false h]; simp
theorem fork_hi (l : Bs) (h : ¬ l.length ≤ 20) : forkB l = false := by unfold forkB; rw [decide_eq_false h]; simp

set_option maxHeartbeats 1000000 in
theorem forkNamed_any (l : Bs) (w : World) (hl : l.length ≤ maxLen) : Calls Tryz.prog 19 #[SV l] w fun e w' => e = .returned (.bool (forkB l)) ∧ w = w' := by
  unfold maxLen at hl
  unfold SV
  by_cases h1 : 1 ≤ l.length
  case neg =>
    have HB := Lib.hid (fork_lo l h1)
    have hI : (l.length : Int) < 1 := by omega
    clear h1
    go_enter Tryz.func19, Tryz.ntmps19
    go_wp2
    go_ret
    exact ⟨ret_bool HB.out.symm, rfl⟩
  by_cases h2 : l.length ≤ 20
  case neg =>
    have HB := Lib.hid (fork_hi l h2)
    have hI : ¬ (l.length : Int) < 1 := by omega
    have hI2 : 20 < (l.length : Int) := by omega
    clear h1 h2
    go_enter Tryz.func19, Tryz.ntmps19
    go_wp2
    go_ret
    exact ⟨ret_bool HB.out.symm, rfl⟩
  have hI : ¬ (l.length : Int) < 1 := by omega
  have hI2 : ¬ 20 < (l.length : Int) := by omega
  have HY := Lib.hid (fork_yes l h1 h2)
  go_enter Tryz.func19, Tryz.ntmps19
  go_wp2
  go_loop [3, 14] (fun _ i => ∃ k : Nat, k ≤ l.length ∧ i = .int .i64 k ∧ (l.take k).all nmByte = true) (fun _ i => l.length - (intOf i).toNat)
  case atStart => exact ⟨0, Nat.zero_le _, rfl, rfl⟩
  case round =>
    obtain ⟨k, hk, rfl, hall⟩ := hrel
    by_cases hlt : k < l.length
    · have hcall := nmByte_any l[k] w
      have hsn := all_snoc nmByte l k hlt hall
      cases hp : nmByte l[k]
      · rw [hp] at hcall
        have HB := Lib.hid (fork_no l k hlt hp)
        clear hsn hp hall HY
        go_wp2_with fail
        refine hcall.mono ?_
        rintro e w' ⟨rfl, rfl⟩
        go_wp2
        go_ret
        exact ⟨ret_bool HB.out.symm, rfl⟩
      · rw [hp] at hcall
        have HS := Lib.hid (hsn.trans hp)
        clear hsn hp hall HY
        go_wp2_with fail
        refine hcall.mono ?_
        rintro e w' ⟨rfl, rfl⟩
        go_wp2
        go_round
        case rel => exact ⟨k + 1, by omega, by go_num, HS.out⟩
        case measure => simp [intOf]; omega
    · have e : k = l.length := by omega
      have HB := Lib.hid (HY.out (by rw [e, List.take_length] at hall; exact hall))
      clear hall e HY
      go_wp2
      go_ret
      exact ⟨ret_bool HB.out.symm, rfl⟩

theorem bond_any (b : Bool) (w : World) : Calls Tryz.prog 50 #[.bool b] w fun e w' => e = .returned (SV (bond b)) ∧ w = w' := by
  cases b
  all_goals
    go_enter Tryz.func50, Tryz.ntmps50
    go_wp2
    go_ret
    exact ⟨rfl, rfl⟩

set_option maxHeartbeats 1000000 in
theorem isHead_any (l : Bs) (w : World) (hl : l.length ≤ maxLen) : Calls Tryz.prog 87 #[SV l] w (BoolB (headB l) w) := by
  have HN := Lib.hid (Named_p l w hl)
  have HP := Lib.hid (fun W => Any.strings_HasPrefix Tryz.hasA ⟨l.toArray⟩ ⟨#[104, 101, 97, 100, 115, 47]⟩ W)
  have hp : Lib.hasPrefix l [104, 101, 97, 100, 115, 47] = wHd.isPrefixOf l := rfl
  obtain ⟨b, hb⟩ : ∃ b, b = headB l := ⟨_, rfl⟩
  rw [← hb]
  unfold headB at hb
  unfold SV at HN ⊢
  cases hn : nameB l with
  | false =>
    rw [hn] at HN hb
    have HB := Lib.hid hb
    clear hn hb hp HP
    go_enter Tryz.func87, Tryz.ntmps87
    go_wp2_with fail
    refine HN.out.mono ?_
    rintro e w1 ⟨rfl, l1⟩
    go_wp2
    go_ret
    exact ⟨ret_bool HB.out.symm, l1⟩
  | true =>
    rw [hn] at HN hb
    have HB : Hid (b = Lib.hasPrefix l [104, 101, 97, 100, 115, 47]) := Lib.hid (by rw [hb, hp]; rfl)
    clear hn hb hp
    go_enter Tryz.func87, Tryz.ntmps87
    go_wp2_with fail
    refine HN.out.mono ?_
    rintro e w1 ⟨rfl, l1⟩
    go_wp2_with fail
    refine (HP.out w1).mono ?_
    rintro e w2 ⟨rfl, rfl⟩
    go_wp2
    go_ret
    exact ⟨ret_bool HB.out.symm, l1⟩
end Go.Proofs.YtnboagmibhllpaaGreatDoor.Ro


namespace Go.Proofs.YtnboagmibhllpaaGreatDoor
open Go Go.RowKit
theorem below_drewN' {b : Nat} {w w1 : World} (h : Below b w w1) (n : Nat) : Below b w (w1.drewN n) := ⟨h.os, h.tape, h.output, h.size, h.block⟩
def SamePost (b : Bool) (w : World) (e : Ending) (w' : World) : Prop := e = .returned (.bool b) ∧ Below w.heap.size w w'
theorem take_same' {α : Type} {l m : List α} {d : α} {k : Nat} (h : l.take k = m.take k) (h1 : k < l.length) (h2 : k < m.length) (e : l.getD k d = m.getD k d) : l.take (k + 1) = m.take (k + 1) := by
  rw [take_getD l d k h1, take_getD m d k h2, h, e]
theorem ret_same {a b : Bool} (h : a = b) : Ending.returned (.bool b) = .returned (.bool a) := by rw [h]
set_option maxHeartbeats 8000000 in
set_option maxRecDepth 100000 in
theorem SameTexts_any {w : World} {va vb : Value} {l m : List (List UInt8)} (ha : StrsR w va l) (hb : StrsR w vb m) (hl : l.length ≤ 1000000) : Calls Tryz.prog 39 #[va, vb] w (SamePost (decide (l = m)) w) := by
  obtain ⟨A, c, rfl⟩ := ha.shape
  obtain ⟨B, cb, rfl⟩ := hb.shape
  have Ha := Lib.hid ha; have Hb := Lib.hid hb
  clear ha hb
  by_cases hlen : l.length = m.length
  · have Hlen := Lib.hid hlen
    rw [← hlen]
    clear hlen
    go_enter Tryz.func39, Tryz.ntmps39
    go_wp2_with fail
    go_loopw [5] (fun i wr => Below w.heap.size w wr ∧ ∃ k : Nat, k ≤ l.length ∧ i = .int .i64 k ∧ Hid (l.take k = m.take k)) (fun i _ => l.length - (intOf i).toNat)
    case atStart => exact ⟨Below.refl _ _, 0, Nat.zero_le _, rfl, Lib.hid rfl⟩
    case round =>
      obtain ⟨hB, k, hk, rfl, heq⟩ := hrel
      by_cases hlt : k < l.length
      · have hlm : k < m.length := by have := Hlen.out; omega
        obtain ⟨g, o, c', e, _, hg⟩ := Ha.out.pos (by omega)
        cases e
        obtain ⟨g', o', c'', e, _, hg'⟩ := Hb.out.pos (by omega)
        rw [← Hlen.out] at e
        cases e
        have p0 := StrsR.cell (Ha.out.below hB (Nat.le_refl _)) k hlt
        have q0 := StrsR.cell (Hb.out.below hB (Nat.le_refl _)) k hlm
        have hst := @take_same' _ l m ([] : List UInt8) k heq.out hlt hlm
        have hne : l.getD k ([] : List UInt8) ≠ m.getD k ([] : List UInt8) → decide (l = m) = false := fun hn => decide_eq_false fun e => hn (by rw [e])
        obtain ⟨x, hx⟩ : ∃ x, x = l.getD k ([] : List UInt8) := ⟨_, rfl⟩
        obtain ⟨y, hy⟩ : ∃ y, y = m.getD k ([] : List UInt8) := ⟨_, rfl⟩
        rw [← hx] at p0 hst hne
        rw [← hy] at q0 hst hne
        have HB := Lib.hid hB; have HSt := Lib.hid hst
        clear hB hst hlm hx hy heq
        unfold SV at p0 q0
        by_cases e : x = y
        · have HSt2 := Lib.hid (HSt.out e)
          clear HSt
          cases e
          clear hne
          go_wp2_with fail
          go_quiet (fail)
          go_wp2_with fail
          go_roundw
          case rel => exact ⟨below_drewN' HB.out _, k + 1, hlt, by go_num, HSt2⟩
          case measure => simp [intOf]; omega
        · have HN := Lib.hid (hne e)
          have e2 : (x == y) = false := by simpa using e
          have e3 : (x != y) = true := by simpa using e
          clear hne e
          go_wp2_with fail
          go_quiet (fail)
          go_wp2_with fail
          go_ret
          exact ⟨ret_same HN.out, below_drewN' HB.out _⟩
      · obtain rfl : k = l.length := by omega
        have HD : Hid (decide (l = m) = true) := Lib.hid (decide_eq_true (by
          have h := heq.out
          rw [List.take_length] at h
          rw [h, List.take_of_length_le (by have := Hlen.out; omega)]))
        have HB := Lib.hid hB; clear hB heq
        go_wp2_with fail
        go_ret
        exact ⟨ret_same HD.out, HB.out⟩
  · have hlI : ¬ (l.length : Int) = (m.length : Int) := by omega
    have HD : Hid (decide (l = m) = false) := Lib.hid (decide_eq_false fun e => hlen (by rw [e]))
    clear Ha Hb
    go_enter Tryz.func39, Tryz.ntmps39
    go_wp2_with fail
    go_ret
    exact ⟨ret_same HD.out, Below.refl _ _⟩
end Go.Proofs.YtnboagmibhllpaaGreatDoor
