/-
  The document's Get, plain: lines, and what stands behind them.
-/
import Derived.Test.YtnboagmibhllpaaGreatDoorC20
namespace Go.Proofs.YtnboagmibhllpaaGreatDoor.Ro
open Go.Proofs.YtnboagmibhllpaaGreatDoor
open Go.Proofs.YtnboagmibhllpaaGreatDoor.Rf (Ref nameB linesL lineL)
open Go.Proofs.YtnboagmibhllpaaGreatDoor.Nu (decL decL_some decL_dd dd_digit)

/-- Pieces between bytes of one kind. -/
def splitL (c : UInt8) : Bs → List Bs
  | [] => [[]]
  | x :: s => if x = c then [] :: splitL c s else match splitL c s with | p :: r => (x :: p) :: r | [] => [[x]]
theorem splitL_ne (c : UInt8) (s : Bs) : splitL c s ≠ [] := by
  cases s with
  | nil => simp [splitL]
  | cons x s =>
    unfold splitL
    split
    · simp
    · split <;> simp
theorem splitL_cons {c x : UInt8} (h : x ≠ c) {s p : Bs} {r : List Bs} (hp : splitL c s = p :: r) : splitL c (x :: s) = (x :: p) :: r := by
  rw [splitL, if_neg h, hp]
theorem splitL_app {c : UInt8} {p : Bs} (h : c ∉ p) (s : Bs) : splitL c (p ++ c :: s) = p :: splitL c s := by
  induction p with
  | nil => show splitL c (c :: s) = _; rw [splitL, if_pos rfl]
  | cons x p ih =>
    have hx : x ≠ c := fun e => h (by rw [e]; simp)
    exact splitL_cons hx (ih fun hm => h (List.mem_cons_of_mem _ hm))
theorem splitL_one {c : UInt8} {p : Bs} (h : c ∉ p) : splitL c p = [p] := by
  induction p with
  | nil => rfl
  | cons x p ih =>
    have hx : x ≠ c := fun e => h (by rw [e]; simp)
    exact splitL_cons hx (ih fun hm => h (List.mem_cons_of_mem _ hm))
theorem splitL_words : ∀ s : Bs, splitL 32 s = words s
  | [] => rfl
  | x :: s => by
    by_cases h : x = 32
    · rw [splitL, words, splitL_words s, if_pos h, if_pos h]
    · rw [splitL, words, splitL_words s, if_neg h, if_neg h]
      cases words s <;> rfl
theorem splitL_lines : ∀ {l : List Bs}, (∀ x ∈ l, (10 : UInt8) ∉ x) → splitL 10 (packsL l) = l ++ [[]]
  | [], _ => rfl
  | x :: l, h => by rw [packsL_cons, splitL_app (h x (by simp)), splitL_lines fun y hy => h y (List.mem_cons_of_mem _ hy)]; rfl
theorem splitL_len (c : UInt8) : ∀ s : Bs, (splitL c s).length ≤ s.length + 1
  | [] => Nat.le_refl _
  | x :: s => by
    have ih := splitL_len c s
    by_cases h : x = c
    · rw [splitL, if_pos h]; simp; omega
    · cases hp : splitL c s with
      | nil => exact absurd hp (splitL_ne c s)
      | cons p r => rw [splitL_cons h hp]; rw [hp] at ih; simp at ih ⊢; omega
theorem splitL_mem (c : UInt8) : ∀ {s x : Bs}, x ∈ splitL c s → x.length ≤ s.length
  | [], x, h => by
    rw [splitL, List.mem_singleton] at h
    rw [h]; exact Nat.le_refl _
  | y :: s, x, h => by
    by_cases e : y = c
    · rw [splitL, if_pos e] at h
      rcases List.mem_cons.1 h with rfl | h
      · exact Nat.zero_le _
      · have := splitL_mem c h
        simp; omega
    · cases hp : splitL c s with
      | nil => exact absurd hp (splitL_ne c s)
      | cons p r =>
        rw [splitL_cons e hp] at h
        rcases List.mem_cons.1 h with rfl | h
        · have := splitL_mem c (s := s) (x := p) (by rw [hp]; simp)
          simp; omega
        · have := splitL_mem c (s := s) (x := x) (by rw [hp]; exact List.mem_cons_of_mem _ h)
          simp; omega
theorem mem_drop' {c : UInt8} {s : Bs} {a : Nat} (h : c ∈ s.drop a) : ∃ i, a ≤ i ∧ s[i]? = some c := by
  obtain ⟨j, hj⟩ := List.getElem?_of_mem h
  rw [List.getElem?_drop] at hj
  exact ⟨a + j, Nat.le_add_right _ _, hj⟩
/-- What is done, and what stands ahead. -/
structure SpK (c : UInt8) (s : Bs) (out : List Bs) (at_ i : Nat) : Prop where
  le : at_ ≤ i
  no : ∀ j, at_ ≤ j → j < i → s[j]? ≠ some c
  eq : splitL c s = out ++ splitL c (s.drop at_)
theorem SpK.start (c : UInt8) (s : Bs) : SpK c s [] 0 0 := ⟨Nat.le_refl _, fun j _ h => absurd h (Nat.not_lt_zero j), by simp⟩
theorem SpK.skip {c : UInt8} {s : Bs} {out : List Bs} {a i : Nat} (h : SpK c s out a i) (hn : s[i]? ≠ some c) : SpK c s out a (i + 1) := ⟨by have := h.le; omega, fun j h1 h2 => by
  by_cases e : j = i
  · rw [e]; exact hn
  · exact h.no j h1 (by omega), h.eq⟩
theorem not_in_piece {c : UInt8} {s : Bs} {a i : Nat} (no : ∀ j, a ≤ j → j < i → s[j]? ≠ some c) : c ∉ (s.drop a).take (i - a) := fun hm => by
  obtain ⟨j, hj⟩ := List.getElem?_of_mem hm
  have hlt : j < i - a := by have := (List.getElem?_eq_some_iff.1 hj).1; rw [List.length_take] at this; omega
  rw [List.getElem?_take, if_pos hlt, List.getElem?_drop] at hj
  exact no (a + j) (by omega) (by omega) hj
theorem SpK.cut {c : UInt8} {s : Bs} {out : List Bs} {a i : Nat} (h : SpK c s out a i) (hc : s[i]? = some c) : SpK c s (out ++ [(s.drop a).take (i - a)]) (i + 1) (i + 1) := by
  refine ⟨Nat.le_refl _, fun j h1 h2 => by omega, ?_⟩
  have hi := (List.getElem?_eq_some_iff.1 hc).1
  have hle := h.le
  have e : s.drop a = (s.drop a).take (i - a) ++ c :: s.drop (i + 1) := by
    have h1 : (s.drop a).drop (i - a) = c :: s.drop (i + 1) := by
      rw [List.drop_drop, show a + (i - a) = i by omega, List.drop_eq_getElem_cons hi]
      rw [List.getElem?_eq_getElem hi] at hc
      rw [Option.some.inj hc]
    rw [← h1, List.take_append_drop]
  rw [h.eq, List.append_assoc]
  conv => lhs; rw [e]
  rw [splitL_app (not_in_piece h.no)]; rfl
theorem SpK.done {c : UInt8} {s : Bs} {out : List Bs} {a : Nat} (h : SpK c s out a s.length) : out ++ [(s.drop a).take (s.length - a)] = splitL c s := by
  have e : (s.drop a).take (s.length - a) = s.drop a := List.take_of_length_le (by rw [List.length_drop]; omega)
  have hn := not_in_piece h.no
  rw [e] at hn
  rw [e, h.eq, splitL_one hn]
theorem SpK.few {c : UInt8} {s : Bs} {out : List Bs} {a i : Nat} (h : SpK c s out a i) : out.length ≤ s.length := by
  have h1 := congrArg List.length h.eq
  rw [List.length_append] at h1
  have h2 := splitL_len c s
  have h3 : 0 < (splitL c (s.drop a)).length := List.length_pos_iff.2 (splitL_ne _ _)
  omega

/-! ### Counts -/
/-- The number behind a word. -/
def cntO (word : Bs) (l : Option Bs) : Option Nat :=
  match l with
  | some x => if (word ++ [32]).isPrefixOf x then decL (x.drop (word.length + 1)) else none
  | none => none
theorem cntO_mk {word : Bs} {n : Nat} (h : n ≤ 1099511627776) : cntO word (some (word ++ 32 :: dd n)) = some n := by
  unfold cntO
  simp only
  have e : (word ++ [32]).isPrefixOf (word ++ 32 :: dd n) = true := List.isPrefixOf_iff_prefix.2 ⟨dd n, by simp⟩
  have e2 : (word ++ 32 :: dd n).drop (word.length + 1) = dd n := by rw [List.drop_append]; simp
  rw [if_pos e, e2]
  unfold dd
  exact decL_dd h

/-! ### A root's lines -/
def refL (x : Ref) : Bs := x.id ++ 32 :: x.name
theorem lines_rows (l : List Ref) : packsL (l.map refL) = linesL l := by
  induction l with
  | nil => rfl
  | cons x l ih => rw [List.map_cons, packsL_cons, Rf.linesL_cons, ih]; unfold refL lineL; simp
def fkLs (f : Fk) : List Bs := openB f.op :: (f.refs.map refL ++ f.packs)
def rLs (r : Rt) : List Bs := (bNet ++ 32 :: dd r.count.toNat) :: (bPool ++ 32 :: dd r.pool.length) :: (r.pool ++ (bForks ++ 32 :: dd r.forks.length) :: r.forks.flatMap fkLs)
theorem packsL_app (a b : List Bs) : packsL (a ++ b) = packsL a ++ packsL b := by unfold packsL; exact List.flatMap_append
theorem fk_rows (f : Fk) : packsL (fkLs f) = forkL f := by
  unfold fkLs forkL
  rw [packsL_cons, packsL_app, lines_rows]
theorem fks_rows : ∀ l : List Fk, packsL (l.flatMap fkLs) = forksL l
  | [] => rfl
  | f :: l => by rw [List.flatMap_cons, packsL_app, fk_rows, fks_rows l, forksL_cons]
theorem root_rows (r : Rt) : packsL (rLs r) = rootL r := by
  unfold rLs rootL numL
  rw [packsL_cons, packsL_cons, packsL_app, packsL_cons, fks_rows]
  simp
theorem num_no10 {word : Bs} (hw : (10 : UInt8) ∉ word) (n : Nat) : (10 : UInt8) ∉ word ++ 32 :: dd n := fun hm => by
  rcases List.mem_append.1 hm with hm | hm
  · exact hw hm
  · rcases List.mem_cons.1 hm with hm | hm
    · revert hm; decide
    · exact (dd_char n hm).1 rfl
theorem ref_no10 {x : Ref} (h1 : nameB x.name = true) (h2 : namedB x.id = true) : (10 : UInt8) ∉ refL x := fun hm => by
  unfold refL at hm
  rcases List.mem_append.1 hm with hm | hm
  · exact (Rf.named_char h2 hm).1 rfl
  · rcases List.mem_cons.1 hm with hm | hm
    · revert hm; decide
    · exact (Rf.name_char h1 hm).1 rfl
theorem rLs_no10 {r : Rt} (h : RtOk r) : ∀ x ∈ rLs r, (10 : UInt8) ∉ x := fun x hx => by
  unfold rLs at hx
  rcases List.mem_cons.1 hx with rfl | hx
  · exact num_no10 (by decide) _
  rcases List.mem_cons.1 hx with rfl | hx
  · exact num_no10 (by decide) _
  rcases List.mem_append.1 hx with hx | hx
  · exact fun hm => (Rf.named_char (h.pool.id x hx) hm).1 rfl
  rcases List.mem_cons.1 hx with rfl | hx
  · exact num_no10 (by decide) _
  obtain ⟨f, hf, hx⟩ := List.mem_flatMap.1 hx
  have hF := h.forks.each f hf
  unfold fkLs at hx
  rcases List.mem_cons.1 hx with rfl | hx
  · exact fun hm => open_char hF hm rfl
  rcases List.mem_append.1 hx with hx | hx
  · obtain ⟨y, hy, rfl⟩ := List.mem_map.1 hx
    exact ref_no10 (hF.refs.each y hy).1 (hF.refs.each y hy).2
  · exact fun hm => (Rf.named_char (hF.packs.id x hx) hm).1 rfl
theorem root_lines {b : Bs} {r : Rt} (h : IsRoot b r) : splitL 10 b = rLs r ++ [[]] := by
  rw [← h.2, ← root_rows r, splitL_lines (rLs_no10 h.1)]
theorem fk_words {f : Fk} (h : FkOk f) : splitL 32 (openB f.op) = [bFork, f.name, bond f.linked, f.head, dd f.refs.length, dd f.packs.length] := by
  rw [splitL_words]
  unfold openB Fk.op
  rw [words_app (by decide), words_app fun hm => (fork_char h.name hm).2 rfl, words_app fun hm => (bond_char _ hm).2 rfl, words_app fun hm => (head_char h.head hm).2 rfl, words_app fun hm => (dd_char _ hm).2 rfl, words_one fun hm => (dd_char _ hm).2 rfl]
/-- Behind the first i forks' lines. -/
structure At (b : Bs) (cnt : Nat) (pool : List Bs) (nf i at_ : Nat) (acc : List Fk) (r : Rt) : Prop where
  cnt : r.count = (cnt : Int)
  pool : r.pool = pool
  nf : r.forks.length = nf
  acc : r.forks.take i = acc
  left : (splitL 10 b).drop at_ = (r.forks.drop i).flatMap fkLs ++ [[]]
theorem at_start {b : Bs} {r : Rt} (h : IsRoot b r) : (splitL 10 b)[0]? = some (bNet ++ 32 :: dd r.count.toNat) ∧ (splitL 10 b)[1]? = some (bPool ++ 32 :: dd r.pool.length) ∧ r.pool.length + 4 ≤ (splitL 10 b).length ∧
    ((splitL 10 b).drop 2).take r.pool.length = r.pool ∧ (splitL 10 b)[2 + r.pool.length]? = some (bForks ++ 32 :: dd r.forks.length) ∧ (splitL 10 b).drop (3 + r.pool.length) = r.forks.flatMap fkLs ++ [[]] := by
  rw [root_lines h]
  unfold rLs
  refine ⟨rfl, rfl, by simp, ?_, ?_, ?_⟩
  · show ((r.pool ++ _) ++ [[]]).take r.pool.length = _
    rw [List.append_assoc, List.take_left]
  · rw [show 2 + r.pool.length = r.pool.length + 2 by omega]
    show ((r.pool ++ (bForks ++ 32 :: dd r.forks.length) :: r.forks.flatMap fkLs) ++ [[]])[r.pool.length]? = _
    rw [List.append_assoc, List.getElem?_append_right (by omega)]
    simp
  · rw [show 3 + r.pool.length = r.pool.length + 1 + 2 by omega]
    show ((r.pool ++ (bForks ++ 32 :: dd r.forks.length) :: r.forks.flatMap fkLs) ++ [[]]).drop (r.pool.length + 1) = _
    rw [List.append_assoc, List.drop_append, List.drop_of_length_le (by omega)]
    simp
end Go.Proofs.YtnboagmibhllpaaGreatDoor.Ro
