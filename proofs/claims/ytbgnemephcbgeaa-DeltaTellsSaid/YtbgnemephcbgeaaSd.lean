/-
  Deltas: what is made, and what is made of it.
-/
import Derived.Test.YtbgnemephcbgeaaSc
import Derived.Test.YtbgnemephcbgeaaNum
namespace Go.Proofs.Ytbgnemephcbgeaa
/-- How long two texts are alike. -/
def lcp : Bs → Bs → Nat
  | a :: x, b :: y => if a = b then lcp x y + 1 else 0
  | _, _ => 0
theorem lcp_nil_right (x : Bs) : lcp x [] = 0 := by cases x <;> rfl
theorem le_lcp : ∀ (n : Nat) (x y : Bs), n ≤ lcp x y ↔ n ≤ x.length ∧ n ≤ y.length ∧ x.take n = y.take n
  | 0, x, y => by simp
  | n + 1, [], y => by simp [lcp]
  | n + 1, a :: x, [] => by simp [lcp]
  | n + 1, a :: x, b :: y => by
    simp only [lcp, List.length_cons, List.take_succ_cons]
    by_cases h : a = b
    · subst h
      rw [if_pos rfl, Nat.add_le_add_iff_right, le_lcp n x y]
      simp
    · rw [if_neg h]
      simp [h]
theorem lcp_le_left (x y : Bs) : lcp x y ≤ x.length := ((le_lcp _ x y).1 (Nat.le_refl _)).1
theorem lcp_le_right (x y : Bs) : lcp x y ≤ y.length := ((le_lcp _ x y).1 (Nat.le_refl _)).2.1

/-- Where base has the longest beginning of what is left, the first of several, and how long it is. -/
structure IsLong (base left : Bs) (f n : Nat) : Prop where
  le : ∀ i, i < base.length → lcp (base.drop i) left ≤ n
  zero : n = 0 → f = 0
  pos : 0 < n → f < base.length ∧ lcp (base.drop f) left = n ∧ ∀ i, i < f → lcp (base.drop i) left < n
theorem IsLong.uniq {base left : Bs} {f n f' n' : Nat} (h : IsLong base left f n) (k : IsLong base left f' n') : f = f' ∧ n = n' := by
  have key : ∀ {f n f' n'}, IsLong base left f n → IsLong base left f' n' → n ≤ n' := fun {f n f' n'} h k => by
    rcases Nat.eq_zero_or_pos n with h0 | h0
    · omega
    · obtain ⟨h1, h2, _⟩ := h.pos h0
      rw [← h2]; exact k.le f h1
  obtain rfl : n = n' := Nat.le_antisymm (key h k) (key k h)
  refine ⟨?_, rfl⟩
  rcases Nat.eq_zero_or_pos n with h0 | h0
  · rw [h.zero h0, k.zero h0]
  · obtain ⟨_, h2, h3⟩ := h.pos h0
    obtain ⟨_, k2, k3⟩ := k.pos h0
    rcases Nat.lt_trichotomy f f' with hlt | rfl | hlt
    · have := k3 f hlt; omega
    · rfl
    · have := h3 f' hlt; omega
/-- Behind i looks. -/
def rl (base left : Bs) : Nat → Nat × Nat
  | 0 => (0, 0)
  | i + 1 => if (rl base left i).2 < lcp (base.drop i) left then (i, lcp (base.drop i) left) else rl base left i
theorem rl_ok (base left : Bs) : ∀ k, k ≤ base.length → (∀ i, i < k → lcp (base.drop i) left ≤ (rl base left k).2) ∧ ((rl base left k).2 = 0 → (rl base left k).1 = 0) ∧
    (0 < (rl base left k).2 → (rl base left k).1 < k ∧ lcp (base.drop (rl base left k).1) left = (rl base left k).2 ∧ ∀ i, i < (rl base left k).1 → lcp (base.drop i) left < (rl base left k).2)
  | 0, _ => ⟨fun i h => by omega, fun _ => rfl, fun h => by simp [rl] at h⟩
  | k + 1, hk => by
    obtain ⟨h1, h2, h3⟩ := rl_ok base left k (by omega)
    simp only [rl]
    split
    · rename_i h
      refine ⟨fun i hi => ?_, fun h0 => by simp only at h0; omega, fun _ => ⟨by simp only; omega, rfl, fun i hi => ?_⟩⟩
      · rcases Nat.lt_or_ge i k with hik | hik
        · have := h1 i hik; simp only; omega
        · obtain rfl : i = k := by omega
          exact Nat.le_refl _
      · have := h1 i hi; simp only; omega
    · rename_i h
      refine ⟨fun i hi => ?_, h2, fun h0 => ?_⟩
      · rcases Nat.lt_or_ge i k with hik | hik
        · exact h1 i hik
        · obtain rfl : i = k := by omega
          omega
      · obtain ⟨a, b, d⟩ := h3 h0
        exact ⟨by omega, b, d⟩
def lng (base left : Bs) : Nat × Nat := rl base left base.length
theorem lng_ok (base left : Bs) : IsLong base left (lng base left).1 (lng base left).2 := by
  obtain ⟨h1, h2, h3⟩ := rl_ok base left base.length (Nat.le_refl _)
  exact ⟨h1, h2, h3⟩
theorem lng_eq {base left : Bs} {f n : Nat} (h : IsLong base left f n) : lng base left = (f, n) := by
  obtain ⟨h1, h2⟩ := (lng_ok base left).uniq h
  exact Prod.ext h1 h2
theorem lng_le (base left : Bs) : (lng base left).2 ≤ left.length := by
  have h := lng_ok base left
  rcases Nat.eq_zero_or_pos (lng base left).2 with h0 | h0
  · omega
  · obtain ⟨_, h2, _⟩ := h.pos h0
    rw [← h2]; exact lcp_le_right _ _
theorem lng_in (base left : Bs) : (lng base left).1 + (lng base left).2 ≤ base.length := by
  have h := lng_ok base left
  rcases Nat.eq_zero_or_pos (lng base left).2 with h0 | h0
  · rw [h.zero h0, h0]; omega
  · obtain ⟨h1, h2, _⟩ := h.pos h0
    have := lcp_le_left (base.drop (lng base left).1) left
    rw [h2, List.length_drop] at this
    omega
theorem lng_says (base left : Bs) : (base.drop (lng base left).1).take (lng base left).2 = left.take (lng base left).2 := by
  have h := lng_ok base left
  rcases Nat.eq_zero_or_pos (lng base left).2 with h0 | h0
  · rw [h0]; simp
  · obtain ⟨h1, h2, _⟩ := h.pos h0
    exact ((le_lcp _ _ _).1 (Nat.le_of_eq h2.symm)).2.2

/-- Words that end in base, by how they begin there. -/
theorem ends_lcp {base left : Bs} {n e : Nat} (hn : n ≤ left.length) : Ends base (left.take n) e ↔ e ≤ base.length ∧ n ≤ e ∧ n ≤ lcp (base.drop (e - n)) left := by
  have hl : (left.take n).length = n := by rw [List.length_take]; omega
  constructor
  · intro h
    have h1 := h.len
    rw [hl] at h1
    refine ⟨h.1, h1, (le_lcp _ _ _).2 ⟨by rw [List.length_drop]; have := h.1; omega, hn, ?_⟩⟩
    have h2 := List.suffix_iff_eq_drop.1 h.2
    rw [hl, List.length_take, Nat.min_eq_left h.1] at h2
    rw [h2, List.drop_take, show e - (e - n) = n by omega]
  · rintro ⟨h1, h2, h3⟩
    refine ⟨h1, ?_⟩
    have h4 := ((le_lcp _ _ _).1 h3).2.2
    rw [← h4]
    refine ⟨base.take (e - n), ?_⟩
    have := List.take_append_drop (e - n) (base.take e)
    rw [List.take_take, Nat.min_eq_left (by omega), List.drop_take, show e - (e - n) = n by omega] at this
    exact this
/-- What the graph tells. -/
theorem graph_long {base left : Bs} {A : Au} (G : Good base A) {v n : Nat} (hn : n ≤ left.length) (h : Of base A (left.take n) v) (hs : n < left.length → ¬ Occ base (left.take (n + 1))) : IsLong base left (A.fin v - n) n := by
  obtain ⟨h1, h2⟩ := G.first h
  obtain ⟨k1, k2, k3⟩ := (ends_lcp hn).1 h1
  have hle : ∀ i, i < base.length → lcp (base.drop i) left ≤ n := fun i hi => by
    refine Nat.le_of_not_lt fun hlt => ?_
    have h3 := lcp_le_right (base.drop i) left
    have h4 := lcp_le_left (base.drop i) left
    rw [List.length_drop] at h4
    refine hs (by omega) ⟨i + (n + 1), (ends_lcp (by omega)).2 ⟨by omega, by omega, ?_⟩⟩
    rw [show i + (n + 1) - (n + 1) = i by omega]; omega
  refine ⟨hle, fun h0 => ?_, fun h0 => ⟨by omega, ?_, fun i hi => ?_⟩⟩
  · have := h2 0
    rw [h0, List.take_zero] at this
    have := this (ends_nil base (Nat.zero_le _))
    omega
  · exact Nat.le_antisymm (hle _ (by omega)) k3
  · refine Nat.lt_of_not_le fun hge => ?_
    have h4 := lcp_le_left (base.drop i) left
    rw [List.length_drop] at h4
    have := h2 (i + n) ((ends_lcp hn).2 ⟨by omega, by omega, by rw [show i + n - n = i by omega]; exact hge⟩)
    omega

/-- Inserts of bytes. -/
def ins (s : Bs) : Bs := if _h : s = [] then [] else UInt8.ofNat (min s.length 127) :: (s.take 127 ++ ins (s.drop 127))
termination_by s.length
decreasing_by
  have := List.length_pos_iff.2 _h
  rw [List.length_drop]; omega
theorem ins_nil : ins [] = [] := by rw [ins, dif_pos rfl]
theorem ins_pos {s : Bs} (h : s ≠ []) : ins s = UInt8.ofNat (min s.length 127) :: (s.take 127 ++ ins (s.drop 127)) := by rw [ins, dif_neg h]
/-- Steps for what is left, when bytes were put off. -/
def mkS (base off left : Bs) : Bs :=
  match left with
  | [] => ins off
  | x :: rest => if (lng base (x :: rest)).2 < 5 then mkS base (off ++ [x]) rest else ins off ++ ((128 :: (putL (lng base (x :: rest)).1 ++ putL (lng base (x :: rest)).2)) ++ mkS base [] ((x :: rest).drop (lng base (x :: rest)).2))
termination_by left.length
decreasing_by
  · simp
  · rw [List.length_drop, List.length_cons]; omega
theorem mkS_nil (base off : Bs) : mkS base off [] = ins off := by rw [mkS]
theorem mkS_lo {base off left : Bs} (h : left ≠ []) (h5 : (lng base left).2 < 5) : mkS base off left = mkS base (off ++ left.take 1) (left.drop 1) := by
  cases left with
  | nil => exact absurd rfl h
  | cons x rest => rw [mkS, if_pos h5]; simp
theorem mkS_hi {base off left : Bs} (h5 : 5 ≤ (lng base left).2) : mkS base off left = ins off ++ ((128 :: (putL (lng base left).1 ++ putL (lng base left).2)) ++ mkS base [] (left.drop (lng base left).2)) := by
  cases left with
  | nil => have := lng_le base []; rw [List.length_nil] at this; omega
  | cons x rest => rw [mkS, if_neg (by omega)]
/-- Where fewer than five are left all are put off. -/
theorem mkS_few : ∀ (left base off : Bs), left.length < 5 → mkS base off left = ins (off ++ left)
  | [], base, off, _ => by rw [mkS_nil, List.append_nil]
  | x :: left, base, off, h => by
    rw [mkS_lo (by simp) (by have := lng_le base (x :: left); omega)]
    simp only [List.take_succ_cons, List.take_zero, List.drop_succ_cons, List.drop_zero]
    rw [mkS_few left base (off ++ [x]) (by rw [List.length_cons] at h; omega)]
    simp
def makeL (base text : Bs) : Bs := (putL base.length ++ putL text.length) ++ mkS base [] text

/-- What the first step makes, and the bytes that are left. -/
def stepL (base : Bs) : Bs → Option (Bs × Bs)
  | [] => none
  | c :: r =>
    if c = 128 then
      match getL r with
      | none => none
      | some (f, k) =>
        match getL (r.drop k) with
        | none => none
        | some (n, j) => if n = 0 ∨ base.length < f + n then none else some ((base.drop f).take n, (r.drop k).drop j)
    else if c = 0 ∨ 127 < c.toNat ∨ r.length < c.toNat then none else some (r.take c.toNat, r.drop c.toNat)
theorem stepL_less {base b p r : Bs} (h : stepL base b = some (p, r)) : r.length < b.length := by
  cases b with
  | nil => cases h
  | cons c b =>
    rw [stepL] at h
    split at h
    · split at h
      · cases h
      · split at h
        · cases h
        · split at h
          · cases h
          · simp only [Option.some.injEq, Prod.mk.injEq] at h
            rw [← h.2]; simp; omega
    · split at h
      · cases h
      · simp only [Option.some.injEq, Prod.mk.injEq] at h
        rw [← h.2]; simp; omega
/-- What all steps make. -/
def stepsL (base b : Bs) : Option Bs :=
  if b = [] then some [] else
    match _h : stepL base b with
    | none => none
    | some (p, r) => (stepsL base r).map (p ++ ·)
termination_by b.length
decreasing_by exact stepL_less _h
theorem stepsL_nil (base : Bs) : stepsL base [] = some [] := by rw [stepsL, if_pos rfl]
theorem stepsL_none {base b : Bs} (hb : b ≠ []) (h : stepL base b = none) : stepsL base b = none := by
  rw [stepsL, if_neg hb]
  split
  · rfl
  · rename_i h2; rw [h] at h2; cases h2
theorem stepsL_some {base b p r : Bs} (h : stepL base b = some (p, r)) : stepsL base b = (stepsL base r).map (p ++ ·) := by
  rw [stepsL, if_neg (by rintro rfl; cases h)]
  split
  · rename_i h2; rw [h] at h2; cases h2
  · rename_i h2; rw [h] at h2; cases h2; rfl
def applyL (base d : Bs) : Option Bs :=
  match getL d with
  | none => none
  | some (n, k) =>
    if n ≠ base.length then none else
    match getL (d.drop k) with
    | none => none
    | some (len, j) =>
      match stepsL base ((d.drop k).drop j) with
      | none => none
      | some t => if t.length = len then some t else none

/-! ### The laws, in plain -/
theorem stepL_copy {base more : Bs} {f n : Nat} (hf : f ≤ 1099511627776) (hn : n ≤ 1099511627776) : stepL base (128 :: (putL f ++ putL n) ++ more) = if n = 0 ∨ base.length < f + n then none else some ((base.drop f).take n, more) := by
  rw [List.cons_append, List.append_assoc, stepL, if_pos rfl, getL_put hf]
  simp only
  rw [List.drop_left, getL_put hn]
  simp only
  rw [List.drop_left]
theorem stepL_ins {base s more : Bs} (h0 : 0 < s.length) (h : s.length ≤ 127) : stepL base (UInt8.ofNat s.length :: (s ++ more)) = some (s, more) := by
  have e : (UInt8.ofNat s.length).toNat = s.length := by rw [UInt8.toNat_ofNat']; omega
  rw [stepL, if_neg (fun h1 => by rw [h1] at e; have : (128 : UInt8).toNat = 128 := rfl; omega), if_neg]
  · rw [e, List.take_left, List.drop_left]
  · rw [e, List.length_append]
    rintro (h1 | h1 | h1)
    · rw [h1] at e
      have : (0 : UInt8).toNat = 0 := rfl
      omega
    · omega
    · omega
theorem stepsL_ins (base more : Bs) : ∀ (n : Nat) (s : Bs), s.length ≤ n → stepsL base (ins s ++ more) = (stepsL base more).map (s ++ ·)
  | n, [], _ => by rw [ins_nil]; simp
  | 0, x :: s, h => by simp at h
  | n + 1, x :: s, h => by
    obtain ⟨t, ht⟩ : ∃ t, t = x :: s := ⟨_, rfl⟩
    rw [← ht] at h ⊢
    have hne : t ≠ [] := by rw [ht]; simp
    have hpos := List.length_pos_iff.2 hne
    have hlen : (t.take 127).length = min t.length 127 := by rw [List.length_take, Nat.min_comm]
    have key := stepL_ins (base := base) (s := t.take 127) (more := ins (t.drop 127) ++ more) (by omega) (by omega)
    rw [ins_pos hne, List.cons_append, List.append_assoc, ← hlen, stepsL_some key, stepsL_ins base more n (t.drop 127) (by rw [List.length_drop]; omega)]
    rw [Option.map_map]
    congr 1
    funext y
    simp only [Function.comp_apply]
    rw [← List.append_assoc, List.take_append_drop]
/-- What is made is applied to it. -/
theorem stepsL_mkS (base : Bs) (hb : base.length ≤ 1099511627776) : ∀ (n : Nat) (off left : Bs), left.length ≤ n → stepsL base (mkS base off left) = some (off ++ left)
  | n, off, [], _ => by
    have := stepsL_ins base [] off.length off (Nat.le_refl _)
    rw [List.append_nil] at this
    rw [mkS_nil, this, stepsL_nil]; rfl
  | 0, off, x :: left, h => by simp at h
  | n + 1, off, x :: left, h => by
    by_cases h5 : (lng base (x :: left)).2 < 5
    · rw [mkS_lo (by simp) h5, stepsL_mkS base hb n _ _ (by simp at h ⊢; omega)]
      simp
    · have hin := lng_in base (x :: left)
      have hs := lng_says base (x :: left)
      rw [mkS_hi (by omega), stepsL_ins base _ off.length off (Nat.le_refl _), stepsL_some (stepL_copy (by omega) (by omega) |>.trans (if_neg (by omega))), stepsL_mkS base hb n _ _ (by rw [List.length_drop]; omega), hs]
      simp [List.take_append_drop]
theorem apply_make {base text : Bs} (hb : base.length ≤ 1099511627776) (ht : text.length ≤ 1099511627776) : applyL base (makeL base text) = some text := by
  unfold applyL makeL
  rw [List.append_assoc, getL_put hb]
  simp only
  rw [if_neg (by simp), List.drop_left, getL_put ht]
  simp only
  rw [List.drop_left, stepsL_mkS base hb text.length [] text (Nat.le_refl _)]
  simp

/-- A step makes something. -/
theorem stepL_pos {base b p r : Bs} (h : stepL base b = some (p, r)) : 0 < p.length := by
  cases b with
  | nil => cases h
  | cons c b =>
    rw [stepL] at h
    split at h
    · split at h
      · cases h
      · split at h
        · cases h
        · split at h
          · cases h
          · simp only [Option.some.injEq, Prod.mk.injEq] at h
            rw [← h.1]; simp; omega
    · split at h
      · cases h
      · rename_i hc
        simp only [Option.some.injEq, Prod.mk.injEq] at h
        rw [← h.1]
        have : c.toNat ≠ 0 := fun e => hc (.inl (UInt8.toNat_inj.1 e))
        simp; omega
/-- A number is read of its own bytes alike, whatever comes behind. -/
theorem getG_more : ∀ (f i acc : Nat) (l m : Bs) (x : Nat × Nat), getG f i acc l = some x → getG f i acc (l ++ m) = some x
  | 0, _, _, _, _, _, h => by cases h
  | _ + 1, _, _, [], _, _, h => by cases h
  | f + 1, i, acc, c :: l, m, x, h => by
    rw [List.cons_append]
    rw [getG] at h ⊢
    split
    · rename_i h1; rw [if_pos h1] at h; exact getG_more f (i + 1) _ l m x h
    · rename_i h1; rw [if_neg h1] at h; exact h
theorem getL_more {l : Bs} {x : Nat × Nat} (h : getL l = some x) (m : Bs) : getL (l ++ m) = some x := getG_more 6 0 0 l m x h
theorem stepL_more {base b p r : Bs} (h : stepL base b = some (p, r)) (m : Bs) : stepL base (b ++ m) = some (p, r ++ m) := by
  cases b with
  | nil => cases h
  | cons c b =>
    rw [List.cons_append]
    rw [stepL] at h ⊢
    split
    · rename_i hc
      rw [if_pos hc] at h
      split at h
      · cases h
      · rename_i f k hg
        have hk := (getL_some hg).2.2.1
        rw [getL_more hg]
        simp only
        rw [List.drop_append_of_le_length hk]
        split at h
        · cases h
        · rename_i n j hg2
          have hj := (getL_some hg2).2.2.1
          rw [getL_more hg2]
          simp only
          rw [List.drop_append_of_le_length hj]
          split at h
          · cases h
          · rename_i hn
            rw [if_neg hn]
            simp only [Option.some.injEq, Prod.mk.injEq] at h ⊢
            exact ⟨h.1, by rw [h.2]⟩
    · rename_i hc
      rw [if_neg hc] at h
      split at h
      · cases h
      · rename_i hn
        have hl : c.toNat ≤ b.length := Nat.le_of_not_lt fun hlt => hn (.inr (.inr hlt))
        rw [if_neg (by rw [List.length_append]; rintro (h1 | h1 | h1); exact hn (.inl h1); exact hn (.inr (.inl h1)); omega)]
        simp only [Option.some.injEq, Prod.mk.injEq] at h ⊢
        exact ⟨by rw [List.take_append_of_le_length hl]; exact h.1, by rw [List.drop_append_of_le_length hl, h.2]⟩
/-- Steps with something behind make what they made, and what that makes. -/
theorem stepsL_more (base m : Bs) : ∀ (n : Nat) (b t : Bs), b.length ≤ n → stepsL base b = some t → stepsL base (b ++ m) = (stepsL base m).map (t ++ ·)
  | n, [], t, _, h => by rw [stepsL_nil] at h; cases h; simp
  | 0, x :: b, t, hl, _ => by simp at hl
  | n + 1, x :: b, t, hl, h => by
    cases hs : stepL base (x :: b) with
    | none => rw [stepsL_none (by simp) hs] at h; cases h
    | some y =>
      obtain ⟨p, r⟩ := y
      rw [stepsL_some hs] at h
      cases hr : stepsL base r with
      | none => rw [hr] at h; cases h
      | some u =>
        rw [hr] at h
        cases h
        rw [stepsL_some (stepL_more hs m), stepsL_more base m n r u (by have := stepL_less hs; omega) hr, Option.map_map]
        congr 1
        funext y
        simp
theorem stepsL_pos {base b t : Bs} (hb : b ≠ []) (h : stepsL base b = some t) : 0 < t.length := by
  cases hs : stepL base b with
  | none => rw [stepsL_none hb hs] at h; cases h
  | some y =>
    obtain ⟨p, r⟩ := y
    rw [stepsL_some hs] at h
    cases hr : stepsL base r with
    | none => rw [hr] at h; cases h
    | some u =>
      rw [hr] at h
      cases h
      have := stepL_pos hs
      simp only [List.length_append]
      omega
theorem stepsL_one (base : Bs) (c : UInt8) : stepsL base [c] = none := by
  refine stepsL_none (by simp) ?_
  rw [stepL]
  split
  · rfl
  · rw [if_pos]
    by_cases h : c = 0
    · exact .inl h
    · right; right
      have : c.toNat ≠ 0 := fun e => h (UInt8.toNat_inj.1 e)
      simp; omega
/-- The steps of a delta that is none, when there are fewer or more. -/
theorem applyL_head {base : Bs} {n len : Nat} (hn : n ≤ 1099511627776) (hl : len ≤ 1099511627776) (b : Bs) : applyL base ((putL n ++ putL len) ++ b) = if n ≠ base.length then none else match stepsL base b with | none => none | some t => if t.length = len then some t else none := by
  unfold applyL
  rw [List.append_assoc, getL_put hn]
  simp only
  split
  · rfl
  · rw [List.drop_left, getL_put hl]
    simp only
    rw [List.drop_left]
theorem apply_more {base text : Bs} (hb : base.length ≤ 1099511627776) (ht : text.length ≤ 1099511627776) (c : UInt8) : applyL base (makeL base text ++ [c]) = none := by
  unfold makeL
  rw [List.append_assoc, applyL_head hb ht, if_neg (by simp), stepsL_more base [c] _ _ _ (Nat.le_refl _) (stepsL_mkS base hb _ [] text (Nat.le_refl _)), stepsL_one]
  rfl
theorem apply_cut {base text : Bs} (hb : base.length ≤ 1099511627776) (ht : text.length ≤ 1099511627776) {k : Nat} (hk : k < (makeL base text).length) : applyL base ((makeL base text).take k) = none := by
  unfold makeL at hk ⊢
  rw [List.length_append, List.length_append] at hk
  by_cases h1 : k < (putL base.length).length
  · rw [List.take_append_of_le_length (by rw [List.length_append]; omega), List.take_append_of_le_length (by omega)]
    unfold applyL
    rw [getL_cut _ _ h1]
  · by_cases h2 : k < (putL base.length).length + (putL text.length).length
    · obtain ⟨j, rfl⟩ : ∃ j, k = (putL base.length).length + j := ⟨k - (putL base.length).length, by omega⟩
      rw [List.take_append_of_le_length (by rw [List.length_append]; omega), List.take_length_add_append]
      unfold applyL
      rw [getL_put hb]
      simp only
      rw [if_neg (by simp), List.drop_left, getL_cut _ _ (by omega)]
    · obtain ⟨j, rfl⟩ : ∃ j, k = (putL base.length ++ putL text.length).length + j := ⟨k - (putL base.length ++ putL text.length).length, by rw [List.length_append]; omega⟩
      rw [List.take_length_add_append, applyL_head hb ht, if_neg (by simp)]
      have hall := stepsL_mkS base hb _ [] text (Nat.le_refl _)
      obtain ⟨b, hbd⟩ : ∃ b, b = mkS base [] text := ⟨_, rfl⟩
      rw [← hbd] at hall hk ⊢
      cases hs : stepsL base (b.take j) with
      | none => rfl
      | some t =>
        simp only
        rw [if_neg]
        intro he
        have h3 := stepsL_more base (b.drop j) _ _ _ (Nat.le_refl _) hs
        rw [List.take_append_drop, hall] at h3
        cases hd : stepsL base (b.drop j) with
        | none => rw [hd] at h3; cases h3
        | some u =>
          rw [hd] at h3
          have h4 := stepsL_pos (by rw [Ne, List.drop_eq_nil_iff]; rw [List.length_append] at hk; omega) hd
          simp only [Option.map_some, Option.some.injEq, List.nil_append] at h3
          have h5 := congrArg List.length h3
          rw [List.length_append] at h5
          omega
theorem apply_other {base text other : Bs} (hb : base.length ≤ 1099511627776) (ht : text.length ≤ 1099511627776) (hne : other.length ≠ base.length) : applyL other (makeL base text) = none := by
  unfold makeL
  rw [applyL_head hb ht, if_pos (fun e => hne e.symm)]
/-- Of another base of the same length it makes as much. -/
theorem stepsL_same {base other : Bs} (h : other.length = base.length) : ∀ (n : Nat) (b t : Bs), b.length ≤ n → stepsL base b = some t → ∃ u, stepsL other b = some u ∧ u.length = t.length
  | n, [], t, _, hs => by rw [stepsL_nil] at hs ⊢; cases hs; exact ⟨[], rfl, rfl⟩
  | 0, x :: b, t, hl, _ => by simp at hl
  | n + 1, x :: b, t, hl, hs => by
    have key : ∀ y, stepL base (x :: b) = some y → ∃ q, stepL other (x :: b) = some (q, y.2) ∧ q.length = y.1.length := by
      rintro ⟨p, r⟩ hy
      rw [stepL] at hy ⊢
      split at hy
      · rename_i hc
        rw [if_pos hc]
        split at hy
        · cases hy
        · rename_i f k hg
          split at hy
          · cases hy
          · rename_i n j hg2
            rw [h]
            split at hy
            · cases hy
            · rename_i hn
              rw [if_neg hn]
              simp only [Option.some.injEq, Prod.mk.injEq] at hy
              exact ⟨_, by rw [← hy.2], by rw [← hy.1]; simp [h]⟩
      · rename_i hc
        rw [if_neg hc]
        split at hy
        · cases hy
        · rename_i hn
          rw [if_neg hn]
          simp only [Option.some.injEq, Prod.mk.injEq] at hy
          exact ⟨_, by rw [← hy.2], by rw [← hy.1]⟩
    cases hy : stepL base (x :: b) with
    | none => rw [stepsL_none (by simp) hy] at hs; cases hs
    | some y =>
      obtain ⟨q, h1, h2⟩ := key y hy
      obtain ⟨p, r⟩ := y
      rw [stepsL_some hy] at hs
      cases hr : stepsL base r with
      | none => rw [hr] at hs; cases hs
      | some v =>
        rw [hr] at hs
        cases hs
        obtain ⟨u, h3, h4⟩ := stepsL_same h n r v (by have := stepL_less hy; omega) hr
        exact ⟨q ++ u, by rw [stepsL_some h1]; simp only; rw [h3]; rfl, by simp only [List.length_append]; rw [h2, h4]⟩
theorem apply_like {base text other : Bs} (hb : base.length ≤ 1099511627776) (ht : text.length ≤ 1099511627776) (h : other.length = base.length) : ∃ u, applyL other (makeL base text) = some u ∧ u.length = text.length := by
  obtain ⟨u, h1, h2⟩ := stepsL_same h _ _ _ (Nat.le_refl _) (stepsL_mkS base hb _ [] text (Nat.le_refl _))
  refine ⟨u, ?_, by simpa using h2⟩
  unfold makeL
  rw [applyL_head hb ht, if_neg (by simp [h]), h1]
  simp only
  rw [if_pos (by simpa using h2)]

/-! ### One copy, and none -/
/-- What base has whole is one copy. -/
theorem lng_whole {a b text : Bs} (h : 0 < text.length) : ∃ f, f ≤ a.length ∧ lng (a ++ text ++ b) text = (f, text.length) := by
  have hle := lng_le (a ++ text ++ b) text
  have hok := lng_ok (a ++ text ++ b) text
  have h1 : text.length ≤ lcp ((a ++ text ++ b).drop a.length) text := by
    rw [List.append_assoc, List.drop_left, le_lcp]
    exact ⟨by simp, Nat.le_refl _, by rw [List.take_left, List.take_length]⟩
  have h2 := hok.le a.length (by simp; omega)
  have h3 : (lng (a ++ text ++ b) text).2 = text.length := by omega
  refine ⟨(lng (a ++ text ++ b) text).1, ?_, Prod.ext rfl h3⟩
  refine Nat.le_of_not_lt fun hlt => ?_
  have := (hok.pos (by omega)).2.2 a.length hlt
  omega
theorem make_whole {base text : Bs} {f : Nat} (h : lng base text = (f, text.length)) (h5 : 5 ≤ text.length) : makeL base text = (putL base.length ++ putL text.length) ++ (128 :: (putL f ++ putL text.length)) := by
  unfold makeL
  rw [mkS_hi (by rw [h]; exact h5), h, ins_nil]
  simp only [List.nil_append, List.drop_length]
  rw [mkS_nil, ins_nil, List.append_nil]
theorem ins_len : ∀ (n : Nat) (s : Bs), s.length ≤ n → (ins s).length = s.length + (s.length + 126) / 127
  | n, [], _ => by rw [ins_nil]; rfl
  | 0, x :: s, h => by simp at h
  | n + 1, x :: s, h => by
    obtain ⟨t, ht⟩ : ∃ t, t = x :: s := ⟨_, rfl⟩
    rw [← ht] at h ⊢
    have hne : t ≠ [] := by rw [ht]; simp
    have hpos := List.length_pos_iff.2 hne
    rw [ins_pos hne, List.length_cons, List.length_append, ins_len n (t.drop 127) (by rw [List.length_drop]; omega), List.length_take, List.length_drop]
    omega
theorem lng_nil (left : Bs) : lng [] left = (0, 0) := rfl
theorem mkS_none : ∀ (n : Nat) (off left : Bs), left.length ≤ n → mkS [] off left = ins (off ++ left)
  | n, off, [], _ => by rw [mkS_nil, List.append_nil]
  | 0, off, x :: left, h => by simp at h
  | n + 1, off, x :: left, h => by
    rw [mkS_lo (by simp) (by rw [lng_nil]; decide), mkS_none n _ _ (by simp at h ⊢; omega)]
    simp
theorem make_none (text : Bs) : (makeL [] text).length = 1 + (putL text.length).length + text.length + (text.length + 126) / 127 := by
  unfold makeL
  rw [mkS_none _ _ _ (Nat.le_refl _), List.nil_append, List.length_append, List.length_append, ins_len _ _ (Nat.le_refl _), List.length_nil, putL_lo (by decide)]
  simp only [List.length_singleton]
  omega
/-- How long steps are at most. -/
theorem mkS_len {base : Bs} (hb : base.length < 16384) : ∀ (n : Nat) (off left : Bs), left.length ≤ n → left.length < 16384 → (mkS base off left).length ≤ 2 * off.length + 2 * left.length
  | n, off, [], _, _ => by
    rw [mkS_nil, ins_len _ _ (Nat.le_refl _)]; rw [List.length_nil]; omega
  | 0, off, x :: left, h, _ => by simp at h
  | n + 1, off, x :: left, h, hs => by
    by_cases h5 : (lng base (x :: left)).2 < 5
    · rw [mkS_lo (by simp) h5]
      have := mkS_len hb n (off ++ [x]) left (by simpa using h) (by simp at hs; omega)
      simp at this ⊢
      omega
    · have hin := lng_in base (x :: left)
      have hle := lng_le base (x :: left)
      have h1 := putL_len 1 (lng base (x :: left)).1 (by omega)
      have h2 := putL_len 1 (lng base (x :: left)).2 (by omega)
      have := mkS_len hb n [] ((x :: left).drop (lng base (x :: left)).2) (by rw [List.length_drop]; omega) (by rw [List.length_drop]; omega)
      rw [mkS_hi (by omega), List.length_append, List.length_append, List.length_cons, List.length_append, ins_len _ _ (Nat.le_refl _)]
      rw [List.length_drop] at this
      simp only [List.length_nil] at this
      omega
end Go.Proofs.Ytbgnemephcbgeaa
