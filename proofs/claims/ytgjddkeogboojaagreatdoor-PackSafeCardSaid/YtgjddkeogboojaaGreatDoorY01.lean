/-
  A row of bytes as ways from a first state, by a byte each: what makes such a graph right, and that it stays so when a byte comes behind. The graph of a text with a byte more, step by step. The plain side of num: a number's bytes, the number that bytes begin with. Deltas: what is made, and what is made of it. The plain side of layer 2. Plain: what names come to. Plain: a pack's entries, their byt
-/
import Derived.WalkKit
import Derived.Lib.Hide
set_option maxHeartbeats 16000000
set_option maxRecDepth 100000
namespace Go.Proofs.YtgjddkeogboojaaGreatDoor
theorem zh {p : Prop} (h : p) : Go.RowKit.Hid p := Lib.hid h
theorem zl {n : Nat} : n ≤ n := Nat.le_refl n
theorem zx {α : Sort _} (a : α) : ∃ x, x = a := ⟨a, rfl⟩
abbrev zB := List UInt8
theorem zg {α : Type _} {l : List α} {i : Nat} {a : α} : l.getD i a = (l[i]?).getD a := List.getD_eq_getElem?_getD
theorem zj {α : Type _} {l : List α} {i : Nat} (h : i < l.length) : l[i]? = some l[i] := List.getElem?_eq_getElem h
end Go.Proofs.YtgjddkeogboojaaGreatDoor
namespace Go.Proofs.YtgjddkeogboojaaGreatDoor.Dl
abbrev Bs := zB
def putL (n : Nat) : zB := if h : n < 128 then [UInt8.ofNat n] else UInt8.ofNat (n % 128 + 128) :: putL (n / 128)
termination_by n
decreasing_by omega
theorem z8m {n : Nat} (h : n < 128) : putL n = [UInt8.ofNat n] := by rw [putL, dif_pos h]
theorem z8n {n : Nat} (h : 128 ≤ n) : putL n = UInt8.ofNat (n % 128 + 128) :: putL (n / 128) := by rw [putL, dif_neg (by omega)]
def getG : Nat → Nat → Nat → zB → Option (Nat × Nat)
 | 0, _, _, _ => none
 | _ + 1, _, _, [] => none
 | f + 1, i, acc, c :: l =>
   if 128 ≤ c.toNat then getG f (i + 1) (acc + (c.toNat - 128) * 128 ^ i) l
   else if (c.toNat = 0 ∧ 0 < i) ∨ 1099511627776 < acc + c.toNat * 128 ^ i then none
   else some (acc + c.toNat * 128 ^ i, i + 1)
def getL (l : zB) : Option (Nat × Nat) := getG 6 0 0 l
theorem z84 : ∀ (k n : Nat), n < 128 ^ (k + 1) → (putL n).length ≤ k + 1
 | k, n, h => by
   by_cases hn : n < 128
   · rw [z8m hn]; simp
   · rw [z8n (by omega), List.length_cons];cases k with
     | zero => rw [Nat.pow_one] at h; omega
     | succ k =>
       rw [Nat.pow_succ] at h;have := z84 k (n / 128) (by omega);omega
theorem putL_len6 {n : Nat} (h : n ≤ 1099511627776) : (putL n).length ≤ 6 := z84 5 n (Nat.lt_of_le_of_lt h (by decide))
theorem zk0 (i : Nat) : 128 ^ (i + 1) = 128 * 128 ^ i := by rw [Nat.pow_succ, Nat.mul_comm]
theorem get_put : ∀ (n f i acc : Nat) (more : zB), (putL n).length ≤ f → acc + n * 128 ^ i ≤ 1099511627776 → (n = 0 → i = 0) →
 getG f i acc (putL n ++ more) = some (acc + n * 128 ^ i, i + (putL n).length)
 | n, f, i, acc, more, hf, hm, h0 => by
   by_cases hn : n < 128
   · rw [z8m hn] at hf ⊢;obtain ⟨f, rfl⟩ : ∃ f', f = f' + 1 := ⟨f - 1, by simp at hf; omega⟩
     have e : (UInt8.ofNat n).toNat = n := by rw [UInt8.toNat_ofNat']; omega
     rw [List.singleton_append, getG, e, if_neg (by omega), if_neg (by omega), List.length_singleton]
   · rw [z8n (show 128 ≤ n by omega)] at hf ⊢;obtain ⟨f, rfl⟩ : ∃ f', f = f' + 1 := ⟨f - 1, by simp at hf; omega⟩
     have e : (UInt8.ofNat (n % 128 + 128)).toNat = n % 128 + 128 := by rw [UInt8.toNat_ofNat']; omega
     have hx : n % 128 * 128 ^ i + n / 128 * 128 ^ (i + 1) = n * 128 ^ i := by
      rw [zk0, ← Nat.mul_assoc, ← Nat.add_mul]
      congr 1; omega
     rw [List.cons_append, getG, e, if_pos (by omega), show n % 128 + 128 - 128 = n % 128 by omega,
      get_put (n / 128) f (i + 1) _ more (by simpa using hf) (by omega) (by omega), List.length_cons]
     congr 2
     · omega
     · omega
termination_by n => n
decreasing_by omega
theorem getL_put {n : Nat} (h : n ≤ 1099511627776) (more : zB) : getL (putL n ++ more) = some (n, (putL n).length) := by
 unfold getL;rw [get_put n 6 0 0 more (putL_len6 h) (by omega) (fun _ => rfl)];simp
theorem zcd : ∀ (f i acc : Nat) (l : zB) (n k : Nat), getG f i acc l = some (n, k) →
 n ≤ 1099511627776 ∧ i < k ∧ k ≤ i + l.length ∧ ∃ m, n = acc + m * 128 ^ i ∧ (0 < i → 0 < m) ∧ putL m = l.take (k - i)
 | 0, _, _, _, _, _, h => by cases h
 | _ + 1, _, _, [], _, _, h => by cases h
 | f + 1, i, acc, c :: l, n, k, h => by
   have hc := c.toNat_lt;rw [getG] at h;by_cases h1 : 128 ≤ c.toNat
   · rw [if_pos h1] at h;obtain ⟨a1, a2, a3, m, a4, a5, a6⟩ := zcd f (i + 1) _ l n k h;have a5 := a5 (by omega);refine ⟨a1, by omega, by rw [List.length_cons]; omega, (c.toNat - 128) + 128 * m, ?_, fun _ => by omega, ?_⟩
     · rw [a4, zk0, Nat.add_mul, ← Nat.mul_assoc, Nat.mul_comm m 128]; omega
     · rw [z8n (by omega), show (c.toNat - 128 + 128 * m) % 128 + 128 = c.toNat by omega, show (c.toNat - 128 + 128 * m) / 128 = m by omega, a6,
        show k - i = k - (i + 1) + 1 by omega, List.take_succ_cons]
       congr 1
       exact UInt8.toNat_inj.1 (by rw [UInt8.toNat_ofNat']; omega)
   · rw [if_neg h1] at h;by_cases h2 : (c.toNat = 0 ∧ 0 < i) ∨ 1099511627776 < acc + c.toNat * 128 ^ i
     · rw [if_pos h2] at h; cases h
     · rw [if_neg h2] at h;simp only [Option.some.injEq, Prod.mk.injEq] at h;obtain ⟨rfl, rfl⟩ := h;refine ⟨by omega, by omega, by rw [List.length_cons]; omega, c.toNat, rfl, fun _ => by omega, ?_⟩;rw [z8m (by omega), show i + 1 - i = 0 + 1 by omega, List.take_succ_cons, List.take_zero]
       congr 1
       exact UInt8.toNat_inj.1 (by rw [UInt8.toNat_ofNat']; omega)
theorem getL_some {l : zB} {n k : Nat} (h : getL l = some (n, k)) : n ≤ 1099511627776 ∧ 1 ≤ k ∧ k ≤ l.length ∧ putL n = l.take k := by
 obtain ⟨a1, a2, a3, m, a4, _, a6⟩ := zcd 6 0 0 l n k h;have : n = m := by rw [a4]; simp
 subst this;exact ⟨a1, by omega, by omega, by simpa using a6⟩
def lcp : Bs → Bs → Nat
 | a :: x, b :: y => if a = b then lcp x y + 1 else 0
 | _, _ => 0
theorem zai : ∀ (n : Nat) (x y : Bs), n ≤ lcp x y ↔ n ≤ x.length ∧ n ≤ y.length ∧ x.take n = y.take n
 | 0, x, y => by simp
 | n + 1, [], y => by simp [lcp]
 | n + 1, a :: x, [] => by simp [lcp]
 | n + 1, a :: x, b :: y => by
   simp only [lcp, List.length_cons, List.take_succ_cons];by_cases h : a = b
   · subst h;rw [if_pos rfl, Nat.add_le_add_iff_right, zai n x y];simp
   · rw [if_neg h];simp [h]
theorem z8o (x y : Bs) : lcp x y ≤ x.length := ((zai _ x y).1 zl).1
theorem z7p (x y : Bs) : lcp x y ≤ y.length := ((zai _ x y).1 zl).2.1
structure IsLong (base left : Bs) (f n : Nat) : Prop where
 le : ∀ i, i < base.length → lcp (base.drop i) left ≤ n
 zero : n = 0 → f = 0
 pos : 0 < n → f < base.length ∧ lcp (base.drop f) left = n ∧ ∀ i, i < f → lcp (base.drop i) left < n
def rl (base left : Bs) : Nat → Nat × Nat
 | 0 => (0, 0)
 | i + 1 => if (rl base left i).2 < lcp (base.drop i) left then (i, lcp (base.drop i) left) else rl base left i
theorem rl_ok (base left : Bs) : ∀ k, k ≤ base.length → (∀ i, i < k → lcp (base.drop i) left ≤ (rl base left k).2) ∧ ((rl base left k).2 = 0 → (rl base left k).1 = 0) ∧
 (0 < (rl base left k).2 → (rl base left k).1 < k ∧ lcp (base.drop (rl base left k).1) left = (rl base left k).2 ∧ ∀ i, i < (rl base left k).1 → lcp (base.drop i) left < (rl base left k).2)
 | 0, _ => ⟨fun i h => by omega, fun _ => rfl, fun h => by simp [rl] at h⟩
 | k + 1, hk => by
   obtain ⟨h1, h2, h3⟩ := rl_ok base left k (by omega);simp only [rl];split
   · rename_i h;refine ⟨fun i hi => ?_, fun h0 => by simp only at h0; omega, fun _ => ⟨by simp only; omega, rfl, fun i hi => ?_⟩⟩
     · rcases Nat.lt_or_ge i k with hik | hik
       · have := h1 i hik; simp only; omega
       · obtain rfl : i = k := by omega
         exact Nat.le_refl _
     · have := h1 i hi; simp only; omega
   · rename_i h;refine ⟨fun i hi => ?_, h2, fun h0 => ?_⟩
     · rcases Nat.lt_or_ge i k with hik | hik
       · exact h1 i hik
       · obtain rfl : i = k := by omega
         omega
     · obtain ⟨a, b, d⟩ := h3 h0;exact ⟨by omega, b, d⟩
def lng (base left : Bs) : Nat × Nat := rl base left base.length
theorem zk1 (base left : Bs) : IsLong base left (lng base left).1 (lng base left).2 := by
 obtain ⟨h1, h2, h3⟩ := rl_ok base left base.length zl;exact ⟨h1, h2, h3⟩
theorem zk2 (base left : Bs) : (lng base left).2 ≤ left.length := by
 have h := zk1 base left;rcases Nat.eq_zero_or_pos (lng base left).2 with h0 | h0
 · omega
 · obtain ⟨_, h2, _⟩ := h.pos h0;rw [← h2]; exact z7p _ _
theorem zk3 (base left : Bs) : (lng base left).1 + (lng base left).2 ≤ base.length := by
 have h := zk1 base left;rcases Nat.eq_zero_or_pos (lng base left).2 with h0 | h0
 · rw [h.zero h0, h0]; omega
 · obtain ⟨h1, h2, _⟩ := h.pos h0;have := z8o (base.drop (lng base left).1) left;rw [h2, List.length_drop] at this;omega
theorem lng_says (base left : Bs) : (base.drop (lng base left).1).take (lng base left).2 = left.take (lng base left).2 := by
 have h := zk1 base left;rcases Nat.eq_zero_or_pos (lng base left).2 with h0 | h0
 · rw [h0]; simp
 · obtain ⟨h1, h2, _⟩ := h.pos h0;exact ((zai _ _ _).1 (Nat.le_of_eq h2.symm)).2.2
def ins (s : Bs) : Bs := if _h : s = [] then [] else UInt8.ofNat (min s.length 127) :: (s.take 127 ++ ins (s.drop 127))
termination_by s.length
decreasing_by
 have := List.length_pos_iff.2 _h;rw [List.length_drop]; omega
theorem ins_nil : ins [] = [] := by rw [ins, dif_pos rfl]
theorem zen {s : Bs} (h : s ≠ []) : ins s = UInt8.ofNat (min s.length 127) :: (s.take 127 ++ ins (s.drop 127)) := by rw [ins, dif_neg h]
def mkS (base off left : Bs) : Bs :=
 match left with
 | [] => ins off
 | x :: rest => if (lng base (x :: rest)).2 < 5 then mkS base (off ++ [x]) rest else ins off ++ ((128 :: (putL (lng base (x :: rest)).1 ++ putL (lng base (x :: rest)).2)) ++ mkS base [] ((x :: rest).drop (lng base (x :: rest)).2))
termination_by left.length
decreasing_by
 · simp
 · rw [List.length_drop, List.length_cons]; omega
theorem zeo (base off : Bs) : mkS base off [] = ins off := by rw [mkS]
theorem zk4 {base off left : Bs} (h : left ≠ []) (h5 : (lng base left).2 < 5) : mkS base off left = mkS base (off ++ left.take 1) (left.drop 1) := by
 cases left with
 | nil => exact absurd rfl h
 | cons x rest => rw [mkS, if_pos h5]; simp
theorem zk5 {base off left : Bs} (h5 : 5 ≤ (lng base left).2) : mkS base off left = ins off ++ ((128 :: (putL (lng base left).1 ++ putL (lng base left).2)) ++ mkS base [] (left.drop (lng base left).2)) := by
 cases left with
 | nil => have := zk2 base []; rw [List.length_nil] at this; omega
 | cons x rest => rw [mkS, if_neg (by omega)]
def makeL (base text : Bs) : Bs := (putL base.length ++ putL text.length) ++ mkS base [] text
def z2n (base : Bs) : Bs → Option (Bs × Bs)
 | [] => none
 | c :: r =>
   if c = 128 then
    match getL r with
    | none => none
    | some (f, k) =>
      match getL (r.drop k) with
      | none => none
      | some (n, j) => if n = 0 ∨ base.length < f + n then none else some ((base.drop f).take n, (r.drop k).drop j)
   else if c = 0 ∨ 127 < c.toNat ∨ r.length < c.toNat then none else some (r.take c.toNat, r.drop c.toNat)
theorem z71 {base b p r : Bs} (h : z2n base b = some (p, r)) : r.length < b.length := by
 cases b with
 | nil => cases h
 | cons c b =>
   rw [z2n] at h;split at h
   · split at h
     · cases h
     · split at h
       · cases h
       · split at h
         · cases h
         · simp only [Option.some.injEq, Prod.mk.injEq] at h;rw [← h.2]; simp; omega
   · split at h
     · cases h
     · simp only [Option.some.injEq, Prod.mk.injEq] at h;rw [← h.2]; simp; omega
def z1j (base b : Bs) : Option Bs :=
 if b = [] then some [] else
  match _h : z2n base b with
  | none => none
  | some (p, r) => (z1j base r).map (p ++ ·)
termination_by b.length
decreasing_by exact z71 _h
theorem z73 (base : Bs) : z1j base [] = some [] := by rw [z1j, if_pos rfl]
theorem z8p {base b : Bs} (hb : b ≠ []) (h : z2n base b = none) : z1j base b = none := by
 rw [z1j, if_neg hb];split
 · rfl
 · rename_i h2; rw [h] at h2; cases h2
theorem z3c {base b p r : Bs} (h : z2n base b = some (p, r)) : z1j base b = (z1j base r).map (p ++ ·) := by
 rw [z1j, if_neg (by rintro rfl; cases h)];split
 · rename_i h2; rw [h] at h2; cases h2
 · rename_i h2; rw [h] at h2; cases h2; rfl
def applyL (base d : Bs) : Option Bs :=
 match getL d with
 | none => none
 | some (n, k) =>
   if n ≠ base.length then none else
   match getL (d.drop k) with
   | none => none
   | some (len, j) =>
     match z1j base ((d.drop k).drop j) with
     | none => none
     | some t => if t.length = len then some t else none
theorem zhz {base more : Bs} {f n : Nat} (hf : f ≤ 1099511627776) (hn : n ≤ 1099511627776) : z2n base (128 :: (putL f ++ putL n) ++ more) = if n = 0 ∨ base.length < f + n then none else some ((base.drop f).take n, more) := by
 rw [List.cons_append, List.append_assoc, z2n, if_pos rfl, getL_put hf];simp only;rw [List.drop_left, getL_put hn];simp only;rw [List.drop_left]
theorem zk6 {base s more : Bs} (h0 : 0 < s.length) (h : s.length ≤ 127) : z2n base (UInt8.ofNat s.length :: (s ++ more)) = some (s, more) := by
 have e : (UInt8.ofNat s.length).toNat = s.length := by rw [UInt8.toNat_ofNat']; omega
 rw [z2n, if_neg (fun h1 => by rw [h1] at e; have : (128 : UInt8).toNat = 128 := rfl; omega), if_neg]
 · rw [e, List.take_left, List.drop_left]
 · rw [e, List.length_append];rintro (h1 | h1 | h1)
   · rw [h1] at e;have : (0 : UInt8).toNat = 0 := rfl;omega
   · omega
   · omega
theorem z74 (base more : Bs) : ∀ (n : Nat) (s : Bs), s.length ≤ n → z1j base (ins s ++ more) = (z1j base more).map (s ++ ·)
 | n, [], _ => by rw [ins_nil]; simp
 | 0, x :: s, h => by simp at h
 | n + 1, x :: s, h => by
   obtain ⟨t, ht⟩ := zx (x :: s);rw [← ht] at h ⊢;have hne : t ≠ [] := by rw [ht]; simp
   have hpos := List.length_pos_iff.2 hne;have hlen : (t.take 127).length = min t.length 127 := by rw [List.length_take, Nat.min_comm]
   have key := zk6 (base := base) (s := t.take 127) (more := ins (t.drop 127) ++ more) (by omega) (by omega);rw [zen hne, List.cons_append, List.append_assoc, ← hlen, z3c key, z74 base more n (t.drop 127) (by rw [List.length_drop]; omega)];rw [Option.map_map]
   congr 1
   funext y;simp only [Function.comp_apply];rw [← List.append_assoc, List.take_append_drop]
theorem z75 (base : Bs) (hb : base.length ≤ 1099511627776) : ∀ (n : Nat) (off left : Bs), left.length ≤ n → z1j base (mkS base off left) = some (off ++ left)
 | n, off, [], _ => by
   have := z74 base [] off.length off zl;rw [List.append_nil] at this;rw [zeo, this, z73]; rfl
 | 0, off, x :: left, h => by simp at h
 | n + 1, off, x :: left, h => by
   by_cases h5 : (lng base (x :: left)).2 < 5
   · rw [zk4 (by simp) h5, z75 base hb n _ _ (by simp at h ⊢; omega)];simp
   · have hin := zk3 base (x :: left);have hs := lng_says base (x :: left);rw [zk5 (by omega), z74 base _ off.length off zl, z3c (zhz (by omega) (by omega) |>.trans (if_neg (by omega))), z75 base hb n _ _ (by rw [List.length_drop]; omega), hs];simp [List.take_append_drop]
theorem apply_make {base text : Bs} (hb : base.length ≤ 1099511627776) (ht : text.length ≤ 1099511627776) : applyL base (makeL base text) = some text := by
 unfold applyL makeL;rw [List.append_assoc, getL_put hb];simp only;rw [if_neg (by simp), List.drop_left, getL_put ht];simp only;rw [List.drop_left, z75 base hb text.length [] text zl];simp
theorem z5y : ∀ (n : Nat) (s : Bs), s.length ≤ n → (ins s).length = s.length + (s.length + 126) / 127
 | n, [], _ => by rw [ins_nil]; rfl
 | 0, x :: s, h => by simp at h
 | n + 1, x :: s, h => by
   obtain ⟨t, ht⟩ := zx (x :: s);rw [← ht] at h ⊢;have hne : t ≠ [] := by rw [ht]; simp
   have hpos := List.length_pos_iff.2 hne;rw [zen hne, List.length_cons, List.length_append, z5y n (t.drop 127) (by rw [List.length_drop]; omega), List.length_take, List.length_drop];omega
theorem mkS_len {base : Bs} (hb : base.length < 16384) : ∀ (n : Nat) (off left : Bs), left.length ≤ n → left.length < 16384 → (mkS base off left).length ≤ 2 * off.length + 2 * left.length
 | n, off, [], _, _ => by
   rw [zeo, z5y _ _ zl]; rw [List.length_nil]; omega
 | 0, off, x :: left, h, _ => by simp at h
 | n + 1, off, x :: left, h, hs => by
   by_cases h5 : (lng base (x :: left)).2 < 5
   · rw [zk4 (by simp) h5];have := mkS_len hb n (off ++ [x]) left (by simpa using h) (by simp at hs; omega);simp at this ⊢;omega
   · have hin := zk3 base (x :: left);have hle := zk2 base (x :: left);have h1 := z84 1 (lng base (x :: left)).1 (by omega);have h2 := z84 1 (lng base (x :: left)).2 (by omega);have := mkS_len hb n [] ((x :: left).drop (lng base (x :: left)).2) (by rw [List.length_drop]; omega) (by rw [List.length_drop]; omega);rw [zk5 (by omega), List.length_append, List.length_append, List.length_cons, List.length_append, z5y _ _ zl];rw [List.length_drop] at this;simp only [List.length_nil] at this;omega
end Go.Proofs.YtgjddkeogboojaaGreatDoor.Dl
namespace Go.Proofs.YtgjddkeogboojaaGreatDoor
def rotr (x n : UInt32) : UInt32 := x >>> n ||| x <<< (32 - n)
structure V where
 a : UInt32
 b : UInt32
 c : UInt32
 d : UInt32
 e : UInt32
 f : UInt32
 g : UInt32
 h : UInt32
deriving DecidableEq
def bs0 (x : UInt32) : UInt32 := rotr x 2 ^^^ rotr x 13 ^^^ rotr x 22
def bs1 (x : UInt32) : UInt32 := rotr x 6 ^^^ rotr x 11 ^^^ rotr x 25
def ss0 (x : UInt32) : UInt32 := rotr x 7 ^^^ rotr x 18 ^^^ x >>> 3
def ss1 (x : UInt32) : UInt32 := rotr x 17 ^^^ rotr x 19 ^^^ x >>> 10
def chs (e f g : UInt32) : UInt32 := (e &&& f) ^^^ (~~~e &&& g)
def maj (a b c : UInt32) : UInt32 := (a &&& b) ^^^ (a &&& c) ^^^ (b &&& c)
def rndX (k w : UInt32) (v : V) : UInt32 := v.h + bs1 v.e + chs v.e v.f v.g + k + w
def rndY (v : V) : UInt32 := bs0 v.a + maj v.a v.b v.c
def rnd (k w : UInt32) (v : V) : V := ⟨rndX k w v + rndY v, v.a, v.b, v.c, v.d + rndX k w v, v.e, v.f, v.g⟩
def rnds (kf wf : Nat → UInt32) (v : V) : Nat → V
 | 0 => v
 | t + 1 => rnd (kf t) (wf t) (rnds kf wf v t)
def addV (v u : V) : V := ⟨v.a + u.a, v.b + u.b, v.c + u.c, v.d + u.d, v.e + u.e, v.f + u.f, v.g + u.g, v.h + u.h⟩
def z2o (m : Nat → UInt32) (t : Nat) : UInt32 :=
 if _h : t < 16 then m t else ss1 (z2o m (t - 2)) + z2o m (t - 7) + ss0 (z2o m (t - 15)) + z2o m (t - 16)
termination_by t
theorem z85 (m : Nat → UInt32) (t : Nat) (h : t < 16) : z2o m t = m t := by rw [z2o, dif_pos h]
theorem z86 (m : Nat → UInt32) (t : Nat) (h : ¬ t < 16) : z2o m t = ss1 (z2o m (t - 2)) + z2o m (t - 7) + ss0 (z2o m (t - 15)) + z2o m (t - 16) := by rw [z2o, dif_neg h]
def word (m : Nat → UInt8) (t : Nat) : UInt32 := (m (4 * t)).toUInt32 <<< 24 ||| (m (4 * t + 1)).toUInt32 <<< 16 ||| (m (4 * t + 2)).toUInt32 <<< 8 ||| (m (4 * t + 3)).toUInt32
def mixV (kf : Nat → UInt32) (v : V) (m : Nat → UInt8) : V := addV v (rnds kf (z2o (word m)) v 64)
def z2z (kf : Nat → UInt32) (v : V) (m : Nat → UInt8) : Nat → V
 | 0 => v
 | n + 1 => mixV kf (z2z kf v m n) (fun j => m (64 * n + j))
theorem zi0 {m m' : Nat → UInt8} {t : Nat} (h : ∀ j, j < 4 → m (4 * t + j) = m' (4 * t + j)) : word m t = word m' t := by
 unfold word;rw [h 1 (by omega), h 2 (by omega), h 3 (by omega)];have := h 0 (by omega);simp only [Nat.add_zero] at this;rw [this]
theorem zep {m m' : Nat → UInt32} (h : ∀ t, t < 16 → m t = m' t) (t : Nat) : z2o m t = z2o m' t := by
 induction t using Nat.strongRecOn with
 | _ t ih =>
   by_cases h16 : t < 16
   · rw [z85 _ _ h16, z85 _ _ h16, h t h16]
   · rw [z86 _ _ h16, z86 _ _ h16, ih (t - 2) (by omega), ih (t - 7) (by omega), ih (t - 15) (by omega), ih (t - 16) (by omega)]
theorem zi1 {k k' w w' : Nat → UInt32} (v : V) (n : Nat) (h : ∀ t, t < n → k t = k' t ∧ w t = w' t) : rnds k w v n = rnds k' w' v n := by
 induction n with
 | zero => rfl
 | succ n ih => rw [rnds, rnds, ih fun t ht => h t (by omega), (h n (by omega)).1, (h n (by omega)).2]
theorem zi2 {k k' : Nat → UInt32} (v : V) {m m' : Nat → UInt8} (hk : ∀ t, t < 64 → k t = k' t) (h : ∀ j, j < 64 → m j = m' j) : mixV k v m = mixV k' v m' := by
 unfold mixV;rw [zi1 v 64 (k' := k') (w' := z2o (word m')) fun t ht => ⟨hk t ht, zep (fun t ht => zi0 fun j hj => h _ (by omega)) t⟩]
theorem z8q {k k' : Nat → UInt32} (v : V) {m m' : Nat → UInt8} (n : Nat) (hk : ∀ t, t < 64 → k t = k' t) (h : ∀ j, j < 64 * n → m j = m' j) : z2z k v m n = z2z k' v m' n := by
 induction n with
 | zero => rfl
 | succ n ih => rw [z2z, z2z, ih fun j hj => h j (by omega), zi2 _ hk fun j hj => h _ (by omega)]
theorem zk7 (k : Nat → UInt32) (v : V) (m : Nat → UInt8) (n n' : Nat) : z2z k v m (n + n') = z2z k (z2z k v m n) (fun j => m (64 * n + j)) n' := by
 induction n' with
 | zero => rfl
 | succ n' ih =>
   rw [← Nat.add_assoc, z2z, ih, z2z]
   congr 1
   funext j
   congr 1
   omega
def tot (n : Nat) : Nat := (n + 8) / 64 * 64 + 64
def z4n (l : zB) (j : Nat) : UInt8 :=
 if j < l.length then l.getD j 0 else if j = l.length then 128 else if j < tot l.length - 8 then 0 else UInt8.ofNat (8 * l.length / 2 ^ (8 * (tot l.length - 1 - j)))
def KL : List UInt32 := [
 0x428a2f98, 0x71374491, 0xb5c0fbcf, 0xe9b5dba5, 0x3956c25b, 0x59f111f1, 0x923f82a4, 0xab1c5ed5,
 0xd807aa98, 0x12835b01, 0x243185be, 0x550c7dc3, 0x72be5d74, 0x80deb1fe, 0x9bdc06a7, 0xc19bf174,
 0xe49b69c1, 0xefbe4786, 0x0fc19dc6, 0x240ca1cc, 0x2de92c6f, 0x4a7484aa, 0x5cb0a9dc, 0x76f988da,
 0x983e5152, 0xa831c66d, 0xb00327c8, 0xbf597fc7, 0xc6e00bf3, 0xd5a79147, 0x06ca6351, 0x14292967,
 0x27b70a85, 0x2e1b2138, 0x4d2c6dfc, 0x53380d13, 0x650a7354, 0x766a0abb, 0x81c2c92e, 0x92722c85,
 0xa2bfe8a1, 0xa81a664b, 0xc24b8b70, 0xc76c51a3, 0xd192e819, 0xd6990624, 0xf40e3585, 0x106aa070,
 0x19a4c116, 0x1e376c08, 0x2748774c, 0x34b0bcb5, 0x391c0cb3, 0x4ed8aa4a, 0x5b9cca4f, 0x682e6ff3,
 0x748f82ee, 0x78a5636f, 0x84c87814, 0x8cc70208, 0x90befffa, 0xa4506ceb, 0xbef9a3f7, 0xc67178f2]
def HL : List UInt32 := [0x6a09e667, 0xbb67ae85, 0x3c6ef372, 0xa54ff53a, 0x510e527f, 0x9b05688c, 0x1f83d9ab, 0x5be0cd19]
def KF (t : Nat) : UInt32 := KL.getD t 0
def H0 : V := ⟨0x6a09e667, 0xbb67ae85, 0x3c6ef372, 0xa54ff53a, 0x510e527f, 0x9b05688c, 0x1f83d9ab, 0x5be0cd19⟩
def sumV (l : zB) : V := z2z KF H0 (z4n l) (tot l.length / 64)
def V.get (v : V) : Nat → UInt32
 | 0 => v.a
 | 1 => v.b
 | 2 => v.c
 | 3 => v.d
 | 4 => v.e
 | 5 => v.f
 | 6 => v.g
 | _ => v.h
def z30 (v : V) (i : Nat) : UInt8 := (v.get (i / 4) >>> UInt32.ofNat (24 - i % 4 * 8)).toUInt8
def sumL (l : zB) : zB := (List.range 32).map (z30 (sumV l))
theorem z11 (l : zB) : (sumL l).length = 32 := by simp [sumL]
def hexD (n : UInt8) : UInt8 := if n < 10 then 48 + n else 87 + n
def z3u (l : zB) : zB := (sumL l).flatMap fun c => [hexD (c / 16), hexD (c % 16)]
theorem z7q (f g : UInt8 → UInt8) (l : zB) : (l.flatMap fun c => [f c, g c]).length = 2 * l.length := by
 induction l with
 | nil => rfl
 | cons c l ih => simp only [List.flatMap_cons, List.length_append, ih, List.length_cons, List.length_nil]; omega
theorem z4u (l : zB) : (z3u l).length = 64 := by unfold z3u; rw [z7q, z11]
def isD (c : UInt8) : Bool := (48 ≤ c && c ≤ 57) || (97 ≤ c && c ≤ 102)
def z0c (l : zB) : Bool := l.length == 64 && l.all isD
abbrev Bs := zB
theorem z4v (a : Bs) : ¬ a < a := List.lt_irrefl a
theorem z76 {a b c : Bs} (h : a < b) (k : b < c) : a < c := List.lt_trans h k
theorem z33 (a b : Bs) : a < b ∨ a = b ∨ b < a := by
 rcases List.le_total a b with h | h
 · rcases List.le_iff_lt_or_eq.1 h with h | h
   · exact .inl h
   · exact .inr (.inl h)
 · rcases List.le_iff_lt_or_eq.1 h with h | h
   · exact .inr (.inr h)
   · exact .inr (.inl h.symm)
theorem zce {α : Type} [DecidableEq α] : ∀ {a b : List α}, a.Nodup → (∀ x ∈ a, x ∈ b) → a.length ≤ b.length
 | [], _, _, _ => Nat.zero_le _
 | x :: a, b, h, hs => by
   have h' := List.nodup_cons.1 h;have hx := hs x (by simp)
   have h2 := zce (b := b.erase x) h'.2 fun y hy => by
    have hne : y ≠ x := fun e => h'.1 (by rw [← e]; exact hy);exact (List.mem_erase_of_ne hne).2 (hs y (List.mem_cons_of_mem _ hy))
   rw [List.length_erase_of_mem hx] at h2;have := List.length_pos_of_mem hx;simp only [List.length_cons];omega
end Go.Proofs.YtgjddkeogboojaaGreatDoor
namespace Go.Proofs.YtgjddkeogboojaaGreatDoor.Pk
open Go.Proofs.YtgjddkeogboojaaGreatDoor
structure Ent where
 kind : Int
 back : Int
 base : Bs
 data : Bs
deriving DecidableEq
def z0p : Ent := ⟨0, 0, [], []⟩
def z3q (j : Nat) (e : Ent) : Bool :=
 if e.kind = 1 ∨ e.kind = 2 ∨ e.kind = 3 ∨ e.kind = 4 then decide (e.back = 0) && decide (e.base = [])
 else if e.kind = 6 then decide (1 ≤ e.back) && (decide (e.back ≤ (j : Int)) && decide (e.base = []))
 else if e.kind = 7 then decide (e.back = 0) && z0c e.base
 else false
def okE (j : Nat) (e : Ent) : Bool := decide (e.data.length ≤ 65536) && z3q j e
def rightL (l : List Ent) : Bool := decide (l.length ≤ 512) && (List.range l.length).all fun j => okE j (l.getD j z0p)
theorem z0h {l : List Ent} : rightL l = true ↔ l.length ≤ 512 ∧ ∀ j, j < l.length → okE j (l.getD j z0p) = true := by
 unfold rightL;rw [Bool.and_eq_true, decide_eq_true_eq, List.all_eq_true];simp only [List.mem_range]
theorem zcf {l : List Ent} {j : Nat} (hj : j < l.length) (h : okE j (l.getD j z0p) = false) : rightL l = false := by
 cases hr : rightL l with
 | false => rfl
 | true => have := (z0h.1 hr).2 j hj; rw [h] at this; cases this
theorem zeq {l : List Ent} (h : 512 < l.length) : rightL l = false := by
 cases hr : rightL l with
 | false => rfl
 | true => have := (z0h.1 hr).1; omega
inductive Fits (e : Ent) : Prop
 | whole : 1 ≤ e.kind → e.kind ≤ 4 → e.back = 0 → e.base = [] → Fits e
 | back : e.kind = 6 → 1 ≤ e.back → e.base = [] → Fits e
 | base : e.kind = 7 → e.back = 0 → z0c e.base = true → Fits e
theorem named_len {l : Bs} (h : z0c l = true) : l.length = 64 := by
 unfold z0c at h;rw [Bool.and_eq_true] at h;simpa using h.1
theorem zer {j : Nat} {e : Ent} (h : z3q j e = true) : Fits e ∧ e.back ≤ (j : Int) := by
 unfold z3q at h;split at h
 · rw [Bool.and_eq_true, decide_eq_true_eq, decide_eq_true_eq] at h;rename_i hk;exact ⟨.whole (by omega) (by omega) h.1 h.2, by omega⟩
 · split at h
   · rw [Bool.and_eq_true, Bool.and_eq_true, decide_eq_true_eq, decide_eq_true_eq, decide_eq_true_eq] at h;rename_i hk;exact ⟨.back hk h.1 h.2.2, h.2.1⟩
   · split at h
     · rw [Bool.and_eq_true, decide_eq_true_eq] at h;rename_i hk;exact ⟨.base hk h.1 h.2, by omega⟩
     · cases h
theorem z87 {j : Nat} {e : Ent} (h : okE j e = true) : e.data.length ≤ 65536 ∧ Fits e ∧ e.back ≤ (j : Int) := by
 unfold okE at h;rw [Bool.and_eq_true, decide_eq_true_eq] at h;exact ⟨h.1, zer h.2⟩
def magicL : Bs := [80, 65, 75, 83]
def entB (e : Ent) : Bs := UInt8.ofNat e.kind.toNat :: (Dl.putL e.data.length ++ ((if e.kind = 6 then Dl.putL e.back.toNat else []) ++ (e.base ++ e.data)))
def z2x (l : List Ent) : Bs := (l.map entB).flatten
def z1t (l : List Ent) : Bs := (magicL ++ Dl.putL l.length) ++ z2x l
def z23 (l : List Ent) : Bs := z1t l ++ sumL (z1t l)
theorem z3v (e : Ent) (l : List Ent) : z2x (e :: l) = entB e ++ z2x l := by unfold z2x; simp
theorem zi3 (l : List Ent) (e : Ent) : z2x (l ++ [e]) = z2x l ++ entB e := by unfold z2x; simp
def midE (c : UInt8) (r : Bs) : Option (Nat × Bs × Bs) :=
 if c = 6 then (Dl.getL r).map fun p => (p.1, [], r.drop p.2)
 else if c = 7 then if r.length < 64 then none else some (0, r.take 64, r.drop 64)
 else some (0, [], r)
def za3 : Bs → Option (Ent × Bs)
 | [] => none
 | c :: r => match Dl.getL r with
   | none => none
   | some (n, k) => match midE c (r.drop k) with
     | none => none
     | some (m, s, q) => if q.length < n then none else some (⟨(c.toNat : Int), (m : Int), s, q.take n⟩, q.drop n)
theorem z5f (c : UInt8) (r : Bs) : za3 (c :: r) = match Dl.getL r with
 | none => none
 | some (n, k) => match midE c (r.drop k) with
   | none => none
   | some (m, s, q) => if q.length < n then none else some (⟨(c.toNat : Int), (m : Int), s, q.take n⟩, q.drop n) := rfl
def z3d : Nat → Bs → Option (List Ent × Bs)
 | 0, b => some ([], b)
 | n + 1, b => match za3 b with
   | none => none
   | some (e, r) => (z3d n r).map fun p => (e :: p.1, p.2)
def z4w (a : Bs) : Option (List Ent) :=
 if a.take 4 ≠ magicL then none else match Dl.getL (a.drop 4) with
  | none => none
  | some (n, k) => match z3d n ((a.drop 4).drop k) with
    | none => none
    | some (l, r) => if r = [] ∧ rightL l = true then some l else none
def getP (b : Bs) : Option (List Ent) :=
 if b.length < 32 ∨ 262144 < b.length then none else
 match z4w (b.take (b.length - 32)) with
 | none => none
 | some l => if sumL (b.take (b.length - 32)) = b.drop (b.length - 32) then some l else none
theorem z1d (r : Bs) (k : Nat) : r.take k ++ r.drop k = r := List.take_append_drop k r
theorem six (c : UInt8) : (c.toNat : Int) = 6 ↔ c = 6 := by
 constructor
 · intro h
   have h2 : c.toNat = (6 : UInt8).toNat := by
    have : (6 : UInt8).toNat = 6 := rfl;omega
   exact UInt8.toNat_inj.1 h2
 · rintro rfl; rfl
theorem zk8 {c : UInt8} {r : Bs} {m : Nat} {s q : Bs} (h : midE c r = some (m, s, q)) :
 r = (if c = 6 then Dl.putL m else []) ++ (s ++ q) := by
 unfold midE at h;by_cases h6 : c = 6
 · rw [if_pos h6] at h ⊢;cases hg : Dl.getL r with
   | none => rw [hg] at h; cases h
   | some p =>
     rw [hg] at h;simp only [Option.map_some, Option.some.injEq, Prod.mk.injEq] at h;obtain ⟨rfl, rfl, rfl⟩ := h;have := (Dl.getL_some (n := p.1) (k := p.2) (by rw [hg])).2.2.2;rw [this, List.nil_append, z1d]
 · rw [if_neg h6] at h ⊢;by_cases h7 : c = 7
   · rw [if_pos h7] at h;split at h
     · cases h
     · simp only [Option.some.injEq, Prod.mk.injEq] at h;obtain ⟨rfl, rfl, rfl⟩ := h;rw [List.nil_append, z1d]
   · rw [if_neg h7] at h;simp only [Option.some.injEq, Prod.mk.injEq] at h;obtain ⟨rfl, rfl, rfl⟩ := h;rfl
theorem zaj {b : Bs} {e : Ent} {r : Bs} (h : za3 b = some (e, r)) : b = entB e ++ r := by
 cases b with
 | nil => cases h
 | cons c b =>
   rw [z5f] at h;cases hg : Dl.getL b with
   | none => rw [hg] at h; cases h
   | some p =>
     obtain ⟨n, k⟩ := p;rw [hg] at h;simp only at h;cases hm : midE c (b.drop k) with
     | none => rw [hm] at h; cases h
     | some p =>
       obtain ⟨m, s, q⟩ := p;rw [hm] at h;simp only at h;split at h
       · cases h
       · rename_i hq;simp only [Option.some.injEq, Prod.mk.injEq] at h;obtain ⟨rfl, rfl⟩ := h;have h1 := (Dl.getL_some hg).2.2.2;have h2 := zk8 hm;have h3 : (q.take n).length = n := by rw [List.length_take]; omega
         have e1 : UInt8.ofNat c.toNat = c := by simp
         unfold entB;simp only [six, h3, Int.toNat_natCast];rw [e1, List.cons_append, h1]
         congr 1
         rw [List.append_assoc, List.append_assoc, List.append_assoc, z1d, ← h2, z1d]
theorem zi4 {b : Bs} {e : Ent} {r : Bs} (h : za3 b = some (e, r)) : r.length < b.length := by
 have h1 := zaj h;rw [h1, List.length_append];unfold entB;simp
theorem zk9 {e : Ent} (hf : Fits e) (hd : e.data.length ≤ 65536) (hb : e.back ≤ 1099511627776) (m : Bs) : za3 (entB e ++ m) = some (e, m) := by
 obtain ⟨kd, bk, bs, dt⟩ := e;have hk : 0 ≤ kd ∧ kd < 256 := by cases hf <;> simp_all <;> omega
 have ek : ((UInt8.ofNat kd.toNat).toNat : Int) = kd := by
  rw [UInt8.toNat_ofNat'];omega
 have e6 : UInt8.ofNat kd.toNat = 6 ↔ kd = 6 := by rw [← six, ek]
 have e7 : UInt8.ofNat kd.toNat = 7 ↔ kd = 7 := by
  constructor
  · intro h;have := ek;rw [h] at this;exact this.symm
  · rintro rfl; rfl
 simp only at hd hb
 have hmid : midE (UInt8.ofNat kd.toNat) ((if kd = 6 then Dl.putL bk.toNat else []) ++ (bs ++ (dt ++ m))) = some (bk.toNat, bs, dt ++ m) := by
  unfold midE;cases hf with
  | whole h1 h2 h3 h4 =>
    simp only at h1 h2 h3 h4;rw [if_neg (by rw [e6]; omega), if_neg (by rw [e7]; omega), if_neg (by omega), h3, h4];rfl
  | back h1 h2 h3 =>
    simp only at h1 h2 h3;rw [if_pos (e6.2 h1), if_pos h1, Dl.getL_put (by omega), h3];simp
  | base h1 h2 h3 =>
    simp only at h1 h2 h3;have h64 := named_len h3;have h6 : ¬ kd = 6 := by omega
    simp only [if_neg h6, List.nil_append];rw [if_neg (by rw [e6]; omega), if_pos (e7.2 h1), if_neg (by rw [List.length_append]; omega), h2, List.take_left' h64, List.drop_left' h64];rfl
 unfold entB;simp only [List.cons_append, List.append_assoc];rw [z5f, Dl.getL_put (by omega)];simp only [List.drop_left];rw [hmid];simp only [List.length_append];rw [if_neg (by omega), List.take_left, List.drop_left, ek];have : (bk.toNat : Int) = bk := by cases hf <;> simp_all <;> omega
 rw [this]
theorem z77 : ∀ {n : Nat} {b : Bs} {l : List Ent} {r : Bs}, z3d n b = some (l, r) → l.length = n ∧ b = z2x l ++ r
 | 0, b, l, r, h => by
   unfold z3d at h;simp only [Option.some.injEq, Prod.mk.injEq] at h;obtain ⟨rfl, rfl⟩ := h;exact ⟨rfl, rfl⟩
 | n + 1, b, l, r, h => by
   unfold z3d at h;cases he : za3 b with
   | none => rw [he] at h; cases h
   | some p =>
     obtain ⟨e, q⟩ := p;rw [he] at h;simp only at h;cases hn : z3d n q with
     | none => rw [hn] at h; cases h
     | some p =>
       obtain ⟨l2, r2⟩ := p;rw [hn] at h;simp only [Option.map_some, Option.some.injEq, Prod.mk.injEq] at h;obtain ⟨rfl, rfl⟩ := h;obtain ⟨h1, h2⟩ := z77 hn;exact ⟨by simp [h1], by rw [z3v, List.append_assoc, ← h2]; exact zaj he⟩
theorem zak : ∀ (l : List Ent) (m : Bs), (∀ e ∈ l, Fits e ∧ e.data.length ≤ 65536 ∧ e.back ≤ 1099511627776) → z3d l.length (z2x l ++ m) = some (l, m)
 | [], m, _ => rfl
 | e :: l, m, h => by
   obtain ⟨h1, h2, h3⟩ := h e (by simp);rw [z3v, List.append_assoc, List.length_cons];unfold z3d;rw [zk9 h1 h2 h3];simp only;rw [zak l m fun x hx => h x (List.mem_cons_of_mem _ hx)];rfl
theorem z6c {l : List Ent} (h : rightL l = true) : ∀ e ∈ l, Fits e ∧ e.data.length ≤ 65536 ∧ e.back ≤ 1099511627776 := fun e he => by
 obtain ⟨h1, h2⟩ := z0h.1 h;obtain ⟨j, hj, rfl⟩ := List.mem_iff_getElem.1 he;have h3 := h2 j hj;rw [zg, zj hj] at h3;obtain ⟨p1, p2, p3⟩ := z87 h3;simp only [Option.getD_some] at p1 p2 p3;exact ⟨p2, p1, by omega⟩
theorem zcg {a : Bs} {l : List Ent} : z4w a = some l ↔ rightL l = true ∧ a = z1t l := by
 constructor
 · intro h;unfold z4w at h;split at h
   · cases h
   · rename_i hm;rw [ne_eq, Decidable.not_not] at hm;cases hg : Dl.getL (a.drop 4) with
     | none => rw [hg] at h; cases h
     | some p =>
       obtain ⟨n, k⟩ := p;rw [hg] at h;simp only at h;cases hr : z3d n ((a.drop 4).drop k) with
       | none => rw [hr] at h; cases h
       | some p =>
         obtain ⟨l2, r⟩ := p;rw [hr] at h;simp only at h;split at h
         · rename_i hc;obtain ⟨rfl, hc⟩ := hc;simp only [Option.some.injEq] at h;subst h;refine ⟨hc, ?_⟩;obtain ⟨h1, h2⟩ := z77 hr;have h3 := (Dl.getL_some hg).2.2.2;unfold z1t;rw [h1, h3, ← hm, List.append_assoc];rw [List.append_nil] at h2;rw [← h2, z1d, z1d]
         · cases h
 · rintro ⟨h, rfl⟩;have hl := (z0h.1 h).1;have h4 : (z1t l).take 4 = magicL := by unfold z1t; rw [List.append_assoc]; rfl
   have h5 : (z1t l).drop 4 = Dl.putL l.length ++ z2x l := by unfold z1t; rw [List.append_assoc]; rfl
   unfold z4w;rw [h4, if_neg (by simp), h5, Dl.getL_put (by omega)];simp only [List.drop_left];have := zak l [] (z6c h);rw [List.append_nil] at this;rw [this];simp [h]
theorem zgc {b : Bs} {l : List Ent} : getP b = some l ↔ rightL l = true ∧ b = z23 l ∧ b.length ≤ 262144 := by
 constructor
 · intro h;unfold getP at h;split at h
   · cases h
   · rename_i hc;cases hb : z4w (b.take (b.length - 32)) with
     | none => rw [hb] at h; cases h
     | some l2 =>
       rw [hb] at h;simp only at h;split at h
       · rename_i hs;simp only [Option.some.injEq] at h;subst h;obtain ⟨h1, h2⟩ := zcg.1 hb;refine ⟨h1, ?_, by omega⟩;unfold z23;rw [← h2, hs, z1d]
       · cases h
 · rintro ⟨h, rfl, hl⟩;have h32 := z11 (z1t l);have hlen : (z23 l).length = (z1t l).length + 32 := by unfold z23; rw [List.length_append, h32]
   have e1 : (z23 l).take ((z23 l).length - 32) = z1t l := by
    rw [hlen];unfold z23;rw [show (z1t l).length + 32 - 32 = (z1t l).length by omega, List.take_left]
   have e2 : (z23 l).drop ((z23 l).length - 32) = sumL (z1t l) := by
    rw [hlen];unfold z23;rw [show (z1t l).length + 32 - 32 = (z1t l).length by omega, List.drop_left]
   unfold getP;rw [if_neg (by omega), e1, e2, zcg.2 ⟨h, rfl⟩];simp
end Go.Proofs.YtgjddkeogboojaaGreatDoor.Pk
