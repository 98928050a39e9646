/-
  The plain side of num: a number's bytes, the number that bytes begin with.
-/
import Derived.WalkKit
namespace Go.Proofs.Ytbgnemephcbgeaa

/-- A number's bytes: its digits of base 128, the lowest first. -/
def putL (n : Nat) : List UInt8 := if h : n < 128 then [UInt8.ofNat n] else UInt8.ofNat (n % 128 + 128) :: putL (n / 128)
termination_by n
decreasing_by omega
theorem putL_lo {n : Nat} (h : n < 128) : putL n = [UInt8.ofNat n] := by rw [putL, dif_pos h]
theorem putL_hi {n : Nat} (h : 128 ≤ n) : putL n = UInt8.ofNat (n % 128 + 128) :: putL (n / 128) := by rw [putL, dif_neg (by omega)]

/-- What bytes are, behind i digits that make acc; f more may come. -/
def getG : Nat → Nat → Nat → List UInt8 → Option (Nat × Nat)
  | 0, _, _, _ => none
  | _ + 1, _, _, [] => none
  | f + 1, i, acc, c :: l =>
    if 128 ≤ c.toNat then getG f (i + 1) (acc + (c.toNat - 128) * 128 ^ i) l
    else if (c.toNat = 0 ∧ 0 < i) ∨ 1099511627776 < acc + c.toNat * 128 ^ i then none
    else some (acc + c.toNat * 128 ^ i, i + 1)
def getL (l : List UInt8) : Option (Nat × Nat) := getG 6 0 0 l

theorem putL_pos (n : Nat) : 1 ≤ (putL n).length := by
  by_cases h : n < 128
  · rw [putL_lo h]; simp
  · rw [putL_hi (by omega)]; simp
theorem putL_len : ∀ (k n : Nat), n < 128 ^ (k + 1) → (putL n).length ≤ k + 1
  | k, n, h => by
    by_cases hn : n < 128
    · rw [putL_lo hn]; simp
    · rw [putL_hi (by omega), List.length_cons]
      cases k with
      | zero => rw [Nat.pow_one] at h; omega
      | succ k =>
        rw [Nat.pow_succ] at h
        have := putL_len k (n / 128) (by omega)
        omega
theorem putL_len6 {n : Nat} (h : n ≤ 1099511627776) : (putL n).length ≤ 6 := putL_len 5 n (Nat.lt_of_le_of_lt h (by decide))
theorem putL_mono : ∀ (a b : Nat), a ≤ b → (putL a).length ≤ (putL b).length
  | a, b, h => by
    by_cases ha : a < 128
    · rw [putL_lo ha]; exact putL_pos b
    · rw [putL_hi (show 128 ≤ a by omega), putL_hi (show 128 ≤ b by omega), List.length_cons, List.length_cons]
      have := putL_mono (a / 128) (b / 128) (Nat.div_le_div_right h)
      omega
termination_by a => a
decreasing_by omega

theorem pow128 (i : Nat) : 128 ^ (i + 1) = 128 * 128 ^ i := by rw [Nat.pow_succ, Nat.mul_comm]

/-- A number's bytes, with any behind, are read as it. -/
theorem get_put : ∀ (n f i acc : Nat) (more : List UInt8), (putL n).length ≤ f → acc + n * 128 ^ i ≤ 1099511627776 → (n = 0 → i = 0) →
    getG f i acc (putL n ++ more) = some (acc + n * 128 ^ i, i + (putL n).length)
  | n, f, i, acc, more, hf, hm, h0 => by
    by_cases hn : n < 128
    · rw [putL_lo hn] at hf ⊢
      obtain ⟨f, rfl⟩ : ∃ f', f = f' + 1 := ⟨f - 1, by simp at hf; omega⟩
      have e : (UInt8.ofNat n).toNat = n := by rw [UInt8.toNat_ofNat']; omega
      rw [List.singleton_append, getG, e, if_neg (by omega), if_neg (by omega), List.length_singleton]
    · rw [putL_hi (show 128 ≤ n by omega)] at hf ⊢
      obtain ⟨f, rfl⟩ : ∃ f', f = f' + 1 := ⟨f - 1, by simp at hf; omega⟩
      have e : (UInt8.ofNat (n % 128 + 128)).toNat = n % 128 + 128 := by rw [UInt8.toNat_ofNat']; omega
      have hx : n % 128 * 128 ^ i + n / 128 * 128 ^ (i + 1) = n * 128 ^ i := by
        rw [pow128, ← Nat.mul_assoc, ← Nat.add_mul]
        congr 1; omega
      rw [List.cons_append, getG, e, if_pos (by omega), show n % 128 + 128 - 128 = n % 128 by omega,
        get_put (n / 128) f (i + 1) _ more (by simpa using hf) (by omega) (by omega), List.length_cons]
      congr 2
      · omega
      · omega
termination_by n => n
decreasing_by omega

theorem getL_put {n : Nat} (h : n ≤ 1099511627776) (more : List UInt8) : getL (putL n ++ more) = some (n, (putL n).length) := by
  unfold getL
  rw [get_put n 6 0 0 more (putL_len6 h) (by omega) (fun _ => rfl)]
  simp

/-- What is read has the bytes that it was read of. -/
theorem getG_some : ∀ (f i acc : Nat) (l : List UInt8) (n k : Nat), getG f i acc l = some (n, k) →
    n ≤ 1099511627776 ∧ i < k ∧ k ≤ i + l.length ∧ ∃ m, n = acc + m * 128 ^ i ∧ (0 < i → 0 < m) ∧ putL m = l.take (k - i)
  | 0, _, _, _, _, _, h => by cases h
  | _ + 1, _, _, [], _, _, h => by cases h
  | f + 1, i, acc, c :: l, n, k, h => by
    have hc := c.toNat_lt
    rw [getG] at h
    by_cases h1 : 128 ≤ c.toNat
    · rw [if_pos h1] at h
      obtain ⟨a1, a2, a3, m, a4, a5, a6⟩ := getG_some f (i + 1) _ l n k h
      have a5 := a5 (by omega)
      refine ⟨a1, by omega, by rw [List.length_cons]; omega, (c.toNat - 128) + 128 * m, ?_, fun _ => by omega, ?_⟩
      · rw [a4, pow128, Nat.add_mul, ← Nat.mul_assoc, Nat.mul_comm m 128]; omega
      · rw [putL_hi (by omega), show (c.toNat - 128 + 128 * m) % 128 + 128 = c.toNat by omega, show (c.toNat - 128 + 128 * m) / 128 = m by omega, a6,
          show k - i = k - (i + 1) + 1 by omega, List.take_succ_cons]
        congr 1
        exact UInt8.toNat_inj.1 (by rw [UInt8.toNat_ofNat']; omega)
    · rw [if_neg h1] at h
      by_cases h2 : (c.toNat = 0 ∧ 0 < i) ∨ 1099511627776 < acc + c.toNat * 128 ^ i
      · rw [if_pos h2] at h; cases h
      · rw [if_neg h2] at h
        simp only [Option.some.injEq, Prod.mk.injEq] at h
        obtain ⟨rfl, rfl⟩ := h
        refine ⟨by omega, by omega, by rw [List.length_cons]; omega, c.toNat, rfl, fun _ => by omega, ?_⟩
        rw [putL_lo (by omega), show i + 1 - i = 0 + 1 by omega, List.take_succ_cons, List.take_zero]
        congr 1
        exact UInt8.toNat_inj.1 (by rw [UInt8.toNat_ofNat']; omega)

theorem getL_some {l : List UInt8} {n k : Nat} (h : getL l = some (n, k)) : n ≤ 1099511627776 ∧ 1 ≤ k ∧ k ≤ l.length ∧ putL n = l.take k := by
  obtain ⟨a1, a2, a3, m, a4, _, a6⟩ := getG_some 6 0 0 l n k h
  have : n = m := by rw [a4]; simp
  subst this
  exact ⟨a1, by omega, by omega, by simpa using a6⟩

/-- A number's bytes that are cut are none's. -/
theorem getG_cut : ∀ (n f i acc j : Nat), j < (putL n).length → getG f i acc ((putL n).take j) = none
  | n, 0, i, acc, j, h => rfl
  | n, f + 1, i, acc, 0, h => by rw [List.take_zero]; rfl
  | n, f + 1, i, acc, j + 1, h => by
    by_cases hn : n < 128
    · rw [putL_lo hn] at h; simp at h
    · rw [putL_hi (show 128 ≤ n by omega)] at h ⊢
      have e : (UInt8.ofNat (n % 128 + 128)).toNat = n % 128 + 128 := by rw [UInt8.toNat_ofNat']; omega
      rw [List.take_succ_cons, getG, e, if_pos (by omega)]
      exact getG_cut (n / 128) f (i + 1) _ j (by simpa using h)
theorem getL_cut (n j : Nat) (h : j < (putL n).length) : getL ((putL n).take j) = none := getG_cut n 6 0 0 j h

theorem apart_of_le {a b : Nat} (ha : a ≤ 1099511627776) (hb : b ≤ 1099511627776) (h : (putL b).take (putL a).length = putL a) : a = b := by
  have h1 := getL_put ha ((putL b).drop (putL a).length)
  have e : putL a ++ (putL b).drop (putL a).length = putL b := by
    have := List.take_append_drop (putL a).length (putL b)
    rwa [h] at this
  have h2 := getL_put hb []
  rw [List.append_nil] at h2
  rw [e, h2] at h1
  simp only [Option.some.injEq, Prod.mk.injEq] at h1
  exact h1.1.symm
/-- Of two unlike numbers neither's bytes begin with the other one's. -/
theorem apart {a b : Nat} (ha : a ≤ 1099511627776) (hb : b ≤ 1099511627776) (m : Nat) (hm : m = min (putL a).length (putL b).length) :
    ((putL a).take m = (putL b).take m) ↔ a = b := by
  constructor
  · intro h
    rcases Nat.le_total (putL a).length (putL b).length with hl | hl
    · rw [hm, Nat.min_eq_left hl, List.take_length] at h
      exact apart_of_le ha hb h.symm
    · rw [hm, Nat.min_eq_right hl, List.take_length] at h
      exact (apart_of_le hb ha h).symm
  · rintro rfl; rfl
end Go.Proofs.Ytbgnemephcbgeaa
