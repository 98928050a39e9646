/-
  The plain side of num: decimals.
-/
import Derived.Test.YtfafndehkhgmjaaDoorPure
import Derived.Lib.ItoaNum
import Derived.Lib.Atoi
import Derived.Lib.AtoiAll
import Derived.Lib.AtoiTie
namespace Go.Proofs.YtfafndehkhgmjaaDoor
open Go.Lib

/-- The number whose decimals a text is. -/
def decL (s : List UInt8) : Option Nat :=
  match atoiAll s with
  | .ok v => if 0 ≤ v ∧ v ≤ 1099511627776 ∧ decDigits v.toNat = s then some v.toNat else none
  | _ => none

theorem dd_lo {u : Nat} (h : u < 10) : decDigits u = [UInt8.ofNat (48 + u)] := by rw [decDigits, dif_pos h]
theorem dd_hi {u : Nat} (h : 10 ≤ u) : decDigits u = decDigits (u / 10) ++ [UInt8.ofNat (48 + u % 10)] := by rw [decDigits, dif_neg (by omega)]
theorem dd_pos (u : Nat) : 1 ≤ (decDigits u).length := by rw [decDigits_length]; exact nDigits_pos u

theorem nd_len : ∀ (k u : Nat), u < 10 ^ (k + 1) → nDigits u ≤ k + 1
  | k, u, h => by
    by_cases hu : u < 10
    · rw [nDigits_small hu]; omega
    · rw [nDigits_big hu]
      cases k with
      | zero => rw [Nat.pow_one] at h; omega
      | succ k =>
        rw [Nat.pow_succ] at h
        have := nd_len k (u / 10) (by omega)
        omega
theorem dd_13 {u : Nat} (h : u ≤ 1099511627776) : (decDigits u).length ≤ 13 := by
  rw [decDigits_length]; exact nd_len 12 u (Nat.lt_of_le_of_lt h (by decide))
theorem nd_mono : ∀ (a b : Nat), a ≤ b → nDigits a ≤ nDigits b
  | a, b, h => by
    by_cases ha : a < 10
    · rw [nDigits_small ha]; exact nDigits_pos b
    · rw [nDigits_big ha, nDigits_big (show ¬ b < 10 by omega)]
      have := nd_mono (a / 10) (b / 10) (Nat.div_le_div_right h)
      omega
termination_by a => a
decreasing_by omega

theorem decFrom_snoc (c : UInt8) : ∀ (l : List UInt8) (acc : Nat), decFrom acc (l ++ [c]) = (decFrom acc l).bind fun n => (digitVal c).map fun d => n * 10 + d
  | [], acc => by
    simp only [List.nil_append, decFrom]
    cases digitVal c <;> rfl
  | b :: l, acc => by
    simp only [List.cons_append, decFrom]
    cases digitVal b with
    | none => rfl
    | some d => exact decFrom_snoc c l _

theorem dv_of {d : Nat} (h : d < 10) : digitVal (UInt8.ofNat (48 + d)) = some d := by
  have e : (UInt8.ofNat (48 + d)).toNat = 48 + d := by rw [UInt8.toNat_ofNat']; omega
  unfold digitVal
  rw [e, if_pos (by omega), Nat.add_sub_cancel_left]

theorem dec_dd (n : Nat) : decFrom 0 (decDigits n) = some n := by
  by_cases h : n < 10
  · rw [dd_lo h, ← List.nil_append [UInt8.ofNat (48 + n)], decFrom_snoc, dv_of h]
    simp [decFrom]
  · rw [dd_hi (by omega), decFrom_snoc, dec_dd (n / 10), dv_of (show n % 10 < 10 by omega)]
    simp only [Option.bind_some, Option.map_some, Option.some.injEq]
    omega
termination_by n
decreasing_by omega

theorem dd_digit : ∀ (n : Nat), ∀ c ∈ decDigits n, 48 ≤ c.toNat ∧ c.toNat ≤ 57
  | n, c, hc => by
    by_cases h : n < 10
    · rw [dd_lo h] at hc
      have : c = UInt8.ofNat (48 + n) := by simpa using hc
      rw [this, UInt8.toNat_ofNat']; omega
    · rw [dd_hi (by omega)] at hc
      rcases List.mem_append.1 hc with hc | hc
      · exact dd_digit (n / 10) c hc
      · have : c = UInt8.ofNat (48 + n % 10) := by simpa using hc
        rw [this, UInt8.toNat_ofNat']; omega
termination_by n => n
decreasing_by omega

/-- No nought stands ahead. -/
theorem dd_head : ∀ (n : Nat), 0 < n → ∃ c t, decDigits n = c :: t ∧ 49 ≤ c.toNat
  | n, hn => by
    by_cases h : n < 10
    · refine ⟨_, [], dd_lo h, ?_⟩
      rw [UInt8.toNat_ofNat']; omega
    · obtain ⟨c, t, e, hc⟩ := dd_head (n / 10) (by omega)
      exact ⟨c, t ++ [UInt8.ofNat (48 + n % 10)], by rw [dd_hi (by omega), e]; rfl, hc⟩
termination_by n => n
decreasing_by omega
theorem dd_zero : decDigits 0 = [48] := by rw [dd_lo (by omega)]; rfl

theorem dec_pos_of : ∀ (l : List UInt8) (acc n : Nat), decFrom acc l = some n → 0 < acc → 0 < n
  | [], acc, n, h, h0 => by simp only [decFrom, Option.some.injEq] at h; omega
  | b :: l, acc, n, h, h0 => by
    simp only [decFrom] at h
    cases hd : digitVal b with
    | none => rw [hd] at h; cases h
    | some d => rw [hd] at h; exact dec_pos_of l _ n h (by omega)

/-- A text of digits without a nought ahead is its number's decimals. -/
theorem dd_dec : ∀ (m : Nat) (l : List UInt8) (n : Nat), l.length = m → l ≠ [] → (1 < l.length → l.head? ≠ some 48) → decFrom 0 l = some n → decDigits n = l
  | 0, l, n, hm, hne, _, _ => absurd (List.length_eq_zero_iff.1 hm) hne
  | m + 1, l, n, hm, hne, hh, hd => by
    obtain ⟨t, c, rfl⟩ : ∃ t c, l = t ++ [c] := ⟨l.dropLast, l.getLast hne, (List.dropLast_concat_getLast hne).symm⟩
    rw [decFrom_snoc] at hd
    cases ht : decFrom 0 t with
    | none => rw [ht] at hd; cases hd
    | some n' =>
      rw [ht] at hd
      cases hc : digitVal c with
      | none => rw [hc] at hd; cases hd
      | some d =>
        rw [hc] at hd
        simp only [Option.bind_some, Option.map_some, Option.some.injEq] at hd
        obtain ⟨c1, c2, c3⟩ := digitVal_eq hc
        have ec : UInt8.ofNat (48 + d) = c := UInt8.toNat_inj.1 (by rw [UInt8.toNat_ofNat']; omega)
        by_cases ht0 : t = []
        · subst ht0
          simp only [decFrom, Option.some.injEq] at ht
          rw [List.nil_append, dd_lo (by omega), ← ec, show n = d by omega]
        · obtain ⟨a, r, rfl⟩ := List.exists_cons_of_ne_nil ht0
          have ha : a ≠ 48 := fun e => hh (by simp) (by rw [e]; rfl)
          have hp : 0 < n' := by
            simp only [decFrom] at ht
            cases hda : digitVal a with
            | none => rw [hda] at ht; cases ht
            | some e =>
              rw [hda] at ht
              obtain ⟨a1, a2, a3⟩ := digitVal_eq hda
              have : a.toNat ≠ 48 := fun h => ha (UInt8.toNat_inj.1 h)
              exact dec_pos_of r _ n' ht (by omega)
          have ih := dd_dec m (a :: r) n' (by simpa using hm) (by simp) (fun _ => by simpa using ha) ht
          rw [dd_hi (by omega), show n / 10 = n' by omega, show n % 10 = d by omega, ih, ec]

theorem atoi_dd {n : Nat} (h : n ≤ 1099511627776) : atoiAll (decDigits n) = .ok (n : Int) := by
  rw [atoiAll_short _ (by have := dd_13 h; omega)]
  obtain ⟨c, t, e⟩ := List.exists_cons_of_ne_nil (l := decDigits n) (fun e => by have := dd_pos n; rw [e] at this; simp at this)
  have hc := dd_digit n c (by rw [e]; simp)
  have h45 : (c == 45) = false := by
    rw [beq_eq_false_iff_ne]; rintro rfl; exact absurd hc.1 (by decide)
  have h43 : (c == 43) = false := by
    rw [beq_eq_false_iff_ne]; rintro rfl; exact absurd hc.1 (by decide)
  have hn : decNat (c :: t) = some n := by
    unfold decNat
    rw [if_neg (by simp), ← e]; exact dec_dd n
  rw [e, atoi, if_neg (by rw [h45]; decide), if_neg (by rw [h43]; decide), hn]
  rfl

theorem decL_some {s : List UInt8} {n : Nat} (h : decL s = some n) : n ≤ 1099511627776 ∧ decDigits n = s := by
  unfold decL at h
  split at h
  · split at h
    · rename_i hv
      have : n = _ := (Option.some.inj h).symm
      rw [this]
      exact ⟨by omega, hv.2.2⟩
    · cases h
  · cases h
theorem decL_dd {n : Nat} (h : n ≤ 1099511627776) : decL (decDigits n) = some n := by
  unfold decL
  rw [atoi_dd h]
  have e : ((n : Int)).toNat = n := Int.toNat_natCast n
  show (if 0 ≤ (n : Int) ∧ (n : Int) ≤ 1099511627776 ∧ decDigits (n : Int).toNat = decDigits n then some (n : Int).toNat else none) = some n
  rw [e, if_pos ⟨by omega, by omega, rfl⟩]
theorem decL_none {s : List UInt8} (h : ∀ n, n ≤ 1099511627776 → decDigits n ≠ s) : decL s = none := by
  cases hd : decL s with
  | none => rfl
  | some n => exact absurd (decL_some hd).2 (h n (decL_some hd).1)

/-- What the document's reader finds. -/
theorem decL_len0 : decL [] = none := decL_none fun n _ e => by have := dd_pos n; rw [e] at this; simp at this
theorem decL_long {s : List UInt8} (h : 13 < s.length) : decL s = none := decL_none fun n hn e => by have := dd_13 hn; rw [e] at this; omega
theorem decL_nought {s : List UInt8} (h : 1 < s.length) (h0 : s.head? = some 48) : decL s = none := decL_none fun n _ e => by
  by_cases hz : n = 0
  · subst hz; rw [← e, dd_zero] at h; simp at h
  · obtain ⟨c, t, e2, hc⟩ := dd_head n (by omega)
    rw [← e, e2] at h0
    have : c = 48 := by simpa using h0
    rw [this] at hc; exact absurd hc (by decide)
theorem decL_other {s : List UInt8} (c : UInt8) (hc : c ∈ s) (h : ¬ (48 ≤ c.toNat ∧ c.toNat ≤ 57)) : decL s = none := decL_none fun n _ e => h (dd_digit n c (by rw [e]; exact hc))
theorem decL_num {s : List UInt8} {n : Nat} (h0 : s ≠ []) (h1 : 1 < s.length → s.head? ≠ some 48) (h : decFrom 0 s = some n) : decL s = if n ≤ 1099511627776 then some n else none := by
  have e := dd_dec _ s n rfl h0 h1 h
  by_cases hn : n ≤ 1099511627776
  · rw [if_pos hn, ← e]; exact decL_dd hn
  · rw [if_neg hn]
    refine decL_none fun m hm e2 => ?_
    have := dec_dd m
    rw [e2, h] at this
    have := Option.some.inj this
    omega

/-- One digit more. -/
theorem decL_snoc {a : Nat} (ha : a < 4294967296) (c : UInt8) : decL (decDigits a ++ [c]) = if (48 ≤ c.toNat ∧ c.toNat ≤ 57) ∧ 0 < a then some (a * 10 + (c.toNat - 48)) else none := by
  by_cases hc : 48 ≤ c.toNat ∧ c.toNat ≤ 57
  · by_cases h0 : 0 < a
    · rw [if_pos ⟨hc, h0⟩]
      have : decDigits a ++ [c] = decDigits (a * 10 + (c.toNat - 48)) := by
        rw [dd_hi (u := a * 10 + (c.toNat - 48)) (by omega), show (a * 10 + (c.toNat - 48)) / 10 = a by omega, show (a * 10 + (c.toNat - 48)) % 10 = c.toNat - 48 by omega]
        congr 2
        exact UInt8.toNat_inj.1 (by rw [UInt8.toNat_ofNat']; omega)
      rw [this]
      exact decL_dd (by omega)
    · rw [if_neg (by omega), show a = 0 by omega, dd_zero]
      exact decL_nought (by simp) rfl
  · rw [if_neg (fun h => hc h.1)]
    exact decL_other c (by simp) hc
theorem decL_nought_dd (a : Nat) : decL (48 :: decDigits a) = none := decL_nought (by have := dd_pos a; rw [List.length_cons]; omega) rfl
end Go.Proofs.YtfafndehkhgmjaaDoor
