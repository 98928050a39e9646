/-
  The document's Named.
-/
import Derived.Test.YtjbagoedaelmnaaDoorNamed
namespace Go.Proofs.YtjbagoedaelmnaaDoor
open Go Go.RowKit

set_option maxHeartbeats 1000000 in
theorem RNamed_any (l : List UInt8) (w : World) (hl : l.length ≤ maxLen) : Calls Tryd.prog 15 #[SV l] w fun e w' => e = .returned (.bool (namedB l)) ∧ w = w' := by
  unfold maxLen at hl
  unfold SV
  by_cases h64 : l.length = 64
  · have H64 := Lib.hid h64
    have b1 : (l.length : Int) ≤ 64 := by omega
    have b2 : 64 ≤ (l.length : Int) := by omega
    have b3 : ((l.length : Int) != 64) = false := by simp [h64]
    clear h64
    go_enter Tryd.func15, Tryd.ntmps15
    go_wp2
    go_loop [3] (fun i => ∃ k : Nat, k ≤ l.length ∧ i = .int .i64 k ∧ (l.take k).all isD = true) (fun i => l.length - (intOf i).toNat)
    case atStart => exact ⟨0, Nat.zero_le _, rfl, rfl⟩
    case round =>
      obtain ⟨k, hk, rfl, hall⟩ := hrel
      by_cases hlt : k < l.length
      · obtain ⟨c, hc⟩ : ∃ c, c = l[k] := ⟨_, rfl⟩
        have gc : ∀ h, ((⟨l.toArray⟩ : ByteArray)[k]'h) = c := fun h => hc.symm
        have hsn := all_snoc l k hlt hall
        rw [← hc] at hsn
        have hno : isD c = false → namedB l = false := fun h => named_no l k hlt (by rw [← hc]; exact h)
        have Hno := Lib.hid hno; have Hsn := Lib.hid hsn
        have j1 : (k : Int) < 64 := by omega
        have j2 : (k : Int) < (l.length : Int) := by omega
        clear hno hsn hall hc
        have hcase : (c.toNat : Int) < 48 ∨ (48 ≤ (c.toNat : Int) ∧ (c.toNat : Int) ≤ 57) ∨ (57 < (c.toNat : Int) ∧ (c.toNat : Int) < 97) ∨ (97 ≤ (c.toNat : Int) ∧ (c.toNat : Int) ≤ 102) ∨ 102 < (c.toNat : Int) := by omega
        rcases hcase with k1 | ⟨k1, k2⟩ | ⟨k1, k2⟩ | ⟨k1, k2⟩ | k1
        · have hd : Hid (isD c = false) := Lib.hid (by rw [isD_int, Bool.eq_iff_iff]; simp; omega)
          go_wp2
          go_ret
          exact ⟨ret_bool (Hno.out hd.out).symm, rfl⟩
        · have hd : Hid (isD c = true) := Lib.hid (by rw [isD_int, Bool.eq_iff_iff]; simp; omega)
          go_wp2
          go_round
          case rel => exact ⟨k + 1, by omega, by go_num, Hsn.out.trans hd.out⟩
          case measure => simp [intOf]; omega
        · have hd : Hid (isD c = false) := Lib.hid (by rw [isD_int, Bool.eq_iff_iff]; simp; omega)
          have f1 : decide ((c.toNat : Int) ≤ 57) = false := decide_eq_false (by omega)
          go_wp2
          go_ret
          exact ⟨ret_bool (Hno.out hd.out).symm, rfl⟩
        · have hd : Hid (isD c = true) := Lib.hid (by rw [isD_int, Bool.eq_iff_iff]; simp; omega)
          go_wp2
          go_round
          case rel => exact ⟨k + 1, by omega, by go_num, Hsn.out.trans hd.out⟩
          case measure => simp [intOf]; omega
        · have hd : Hid (isD c = false) := Lib.hid (by rw [isD_int, Bool.eq_iff_iff]; simp; omega)
          have f1 : decide ((c.toNat : Int) ≤ 57) = false := decide_eq_false (by omega)
          have f2 : decide ((c.toNat : Int) ≤ 102) = false := decide_eq_false (by omega)
          go_wp2
          go_ret
          exact ⟨ret_bool (Hno.out hd.out).symm, rfl⟩
      · have Hy := Lib.hid (named_yes l H64.out (by rw [List.take_of_length_le (by omega)]; rw [List.take_of_length_le (by omega)] at hall; exact hall))
        clear hall
        go_wp2
        go_ret
        exact ⟨ret_bool Hy.out.symm, rfl⟩
  · have Hn := Lib.hid (named_len l h64)
    have b3 : ((l.length : Int) != 64) = true := by simp; omega
    clear h64
    go_enter Tryd.func15, Tryd.ntmps15
    go_wp2
    go_ret
    exact ⟨ret_bool Hn.out.symm, rfl⟩
end Go.Proofs.YtjbagoedaelmnaaDoor
