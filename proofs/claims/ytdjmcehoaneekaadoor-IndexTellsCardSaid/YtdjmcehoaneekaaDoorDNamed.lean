/-
  The digest: Named.
-/
import Derived.Test.YtdjmcehoaneekaaDoorDMem
import Derived.Deep.QuietTactic
import Derived.BigQuiet
import Derived.IntWalk
import Derived.Lib.IndexLaws
import Derived.Laws.Externs
import Derived.Test.YtdjmcehoaneekaaDoorBase
namespace Go.Proofs.YtdjmcehoaneekaaDoor
open Go Go.RowKit
theorem isD_int (c : UInt8) : isD c = ((decide (48 ≤ (c.toNat : Int)) && decide ((c.toNat : Int) ≤ 57)) || (decide (97 ≤ (c.toNat : Int)) && decide ((c.toNat : Int) ≤ 102))) := by
  unfold isD
  rw [Bool.eq_iff_iff]; simp [UInt8.le_iff_toNat_le]; omega
set_option maxHeartbeats 400000 in
theorem digit_any (c : UInt8) (w : World) : Calls Tryd.prog 37 #[.int .u8 (c.toNat : Int)] w fun e w' => e = .returned (.bool (isD c)) ∧ w = w' := by
  rw [isD_int]
  go_enter Tryd.func37, Tryd.ntmps37
  go_wp2
  all_goals (go_ret; refine ⟨ret_bool ?_, rfl⟩; first | rfl | (rw [Bool.eq_iff_iff]; simp; done) | (rw [Bool.eq_iff_iff]; simp; omega))
set_option maxHeartbeats 400000 in
theorem rdigit_any (c : UInt8) (hc : c < 16) (w : World) : Calls Tryd.prog 36 #[.int .u8 (c.toNat : Int)] w fun e w' => e = .returned (.int .u8 ((hexD c).toNat : Int)) ∧ w = w' := by
  have hc' : c.toNat < 16 := by simpa [UInt8.lt_iff_toNat_lt] using hc
  have hd : (hexD c).toNat = if c.toNat < 10 then 48 + c.toNat else 87 + c.toNat := by
    unfold hexD
    by_cases h : c.toNat < 10
    · rw [if_pos (by simpa [UInt8.lt_iff_toNat_lt] using h), if_pos h, UInt8.toNat_add]; simp; omega
    · rw [if_neg (by simpa [UInt8.lt_iff_toNat_lt] using h), if_neg h, UInt8.toNat_add]; simp; omega
  have HD := Lib.hid hd; clear hd hc
  by_cases h : c.toNat < 10
  · go_enter Tryd.func36, Tryd.ntmps36
    go_wp2
    go_ret
    exact ⟨ret_u8 (by rw [HD.out, if_pos h]; omega), rfl⟩
  · go_enter Tryd.func36, Tryd.ntmps36
    go_wp2
    go_ret
    exact ⟨ret_u8 (by rw [HD.out, if_neg h]; omega), rfl⟩
set_option maxHeartbeats 400000 in
theorem three_any (a b c : UInt32) (w : World) : Calls Tryd.prog 58 #[.int .u32 (a.toNat : Int), .int .u32 (b.toNat : Int), .int .u32 (c.toNat : Int)] w fun e w' => e = .returned (.int .u32 ((a ^^^ b ^^^ c).toNat : Int)) ∧ w = w' := by
  have H := Lib.hid (show bits .xor .u32 (bits .xor .u32 (a.toNat : Int) (b.toNat : Int)) (c.toNat : Int) = ((a ^^^ b ^^^ c).toNat : Int) by rw [xor32, xor32])
  go_enter Tryd.func58, Tryd.ntmps58
  go_wp2
  go_ret
  exact ⟨ret_u32 H.out, rfl⟩
theorem rotr_add (x : UInt32) (n : Nat) (h1 : 1 ≤ n) (h2 : n < 32) : rotr x (UInt32.ofNat n) = x >>> UInt32.ofNat n + x <<< UInt32.ofNat (32 - n) := by
  unfold rotr
  rw [show 32 - UInt32.ofNat n = UInt32.ofNat (32 - n) by rw [← UInt32.toNat_inj, UInt32.toNat_sub]; simp; omega]
  rw [← UInt32.toBitVec_inj, UInt32.toBitVec_or, UInt32.toBitVec_add]
  refine (BitVec.add_eq_or_of_and_eq_zero _ _ ?_).symm
  rw [UInt32.toBitVec_shiftRight, UInt32.toBitVec_shiftLeft]
  have e1 : (UInt32.ofNat n).toBitVec % 32 = BitVec.ofNat 32 n := by apply BitVec.eq_of_toNat_eq; simp; omega
  have e2 : (UInt32.ofNat (32 - n)).toBitVec % 32 = BitVec.ofNat 32 (32 - n) := by apply BitVec.eq_of_toNat_eq; simp; omega
  rw [e1, e2]
  apply BitVec.eq_of_getLsbD_eq
  intro i hi
  have hn : (BitVec.ofNat 32 n).toNat = n := by simp; omega
  have hm : (BitVec.ofNat 32 (32 - n)).toNat = 32 - n := by simp; omega
  rw [BitVec.getLsbD_and, BitVec.ushiftRight_eq', BitVec.shiftLeft_eq', hn, hm, BitVec.getLsbD_ushiftRight, BitVec.getLsbD_shiftLeft]
  by_cases h : i < 32 - n
  · simp [h]
  · have : x.toBitVec.getLsbD (n + i) = false := BitVec.getLsbD_of_ge _ _ (by omega)
    simp [this]
set_option maxHeartbeats 400000 in
theorem rturn_any (x : UInt32) (n : Nat) (h1 : 1 ≤ n) (h2 : n < 32) (w : World) :
    Calls Tryd.prog 59 #[.int .u32 (x.toNat : Int), .int .i64 (n : Int)] w fun e w' => e = .returned (.int .u32 ((rotr x (UInt32.ofNat n)).toNat : Int)) ∧ ∃ m, w' = w.drewN m := by
  have e1 : IntKind.i64.wrap (32 - (n : Int)) = ((32 - n : Nat) : Int) := by rw [IntWalk.i64_in _ (by omega)]; omega
  have p1 : 0 ≤ (n : Int) := by omega
  have p2 : 0 ≤ ((32 - n : Nat) : Int) := by omega
  have H := Lib.hid (rotr_add x n h1 h2)
  go_enter Tryd.func59, Tryd.ntmps59
  go_wp2
  go_quiet (fail)
  clear e1 p1 p2
  go_wp2
  go_ret
  refine ⟨ret_u32 ?_, nq, rfl⟩
  rw [shrP x n h2, shlP x (32 - n) (by omega), add32m, H.out]
/-- Which text, byte by byte: the digits so far. -/
theorem all_snoc (l : List UInt8) (k : Nat) (h : k < l.length) (ih : (l.take k).all isD = true) : (l.take (k + 1)).all isD = isD l[k] := by
  rw [List.take_succ_eq_append_getElem h, List.all_append, ih]; simp
theorem named_no (l : List UInt8) (k : Nat) (h : k < l.length) (hd : isD l[k] = false) : namedB l = false := by
  unfold namedB
  have : l.all isD = false := by
    rw [List.all_eq_false]; exact ⟨l[k], List.getElem_mem h, by simp [hd]⟩
  rw [this, Bool.and_false]
theorem named_yes (l : List UInt8) (h : l.length = 64) (ha : (l.take 64).all isD = true) : namedB l = true := by
  unfold namedB
  rw [← h, List.take_length] at ha
  rw [h, ha]; rfl
theorem named_len (l : List UInt8) (h : l.length ≠ 64) : namedB l = false := by
  unfold namedB
  rw [show (l.length == 64) = false by simpa using h]; rfl
set_option maxHeartbeats 400000 in
theorem Named_any (l : List UInt8) (w : World) (hl : l.length ≤ maxLen) : Calls Tryd.prog 22 #[SV l] w fun e w' => e = .returned (.bool (namedB l)) ∧ w = w' := by
  unfold maxLen at hl
  unfold SV
  by_cases h64 : l.length = 64
  · have H64 := Lib.hid h64
    have b1 : (l.length : Int) ≤ 64 := by omega
    have b2 : 64 ≤ (l.length : Int) := by omega
    have b3 : ((l.length : Int) != 64) = false := by simp [h64]
    clear h64
    go_enter Tryd.func22, Tryd.ntmps22
    go_wp2
    go_loop [9] (fun i => ∃ k : Nat, k ≤ l.length ∧ i = .int .i64 k ∧ (l.take k).all isD = true) (fun i => l.length - (intOf i).toNat)
    case atStart => exact ⟨0, Nat.zero_le _, rfl, rfl⟩
    case round =>
      obtain ⟨k, hk, rfl, hall⟩ := hrel
      by_cases hlt : k < l.length
      · have hcall := digit_any l[k] w
        have hsn := all_snoc l k hlt hall
        cases hp : isD l[k]
        · rw [hp] at hcall
          have Hno := Lib.hid (named_no l k hlt hp)
          clear hsn hp hall
          go_wp2_with fail
          refine hcall.mono ?_
          rintro e w' ⟨rfl, rfl⟩
          go_wp2
          go_ret
          exact ⟨ret_bool Hno.out.symm, rfl⟩
        · rw [hp] at hcall
          have Hsn := Lib.hid (hsn.trans hp)
          clear hsn hp hall
          go_wp2_with fail
          refine hcall.mono ?_
          rintro e w' ⟨rfl, rfl⟩
          go_wp2
          go_round
          case rel => exact ⟨k + 1, by omega, by go_num, Hsn.out⟩
          case measure => simp [intOf]; omega
      · have Hy := Lib.hid (named_yes l H64.out (by rw [List.take_of_length_le (by omega)]; rw [List.take_of_length_le (by omega)] at hall; exact hall))
        clear hall
        go_wp2
        go_ret
        exact ⟨ret_bool Hy.out.symm, rfl⟩
  · have Hn := Lib.hid (named_len l h64)
    have b3 : ((l.length : Int) != 64) = true := by simp; omega
    clear h64
    go_enter Tryd.func22, Tryd.ntmps22
    go_wp2
    go_ret
    exact ⟨ret_bool Hn.out.symm, rfl⟩
end Go.Proofs.YtdjmcehoaneekaaDoor
