/-
  Names of refs: each letter, each part.
-/
import Derived.Test.YtfnepffccenebaaGreatDoorRfP
import Derived.Test.YtfnepffccenebaaGreatDoorBase
import Derived.Test.YtfnepffccenebaaGreatDoorDNamed
namespace Go.Proofs.YtfnepffccenebaaGreatDoor.Rf
open Go.Proofs.YtfnepffccenebaaGreatDoor
open Go Go.RowKit

set_option maxHeartbeats 1000000 in
theorem partByte_any (c : UInt8) (w : World) : Calls Tryz.prog 65 #[.int .u8 (c.toNat : Int)] w fun e w' => e = .returned (.bool (partByte c)) ∧ w = w' := by
  obtain ⟨b, hb⟩ : ∃ b, b = partByte c := ⟨_, rfl⟩
  rw [← hb]
  have hI : b = ((decide (97 ≤ (c.toNat : Int)) && decide ((c.toNat : Int) ≤ 122)) || (decide (48 ≤ (c.toNat : Int)) && decide ((c.toNat : Int) ≤ 57)) || ((c.toNat : Int) == 46) || ((c.toNat : Int) == 45) || ((c.toNat : Int) == 95)) := by
    rw [hb]
    have e : ∀ n : Nat, n < 256 → (c == UInt8.ofNat n) = ((c.toNat : Int) == (n : Int)) := fun n hn => by
      rw [Bool.eq_iff_iff]; simp only [beq_iff_eq]
      constructor
      · intro h; rw [h]; simp; omega
      · intro h; apply UInt8.toNat_inj.1; simp; omega
    have e1 : (c == 46) = ((c.toNat : Int) == 46) := e 46 (by decide)
    have e2 : (c == 45) = ((c.toNat : Int) == 45) := e 45 (by decide)
    have e3 : (c == 95) = ((c.toNat : Int) == 95) := e 95 (by decide)
    show ((decide (97 ≤ c) && decide (c ≤ 122)) || (decide (48 ≤ c) && decide (c ≤ 57)) || c == 46 || c == 45 || c == 95) = _
    have d1 : decide ((97 : UInt8) ≤ c) = decide (97 ≤ (c.toNat : Int)) := by rw [decide_eq_decide, UInt8.le_iff_toNat_le]; simp; omega
    have d2 : decide (c ≤ (122 : UInt8)) = decide ((c.toNat : Int) ≤ 122) := by rw [decide_eq_decide, UInt8.le_iff_toNat_le]; simp; omega
    have d3 : decide ((48 : UInt8) ≤ c) = decide (48 ≤ (c.toNat : Int)) := by rw [decide_eq_decide, UInt8.le_iff_toNat_le]; simp; omega
    have d4 : decide (c ≤ (57 : UInt8)) = decide ((c.toNat : Int) ≤ 57) := by rw [decide_eq_decide, UInt8.le_iff_toNat_le]; simp; omega
    rw [d1, d2, d3, d4, e1, e2, e3]
  have HI := Lib.hid hI
  clear hI hb
  generalize (c.toNat : Int) = z at HI ⊢
  by_cases h1 : 97 ≤ z <;> by_cases h2 : z ≤ 122
  all_goals
    by_cases h3 : 48 ≤ z <;> by_cases h4 : z ≤ 57
    all_goals
      go_enter Tryz.func65, Tryz.ntmps65
      go_wp2
      all_goals
        go_ret
        refine ⟨ret_bool ?_, rfl⟩
        rw [HI.out, Bool.eq_iff_iff]
        simp
        try omega

theorem all_snoc' {p : UInt8 → Bool} (l : Bs) (k : Nat) (h : k < l.length) (ih : (l.take k).all p = true) : (l.take (k + 1)).all p = p l[k] := by
  rw [List.take_succ_eq_append_getElem h, List.all_append, ih]; simp
theorem part_no (l : Bs) (k : Nat) (h : k < l.length) (hd : partByte l[k] = false) : partB l = false := by
  unfold partB
  have : l.all partByte = false := by rw [List.all_eq_false]; exact ⟨l[k], List.getElem_mem h, by simp [hd]⟩
  rw [this, Bool.and_false]
theorem part_yes (l : Bs) (h1 : 1 ≤ l.length) (h2 : l.length ≤ 30) (h3 : (l.getD 0 0 == 46) = false) (ha : l.all partByte = true) : partB l = true := by
  unfold partB
  rw [ha, h3, decide_eq_true h1, decide_eq_true h2]; rfl
theorem part_lo (l : Bs) (h : ¬ 1 ≤ l.length) : partB l = false := by unfold partB; rw [decide_eq_false h]; simp
theorem part_hi (l : Bs) (h : ¬ l.length ≤ 30) : partB l = false := by unfold partB; rw [decide_eq_false h]; simp
theorem part_dot (l : Bs) (h : (l.getD 0 0 == 46) = true) : partB l = false := by unfold partB; rw [h]; simp
theorem u8_beq (c : UInt8) (n : Nat) (hn : n < 256) : ((c.toNat : Int) == (n : Int)) = (c == UInt8.ofNat n) := by
  rw [Bool.eq_iff_iff]; simp only [beq_iff_eq]
  constructor
  · intro h; apply UInt8.toNat_inj.1; simp; omega
  · intro h; rw [h]; simp; omega

set_option maxHeartbeats 1000000 in
theorem isPart_any (l : Bs) (w : World) (hl : l.length ≤ maxLen) : Calls Tryz.prog 40 #[SV l] w fun e w' => e = .returned (.bool (partB l)) ∧ w = w' := by
  unfold maxLen at hl
  unfold SV
  by_cases h1 : 1 ≤ l.length
  case neg =>
    have HB := Lib.hid (part_lo l h1)
    have hI : (l.length : Int) < 1 := by omega
    clear h1
    go_enter Tryz.func40, Tryz.ntmps40
    go_wp2
    go_ret
    exact ⟨ret_bool HB.out.symm, rfl⟩
  by_cases h2 : l.length ≤ 30
  case neg =>
    have HB := Lib.hid (part_hi l h2)
    have hI : ¬ (l.length : Int) < 1 := by omega
    have hI2 : 30 < (l.length : Int) := by omega
    clear h1 h2
    go_enter Tryz.func40, Tryz.ntmps40
    go_wp2
    go_ret
    exact ⟨ret_bool HB.out.symm, rfl⟩
  have h0 : 0 < l.length := by omega
  have e0 : l.getD 0 0 = l[0] := by rw [List.getD_eq_getElem?_getD, List.getElem?_eq_getElem h0]; rfl
  have hI : ¬ (l.length : Int) < 1 := by omega
  have hI2 : ¬ 30 < (l.length : Int) := by omega
  cases h3 : (l.getD 0 0 == 46) with
  | true =>
    have HB := Lib.hid (part_dot l h3)
    have hd : ((((⟨l.toArray⟩ : ByteArray)[0]'h0).toNat : Int) == 46) = true := by rw [e0] at h3; exact (u8_beq l[0] 46 (by decide)).trans h3
    clear h1 h2 h3 e0
    go_enter Tryz.func40, Tryz.ntmps40
    go_wp2
    go_ret
    exact ⟨ret_bool HB.out.symm, rfl⟩
  | false =>
    have HY := Lib.hid (part_yes l h1 h2 h3)
    have hd : ((((⟨l.toArray⟩ : ByteArray)[0]'h0).toNat : Int) == 46) = false := by rw [e0] at h3; exact (u8_beq l[0] 46 (by decide)).trans h3
    clear h3 e0
    go_enter Tryz.func40, Tryz.ntmps40
    go_wp2
    go_loop [3, 19] (fun _ i => ∃ k : Nat, k ≤ l.length ∧ i = .int .i64 k ∧ (l.take k).all partByte = true) (fun _ i => l.length - (intOf i).toNat)
    case atStart => exact ⟨0, Nat.zero_le _, rfl, rfl⟩
    case round =>
      obtain ⟨k, hk, rfl, hall⟩ := hrel
      clear hd
      by_cases hlt : k < l.length
      · have hcall := partByte_any l[k] w
        have hsn := all_snoc' l k hlt hall
        cases hp : partByte l[k]
        · rw [hp] at hcall
          have HB := Lib.hid (part_no l k hlt hp)
          clear hsn hp hall HY
          go_wp2_with fail
          refine hcall.mono ?_
          rintro e w' ⟨rfl, rfl⟩
          go_wp2
          go_ret
          exact ⟨ret_bool HB.out.symm, rfl⟩
        · rw [hp] at hcall
          have HS := Lib.hid (hsn.trans hp)
          clear hsn hp hall HY
          go_wp2_with fail
          refine hcall.mono ?_
          rintro e w' ⟨rfl, rfl⟩
          go_wp2
          go_round
          case rel => exact ⟨k + 1, by omega, by go_num, HS.out⟩
          case measure => simp [intOf]; omega
      · have e : k = l.length := by omega
        have HB := Lib.hid (HY.out (by rw [e, List.take_length] at hall; exact hall))
        clear hall e HY
        go_wp2
        go_ret
        exact ⟨ret_bool HB.out.symm, rfl⟩

set_option maxHeartbeats 400000 in
theorem isFirst_any (l : Bs) (w : World) : Calls Tryz.prog 39 #[SV l] w fun e w' => e = .returned (.bool (firstB l)) ∧ w = w' := by
  unfold SV
  go_enter Tryz.func39, Tryz.ntmps39
  go_wp2
  all_goals
    go_ret
    refine ⟨ret_bool ?_, rfl⟩
    unfold firstB
    first | rfl | simp_all [wHeads, wTags]

theorem above_short (a b : Bs) (h : b.length ≤ a.length) : aboveB a b = false := by
  unfold aboveB
  cases hp : List.isPrefixOf (a ++ [47]) b with
  | false => rfl
  | true =>
    have := (List.isPrefixOf_iff_prefix.1 hp).length_le
    simp at this; omega
theorem above_at (a b : Bs) (h : a.length < b.length) : aboveB a b = (b[a.length] == 47 && (b.take a.length == a)) := by
  unfold aboveB
  rw [Bool.eq_iff_iff]
  simp only [List.isPrefixOf_iff_prefix, Bool.and_eq_true, beq_iff_eq]
  constructor
  · rintro ⟨t, rfl⟩
    simp
  · rintro ⟨h1, h2⟩
    refine ⟨b.drop (a.length + 1), ?_⟩
    have e := List.take_succ_eq_append_getElem h
    rw [h1, h2] at e
    rw [← e]
    exact List.take_append_drop _ _
set_option maxHeartbeats 1000000 in
theorem above_any (a b : Bs) (w : World) : Calls Tryz.prog 43 #[SV a, SV b] w fun e w' => e = .returned (.bool (aboveB a b)) ∧ w = w' := by
  unfold SV
  by_cases h : a.length < b.length
  case neg =>
    have HB := Lib.hid (above_short a b (by omega))
    have hd : decide (a.length < b.length) = false := decide_eq_false h
    go_enter Tryz.func43, Tryz.ntmps43
    go_wp2
    go_ret
    exact ⟨ret_bool HB.out.symm, rfl⟩
  have HB := Lib.hid (above_at a b h)
  have hd : decide (a.length < b.length) = true := decide_eq_true h
  cases h4 : (b[a.length] == 47) with
  | false =>
    have hB : aboveB a b = false := by rw [HB.out, h4]; rfl
    have HB2 := Lib.hid hB
    have hd : ((((⟨b.toArray⟩ : ByteArray)[a.length]'h).toNat : Int) == 47) = false := (u8_beq b[a.length] 47 (by decide)).trans h4
    clear h4 hB HB
    go_enter Tryz.func43, Tryz.ntmps43
    go_wp2
    go_ret
    exact ⟨ret_bool HB2.out.symm, rfl⟩
  | true =>
    have HB2 : Hid (aboveB a b = (b.take a.length == a)) := Lib.hid (by rw [HB.out, h4]; rfl)
    have hd : ((((⟨b.toArray⟩ : ByteArray)[a.length]'h).toNat : Int) == 47) = true := (u8_beq b[a.length] 47 (by decide)).trans h4
    have hx : (⟨b.toArray⟩ : ByteArray).extract 0 a.length = ⟨(b.take a.length).toArray⟩ := by rw [extract_S]; rfl
    clear h4 HB
    go_enter Tryz.func43, Tryz.ntmps43
    go_wp2
    go_ret
    exact ⟨ret_bool (by rw [HB2.out]), rfl⟩
end Go.Proofs.YtfnepffccenebaaGreatDoor.Rf
