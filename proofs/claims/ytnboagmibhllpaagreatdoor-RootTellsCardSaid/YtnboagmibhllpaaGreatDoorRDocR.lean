/-
  The document's above, part, Named, Right, Put and Get.
-/
import Derived.Test.YtnboagmibhllpaaGreatDoorC20
import Derived.Lib.MinMax
import Derived.Test.YtnboagmibhllpaaGreatDoorROrdR
namespace Go.Proofs.YtnboagmibhllpaaGreatDoor.Rf
open Go.Proofs.YtnboagmibhllpaaGreatDoor
open Go Go.RowKit

/-! RDocA -/
set_option maxHeartbeats 1000000 in
theorem Rabove_any (a b : Bs) (w : World) : Calls Tryz.prog 65 #[.string ⟨a.toArray⟩, .string ⟨b.toArray⟩] w fun e w' => e = .returned (.bool (aboveB a b)) ∧ w = w' := by
  by_cases h : a.length < b.length
  case neg =>
    have HB := Lib.hid (above_short a b (by omega))
    have hd : decide (a.length < b.length) = false := decide_eq_false h
    go_enter Tryz.func65, Tryz.ntmps65
    go_wp2
    go_ret
    exact ⟨ret_bool HB.out.symm, rfl⟩
  have HB := Lib.hid (above_at a b h)
  have hd : decide (a.length < b.length) = true := decide_eq_true h
  have hx : (⟨b.toArray⟩ : ByteArray).extract 0 a.length = ⟨(b.take a.length).toArray⟩ := by rw [extract_S]; rfl
  cases ht : (b.take a.length == a) with
  | false =>
    have hB : aboveB a b = false := by rw [HB.out, ht, Bool.and_false]
    have HB2 := Lib.hid hB
    clear hB HB
    go_enter Tryz.func65, Tryz.ntmps65
    go_wp2
    go_ret
    exact ⟨ret_bool HB2.out.symm, rfl⟩
  | true =>
    cases h4 : (b[a.length] == 47) with
    | false =>
      have hB : aboveB a b = false := by rw [HB.out, h4]; rfl
      have HB2 := Lib.hid hB
      have hd : ((((⟨b.toArray⟩ : ByteArray)[a.length]'h).toNat : Int) == 47) = false := (u8_beq b[a.length] 47 (by decide)).trans h4
      clear h4 hB HB
      go_enter Tryz.func65, Tryz.ntmps65
      go_wp2
      go_ret
      exact ⟨ret_bool HB2.out.symm, rfl⟩
    | true =>
      have hB : aboveB a b = true := by rw [HB.out, h4, ht]; rfl
      have HB2 := Lib.hid hB
      have hd : ((((⟨b.toArray⟩ : ByteArray)[a.length]'h).toNat : Int) == 47) = true := (u8_beq b[a.length] 47 (by decide)).trans h4
      clear h4 hB HB
      go_enter Tryz.func65, Tryz.ntmps65
      go_wp2
      go_ret
      exact ⟨ret_bool HB2.out.symm, rfl⟩

theorem pbyte_ways (c : UInt8) (z : Int) (hz : z = (c.toNat : Int)) : (z = 46 ∨ z = 45 ∨ z = 95 ∨ (97 ≤ z ∧ z ≤ 122) ∨ (48 ≤ z ∧ z ≤ 57)) ↔ partByte c = true := by
  have e : ∀ n : Nat, n < 256 → ((c == UInt8.ofNat n) = true ↔ z = (n : Int)) := fun n hn => by
    rw [← u8_beq c n hn, beq_iff_eq, hz]
  have e1 : (c == 46) = true ↔ z = 46 := e 46 (by decide)
  have e2 : (c == 45) = true ↔ z = 45 := e 45 (by decide)
  have e3 : (c == 95) = true ↔ z = 95 := e 95 (by decide)
  have d1 : (97 : UInt8) ≤ c ↔ 97 ≤ z := by rw [UInt8.le_iff_toNat_le, hz]; simp; omega
  have d2 : c ≤ (122 : UInt8) ↔ z ≤ 122 := by rw [UInt8.le_iff_toNat_le, hz]; simp; omega
  have d3 : (48 : UInt8) ≤ c ↔ 48 ≤ z := by rw [UInt8.le_iff_toNat_le, hz]; simp; omega
  have d4 : c ≤ (57 : UInt8) ↔ z ≤ 57 := by rw [UInt8.le_iff_toNat_le, hz]; simp; omega
  unfold partByte
  simp only [Bool.or_eq_true, Bool.and_eq_true, decide_eq_true_eq, e1, e2, e3, d1, d2, d3, d4]
  constructor
  · rintro (h | h | h | h | h)
    · exact .inl (.inl (.inr h))
    · exact .inl (.inr h)
    · exact .inr h
    · exact .inl (.inl (.inl (.inl h)))
    · exact .inl (.inl (.inl (.inr h)))
  · rintro ((((h | h) | h) | h) | h)
    · exact .inr (.inr (.inr (.inl h)))
    · exact .inr (.inr (.inr (.inr h)))
    · exact .inl h
    · exact .inr (.inl h)
    · exact .inr (.inr (.inl h))
set_option maxRecDepth 100000 in
set_option maxHeartbeats 4000000 in
theorem Rpart_any (s : Bs) (w : World) (hl : s.length ≤ 1000) : Calls Tryz.prog 66 #[.string ⟨s.toArray⟩] w fun e w' => e = .returned (.bool (partB s)) ∧ w = w' := by
  go_enter Tryz.func66, Tryz.ntmps66
  go_wp2
  go_loop [3] (fun i => ∃ k : Nat, k ≤ s.length ∧ i = .int .i64 k ∧ Hid ((s.take k).all partByte = true)) (fun i => s.length - (intOf i).toNat)
  case atStart => exact ⟨0, Nat.zero_le _, rfl, Lib.hid rfl⟩
  case round =>
    obtain ⟨k, hk, rfl, hall⟩ := hrel
    by_cases hlt : k < s.length
    · obtain ⟨z, hz⟩ : ∃ z : Int, z = (s[k].toNat : Int) := ⟨_, rfl⟩
      have HLw := Lib.hid (pbyte_ways s[k] z hz)
      have hx : (((⟨s.toArray⟩ : ByteArray)[k]'hlt).toNat : Int) = z := hz.symm
      obtain ⟨L, hL⟩ : ∃ L, L = partByte s[k] := ⟨_, rfl⟩
      have HLL := Lib.hid hL
      clear hL hz
      go_upto_region 5 with fail
      clear hx
      go_cut [39] from 14 to 39 (fun v39 wx => v39 = .bool (!L) ∧ w = wx)
      case first =>
        have hways : z < 45 ∨ z = 45 ∨ z = 46 ∨ z = 47 ∨ (48 ≤ z ∧ z ≤ 57) ∨ (57 < z ∧ z < 95) ∨ z = 95 ∨ z = 96 ∨ (97 ≤ z ∧ z ≤ 122) ∨ 122 < z := by omega
        rcases hways with hw | hw | hw | hw | hw | hw | hw | hw | hw | hw
        · have HL : Hid (L = false) := Lib.hid (by
            rw [HLL.out]
            exact Bool.eq_false_iff.2 fun h => by have := HLw.out.2 h; omega)
          have k1 : (z != 46) = true := by simp; omega
          have k2 : (z != 45) = true := by simp; omega
          have k3 : (z != 95) = true := by simp; omega
          have i1 : z < 97 := by omega
          have i2 : ¬ 122 < z := by omega
          have i3 : z < 48 := by omega
          have i4 : ¬ 57 < z := by omega
          clear hw
          go_wp2
          go_meet
          case rel => exact ⟨by rw [HL.out]; rfl, rfl⟩
        · have HL : Hid (L = true) := Lib.hid (by
            rw [HLL.out]
            exact HLw.out.1 (by omega))
          have k1 : (z != 46) = true := by simp; omega
          have k2 : (z != 45) = false := by simp; omega
          have k3 : (z != 95) = true := by simp; omega
          have i1 : z < 97 := by omega
          have i2 : ¬ 122 < z := by omega
          have i3 : z < 48 := by omega
          have i4 : ¬ 57 < z := by omega
          clear hw
          go_wp2
          go_meet
          case rel => exact ⟨by rw [HL.out]; rfl, rfl⟩
        · have HL : Hid (L = true) := Lib.hid (by
            rw [HLL.out]
            exact HLw.out.1 (by omega))
          have k1 : (z != 46) = false := by simp; omega
          have k2 : (z != 45) = true := by simp; omega
          have k3 : (z != 95) = true := by simp; omega
          have i1 : z < 97 := by omega
          have i2 : ¬ 122 < z := by omega
          have i3 : z < 48 := by omega
          have i4 : ¬ 57 < z := by omega
          clear hw
          go_wp2
          go_meet
          case rel => exact ⟨by rw [HL.out]; rfl, rfl⟩
        · have HL : Hid (L = false) := Lib.hid (by
            rw [HLL.out]
            exact Bool.eq_false_iff.2 fun h => by have := HLw.out.2 h; omega)
          have k1 : (z != 46) = true := by simp; omega
          have k2 : (z != 45) = true := by simp; omega
          have k3 : (z != 95) = true := by simp; omega
          have i1 : z < 97 := by omega
          have i2 : ¬ 122 < z := by omega
          have i3 : z < 48 := by omega
          have i4 : ¬ 57 < z := by omega
          clear hw
          go_wp2
          go_meet
          case rel => exact ⟨by rw [HL.out]; rfl, rfl⟩
        · have HL : Hid (L = true) := Lib.hid (by
            rw [HLL.out]
            exact HLw.out.1 (by omega))
          have k1 : (z != 46) = true := by simp; omega
          have k2 : (z != 45) = true := by simp; omega
          have k3 : (z != 95) = true := by simp; omega
          have i1 : z < 97 := by omega
          have i2 : ¬ 122 < z := by omega
          have i3 : ¬ z < 48 := by omega
          have i4 : ¬ 57 < z := by omega
          clear hw
          go_wp2
          go_meet
          case rel => exact ⟨by rw [HL.out]; rfl, rfl⟩
        · have HL : Hid (L = false) := Lib.hid (by
            rw [HLL.out]
            exact Bool.eq_false_iff.2 fun h => by have := HLw.out.2 h; omega)
          have k1 : (z != 46) = true := by simp; omega
          have k2 : (z != 45) = true := by simp; omega
          have k3 : (z != 95) = true := by simp; omega
          have i1 : z < 97 := by omega
          have i2 : ¬ 122 < z := by omega
          have i3 : ¬ z < 48 := by omega
          have i4 : 57 < z := by omega
          clear hw
          go_wp2
          go_meet
          case rel => exact ⟨by rw [HL.out]; rfl, rfl⟩
        · have HL : Hid (L = true) := Lib.hid (by
            rw [HLL.out]
            exact HLw.out.1 (by omega))
          have k1 : (z != 46) = true := by simp; omega
          have k2 : (z != 45) = true := by simp; omega
          have k3 : (z != 95) = false := by simp; omega
          have i1 : z < 97 := by omega
          have i2 : ¬ 122 < z := by omega
          have i3 : ¬ z < 48 := by omega
          have i4 : 57 < z := by omega
          clear hw
          go_wp2
          go_meet
          case rel => exact ⟨by rw [HL.out]; rfl, rfl⟩
        · have HL : Hid (L = false) := Lib.hid (by
            rw [HLL.out]
            exact Bool.eq_false_iff.2 fun h => by have := HLw.out.2 h; omega)
          have k1 : (z != 46) = true := by simp; omega
          have k2 : (z != 45) = true := by simp; omega
          have k3 : (z != 95) = true := by simp; omega
          have i1 : z < 97 := by omega
          have i2 : ¬ 122 < z := by omega
          have i3 : ¬ z < 48 := by omega
          have i4 : 57 < z := by omega
          clear hw
          go_wp2
          go_meet
          case rel => exact ⟨by rw [HL.out]; rfl, rfl⟩
        · have HL : Hid (L = true) := Lib.hid (by
            rw [HLL.out]
            exact HLw.out.1 (by omega))
          have k1 : (z != 46) = true := by simp; omega
          have k2 : (z != 45) = true := by simp; omega
          have k3 : (z != 95) = true := by simp; omega
          have i1 : ¬ z < 97 := by omega
          have i2 : ¬ 122 < z := by omega
          have i3 : ¬ z < 48 := by omega
          have i4 : 57 < z := by omega
          clear hw
          go_wp2
          go_meet
          case rel => exact ⟨by rw [HL.out]; rfl, rfl⟩
        · have HL : Hid (L = false) := Lib.hid (by
            rw [HLL.out]
            exact Bool.eq_false_iff.2 fun h => by have := HLw.out.2 h; omega)
          have k1 : (z != 46) = true := by simp; omega
          have k2 : (z != 45) = true := by simp; omega
          have k3 : (z != 95) = true := by simp; omega
          have i1 : ¬ z < 97 := by omega
          have i2 : 122 < z := by omega
          have i3 : ¬ z < 48 := by omega
          have i4 : 57 < z := by omega
          clear hw
          go_wp2
          go_meet
          case rel => exact ⟨by rw [HL.out]; rfl, rfl⟩
      case rest =>
      obtain ⟨rfl, hzz⟩ := hcut
      subst hzz
      cases L with
      | false =>
        have HB := Lib.hid (part_no s k hlt HLL.out.symm)
        clear HLL HLw hall
        go_wp2
        go_ret
        exact ⟨ret_bool HB.out.symm, rfl⟩
      | true =>
        have HS : Hid ((s.take (k + 1)).all partByte = true) := Lib.hid ((all_snoc' s k hlt hall.out).trans HLL.out.symm)
        clear HLL HLw hall
        go_wp2
        go_round
        case rel => exact ⟨k + 1, hlt, by go_num, HS⟩
        case measure => simp [intOf]; omega
    · have hkl : k = s.length := by omega
      have HA : Hid (s.all partByte = true) := Lib.hid (by have h := hall.out; rw [hkl, List.take_length] at h; exact h)
      clear hall hkl
      by_cases h1 : 1 ≤ s.length
      · by_cases h30 : s.length ≤ 30
        · have h0 : 0 < s.length := by omega
          have e0 : s.getD 0 0 = s[0] := by rw [List.getD_eq_getElem?_getD, List.getElem?_eq_getElem h0]; rfl
          cases h3 : (s.getD 0 0 == 46) with
          | true =>
            have HB := Lib.hid (part_dot s h3)
            have hd : ((((⟨s.toArray⟩ : ByteArray)[0]'h0).toNat : Int) != 46) = false := by
              rw [e0] at h3
              have h5 : ((s[0].toNat : Int) == 46) = true := (u8_beq s[0] 46 (by decide)).trans h3
              show (!((s[0].toNat : Int) == 46)) = false
              rw [h5]; rfl
            clear h3 e0
            go_wp2
            go_ret
            exact ⟨ret_bool HB.out.symm, rfl⟩
          | false =>
            have HB := Lib.hid (part_yes s h1 h30 h3 HA.out)
            have hd : ((((⟨s.toArray⟩ : ByteArray)[0]'h0).toNat : Int) != 46) = true := by
              rw [e0] at h3
              have h5 : ((s[0].toNat : Int) == 46) = false := (u8_beq s[0] 46 (by decide)).trans h3
              show (!((s[0].toNat : Int) == 46)) = true
              rw [h5]; rfl
            clear h3 e0
            go_wp2
            go_ret
            exact ⟨ret_bool HB.out.symm, rfl⟩
        · have HB := Lib.hid (part_hi s h30)
          have hI : ¬ (s.length : Int) ≤ 30 := by omega
          have hI1 : (1 : Int) ≤ (s.length : Int) := by omega
          clear h1 h30
          go_wp2
          go_ret
          exact ⟨ret_bool HB.out.symm, rfl⟩
      · have HB := Lib.hid (part_lo s h1)
        have hI1 : ¬ (1 : Int) ≤ (s.length : Int) := by omega
        clear h1
        go_wp2
        go_ret
        exact ⟨ret_bool HB.out.symm, rfl⟩

/-! RDocB -/
def okD : List Bs → Prop
  | [] => True
  | p :: r => firstB p = true ∧ r.all partB = true
theorem okD.snoc {D : List Bs} {p : Bs} (h : okD D) (h0 : D = [] → firstB p = true) (h1 : D ≠ [] → partB p = true) : okD (D ++ [p]) := by
  cases D with
  | nil => exact ⟨h0 rfl, rfl⟩
  | cons q r =>
    refine ⟨h.1, ?_⟩
    show (r ++ [p]).all partB = true
    rw [List.all_append, h.2]; simp [h1 (by simp)]
/-- What is parted so far. -/
structure NmI (name : Bs) (D : List Bs) (s : Bs) : Prop where
  eq : parts name = D ++ (if s = [] ∧ D ≠ [] then [] else parts s)
  ok : okD D
theorem NmI.start (name : Bs) : NmI name [] name := ⟨by simp, trivial⟩
/-- A text, up to its first slash. -/
theorem first_slash (s : Bs) (e : Nat) (hn : (47 : UInt8) ∉ s.take e) (h : e = s.length ∨ ∃ h : e < s.length, s[e] = 47) : (e = s.length ∧ parts s = [s]) ∨ (∃ t, e < s.length ∧ s = s.take e ++ 47 :: t ∧ t = s.drop (e + 1) ∧ parts s = s.take e :: parts t) := by
  rcases h with h | ⟨hlt, h⟩
  · left
    rw [h, List.take_length] at hn
    exact ⟨h, parts_one hn⟩
  · right
    have e1 : s = s.take e ++ 47 :: s.drop (e + 1) := by
      have h1 := List.take_append_drop e s
      have h2 : s.drop e = s[e] :: s.drop (e + 1) := List.drop_eq_getElem_cons hlt
      rw [h2, h] at h1
      exact h1.symm
    refine ⟨s.drop (e + 1), hlt, e1, rfl, ?_⟩
    have := parts_app hn (s.drop (e + 1))
    rw [← e1] at this; exact this
theorem mem_take_succ {s : Bs} {e : Nat} (he : e < s.length) (hn : (47 : UInt8) ∉ s.take e) (hc : s[e] ≠ 47) : (47 : UInt8) ∉ s.take (e + 1) := by
  rw [List.take_succ_eq_append_getElem he]
  intro hm
  rcases List.mem_append.1 hm with hm | hm
  · exact hn hm
  · exact hc (List.mem_singleton.1 hm).symm
/-- A part that may not be. -/
theorem NmI.bad {name s : Bs} {D R : List Bs} {p : Bs} (h : NmI name D s) (hp : parts s = p :: R) (hs : ¬ (s = [] ∧ D ≠ [])) (hb : (D = [] ∧ firstB p = false) ∨ (D ≠ [] ∧ partB p = false)) : nameB name = false := by
  have e := h.eq
  rw [if_neg hs, hp] at e
  rcases hb with ⟨hD, hf⟩ | ⟨hD, hf⟩
  · rw [hD, List.nil_append] at e
    exact name_first e hf
  · cases hn : nameB name with
    | false => rfl
    | true =>
      obtain ⟨_, p', r', hp', _, _, _, h6⟩ := nameB_parts hn
      rw [hp'] at e
      cases hDe : D with
      | nil => exact absurd hDe hD
      | cons q r =>
        rw [hDe] at e
        injection e with _ e2
        have := List.all_eq_true.1 h6 p (by rw [e2]; simp)
        rw [hf] at this; cases this
/-- A slash at the end. -/
theorem NmI.tail {name s : Bs} {D : List Bs} {p : Bs} (h : NmI name D s) (hp : parts s = [p, []]) (hs : ¬ (s = [] ∧ D ≠ [])) : nameB name = false := by
  have e := h.eq
  rw [if_neg hs, hp] at e
  cases hn : nameB name with
  | false => rfl
  | true =>
    obtain ⟨_, p', r', hp', _, _, _, h6⟩ := nameB_parts hn
    rw [hp'] at e
    have hm : ([] : Bs) ∈ r' := by
      cases D with
      | nil => injection e with _ e2; rw [e2]; simp
      | cons q r => injection e with _ e2; rw [e2]; simp
    have := List.all_eq_true.1 h6 [] hm
    revert this; decide
theorem NmI.step {name s t : Bs} {D R : List Bs} {p : Bs} (h : NmI name D s) (hp : parts s = p :: R) (hs : ¬ (s = [] ∧ D ≠ [])) (h0 : D = [] → firstB p = true) (h1 : D ≠ [] → partB p = true) (hR : (t = [] ∧ R = []) ∨ (t ≠ [] ∧ R = parts t)) : NmI name (D ++ [p]) t := by
  have e := h.eq
  rw [if_neg hs, hp] at e
  refine ⟨?_, h.ok.snoc h0 h1⟩
  rcases hR with ⟨ht, hr⟩ | ⟨ht, hr⟩
  · rw [if_pos ⟨ht, by simp⟩, e, hr]; simp
  · rw [if_neg (fun hh => ht hh.1), e, hr]; simp
theorem NmI.done {name : Bs} {D : List Bs} (h : NmI name D []) (hD : D ≠ []) (hl : name.length ≤ 80) : nameB name = (decide (2 ≤ D.length) && decide (D.length ≤ 4)) := by
  have e := h.eq
  rw [if_pos ⟨rfl, hD⟩, List.append_nil] at e
  cases hDe : D with
  | nil => exact absurd hDe hD
  | cons p r =>
    have hok := h.ok
    rw [hDe] at hok e
    by_cases h2 : 2 ≤ (p :: r).length
    · by_cases h4 : (p :: r).length ≤ 4
      · rw [decide_eq_true h2, decide_eq_true h4, name_parts hl e rfl h2 h4 hok.1, hok.2]; rfl
      · rw [decide_eq_false h4, Bool.and_false]
        exact name_many (by rw [e]; exact h4)
    · rw [decide_eq_false h2, Bool.false_and]
      exact name_few (by rw [e]; exact h2)
def sLen' (v : Value) : Nat := match v with | .string b => b.size | _ => 0
theorem first_eq (p : Bs) : firstB p = (decide (p = [104, 101, 97, 100, 115]) || decide (p = [116, 97, 103, 115])) := by
  unfold firstB wHeads wTags
  rw [Bool.eq_iff_iff]; simp
set_option maxRecDepth 100000 in
set_option maxHeartbeats 8000000 in
theorem RNmd_any (name : Bs) (w : World) (hl : name.length ≤ maxLen) : Calls Tryz.prog 38 #[.string ⟨name.toArray⟩] w fun e w' => e = .returned (.bool (nameB name)) ∧ w = w' := by
  unfold maxLen at hl
  by_cases h80 : name.length ≤ 80
  case neg =>
    have HB := Lib.hid (name_long h80)
    have hI : 80 < (name.length : Int) := by omega
    clear h80
    go_enter Tryz.func38, Tryz.ntmps38
    go_wp2
    go_ret
    exact ⟨ret_bool HB.out.symm, rfl⟩
  have hI : ¬ 80 < (name.length : Int) := by omega
  have H80 := Lib.hid h80
  clear h80
  go_enter Tryz.func38, Tryz.ntmps38
  go_wp2
  go_loop [3, 4] (fun m v => ∃ (D : List Bs) (s : Bs) (q : Nat), m = .int .i64 q ∧ v = .string ⟨s.toArray⟩ ∧ q ≤ 90 ∧ s.length + q ≤ 80 + (if q = 0 then 0 else 1) ∧ Hid (q = D.length) ∧ Hid (NmI name D s)) (fun _ v => sLen' v)
  case atStart => exact ⟨[], name, 0, rfl, rfl, by omega, by simp; exact H80.out, Lib.hid rfl, Lib.hid (NmI.start name)⟩
  case round =>
    obtain ⟨D, s, q, rfl, rfl, hq, hsq, hD, hN⟩ := hrel
    by_cases hfin : s = [] ∧ q ≠ 0
    · obtain ⟨rfl, hq0⟩ := hfin
      have hqI : ((q : Int) == 0) = false := by simp; omega
      have HB := Lib.hid (NmI.done hN.out (fun e => hq0 (by rw [hD.out, e]; rfl)) H80.out)
      rw [← hD.out] at HB
      clear hN hsq hq0
      by_cases h2 : 2 ≤ q
      · by_cases h4 : q ≤ 4
        · have hI2 : (2 : Int) ≤ (q : Int) := by omega
          have hI4 : (q : Int) ≤ 4 := by omega
          have HB2 : Hid (nameB name = true) := Lib.hid (by rw [HB.out, decide_eq_true h2, decide_eq_true h4]; rfl)
          clear h2 h4 HB
          go_wp2
          go_ret
          exact ⟨ret_bool HB2.out.symm, rfl⟩
        · have hI2 : (2 : Int) ≤ (q : Int) := by omega
          have hI4 : ¬ (q : Int) ≤ 4 := by omega
          have HB2 : Hid (nameB name = false) := Lib.hid (by rw [HB.out, decide_eq_false h4, Bool.and_false])
          clear h2 h4 HB
          go_wp2
          go_ret
          exact ⟨ret_bool HB2.out.symm, rfl⟩
      · have hI2 : ¬ (2 : Int) ≤ (q : Int) := by omega
        have HB2 : Hid (nameB name = false) := Lib.hid (by rw [HB.out, decide_eq_false h2, Bool.false_and])
        clear h2 HB
        go_wp2
        go_ret
        exact ⟨ret_bool HB2.out.symm, rfl⟩
    have hDq : D = [] ↔ q = 0 := by rw [hD.out]; exact List.length_eq_zero_iff.symm
    have hsD : ¬ (s = [] ∧ D ≠ []) := fun h => hfin ⟨h.1, fun e => h.2 (hDq.2 e)⟩
    have HsD := Lib.hid hsD; have HDq := Lib.hid hDq
    have hsl : s.length ≤ 81 := by split at hsq <;> omega
    have hways : (0 < s.length) ∨ (¬ 0 < s.length ∧ q = 0) := by
      by_cases h : 0 < s.length
      · exact .inl h
      · exact .inr ⟨h, Classical.byContradiction fun hq => hfin ⟨List.length_eq_zero_iff.1 (by omega), hq⟩⟩
    have HW := Lib.hid hways
    clear hways
    have Hsq := Lib.hid hsq
    clear hfin hsD hDq hsq
    go_upto_region 5 with fail
    go_cut [17] from 11 to 17 (fun v17 wx => v17 = .bool true ∧ w = wx)
    case first =>
      cases s with
      | cons a b =>
        have hI : (0 : Int) < ((a :: b).length : Int) := by simp
        go_wp2
        go_meet
        case rel => exact ⟨rfl, rfl⟩
      | nil =>
        have hq0 : q = 0 := by rcases HW.out with h | ⟨_, h⟩; exact absurd h (by simp); exact h
        subst hq0
        go_wp2
        go_meet
        case rel => exact ⟨rfl, rfl⟩
    case rest =>
    obtain ⟨rfl, hww⟩ := hcut
    subst hww
    go_wp2
    go_loop [5] (fun v5 => ∃ e : Nat, e ≤ s.length ∧ v5 = .int .i64 e ∧ Hid ((47 : UInt8) ∉ s.take e)) (fun v5 => s.length - (intOf v5).toNat)
    case atStart => exact ⟨0, Nat.zero_le _, rfl, Lib.hid (by simp)⟩
    case round =>
      obtain ⟨e, he, rfl, hn⟩ := hrel
      by_cases hgo : ∃ h : e < s.length, s[e] ≠ 47
      · obtain ⟨hlt, hne⟩ := hgo
        have hx : ((((⟨s.toArray⟩ : ByteArray)[e]'hlt).toNat : Int) != 47) = true := by
          have h5 : ((s[e].toNat : Int) == 47) = false := (u8_beq s[e] 47 (by decide)).trans (beq_eq_false_iff_ne.2 hne)
          show (!((s[e].toNat : Int) == 47)) = true
          rw [h5]; rfl
        have HN := Lib.hid (mem_take_succ hlt hn.out hne)
        clear hn hne
        go_wp2
        go_round
        case rel => exact ⟨e + 1, hlt, by go_num, HN⟩
        case measure => simp [intOf]; omega
      have hend : e = s.length ∨ ∃ h : e < s.length, s[e] = 47 := by
        by_cases h : e < s.length
        · exact .inr ⟨h, Classical.byContradiction fun hne => hgo ⟨h, hne⟩⟩
        · exact .inl (by omega)
      have HF := Lib.hid (first_slash s e hn.out hend)
      have Hend := Lib.hid hend
      clear hgo hend hn
      go_upto_region 7 with fail
      go_cut [27] from 18 to 27 (fun v27 wx => v27 = .bool false ∧ w = wx)
      case first =>
        rcases Hend.out with h | ⟨hlt, h⟩
        · subst h
          go_wp2
          go_meet
          case rel => exact ⟨rfl, rfl⟩
        · have hx : ((((⟨s.toArray⟩ : ByteArray)[e]'hlt).toNat : Int) != 47) = false := by
            have h5 : ((s[e].toNat : Int) == 47) = true := (u8_beq s[e] 47 (by decide)).trans (by rw [h]; rfl)
            show (!((s[e].toNat : Int) == 47)) = false
            rw [h5]; rfl
          clear h
          go_wp2
          go_meet
          case rel => exact ⟨rfl, rfl⟩
      case rest =>
      obtain ⟨rfl, hww⟩ := hcut
      subst hww
      obtain ⟨p, hp⟩ : ∃ p, p = s.take e := ⟨_, rfl⟩
      have hpl : p.length = e := by rw [hp, List.length_take]; omega
      have hxe : (⟨s.toArray⟩ : ByteArray).extract 0 e = ⟨p.toArray⟩ := by rw [extract_S, hp]; rfl
      obtain ⟨B, hB⟩ : ∃ B, B = (if q = 0 then firstB p else partB p) := ⟨_, rfl⟩
      obtain ⟨T, hT⟩ : ∃ T, T = ((e : Int) == (s.length : Int) - 1) := ⟨_, rfl⟩
      obtain ⟨C, hC⟩ : ∃ C, C = (!B || T) := ⟨_, rfl⟩
      have HTe := Lib.hid hT
      have HCe := Lib.hid hC
      have HPt := Lib.hid (Rpart_any p w (by omega))
      have HBe := Lib.hid hB; have HP := Lib.hid hp
      clear hp hB hpl hC hT
      go_upto_region 10 with fail
      go_cut [58] from 33 to 58 (fun v58 wx => v58 = .bool C ∧ w = wx)
      case first =>
        have hte := HTe.out.symm
        by_cases hq0 : q = 0
        · have e1 := HBe.out
          rw [if_pos hq0, first_eq] at e1
          have hqe : ((q : Int) == 0) = true := by subst hq0; rfl
          have hqg : ¬ (0 : Int) < (q : Int) := by omega
          by_cases k1 : p = [104, 101, 97, 100, 115]
          · have HE : Hid (B = true) := Lib.hid (by rw [e1, k1]; rfl)
            subst k1
            clear e1 hq0
            go_wp2
            go_meet
            case rel => exact ⟨by rw [HCe.out, HE.out]; rfl, rfl⟩
          · by_cases k2 : p = [116, 97, 103, 115]
            · have HE : Hid (B = true) := Lib.hid (by rw [e1, k2]; rfl)
              subst k2
              clear e1 hq0
              go_wp2
              go_meet
              case rel => exact ⟨by rw [HCe.out, HE.out]; rfl, rfl⟩
            · have HE : Hid (B = false) := Lib.hid (by rw [e1, decide_eq_false k1, decide_eq_false k2]; rfl)
              have j1 : (p == [104, 101, 97, 100, 115]) = false := beq_eq_false_iff_ne.2 k1
              have j2 : (p == [116, 97, 103, 115]) = false := beq_eq_false_iff_ne.2 k2
              clear e1 hq0
              go_wp2
              go_meet
              case rel => exact ⟨by rw [HCe.out, HE.out]; rfl, rfl⟩
        · have e1 := HBe.out
          rw [if_neg hq0] at e1
          have hqe : ((q : Int) == 0) = false := by simp; omega
          have hqg : (0 : Int) < (q : Int) := by omega
          have hc := HPt.out
          rw [← e1] at hc
          have HC := Lib.hid hc
          clear e1 hq0 hc
          cases B with
          | true =>
            go_wp2_with fail
            refine HC.out.mono ?_
            rintro e w2 ⟨rfl, rfl⟩
            go_wp2
            go_meet
            case rel => exact ⟨by rw [HCe.out]; rfl, rfl⟩
          | false =>
            go_wp2_with fail
            refine HC.out.mono ?_
            rintro e w2 ⟨rfl, rfl⟩
            go_wp2
            go_meet
            case rel => exact ⟨by rw [HCe.out]; rfl, rfl⟩
      case rest =>
      obtain ⟨rfl, hww⟩ := hcut
      subst hww
      have HS : Hid (∃ R, parts s = p :: R) := Lib.hid (by
        rcases HF.out with ⟨h, h2⟩ | ⟨t, _, _, _, h2⟩
        · exact ⟨[], by rw [h2, HP.out, h, List.take_length]⟩
        · exact ⟨_, by rw [h2, HP.out]⟩)
      have HBC := HCe.out
      cases B with
      | false =>
        obtain rfl : C = true := HBC
        have HR : Hid (nameB name = false) := Lib.hid (by
          obtain ⟨R, h⟩ := HS.out
          refine NmI.bad hN.out h HsD.out ?_
          by_cases hq0 : q = 0
          · exact .inl ⟨HDq.out.2 hq0, by rw [HBe.out, if_pos hq0]⟩
          · exact .inr ⟨fun h => hq0 (HDq.out.1 h), by rw [HBe.out, if_neg hq0]⟩)
        clear HBe HS HsD HDq hN HF Hend HPt
        go_wp2
        go_ret
        exact ⟨ret_bool HR.out.symm, rfl⟩
      | true =>
        by_cases htail : e + 1 = s.length
        · have HR : Hid (nameB name = false) := Lib.hid (by
            refine NmI.tail hN.out (p := p) ?_ HsD.out
            rcases HF.out with ⟨h, _⟩ | ⟨t, _, _, ht, h2⟩
            · omega
            · rw [h2, HP.out, ht, List.drop_of_length_le (by omega)]; rfl)
          have hte : T = true := by rw [HTe.out]; simp; omega
          obtain rfl : C = true := by rw [HBC, hte]; rfl
          clear hte HBC
          clear HBe HS HsD HDq hN HF Hend HPt htail
          go_wp2
          go_ret
          exact ⟨ret_bool HR.out.symm, rfl⟩
        · have hte : T = false := by rw [HTe.out]; simp; omega
          obtain rfl : C = false := by rw [HBC, hte]; rfl
          clear hte HBC
          obtain ⟨f, hf⟩ : ∃ f, f = min (e + 1) s.length := ⟨_, rfl⟩
          have hmi : min ((e : Int) + 1) (s.length : Int) = (f : Int) := by omega
          obtain ⟨t, ht⟩ : ∃ t, t = s.drop f := ⟨_, rfl⟩
          have hxd : (⟨s.toArray⟩ : ByteArray).extract f s.length = ⟨t.toArray⟩ := by rw [extract_S, List.take_length, ht]
          have HN2 : Hid (NmI name (D ++ [p]) t) := Lib.hid (by
            rcases HF.out with ⟨h, h2⟩ | ⟨t', hlt, _, ht', h2⟩
            · refine NmI.step hN.out (R := []) (by rw [h2, HP.out, h, List.take_length]) HsD.out ?_ ?_ (.inl ⟨?_, rfl⟩)
              · intro h; have := HBe.out; rw [if_pos (HDq.out.1 h)] at this; exact this.symm
              · intro h; have := HBe.out; rw [if_neg (fun hh => h (HDq.out.2 hh))] at this; exact this.symm
              · rw [ht, List.drop_of_length_le (by omega)]
            · have hfe : f = e + 1 := by omega
              refine NmI.step hN.out (R := parts t') (by rw [h2, HP.out]) HsD.out ?_ ?_ (.inr ⟨?_, by rw [ht, hfe, ht']⟩)
              · intro h; have := HBe.out; rw [if_pos (HDq.out.1 h)] at this; exact this.symm
              · intro h; have := HBe.out; rw [if_neg (fun hh => h (HDq.out.2 hh))] at this; exact this.symm
              · intro h
                have := congrArg List.length h
                rw [ht, List.length_drop] at this
                simp at this; omega)
          have HD2 : Hid (q + 1 = (D ++ [p]).length) := Lib.hid (by rw [List.length_append, ← hD.out]; rfl)
          have htl : t.length = s.length - f := by rw [ht, List.length_drop]
          have hs0 : 0 < s.length := by
            rcases HW.out with h | ⟨h, h0⟩
            · exact h
            · have := HBe.out
              rw [if_pos h0, HP.out, List.length_eq_zero_iff.1 (Nat.eq_zero_of_not_pos h), List.take_nil] at this
              exact absurd this (by decide)
          have HT2 : Hid (t.length + (q + 1) ≤ 80 + (if q + 1 = 0 then 0 else 1) ∧ (q ≠ 0 ∨ 0 < s.length → t.length < s.length ∨ s.length = 0) ∧ q + 1 ≤ 90) := Lib.hid (by
            have h1 := Hsq.out
            rw [if_neg (Nat.succ_ne_zero q)]
            have h0 : 0 < s.length := hs0
            refine ⟨?_, fun _ => .inl (by omega), ?_⟩
            · split at h1 <;> omega
            · split at h1 <;> omega)
          have hts : t.length < s.length := by omega
          clear hf ht HBe HS HsD HDq hN HF Hend HPt htail
          go_wp2
          go_round
          case rel => exact ⟨D ++ [p], t, q + 1, by go_num, rfl, HT2.out.2.2, HT2.out.1, HD2, HN2⟩
          case measure => exact hts

/-! RDocR -/
def OkD (l : List Ref) (k : Nat) : Prop := ∀ i, i < k → ∀ x, l[i]? = some x → nameB x.name = true ∧ namedB x.id = true ∧ (∀ (j : Nat) (y : Ref), i = j + 1 → l[j]? = some y → y.name < x.name) ∧ ∀ (j : Nat) (y : Ref), l[j]? = some y → aboveB y.name x.name = false
theorem OkD.zero (l : List Ref) : OkD l 0 := fun _ h => absurd h (Nat.not_lt_zero _)
theorem OkD.succ {l : List Ref} {k : Nat} {x : Ref} (h : OkD l k) (hx : l[k]? = some x) (h1 : nameB x.name = true) (h2 : namedB x.id = true) (h3 : ∀ (j : Nat) (y : Ref), k = j + 1 → l[j]? = some y → y.name < x.name) (h4 : ∀ (j : Nat) (y : Ref), l[j]? = some y → aboveB y.name x.name = false) : OkD l (k + 1) := fun i hi z hz => by
  rcases Nat.lt_or_ge i k with hlt | hge
  · exact h i hlt z hz
  · have e : i = k := by omega
    subst e
    rw [hx] at hz
    cases hz; exact ⟨h1, h2, h3, h4⟩
theorem OkD.adj {l : List Ref} (h : OkD l l.length) : ∀ (d i : Nat) (hi : i < l.length) (hj : i + 1 + d < l.length), l[i].name < l[i + 1 + d].name
  | 0, i, hi, hj => (h (i + 1) hj _ (List.getElem?_eq_getElem hj)).2.2.1 i _ rfl (List.getElem?_eq_getElem hi)
  | d + 1, i, hi, hj => by
    have h1 := OkD.adj h d i hi (by omega)
    have h2 := (h (i + 1 + d + 1) hj _ (List.getElem?_eq_getElem hj)).2.2.1 (i + 1 + d) _ rfl (List.getElem?_eq_getElem (by omega))
    exact List.lt_trans h1 h2
theorem OkD.right {l : List Ref} (h : OkD l l.length) (hl : l.length ≤ 64) : Right l where
  len := hl
  name := fun r hr => by
    obtain ⟨i, hi, rfl⟩ := List.getElem_of_mem hr
    exact (h i hi _ (List.getElem?_eq_getElem hi)).1
  id := fun r hr => by
    obtain ⟨i, hi, rfl⟩ := List.getElem_of_mem hr
    exact (h i hi _ (List.getElem?_eq_getElem hi)).2.1
  rise := List.pairwise_iff_getElem.2 fun i j hi hj hij => by
    obtain ⟨d, rfl⟩ : ∃ d, j = i + 1 + d := ⟨j - (i + 1), by omega⟩
    exact h.adj d i hi hj
  above := fun a ha b hb => by
    obtain ⟨i, hi, rfl⟩ := List.getElem_of_mem ha
    obtain ⟨j, hj, rfl⟩ := List.getElem_of_mem hb
    exact (h j hj _ (List.getElem?_eq_getElem hj)).2.2.2 i _ (List.getElem?_eq_getElem hi)
theorem sub_one9 (W : World) (j : Nat) (hj : j ≤ 1000000) : (binOp .sub 3 (.int .i64 ((j + 1 : Nat) : Int)) (.int .i64 1)).run Tryz.prog W = .ok (.int .i64 (j : Int)) W := by
  have h : IntKind.i64.wrap (j : Int) = (j : Int) := IntWalk.i64_in _ (by omega)
  simp [go_sem, h]
theorem gtr_no (W : World) (k : Nat) (h : k = 0) : (binOp .gtr 3 (.int .i64 (k : Int)) (.int .i64 0)).run Tryz.prog W = .ok (.bool false) W := by
  subst h; simp [go_sem]
theorem gtr_yes (W : World) (j : Nat) : (binOp .gtr 3 (.int .i64 ((j + 1 : Nat) : Int)) (.int .i64 0)).run Tryz.prog W = .ok (.bool true) W := by
  have h : (0 : Int) < ((j + 1 : Nat) : Int) := by omega
  simp [go_sem]
set_option maxRecDepth 100000 in
set_option maxHeartbeats 8000000 in
theorem RRight_any (l : List Ref) (v : Value) (w : World) (hv : RefsR w v l) (hf : Fit l) (hl : l.length ≤ 1000000) : Calls Tryz.prog 37 #[v] w (BoolB (rightB l) w) := by
  obtain ⟨A, c, rfl⟩ := hv.shape
  obtain ⟨N, hN⟩ : ∃ N, N = l.length := ⟨_, rfl⟩
  have HV : Hid (RefsR w (.slice A N c) l) := Lib.hid (by rw [hN]; exact hv)
  have HF := Lib.hid hf
  obtain ⟨b, hb⟩ : ∃ b, b = rightB l := ⟨_, rfl⟩
  have HNo : Hid (¬ Right l → b = false) := Lib.hid fun h => by rw [hb]; exact rightB_no h
  have HYes : Hid (Right l → b = true) := Lib.hid fun h => by rw [hb]; exact rightB_yes h
  rw [← hN, ← hb]
  have HN := Lib.hid hN
  rw [← hN] at hl
  clear hv hf hb hN
  go_enter Tryz.func37, Tryz.ntmps37
  go_wp2_with fail
  go_loopw [3] (fun i wr => ∃ k : Nat, k ≤ N ∧ i = .int .i64 k ∧ Hid (Below w.heap.size w wr) ∧ Hid (OkD l k)) (fun i _ => N - (intOf i).toNat)
  case atStart => exact ⟨0, Nat.zero_le _, rfl, Lib.hid (Below.refl _ _), Lib.hid (OkD.zero l)⟩
  case round =>
    obtain ⟨k, hk, rfl, hB, hok⟩ := hrel
    by_cases hlt : k < N
    case neg =>
      have hkN : k = N := by omega
      have hltI : ¬ (k : Int) < (N : Int) := by omega
      have HB := hB
      by_cases h64 : N ≤ 64
      · have hI : (N : Int) ≤ 64 := by omega
        have HT := Lib.hid (HYes.out (OkD.right (by have h := hok.out; rw [hkN, HN.out] at h; exact h) (by rw [← HN.out]; exact h64)))
        clear hkN hok h64 hlt
        go_wp2_with fail
        go_ret
        exact ⟨ret_bool HT.out.symm, HB.out⟩
      · have hI : ¬ (N : Int) ≤ 64 := by omega
        have HT := Lib.hid (HNo.out (fun hr => h64 (by rw [HN.out]; exact hr.len)))
        clear hkN hok h64 hlt
        go_wp2_with fail
        go_ret
        exact ⟨ret_bool HT.out.symm, HB.out⟩
    have hltI : (k : Int) < (N : Int) := by omega
    obtain ⟨g, o, c', e, _, hg⟩ := HV.out.pos (by have := HN.out; omega)
    obtain rfl : A = some ⟨g, o, none⟩ := by rw [← HN.out] at e; cases e; rfl
    clear e
    have HG0 := Lib.hid hg
    obtain ⟨x, hx⟩ : ∃ x, l[k]? = some x := ⟨_, List.getElem?_eq_getElem (by have := HN.out; omega)⟩
    have hfx := HF.out x (List.mem_of_getElem? hx)
    have hcl := fun W (hW : Below w.heap.size w W) => RefsR.cells (RdK.below HV.out hW (Nat.le_refl _)) hx
    obtain ⟨nm, di⟩ := x
    simp only at hfx hcl
    unfold SV at hcl
    have C0 := Lib.hid fun W hW => (hcl W hW).1
    have C1 := Lib.hid fun W hW => (hcl W hW).2
    have HX := Lib.hid hx
    have LD : Hid (Below w.heap.size w wr.drew) := Lib.hid hB.out.drew
    have HNm := fun W => Lib.hid (RNmd_any nm W hfx.1)
    have HDi := fun W => Lib.hid (RNamed_any di W hfx.2)
    unfold SV at HDi
    have hkN := hlt
    clear hcl hx hg hfx hlt hB
    cases hn1 : nameB nm with
    | false =>
      rw [hn1] at HNm
      have HT := Lib.hid (HNo.out (no_name HX.out hn1))
      clear hn1 hok
      go_wp2_with fail
      refine AnyB.start (by kernel_rfl) ?_
      refine AnyB.take 0 (.slice (some ⟨g, o, none⟩) N c) rfl (by kernel_rfl) (by kernel_rfl) (by kernel_rfl) (fun _ _ _ h => h) (by kernel_rfl) (fun W hW => by kernel_rfl) ?_
      refine AnyB.take 1 (.int .i64 (k : Int)) rfl (by kernel_rfl) (by kernel_rfl) (by kernel_rfl) (fun _ _ _ h => h) (by kernel_rfl) (fun W hW => by kernel_rfl) ?_
      refine AnyB.take 2 (.pointer (some ⟨g, o + k * 2, none⟩)) rfl (by kernel_rfl) (by kernel_rfl) (by kernel_rfl) (fun _ _ _ h => h) (by kernel_rfl) (fun W hW => y_index (sv := .slice (some ⟨g, o, none⟩) N c) (iv := .int .i64 (k : Int)) rfl (by kernel_rfl) (by kernel_rfl) (at_r W g o N c k hkN)) ?_
      refine AnyB.take 3 (.pointer (some ⟨g, o + k * 2, none⟩)) rfl (by kernel_rfl) (by kernel_rfl) (by kernel_rfl) (fun _ _ _ h => h) (by kernel_rfl) (fun W hW => y_field (sv := .pointer (some ⟨g, o + k * 2, none⟩)) rfl (by kernel_rfl) (f_r0 W g (o + k * 2))) ?_
      refine AnyB.take 4 (.string ⟨nm.toArray⟩) rfl (by kernel_rfl) (by kernel_rfl) (by kernel_rfl) (fun _ _ _ h => h) (by kernel_rfl) (fun W hW => y_load (sv := .pointer (some ⟨g, o + k * 2, none⟩)) rfl (by kernel_rfl) (l_S W g (o + k * 2) nm (C0.out W (LD.out.trans (hW.mono LD.out.size))))) ?_
      refine AnyB.call 5 38 #[.string ⟨nm.toArray⟩] (by kernel_rfl) rfl (by kernel_rfl) (by kernel_rfl) ?_
      refine (HNm _).out.mono ?_
      rintro e w7 ⟨rfl, rfl⟩
      refine ⟨_, rfl, Below.refl _ _, ?_⟩
      refine AnyB.take 6 (.bool true) rfl (by kernel_rfl) (by kernel_rfl) (by kernel_rfl) (fun _ _ _ h => h) (by kernel_rfl) (fun W hW => by kernel_rfl) ?_
      refine AnyB.take 7 (.bool true) rfl (by kernel_rfl) (by kernel_rfl) (by kernel_rfl) (fun _ _ _ h => h) (by kernel_rfl) (fun W hW => by kernel_rfl) ?_
      refine AnyB.skip 8 rfl (by kernel_rfl) (by kernel_rfl) (by kernel_rfl) (fun _ _ _ h => h) (by kernel_rfl) ?_
      refine AnyB.skip 9 rfl (by kernel_rfl) (by kernel_rfl) (by kernel_rfl) (fun _ _ _ h => h) (by kernel_rfl) ?_
      refine AnyB.skip 10 rfl (by kernel_rfl) (by kernel_rfl) (by kernel_rfl) (fun _ _ _ h => h) (by kernel_rfl) ?_
      refine AnyB.skip 11 rfl (by kernel_rfl) (by kernel_rfl) (by kernel_rfl) (fun _ _ _ h => h) (by kernel_rfl) ?_
      refine AnyB.skip 12 rfl (by kernel_rfl) (by kernel_rfl) (by kernel_rfl) (fun _ _ _ h => h) (by kernel_rfl) ?_
      refine AnyB.skip 13 rfl (by kernel_rfl) (by kernel_rfl) (by kernel_rfl) (fun _ _ _ h => h) (by kernel_rfl) ?_
      refine AnyB.skip 14 rfl (by kernel_rfl) (by kernel_rfl) (by kernel_rfl) (fun _ _ _ h => h) (by kernel_rfl) ?_
      refine AnyB.take 15 (.bool true) rfl (by kernel_rfl) (by kernel_rfl) (by kernel_rfl) (fun _ _ _ h => h) (by kernel_rfl) (fun W hW => by kernel_rfl) ?_
      refine AnyB.take 16 (.bool true) rfl (by kernel_rfl) (by kernel_rfl) (by kernel_rfl) (fun _ _ _ h => h) (by kernel_rfl) (fun W hW => by kernel_rfl) ?_
      refine AnyB.skip 17 rfl (by kernel_rfl) (by kernel_rfl) (by kernel_rfl) (fun _ _ _ h => h) (by kernel_rfl) ?_
      refine AnyB.skip 18 rfl (by kernel_rfl) (by kernel_rfl) (by kernel_rfl) (fun _ _ _ h => h) (by kernel_rfl) ?_
      refine AnyB.skip 19 rfl (by kernel_rfl) (by kernel_rfl) (by kernel_rfl) (fun _ _ _ h => h) (by kernel_rfl) ?_
      refine AnyB.skip 20 rfl (by kernel_rfl) (by kernel_rfl) (by kernel_rfl) (fun _ _ _ h => h) (by kernel_rfl) ?_
      refine AnyB.skip 21 rfl (by kernel_rfl) (by kernel_rfl) (by kernel_rfl) (fun _ _ _ h => h) (by kernel_rfl) ?_
      refine AnyB.skip 22 rfl (by kernel_rfl) (by kernel_rfl) (by kernel_rfl) (fun _ _ _ h => h) (by kernel_rfl) ?_
      refine AnyB.skip 23 rfl (by kernel_rfl) (by kernel_rfl) (by kernel_rfl) (fun _ _ _ h => h) (by kernel_rfl) ?_
      refine AnyB.skip 24 rfl (by kernel_rfl) (by kernel_rfl) (by kernel_rfl) (fun _ _ _ h => h) (by kernel_rfl) ?_
      refine AnyB.skip 25 rfl (by kernel_rfl) (by kernel_rfl) (by kernel_rfl) (fun _ _ _ h => h) (by kernel_rfl) ?_
      refine AnyB.skip 26 rfl (by kernel_rfl) (by kernel_rfl) (by kernel_rfl) (fun _ _ _ h => h) (by kernel_rfl) ?_
      refine AnyB.skip 27 rfl (by kernel_rfl) (by kernel_rfl) (by kernel_rfl) (fun _ _ _ h => h) (by kernel_rfl) ?_
      refine AnyB.skip 28 rfl (by kernel_rfl) (by kernel_rfl) (by kernel_rfl) (fun _ _ _ h => h) (by kernel_rfl) ?_
      refine AnyB.skip 29 rfl (by kernel_rfl) (by kernel_rfl) (by kernel_rfl) (fun _ _ _ h => h) (by kernel_rfl) ?_
      refine AnyB.skip 30 rfl (by kernel_rfl) (by kernel_rfl) (by kernel_rfl) (fun _ _ _ h => h) (by kernel_rfl) ?_
      refine AnyB.skip 31 rfl (by kernel_rfl) (by kernel_rfl) (by kernel_rfl) (fun _ _ _ h => h) (by kernel_rfl) ?_
      refine AnyB.skip 32 rfl (by kernel_rfl) (by kernel_rfl) (by kernel_rfl) (fun _ _ _ h => h) (by kernel_rfl) ?_
      refine AnyB.take 33 (.bool true) rfl (by kernel_rfl) (by kernel_rfl) (by kernel_rfl) (fun _ _ _ h => h) (by kernel_rfl) (fun W hW => by kernel_rfl) ?_
      refine AnyB.done _ (by kernel_rfl) ?_
      go_simp
      clear HNm HDi
      go_wp2_with fail
      go_ret
      exact ⟨ret_bool HT.out.symm, LD.out⟩
    | true =>
    rw [hn1] at HNm
    have Hn1 := Lib.hid hn1
    clear hn1
    cases hn2 : namedB di with
    | false =>
      rw [hn2] at HDi
      have HT := Lib.hid (HNo.out (no_id HX.out hn2))
      clear hn2 hok
      go_wp2_with fail
      refine AnyB.start (by kernel_rfl) ?_
      refine AnyB.take 0 (.slice (some ⟨g, o, none⟩) N c) rfl (by kernel_rfl) (by kernel_rfl) (by kernel_rfl) (fun _ _ _ h => h) (by kernel_rfl) (fun W hW => by kernel_rfl) ?_
      refine AnyB.take 1 (.int .i64 (k : Int)) rfl (by kernel_rfl) (by kernel_rfl) (by kernel_rfl) (fun _ _ _ h => h) (by kernel_rfl) (fun W hW => by kernel_rfl) ?_
      refine AnyB.take 2 (.pointer (some ⟨g, o + k * 2, none⟩)) rfl (by kernel_rfl) (by kernel_rfl) (by kernel_rfl) (fun _ _ _ h => h) (by kernel_rfl) (fun W hW => y_index (sv := .slice (some ⟨g, o, none⟩) N c) (iv := .int .i64 (k : Int)) rfl (by kernel_rfl) (by kernel_rfl) (at_r W g o N c k hkN)) ?_
      refine AnyB.take 3 (.pointer (some ⟨g, o + k * 2, none⟩)) rfl (by kernel_rfl) (by kernel_rfl) (by kernel_rfl) (fun _ _ _ h => h) (by kernel_rfl) (fun W hW => y_field (sv := .pointer (some ⟨g, o + k * 2, none⟩)) rfl (by kernel_rfl) (f_r0 W g (o + k * 2))) ?_
      refine AnyB.take 4 (.string ⟨nm.toArray⟩) rfl (by kernel_rfl) (by kernel_rfl) (by kernel_rfl) (fun _ _ _ h => h) (by kernel_rfl) (fun W hW => y_load (sv := .pointer (some ⟨g, o + k * 2, none⟩)) rfl (by kernel_rfl) (l_S W g (o + k * 2) nm (C0.out W (LD.out.trans (hW.mono LD.out.size))))) ?_
      refine AnyB.call 5 38 #[.string ⟨nm.toArray⟩] (by kernel_rfl) rfl (by kernel_rfl) (by kernel_rfl) ?_
      refine (HNm _).out.mono ?_
      rintro e w7 ⟨rfl, rfl⟩
      refine ⟨_, rfl, Below.refl _ _, ?_⟩
      refine AnyB.take 6 (.bool false) rfl (by kernel_rfl) (by kernel_rfl) (by kernel_rfl) (fun _ _ _ h => h) (by kernel_rfl) (fun W hW => by kernel_rfl) ?_
      refine AnyB.take 7 (.bool false) rfl (by kernel_rfl) (by kernel_rfl) (by kernel_rfl) (fun _ _ _ h => h) (by kernel_rfl) (fun W hW => by kernel_rfl) ?_
      refine AnyB.take 8 (.slice (some ⟨g, o, none⟩) N c) rfl (by kernel_rfl) (by kernel_rfl) (by kernel_rfl) (fun _ _ _ h => h) (by kernel_rfl) (fun W hW => by kernel_rfl) ?_
      refine AnyB.take 9 (.int .i64 (k : Int)) rfl (by kernel_rfl) (by kernel_rfl) (by kernel_rfl) (fun _ _ _ h => h) (by kernel_rfl) (fun W hW => by kernel_rfl) ?_
      refine AnyB.take 10 (.pointer (some ⟨g, o + k * 2, none⟩)) rfl (by kernel_rfl) (by kernel_rfl) (by kernel_rfl) (fun _ _ _ h => h) (by kernel_rfl) (fun W hW => y_index (sv := .slice (some ⟨g, o, none⟩) N c) (iv := .int .i64 (k : Int)) rfl (by kernel_rfl) (by kernel_rfl) (at_r W g o N c k hkN)) ?_
      refine AnyB.take 11 (.pointer (some ⟨g, o + k * 2 + 1, none⟩)) rfl (by kernel_rfl) (by kernel_rfl) (by kernel_rfl) (fun _ _ _ h => h) (by kernel_rfl) (fun W hW => y_field (sv := .pointer (some ⟨g, o + k * 2, none⟩)) rfl (by kernel_rfl) (f_r1 W g (o + k * 2))) ?_
      refine AnyB.take 12 (.string ⟨di.toArray⟩) rfl (by kernel_rfl) (by kernel_rfl) (by kernel_rfl) (fun _ _ _ h => h) (by kernel_rfl) (fun W hW => y_load (sv := .pointer (some ⟨g, o + k * 2 + 1, none⟩)) rfl (by kernel_rfl) (l_S W g (o + k * 2 + 1) di (C1.out W (LD.out.trans (hW.mono LD.out.size))))) ?_
      refine AnyB.call 13 64 #[.string ⟨di.toArray⟩] (by kernel_rfl) rfl (by kernel_rfl) (by kernel_rfl) ?_
      refine (HDi _).out.mono ?_
      rintro e w7 ⟨rfl, rfl⟩
      refine ⟨_, rfl, Below.refl _ _, ?_⟩
      refine AnyB.take 14 (.bool true) rfl (by kernel_rfl) (by kernel_rfl) (by kernel_rfl) (fun _ _ _ h => h) (by kernel_rfl) (fun W hW => by kernel_rfl) ?_
      refine AnyB.take 15 (.bool true) rfl (by kernel_rfl) (by kernel_rfl) (by kernel_rfl) (fun _ _ _ h => h) (by kernel_rfl) (fun W hW => by kernel_rfl) ?_
      refine AnyB.take 16 (.bool true) rfl (by kernel_rfl) (by kernel_rfl) (by kernel_rfl) (fun _ _ _ h => h) (by kernel_rfl) (fun W hW => by kernel_rfl) ?_
      refine AnyB.skip 17 rfl (by kernel_rfl) (by kernel_rfl) (by kernel_rfl) (fun _ _ _ h => h) (by kernel_rfl) ?_
      refine AnyB.skip 18 rfl (by kernel_rfl) (by kernel_rfl) (by kernel_rfl) (fun _ _ _ h => h) (by kernel_rfl) ?_
      refine AnyB.skip 19 rfl (by kernel_rfl) (by kernel_rfl) (by kernel_rfl) (fun _ _ _ h => h) (by kernel_rfl) ?_
      refine AnyB.skip 20 rfl (by kernel_rfl) (by kernel_rfl) (by kernel_rfl) (fun _ _ _ h => h) (by kernel_rfl) ?_
      refine AnyB.skip 21 rfl (by kernel_rfl) (by kernel_rfl) (by kernel_rfl) (fun _ _ _ h => h) (by kernel_rfl) ?_
      refine AnyB.skip 22 rfl (by kernel_rfl) (by kernel_rfl) (by kernel_rfl) (fun _ _ _ h => h) (by kernel_rfl) ?_
      refine AnyB.skip 23 rfl (by kernel_rfl) (by kernel_rfl) (by kernel_rfl) (fun _ _ _ h => h) (by kernel_rfl) ?_
      refine AnyB.skip 24 rfl (by kernel_rfl) (by kernel_rfl) (by kernel_rfl) (fun _ _ _ h => h) (by kernel_rfl) ?_
      refine AnyB.skip 25 rfl (by kernel_rfl) (by kernel_rfl) (by kernel_rfl) (fun _ _ _ h => h) (by kernel_rfl) ?_
      refine AnyB.skip 26 rfl (by kernel_rfl) (by kernel_rfl) (by kernel_rfl) (fun _ _ _ h => h) (by kernel_rfl) ?_
      refine AnyB.skip 27 rfl (by kernel_rfl) (by kernel_rfl) (by kernel_rfl) (fun _ _ _ h => h) (by kernel_rfl) ?_
      refine AnyB.skip 28 rfl (by kernel_rfl) (by kernel_rfl) (by kernel_rfl) (fun _ _ _ h => h) (by kernel_rfl) ?_
      refine AnyB.skip 29 rfl (by kernel_rfl) (by kernel_rfl) (by kernel_rfl) (fun _ _ _ h => h) (by kernel_rfl) ?_
      refine AnyB.skip 30 rfl (by kernel_rfl) (by kernel_rfl) (by kernel_rfl) (fun _ _ _ h => h) (by kernel_rfl) ?_
      refine AnyB.skip 31 rfl (by kernel_rfl) (by kernel_rfl) (by kernel_rfl) (fun _ _ _ h => h) (by kernel_rfl) ?_
      refine AnyB.skip 32 rfl (by kernel_rfl) (by kernel_rfl) (by kernel_rfl) (fun _ _ _ h => h) (by kernel_rfl) ?_
      refine AnyB.take 33 (.bool true) rfl (by kernel_rfl) (by kernel_rfl) (by kernel_rfl) (fun _ _ _ h => h) (by kernel_rfl) (fun W hW => by kernel_rfl) ?_
      refine AnyB.done _ (by kernel_rfl) ?_
      go_simp
      clear HNm HDi
      go_wp2_with fail
      go_ret
      exact ⟨ret_bool HT.out.symm, LD.out⟩
    | true =>
    rw [hn2] at HDi
    have Hn2 := Lib.hid hn2
    clear hn2
    clear HNm HDi
    have HNm := fun W => Lib.hid (RNmd_any nm W (HF.out _ (List.mem_of_getElem? HX.out)).1)
    have HDi := fun W => Lib.hid (RNamed_any di W (HF.out _ (List.mem_of_getElem? HX.out)).2)
    unfold SV at HDi
    rw [Hn1.out] at HNm
    rw [Hn2.out] at HDi
    by_cases hk0 : k = 0
    case pos =>
      have HG := Lib.hid fun W => gtr_no W k hk0
      have H3 : Hid (∀ (j : Nat) (y : Ref), k = j + 1 → l[j]? = some y → y.name < nm) := Lib.hid fun j y h => by omega
      clear hk0
      go_wp2_with fail
      refine AnyB.start (by kernel_rfl) ?_
      refine AnyB.take 0 (.slice (some ⟨g, o, none⟩) N c) rfl (by kernel_rfl) (by kernel_rfl) (by kernel_rfl) (fun _ _ _ h => h) (by kernel_rfl) (fun W hW => by kernel_rfl) ?_
      refine AnyB.take 1 (.int .i64 (k : Int)) rfl (by kernel_rfl) (by kernel_rfl) (by kernel_rfl) (fun _ _ _ h => h) (by kernel_rfl) (fun W hW => by kernel_rfl) ?_
      refine AnyB.take 2 (.pointer (some ⟨g, o + k * 2, none⟩)) rfl (by kernel_rfl) (by kernel_rfl) (by kernel_rfl) (fun _ _ _ h => h) (by kernel_rfl) (fun W hW => y_index (sv := .slice (some ⟨g, o, none⟩) N c) (iv := .int .i64 (k : Int)) rfl (by kernel_rfl) (by kernel_rfl) (at_r W g o N c k hkN)) ?_
      refine AnyB.take 3 (.pointer (some ⟨g, o + k * 2, none⟩)) rfl (by kernel_rfl) (by kernel_rfl) (by kernel_rfl) (fun _ _ _ h => h) (by kernel_rfl) (fun W hW => y_field (sv := .pointer (some ⟨g, o + k * 2, none⟩)) rfl (by kernel_rfl) (f_r0 W g (o + k * 2))) ?_
      refine AnyB.take 4 (.string ⟨nm.toArray⟩) rfl (by kernel_rfl) (by kernel_rfl) (by kernel_rfl) (fun _ _ _ h => h) (by kernel_rfl) (fun W hW => y_load (sv := .pointer (some ⟨g, o + k * 2, none⟩)) rfl (by kernel_rfl) (l_S W g (o + k * 2) nm (C0.out W (LD.out.trans (hW.mono LD.out.size))))) ?_
      refine AnyB.call 5 38 #[.string ⟨nm.toArray⟩] (by kernel_rfl) rfl (by kernel_rfl) (by kernel_rfl) ?_
      refine (HNm _).out.mono ?_
      rintro e w7 ⟨rfl, rfl⟩
      refine ⟨_, rfl, Below.refl _ _, ?_⟩
      refine AnyB.take 6 (.bool false) rfl (by kernel_rfl) (by kernel_rfl) (by kernel_rfl) (fun _ _ _ h => h) (by kernel_rfl) (fun W hW => by kernel_rfl) ?_
      refine AnyB.take 7 (.bool false) rfl (by kernel_rfl) (by kernel_rfl) (by kernel_rfl) (fun _ _ _ h => h) (by kernel_rfl) (fun W hW => by kernel_rfl) ?_
      refine AnyB.take 8 (.slice (some ⟨g, o, none⟩) N c) rfl (by kernel_rfl) (by kernel_rfl) (by kernel_rfl) (fun _ _ _ h => h) (by kernel_rfl) (fun W hW => by kernel_rfl) ?_
      refine AnyB.take 9 (.int .i64 (k : Int)) rfl (by kernel_rfl) (by kernel_rfl) (by kernel_rfl) (fun _ _ _ h => h) (by kernel_rfl) (fun W hW => by kernel_rfl) ?_
      refine AnyB.take 10 (.pointer (some ⟨g, o + k * 2, none⟩)) rfl (by kernel_rfl) (by kernel_rfl) (by kernel_rfl) (fun _ _ _ h => h) (by kernel_rfl) (fun W hW => y_index (sv := .slice (some ⟨g, o, none⟩) N c) (iv := .int .i64 (k : Int)) rfl (by kernel_rfl) (by kernel_rfl) (at_r W g o N c k hkN)) ?_
      refine AnyB.take 11 (.pointer (some ⟨g, o + k * 2 + 1, none⟩)) rfl (by kernel_rfl) (by kernel_rfl) (by kernel_rfl) (fun _ _ _ h => h) (by kernel_rfl) (fun W hW => y_field (sv := .pointer (some ⟨g, o + k * 2, none⟩)) rfl (by kernel_rfl) (f_r1 W g (o + k * 2))) ?_
      refine AnyB.take 12 (.string ⟨di.toArray⟩) rfl (by kernel_rfl) (by kernel_rfl) (by kernel_rfl) (fun _ _ _ h => h) (by kernel_rfl) (fun W hW => y_load (sv := .pointer (some ⟨g, o + k * 2 + 1, none⟩)) rfl (by kernel_rfl) (l_S W g (o + k * 2 + 1) di (C1.out W (LD.out.trans (hW.mono LD.out.size))))) ?_
      refine AnyB.call 13 64 #[.string ⟨di.toArray⟩] (by kernel_rfl) rfl (by kernel_rfl) (by kernel_rfl) ?_
      refine (HDi _).out.mono ?_
      rintro e w7 ⟨rfl, rfl⟩
      refine ⟨_, rfl, Below.refl _ _, ?_⟩
      refine AnyB.take 14 (.bool false) rfl (by kernel_rfl) (by kernel_rfl) (by kernel_rfl) (fun _ _ _ h => h) (by kernel_rfl) (fun W hW => by kernel_rfl) ?_
      refine AnyB.take 15 (.bool false) rfl (by kernel_rfl) (by kernel_rfl) (by kernel_rfl) (fun _ _ _ h => h) (by kernel_rfl) (fun W hW => by kernel_rfl) ?_
      refine AnyB.take 16 (.bool false) rfl (by kernel_rfl) (by kernel_rfl) (by kernel_rfl) (fun _ _ _ h => h) (by kernel_rfl) (fun W hW => by kernel_rfl) ?_
      refine AnyB.take 17 (.int .i64 (k : Int)) rfl (by kernel_rfl) (by kernel_rfl) (by kernel_rfl) (fun _ _ _ h => h) (by kernel_rfl) (fun W hW => by kernel_rfl) ?_
      refine AnyB.take 18 (.bool false) rfl (by kernel_rfl) (by kernel_rfl) (by kernel_rfl) (fun _ _ _ h => h) (by kernel_rfl) (fun W hW => y_bin (x := .int .i64 (k : Int)) (y := .int .i64 0) rfl (by kernel_rfl) (by kernel_rfl) rfl (HG.out W)) ?_
      refine AnyB.take 19 (.bool false) rfl (by kernel_rfl) (by kernel_rfl) (by kernel_rfl) (fun _ _ _ h => h) (by kernel_rfl) (fun W hW => by kernel_rfl) ?_
      refine AnyB.skip 20 rfl (by kernel_rfl) (by kernel_rfl) (by kernel_rfl) (fun _ _ _ h => h) (by kernel_rfl) ?_
      refine AnyB.skip 21 rfl (by kernel_rfl) (by kernel_rfl) (by kernel_rfl) (fun _ _ _ h => h) (by kernel_rfl) ?_
      refine AnyB.skip 22 rfl (by kernel_rfl) (by kernel_rfl) (by kernel_rfl) (fun _ _ _ h => h) (by kernel_rfl) ?_
      refine AnyB.skip 23 rfl (by kernel_rfl) (by kernel_rfl) (by kernel_rfl) (fun _ _ _ h => h) (by kernel_rfl) ?_
      refine AnyB.skip 24 rfl (by kernel_rfl) (by kernel_rfl) (by kernel_rfl) (fun _ _ _ h => h) (by kernel_rfl) ?_
      refine AnyB.skip 25 rfl (by kernel_rfl) (by kernel_rfl) (by kernel_rfl) (fun _ _ _ h => h) (by kernel_rfl) ?_
      refine AnyB.skip 26 rfl (by kernel_rfl) (by kernel_rfl) (by kernel_rfl) (fun _ _ _ h => h) (by kernel_rfl) ?_
      refine AnyB.skip 27 rfl (by kernel_rfl) (by kernel_rfl) (by kernel_rfl) (fun _ _ _ h => h) (by kernel_rfl) ?_
      refine AnyB.skip 28 rfl (by kernel_rfl) (by kernel_rfl) (by kernel_rfl) (fun _ _ _ h => h) (by kernel_rfl) ?_
      refine AnyB.skip 29 rfl (by kernel_rfl) (by kernel_rfl) (by kernel_rfl) (fun _ _ _ h => h) (by kernel_rfl) ?_
      refine AnyB.skip 30 rfl (by kernel_rfl) (by kernel_rfl) (by kernel_rfl) (fun _ _ _ h => h) (by kernel_rfl) ?_
      refine AnyB.skip 31 rfl (by kernel_rfl) (by kernel_rfl) (by kernel_rfl) (fun _ _ _ h => h) (by kernel_rfl) ?_
      refine AnyB.take 32 (.bool false) rfl (by kernel_rfl) (by kernel_rfl) (by kernel_rfl) (fun _ _ _ h => h) (by kernel_rfl) (fun W hW => by kernel_rfl) ?_
      refine AnyB.take 33 (.bool false) rfl (by kernel_rfl) (by kernel_rfl) (by kernel_rfl) (fun _ _ _ h => h) (by kernel_rfl) (fun W hW => by kernel_rfl) ?_
      refine AnyB.done _ (by kernel_rfl) ?_
      go_simp
      clear HNm HDi
      go_wp2_with fail
      go_loopw [4] (fun i wr => ∃ j : Nat, j ≤ N ∧ i = .int .i64 j ∧ Hid (Below w.heap.size w wr) ∧ Hid (∀ i, i < j → ∀ y : Ref, l[i]? = some y → aboveB y.name nm = false)) (fun i _ => N - (intOf i).toNat)
      case atStart => exact ⟨0, Nat.zero_le _, rfl, LD, Lib.hid fun _ h => absurd h (Nat.not_lt_zero _)⟩
      case round =>
        obtain ⟨j, hj, rfl, hB2, hab⟩ := hrel
        by_cases hjN : j < N
        case neg =>
          have hjI : ¬ (j : Int) < (N : Int) := by omega
          have HO := Lib.hid (hok.out.succ HX.out Hn1.out Hn2.out H3.out (fun i y hy => hab.out i (by have := (List.getElem?_eq_some_iff.1 hy).1; have := HN.out; omega) y hy))
          clear hok hab hjN
          go_wp2_with fail
          go_roundw
          case rel => exact ⟨k + 1, by omega, by go_num, hB2, HO⟩
          case measure => simp [intOf]; omega
        have hjI : (j : Int) < (N : Int) := by omega
        obtain ⟨y, hy⟩ : ∃ y, l[j]? = some y := ⟨_, List.getElem?_eq_getElem (by have := HN.out; omega)⟩
        have hcl := fun W (hW : Below w.heap.size w W) => RefsR.cells (RdK.below HV.out hW (Nat.le_refl _)) hy
        have HY := Lib.hid hy
        obtain ⟨ny, iy⟩ := y
        simp only at hcl
        unfold SV at hcl
        have CJ := Lib.hid fun W hW => (hcl W hW).1
        have LD2 := LD
        clear LD
        have LD : Hid (Below w.heap.size w wr.drew) := Lib.hid hB2.out.drew
        have HAb := fun W => Lib.hid (Rabove_any ny nm W)
        clear hcl hy
        cases ha : aboveB ny nm with
        | true =>
          rw [ha] at HAb
          have HT := Lib.hid (HNo.out (no_above HX.out HY.out ha))
          clear ha hok hab
          go_wp2_with fail
          refine AnyB.start (by kernel_rfl) ?_
          refine AnyB.take 0 (.slice (some ⟨g, o, none⟩) N c) rfl (by kernel_rfl) (by kernel_rfl) (by kernel_rfl) (fun _ _ _ h => h) (by kernel_rfl) (fun W hW => by kernel_rfl) ?_
          refine AnyB.take 1 (.int .i64 (j : Int)) rfl (by kernel_rfl) (by kernel_rfl) (by kernel_rfl) (fun _ _ _ h => h) (by kernel_rfl) (fun W hW => by kernel_rfl) ?_
          refine AnyB.take 2 (.pointer (some ⟨g, o + j * 2, none⟩)) rfl (by kernel_rfl) (by kernel_rfl) (by kernel_rfl) (fun _ _ _ h => h) (by kernel_rfl) (fun W hW => y_index (sv := .slice (some ⟨g, o, none⟩) N c) (iv := .int .i64 (j : Int)) rfl (by kernel_rfl) (by kernel_rfl) (at_r W g o N c j hjN)) ?_
          refine AnyB.take 3 (.pointer (some ⟨g, o + j * 2, none⟩)) rfl (by kernel_rfl) (by kernel_rfl) (by kernel_rfl) (fun _ _ _ h => h) (by kernel_rfl) (fun W hW => y_field (sv := .pointer (some ⟨g, o + j * 2, none⟩)) rfl (by kernel_rfl) (f_r0 W g (o + j * 2))) ?_
          refine AnyB.take 4 (.string ⟨ny.toArray⟩) rfl (by kernel_rfl) (by kernel_rfl) (by kernel_rfl) (fun _ _ _ h => h) (by kernel_rfl) (fun W hW => y_load (sv := .pointer (some ⟨g, o + j * 2, none⟩)) rfl (by kernel_rfl) (l_S W g (o + j * 2) ny (CJ.out W (LD.out.trans (hW.mono LD.out.size))))) ?_
          refine AnyB.take 5 (.slice (some ⟨g, o, none⟩) N c) rfl (by kernel_rfl) (by kernel_rfl) (by kernel_rfl) (fun _ _ _ h => h) (by kernel_rfl) (fun W hW => by kernel_rfl) ?_
          refine AnyB.take 6 (.int .i64 (k : Int)) rfl (by kernel_rfl) (by kernel_rfl) (by kernel_rfl) (fun _ _ _ h => h) (by kernel_rfl) (fun W hW => by kernel_rfl) ?_
          refine AnyB.take 7 (.pointer (some ⟨g, o + k * 2, none⟩)) rfl (by kernel_rfl) (by kernel_rfl) (by kernel_rfl) (fun _ _ _ h => h) (by kernel_rfl) (fun W hW => y_index (sv := .slice (some ⟨g, o, none⟩) N c) (iv := .int .i64 (k : Int)) rfl (by kernel_rfl) (by kernel_rfl) (at_r W g o N c k hkN)) ?_
          refine AnyB.take 8 (.pointer (some ⟨g, o + k * 2, none⟩)) rfl (by kernel_rfl) (by kernel_rfl) (by kernel_rfl) (fun _ _ _ h => h) (by kernel_rfl) (fun W hW => y_field (sv := .pointer (some ⟨g, o + k * 2, none⟩)) rfl (by kernel_rfl) (f_r0 W g (o + k * 2))) ?_
          refine AnyB.take 9 (.string ⟨nm.toArray⟩) rfl (by kernel_rfl) (by kernel_rfl) (by kernel_rfl) (fun _ _ _ h => h) (by kernel_rfl) (fun W hW => y_load (sv := .pointer (some ⟨g, o + k * 2, none⟩)) rfl (by kernel_rfl) (l_S W g (o + k * 2) nm (C0.out W (LD.out.trans (hW.mono LD.out.size))))) ?_
          refine AnyB.call 10 65 #[.string ⟨ny.toArray⟩, .string ⟨nm.toArray⟩] (by kernel_rfl) rfl (by kernel_rfl) (by kernel_rfl) ?_
          refine (HAb _).out.mono ?_
          rintro e w7 ⟨rfl, rfl⟩
          refine ⟨_, rfl, Below.refl _ _, ?_⟩
          refine AnyB.done _ (by kernel_rfl) ?_
          go_simp
          clear HAb
          go_wp2_with fail
          go_ret
          exact ⟨ret_bool HT.out.symm, LD.out⟩
        | false =>
          rw [ha] at HAb
          have HAn : Hid (∀ i, i < j + 1 → ∀ y : Ref, l[i]? = some y → aboveB y.name nm = false) := Lib.hid fun i hi z hz => by
            rcases Nat.lt_or_ge i j with h | h
            · exact hab.out i h z hz
            · have e : i = j := by omega
              rw [e, HY.out] at hz
              cases hz; exact ha
          clear ha hab
          go_wp2_with fail
          refine AnyB.start (by kernel_rfl) ?_
          refine AnyB.take 0 (.slice (some ⟨g, o, none⟩) N c) rfl (by kernel_rfl) (by kernel_rfl) (by kernel_rfl) (fun _ _ _ h => h) (by kernel_rfl) (fun W hW => by kernel_rfl) ?_
          refine AnyB.take 1 (.int .i64 (j : Int)) rfl (by kernel_rfl) (by kernel_rfl) (by kernel_rfl) (fun _ _ _ h => h) (by kernel_rfl) (fun W hW => by kernel_rfl) ?_
          refine AnyB.take 2 (.pointer (some ⟨g, o + j * 2, none⟩)) rfl (by kernel_rfl) (by kernel_rfl) (by kernel_rfl) (fun _ _ _ h => h) (by kernel_rfl) (fun W hW => y_index (sv := .slice (some ⟨g, o, none⟩) N c) (iv := .int .i64 (j : Int)) rfl (by kernel_rfl) (by kernel_rfl) (at_r W g o N c j hjN)) ?_
          refine AnyB.take 3 (.pointer (some ⟨g, o + j * 2, none⟩)) rfl (by kernel_rfl) (by kernel_rfl) (by kernel_rfl) (fun _ _ _ h => h) (by kernel_rfl) (fun W hW => y_field (sv := .pointer (some ⟨g, o + j * 2, none⟩)) rfl (by kernel_rfl) (f_r0 W g (o + j * 2))) ?_
          refine AnyB.take 4 (.string ⟨ny.toArray⟩) rfl (by kernel_rfl) (by kernel_rfl) (by kernel_rfl) (fun _ _ _ h => h) (by kernel_rfl) (fun W hW => y_load (sv := .pointer (some ⟨g, o + j * 2, none⟩)) rfl (by kernel_rfl) (l_S W g (o + j * 2) ny (CJ.out W (LD.out.trans (hW.mono LD.out.size))))) ?_
          refine AnyB.take 5 (.slice (some ⟨g, o, none⟩) N c) rfl (by kernel_rfl) (by kernel_rfl) (by kernel_rfl) (fun _ _ _ h => h) (by kernel_rfl) (fun W hW => by kernel_rfl) ?_
          refine AnyB.take 6 (.int .i64 (k : Int)) rfl (by kernel_rfl) (by kernel_rfl) (by kernel_rfl) (fun _ _ _ h => h) (by kernel_rfl) (fun W hW => by kernel_rfl) ?_
          refine AnyB.take 7 (.pointer (some ⟨g, o + k * 2, none⟩)) rfl (by kernel_rfl) (by kernel_rfl) (by kernel_rfl) (fun _ _ _ h => h) (by kernel_rfl) (fun W hW => y_index (sv := .slice (some ⟨g, o, none⟩) N c) (iv := .int .i64 (k : Int)) rfl (by kernel_rfl) (by kernel_rfl) (at_r W g o N c k hkN)) ?_
          refine AnyB.take 8 (.pointer (some ⟨g, o + k * 2, none⟩)) rfl (by kernel_rfl) (by kernel_rfl) (by kernel_rfl) (fun _ _ _ h => h) (by kernel_rfl) (fun W hW => y_field (sv := .pointer (some ⟨g, o + k * 2, none⟩)) rfl (by kernel_rfl) (f_r0 W g (o + k * 2))) ?_
          refine AnyB.take 9 (.string ⟨nm.toArray⟩) rfl (by kernel_rfl) (by kernel_rfl) (by kernel_rfl) (fun _ _ _ h => h) (by kernel_rfl) (fun W hW => y_load (sv := .pointer (some ⟨g, o + k * 2, none⟩)) rfl (by kernel_rfl) (l_S W g (o + k * 2) nm (C0.out W (LD.out.trans (hW.mono LD.out.size))))) ?_
          refine AnyB.call 10 65 #[.string ⟨ny.toArray⟩, .string ⟨nm.toArray⟩] (by kernel_rfl) rfl (by kernel_rfl) (by kernel_rfl) ?_
          refine (HAb _).out.mono ?_
          rintro e w7 ⟨rfl, rfl⟩
          refine ⟨_, rfl, Below.refl _ _, ?_⟩
          refine AnyB.done _ (by kernel_rfl) ?_
          go_simp
          clear HAb
          go_wp2_with fail
          go_roundw
          case rel => exact ⟨j + 1, by omega, by go_num, LD, HAn⟩
          case measure => simp [intOf]; omega
    obtain ⟨m, rfl⟩ : ∃ m, k = m + 1 := ⟨k - 1, by omega⟩
    clear hk0
    have hmN : m < N := by omega
    obtain ⟨p, hp⟩ : ∃ p, l[m]? = some p := ⟨_, List.getElem?_eq_getElem (by have := HN.out; omega)⟩
    have hcl := fun W (hW : Below w.heap.size w W) => RefsR.cells (RdK.below HV.out hW (Nat.le_refl _)) hp
    have HP := Lib.hid hp
    obtain ⟨py, pi⟩ := p
    simp only at hcl
    unfold SV at hcl
    have CP := Lib.hid fun W hW => (hcl W hW).1
    have HG := Lib.hid fun W => gtr_yes W m
    have HSb := Lib.hid fun W => sub_one9 W m (by omega)
    clear hcl hp
    cases hge : decide (py < nm) with
    | false =>
      have HGe := Lib.hid fun W => ge_str W py nm true (by rw [hge]; rfl)
      have HT := Lib.hid (HNo.out (no_rise HX.out HP.out (Nat.lt_succ_self m) (of_decide_eq_false hge)))
      clear hge hok
      go_wp2_with fail
      refine AnyB.start (by kernel_rfl) ?_
      refine AnyB.take 0 (.slice (some ⟨g, o, none⟩) N c) rfl (by kernel_rfl) (by kernel_rfl) (by kernel_rfl) (fun _ _ _ h => h) (by kernel_rfl) (fun W hW => by kernel_rfl) ?_
      refine AnyB.take 1 (.int .i64 ((m + 1 : Nat) : Int)) rfl (by kernel_rfl) (by kernel_rfl) (by kernel_rfl) (fun _ _ _ h => h) (by kernel_rfl) (fun W hW => by kernel_rfl) ?_
      refine AnyB.take 2 (.pointer (some ⟨g, o + (m + 1) * 2, none⟩)) rfl (by kernel_rfl) (by kernel_rfl) (by kernel_rfl) (fun _ _ _ h => h) (by kernel_rfl) (fun W hW => y_index (sv := .slice (some ⟨g, o, none⟩) N c) (iv := .int .i64 ((m + 1 : Nat) : Int)) rfl (by kernel_rfl) (by kernel_rfl) (at_r W g o N c (m + 1) hkN)) ?_
      refine AnyB.take 3 (.pointer (some ⟨g, o + (m + 1) * 2, none⟩)) rfl (by kernel_rfl) (by kernel_rfl) (by kernel_rfl) (fun _ _ _ h => h) (by kernel_rfl) (fun W hW => y_field (sv := .pointer (some ⟨g, o + (m + 1) * 2, none⟩)) rfl (by kernel_rfl) (f_r0 W g (o + (m + 1) * 2))) ?_
      refine AnyB.take 4 (.string ⟨nm.toArray⟩) rfl (by kernel_rfl) (by kernel_rfl) (by kernel_rfl) (fun _ _ _ h => h) (by kernel_rfl) (fun W hW => y_load (sv := .pointer (some ⟨g, o + (m + 1) * 2, none⟩)) rfl (by kernel_rfl) (l_S W g (o + (m + 1) * 2) nm (C0.out W (LD.out.trans (hW.mono LD.out.size))))) ?_
      refine AnyB.call 5 38 #[.string ⟨nm.toArray⟩] (by kernel_rfl) rfl (by kernel_rfl) (by kernel_rfl) ?_
      refine (HNm _).out.mono ?_
      rintro e w7 ⟨rfl, rfl⟩
      refine ⟨_, rfl, Below.refl _ _, ?_⟩
      refine AnyB.take 6 (.bool false) rfl (by kernel_rfl) (by kernel_rfl) (by kernel_rfl) (fun _ _ _ h => h) (by kernel_rfl) (fun W hW => by kernel_rfl) ?_
      refine AnyB.take 7 (.bool false) rfl (by kernel_rfl) (by kernel_rfl) (by kernel_rfl) (fun _ _ _ h => h) (by kernel_rfl) (fun W hW => by kernel_rfl) ?_
      refine AnyB.take 8 (.slice (some ⟨g, o, none⟩) N c) rfl (by kernel_rfl) (by kernel_rfl) (by kernel_rfl) (fun _ _ _ h => h) (by kernel_rfl) (fun W hW => by kernel_rfl) ?_
      refine AnyB.take 9 (.int .i64 ((m + 1 : Nat) : Int)) rfl (by kernel_rfl) (by kernel_rfl) (by kernel_rfl) (fun _ _ _ h => h) (by kernel_rfl) (fun W hW => by kernel_rfl) ?_
      refine AnyB.take 10 (.pointer (some ⟨g, o + (m + 1) * 2, none⟩)) rfl (by kernel_rfl) (by kernel_rfl) (by kernel_rfl) (fun _ _ _ h => h) (by kernel_rfl) (fun W hW => y_index (sv := .slice (some ⟨g, o, none⟩) N c) (iv := .int .i64 ((m + 1 : Nat) : Int)) rfl (by kernel_rfl) (by kernel_rfl) (at_r W g o N c (m + 1) hkN)) ?_
      refine AnyB.take 11 (.pointer (some ⟨g, o + (m + 1) * 2 + 1, none⟩)) rfl (by kernel_rfl) (by kernel_rfl) (by kernel_rfl) (fun _ _ _ h => h) (by kernel_rfl) (fun W hW => y_field (sv := .pointer (some ⟨g, o + (m + 1) * 2, none⟩)) rfl (by kernel_rfl) (f_r1 W g (o + (m + 1) * 2))) ?_
      refine AnyB.take 12 (.string ⟨di.toArray⟩) rfl (by kernel_rfl) (by kernel_rfl) (by kernel_rfl) (fun _ _ _ h => h) (by kernel_rfl) (fun W hW => y_load (sv := .pointer (some ⟨g, o + (m + 1) * 2 + 1, none⟩)) rfl (by kernel_rfl) (l_S W g (o + (m + 1) * 2 + 1) di (C1.out W (LD.out.trans (hW.mono LD.out.size))))) ?_
      refine AnyB.call 13 64 #[.string ⟨di.toArray⟩] (by kernel_rfl) rfl (by kernel_rfl) (by kernel_rfl) ?_
      refine (HDi _).out.mono ?_
      rintro e w7 ⟨rfl, rfl⟩
      refine ⟨_, rfl, Below.refl _ _, ?_⟩
      refine AnyB.take 14 (.bool false) rfl (by kernel_rfl) (by kernel_rfl) (by kernel_rfl) (fun _ _ _ h => h) (by kernel_rfl) (fun W hW => by kernel_rfl) ?_
      refine AnyB.take 15 (.bool false) rfl (by kernel_rfl) (by kernel_rfl) (by kernel_rfl) (fun _ _ _ h => h) (by kernel_rfl) (fun W hW => by kernel_rfl) ?_
      refine AnyB.take 16 (.bool false) rfl (by kernel_rfl) (by kernel_rfl) (by kernel_rfl) (fun _ _ _ h => h) (by kernel_rfl) (fun W hW => by kernel_rfl) ?_
      refine AnyB.take 17 (.int .i64 ((m + 1 : Nat) : Int)) rfl (by kernel_rfl) (by kernel_rfl) (by kernel_rfl) (fun _ _ _ h => h) (by kernel_rfl) (fun W hW => by kernel_rfl) ?_
      refine AnyB.take 18 (.bool true) rfl (by kernel_rfl) (by kernel_rfl) (by kernel_rfl) (fun _ _ _ h => h) (by kernel_rfl) (fun W hW => y_bin (x := .int .i64 ((m + 1 : Nat) : Int)) (y := .int .i64 0) rfl (by kernel_rfl) (by kernel_rfl) rfl (HG.out W)) ?_
      refine AnyB.take 19 (.bool true) rfl (by kernel_rfl) (by kernel_rfl) (by kernel_rfl) (fun _ _ _ h => h) (by kernel_rfl) (fun W hW => by kernel_rfl) ?_
      refine AnyB.take 20 (.slice (some ⟨g, o, none⟩) N c) rfl (by kernel_rfl) (by kernel_rfl) (by kernel_rfl) (fun _ _ _ h => h) (by kernel_rfl) (fun W hW => by kernel_rfl) ?_
      refine AnyB.take 21 (.int .i64 ((m + 1 : Nat) : Int)) rfl (by kernel_rfl) (by kernel_rfl) (by kernel_rfl) (fun _ _ _ h => h) (by kernel_rfl) (fun W hW => by kernel_rfl) ?_
      refine AnyB.take 22 (.int .i64 (m : Int)) rfl (by kernel_rfl) (by kernel_rfl) (by kernel_rfl) (fun _ _ _ h => h) (by kernel_rfl) (fun W hW => y_bin (x := .int .i64 ((m + 1 : Nat) : Int)) (y := .int .i64 1) rfl (by kernel_rfl) (by kernel_rfl) rfl (HSb.out W)) ?_
      refine AnyB.take 23 (.pointer (some ⟨g, o + m * 2, none⟩)) rfl (by kernel_rfl) (by kernel_rfl) (by kernel_rfl) (fun _ _ _ h => h) (by kernel_rfl) (fun W hW => y_index (sv := .slice (some ⟨g, o, none⟩) N c) (iv := .int .i64 (m : Int)) rfl (by kernel_rfl) (by kernel_rfl) (at_r W g o N c m hmN)) ?_
      refine AnyB.take 24 (.pointer (some ⟨g, o + m * 2, none⟩)) rfl (by kernel_rfl) (by kernel_rfl) (by kernel_rfl) (fun _ _ _ h => h) (by kernel_rfl) (fun W hW => y_field (sv := .pointer (some ⟨g, o + m * 2, none⟩)) rfl (by kernel_rfl) (f_r0 W g (o + m * 2))) ?_
      refine AnyB.take 25 (.string ⟨py.toArray⟩) rfl (by kernel_rfl) (by kernel_rfl) (by kernel_rfl) (fun _ _ _ h => h) (by kernel_rfl) (fun W hW => y_load (sv := .pointer (some ⟨g, o + m * 2, none⟩)) rfl (by kernel_rfl) (l_S W g (o + m * 2) py (CP.out W (LD.out.trans (hW.mono LD.out.size))))) ?_
      refine AnyB.take 26 (.slice (some ⟨g, o, none⟩) N c) rfl (by kernel_rfl) (by kernel_rfl) (by kernel_rfl) (fun _ _ _ h => h) (by kernel_rfl) (fun W hW => by kernel_rfl) ?_
      refine AnyB.take 27 (.int .i64 ((m + 1 : Nat) : Int)) rfl (by kernel_rfl) (by kernel_rfl) (by kernel_rfl) (fun _ _ _ h => h) (by kernel_rfl) (fun W hW => by kernel_rfl) ?_
      refine AnyB.take 28 (.pointer (some ⟨g, o + (m + 1) * 2, none⟩)) rfl (by kernel_rfl) (by kernel_rfl) (by kernel_rfl) (fun _ _ _ h => h) (by kernel_rfl) (fun W hW => y_index (sv := .slice (some ⟨g, o, none⟩) N c) (iv := .int .i64 ((m + 1 : Nat) : Int)) rfl (by kernel_rfl) (by kernel_rfl) (at_r W g o N c (m + 1) hkN)) ?_
      refine AnyB.take 29 (.pointer (some ⟨g, o + (m + 1) * 2, none⟩)) rfl (by kernel_rfl) (by kernel_rfl) (by kernel_rfl) (fun _ _ _ h => h) (by kernel_rfl) (fun W hW => y_field (sv := .pointer (some ⟨g, o + (m + 1) * 2, none⟩)) rfl (by kernel_rfl) (f_r0 W g (o + (m + 1) * 2))) ?_
      refine AnyB.take 30 (.string ⟨nm.toArray⟩) rfl (by kernel_rfl) (by kernel_rfl) (by kernel_rfl) (fun _ _ _ h => h) (by kernel_rfl) (fun W hW => y_load (sv := .pointer (some ⟨g, o + (m + 1) * 2, none⟩)) rfl (by kernel_rfl) (l_S W g (o + (m + 1) * 2) nm (C0.out W (LD.out.trans (hW.mono LD.out.size))))) ?_
      refine AnyB.take 31 (.bool true) rfl (by kernel_rfl) (by kernel_rfl) (by kernel_rfl) (fun _ _ _ h => h) (by kernel_rfl) (fun W hW => y_bin (x := .string ⟨py.toArray⟩) (y := .string ⟨nm.toArray⟩) rfl (by kernel_rfl) (by kernel_rfl) rfl (HGe.out W)) ?_
      refine AnyB.take 32 (.bool true) rfl (by kernel_rfl) (by kernel_rfl) (by kernel_rfl) (fun _ _ _ h => h) (by kernel_rfl) (fun W hW => by kernel_rfl) ?_
      refine AnyB.take 33 (.bool true) rfl (by kernel_rfl) (by kernel_rfl) (by kernel_rfl) (fun _ _ _ h => h) (by kernel_rfl) (fun W hW => by kernel_rfl) ?_
      refine AnyB.done _ (by kernel_rfl) ?_
      go_simp
      clear HNm HDi
      go_wp2_with fail
      go_ret
      exact ⟨ret_bool HT.out.symm, LD.out⟩
    | true =>
      have HGe := Lib.hid fun W => ge_str W py nm false (by rw [hge]; rfl)
      have H3 : Hid (∀ (j : Nat) (y : Ref), m + 1 = j + 1 → l[j]? = some y → y.name < nm) := Lib.hid fun j y h hy => by
        have e : j = m := by omega
        rw [e, HP.out] at hy
        cases hy; exact of_decide_eq_true hge
      clear hge
      go_wp2_with fail
      refine AnyB.start (by kernel_rfl) ?_
      refine AnyB.take 0 (.slice (some ⟨g, o, none⟩) N c) rfl (by kernel_rfl) (by kernel_rfl) (by kernel_rfl) (fun _ _ _ h => h) (by kernel_rfl) (fun W hW => by kernel_rfl) ?_
      refine AnyB.take 1 (.int .i64 ((m + 1 : Nat) : Int)) rfl (by kernel_rfl) (by kernel_rfl) (by kernel_rfl) (fun _ _ _ h => h) (by kernel_rfl) (fun W hW => by kernel_rfl) ?_
      refine AnyB.take 2 (.pointer (some ⟨g, o + (m + 1) * 2, none⟩)) rfl (by kernel_rfl) (by kernel_rfl) (by kernel_rfl) (fun _ _ _ h => h) (by kernel_rfl) (fun W hW => y_index (sv := .slice (some ⟨g, o, none⟩) N c) (iv := .int .i64 ((m + 1 : Nat) : Int)) rfl (by kernel_rfl) (by kernel_rfl) (at_r W g o N c (m + 1) hkN)) ?_
      refine AnyB.take 3 (.pointer (some ⟨g, o + (m + 1) * 2, none⟩)) rfl (by kernel_rfl) (by kernel_rfl) (by kernel_rfl) (fun _ _ _ h => h) (by kernel_rfl) (fun W hW => y_field (sv := .pointer (some ⟨g, o + (m + 1) * 2, none⟩)) rfl (by kernel_rfl) (f_r0 W g (o + (m + 1) * 2))) ?_
      refine AnyB.take 4 (.string ⟨nm.toArray⟩) rfl (by kernel_rfl) (by kernel_rfl) (by kernel_rfl) (fun _ _ _ h => h) (by kernel_rfl) (fun W hW => y_load (sv := .pointer (some ⟨g, o + (m + 1) * 2, none⟩)) rfl (by kernel_rfl) (l_S W g (o + (m + 1) * 2) nm (C0.out W (LD.out.trans (hW.mono LD.out.size))))) ?_
      refine AnyB.call 5 38 #[.string ⟨nm.toArray⟩] (by kernel_rfl) rfl (by kernel_rfl) (by kernel_rfl) ?_
      refine (HNm _).out.mono ?_
      rintro e w7 ⟨rfl, rfl⟩
      refine ⟨_, rfl, Below.refl _ _, ?_⟩
      refine AnyB.take 6 (.bool false) rfl (by kernel_rfl) (by kernel_rfl) (by kernel_rfl) (fun _ _ _ h => h) (by kernel_rfl) (fun W hW => by kernel_rfl) ?_
      refine AnyB.take 7 (.bool false) rfl (by kernel_rfl) (by kernel_rfl) (by kernel_rfl) (fun _ _ _ h => h) (by kernel_rfl) (fun W hW => by kernel_rfl) ?_
      refine AnyB.take 8 (.slice (some ⟨g, o, none⟩) N c) rfl (by kernel_rfl) (by kernel_rfl) (by kernel_rfl) (fun _ _ _ h => h) (by kernel_rfl) (fun W hW => by kernel_rfl) ?_
      refine AnyB.take 9 (.int .i64 ((m + 1 : Nat) : Int)) rfl (by kernel_rfl) (by kernel_rfl) (by kernel_rfl) (fun _ _ _ h => h) (by kernel_rfl) (fun W hW => by kernel_rfl) ?_
      refine AnyB.take 10 (.pointer (some ⟨g, o + (m + 1) * 2, none⟩)) rfl (by kernel_rfl) (by kernel_rfl) (by kernel_rfl) (fun _ _ _ h => h) (by kernel_rfl) (fun W hW => y_index (sv := .slice (some ⟨g, o, none⟩) N c) (iv := .int .i64 ((m + 1 : Nat) : Int)) rfl (by kernel_rfl) (by kernel_rfl) (at_r W g o N c (m + 1) hkN)) ?_
      refine AnyB.take 11 (.pointer (some ⟨g, o + (m + 1) * 2 + 1, none⟩)) rfl (by kernel_rfl) (by kernel_rfl) (by kernel_rfl) (fun _ _ _ h => h) (by kernel_rfl) (fun W hW => y_field (sv := .pointer (some ⟨g, o + (m + 1) * 2, none⟩)) rfl (by kernel_rfl) (f_r1 W g (o + (m + 1) * 2))) ?_
      refine AnyB.take 12 (.string ⟨di.toArray⟩) rfl (by kernel_rfl) (by kernel_rfl) (by kernel_rfl) (fun _ _ _ h => h) (by kernel_rfl) (fun W hW => y_load (sv := .pointer (some ⟨g, o + (m + 1) * 2 + 1, none⟩)) rfl (by kernel_rfl) (l_S W g (o + (m + 1) * 2 + 1) di (C1.out W (LD.out.trans (hW.mono LD.out.size))))) ?_
      refine AnyB.call 13 64 #[.string ⟨di.toArray⟩] (by kernel_rfl) rfl (by kernel_rfl) (by kernel_rfl) ?_
      refine (HDi _).out.mono ?_
      rintro e w7 ⟨rfl, rfl⟩
      refine ⟨_, rfl, Below.refl _ _, ?_⟩
      refine AnyB.take 14 (.bool false) rfl (by kernel_rfl) (by kernel_rfl) (by kernel_rfl) (fun _ _ _ h => h) (by kernel_rfl) (fun W hW => by kernel_rfl) ?_
      refine AnyB.take 15 (.bool false) rfl (by kernel_rfl) (by kernel_rfl) (by kernel_rfl) (fun _ _ _ h => h) (by kernel_rfl) (fun W hW => by kernel_rfl) ?_
      refine AnyB.take 16 (.bool false) rfl (by kernel_rfl) (by kernel_rfl) (by kernel_rfl) (fun _ _ _ h => h) (by kernel_rfl) (fun W hW => by kernel_rfl) ?_
      refine AnyB.take 17 (.int .i64 ((m + 1 : Nat) : Int)) rfl (by kernel_rfl) (by kernel_rfl) (by kernel_rfl) (fun _ _ _ h => h) (by kernel_rfl) (fun W hW => by kernel_rfl) ?_
      refine AnyB.take 18 (.bool true) rfl (by kernel_rfl) (by kernel_rfl) (by kernel_rfl) (fun _ _ _ h => h) (by kernel_rfl) (fun W hW => y_bin (x := .int .i64 ((m + 1 : Nat) : Int)) (y := .int .i64 0) rfl (by kernel_rfl) (by kernel_rfl) rfl (HG.out W)) ?_
      refine AnyB.take 19 (.bool true) rfl (by kernel_rfl) (by kernel_rfl) (by kernel_rfl) (fun _ _ _ h => h) (by kernel_rfl) (fun W hW => by kernel_rfl) ?_
      refine AnyB.take 20 (.slice (some ⟨g, o, none⟩) N c) rfl (by kernel_rfl) (by kernel_rfl) (by kernel_rfl) (fun _ _ _ h => h) (by kernel_rfl) (fun W hW => by kernel_rfl) ?_
      refine AnyB.take 21 (.int .i64 ((m + 1 : Nat) : Int)) rfl (by kernel_rfl) (by kernel_rfl) (by kernel_rfl) (fun _ _ _ h => h) (by kernel_rfl) (fun W hW => by kernel_rfl) ?_
      refine AnyB.take 22 (.int .i64 (m : Int)) rfl (by kernel_rfl) (by kernel_rfl) (by kernel_rfl) (fun _ _ _ h => h) (by kernel_rfl) (fun W hW => y_bin (x := .int .i64 ((m + 1 : Nat) : Int)) (y := .int .i64 1) rfl (by kernel_rfl) (by kernel_rfl) rfl (HSb.out W)) ?_
      refine AnyB.take 23 (.pointer (some ⟨g, o + m * 2, none⟩)) rfl (by kernel_rfl) (by kernel_rfl) (by kernel_rfl) (fun _ _ _ h => h) (by kernel_rfl) (fun W hW => y_index (sv := .slice (some ⟨g, o, none⟩) N c) (iv := .int .i64 (m : Int)) rfl (by kernel_rfl) (by kernel_rfl) (at_r W g o N c m hmN)) ?_
      refine AnyB.take 24 (.pointer (some ⟨g, o + m * 2, none⟩)) rfl (by kernel_rfl) (by kernel_rfl) (by kernel_rfl) (fun _ _ _ h => h) (by kernel_rfl) (fun W hW => y_field (sv := .pointer (some ⟨g, o + m * 2, none⟩)) rfl (by kernel_rfl) (f_r0 W g (o + m * 2))) ?_
      refine AnyB.take 25 (.string ⟨py.toArray⟩) rfl (by kernel_rfl) (by kernel_rfl) (by kernel_rfl) (fun _ _ _ h => h) (by kernel_rfl) (fun W hW => y_load (sv := .pointer (some ⟨g, o + m * 2, none⟩)) rfl (by kernel_rfl) (l_S W g (o + m * 2) py (CP.out W (LD.out.trans (hW.mono LD.out.size))))) ?_
      refine AnyB.take 26 (.slice (some ⟨g, o, none⟩) N c) rfl (by kernel_rfl) (by kernel_rfl) (by kernel_rfl) (fun _ _ _ h => h) (by kernel_rfl) (fun W hW => by kernel_rfl) ?_
      refine AnyB.take 27 (.int .i64 ((m + 1 : Nat) : Int)) rfl (by kernel_rfl) (by kernel_rfl) (by kernel_rfl) (fun _ _ _ h => h) (by kernel_rfl) (fun W hW => by kernel_rfl) ?_
      refine AnyB.take 28 (.pointer (some ⟨g, o + (m + 1) * 2, none⟩)) rfl (by kernel_rfl) (by kernel_rfl) (by kernel_rfl) (fun _ _ _ h => h) (by kernel_rfl) (fun W hW => y_index (sv := .slice (some ⟨g, o, none⟩) N c) (iv := .int .i64 ((m + 1 : Nat) : Int)) rfl (by kernel_rfl) (by kernel_rfl) (at_r W g o N c (m + 1) hkN)) ?_
      refine AnyB.take 29 (.pointer (some ⟨g, o + (m + 1) * 2, none⟩)) rfl (by kernel_rfl) (by kernel_rfl) (by kernel_rfl) (fun _ _ _ h => h) (by kernel_rfl) (fun W hW => y_field (sv := .pointer (some ⟨g, o + (m + 1) * 2, none⟩)) rfl (by kernel_rfl) (f_r0 W g (o + (m + 1) * 2))) ?_
      refine AnyB.take 30 (.string ⟨nm.toArray⟩) rfl (by kernel_rfl) (by kernel_rfl) (by kernel_rfl) (fun _ _ _ h => h) (by kernel_rfl) (fun W hW => y_load (sv := .pointer (some ⟨g, o + (m + 1) * 2, none⟩)) rfl (by kernel_rfl) (l_S W g (o + (m + 1) * 2) nm (C0.out W (LD.out.trans (hW.mono LD.out.size))))) ?_
      refine AnyB.take 31 (.bool false) rfl (by kernel_rfl) (by kernel_rfl) (by kernel_rfl) (fun _ _ _ h => h) (by kernel_rfl) (fun W hW => y_bin (x := .string ⟨py.toArray⟩) (y := .string ⟨nm.toArray⟩) rfl (by kernel_rfl) (by kernel_rfl) rfl (HGe.out W)) ?_
      refine AnyB.take 32 (.bool false) rfl (by kernel_rfl) (by kernel_rfl) (by kernel_rfl) (fun _ _ _ h => h) (by kernel_rfl) (fun W hW => by kernel_rfl) ?_
      refine AnyB.take 33 (.bool false) rfl (by kernel_rfl) (by kernel_rfl) (by kernel_rfl) (fun _ _ _ h => h) (by kernel_rfl) (fun W hW => by kernel_rfl) ?_
      refine AnyB.done _ (by kernel_rfl) ?_
      go_simp
      clear HNm HDi
      go_wp2_with fail
      go_loopw [4] (fun i wr => ∃ j : Nat, j ≤ N ∧ i = .int .i64 j ∧ Hid (Below w.heap.size w wr) ∧ Hid (∀ i, i < j → ∀ y : Ref, l[i]? = some y → aboveB y.name nm = false)) (fun i _ => N - (intOf i).toNat)
      case atStart => exact ⟨0, Nat.zero_le _, rfl, LD, Lib.hid fun _ h => absurd h (Nat.not_lt_zero _)⟩
      case round =>
        obtain ⟨j, hj, rfl, hB2, hab⟩ := hrel
        by_cases hjN : j < N
        case neg =>
          have hjI : ¬ (j : Int) < (N : Int) := by omega
          have HO := Lib.hid (hok.out.succ HX.out Hn1.out Hn2.out H3.out (fun i y hy => hab.out i (by have := (List.getElem?_eq_some_iff.1 hy).1; have := HN.out; omega) y hy))
          clear hok hab hjN
          go_wp2_with fail
          go_roundw
          case rel => exact ⟨(m + 1) + 1, by omega, by go_num, hB2, HO⟩
          case measure => simp [intOf]; omega
        have hjI : (j : Int) < (N : Int) := by omega
        obtain ⟨y, hy⟩ : ∃ y, l[j]? = some y := ⟨_, List.getElem?_eq_getElem (by have := HN.out; omega)⟩
        have hcl := fun W (hW : Below w.heap.size w W) => RefsR.cells (RdK.below HV.out hW (Nat.le_refl _)) hy
        have HY := Lib.hid hy
        obtain ⟨ny, iy⟩ := y
        simp only at hcl
        unfold SV at hcl
        have CJ := Lib.hid fun W hW => (hcl W hW).1
        have LD2 := LD
        clear LD
        have LD : Hid (Below w.heap.size w wr.drew) := Lib.hid hB2.out.drew
        have HAb := fun W => Lib.hid (Rabove_any ny nm W)
        clear hcl hy
        cases ha : aboveB ny nm with
        | true =>
          rw [ha] at HAb
          have HT := Lib.hid (HNo.out (no_above HX.out HY.out ha))
          clear ha hok hab
          go_wp2_with fail
          refine AnyB.start (by kernel_rfl) ?_
          refine AnyB.take 0 (.slice (some ⟨g, o, none⟩) N c) rfl (by kernel_rfl) (by kernel_rfl) (by kernel_rfl) (fun _ _ _ h => h) (by kernel_rfl) (fun W hW => by kernel_rfl) ?_
          refine AnyB.take 1 (.int .i64 (j : Int)) rfl (by kernel_rfl) (by kernel_rfl) (by kernel_rfl) (fun _ _ _ h => h) (by kernel_rfl) (fun W hW => by kernel_rfl) ?_
          refine AnyB.take 2 (.pointer (some ⟨g, o + j * 2, none⟩)) rfl (by kernel_rfl) (by kernel_rfl) (by kernel_rfl) (fun _ _ _ h => h) (by kernel_rfl) (fun W hW => y_index (sv := .slice (some ⟨g, o, none⟩) N c) (iv := .int .i64 (j : Int)) rfl (by kernel_rfl) (by kernel_rfl) (at_r W g o N c j hjN)) ?_
          refine AnyB.take 3 (.pointer (some ⟨g, o + j * 2, none⟩)) rfl (by kernel_rfl) (by kernel_rfl) (by kernel_rfl) (fun _ _ _ h => h) (by kernel_rfl) (fun W hW => y_field (sv := .pointer (some ⟨g, o + j * 2, none⟩)) rfl (by kernel_rfl) (f_r0 W g (o + j * 2))) ?_
          refine AnyB.take 4 (.string ⟨ny.toArray⟩) rfl (by kernel_rfl) (by kernel_rfl) (by kernel_rfl) (fun _ _ _ h => h) (by kernel_rfl) (fun W hW => y_load (sv := .pointer (some ⟨g, o + j * 2, none⟩)) rfl (by kernel_rfl) (l_S W g (o + j * 2) ny (CJ.out W (LD.out.trans (hW.mono LD.out.size))))) ?_
          refine AnyB.take 5 (.slice (some ⟨g, o, none⟩) N c) rfl (by kernel_rfl) (by kernel_rfl) (by kernel_rfl) (fun _ _ _ h => h) (by kernel_rfl) (fun W hW => by kernel_rfl) ?_
          refine AnyB.take 6 (.int .i64 ((m + 1 : Nat) : Int)) rfl (by kernel_rfl) (by kernel_rfl) (by kernel_rfl) (fun _ _ _ h => h) (by kernel_rfl) (fun W hW => by kernel_rfl) ?_
          refine AnyB.take 7 (.pointer (some ⟨g, o + (m + 1) * 2, none⟩)) rfl (by kernel_rfl) (by kernel_rfl) (by kernel_rfl) (fun _ _ _ h => h) (by kernel_rfl) (fun W hW => y_index (sv := .slice (some ⟨g, o, none⟩) N c) (iv := .int .i64 ((m + 1 : Nat) : Int)) rfl (by kernel_rfl) (by kernel_rfl) (at_r W g o N c (m + 1) hkN)) ?_
          refine AnyB.take 8 (.pointer (some ⟨g, o + (m + 1) * 2, none⟩)) rfl (by kernel_rfl) (by kernel_rfl) (by kernel_rfl) (fun _ _ _ h => h) (by kernel_rfl) (fun W hW => y_field (sv := .pointer (some ⟨g, o + (m + 1) * 2, none⟩)) rfl (by kernel_rfl) (f_r0 W g (o + (m + 1) * 2))) ?_
          refine AnyB.take 9 (.string ⟨nm.toArray⟩) rfl (by kernel_rfl) (by kernel_rfl) (by kernel_rfl) (fun _ _ _ h => h) (by kernel_rfl) (fun W hW => y_load (sv := .pointer (some ⟨g, o + (m + 1) * 2, none⟩)) rfl (by kernel_rfl) (l_S W g (o + (m + 1) * 2) nm (C0.out W (LD.out.trans (hW.mono LD.out.size))))) ?_
          refine AnyB.call 10 65 #[.string ⟨ny.toArray⟩, .string ⟨nm.toArray⟩] (by kernel_rfl) rfl (by kernel_rfl) (by kernel_rfl) ?_
          refine (HAb _).out.mono ?_
          rintro e w7 ⟨rfl, rfl⟩
          refine ⟨_, rfl, Below.refl _ _, ?_⟩
          refine AnyB.done _ (by kernel_rfl) ?_
          go_simp
          clear HAb
          go_wp2_with fail
          go_ret
          exact ⟨ret_bool HT.out.symm, LD.out⟩
        | false =>
          rw [ha] at HAb
          have HAn : Hid (∀ i, i < j + 1 → ∀ y : Ref, l[i]? = some y → aboveB y.name nm = false) := Lib.hid fun i hi z hz => by
            rcases Nat.lt_or_ge i j with h | h
            · exact hab.out i h z hz
            · have e : i = j := by omega
              rw [e, HY.out] at hz
              cases hz; exact ha
          clear ha hab
          go_wp2_with fail
          refine AnyB.start (by kernel_rfl) ?_
          refine AnyB.take 0 (.slice (some ⟨g, o, none⟩) N c) rfl (by kernel_rfl) (by kernel_rfl) (by kernel_rfl) (fun _ _ _ h => h) (by kernel_rfl) (fun W hW => by kernel_rfl) ?_
          refine AnyB.take 1 (.int .i64 (j : Int)) rfl (by kernel_rfl) (by kernel_rfl) (by kernel_rfl) (fun _ _ _ h => h) (by kernel_rfl) (fun W hW => by kernel_rfl) ?_
          refine AnyB.take 2 (.pointer (some ⟨g, o + j * 2, none⟩)) rfl (by kernel_rfl) (by kernel_rfl) (by kernel_rfl) (fun _ _ _ h => h) (by kernel_rfl) (fun W hW => y_index (sv := .slice (some ⟨g, o, none⟩) N c) (iv := .int .i64 (j : Int)) rfl (by kernel_rfl) (by kernel_rfl) (at_r W g o N c j hjN)) ?_
          refine AnyB.take 3 (.pointer (some ⟨g, o + j * 2, none⟩)) rfl (by kernel_rfl) (by kernel_rfl) (by kernel_rfl) (fun _ _ _ h => h) (by kernel_rfl) (fun W hW => y_field (sv := .pointer (some ⟨g, o + j * 2, none⟩)) rfl (by kernel_rfl) (f_r0 W g (o + j * 2))) ?_
          refine AnyB.take 4 (.string ⟨ny.toArray⟩) rfl (by kernel_rfl) (by kernel_rfl) (by kernel_rfl) (fun _ _ _ h => h) (by kernel_rfl) (fun W hW => y_load (sv := .pointer (some ⟨g, o + j * 2, none⟩)) rfl (by kernel_rfl) (l_S W g (o + j * 2) ny (CJ.out W (LD.out.trans (hW.mono LD.out.size))))) ?_
          refine AnyB.take 5 (.slice (some ⟨g, o, none⟩) N c) rfl (by kernel_rfl) (by kernel_rfl) (by kernel_rfl) (fun _ _ _ h => h) (by kernel_rfl) (fun W hW => by kernel_rfl) ?_
          refine AnyB.take 6 (.int .i64 ((m + 1 : Nat) : Int)) rfl (by kernel_rfl) (by kernel_rfl) (by kernel_rfl) (fun _ _ _ h => h) (by kernel_rfl) (fun W hW => by kernel_rfl) ?_
          refine AnyB.take 7 (.pointer (some ⟨g, o + (m + 1) * 2, none⟩)) rfl (by kernel_rfl) (by kernel_rfl) (by kernel_rfl) (fun _ _ _ h => h) (by kernel_rfl) (fun W hW => y_index (sv := .slice (some ⟨g, o, none⟩) N c) (iv := .int .i64 ((m + 1 : Nat) : Int)) rfl (by kernel_rfl) (by kernel_rfl) (at_r W g o N c (m + 1) hkN)) ?_
          refine AnyB.take 8 (.pointer (some ⟨g, o + (m + 1) * 2, none⟩)) rfl (by kernel_rfl) (by kernel_rfl) (by kernel_rfl) (fun _ _ _ h => h) (by kernel_rfl) (fun W hW => y_field (sv := .pointer (some ⟨g, o + (m + 1) * 2, none⟩)) rfl (by kernel_rfl) (f_r0 W g (o + (m + 1) * 2))) ?_
          refine AnyB.take 9 (.string ⟨nm.toArray⟩) rfl (by kernel_rfl) (by kernel_rfl) (by kernel_rfl) (fun _ _ _ h => h) (by kernel_rfl) (fun W hW => y_load (sv := .pointer (some ⟨g, o + (m + 1) * 2, none⟩)) rfl (by kernel_rfl) (l_S W g (o + (m + 1) * 2) nm (C0.out W (LD.out.trans (hW.mono LD.out.size))))) ?_
          refine AnyB.call 10 65 #[.string ⟨ny.toArray⟩, .string ⟨nm.toArray⟩] (by kernel_rfl) rfl (by kernel_rfl) (by kernel_rfl) ?_
          refine (HAb _).out.mono ?_
          rintro e w7 ⟨rfl, rfl⟩
          refine ⟨_, rfl, Below.refl _ _, ?_⟩
          refine AnyB.done _ (by kernel_rfl) ?_
          go_simp
          clear HAb
          go_wp2_with fail
          go_roundw
          case rel => exact ⟨j + 1, by omega, by go_num, LD, HAn⟩
          case measure => simp [intOf]; omega

/-! RDocP -/
theorem add_S (W : World) (a b t : Bs) (ht : t = a ++ b) (ha : a.length ≤ 1000000) (hb : b.length ≤ 1000000) : (binOp .add 9 (.string ⟨a.toArray⟩) (.string ⟨b.toArray⟩)).run Tryz.prog W = .ok (.string ⟨t.toArray⟩) W := by
  show (Op.stringOp .add _ _).run _ _ = _
  exact cat_run a b _ (by rw [ht]) ha hb W
set_option maxRecDepth 100000 in
set_option maxHeartbeats 8000000 in
theorem RPut_any (l : List Ref) (v : Value) (w : World) (hv : RefsR w v l) (hf : Fit l) (hl : l.length ≤ 1000000) : Calls Tryz.prog 28 #[v] w (PutP l w) := by
  obtain ⟨A, c, rfl⟩ := hv.shape
  obtain ⟨N, hN⟩ : ∃ N, N = l.length := ⟨_, rfl⟩
  have HC := Lib.hid (RRight_any l _ w hv hf hl)
  rw [← hN] at hv HC ⊢
  have HV := Lib.hid hv
  have HN := Lib.hid hN
  clear hv hf hl hN
  by_cases hr : Right l
  case neg =>
    rw [rightB_no hr] at HC
    have HR := Lib.hid hr
    clear hr
    go_enter Tryz.func28, Tryz.ntmps28
    go_wp2_with fail
    refine HC.out.mono ?_
    rintro e w1 ⟨rfl, hb⟩
    have HB := Lib.hid hb
    clear hb
    go_wp2_with fail
    go_ret2
    exact ⟨.inr ⟨rfl, HR.out⟩, HB.out⟩
  rw [rightB_yes hr] at HC
  have HR := Lib.hid hr
  have hl : N ≤ 64 := by rw [HN.out]; exact hr.len
  have HI : Hid (∀ x ∈ l, nameB x.name = true ∧ namedB x.id = true) := Lib.hid fun x hx => ⟨hr.name x hx, hr.id x hx⟩
  clear hr
  go_enter Tryz.func28, Tryz.ntmps28
  go_wp2_with fail
  refine HC.out.mono ?_
  rintro e w1 ⟨rfl, l1⟩
  have L1 := Lib.hid l1
  clear l1
  go_wp2_with fail
  go_loopw [4, 5] (fun v4 vi wr => ∃ (k : Nat) (t : Bs), k ≤ N ∧ vi = .int .i64 k ∧ v4 = .string ⟨t.toArray⟩ ∧ Hid (t = linesL (l.take k)) ∧ Hid (Below w.heap.size w wr)) (fun _ vi _ => N - (intOf vi).toNat)
  case atStart => exact ⟨0, [], Nat.zero_le _, rfl, rfl, Lib.hid rfl, L1⟩
  case round =>
    obtain ⟨k, t, hk, rfl, rfl, ht, hB⟩ := hrel
    by_cases hkN : k < N
    case neg =>
      have hkI : ¬ (k : Int) < (N : Int) := by omega
      have HT : Hid (t = linesL l) := Lib.hid (by rw [ht.out, show k = l.length by have := HN.out; omega, List.take_length])
      clear ht hkN
      go_wp2_with fail
      go_ret2
      exact ⟨.inl ⟨by rw [← HT.out]; rfl, HR.out⟩, hB.out⟩
    have hkI : (k : Int) < (N : Int) := by omega
    obtain ⟨g, o, c', e, _, _⟩ := HV.out.pos (by have := HN.out; omega)
    obtain rfl : A = some ⟨g, o, none⟩ := by rw [← HN.out] at e; cases e; rfl
    clear e
    obtain ⟨x, hx⟩ : ∃ x, l[k]? = some x := ⟨_, List.getElem?_eq_getElem (by have := HN.out; omega)⟩
    have hcl := fun W (hW : Below w.heap.size w W) => RefsR.cells (RdK.below HV.out hW (Nat.le_refl _)) hx
    obtain ⟨i1, i2⟩ := HI.out x (List.mem_of_getElem? hx)
    have n1 := nameB_len i1
    have n2 := named_len64 i2
    have htl : t.length ≤ 10000 := by
      have h1 := linesL_len (l := l.take k) (fun y hy => HI.out y (List.mem_of_mem_take hy))
      rw [ht.out]
      rw [List.length_take] at h1
      omega
    have hs := linesL_snoc hx
    rw [← ht.out] at hs
    obtain ⟨nm, di⟩ := x
    simp only at n1 n2 hcl
    unfold SV at hcl
    have C0 := Lib.hid fun W hW => (hcl W hW).1
    have C1 := Lib.hid fun W hW => (hcl W hW).2
    obtain ⟨t1, ht1⟩ : ∃ t1, t1 = t ++ di := ⟨_, rfl⟩
    obtain ⟨t2, ht2⟩ : ∃ t2, t2 = t1 ++ [32] := ⟨_, rfl⟩
    obtain ⟨t3, ht3⟩ : ∃ t3, t3 = t2 ++ nm := ⟨_, rfl⟩
    obtain ⟨t4, ht4⟩ : ∃ t4, t4 = t3 ++ [10] := ⟨_, rfl⟩
    have HS : Hid (t4 = linesL (l.take (k + 1))) := Lib.hid (by rw [hs, ht4, ht3, ht2, ht1]; unfold lineL; simp)
    have l1 : t1.length ≤ 11000 := by rw [ht1, List.length_append]; omega
    have l2 : t2.length ≤ 12000 := by rw [ht2, List.length_append]; simp; omega
    have l3 : t3.length ≤ 13000 := by rw [ht3, List.length_append]; omega
    have r1 := Lib.hid fun W => add_S W t di t1 ht1 (by omega) (by omega)
    have r2 := Lib.hid fun W => add_S W t1 [32] t2 ht2 (by omega) (by simp)
    have r3 := Lib.hid fun W => add_S W t2 nm t3 ht3 (by omega) (by omega)
    have r4 := Lib.hid fun W => add_S W t3 [10] t4 ht4 (by omega) (by simp)
    have LD : Hid (Below w.heap.size w wr.drew) := Lib.hid hB.out.drew
    clear hcl hx i1 i2 n1 n2 htl hs ht1 ht2 ht3 ht4 l1 l2 l3 ht hB
    go_wp2_with fail
    refine AnyB.start (by kernel_rfl) ?_
    refine AnyB.take 0 (.string ⟨t.toArray⟩) rfl (by kernel_rfl) (by kernel_rfl) (by kernel_rfl) (fun _ _ _ h => h) (by kernel_rfl) (fun W hW => by kernel_rfl) ?_
    refine AnyB.take 1 (.slice (some ⟨g, o, none⟩) N c) rfl (by kernel_rfl) (by kernel_rfl) (by kernel_rfl) (fun _ _ _ h => h) (by kernel_rfl) (fun W hW => by kernel_rfl) ?_
    refine AnyB.take 2 (.int .i64 (k : Int)) rfl (by kernel_rfl) (by kernel_rfl) (by kernel_rfl) (fun _ _ _ h => h) (by kernel_rfl) (fun W hW => by kernel_rfl) ?_
    refine AnyB.take 3 (.pointer (some ⟨g, o + k * 2, none⟩)) rfl (by kernel_rfl) (by kernel_rfl) (by kernel_rfl) (fun _ _ _ h => h) (by kernel_rfl) (fun W hW => y_index (sv := .slice (some ⟨g, o, none⟩) N c) (iv := .int .i64 (k : Int)) rfl (by kernel_rfl) (by kernel_rfl) (at_r W g o N c k hkN)) ?_
    refine AnyB.take 4 (.pointer (some ⟨g, o + k * 2 + 1, none⟩)) rfl (by kernel_rfl) (by kernel_rfl) (by kernel_rfl) (fun _ _ _ h => h) (by kernel_rfl) (fun W hW => y_field (sv := .pointer (some ⟨g, o + k * 2, none⟩)) rfl (by kernel_rfl) (f_r1 W g (o + k * 2))) ?_
    refine AnyB.take 5 (.string ⟨di.toArray⟩) rfl (by kernel_rfl) (by kernel_rfl) (by kernel_rfl) (fun _ _ _ h => h) (by kernel_rfl) (fun W hW => y_load (sv := .pointer (some ⟨g, o + k * 2 + 1, none⟩)) rfl (by kernel_rfl) (l_S W g (o + k * 2 + 1) di (C1.out W (LD.out.trans (hW.mono LD.out.size))))) ?_
    refine AnyB.take 6 (.string ⟨t1.toArray⟩) rfl (by kernel_rfl) (by kernel_rfl) (by kernel_rfl) (fun _ _ _ h => h) (by kernel_rfl) (fun W hW => y_bin (x := .string ⟨t.toArray⟩) (y := .string ⟨di.toArray⟩) rfl (by kernel_rfl) (by kernel_rfl) rfl (r1.out W)) ?_
    refine AnyB.take 7 (.string ⟨t2.toArray⟩) rfl (by kernel_rfl) (by kernel_rfl) (by kernel_rfl) (fun _ _ _ h => h) (by kernel_rfl) (fun W hW => y_bin (x := .string ⟨t1.toArray⟩) (y := .string ⟨([32] : Bs).toArray⟩) rfl (by kernel_rfl) (by kernel_rfl) rfl (r2.out W)) ?_
    refine AnyB.take 8 (.slice (some ⟨g, o, none⟩) N c) rfl (by kernel_rfl) (by kernel_rfl) (by kernel_rfl) (fun _ _ _ h => h) (by kernel_rfl) (fun W hW => by kernel_rfl) ?_
    refine AnyB.take 9 (.int .i64 (k : Int)) rfl (by kernel_rfl) (by kernel_rfl) (by kernel_rfl) (fun _ _ _ h => h) (by kernel_rfl) (fun W hW => by kernel_rfl) ?_
    refine AnyB.take 10 (.pointer (some ⟨g, o + k * 2, none⟩)) rfl (by kernel_rfl) (by kernel_rfl) (by kernel_rfl) (fun _ _ _ h => h) (by kernel_rfl) (fun W hW => y_index (sv := .slice (some ⟨g, o, none⟩) N c) (iv := .int .i64 (k : Int)) rfl (by kernel_rfl) (by kernel_rfl) (at_r W g o N c k hkN)) ?_
    refine AnyB.take 11 (.pointer (some ⟨g, o + k * 2, none⟩)) rfl (by kernel_rfl) (by kernel_rfl) (by kernel_rfl) (fun _ _ _ h => h) (by kernel_rfl) (fun W hW => y_field (sv := .pointer (some ⟨g, o + k * 2, none⟩)) rfl (by kernel_rfl) (f_r0 W g (o + k * 2))) ?_
    refine AnyB.take 12 (.string ⟨nm.toArray⟩) rfl (by kernel_rfl) (by kernel_rfl) (by kernel_rfl) (fun _ _ _ h => h) (by kernel_rfl) (fun W hW => y_load (sv := .pointer (some ⟨g, o + k * 2, none⟩)) rfl (by kernel_rfl) (l_S W g (o + k * 2) nm (C0.out W (LD.out.trans (hW.mono LD.out.size))))) ?_
    refine AnyB.take 13 (.string ⟨t3.toArray⟩) rfl (by kernel_rfl) (by kernel_rfl) (by kernel_rfl) (fun _ _ _ h => h) (by kernel_rfl) (fun W hW => y_bin (x := .string ⟨t2.toArray⟩) (y := .string ⟨nm.toArray⟩) rfl (by kernel_rfl) (by kernel_rfl) rfl (r3.out W)) ?_
    refine AnyB.take 14 (.string ⟨t4.toArray⟩) rfl (by kernel_rfl) (by kernel_rfl) (by kernel_rfl) (fun _ _ _ h => h) (by kernel_rfl) (fun W hW => y_bin (x := .string ⟨t3.toArray⟩) (y := .string ⟨([10] : Bs).toArray⟩) rfl (by kernel_rfl) (by kernel_rfl) rfl (r4.out W)) ?_
    refine AnyB.take 15 (.string ⟨t4.toArray⟩) rfl (by kernel_rfl) (by kernel_rfl) (by kernel_rfl) (fun _ _ _ h => h) (by kernel_rfl) (fun W hW => by kernel_rfl) ?_
    refine AnyB.done _ (by kernel_rfl) ?_
    go_simp
    go_wp2_with fail
    go_roundw
    case rel => exact ⟨k + 1, t4, by omega, by go_num, rfl, HS, LD⟩
    case measure => simp [intOf]; omega

/-! RDocG -/
/-- What the document has read ahead of place a. -/
structure RGI (s : Bs) (a : Nat) (l : List Ref) : Prop where
  all : ∀ m, IsGet s m → ∃ t, m = l ++ t ∧ linesL t = s.drop a
  fit : ∀ r ∈ l, r.name.length ≤ s.length ∧ r.id.length ≤ s.length
  few : l.length ≤ a
theorem RGI.start (s : Bs) : RGI s 0 [] := ⟨fun m h => ⟨m, rfl, h.2⟩, (fun _ h => by cases h), Nat.le_refl _⟩
theorem RGI.only {s : Bs} {l m : List Ref} (h : RGI s s.length l) (hm : IsGet s m) : m = l := by
  obtain ⟨t, e, ht⟩ := h.all m hm
  rw [List.drop_length] at ht
  cases t with
  | nil => rw [e, List.append_nil]
  | cons r t => rw [linesL_cons] at ht; have := congrArg List.length ht; simp [lineL] at this
theorem RGI.line {s : Bs} {a : Nat} {l m : List Ref} (h : RGI s a l) (ha : a < s.length) (hm : IsGet s m) : ∃ r t, m = l ++ r :: t ∧ lineL r ++ linesL t = s.drop a ∧ nameB r.name = true ∧ namedB r.id = true := by
  obtain ⟨t, e, ht⟩ := h.all m hm
  cases t with
  | nil =>
    have := congrArg List.length ht
    rw [List.length_drop] at this; simp [linesL] at this; omega
  | cons r t =>
    have hr := hm.1.each r (by rw [e]; simp)
    exact ⟨r, t, e, ht, hr.1, hr.2⟩
theorem cut_here {s : Bs} {a e : Nat} (ha : a ≤ e) (he : e < s.length) (hc : s[e] = 10) (hn : (10 : UInt8) ∉ (s.take e).drop a) : cutAt 10 (s.drop a) = some ((s.take e).drop a, s.drop (e + 1)) := by
  have e1 : s.drop a = (s.take e).drop a ++ 10 :: s.drop (e + 1) := by
    have h1 := List.take_append_drop e s
    have h2 : s.drop e = s[e] :: s.drop (e + 1) := List.drop_eq_getElem_cons he
    rw [h2, hc] at h1
    have h3 := congrArg (List.drop a) h1
    rw [List.drop_append_of_le_length (by rw [List.length_take]; omega)] at h3
    exact h3.symm
  rw [e1]; exact cut_mk hn
theorem RGI.no_end {s : Bs} {a : Nat} {l : List Ref} (h : RGI s a l) (ha : a < s.length) (hn : (10 : UInt8) ∉ (s.take s.length).drop a) : ∀ m, ¬ IsGet s m := fun m hm => by
  obtain ⟨r, t, _, ht, _, _⟩ := h.line ha hm
  rw [List.take_length, ← ht] at hn
  exact hn (by simp [lineL])
theorem RGI.parts {s : Bs} {a e : Nat} {l m : List Ref} (h : RGI s a l) (ha : a ≤ e) (he : e < s.length) (hc : s[e] = 10) (hn : (10 : UInt8) ∉ (s.take e).drop a) (hm : IsGet s m) : ∃ r t, m = l ++ r :: t ∧ r.id ++ 32 :: r.name = (s.take e).drop a ∧ linesL t = s.drop (e + 1) ∧ r.id.length = 64 := by
  obtain ⟨r, t, e1, ht, h1, h2⟩ := h.line (Nat.lt_of_le_of_lt ha he) hm
  have h3 := (line_cut h1 h2 (linesL t)).1
  rw [ht, cut_here ha he hc hn] at h3
  injection h3 with h3
  injection h3 with h4 h5
  exact ⟨r, t, e1, h4.symm, h5.symm, named_len64 h2⟩
theorem RGI.short {s : Bs} {a e : Nat} {l : List Ref} (h : RGI s a l) (ha : a ≤ e) (he : e < s.length) (hc : s[e] = 10) (hn : (10 : UInt8) ∉ (s.take e).drop a) (hs : e < a + 65) : ∀ m, ¬ IsGet s m := fun m hm => by
  obtain ⟨r, t, _, h1, _, h2⟩ := h.parts ha he hc hn hm
  have := congrArg List.length h1
  rw [List.length_drop, List.length_take, List.length_append, List.length_cons, h2] at this
  omega
theorem RGI.step {s : Bs} {a e : Nat} {l : List Ref} (h : RGI s a l) (ha : a + 65 ≤ e) (he : e < s.length) (hc : s[e] = 10) (hn : (10 : UInt8) ∉ (s.take e).drop a) : RGI s (e + 1) (l ++ [⟨(s.take e).drop (a + 65), (s.take (a + 64)).drop a⟩]) where
  all := fun m hm => by
    obtain ⟨r, t, e1, h1, h2, h3⟩ := h.parts (by omega) he hc hn hm
    refine ⟨t, ?_, h2⟩
    have n1 : (s.take e).drop (a + 65) = r.name := by
      rw [← List.drop_drop, ← h1, List.drop_append, h3]
      simp [List.drop_of_length_le (show r.id.length ≤ 65 by omega)]
    have n2 : (s.take (a + 64)).drop a = r.id := by
      have e2 : (s.take (a + 64)).drop a = ((s.take e).drop a).take 64 := by
        rw [List.drop_take, List.drop_take, List.take_take]; congr 1; omega
      rw [e2, ← h1, ← h3, List.take_left]
    rw [e1, n1, n2]; simp
  fit := fun r hr => by
    rcases List.mem_append.1 hr with hr | hr
    · exact h.fit r hr
    · rw [List.mem_singleton.1 hr]
      simp only [List.length_drop, List.length_take]
      omega
  few := by have := h.few; rw [List.length_append]; simp; omega
theorem add_n (W : World) (a b : Nat) (h : a + b ≤ 100000000) : (binOp .add 3 (.int .i64 (a : Int)) (.int .i64 (b : Int))).run Tryz.prog W = .ok (.int .i64 ((a + b : Nat) : Int)) W := by
  have h : IntKind.i64.wrap ((a : Int) + (b : Int)) = ((a + b : Nat) : Int) := by
    rw [show (a : Int) + (b : Int) = ((a + b : Nat) : Int) by omega]
    exact IntWalk.i64_in _ (by omega)
  simp [go_sem, h]
theorem cut_two9 (W : World) (s t : Bs) (lo hi : Nat) (h1 : lo ≤ hi) (h2 : hi ≤ s.length) (ht : (⟨s.toArray⟩ : ByteArray).extract lo hi = ⟨t.toArray⟩) : (Instr.sliceAt 9 (.string ⟨s.toArray⟩) (some (.int .i64 (lo : Int))) (some (.int .i64 (hi : Int))) none).run Tryz.prog W = .ok (.string ⟨t.toArray⟩) W := by
  rw [run_sliceAt_string W _ _ _ _ _ Tryz.underlying9, run_slice_string W _ _ _ _ _ _ Tryz.underlying9 (by omega) (by omega) (by show (hi : Int) ≤ (s.length : Int); omega), Int.toNat_natCast, Int.toNat_natCast, ht]
theorem bld_r (W : World) (a b : Bs) : (Instr.build 75 #[(1, .string ⟨b.toArray⟩), (0, .string ⟨a.toArray⟩)]).run Tryz.prog W = .ok (.agg #[.string ⟨a.toArray⟩, .string ⟨b.toArray⟩]) W := by kernel_rfl
theorem bldS_r (W : World) (a b : Bs) : (Instr.buildSlice 40 1 #[(0, .agg #[.string ⟨a.toArray⟩, .string ⟨b.toArray⟩])]).run Tryz.prog W = .ok (.slice (some ⟨W.heap.size, 0, none⟩) 1 1) (W.alloc (.cells #[.string ⟨a.toArray⟩, .string ⟨b.toArray⟩] 75)) := by kernel_rfl
theorem ne_ten (x : UInt8) (b : Bool) (h : (x == 10) = !b) : ((x.toNat : Int) != 10) = b := by
  have h5 : ((x.toNat : Int) == 10) = (x == 10) := u8_beq x 10 (by decide)
  show (!((x.toNat : Int) == 10)) = b
  rw [h5, h]; cases b <;> rfl
set_option maxRecDepth 100000 in
set_option maxHeartbeats 8000000 in
theorem RGet_any (s : Bs) (w : World) (hs : s.length ≤ 900000) : Calls Tryz.prog 33 #[.string ⟨s.toArray⟩] w (GetP s w) := by
  obtain ⟨n, hn⟩ : ∃ n, n = s.length := ⟨_, rfl⟩
  have HN := Lib.hid hn
  clear hn
  go_enter Tryz.func33, Tryz.ntmps33
  go_wp2_with fail
  go_loopw [4, 5] (fun v4 v5 wr => ∃ (a : Nat) (l : List Ref), a ≤ s.length ∧ v5 = .int .i64 a ∧ Hid (RGI s a l) ∧ Hid (OwR wr w.heap.size v4 l) ∧ Hid (Below w.heap.size w wr)) (fun _ v5 _ => s.length - (intOf v5).toNat)
  case atStart => exact ⟨0, [], Nat.zero_le _, rfl, Lib.hid (RGI.start s), Lib.hid (OwK.nil _ _ _ _ _), Lib.hid (Below.refl _ _)⟩
  case round =>
    obtain ⟨a, l, ha, rfl, hI, hO, hB⟩ := hrel
    obtain ⟨A, k, c, hv4, hk⟩ := OwK.shape hO.out
    subst hv4
    have HK := Lib.hid hk
    clear hk
    by_cases hlt : a < s.length
    case neg =>
      have hltI : ¬ (a : Int) < (s.length : Int) := by omega
      have hIe : RGI s s.length l := by have := hI.out; rw [show a = s.length by omega] at this; exact this
      have hP := RPut_any l (.slice A k c) wr (OwK.rd refC_len hO.out) (fun r hr => by have := hIe.fit r hr; unfold maxLen; omega) (by have := hIe.few; omega)
      have HP := Lib.hid hP
      have HIe := Lib.hid hIe
      clear hlt hIe hP hI
      go_wp2_with fail
      refine HP.out.mono ?_
      rintro e w2 ⟨⟨rfl, hr⟩ | ⟨rfl, hr⟩, hb⟩
      · have HB := Lib.hid (hB.out.trans (hb.mono hB.out.size))
        have HO := Lib.hid (hO.out.below hb (Nat.le_refl _))
        have HR := Lib.hid hr
        obtain ⟨L, hL⟩ : ∃ L, L = linesL l := ⟨_, rfl⟩
        rw [← hL]
        have HL := Lib.hid hL
        unfold SV
        clear hb hO hB hL hr HP
        by_cases he : L = s
        · have hbe : (L == s) = true := beq_iff_eq.2 he
          have HG : Hid (IsGet s l) := Lib.hid ⟨HR.out, by rw [← HL.out, he]⟩
          clear he
          go_wp2_with fail
          go_ret2
          exact ⟨.inl ⟨_, l, rfl, HO.out, HG.out⟩, HB.out⟩
        · have hbe : (L == s) = false := beq_eq_false_iff_ne.2 he
          have HG : Hid (∀ m, ¬ IsGet s m) := Lib.hid fun m hm => he (by rw [HL.out, ← HIe.out.only hm]; exact hm.2)
          clear he
          go_wp2_with fail
          go_ret2
          exact ⟨.inr ⟨rfl, HG.out⟩, HB.out⟩
      · have HB := Lib.hid (hB.out.trans (hb.mono hB.out.size))
        have HG : Hid (∀ m, ¬ IsGet s m) := Lib.hid fun m hm => hr (by rw [← HIe.out.only hm]; exact hm.1)
        unfold SV
        clear hb hO hB hr HP
        go_wp2_with fail
        go_ret2
        exact ⟨.inr ⟨rfl, HG.out⟩, HB.out⟩
    have hltI : (a : Int) < (s.length : Int) := by omega
    clear hlt
    go_wp2_with fail
    go_loop [6] (fun v6 => ∃ e : Nat, a ≤ e ∧ e ≤ s.length ∧ v6 = .int .i64 e ∧ Hid ((10 : UInt8) ∉ (s.take e).drop a)) (fun v6 => s.length - (intOf v6).toNat)
    case atStart => exact ⟨a, Nat.le_refl _, ha, rfl, Lib.hid (by rw [List.drop_of_length_le (by rw [List.length_take]; omega)]; simp)⟩
    case round =>
      obtain ⟨e, hae, he, rfl, hn⟩ := hrel
      by_cases hgo : ∃ h : e < s.length, s[e] ≠ 10
      · obtain ⟨hlt, hne⟩ := hgo
        have hx : ((((⟨s.toArray⟩ : ByteArray)[e]'hlt).toNat : Int) != 10) = true := ne_ten s[e] true (beq_eq_false_iff_ne.2 hne)
        have HN : Hid ((10 : UInt8) ∉ (s.take (e + 1)).drop a) := Lib.hid (by
          rw [List.take_succ_eq_append_getElem hlt, List.drop_append_of_le_length (by rw [List.length_take]; omega)]
          intro hm
          rcases List.mem_append.1 hm with hm | hm
          · exact hn.out hm
          · exact hne (List.mem_singleton.1 hm).symm)
        clear hn hne
        go_wp2
        go_round
        case rel => exact ⟨e + 1, by omega, hlt, by go_num, HN⟩
        case measure => simp [intOf]; omega
      have hend : e = s.length ∨ ∃ h : e < s.length, s[e] = 10 := by
        by_cases h : e < s.length
        · exact .inr ⟨h, Classical.byContradiction fun hne => hgo ⟨h, hne⟩⟩
        · exact .inl (by omega)
      clear hgo
      rcases hend with hend | ⟨hlt, hc⟩
      · have HG := Lib.hid (hI.out.no_end (by omega) (by have := hn.out; rw [hend] at this; exact this))
        have hltI2 : ¬ (e : Int) < (s.length : Int) := by omega
        have hee : ((e : Int) == (s.length : Int)) = true := by simp; omega
        clear hn hI hend
        go_wp2_with fail
        go_ret2
        exact ⟨.inr ⟨rfl, HG.out⟩, hB.out⟩
      have hx : ((((⟨s.toArray⟩ : ByteArray)[e]'hlt).toNat : Int) != 10) = false := ne_ten s[e] false (by rw [hc]; rfl)
      have hee : ((e : Int) == (s.length : Int)) = false := by simp; omega
      by_cases h65 : e < a + 65
      · have HG := Lib.hid (hI.out.short hae hlt hc hn.out h65)
        have h65I : (e : Int) - (a : Int) < 65 := by omega
        clear hn hI hc h65
        go_wp2_with fail
        go_ret2
        exact ⟨.inr ⟨rfl, HG.out⟩, hB.out⟩
      have h65I : ¬ (e : Int) - (a : Int) < 65 := by omega
      have HI := Lib.hid (hI.out.step (by omega) hlt hc hn.out)
      obtain ⟨nm, hnm⟩ : ∃ nm, nm = (s.take e).drop (a + 65) := ⟨_, rfl⟩
      obtain ⟨di, hdi⟩ : ∃ di, di = (s.take (a + 64)).drop a := ⟨_, rfl⟩
      rw [← hnm, ← hdi] at HI
      have c1 := Lib.hid fun W => cut_two9 W s di a (a + 64) (by omega) (by omega) (by rw [extract_S, hdi])
      have c2 := Lib.hid fun W => cut_two9 W s nm (a + 65) e (by omega) (by omega) (by rw [extract_S, hnm])
      have b1 := Lib.hid fun W => add_n W a 64 (by omega)
      have b2 := Lib.hid fun W => add_n W a 65 (by omega)
      have LD : Hid (Below w.heap.size w wr.drew) := Lib.hid hB.out.drew
      have hOd : OwR wr.drew w.heap.size (.slice A k c) l := hO.out
      obtain ⟨v', w5, r13, o13, l13, _⟩ := run_appK elRef (m := [⟨nm, di⟩]) (hOd.below (below_new wr.drew (.cells #[.string ⟨nm.toArray⟩, .string ⟨di.toArray⟩] 75)) (Nat.le_refl _)) ⟨wr.drew.heap.size, 0, none⟩ 1 1 rfl (fun j u hj => by
        have e0 : (refC ⟨nm, di⟩)[j]? = some u := by simpa using hj
        rw [Addr.add_lit, Nat.zero_add, cell_of_row _ _ j _ _ _ (heap_alloc_new wr.drew _)]
        simpa [refC, SV] using e0) (by have := hI.out.few; simp; omega) (by decide) (Nat.le_trans LD.out.size (below_new wr.drew (.cells #[.string ⟨nm.toArray⟩, .string ⟨di.toArray⟩] 75)).size) 40
      have LA := Lib.hid (LD.out.trans ((below_new wr.drew (.cells #[.string ⟨nm.toArray⟩, .string ⟨di.toArray⟩] 75)).mono LD.out.size))
      have L5 := Lib.hid (LA.out.trans l13)
      have O5 := Lib.hid o13; have R5 := Lib.hid r13
      clear r13 o13 l13 hOd hO hB hnm hdi hn hI hc h65
      go_wp2_with fail
      refine AnyK.start w.heap.size w (by kernel_rfl) ?_
      refine AnyK.take 0 (.slice A k c) LD.out rfl (by kernel_rfl) (by kernel_rfl) (by kernel_rfl) (fun _ _ _ h => h) (by kernel_rfl) (fun W hW => by kernel_rfl) ?_
      refine AnyK.take 1 (.string ⟨s.toArray⟩) LD.out rfl (by kernel_rfl) (by kernel_rfl) (by kernel_rfl) (fun _ _ _ h => h) (by kernel_rfl) (fun W hW => by kernel_rfl) ?_
      refine AnyK.take 2 (.int .i64 (a : Int)) LD.out rfl (by kernel_rfl) (by kernel_rfl) (by kernel_rfl) (fun _ _ _ h => h) (by kernel_rfl) (fun W hW => by kernel_rfl) ?_
      refine AnyK.take 3 (.int .i64 (a : Int)) LD.out rfl (by kernel_rfl) (by kernel_rfl) (by kernel_rfl) (fun _ _ _ h => h) (by kernel_rfl) (fun W hW => by kernel_rfl) ?_
      refine AnyK.take 4 (.int .i64 ((a + 64 : Nat) : Int)) LD.out rfl (by kernel_rfl) (by kernel_rfl) (by kernel_rfl) (fun _ _ _ h => h) (by kernel_rfl) (fun W hW => y_bin (x := .int .i64 (a : Int)) (y := .int .i64 ((64 : Nat) : Int)) rfl (by kernel_rfl) (by kernel_rfl) rfl (b1.out W)) ?_
      refine AnyK.take 5 (.string ⟨di.toArray⟩) LD.out rfl (by kernel_rfl) (by kernel_rfl) (by kernel_rfl) (fun _ _ _ h => h) (by kernel_rfl) (fun W hW => y_slice (xv := .string ⟨s.toArray⟩) (lv := some (.int .i64 (a : Int))) (hv := some (.int .i64 ((a + 64 : Nat) : Int))) (mv := none) rfl (by kernel_rfl) (by kernel_rfl) (by kernel_rfl) (by kernel_rfl) (c1.out W)) ?_
      refine AnyK.take 6 (.string ⟨s.toArray⟩) LD.out rfl (by kernel_rfl) (by kernel_rfl) (by kernel_rfl) (fun _ _ _ h => h) (by kernel_rfl) (fun W hW => by kernel_rfl) ?_
      refine AnyK.take 7 (.int .i64 (a : Int)) LD.out rfl (by kernel_rfl) (by kernel_rfl) (by kernel_rfl) (fun _ _ _ h => h) (by kernel_rfl) (fun W hW => by kernel_rfl) ?_
      refine AnyK.take 8 (.int .i64 ((a + 65 : Nat) : Int)) LD.out rfl (by kernel_rfl) (by kernel_rfl) (by kernel_rfl) (fun _ _ _ h => h) (by kernel_rfl) (fun W hW => y_bin (x := .int .i64 (a : Int)) (y := .int .i64 ((65 : Nat) : Int)) rfl (by kernel_rfl) (by kernel_rfl) rfl (b2.out W)) ?_
      refine AnyK.take 9 (.int .i64 (e : Int)) LD.out rfl (by kernel_rfl) (by kernel_rfl) (by kernel_rfl) (fun _ _ _ h => h) (by kernel_rfl) (fun W hW => by kernel_rfl) ?_
      refine AnyK.take 10 (.string ⟨nm.toArray⟩) LD.out rfl (by kernel_rfl) (by kernel_rfl) (by kernel_rfl) (fun _ _ _ h => h) (by kernel_rfl) (fun W hW => y_slice (xv := .string ⟨s.toArray⟩) (lv := some (.int .i64 ((a + 65 : Nat) : Int))) (hv := some (.int .i64 (e : Int))) (mv := none) rfl (by kernel_rfl) (by kernel_rfl) (by kernel_rfl) (by kernel_rfl) (c2.out W)) ?_
      refine AnyK.take 11 (.agg #[.string ⟨nm.toArray⟩, .string ⟨di.toArray⟩]) LD.out rfl (by kernel_rfl) (by kernel_rfl) (by kernel_rfl) (fun _ _ _ h => h) (by kernel_rfl) (fun W hW => y_bld (ps := #[(1, .string ⟨di.toArray⟩), (0, .string ⟨nm.toArray⟩)]) rfl (by kernel_rfl) (bld_r W nm di)) ?_
      refine AnyK.op 12 (.slice (some ⟨wr.drew.heap.size, 0, none⟩) 1 1) (wr.drew.alloc (.cells #[.string ⟨nm.toArray⟩, .string ⟨di.toArray⟩] 75)) (by kernel_rfl) rfl (by kernel_rfl) (y_build (ps := #[(0, .agg #[.string ⟨nm.toArray⟩, .string ⟨di.toArray⟩])]) rfl (by kernel_rfl) (bldS_r wr.drew nm di)) LA.out ?_
      refine AnyK.op 13 v' w5 (by kernel_rfl) rfl (by kernel_rfl) (y_append (sv := .slice A k c) (yv := .slice (some ⟨wr.drew.heap.size, 0, none⟩) 1 1) rfl (by kernel_rfl) (by kernel_rfl) R5.out) L5.out ?_
      refine AnyK.take 14 (v') L5.out rfl (by kernel_rfl) (by kernel_rfl) (by kernel_rfl) (fun _ _ _ h => h) (by kernel_rfl) (fun W hW => by kernel_rfl) ?_
      refine AnyK.done _ (by kernel_rfl) ?_
      go_simp
      go_wp2_with fail
      go_roundw
      case rel => exact ⟨e + 1, l ++ [⟨nm, di⟩], hlt, by go_num, HI, O5, L5⟩
      case measure => simp [intOf]; omega
end Go.Proofs.YtnboagmibhllpaaGreatDoor.Rf
