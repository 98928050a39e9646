/-
  Names of refs: each letter, each part.
  Errors inside object: need, within; errors.As at a fault: told.
  strings.Cut at one byte.
  Names of refs: parted at each slash; the whole.
  errors.Is at a fault, made of errWrong or of errOther.
  No two alike.
  A number's decimals; what an item is called in an error.
  checkTree: an error, if items are no tree.
  checkTree, walked.
  A region that draws its order, step by step: what may come up alone, or one of two.
  strings.Builder in this program.
-/
import Derived.Test.YtnboagmibhllpaaGreatDoorC01
import Derived.LaidEql
import Derived.LaidEqlPtr
import Derived.Stop.Asserts
import Derived.RowKitTokens
import Derived.Lib.Hide
import Derived.Deep.QuietTactic
import Derived.BigQuiet
import Derived.IntWalk
import Derived.Shelf.Abstract
import Derived.Test.YtnboagmibhllpaaGreatDoorLay
import Derived.RangeFuncBox
import Derived.OwnWalkIn
import Derived.TacticsInMore
import Derived.LoopNIn
import Derived.LoopIn
import Derived.Maps.AppendAt
import Derived.Sort.OwnSorted
import Derived.Lib.ItoaMem
import Derived.Lib.AppendIntMem
import Derived.Lib.ItoaNum
import Derived.Lib.LaidTab
import Derived.Deep.RegionHeld3
import Derived.OrdersHeld
import Derived.Deep.RegionHeld
import Derived.Shelf.Strings.Builder1

namespace Go.Proofs.YtnboagmibhllpaaGreatDoor.Rf
open Go.Proofs.YtnboagmibhllpaaGreatDoor
open Go Go.RowKit
set_option maxHeartbeats 1000000 in
theorem partByte_any (c : UInt8) (w : World) : Calls Tryz.prog 136 #[.int .u8 (c.toNat : Int)] w fun e w' => e = .returned (.bool (partByte c)) ∧ w = w' := by
  obtain ⟨b, hb⟩ : ∃ b, b = partByte c := ⟨_, rfl⟩
  rw [← hb]
  have hI : b = ((decide (97 ≤ (c.toNat : Int)) && decide ((c.toNat : Int) ≤ 122)) || (decide (48 ≤ (c.toNat : Int)) && decide ((c.toNat : Int) ≤ 57)) || ((c.toNat : Int) == 46) || ((c.toNat : Int) == 45) || ((c.toNat : Int) == 95)) := by
    rw [hb]
    have e : ∀ n : Nat, n < 256 → (c == UInt8.ofNat n) = ((c.toNat : Int) == (n : Int)) := fun n hn => by
      rw [Bool.eq_iff_iff]; simp only [beq_iff_eq]
      constructor
      · intro h; rw [h]; simp; omega
      · intro h; apply UInt8.toNat_inj.1; simp; omega
    have e1 : (c == 46) = ((c.toNat : Int) == 46) := e 46 (by decide)
    have e2 : (c == 45) = ((c.toNat : Int) == 45) := e 45 (by decide)
    have e3 : (c == 95) = ((c.toNat : Int) == 95) := e 95 (by decide)
    show ((decide (97 ≤ c) && decide (c ≤ 122)) || (decide (48 ≤ c) && decide (c ≤ 57)) || c == 46 || c == 45 || c == 95) = _
    have d1 : decide ((97 : UInt8) ≤ c) = decide (97 ≤ (c.toNat : Int)) := by rw [decide_eq_decide, UInt8.le_iff_toNat_le]; simp; omega
    have d2 : decide (c ≤ (122 : UInt8)) = decide ((c.toNat : Int) ≤ 122) := by rw [decide_eq_decide, UInt8.le_iff_toNat_le]; simp; omega
    have d3 : decide ((48 : UInt8) ≤ c) = decide (48 ≤ (c.toNat : Int)) := by rw [decide_eq_decide, UInt8.le_iff_toNat_le]; simp; omega
    have d4 : decide (c ≤ (57 : UInt8)) = decide ((c.toNat : Int) ≤ 57) := by rw [decide_eq_decide, UInt8.le_iff_toNat_le]; simp; omega
    rw [d1, d2, d3, d4, e1, e2, e3]
  have HI := Lib.hid hI
  clear hI hb
  generalize (c.toNat : Int) = z at HI ⊢
  by_cases h1 : 97 ≤ z <;> by_cases h2 : z ≤ 122
  all_goals
    by_cases h3 : 48 ≤ z <;> by_cases h4 : z ≤ 57
    all_goals
      go_enter Tryz.func136, Tryz.ntmps136
      go_wp2
      all_goals
        go_ret
        refine ⟨ret_bool ?_, rfl⟩
        rw [HI.out, Bool.eq_iff_iff]
        simp
        try omega
theorem all_snoc' {p : UInt8 → Bool} (l : Bs) (k : Nat) (h : k < l.length) (ih : (l.take k).all p = true) : (l.take (k + 1)).all p = p l[k] := by
  rw [List.take_succ_eq_append_getElem h, List.all_append, ih]; simp
theorem part_no (l : Bs) (k : Nat) (h : k < l.length) (hd : partByte l[k] = false) : partB l = false := by
  unfold partB
  have : l.all partByte = false := by rw [List.all_eq_false]; exact ⟨l[k], List.getElem_mem h, by simp [hd]⟩
  rw [this, Bool.and_false]
theorem part_yes (l : Bs) (h1 : 1 ≤ l.length) (h2 : l.length ≤ 30) (h3 : (l.getD 0 0 == 46) = false) (ha : l.all partByte = true) : partB l = true := by
  unfold partB
  rw [ha, h3, decide_eq_true h1, decide_eq_true h2]; rfl
theorem part_lo (l : Bs) (h : ¬ 1 ≤ l.length) : partB l = false := by unfold partB; rw [decide_eq_false h]; simp
theorem part_hi (l : Bs) (h : ¬ l.length ≤ 30) : partB l = false := by unfold partB; rw [decide_eq_false h]; simp
theorem part_dot (l : Bs) (h : (l.getD 0 0 == 46) = true) : partB l = false := by unfold partB; rw [h]; simp
theorem u8_beq (c : UInt8) (n : Nat) (hn : n < 256) : ((c.toNat : Int) == (n : Int)) = (c == UInt8.ofNat n) := by
  rw [Bool.eq_iff_iff]; simp only [beq_iff_eq]
  constructor
  · intro h; apply UInt8.toNat_inj.1; simp; omega
  · intro h; rw [h]; simp; omega
set_option maxHeartbeats 1000000 in
theorem isPart_any (l : Bs) (w : World) (hl : l.length ≤ maxLen) : Calls Tryz.prog 120 #[SV l] w fun e w' => e = .returned (.bool (partB l)) ∧ w = w' := by
  unfold maxLen at hl
  unfold SV
  by_cases h1 : 1 ≤ l.length
  case neg =>
    have HB := Lib.hid (part_lo l h1)
    have hI : (l.length : Int) < 1 := by omega
    clear h1
    go_enter Tryz.func120, Tryz.ntmps120
    go_wp2
    go_ret
    exact ⟨ret_bool HB.out.symm, rfl⟩
  by_cases h2 : l.length ≤ 30
  case neg =>
    have HB := Lib.hid (part_hi l h2)
    have hI : ¬ (l.length : Int) < 1 := by omega
    have hI2 : 30 < (l.length : Int) := by omega
    clear h1 h2
    go_enter Tryz.func120, Tryz.ntmps120
    go_wp2
    go_ret
    exact ⟨ret_bool HB.out.symm, rfl⟩
  have h0 : 0 < l.length := by omega
  have e0 : l.getD 0 0 = l[0] := by rw [List.getD_eq_getElem?_getD, List.getElem?_eq_getElem h0]; rfl
  have hI : ¬ (l.length : Int) < 1 := by omega
  have hI2 : ¬ 30 < (l.length : Int) := by omega
  cases h3 : (l.getD 0 0 == 46) with
  | true =>
    have HB := Lib.hid (part_dot l h3)
    have hd : ((((⟨l.toArray⟩ : ByteArray)[0]'h0).toNat : Int) == 46) = true := by rw [e0] at h3; exact (u8_beq l[0] 46 (by decide)).trans h3
    clear h1 h2 h3 e0
    go_enter Tryz.func120, Tryz.ntmps120
    go_wp2
    go_ret
    exact ⟨ret_bool HB.out.symm, rfl⟩
  | false =>
    have HY := Lib.hid (part_yes l h1 h2 h3)
    have hd : ((((⟨l.toArray⟩ : ByteArray)[0]'h0).toNat : Int) == 46) = false := by rw [e0] at h3; exact (u8_beq l[0] 46 (by decide)).trans h3
    clear h3 e0
    go_enter Tryz.func120, Tryz.ntmps120
    go_wp2
    go_loop [3, 19] (fun _ i => ∃ k : Nat, k ≤ l.length ∧ i = .int .i64 k ∧ (l.take k).all partByte = true) (fun _ i => l.length - (intOf i).toNat)
    case atStart => exact ⟨0, Nat.zero_le _, rfl, rfl⟩
    case round =>
      obtain ⟨k, hk, rfl, hall⟩ := hrel
      clear hd
      by_cases hlt : k < l.length
      · have hcall := partByte_any l[k] w
        have hsn := all_snoc' l k hlt hall
        cases hp : partByte l[k]
        · rw [hp] at hcall
          have HB := Lib.hid (part_no l k hlt hp)
          clear hsn hp hall HY
          go_wp2_with fail
          refine hcall.mono ?_
          rintro e w' ⟨rfl, rfl⟩
          go_wp2
          go_ret
          exact ⟨ret_bool HB.out.symm, rfl⟩
        · rw [hp] at hcall
          have HS := Lib.hid (hsn.trans hp)
          clear hsn hp hall HY
          go_wp2_with fail
          refine hcall.mono ?_
          rintro e w' ⟨rfl, rfl⟩
          go_wp2
          go_round
          case rel => exact ⟨k + 1, by omega, by go_num, HS.out⟩
          case measure => simp [intOf]; omega
      · have e : k = l.length := by omega
        have HB := Lib.hid (HY.out (by rw [e, List.take_length] at hall; exact hall))
        clear hall e HY
        go_wp2
        go_ret
        exact ⟨ret_bool HB.out.symm, rfl⟩
set_option maxHeartbeats 400000 in
theorem isFirst_any (l : Bs) (w : World) : Calls Tryz.prog 119 #[SV l] w fun e w' => e = .returned (.bool (firstB l)) ∧ w = w' := by
  unfold SV
  go_enter Tryz.func119, Tryz.ntmps119
  go_wp2
  all_goals
    go_ret
    refine ⟨ret_bool ?_, rfl⟩
    unfold firstB
    first | rfl | simp_all [wHeads, wTags]
theorem above_short (a b : Bs) (h : b.length ≤ a.length) : aboveB a b = false := by
  unfold aboveB
  cases hp : List.isPrefixOf (a ++ [47]) b with
  | false => rfl
  | true =>
    have := (List.isPrefixOf_iff_prefix.1 hp).length_le
    simp at this; omega
theorem above_at (a b : Bs) (h : a.length < b.length) : aboveB a b = (b[a.length] == 47 && (b.take a.length == a)) := by
  unfold aboveB
  rw [Bool.eq_iff_iff]
  simp only [List.isPrefixOf_iff_prefix, Bool.and_eq_true, beq_iff_eq]
  constructor
  · rintro ⟨t, rfl⟩
    simp
  · rintro ⟨h1, h2⟩
    refine ⟨b.drop (a.length + 1), ?_⟩
    have e := List.take_succ_eq_append_getElem h
    rw [h1, h2] at e
    rw [← e]
    exact List.take_append_drop _ _
set_option maxHeartbeats 1000000 in
theorem above_any (a b : Bs) (w : World) : Calls Tryz.prog 89 #[SV a, SV b] w fun e w' => e = .returned (.bool (aboveB a b)) ∧ w = w' := by
  unfold SV
  by_cases h : a.length < b.length
  case neg =>
    have HB := Lib.hid (above_short a b (by omega))
    have hd : decide (a.length < b.length) = false := decide_eq_false h
    go_enter Tryz.func89, Tryz.ntmps89
    go_wp2
    go_ret
    exact ⟨ret_bool HB.out.symm, rfl⟩
  have HB := Lib.hid (above_at a b h)
  have hd : decide (a.length < b.length) = true := decide_eq_true h
  cases h4 : (b[a.length] == 47) with
  | false =>
    have hB : aboveB a b = false := by rw [HB.out, h4]; rfl
    have HB2 := Lib.hid hB
    have hd : ((((⟨b.toArray⟩ : ByteArray)[a.length]'h).toNat : Int) == 47) = false := (u8_beq b[a.length] 47 (by decide)).trans h4
    clear h4 hB HB
    go_enter Tryz.func89, Tryz.ntmps89
    go_wp2
    go_ret
    exact ⟨ret_bool HB2.out.symm, rfl⟩
  | true =>
    have HB2 : Hid (aboveB a b = (b.take a.length == a)) := Lib.hid (by rw [HB.out, h4]; rfl)
    have hd : ((((⟨b.toArray⟩ : ByteArray)[a.length]'h).toNat : Int) == 47) = true := (u8_beq b[a.length] 47 (by decide)).trans h4
    have hx : (⟨b.toArray⟩ : ByteArray).extract 0 a.length = ⟨(b.take a.length).toArray⟩ := by rw [extract_S]; rfl
    clear h4 HB
    go_enter Tryz.func89, Tryz.ntmps89
    go_wp2
    go_ret
    exact ⟨ret_bool (by rw [HB2.out]), rfl⟩
end Go.Proofs.YtnboagmibhllpaaGreatDoor.Rf


namespace Go.Proofs.YtnboagmibhllpaaGreatDoor
open Go Go.RowKit Go.Extern.Stop Go.Stop Go.Extern
theorem below_new (w : World) (o : Obj) : Below w.heap.size w (w.alloc o) := (Below.refl _ w).alloc (Nat.le_refl _) o
end Go.Proofs.YtnboagmibhllpaaGreatDoor


namespace Go.Proofs.YtnboagmibhllpaaGreatDoor
open Go Go.RowKit Go.Shelf
theorem ixb_none (c : UInt8) : ∀ s : List UInt8, cutAt c s = none → Lib.indexByte s c = -1
  | [], _ => rfl
  | x :: s, h => by
    rw [cutAt] at h
    by_cases hx : x = c
    · rw [if_pos hx] at h; cases h
    · rw [if_neg hx, Option.map_eq_none_iff] at h
      rw [Lib.indexByte, if_neg (by simpa using hx), ixb_none c s h]; rfl
theorem ixb_some (c : UInt8) : ∀ (s a r : List UInt8), cutAt c s = some (a, r) → Lib.indexByte s c = (a.length : Int)
  | [], _, _, h => by cases h
  | x :: s, a, r, h => by
    rw [cutAt] at h
    by_cases hx : x = c
    · rw [if_pos hx] at h
      simp only [Option.some.injEq, Prod.mk.injEq] at h
      obtain ⟨rfl, rfl⟩ := h
      rw [Lib.indexByte, if_pos (by simpa using hx)]; rfl
    · rw [if_neg hx] at h
      obtain ⟨⟨a', r'⟩, h1, h2⟩ := Option.map_eq_some_iff.1 h
      simp only [Prod.mk.injEq] at h2
      obtain ⟨rfl, rfl⟩ := h2
      have ih := ixb_some c s a' r' h1
      rw [Lib.indexByte, if_neg (by simpa using hx), ih, if_neg (by simp)]
      simp
set_option maxRecDepth 100000 in
set_option maxHeartbeats 2000000 in
theorem Index_any (s : List UInt8) (c : UInt8) (w : World) : Calls Tryz.prog 166 #[.string ⟨s.toArray⟩, .string ⟨#[c]⟩] w fun e w' => e = .returned (.int .i64 (Lib.indexByte s c)) ∧ w = w' := by
  by_cases hs : s = [c]
  · subst hs
    rw [show Lib.indexByte [c] c = 0 by unfold Lib.indexByte; simp]
    go_enter Tryz.func166, Tryz.ntmps166
    go_wp2_with fail
    go_ret
    exact ⟨rfl, rfl⟩
  have b1 : ([c] == s) = false := by rw [beq_eq_false_iff_ne]; exact fun e => hs e.symm
  clear hs
  have h := Any.stringslite_IndexByte Tryz.ixbA ⟨s.toArray⟩ (c.toNat : Int) w
  have ec : ((c.toNat : Int).toNat).toUInt8 = c := UInt8.toNat_inj.1 (by have := c.toNat_lt; simp)
  rw [ec] at h
  have H := Lib.hid h
  clear h ec
  go_enter Tryz.func166, Tryz.ntmps166
  go_wp2_with fail
  refine H.out.mono ?_
  rintro e w' ⟨rfl, rfl⟩
  go_wp2_with fail
  go_ret
  exact ⟨rfl, rfl⟩
/-- What Cut answers. -/
def cutV (s : List UInt8) (o : Option (List UInt8 × List UInt8)) : Value := match o with
  | some (a, r) => .tuple #[SV a, SV r, .bool true]
  | none => .tuple #[SV s, SV [], .bool false]
set_option maxRecDepth 100000 in
set_option maxHeartbeats 2000000 in
theorem cutLite_any (s : List UInt8) (hs : s.length ≤ 1000000) (c : UInt8) (w : World) : Calls Tryz.prog 147 #[.string ⟨s.toArray⟩, .string ⟨#[c]⟩] w fun e w' => e = .returned (cutV s (cutAt c s)) ∧ ∃ n, w' = w.drewN n := by
  have H := Lib.hid (Index_any s c w)
  cases hc : cutAt c s with
  | none =>
    have e := ixb_none c s hc
    rw [e] at H
    unfold cutV SV
    clear e hc
    go_enter Tryz.func147, Tryz.ntmps147
    go_wp2_with fail
    refine H.out.mono ?_
    rintro e w' ⟨rfl, rfl⟩
    go_wp2_with fail
    go_ret3
    exact ⟨rfl, 0, rfl⟩
  | some p =>
    obtain ⟨a, r⟩ := p
    have e := ixb_some c s a r hc
    obtain ⟨es, _⟩ := cutAt_some hc
    rw [e] at H
    unfold cutV SV
    have hl : a.length + 1 ≤ s.length := by rw [es]; simp
    have x1 : (⟨s.toArray⟩ : ByteArray).extract 0 a.length = ⟨a.toArray⟩ := by rw [extract_S, es, List.take_left]; rfl
    have x2 : (⟨s.toArray⟩ : ByteArray).extract (a.length + 1) s.length = ⟨r.toArray⟩ := by
      rw [extract_S, List.take_length, es, List.drop_append]; simp
    have e1 : IntKind.i64.wrap ((a.length : Int) + 1) = ((a.length + 1 : Nat) : Int) := by rw [IntWalk.i64_in _ (by omega)]; omega
    have p0 : 0 ≤ (a.length : Int) := by omega
    have p1 : (a.length : Int) ≤ (s.length : Int) := by omega
    have p2 : 0 ≤ ((a.length + 1 : Nat) : Int) := by omega
    have p3 : ((a.length + 1 : Nat) : Int) ≤ (s.length : Int) := by omega
    clear e hc es hs
    go_enter Tryz.func147, Tryz.ntmps147
    go_wp2_with fail
    refine H.out.mono ?_
    rintro e w' ⟨rfl, rfl⟩
    go_wp2_with fail
    go_region
    all_goals
      go_wp2_with fail
      go_ret3
      exact ⟨rfl, 1, rfl⟩
set_option maxHeartbeats 1000000 in
theorem Cut_any (s : List UInt8) (hs : s.length ≤ 1000000) (c : UInt8) (w : World) : Calls Tryz.prog 129 #[.string ⟨s.toArray⟩, .string ⟨#[c]⟩] w fun e w' => e = .returned (cutV s (cutAt c s)) ∧ ∃ n, w' = w.drewN n := by
  have H := Lib.hid (cutLite_any s hs c w)
  cases hc : cutAt c s with
  | none =>
    rw [hc] at H
    unfold cutV SV at H ⊢
    clear hc
    go_enter Tryz.func129, Tryz.ntmps129
    go_wp2_with fail
    refine H.out.mono ?_
    rintro e w' ⟨rfl, n, rfl⟩
    go_wp2_with fail
    go_ret3
    exact ⟨rfl, n, rfl⟩
  | some p =>
    obtain ⟨a, r⟩ := p
    rw [hc] at H
    unfold cutV SV at H ⊢
    clear hc
    go_enter Tryz.func129, Tryz.ntmps129
    go_wp2_with fail
    refine H.out.mono ?_
    rintro e w' ⟨rfl, n, rfl⟩
    go_wp2_with fail
    go_ret3
    exact ⟨rfl, n, rfl⟩
end Go.Proofs.YtnboagmibhllpaaGreatDoor


namespace Go.Proofs.YtnboagmibhllpaaGreatDoor.Rf
open Go.Proofs.YtnboagmibhllpaaGreatDoor
open Go Go.RowKit
theorem index_byte : ∀ s : Bs, Lib.index s [47] = Lib.indexByte s 47
  | [] => rfl
  | c :: s => by
    by_cases h : c = 47
    · subst h
      rw [index_eq]; unfold Lib.indexByte; simp
    · have hb : ¬ (c == 47) = true := by simpa using h
      rw [index_ne s c h, index_byte s]
      exact (if_neg hb).symm
set_option maxHeartbeats 400000 in
theorem sIndex_any (s : Bs) (w : World) : Calls Tryz.prog 146 #[.string ⟨s.toArray⟩, .string ⟨#[47]⟩] w fun e w' => e = .returned (.int .i64 (Lib.index s [47])) ∧ w' = w := by
  rw [index_byte]
  have H := Lib.hid (Index_any s 47 w)
  go_enter Tryz.func146, Tryz.ntmps146
  go_wp2_with fail
  refine H.out.mono ?_
  rintro e w' ⟨rfl, rfl⟩
  go_wp2_with fail
  go_ret
  exact ⟨rfl, rfl⟩
theorem pieces (s : Bs) : Lib.splitB ⟨#[47]⟩ 0 (s.count 47) ⟨s.toArray⟩ = (parts s).map fun p => (⟨p.toArray⟩ : ByteArray) := by
  have h := Lib.splitB_data ⟨#[47]⟩ 0 (s.count 47) ⟨s.toArray⟩
  have e : Lib.splitK [47] 0 (s.count 47) s = parts s := splitK_parts _ s rfl
  have h' : (Lib.splitB ⟨#[47]⟩ 0 (s.count 47) ⟨s.toArray⟩).map (·.data.toList) = parts s := h.trans e
  rw [← h', List.map_map]
  exact (List.map_id _).symm.trans (List.map_congr_left fun x _ => rfl)
set_option maxHeartbeats 1000000 in
theorem split_any (s : Bs) (hs : s.length ≤ 1000) (w : World) :
    Calls Tryz.prog 118 #[.string ⟨s.toArray⟩, .string ⟨#[47]⟩] w fun e w' => e = .returned (.slice (some ⟨w.heap.size, 0, none⟩) (parts s).length (parts s).length) ∧ w' = w.alloc (.cells ((parts s).map SV).toArray 9) := by
  have hcB : Lib.countB (⟨s.toArray⟩ : ByteArray) ⟨#[47]⟩ = s.count 47 := Lib.count_one 47 s
  have hC := Any.strings_Count_one { Tryz.splA with } ⟨s.toArray⟩ 47 w
  have hle : s.count 47 ≤ s.length := List.count_le_length
  have h := Any.strings_genSplit_core { Tryz.splA with } (by kernel_rfl) ⟨s.toArray⟩ ⟨#[47]⟩ 0 (-1) (s.count 47 + 1) w (by show s.length < _; omega) (by decide) (by decide)
    (fun x c _ => by
      have hx := sIndex_any x.data.toList (w.alloc (.cells c 9))
      exact hx)
    (by rw [hcB]; exact hC) (by decide) (by decide) (by rw [if_pos (by decide), hcB]; show _ = min _ ((s.length : Int) + 1); omega)
  rw [Nat.add_sub_cancel, pieces] at h
  have e1 : ((parts s).map fun p => (⟨p.toArray⟩ : ByteArray)).length = (parts s).length := by simp
  have e2 : s.count 47 + 1 = ((parts s).map fun p => (⟨p.toArray⟩ : ByteArray)).length := by rw [e1, parts_len]
  rw [e2, Lib.cellsOf_full, e1, List.map_map] at h
  have H := Lib.hid h
  clear h hC hcB e1 e2 hle
  go_enter Tryz.func118, Tryz.ntmps118
  go_wp2_with fail
  refine H.out.mono ?_
  rintro e w' ⟨rfl, hw⟩
  have HW := Lib.hid hw
  clear hw
  go_wp2_with fail
  go_ret
  exact ⟨rfl, HW.out⟩
theorem name_parts {s : Bs} {n : Nat} {p : Bs} {r : List Bs} (hl : s.length ≤ 80) (hp : parts s = p :: r) (hn : n = r.length + 1) (h2 : 2 ≤ n) (h4 : n ≤ 4) (hf : firstB p = true) : nameB s = r.all partB := by
  unfold nameB
  rw [hp, decide_eq_true hl, List.length_cons, decide_eq_true (by omega), decide_eq_true (by omega)]
  show ((true && (true && true)) && firstB p && r.all partB) = _
  rw [hf]; rfl
theorem name_long {s : Bs} (hl : ¬ s.length ≤ 80) : nameB s = false := by unfold nameB; rw [decide_eq_false hl]; simp
theorem name_few {s : Bs} (h : ¬ 2 ≤ (parts s).length) : nameB s = false := by unfold nameB; rw [decide_eq_false h]; simp
theorem name_many {s : Bs} (h : ¬ (parts s).length ≤ 4) : nameB s = false := by unfold nameB; rw [decide_eq_false h]; simp
theorem name_first {s : Bs} {p : Bs} {r : List Bs} (hp : parts s = p :: r) (hf : firstB p = false) : nameB s = false := by unfold nameB; rw [hp]; show (_ && firstB p && _) = false; rw [hf]; simp
theorem parts_le : ∀ (s : Bs), ∀ p ∈ parts s, p.length ≤ s.length
  | [], p, h => by simp [parts] at h; rw [h]; exact Nat.le_refl _
  | c :: s, p, h => by
    by_cases hc : c = 47
    · rw [hc, parts_slash] at h
      rcases List.mem_cons.1 h with rfl | h
      · exact Nat.zero_le _
      · exact Nat.le_succ_of_le (parts_le s p h)
    · cases hp : parts s with
      | nil => exact absurd hp (parts_ne s)
      | cons q r =>
        rw [parts_cons c hc s q r hp] at h
        have ih := parts_le s
        rw [hp] at ih
        rcases List.mem_cons.1 h with rfl | h
        · have := ih q List.mem_cons_self; simp; omega
        · exact Nat.le_succ_of_le (ih p (List.mem_cons_of_mem _ h))
theorem all_no {r : List Bs} {k : Nat} {x : Bs} (hx : r[k]? = some x) (h : partB x = false) : r.all partB = false := by
  rw [List.all_eq_false]; exact ⟨x, List.mem_of_getElem? hx, by simp [h]⟩
theorem all_step {r : List Bs} {k : Nat} {x : Bs} (hx : r[k]? = some x) (ih : (r.take k).all partB = true) (h : partB x = true) : (r.take (k + 1)).all partB = true := by
  rw [List.take_add_one, hx, Option.toList_some, List.all_append, ih]; simp [h]
/-- A bool, and new memory. -/
def BoolB (b : Bool) (w : World) (e : Ending) (w' : World) : Prop := e = .returned (.bool b) ∧ Below w.heap.size w w'
set_option maxRecDepth 100000 in
set_option maxHeartbeats 1000000 in
theorem Named_p (s : Bs) (w : World) (hl : s.length ≤ maxLen) : Calls Tryz.prog 88 #[SV s] w (BoolB (nameB s) w) := by
  unfold maxLen at hl
  unfold SV
  by_cases h80 : s.length ≤ 80
  case neg =>
    have HB := Lib.hid (name_long h80)
    have hI : 80 < (s.length : Int) := by omega
    clear h80
    go_enter Tryz.func88, Tryz.ntmps88
    go_wp2
    go_ret
    exact ⟨ret_bool HB.out.symm, Below.refl _ _⟩
  have hI : ¬ 80 < (s.length : Int) := by omega
  have HS := Lib.hid (split_any s (by omega) w)
  obtain ⟨p, r, hp⟩ : ∃ p r, parts s = p :: r := by
    cases h : parts s with
    | nil => exact absurd h (parts_ne s)
    | cons p r => exact ⟨p, r, rfl⟩
  obtain ⟨n, hn⟩ : ∃ n, n = r.length + 1 := ⟨_, rfl⟩
  have hle := parts_le s
  have hpn : (parts s).length = n := by rw [hp, hn]; rfl
  rw [hpn] at HS
  have hrd : StrsR (w.alloc (.cells ((parts s).map SV).toArray 9)) (.slice (some ⟨w.heap.size, 0, none⟩) n n) (p :: r) := by
    refine .inr ⟨w.heap.size, 0, n, by rw [hn]; rfl, by rw [hn]; exact Nat.le_refl _, by simp, fun j hj x hx i hi => ?_⟩
    have hi0 : i = 0 := by omega
    subst hi0
    have e : ((parts s).map SV)[j]? = some (SV x) := by rw [List.getElem?_map, hp, hx]; rfl
    have hj : 0 + j * 1 + 0 = j := by omega
    rw [hj]
    show (match (w.alloc (.cells ((parts s).map SV).toArray 9)).heap[w.heap.size]? with | some (.cells c _ _) => c[j]? | _ => none) = some (SV x)
    rw [heap_alloc_new w _]
    simpa using e
  have hb := below_new w (.cells ((parts s).map SV).toArray 9)
  obtain ⟨w1, hw1⟩ : ∃ w1, w1 = w.alloc (.cells ((parts s).map SV).toArray 9) := ⟨_, rfl⟩
  rw [← hw1] at hrd hb HS
  have c0 : w1.cell? ⟨w.heap.size, 0, none⟩ = some (SV p) := StrsR.cell hrd 0 (by simp)
  have ck : ∀ k x, r[k]? = some x → w1.cell? ⟨w.heap.size, 1 + k, none⟩ = some (SV x) := fun k x hx => by
    have hk : k < r.length := (List.getElem?_eq_some_iff.1 hx).1
    have h := StrsR.cell hrd (k + 1) (by simp; exact hk)
    rw [List.getD_eq_getElem?_getD, List.getElem?_cons_succ, hx] at h
    rw [Nat.zero_add] at h
    rw [Nat.add_comm 1 k]; exact h
  have HC := Lib.hid ck
  have HB := Lib.hid hb
  have H2 : Hid (¬ 2 ≤ n → nameB s = false) := Lib.hid fun h => name_few (by rw [hpn]; exact h)
  have H4 : Hid (¬ n ≤ 4 → nameB s = false) := Lib.hid fun h => name_many (by rw [hpn]; exact h)
  have HF : Hid (firstB p = false → nameB s = false) := Lib.hid fun h => name_first hp h
  have HA : Hid (2 ≤ n → n ≤ 4 → firstB p = true → nameB s = r.all partB) := Lib.hid fun a b c => name_parts h80 hp hn a b c
  have HN := Lib.hid hn
  have HL : Hid (∀ x ∈ p :: r, x.length ≤ 80) := Lib.hid fun x hx => Nat.le_trans (hle x (by rw [hp]; exact hx)) h80
  have hnb : n ≤ 1000 := by rw [← hpn, parts_len]; have : s.count 47 ≤ s.length := List.count_le_length; omega
  unfold SV at c0
  obtain ⟨b, hbn⟩ : ∃ b, b = nameB s := ⟨_, rfl⟩
  rw [← hbn] at H2 H4 HF HA ⊢
  clear hle hpn hrd hb hw1 ck hn hp hbn h80
  go_enter Tryz.func88, Tryz.ntmps88
  by_cases h2 : 2 ≤ n
  case neg =>
    have hI2 : (n : Int) < 2 := by omega
    have HR := Lib.hid (H2.out h2)
    clear h2 c0
    go_wp2_with fail
    refine HS.out.mono ?_
    rintro e w' ⟨rfl, rfl⟩
    go_wp2_with fail
    go_ret
    exact ⟨ret_bool HR.out.symm, HB.out⟩
  have hI2 : ¬ (n : Int) < 2 := by omega
  by_cases h4 : n ≤ 4
  case neg =>
    have hI4 : 4 < (n : Int) := by omega
    have HR := Lib.hid (H4.out h4)
    clear h2 h4 c0
    go_wp2_with fail
    refine HS.out.mono ?_
    rintro e w' ⟨rfl, rfl⟩
    go_wp2_with fail
    go_ret
    exact ⟨ret_bool HR.out.symm, HB.out⟩
  have hI4 : ¬ 4 < (n : Int) := by omega
  have hn0 : 0 < n := by omega
  have hF := isFirst_any p w1
  cases hf : firstB p with
  | false =>
    have HR := Lib.hid (HF.out hf)
    rw [hf] at hF
    have HF2 := Lib.hid hF
    clear hf hF
    go_wp2_with fail
    refine HS.out.mono ?_
    rintro e w' ⟨rfl, rfl⟩
    go_wp2_with fail
    refine HF2.out.mono ?_
    rintro e w' ⟨rfl, rfl⟩
    go_wp2_with fail
    go_ret
    exact ⟨ret_bool HR.out.symm, HB.out⟩
  | true =>
    have HR := Lib.hid (HA.out h2 h4 hf)
    rw [hf] at hF
    have HF2 := Lib.hid hF
    obtain ⟨m, hm⟩ : ∃ m, m = n - 1 := ⟨_, rfl⟩
    have s1 : (n : Int) - 1 = (m : Int) := by omega
    have hm0 : m ≤ 1000 := by omega
    have HM := Lib.hid hm
    clear hm
    clear hf hF
    go_wp2_with fail
    refine HS.out.mono ?_
    rintro e w' ⟨rfl, rfl⟩
    go_wp2_with fail
    refine HF2.out.mono ?_
    rintro e w' ⟨rfl, rfl⟩
    go_wp2_with fail
    have hck := HC.out
    clear c0 HS HF2 H2 H4 HF HA
    go_loop [5, 29] (fun _ i => ∃ k : Nat, k ≤ m ∧ i = .int .i64 k ∧ Hid ((r.take k).all partB = true)) (fun _ i => m - (intOf i).toNat)
    case atStart => exact ⟨0, Nat.zero_le _, rfl, Lib.hid (by simp)⟩
    case round =>
      obtain ⟨k, hk, rfl, hall⟩ := hrel
      by_cases hlt : k < m
      · obtain ⟨x, hx⟩ : ∃ x, r[k]? = some x := ⟨_, List.getElem?_eq_getElem (by have := HN.out; have := HM.out; omega)⟩
        have c1 := HC.out k x hx
        unfold SV at c1
        have hxl : x.length ≤ maxLen := by
          have := HL.out x (List.mem_cons_of_mem _ (List.mem_of_getElem? hx))
          unfold maxLen; omega
        have hP := isPart_any x w'
        cases hpx : partB x with
        | false =>
          rw [hpx] at hP
          have HP := Lib.hid (hP hxl)
          have HZ : Hid (b = false) := Lib.hid (by rw [HR.out]; exact all_no hx hpx)
          clear hpx hP hxl hall hx hck
          go_wp2_with fail
          refine HP.out.mono ?_
          rintro e w' ⟨rfl, rfl⟩
          go_wp2_with fail
          go_ret
          exact ⟨ret_bool HZ.out.symm, HB.out⟩
        | true =>
          rw [hpx] at hP
          have HP := Lib.hid (hP hxl)
          have HZ := Lib.hid (all_step hx hall.out hpx)
          clear hpx hP hxl hall hx hck
          go_wp2_with fail
          refine HP.out.mono ?_
          rintro e w' ⟨rfl, rfl⟩
          go_wp2_with fail
          go_round
          case rel => exact ⟨k + 1, by omega, by go_num, HZ⟩
          case measure => simp [intOf]; omega
      · have hkm : k = m := by omega
        have HZ : Hid (b = true) := Lib.hid (by rw [HR.out]; have h := hall.out; rw [hkm, List.take_of_length_le (by have := HN.out; have := HM.out; omega)] at h; exact h)
        clear hall hkm hck
        go_wp2_with fail
        go_ret
        exact ⟨ret_bool HZ.out.symm, HB.out⟩
end Go.Proofs.YtnboagmibhllpaaGreatDoor.Rf


namespace Go.Proofs.YtnboagmibhllpaaGreatDoor
open Go Go.RowKit Go.Extern.Stop Go.Stop Go.Extern
theorem mComparable (h : Value) (w : World) : (Go.method 342 156 (.agg #[h]) "Comparable").run Tryz.prog w = .ok (203, .agg #[h]) w := by kernel_rfl
theorem noIsE (v : Value) (xT : TypeId) (w : World) : (Instr.typeAssert (.iface 206 v) xT 158 true).run Tryz.prog w = .ok (.tuple #[.nilIface, .bool false]) w := run_typeAssert_lacksB Tryz.underlying158 (by kernel_rfl) (by kernel_rfl) v xT w
theorem noUnwrapE (v : Value) (xT : TypeId) (w : World) : (Instr.typeAssert (.iface 206 v) xT 161 true).run Tryz.prog w = .ok (.tuple #[.nilIface, .bool false]) w := run_typeAssert_lacksB Tryz.underlying161 (by kernel_rfl) (by kernel_rfl) v xT w
theorem noUnwrapsE (v : Value) (xT : TypeId) (w : World) : (Instr.typeAssert (.iface 206 v) xT 162 true).run Tryz.prog w = .ok (.tuple #[.nilIface, .bool false]) w := run_typeAssert_lacksB Tryz.underlying162 (by kernel_rfl) (by kernel_rfl) v xT w
theorem infoPS : (Tryz.prog.info? 206).map (·.comparable) = some true := by kernel_rfl
theorem infoS : (Tryz.prog.info? 208).map (fun i => decide (i.size ≠ 0)) = some true := by kernel_rfl
theorem eqlSame (a : Addr) (w : World) : (binOp .eql 55 (.iface 206 (.pointer (some a))) (.iface 206 (.pointer (some a)))).run Tryz.prog w = .ok (.bool true) w := by
  obtain ⟨i, hi, hc⟩ := Option.map_eq_some_iff.1 infoPS
  obtain ⟨j, hj, _⟩ := Option.map_eq_some_iff.1 infoS
  exact run_eql_iface_ptr_same w a Tryz.underlying55 Tryz.underlying206 hi hc hj
theorem eqlOther {a b : Addr} {ca cb : Array Value} {ta tb : TypeId} (w : World) (hne : a ≠ b) (ha : w.heap[a.block]? = some (.cells ca ta (0, 0))) (hb : w.heap[b.block]? = some (.cells cb tb (0, 0))) :
    (binOp .eql 55 (.iface 206 (.pointer (some a))) (.iface 206 (.pointer (some b)))).run Tryz.prog w = .ok (.bool false) w := by
  obtain ⟨i, hi, hc⟩ := Option.map_eq_some_iff.1 infoPS
  obtain ⟨j, hj, hs⟩ := Option.map_eq_some_iff.1 infoS
  exact run_eql_iface_ptr_other w Tryz.underlying55 Tryz.underlying206 hi hc hj (of_decide_eq_true hs) hne ha hb
theorem eqlNil (v : Value) (w : World) : (binOp .eql 55 .nilIface (.iface 206 v)).run Tryz.prog w = .ok (.bool false) w := run_eql_iface_nil_left w _ v Tryz.underlying55
theorem typeOfE (v : Value) (w : World) : (ReflectliteType.typeOf #[.iface 206 v]).run Tryz.prog w = .ok (.iface 156 (.agg #[.pointer (some ⟨12, 206, none⟩)])) w := by kernel_rfl
theorem comparableE (w : World) : (ReflectliteType.method (fun t => do Rtype.noPackHeld "Comparable" t; (fun a => Value.bool a.comparable) <$> typeInfo t) #[.agg #[.pointer (some ⟨12, 206, none⟩)]]).run Tryz.prog w = .ok (.bool true) w := by kernel_rfl
def BoolPost (b : Bool) (w : World) (e : Ending) (w' : World) : Prop := e = .returned (.bool b) ∧ w = w'
end Go.Proofs.YtnboagmibhllpaaGreatDoor


namespace Go.Proofs.YtnboagmibhllpaaGreatDoor
open Go Go.RowKit Go.Shelf Go.Maps Go.Sort
attribute [local go_sem] Oper.semAt_some
theorem infoStr : (Tryz.prog.info? 9).map (fun i => (i.zero, i.size, i.bytes)) = some (some (.string ⟨#[]⟩), 1, 16) := by kernel_rfl
end Go.Proofs.YtnboagmibhllpaaGreatDoor
namespace Go.Proofs.YtnboagmibhllpaaGreatDoor
open Go Go.RowKit Go.Shelf Go.Maps Go.Sort
theorem grownBy_putRow {w : World} {g n : Nat} (d : Array (List UInt8)) : w.grownBy (putRow encStr (Sort.ahead w n) g 0 d) (some g) := by
  refine ⟨rfl, rfl, rfl, by simp [putRow, mapBlock, Sort.ahead], fun k hk hne => ?_⟩
  have : g ≠ k := fun e => hne (by rw [e])
  simp [putRow, mapBlock, Sort.ahead, Array.getElem?_modify, this]
end Go.Proofs.YtnboagmibhllpaaGreatDoor


namespace Go.Proofs.YtnboagmibhllpaaGreatDoor
open Go Go.RowKit
/-- The table of the powers of ten. -/
def Tb (w : World) : Prop := Lib.TabIs Tryz.prog w "internal/strconv.uint64pow10" .u64 Lib.pow10Tab
theorem Tb.below {w w' : World} (h : Tb w) (hb : Below w.heap.size w w') : Tb w' := by
  have hg : Tryz.prog.globalNamed "internal/strconv.uint64pow10" = some 5 := by kernel_rfl
  have hlt : 5 < w.heap.size := World.block_lt_of_cell? w _ (Lib.TabIs.cell h hg 0 (by rw [Lib.pow10Tab_length]; decide))
  unfold Tb Lib.TabIs World.var? at h ⊢
  rw [hg] at h ⊢
  simp only [Option.bind_some] at h ⊢
  rw [hb.block _ hlt]
  exact h
theorem nd_len : ∀ (k u : Nat), u < 10 ^ (k + 1) → Lib.nDigits u ≤ k + 1
  | k, u, h => by
    by_cases hu : u < 10
    · rw [Lib.nDigits_small hu]; omega
    · rw [Lib.nDigits_big hu]
      cases k with
      | zero => rw [Nat.pow_one] at h; omega
      | succ k =>
        rw [Nat.pow_succ] at h
        have := nd_len k (u / 10) (by omega)
        omega
/-- A number's decimals; nothing below 0. -/
def textL (n : Int) : List UInt8 := if n < 0 then [] else Lib.decDigits n.toNat
theorem textL_len {n : Int} (h : n ≤ 9223372036854775807) : (textL n).length ≤ 20 := by
  unfold textL
  by_cases h0 : n < 0
  · rw [if_pos h0]; simp
  · rw [if_neg h0, Lib.decDigits_length]
    exact nd_len 19 n.toNat (by omega)
set_option maxHeartbeats 400000 in
theorem Text_any (n : Int) (h0 : -9223372036854775808 ≤ n) (h1 : n ≤ 9223372036854775807) (w : World) (hp : Tb w) :
    Calls Tryz.prog 49 #[.int .i64 n] w fun e w' => e = .returned (SV (textL n)) ∧ Below w.heap.size w w' := by
  have HI := Lib.hid (Any.strconv_Itoa Tryz.itoaA n h0 h1 w hp)
  clear hp
  by_cases h : n < 0
  · rw [show textL n = [] from if_pos h]
    unfold SV
    clear HI
    go_enter Tryz.func49, Tryz.ntmps49
    go_wp2
    go_ret
    exact ⟨rfl, Below.refl _ _⟩
  · have HT : Hid (Lib.itoa n = textL n) := Lib.hid (by unfold textL Lib.itoa; rw [if_neg h, if_neg h])
    rw [HT.out] at HI
    generalize textL n = t at HI ⊢
    clear HT
    unfold SV
    go_enter Tryz.func49, Tryz.ntmps49
    go_wp2_with fail
    refine HI.out.mono ?_
    rintro e w' ⟨rfl, k, os, rfl⟩
    go_wp2
    go_ret
    exact ⟨rfl, Lib.below_grow _ _ (Nat.le_refl _) _ _⟩
end Go.Proofs.YtnboagmibhllpaaGreatDoor


namespace Go.Proofs.YtnboagmibhllpaaGreatDoor
open Go Go.RowKit Go.Shelf
/-- What is known of an element's type. -/
structure ElK {α : Type} (st t : TypeId) (k bt : Nat) (f : α → List Value) : Prop where
  ut : Tryz.prog.underlying st = some (.slice t)
  info : ∃ z, (Tryz.prog.info? t).map (fun i => (i.zero, i.size, i.bytes)) = some (some z, k, bt) ∧ z.cells.size = k
  pos : 0 < k
  len : ∀ x, (f x).length = k
  one : ∀ x, ∀ u ∈ f x, u.oneCell' = true
end Go.Proofs.YtnboagmibhllpaaGreatDoor


namespace Go.Proofs.YtnboagmibhllpaaGreatDoor
open Go Go.RowKit Go.Shelf
theorem OwK.drewN {α : Type} {t : TypeId} {k : Nat} {f : α → List Value} {w : World} {base : Nat} {v : Value} {l : List α} (h : OwK t k f w base v l) (n : Nat) : OwK t k f (w.drewN n) base v l := h
end Go.Proofs.YtnboagmibhllpaaGreatDoor


namespace Go.Proofs.YtnboagmibhllpaaGreatDoor
open Go Go.RowKit
section
variable {P : Program} {ops : Array Oper} {Q : Exit → Go.Act → World → Prop} {S : World → Prop}
theorem held_start (S : World → Prop) {id : Nat} {a : Go.Act} {w : World} (hm : P.follows .mixedOrders = true) (h : wpAnyH P .any ops Q S ops.size (Array.replicate ops.size false) a w.drew) : (Code.region id ops true).wp P Q a w :=
  wp_region_held hm h
theorem held_take (i : Nat) (v : Value) {oi : Oper} {fuel : Nat} {listed : Array Bool} {a : Go.Act} {w : World} (hi : ops[i]? = some oi)
    (hs : Region.noSelect ops = true) (hf : Region.free .any ops listed i = true) (hr : (Region.ready .any ops listed).contains i = true)
    (hQ : ∀ c a w, Q (.panic c) (a.put oi.dst v) w → Q (.panic c) a w) (hw : Region.wanted oi (yielded ops a.tmps) = true)
    (hy : ∀ W, S W → (execOp a.eval oi).run P W = .ok (.value v) W) (hS : S w)
    (h : wpAnyH P .any ops Q S fuel (listed.setIfInBounds i true) (a.put oi.dst v) w) : wpAnyH P .any ops Q S (fuel + 1) listed a w :=
  wpAnyH_take hi hs hf hr hQ (.inl ⟨hw, hy⟩) hS h
theorem held_op {i : Nat} (v : Value) (w' : World) {oi : Oper} {fuel : Nat} {listed : Array Bool} {a : Go.Act} {w : World} (hi : ops[i]? = some oi) (hw : Region.wanted oi (yielded ops a.tmps) = true)
    (he : (execOp a.eval oi).run P w = .ok (.value v) w') (hS : S w') (h : wpAnyH P .any ops Q S fuel (listed.setIfInBounds i true) (a.put oi.dst v) w') :
    wpOp P ops Q i (fun a' w' => S w' ∧ wpAnyH P .any ops Q S fuel (listed.setIfInBounds i true) a' w') a w := by
  unfold wpOp
  rw [hi]
  simp only
  rw [if_pos hw]
  left
  unfold Oper.wp
  rw [he]
  exact ⟨hS, h⟩
theorem held_store {i : Nat} (w' : World) {oi : Oper} {fuel : Nat} {listed : Array Bool} {a : Go.Act} {w : World} (hi : ops[i]? = some oi) (hw : Region.wanted oi (yielded ops a.tmps) = true)
    (he : (execOp a.eval oi).run P w = .ok .skip w') (hS : S w') (h : wpAnyH P .any ops Q S fuel (listed.setIfInBounds i true) (a.put oi.dst undef) w') :
    wpOp P ops Q i (fun a' w' => S w' ∧ wpAnyH P .any ops Q S fuel (listed.setIfInBounds i true) a' w') a w := by
  unfold wpOp
  rw [hi]
  simp only
  rw [if_pos hw]
  left
  unfold Oper.wp
  rw [he]
  exact ⟨hS, h⟩
theorem held_one {i : Nat} {fuel : Nat} {listed : Array Bool} {a : Go.Act} {w : World} (hr : Region.ready .any ops listed = [i])
    (h : wpOp P ops Q i (fun a' w' => S w' ∧ wpAnyH P .any ops Q S fuel (listed.setIfInBounds i true) a' w') a w) : wpAnyH P .any ops Q S (fuel + 1) listed a w :=
  wpAnyH_all hr (by simp) (fun j hj => by have e : j = i := by simpa using hj
                                          subst e; exact h)
theorem held_two {i j : Nat} {fuel : Nat} {listed : Array Bool} {a : Go.Act} {w : World} (hr : Region.ready .any ops listed = [i, j])
    (h : wpOp P ops Q i (fun a' w' => S w' ∧ wpAnyH P .any ops Q S fuel (listed.setIfInBounds i true) a' w') a w)
    (h' : wpOp P ops Q j (fun a' w' => S w' ∧ wpAnyH P .any ops Q S fuel (listed.setIfInBounds j true) a' w') a w) : wpAnyH P .any ops Q S (fuel + 1) listed a w :=
  wpAnyH_all hr (by simp) (fun k hk => by
    have e : k = i ∨ k = j := by simpa using hk
    rcases e with e | e
    · subst e; exact h
    · subst e; exact h')
theorem held_done {listed : Array Bool} {a : Go.Act} {w : World} (fuel : Nat) (hr : Region.ready .any ops listed = []) (h : Q .normal a w) : wpAnyH P .any ops Q S fuel listed a w :=
  wpAnyH_done hr h fuel
end
section
variable {P : Program} {a : Go.Act} {o : Oper} {W : World}
theorem y_load {t : TypeId} {s : Operand} {sv r : Value} (ho : o.op = .load t s) (hs : a.eval s = sv) (h : (Instr.loadAt t sv).run P W = .ok r W) : (execOp a.eval o).run P W = .ok (.value r) W := by
  subst hs
  simp only [execOp, ho]
  simp [h, Result.andThen]
theorem y_store {t : TypeId} {s x : Operand} {sv xv : Value} {W' : World} (ho : o.op = .store t s x) (hs : a.eval s = sv) (hx : a.eval x = xv) (h : (Instr.storeAt t sv xv).run P W = .ok () W') : (execOp a.eval o).run P W = .ok .skip W' := by
  subst hs hx
  simp only [execOp, ho]
  simp [h, Result.andThen]
theorem y_append {st : TypeId} {s y : Operand} {sv yv r : Value} {W' : World} (ho : o.op = .call { callee := .builtin .append, args := #[s, y], argTypes := #[st, st] }) (hs : a.eval s = sv) (hy : a.eval y = yv)
    (h : (Builtin.append_ #[st, st] o.type #[sv, yv]).run P W = .ok r W') : (execOp a.eval o).run P W = .ok (.value r) W' := by
  subst hs hy
  simp [execOp, ho, resolve, invoke, builtin, h, Result.andThen]
end
end Go.Proofs.YtnboagmibhllpaaGreatDoor


namespace Go.Proofs.YtnboagmibhllpaaGreatDoor
open Go Go.Shelf
def Tryz.bwsA_ren : Go.Shelf.Ren := ⟨fun | 166 => 69 | 240 => 94 | 276 => 121 | n => n, fun | 0 => 0 | 3 => 3 | 4 => 4 | 9 => 9 | 20 => 20 | 37 => 26 | 70 => 96 | 72 => 98 | 75 => 55 | 80 => 102 | 164 => 142 | 5 => 5 | n => n, fun | n => n⟩
theorem Tryz.bwsA : Go.Proofs.Lays.n166 Tryz.prog Tryz.bwsA_ren := {
  mixed := by kernel_rfl
  f166 := Tryz.func69.trans (congrArg some (by kernel_rfl))
  f240 := Tryz.func94.trans (congrArg some (by kernel_rfl))
  f276 := Tryz.func121.trans (congrArg some (by kernel_rfl))
  t0 := Tryz.underlying0
  a0 := Tryz.isAgg0
  z0 := Tryz.sizeOf0
  v0 := Tryz.zeroValue0
  t3 := Tryz.underlying3
  a3 := Tryz.isAgg3
  z3 := Tryz.sizeOf3
  v3 := Tryz.zeroValue3
  t4 := Tryz.underlying4
  a4 := Tryz.isAgg4
  z4 := Tryz.sizeOf4
  v4 := Tryz.zeroValue4
  t9 := Tryz.underlying9
  a9 := Tryz.isAgg9
  z9 := Tryz.sizeOf9
  v9 := Tryz.zeroValue9
  t20 := Tryz.underlying20
  a20 := Tryz.isAgg20
  z20 := Tryz.sizeOf20
  v20 := Tryz.zeroValue20
  t37 := Tryz.underlying26
  a37 := Tryz.isAgg26
  z37 := Tryz.sizeOf26
  v37 := Tryz.zeroValue26
  t70 := Tryz.underlying96
  a70 := Tryz.isAgg96
  z70 := Tryz.sizeOf96
  v70 := Tryz.zeroValue96
  t72 := Tryz.underlying98
  a72 := Tryz.isAgg98
  z72 := Tryz.sizeOf98
  v72 := Tryz.zeroValue98
  t75 := Tryz.underlying55
  a75 := Tryz.isAgg55
  z75 := Tryz.sizeOf55
  v75 := Tryz.zeroValue55
  t164 := Tryz.underlying142
  a164 := Tryz.isAgg142
  z164 := Tryz.sizeOf142
  v164 := Tryz.zeroValue142 }
theorem Tryz.bwsX : Go.Proofs.Builder.Extra Tryz.prog Tryz.bwsA_ren := {
  sizeBuilder := by kernel_rfl
  liesBuilder := by kernel_rfl
  t5 := Tryz.underlying5
  a5 := Tryz.isAgg5
  z5 := Tryz.sizeOf5
  v5 := Tryz.zeroValue5
  infoByte := by kernel_rfl
  cellsByte := by kernel_rfl
  sizeByte := by kernel_rfl
  neB5 := by decide }
theorem Tryz.bstrX : Go.Proofs.Builder.Extra Tryz.prog Tryz.bstrA_ren := {
  sizeBuilder := by kernel_rfl
  liesBuilder := by kernel_rfl
  t5 := Tryz.underlying5
  a5 := Tryz.isAgg5
  z5 := Tryz.sizeOf5
  v5 := Tryz.zeroValue5
  infoByte := by kernel_rfl
  cellsByte := by kernel_rfl
  sizeByte := by kernel_rfl
  neB5 := by decide }
end Go.Proofs.YtnboagmibhllpaaGreatDoor
