/-
  Parts and paths: isPartByte, isPart, strings.Cut at one byte, directory.
-/
import Derived.Test.YtccloieikkdcoaaGreatDoorWorld
import Derived.Deep.QuietTactic
import Derived.BigQuiet
import Derived.Lib.Hide
import Derived.Lib.IndexLaws
import Derived.Laws.Externs
namespace Go.Proofs.YtccloieikkdcoaaGreatDoor
open Go Go.RowKit

def partByte (c : UInt8) : Bool := (decide (97 ≤ (c.toNat : Int)) && decide ((c.toNat : Int) ≤ 122)) || (decide (48 ≤ (c.toNat : Int)) && decide ((c.toNat : Int) ≤ 57)) || (c.toNat : Int) == 46 || (c.toNat : Int) == 45
def partB (s : By) : Bool := decide (1 ≤ s.length) && decide (s.length ≤ 70) && s.all partByte

set_option maxHeartbeats 400000 in
theorem isPartByte_any (c : UInt8) (w : World) : Calls Tryz.prog 73 #[.int .u8 (c.toNat : Int)] w fun e w' => e = .returned (.bool (partByte c)) ∧ w = w' := by
  go_enter Tryz.func73, Tryz.ntmps73
  go_wp2
  all_goals (go_ret; refine ⟨congrArg (fun b => Ending.returned (Value.bool b)) ?_, rfl⟩; unfold partByte; rw [Bool.eq_iff_iff]; simp; omega)

set_option maxHeartbeats 400000 in
theorem isPart_any (s : By) (w : World) (hs : s.length ≤ maxLen) : Calls Tryz.prog 57 #[S s] w fun e w' => e = .returned (.bool (partB s)) ∧ w = w' := by
  unfold maxLen at hs
  unfold S
  by_cases h1 : s.length < 1
  · go_enter Tryz.func57, Tryz.ntmps57
    go_wp2
    go_ret
    exact ⟨congrArg (fun b => Ending.returned (Value.bool b)) (by unfold partB; simp; omega), rfl⟩
  by_cases h2 : 70 < s.length
  · go_enter Tryz.func57, Tryz.ntmps57
    go_wp2
    go_ret
    exact ⟨congrArg (fun b => Ending.returned (Value.bool b)) (by unfold partB; simp; omega), rfl⟩
  go_enter Tryz.func57, Tryz.ntmps57
  go_wp2
  go_loop [14] (fun i => ∃ k : Nat, k ≤ s.length ∧ i = .int .i64 k ∧ (s.take k).all partByte = true) (fun i => s.length - (intOf i).toNat)
  case atStart => exact ⟨0, Nat.zero_le _, rfl, rfl⟩
  case round =>
    obtain ⟨k, hk, rfl, hall⟩ := hrel
    by_cases hlt : k < s.length
    · have hcall := isPartByte_any s[k] w
      have hsn : (s.take (k + 1)).all partByte = (partByte s[k]) := by
        rw [List.take_succ_eq_append_getElem hlt, List.all_append, hall]; simp
      cases hp : partByte s[k]
      · rw [hp] at hcall hsn
        have hf : partB s = false := by
          unfold partB
          have : s.all partByte = false := by
            rw [← List.take_append_drop (k + 1) s, List.all_append, hsn]; rfl
          rw [this]; simp
        clear hsn hp hall
        have Hf := Lib.hid hf; clear hf
        go_wp2_with fail
        refine hcall.mono ?_
        rintro e w' ⟨rfl, rfl⟩
        go_wp2
        go_ret
        exact ⟨congrArg (fun b => Ending.returned (Value.bool b)) Hf.out.symm, rfl⟩
      · rw [hp] at hcall hsn
        clear hp hall
        have Hs := Lib.hid hsn; clear hsn
        go_wp2_with fail
        refine hcall.mono ?_
        rintro e w' ⟨rfl, rfl⟩
        go_wp2
        go_round
        case rel => exact ⟨k + 1, by omega, by go_num, Hs.out⟩
        case measure => simp [intOf]; omega
    · have hf : partB s = true := by
        unfold partB
        rw [List.take_of_length_le (by omega)] at hall
        rw [hall]; simp; omega
      clear hall
      have Hf := Lib.hid hf; clear hf
      go_wp2
      go_ret
      exact ⟨congrArg (fun b => Ending.returned (Value.bool b)) Hf.out.symm, rfl⟩

def dirOf (p : By) : By := p.takeWhile (· != 47)
def nameOf (p : By) : By := (p.dropWhile (· != 47)).drop 1
def pathB (p : By) : Bool := p.contains 47 && partB (dirOf p) && partB (nameOf p)

theorem slash_cases : ∀ p : By, (Lib.indexByte p 47 = -1 ∧ p.contains 47 = false) ∨
    ∃ o : Nat, Lib.indexByte p 47 = o ∧ o < p.length ∧ p.take o = dirOf p ∧ p.drop (o + 1) = nameOf p ∧ p.contains 47 = true
  | [] => .inl ⟨rfl, rfl⟩
  | b :: l => by
    by_cases hb : b = 47
    · subst hb
      exact .inr ⟨0, rfl, by simp, rfl, rfl, by simp⟩
    · have hbe : (b == 47) = false := by simpa using hb
      have hbn : (b != 47) = true := by simpa using hb
      rcases slash_cases l with ⟨h1, h2⟩ | ⟨o, h1, h2, h3, h4, h5⟩
      · refine .inl ⟨by simp [Lib.indexByte, hbe, h1], ?_⟩
        rw [List.contains_cons, h2]; simpa using fun e => hb e.symm
      · refine .inr ⟨o + 1, ?_, by simp [h2], ?_, ?_, ?_⟩
        · have : ¬ ((o : Int) = -1) := by omega
          simp [Lib.indexByte, hbe, h1, this]
        · simp [dirOf, hbn] at h3 ⊢; exact h3
        · simp [nameOf, hbn] at h4 ⊢; exact h4
        · rw [List.contains_cons, h5]; simp

set_option maxHeartbeats 1000000 in
set_option maxRecDepth 100000 in
theorem indexByte_slash (p : By) (w : World) : Calls Tryz.prog 103 #[S p, .int .u8 47] w fun e w' => e = .returned (.int .i64 (Lib.indexByte p 47)) ∧ w = w' := by
  unfold S
  go_enter Tryz.func103, Tryz.ntmps103
  go_wp2
  rw [run_callFunc_extern Tryz.func113 (by kernel_rfl) (by kernel_rfl) (by kernel_rfl) (e := Extern.BytealgIndexByte.indexByte) (by kernel_rfl), Lib.run_indexByteString]
  simp only [Result.andThen]
  rw [Oper.upon_value]
  go_wp2
  go_ret
  exact ⟨rfl, rfl⟩

set_option maxHeartbeats 1000000 in
set_option maxRecDepth 100000 in
theorem index_slash (p : By) (w : World) : Calls Tryz.prog 89 #[S p, .string ⟨#[47]⟩] w fun e w' => e = .returned (.int .i64 (Lib.indexByte p 47)) ∧ w = w' := by
  have hc := indexByte_slash p w
  unfold S at hc ⊢
  by_cases h : p = [47]
  · subst h
    go_enter Tryz.func89, Tryz.ntmps89
    go_wp2_with fail
    go_ret
    exact ⟨rfl, rfl⟩
  · have h2 : ([47] == p) = false := by simpa using fun e => h e.symm
    go_enter Tryz.func89, Tryz.ntmps89
    go_wp2_with fail
    refine hc.mono ?_
    rintro e w' ⟨rfl, rfl⟩
    go_wp2
    go_ret
    exact ⟨rfl, rfl⟩

theorem extract_S (p : By) (a b : Nat) : (⟨p.toArray⟩ : ByteArray).extract a b = ⟨((p.take b).drop a).toArray⟩ := by
  apply ByteArray.ext
  rw [ByteArray.data_extract]
  apply Array.ext'
  simp [List.drop_take]

def cutB (p : By) : Value := if p.contains 47 then .tuple #[S (dirOf p), S (nameOf p), .bool true] else .tuple #[S p, S [], .bool false]
theorem cutB_yes {p : By} (h : p.contains 47 = true) : cutB p = .tuple #[S (dirOf p), S (nameOf p), .bool true] := by unfold cutB; rw [if_pos h]
theorem cutB_no {p : By} (h : p.contains 47 = false) : cutB p = .tuple #[S p, S [], .bool false] := by unfold cutB; rw [if_neg (by rw [h]; simp)]
/-- What strings.Cut at a slash comes to. -/
def CutPost (p : By) (w : World) (e : Ending) (w' : World) : Prop := e = .returned (cutB p) ∧ ∃ n, w' = w.drewN n

set_option maxHeartbeats 1000000 in
set_option maxRecDepth 100000 in
/-- strings.Cut at a slash. -/
theorem litecut_slash (p : By) (w : World) (hp : p.length ≤ maxLen) : Calls Tryz.prog 79 #[S p, .string ⟨#[47]⟩] w (CutPost p w) := by
  unfold maxLen at hp
  have hc := index_slash p w
  rcases slash_cases p with ⟨h1, h2⟩ | ⟨o, h1, h2, h3, h4, h5⟩
  · rw [h1] at hc
    have H2 := Lib.hid h2; clear h1 h2
    unfold S at hc ⊢
    go_enter Tryz.func79, Tryz.ntmps79
    go_wp2_with fail
    refine hc.mono ?_
    rintro e w' ⟨rfl, rfl⟩
    go_wp2
    go_ret3
    exact ⟨by rw [cutB_no H2.out]; rfl, 0, rfl⟩
  · rw [h1] at hc
    have e4 : p.drop (o + 1) = nameOf p := h4
    have H3 := Lib.hid h3; have H4 := Lib.hid h4; have H5 := Lib.hid h5; clear h1 h3 h4 h5 e4
    unfold S at hc
    have c1 : (0 : Int) ≤ ↑o := by omega
    have c2 : (↑o : Int) ≤ ↑p.length := by omega
    have c3 : (0 : Int) ≤ ↑o + 1 := by omega
    have c4 : (↑o + 1 : Int) ≤ ↑p.length := by omega
    unfold S
    go_enter Tryz.func79, Tryz.ntmps79
    go_wp2_with fail
    refine hc.mono ?_
    rintro e w' ⟨rfl, rfl⟩
    go_wp2
    go_region
    go_wp2
    go_ret3
    have E1 : (⟨p.toArray⟩ : ByteArray).extract 0 o = ⟨(dirOf p).toArray⟩ := by rw [extract_S, ← H3.out]; rfl
    have E2 : (⟨p.toArray⟩ : ByteArray).extract (o + 1) p.length = ⟨(nameOf p).toArray⟩ := by rw [extract_S, ← H4.out, List.take_length]
    refine ⟨?_, 1, rfl⟩
    rw [cutB_yes H5.out]
    show Ending.returned (.tuple #[.string ((⟨p.toArray⟩ : ByteArray).extract 0 o), .string ((⟨p.toArray⟩ : ByteArray).extract (o + 1) p.length), .bool true]) = _
    rw [E1, E2]
    rfl

set_option maxHeartbeats 1000000 in
theorem cut_slash (p : By) (w : World) (hp : p.length ≤ maxLen) : Calls Tryz.prog 65 #[S p, .string ⟨#[47]⟩] w (CutPost p w) := by
  have hc := litecut_slash p w hp
  cases hh : p.contains 47
  · have hb := cutB_no hh
    have hc' : Calls Tryz.prog 79 #[S p, .string ⟨#[47]⟩] w fun e w' => e = .returned (.tuple #[S p, S [], .bool false]) ∧ ∃ n, w' = w.drewN n := hc.mono fun e w' h => by
      obtain ⟨h1, h2⟩ := h; exact ⟨by rw [h1, hb], h2⟩
    have Hb := Lib.hid hb
    clear hh hb hc
    unfold S at hc' ⊢
    go_enter Tryz.func65, Tryz.ntmps65
    go_wp2_with fail
    refine hc'.mono ?_
    rintro e w' ⟨rfl, n, rfl⟩
    go_wp2
    go_ret3
    exact ⟨by rw [Hb.out]; rfl, n, rfl⟩
  · have hb := cutB_yes hh
    have hc' : Calls Tryz.prog 79 #[S p, .string ⟨#[47]⟩] w fun e w' => e = .returned (.tuple #[S (dirOf p), S (nameOf p), .bool true]) ∧ ∃ n, w' = w.drewN n := hc.mono fun e w' h => by
      obtain ⟨h1, h2⟩ := h; exact ⟨by rw [h1, hb], h2⟩
    have Hb := Lib.hid hb
    clear hh hb hc
    unfold S at hc' ⊢
    go_enter Tryz.func65, Tryz.ntmps65
    go_wp2_with fail
    refine hc'.mono ?_
    rintro e w' ⟨rfl, n, rfl⟩
    go_wp2
    go_ret3
    exact ⟨by rw [Hb.out]; rfl, n, rfl⟩

end Go.Proofs.YtccloieikkdcoaaGreatDoor
