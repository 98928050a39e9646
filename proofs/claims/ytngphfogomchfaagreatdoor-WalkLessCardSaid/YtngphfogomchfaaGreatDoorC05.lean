/-
  What may be: words, names, parts, who.
  The digest: Named.
-/
import Derived.Deep.QuietTactic
import Derived.BigQuiet
import Derived.IntWalk
import Derived.Shelf.Abstract
import Derived.Shelf.SlSorted.Search
import Derived.Test.YtngphfogomchfaaGreatDoorC03
import Derived.Test.YtngphfogomchfaaGreatDoorC04
import Derived.Lib.IndexLaws
import Derived.Laws.Externs
import Derived.Test.YtngphfogomchfaaGreatDoorC02

namespace Go.Proofs.YtngphfogomchfaaGreatDoor
open Go Go.RowKit Go.Shelf
/-- What object's calls ask of the listed variables: three errors, of which two are not one; the type of errors. -/
structure Er (w : World) : Prop where
  over : ∃ pe, w.cell? ⟨0, 0, none⟩ = some (.iface 266 pe)
  two : ∃ a b : Addr, a ≠ b ∧ w.cell? ⟨1, 0, none⟩ = some (.iface 266 (.pointer (some a))) ∧ w.cell? ⟨5, 0, none⟩ = some (.iface 266 (.pointer (some b)))
  et : Et w
theorem cell_to {w w' : World} {a : Addr} {v : Value} (h : w.cell? a = some v) (hb : Below w.heap.size w w') : w'.cell? a = some v :=
  (hb.cell (World.block_lt_of_cell? w a h)).trans h
theorem Er.below {w w' : World} (h : Er w) (hb : Below w.heap.size w w') : Er w' := by
  obtain ⟨⟨pe, h1⟩, ⟨a, b, hab, h2, h3⟩, h4⟩ := h
  exact ⟨⟨pe, cell_to h1 hb⟩, ⟨a, b, hab, cell_to h2 hb, cell_to h3 hb⟩, cell_to h4 hb⟩
theorem Er.wrong {w : World} (h : Er w) : ∃ a : Addr, w.cell? ⟨1, 0, none⟩ = some (.iface 266 (.pointer (some a))) := by
  obtain ⟨a, _, _, h, _⟩ := h.two; exact ⟨a, h⟩
/-- An error comes of it. -/
def FailB (w : World) (e : Ending) (w' : World) : Prop := ∃ p, e = .returned (.iface 134 (.pointer (some p))) ∧ Below w.heap.size w w'
set_option maxHeartbeats 400000 in
theorem word_any (k : Int) (w : World) : Calls Tryz.prog 87 #[.int .i64 k] w fun e w' => e = .returned (SV (kindW k)) ∧ w = w' := by
  unfold SV
  by_cases h1 : k = 1
  · subst h1
    go_enter Tryz.func87, Tryz.ntmps87
    go_wp2
    go_ret
    exact ⟨rfl, rfl⟩
  by_cases h2 : k = 2
  · subst h2
    go_enter Tryz.func87, Tryz.ntmps87
    go_wp2
    go_ret
    exact ⟨rfl, rfl⟩
  by_cases h3 : k = 3
  · subst h3
    go_enter Tryz.func87, Tryz.ntmps87
    go_wp2
    go_ret
    exact ⟨rfl, rfl⟩
  by_cases h4 : k = 4
  · subst h4
    go_enter Tryz.func87, Tryz.ntmps87
    go_wp2
    go_ret
    exact ⟨rfl, rfl⟩
  have H : Hid (kindW k = []) := Lib.hid (by unfold kindW; rw [if_neg h1, if_neg h2, if_neg h3, if_neg h4])
  rw [H.out]
  clear H
  have b1 : (k == 1) = false := by simpa using h1
  have b2 : (k == 2) = false := by simpa using h2
  have b3 : (k == 3) = false := by simpa using h3
  have b4 : (k == 4) = false := by simpa using h4
  clear h1 h2 h3 h4
  go_enter Tryz.func87, Tryz.ntmps87
  go_wp2
  go_ret
  exact ⟨rfl, rfl⟩
set_option maxHeartbeats 400000 in
theorem onlyHas_any (g : FuncId) (eg : ∀ args w, (callFunc g args).run Tryz.prog w = .ok (.enter g args) w) (p : UInt8 → Bool) (hp : ∀ (c : UInt8) (W : World), Calls Tryz.prog g #[.int .u8 (c.toNat : Int)] W fun e W' => e = .returned (.bool (p c)) ∧ W = W')
    (s : List UInt8) (hs : s.length ≤ maxLen) (w : World) : Calls Tryz.prog 182 #[SV s, .func (.func g) #[] #[]] w fun e w' => e = .returned (.bool (s.all p)) ∧ w = w' := by
  unfold maxLen at hs
  unfold SV
  have HP := Lib.hid hp; clear hp
  go_enter Tryz.func182, Tryz.ntmps182
  go_wp2
  go_loop [8] (fun i => ∃ k : Nat, k ≤ s.length ∧ i = .int .i64 k ∧ Hid ((s.take k).all p = true)) (fun i => s.length - (intOf i).toNat)
  case atStart => exact ⟨0, Nat.zero_le _, rfl, Lib.hid rfl⟩
  case round =>
    obtain ⟨k, hk, rfl, hall⟩ := hrel
    by_cases hlt : k < s.length
    · obtain ⟨c, hc⟩ : ∃ c, c = s[k] := ⟨_, rfl⟩
      have gc : ∀ h, ((⟨s.toArray⟩ : ByteArray)[k]'h) = c := fun h => hc.symm
      have hcall := HP.out c w
      have hsn : Hid ((s.take (k + 1)).all p = p c) := Lib.hid (by rw [List.take_succ_eq_append_getElem hlt, List.all_append, hall.out, hc]; simp)
      have hno : Hid (p c = false → s.all p = false) := Lib.hid (fun h => by rw [List.all_eq_false]; exact ⟨s[k], List.getElem_mem hlt, by rw [← hc, h]; simp⟩)
      clear hc
      cases hpc : p c
      · rw [hpc] at hcall
        have Hc := Lib.hid hcall
        have H2 : Hid (s.all p = false) := Lib.hid (hno.out hpc)
        clear hcall hpc
        go_wp2_with fail
        refine Hc.out.mono ?_
        rintro e w' ⟨rfl, rfl⟩
        go_wp2
        go_ret
        exact ⟨ret_bool H2.out.symm, rfl⟩
      · rw [hpc] at hcall
        have Hc := Lib.hid hcall
        have H2 : Hid ((s.take (k + 1)).all p = true) := Lib.hid (hsn.out.trans hpc)
        clear hcall hpc
        go_wp2_with fail
        refine Hc.out.mono ?_
        rintro e w' ⟨rfl, rfl⟩
        go_wp2
        go_round
        case rel => exact ⟨k + 1, by omega, by go_num, H2⟩
        case measure => simp [intOf]; omega
    · have H2 : Hid (s.all p = true) := Lib.hid (by have h := hall.out; rwa [List.take_of_length_le (by omega)] at h)
      go_wp2
      go_ret
      exact ⟨ret_bool H2.out.symm, rfl⟩
theorem whoC_int (c : UInt8) : whoC c = (decide (32 ≤ (c.toNat : Int)) && decide ((c.toNat : Int) ≤ 126)) := by
  unfold whoC; rw [Bool.eq_iff_iff]; simp; omega
set_option maxHeartbeats 400000 in
theorem whoC_any (c : UInt8) (w : World) : Calls Tryz.prog 183 #[.int .u8 (c.toNat : Int)] w fun e w' => e = .returned (.bool (whoC c)) ∧ w = w' := by
  rw [whoC_int]
  go_enter Tryz.func183, Tryz.ntmps183
  go_wp2
  all_goals (go_ret; refine ⟨ret_bool ?_, rfl⟩; first | rfl | (rw [Bool.eq_iff_iff]; simp; done) | (rw [Bool.eq_iff_iff]; simp; omega))
theorem partC_int (c : UInt8) : partC c = (decide (33 ≤ (c.toNat : Int)) && decide ((c.toNat : Int) ≤ 126) && ((c.toNat : Int) != 47)) := by
  unfold partC
  have : (c == 47) = ((c.toNat : Int) == 47) := by
    rw [Bool.eq_iff_iff]; simp only [beq_iff_eq]
    constructor
    · rintro rfl; rfl
    · intro h; exact UInt8.toNat_inj.1 (by have : c.toNat = 47 := by omega
                                           rw [this]; rfl)
  rw [this, Bool.eq_iff_iff]; simp; omega
set_option maxHeartbeats 400000 in
theorem partC_any (c : UInt8) (w : World) : Calls Tryz.prog 184 #[.int .u8 (c.toNat : Int)] w fun e w' => e = .returned (.bool (partC c)) ∧ w = w' := by
  rw [partC_int]
  go_enter Tryz.func184, Tryz.ntmps184
  go_wp2
  all_goals (go_ret; refine ⟨ret_bool ?_, rfl⟩; first | rfl | (rw [Bool.eq_iff_iff]; simp; done) | (rw [Bool.eq_iff_iff]; simp; omega))
theorem onlyWho (s : List UInt8) (hs : s.length ≤ maxLen) (w : World) : Calls Tryz.prog 182 #[SV s, .func (.func 183) #[] #[]] w fun e w' => e = .returned (.bool (s.all whoC)) ∧ w = w' :=
  onlyHas_any 183 (enters_of Tryz.func183 (by kernel_rfl) rfl) whoC whoC_any s hs w
theorem onlyPart (s : List UInt8) (hs : s.length ≤ maxLen) (w : World) : Calls Tryz.prog 182 #[SV s, .func (.func 184) #[] #[]] w fun e w' => e = .returned (.bool (s.all partC)) ∧ w = w' :=
  onlyHas_any 184 (enters_of Tryz.func184 (by kernel_rfl) rfl) partC partC_any s hs w
set_option maxRecDepth 100000 in
set_option maxHeartbeats 1000000 in
theorem checkWho_yes (s : List UInt8) (hs : s.length ≤ maxLen) (w : World) (he : Er w) (h : whoB s = true) : Calls Tryz.prog 165 #[SV s] w (RetBelow .nilIface w) := by
  have ho := onlyWho s hs w
  obtain ⟨pe, c0⟩ := he.over
  unfold maxLen at hs
  unfold whoB at h
  simp only [Bool.and_eq_true, decide_eq_true_eq] at h
  obtain ⟨h1, h2⟩ := h
  rw [h1] at ho
  unfold SV at ho ⊢
  have Ho := Lib.hid ho
  have n1 := need_yes (.string ⟨#[119, 104, 111]⟩) (.iface 266 pe) w
  have N1 := Lib.hid n1
  have h3 : (s.length : Int) ≤ 100 := by omega
  clear ho h1 n1 he
  go_enter Tryz.func165, Tryz.ntmps165
  go_wp2_with fail
  refine Ho.out.mono ?_
  rintro e w' ⟨rfl, rfl⟩
  go_wp2_with fail
  refine N1.out.mono ?_
  rintro e w' ⟨rfl, rfl⟩
  go_wp2
  go_ret
  exact ⟨rfl, Below.refl _ _⟩
set_option maxRecDepth 100000 in
set_option maxHeartbeats 1000000 in
theorem checkWho_no (s : List UInt8) (hs : s.length ≤ maxLen) (w : World) (he : Er w) (h : whoB s = false) : Calls Tryz.prog 165 #[SV s] w (FailB w) := by
  have ho := onlyWho s hs w
  obtain ⟨pe, c0⟩ := he.over
  obtain ⟨a, c1⟩ := he.wrong
  unfold maxLen at hs
  unfold whoB at h
  unfold SV at ho ⊢
  clear he
  cases h1 : s.all whoC
  · rw [h1] at ho
    have Ho := Lib.hid ho
    clear ho h1 h
    go_enter Tryz.func165, Tryz.ntmps165
    go_wp2_with fail
    refine Ho.out.mono ?_
    rintro e w' ⟨rfl, rfl⟩
    go_wp2
    go_ret
    exact ⟨_, rfl, below_new w _⟩
  · rw [h1] at ho h
    have Ho := Lib.hid ho
    have h2 : decide ((s.length : Int) ≤ 100) = false := by simp at h; exact decide_eq_false (by omega)
    have N1 := Lib.hid (need_no ⟨#[119, 104, 111]⟩ 266 pe w)
    clear ho h1 h
    go_enter Tryz.func165, Tryz.ntmps165
    go_wp2_with fail
    refine Ho.out.mono ?_
    rintro e w' ⟨rfl, rfl⟩
    go_wp2_with fail
    refine N1.out.mono ?_
    rintro e w' ⟨rfl, rfl⟩
    go_wp2
    go_ret
    exact ⟨_, rfl, below_new w _⟩
set_option maxHeartbeats 1000000 in
theorem standing_any (x : Itm) (hx : x.name.length ≤ 1000000) (w : World) : Calls Tryz.prog 156 #[.agg #[.int .i64 x.mode, SV x.name, SV x.id]] w fun e w' => e = .returned (SV (keyL x)) ∧ Below w.heap.size w w' := by
  obtain ⟨m, n, i⟩ := x
  simp only at hx ⊢
  have happ : (⟨n.toArray⟩ : ByteArray) ++ (⟨#[47]⟩ : ByteArray) = ⟨(n ++ [47]).toArray⟩ := append_S n [47]
  unfold SV keyL
  simp only
  by_cases h : m = 3
  · subst h
    rw [if_pos rfl]
    go_enter Tryz.func156, Tryz.ntmps156
    go_wp2
    go_ret
    exact ⟨rfl, below_new w _⟩
  · rw [if_neg h]
    have b : (m == 3) = false := by simpa using h
    clear h happ
    go_enter Tryz.func156, Tryz.ntmps156
    go_wp2
    go_ret
    exact ⟨rfl, below_new w _⟩
set_option maxRecDepth 100000 in
set_option maxHeartbeats 2000000 in
theorem kindOf_any (s : List UInt8) (w : World) : Calls Tryz.prog 145 #[SV s] w fun e w' => e = .returned (.int .i64 (kindOfW s)) ∧ w = w' := by
  have HW := Lib.hid (fun k => word_any k w)
  unfold SV at HW ⊢
  have w1 := HW.out 1; have w2 := HW.out 2; have w3 := HW.out 3; have w4 := HW.out 4
  rw [show kindW 1 = [98, 108, 111, 98] from rfl] at w1
  rw [show kindW 2 = [116, 114, 101, 101] from rfl] at w2
  rw [show kindW 3 = [99, 111, 109, 109, 105, 116] from rfl] at w3
  rw [show kindW 4 = [116, 97, 103] from rfl] at w4
  have W1 := Lib.hid w1; have W2 := Lib.hid w2; have W3 := Lib.hid w3; have W4 := Lib.hid w4
  clear w1 w2 w3 w4 HW
  by_cases h1 : s = [98, 108, 111, 98]
  · subst h1
    go_enter Tryz.func145, Tryz.ntmps145
    go_wp2
    refine wp_loop_rounds 1 ?_
    rw [rounds_succ]
    go_wp2_with fail
    refine W1.out.mono ?_
    rintro e w' ⟨rfl, rfl⟩
    go_wp2
    go_ret
    exact ⟨rfl, rfl⟩
  have n1 : ([98, 108, 111, 98] == s) = false := by rw [beq_eq_false_iff_ne]; exact fun e => h1 e.symm
  by_cases h2 : s = [116, 114, 101, 101]
  · subst h2
    clear h1
    go_enter Tryz.func145, Tryz.ntmps145
    go_wp2
    refine wp_loop_rounds 2 ?_
    rw [rounds_succ]
    go_wp2_with fail
    refine W1.out.mono ?_
    rintro e w' ⟨rfl, rfl⟩
    go_wp2_with fail
    rw [rounds_succ]
    go_wp2_with fail
    refine W2.out.mono ?_
    rintro e w' ⟨rfl, rfl⟩
    go_wp2
    go_ret
    exact ⟨rfl, rfl⟩
  have n2 : ([116, 114, 101, 101] == s) = false := by rw [beq_eq_false_iff_ne]; exact fun e => h2 e.symm
  by_cases h3 : s = [99, 111, 109, 109, 105, 116]
  · subst h3
    clear h1 h2
    go_enter Tryz.func145, Tryz.ntmps145
    go_wp2
    refine wp_loop_rounds 3 ?_
    rw [rounds_succ]
    go_wp2_with fail
    refine W1.out.mono ?_
    rintro e w' ⟨rfl, rfl⟩
    go_wp2_with fail
    rw [rounds_succ]
    go_wp2_with fail
    refine W2.out.mono ?_
    rintro e w' ⟨rfl, rfl⟩
    go_wp2_with fail
    rw [rounds_succ]
    go_wp2_with fail
    refine W3.out.mono ?_
    rintro e w' ⟨rfl, rfl⟩
    go_wp2
    go_ret
    exact ⟨rfl, rfl⟩
  have n3 : ([99, 111, 109, 109, 105, 116] == s) = false := by rw [beq_eq_false_iff_ne]; exact fun e => h3 e.symm
  by_cases h4 : s = [116, 97, 103]
  · subst h4
    clear h1 h2 h3
    go_enter Tryz.func145, Tryz.ntmps145
    go_wp2
    refine wp_loop_rounds 4 ?_
    rw [rounds_succ]
    go_wp2_with fail
    refine W1.out.mono ?_
    rintro e w' ⟨rfl, rfl⟩
    go_wp2_with fail
    rw [rounds_succ]
    go_wp2_with fail
    refine W2.out.mono ?_
    rintro e w' ⟨rfl, rfl⟩
    go_wp2_with fail
    rw [rounds_succ]
    go_wp2_with fail
    refine W3.out.mono ?_
    rintro e w' ⟨rfl, rfl⟩
    go_wp2_with fail
    rw [rounds_succ]
    go_wp2_with fail
    refine W4.out.mono ?_
    rintro e w' ⟨rfl, rfl⟩
    go_wp2
    go_ret
    exact ⟨rfl, rfl⟩
  have n4 : ([116, 97, 103] == s) = false := by rw [beq_eq_false_iff_ne]; exact fun e => h4 e.symm
  have HK : Hid (kindOfW s = 0) := Lib.hid (by unfold kindOfW; rw [if_neg h1, if_neg h2, if_neg h3, if_neg h4])
  rw [HK.out]
  clear h1 h2 h3 h4 HK
  go_enter Tryz.func145, Tryz.ntmps145
  go_wp2
  refine wp_loop_rounds 5 ?_
  rw [rounds_succ]
  go_wp2_with fail
  refine W1.out.mono ?_
  rintro e w' ⟨rfl, rfl⟩
  go_wp2_with fail
  rw [rounds_succ]
  go_wp2_with fail
  refine W2.out.mono ?_
  rintro e w' ⟨rfl, rfl⟩
  go_wp2_with fail
  rw [rounds_succ]
  go_wp2_with fail
  refine W3.out.mono ?_
  rintro e w' ⟨rfl, rfl⟩
  go_wp2_with fail
  rw [rounds_succ]
  go_wp2_with fail
  refine W4.out.mono ?_
  rintro e w' ⟨rfl, rfl⟩
  go_wp2_with fail
  rw [rounds_succ]
  go_wp2
  go_ret
  exact ⟨rfl, rfl⟩
end Go.Proofs.YtngphfogomchfaaGreatDoor


namespace Go.Proofs.YtngphfogomchfaaGreatDoor
open Go Go.RowKit
theorem isD_int (c : UInt8) : isD c = ((decide (48 ≤ (c.toNat : Int)) && decide ((c.toNat : Int) ≤ 57)) || (decide (97 ≤ (c.toNat : Int)) && decide ((c.toNat : Int) ≤ 102))) := by
  unfold isD
  rw [Bool.eq_iff_iff]; simp [UInt8.le_iff_toNat_le]; omega
set_option maxHeartbeats 400000 in
theorem digit_any (c : UInt8) (w : World) : Calls Tryz.prog 195 #[.int .u8 (c.toNat : Int)] w fun e w' => e = .returned (.bool (isD c)) ∧ w = w' := by
  rw [isD_int]
  go_enter Tryz.func195, Tryz.ntmps195
  go_wp2
  all_goals (go_ret; refine ⟨ret_bool ?_, rfl⟩; first | rfl | (rw [Bool.eq_iff_iff]; simp; done) | (rw [Bool.eq_iff_iff]; simp; omega))
set_option maxHeartbeats 400000 in
theorem rdigit_any (c : UInt8) (hc : c < 16) (w : World) : Calls Tryz.prog 69 #[.int .u8 (c.toNat : Int)] w fun e w' => e = .returned (.int .u8 ((hexD c).toNat : Int)) ∧ w = w' := by
  have hc' : c.toNat < 16 := by simpa [UInt8.lt_iff_toNat_lt] using hc
  have hd : (hexD c).toNat = if c.toNat < 10 then 48 + c.toNat else 87 + c.toNat := by
    unfold hexD
    by_cases h : c.toNat < 10
    · rw [if_pos (by simpa [UInt8.lt_iff_toNat_lt] using h), if_pos h, UInt8.toNat_add]; simp; omega
    · rw [if_neg (by simpa [UInt8.lt_iff_toNat_lt] using h), if_neg h, UInt8.toNat_add]; simp; omega
  have HD := Lib.hid hd; clear hd hc
  by_cases h : c.toNat < 10
  · go_enter Tryz.func69, Tryz.ntmps69
    go_wp2
    go_ret
    exact ⟨ret_u8 (by rw [HD.out, if_pos h]; omega), rfl⟩
  · go_enter Tryz.func69, Tryz.ntmps69
    go_wp2
    go_ret
    exact ⟨ret_u8 (by rw [HD.out, if_neg h]; omega), rfl⟩
set_option maxHeartbeats 400000 in
theorem three_any (a b c : UInt32) (w : World) : Calls Tryz.prog 114 #[.int .u32 (a.toNat : Int), .int .u32 (b.toNat : Int), .int .u32 (c.toNat : Int)] w fun e w' => e = .returned (.int .u32 ((a ^^^ b ^^^ c).toNat : Int)) ∧ w = w' := by
  have H := Lib.hid (show bits .xor .u32 (bits .xor .u32 (a.toNat : Int) (b.toNat : Int)) (c.toNat : Int) = ((a ^^^ b ^^^ c).toNat : Int) by rw [xor32, xor32])
  go_enter Tryz.func114, Tryz.ntmps114
  go_wp2
  go_ret
  exact ⟨ret_u32 H.out, rfl⟩
theorem rotr_add (x : UInt32) (n : Nat) (h1 : 1 ≤ n) (h2 : n < 32) : rotr x (UInt32.ofNat n) = x >>> UInt32.ofNat n + x <<< UInt32.ofNat (32 - n) := by
  unfold rotr
  rw [show 32 - UInt32.ofNat n = UInt32.ofNat (32 - n) by rw [← UInt32.toNat_inj, UInt32.toNat_sub]; simp; omega]
  rw [← UInt32.toBitVec_inj, UInt32.toBitVec_or, UInt32.toBitVec_add]
  refine (BitVec.add_eq_or_of_and_eq_zero _ _ ?_).symm
  rw [UInt32.toBitVec_shiftRight, UInt32.toBitVec_shiftLeft]
  have e1 : (UInt32.ofNat n).toBitVec % 32 = BitVec.ofNat 32 n := by apply BitVec.eq_of_toNat_eq; simp; omega
  have e2 : (UInt32.ofNat (32 - n)).toBitVec % 32 = BitVec.ofNat 32 (32 - n) := by apply BitVec.eq_of_toNat_eq; simp; omega
  rw [e1, e2]
  apply BitVec.eq_of_getLsbD_eq
  intro i hi
  have hn : (BitVec.ofNat 32 n).toNat = n := by simp; omega
  have hm : (BitVec.ofNat 32 (32 - n)).toNat = 32 - n := by simp; omega
  rw [BitVec.getLsbD_and, BitVec.ushiftRight_eq', BitVec.shiftLeft_eq', hn, hm, BitVec.getLsbD_ushiftRight, BitVec.getLsbD_shiftLeft]
  by_cases h : i < 32 - n
  · simp [h]
  · have : x.toBitVec.getLsbD (n + i) = false := BitVec.getLsbD_of_ge _ _ (by omega)
    simp [this]
set_option maxHeartbeats 400000 in
theorem rturn_any (x : UInt32) (n : Nat) (h1 : 1 ≤ n) (h2 : n < 32) (w : World) :
    Calls Tryz.prog 115 #[.int .u32 (x.toNat : Int), .int .i64 (n : Int)] w fun e w' => e = .returned (.int .u32 ((rotr x (UInt32.ofNat n)).toNat : Int)) ∧ ∃ m, w' = w.drewN m := by
  have e1 : IntKind.i64.wrap (32 - (n : Int)) = ((32 - n : Nat) : Int) := by rw [IntWalk.i64_in _ (by omega)]; omega
  have p1 : 0 ≤ (n : Int) := by omega
  have p2 : 0 ≤ ((32 - n : Nat) : Int) := by omega
  have H := Lib.hid (rotr_add x n h1 h2)
  go_enter Tryz.func115, Tryz.ntmps115
  go_wp2
  go_quiet (fail)
  clear e1 p1 p2
  go_wp2
  go_ret
  refine ⟨ret_u32 ?_, nq, rfl⟩
  rw [shrP x n h2, shlP x (32 - n) (by omega), add32m, H.out]
/-- Which text, byte by byte: the digits so far. -/
theorem all_snoc (l : List UInt8) (k : Nat) (h : k < l.length) (ih : (l.take k).all isD = true) : (l.take (k + 1)).all isD = isD l[k] := by
  rw [List.take_succ_eq_append_getElem h, List.all_append, ih]; simp
theorem named_no (l : List UInt8) (k : Nat) (h : k < l.length) (hd : isD l[k] = false) : namedB l = false := by
  unfold namedB
  have : l.all isD = false := by
    rw [List.all_eq_false]; exact ⟨l[k], List.getElem_mem h, by simp [hd]⟩
  rw [this, Bool.and_false]
theorem named_yes (l : List UInt8) (h : l.length = 64) (ha : (l.take 64).all isD = true) : namedB l = true := by
  unfold namedB
  rw [← h, List.take_length] at ha
  rw [h, ha]; rfl
theorem named_len (l : List UInt8) (h : l.length ≠ 64) : namedB l = false := by
  unfold namedB
  rw [show (l.length == 64) = false by simpa using h]; rfl
set_option maxHeartbeats 400000 in
theorem Named_any (l : List UInt8) (w : World) (hl : l.length ≤ maxLen) : Calls Tryz.prog 181 #[SV l] w fun e w' => e = .returned (.bool (namedB l)) ∧ w = w' := by
  unfold maxLen at hl
  unfold SV
  by_cases h64 : l.length = 64
  · have H64 := Lib.hid h64
    have b1 : (l.length : Int) ≤ 64 := by omega
    have b2 : 64 ≤ (l.length : Int) := by omega
    have b3 : ((l.length : Int) != 64) = false := by simp [h64]
    clear h64
    go_enter Tryz.func181, Tryz.ntmps181
    go_wp2
    go_loop [9] (fun i => ∃ k : Nat, k ≤ l.length ∧ i = .int .i64 k ∧ (l.take k).all isD = true) (fun i => l.length - (intOf i).toNat)
    case atStart => exact ⟨0, Nat.zero_le _, rfl, rfl⟩
    case round =>
      obtain ⟨k, hk, rfl, hall⟩ := hrel
      by_cases hlt : k < l.length
      · have hcall := digit_any l[k] w
        have hsn := all_snoc l k hlt hall
        cases hp : isD l[k]
        · rw [hp] at hcall
          have Hno := Lib.hid (named_no l k hlt hp)
          clear hsn hp hall
          go_wp2_with fail
          refine hcall.mono ?_
          rintro e w' ⟨rfl, rfl⟩
          go_wp2
          go_ret
          exact ⟨ret_bool Hno.out.symm, rfl⟩
        · rw [hp] at hcall
          have Hsn := Lib.hid (hsn.trans hp)
          clear hsn hp hall
          go_wp2_with fail
          refine hcall.mono ?_
          rintro e w' ⟨rfl, rfl⟩
          go_wp2
          go_round
          case rel => exact ⟨k + 1, by omega, by go_num, Hsn.out⟩
          case measure => simp [intOf]; omega
      · have Hy := Lib.hid (named_yes l H64.out (by rw [List.take_of_length_le (by omega)]; rw [List.take_of_length_le (by omega)] at hall; exact hall))
        clear hall
        go_wp2
        go_ret
        exact ⟨ret_bool Hy.out.symm, rfl⟩
  · have Hn := Lib.hid (named_len l h64)
    have b3 : ((l.length : Int) != 64) = true := by simp; omega
    clear h64
    go_enter Tryz.func181, Tryz.ntmps181
    go_wp2
    go_ret
    exact ⟨ret_bool Hn.out.symm, rfl⟩
end Go.Proofs.YtngphfogomchfaaGreatDoor
