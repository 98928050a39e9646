/-
  What may be: words, names, parts, who.
-/
import Derived.Test.YtdkkeaaepebafaaGreatDoorBase
import Derived.Test.YtdkkeaaepebafaaGreatDoorFault
import Derived.Deep.QuietTactic
import Derived.BigQuiet
import Derived.IntWalk
import Derived.Shelf.Abstract
import Derived.Shelf.SlSorted.Search
namespace Go.Proofs.YtdkkeaaepebafaaGreatDoor
open Go Go.RowKit Go.Shelf

/-- What object's calls ask of the listed variables: three errors, of which two are not one; the type of errors. -/
structure Er (w : World) : Prop where
  over : ∃ pe, w.cell? ⟨0, 0, none⟩ = some (.iface 240 pe)
  two : ∃ a b : Addr, a ≠ b ∧ w.cell? ⟨1, 0, none⟩ = some (.iface 240 (.pointer (some a))) ∧ w.cell? ⟨3, 0, none⟩ = some (.iface 240 (.pointer (some b)))
  et : Et w
theorem cell_to {w w' : World} {a : Addr} {v : Value} (h : w.cell? a = some v) (hb : Below w.heap.size w w') : w'.cell? a = some v :=
  (hb.cell (World.block_lt_of_cell? w a h)).trans h
theorem Er.below {w w' : World} (h : Er w) (hb : Below w.heap.size w w') : Er w' := by
  obtain ⟨⟨pe, h1⟩, ⟨a, b, hab, h2, h3⟩, h4⟩ := h
  exact ⟨⟨pe, cell_to h1 hb⟩, ⟨a, b, hab, cell_to h2 hb, cell_to h3 hb⟩, cell_to h4 hb⟩
theorem Er.wrong {w : World} (h : Er w) : ∃ a : Addr, w.cell? ⟨1, 0, none⟩ = some (.iface 240 (.pointer (some a))) := by
  obtain ⟨a, _, _, h, _⟩ := h.two; exact ⟨a, h⟩

/-- An error comes of it. -/
def FailB (w : World) (e : Ending) (w' : World) : Prop := ∃ p, e = .returned (.iface 92 (.pointer (some p))) ∧ Below w.heap.size w w'

set_option maxHeartbeats 400000 in
theorem word_any (k : Int) (w : World) : Calls Tryz.prog 62 #[.int .i64 k] w fun e w' => e = .returned (SV (kindW k)) ∧ w = w' := by
  unfold SV
  by_cases h1 : k = 1
  · subst h1
    go_enter Tryz.func62, Tryz.ntmps62
    go_wp2
    go_ret
    exact ⟨rfl, rfl⟩
  by_cases h2 : k = 2
  · subst h2
    go_enter Tryz.func62, Tryz.ntmps62
    go_wp2
    go_ret
    exact ⟨rfl, rfl⟩
  by_cases h3 : k = 3
  · subst h3
    go_enter Tryz.func62, Tryz.ntmps62
    go_wp2
    go_ret
    exact ⟨rfl, rfl⟩
  by_cases h4 : k = 4
  · subst h4
    go_enter Tryz.func62, Tryz.ntmps62
    go_wp2
    go_ret
    exact ⟨rfl, rfl⟩
  have H : Hid (kindW k = []) := Lib.hid (by unfold kindW; rw [if_neg h1, if_neg h2, if_neg h3, if_neg h4])
  rw [H.out]
  clear H
  have b1 : (k == 1) = false := by simpa using h1
  have b2 : (k == 2) = false := by simpa using h2
  have b3 : (k == 3) = false := by simpa using h3
  have b4 : (k == 4) = false := by simpa using h4
  clear h1 h2 h3 h4
  go_enter Tryz.func62, Tryz.ntmps62
  go_wp2
  go_ret
  exact ⟨rfl, rfl⟩

set_option maxHeartbeats 400000 in
theorem onlyHas_any (g : FuncId) (eg : ∀ args w, (callFunc g args).run Tryz.prog w = .ok (.enter g args) w) (p : UInt8 → Bool) (hp : ∀ (c : UInt8) (W : World), Calls Tryz.prog g #[.int .u8 (c.toNat : Int)] W fun e W' => e = .returned (.bool (p c)) ∧ W = W')
    (s : List UInt8) (hs : s.length ≤ maxLen) (w : World) : Calls Tryz.prog 124 #[SV s, .func (.func g) #[] #[]] w fun e w' => e = .returned (.bool (s.all p)) ∧ w = w' := by
  unfold maxLen at hs
  unfold SV
  have HP := Lib.hid hp; clear hp
  go_enter Tryz.func124, Tryz.ntmps124
  go_wp2
  go_loop [8] (fun i => ∃ k : Nat, k ≤ s.length ∧ i = .int .i64 k ∧ Hid ((s.take k).all p = true)) (fun i => s.length - (intOf i).toNat)
  case atStart => exact ⟨0, Nat.zero_le _, rfl, Lib.hid rfl⟩
  case round =>
    obtain ⟨k, hk, rfl, hall⟩ := hrel
    by_cases hlt : k < s.length
    · obtain ⟨c, hc⟩ : ∃ c, c = s[k] := ⟨_, rfl⟩
      have gc : ∀ h, ((⟨s.toArray⟩ : ByteArray)[k]'h) = c := fun h => hc.symm
      have hcall := HP.out c w
      have hsn : Hid ((s.take (k + 1)).all p = p c) := Lib.hid (by rw [List.take_succ_eq_append_getElem hlt, List.all_append, hall.out, hc]; simp)
      have hno : Hid (p c = false → s.all p = false) := Lib.hid (fun h => by rw [List.all_eq_false]; exact ⟨s[k], List.getElem_mem hlt, by rw [← hc, h]; simp⟩)
      clear hc
      cases hpc : p c
      · rw [hpc] at hcall
        have Hc := Lib.hid hcall
        have H2 : Hid (s.all p = false) := Lib.hid (hno.out hpc)
        clear hcall hpc
        go_wp2_with fail
        refine Hc.out.mono ?_
        rintro e w' ⟨rfl, rfl⟩
        go_wp2
        go_ret
        exact ⟨ret_bool H2.out.symm, rfl⟩
      · rw [hpc] at hcall
        have Hc := Lib.hid hcall
        have H2 : Hid ((s.take (k + 1)).all p = true) := Lib.hid (hsn.out.trans hpc)
        clear hcall hpc
        go_wp2_with fail
        refine Hc.out.mono ?_
        rintro e w' ⟨rfl, rfl⟩
        go_wp2
        go_round
        case rel => exact ⟨k + 1, by omega, by go_num, H2⟩
        case measure => simp [intOf]; omega
    · have H2 : Hid (s.all p = true) := Lib.hid (by have h := hall.out; rwa [List.take_of_length_le (by omega)] at h)
      go_wp2
      go_ret
      exact ⟨ret_bool H2.out.symm, rfl⟩

theorem whoC_int (c : UInt8) : whoC c = (decide (32 ≤ (c.toNat : Int)) && decide ((c.toNat : Int) ≤ 126)) := by
  unfold whoC; rw [Bool.eq_iff_iff]; simp; omega
set_option maxHeartbeats 400000 in
theorem whoC_any (c : UInt8) (w : World) : Calls Tryz.prog 125 #[.int .u8 (c.toNat : Int)] w fun e w' => e = .returned (.bool (whoC c)) ∧ w = w' := by
  rw [whoC_int]
  go_enter Tryz.func125, Tryz.ntmps125
  go_wp2
  all_goals (go_ret; refine ⟨ret_bool ?_, rfl⟩; first | rfl | (rw [Bool.eq_iff_iff]; simp; done) | (rw [Bool.eq_iff_iff]; simp; omega))
theorem partC_int (c : UInt8) : partC c = (decide (33 ≤ (c.toNat : Int)) && decide ((c.toNat : Int) ≤ 126) && ((c.toNat : Int) != 47)) := by
  unfold partC
  have : (c == 47) = ((c.toNat : Int) == 47) := by
    rw [Bool.eq_iff_iff]; simp only [beq_iff_eq]
    constructor
    · rintro rfl; rfl
    · intro h; exact UInt8.toNat_inj.1 (by have : c.toNat = 47 := by omega
                                           rw [this]; rfl)
  rw [this, Bool.eq_iff_iff]; simp; omega
set_option maxHeartbeats 400000 in
theorem partC_any (c : UInt8) (w : World) : Calls Tryz.prog 126 #[.int .u8 (c.toNat : Int)] w fun e w' => e = .returned (.bool (partC c)) ∧ w = w' := by
  rw [partC_int]
  go_enter Tryz.func126, Tryz.ntmps126
  go_wp2
  all_goals (go_ret; refine ⟨ret_bool ?_, rfl⟩; first | rfl | (rw [Bool.eq_iff_iff]; simp; done) | (rw [Bool.eq_iff_iff]; simp; omega))

theorem onlyWho (s : List UInt8) (hs : s.length ≤ maxLen) (w : World) : Calls Tryz.prog 124 #[SV s, .func (.func 125) #[] #[]] w fun e w' => e = .returned (.bool (s.all whoC)) ∧ w = w' :=
  onlyHas_any 125 (enters_of Tryz.func125 (by kernel_rfl) rfl) whoC whoC_any s hs w
theorem onlyPart (s : List UInt8) (hs : s.length ≤ maxLen) (w : World) : Calls Tryz.prog 124 #[SV s, .func (.func 126) #[] #[]] w fun e w' => e = .returned (.bool (s.all partC)) ∧ w = w' :=
  onlyHas_any 126 (enters_of Tryz.func126 (by kernel_rfl) rfl) partC partC_any s hs w

set_option maxRecDepth 100000 in
set_option maxHeartbeats 1000000 in
theorem checkWho_yes (s : List UInt8) (hs : s.length ≤ maxLen) (w : World) (he : Er w) (h : whoB s = true) : Calls Tryz.prog 97 #[SV s] w (RetBelow .nilIface w) := by
  have ho := onlyWho s hs w
  obtain ⟨pe, c0⟩ := he.over
  unfold maxLen at hs
  unfold whoB at h
  simp only [Bool.and_eq_true, decide_eq_true_eq] at h
  obtain ⟨h1, h2⟩ := h
  rw [h1] at ho
  unfold SV at ho ⊢
  have Ho := Lib.hid ho
  have n1 := need_yes (.string ⟨#[119, 104, 111]⟩) (.iface 240 pe) w
  have N1 := Lib.hid n1
  have h3 : (s.length : Int) ≤ 100 := by omega
  clear ho h1 n1 he
  go_enter Tryz.func97, Tryz.ntmps97
  go_wp2_with fail
  refine Ho.out.mono ?_
  rintro e w' ⟨rfl, rfl⟩
  go_wp2_with fail
  refine N1.out.mono ?_
  rintro e w' ⟨rfl, rfl⟩
  go_wp2
  go_ret
  exact ⟨rfl, Below.refl _ _⟩
set_option maxRecDepth 100000 in
set_option maxHeartbeats 1000000 in
theorem checkWho_no (s : List UInt8) (hs : s.length ≤ maxLen) (w : World) (he : Er w) (h : whoB s = false) : Calls Tryz.prog 97 #[SV s] w (FailB w) := by
  have ho := onlyWho s hs w
  obtain ⟨pe, c0⟩ := he.over
  obtain ⟨a, c1⟩ := he.wrong
  unfold maxLen at hs
  unfold whoB at h
  unfold SV at ho ⊢
  clear he
  cases h1 : s.all whoC
  · rw [h1] at ho
    have Ho := Lib.hid ho
    clear ho h1 h
    go_enter Tryz.func97, Tryz.ntmps97
    go_wp2_with fail
    refine Ho.out.mono ?_
    rintro e w' ⟨rfl, rfl⟩
    go_wp2
    go_ret
    exact ⟨_, rfl, below_new w _⟩
  · rw [h1] at ho h
    have Ho := Lib.hid ho
    have h2 : decide ((s.length : Int) ≤ 100) = false := by simp at h; exact decide_eq_false (by omega)
    have N1 := Lib.hid (need_no ⟨#[119, 104, 111]⟩ 240 pe w)
    clear ho h1 h
    go_enter Tryz.func97, Tryz.ntmps97
    go_wp2_with fail
    refine Ho.out.mono ?_
    rintro e w' ⟨rfl, rfl⟩
    go_wp2_with fail
    refine N1.out.mono ?_
    rintro e w' ⟨rfl, rfl⟩
    go_wp2
    go_ret
    exact ⟨_, rfl, below_new w _⟩

set_option maxHeartbeats 1000000 in
theorem standing_any (x : Itm) (hx : x.name.length ≤ 1000000) (w : World) : Calls Tryz.prog 90 #[.agg #[.int .i64 x.mode, SV x.name, SV x.id]] w fun e w' => e = .returned (SV (keyL x)) ∧ Below w.heap.size w w' := by
  obtain ⟨m, n, i⟩ := x
  simp only at hx ⊢
  have happ : (⟨n.toArray⟩ : ByteArray) ++ (⟨#[47]⟩ : ByteArray) = ⟨(n ++ [47]).toArray⟩ := append_S n [47]
  unfold SV keyL
  simp only
  by_cases h : m = 3
  · subst h
    rw [if_pos rfl]
    go_enter Tryz.func90, Tryz.ntmps90
    go_wp2
    go_ret
    exact ⟨rfl, below_new w _⟩
  · rw [if_neg h]
    have b : (m == 3) = false := by simpa using h
    clear h happ
    go_enter Tryz.func90, Tryz.ntmps90
    go_wp2
    go_ret
    exact ⟨rfl, below_new w _⟩

set_option maxRecDepth 100000 in
set_option maxHeartbeats 2000000 in
theorem kindOf_any (s : List UInt8) (w : World) : Calls Tryz.prog 78 #[SV s] w fun e w' => e = .returned (.int .i64 (kindOfW s)) ∧ w = w' := by
  have HW := Lib.hid (fun k => word_any k w)
  unfold SV at HW ⊢
  have w1 := HW.out 1; have w2 := HW.out 2; have w3 := HW.out 3; have w4 := HW.out 4
  rw [show kindW 1 = [98, 108, 111, 98] from rfl] at w1
  rw [show kindW 2 = [116, 114, 101, 101] from rfl] at w2
  rw [show kindW 3 = [99, 111, 109, 109, 105, 116] from rfl] at w3
  rw [show kindW 4 = [116, 97, 103] from rfl] at w4
  have W1 := Lib.hid w1; have W2 := Lib.hid w2; have W3 := Lib.hid w3; have W4 := Lib.hid w4
  clear w1 w2 w3 w4 HW
  by_cases h1 : s = [98, 108, 111, 98]
  · subst h1
    go_enter Tryz.func78, Tryz.ntmps78
    go_wp2
    refine wp_loop_rounds 1 ?_
    rw [rounds_succ]
    go_wp2_with fail
    refine W1.out.mono ?_
    rintro e w' ⟨rfl, rfl⟩
    go_wp2
    go_ret
    exact ⟨rfl, rfl⟩
  have n1 : ([98, 108, 111, 98] == s) = false := by rw [beq_eq_false_iff_ne]; exact fun e => h1 e.symm
  by_cases h2 : s = [116, 114, 101, 101]
  · subst h2
    clear h1
    go_enter Tryz.func78, Tryz.ntmps78
    go_wp2
    refine wp_loop_rounds 2 ?_
    rw [rounds_succ]
    go_wp2_with fail
    refine W1.out.mono ?_
    rintro e w' ⟨rfl, rfl⟩
    go_wp2_with fail
    rw [rounds_succ]
    go_wp2_with fail
    refine W2.out.mono ?_
    rintro e w' ⟨rfl, rfl⟩
    go_wp2
    go_ret
    exact ⟨rfl, rfl⟩
  have n2 : ([116, 114, 101, 101] == s) = false := by rw [beq_eq_false_iff_ne]; exact fun e => h2 e.symm
  by_cases h3 : s = [99, 111, 109, 109, 105, 116]
  · subst h3
    clear h1 h2
    go_enter Tryz.func78, Tryz.ntmps78
    go_wp2
    refine wp_loop_rounds 3 ?_
    rw [rounds_succ]
    go_wp2_with fail
    refine W1.out.mono ?_
    rintro e w' ⟨rfl, rfl⟩
    go_wp2_with fail
    rw [rounds_succ]
    go_wp2_with fail
    refine W2.out.mono ?_
    rintro e w' ⟨rfl, rfl⟩
    go_wp2_with fail
    rw [rounds_succ]
    go_wp2_with fail
    refine W3.out.mono ?_
    rintro e w' ⟨rfl, rfl⟩
    go_wp2
    go_ret
    exact ⟨rfl, rfl⟩
  have n3 : ([99, 111, 109, 109, 105, 116] == s) = false := by rw [beq_eq_false_iff_ne]; exact fun e => h3 e.symm
  by_cases h4 : s = [116, 97, 103]
  · subst h4
    clear h1 h2 h3
    go_enter Tryz.func78, Tryz.ntmps78
    go_wp2
    refine wp_loop_rounds 4 ?_
    rw [rounds_succ]
    go_wp2_with fail
    refine W1.out.mono ?_
    rintro e w' ⟨rfl, rfl⟩
    go_wp2_with fail
    rw [rounds_succ]
    go_wp2_with fail
    refine W2.out.mono ?_
    rintro e w' ⟨rfl, rfl⟩
    go_wp2_with fail
    rw [rounds_succ]
    go_wp2_with fail
    refine W3.out.mono ?_
    rintro e w' ⟨rfl, rfl⟩
    go_wp2_with fail
    rw [rounds_succ]
    go_wp2_with fail
    refine W4.out.mono ?_
    rintro e w' ⟨rfl, rfl⟩
    go_wp2
    go_ret
    exact ⟨rfl, rfl⟩
  have n4 : ([116, 97, 103] == s) = false := by rw [beq_eq_false_iff_ne]; exact fun e => h4 e.symm
  have HK : Hid (kindOfW s = 0) := Lib.hid (by unfold kindOfW; rw [if_neg h1, if_neg h2, if_neg h3, if_neg h4])
  rw [HK.out]
  clear h1 h2 h3 h4 HK
  go_enter Tryz.func78, Tryz.ntmps78
  go_wp2
  refine wp_loop_rounds 5 ?_
  rw [rounds_succ]
  go_wp2_with fail
  refine W1.out.mono ?_
  rintro e w' ⟨rfl, rfl⟩
  go_wp2_with fail
  rw [rounds_succ]
  go_wp2_with fail
  refine W2.out.mono ?_
  rintro e w' ⟨rfl, rfl⟩
  go_wp2_with fail
  rw [rounds_succ]
  go_wp2_with fail
  refine W3.out.mono ?_
  rintro e w' ⟨rfl, rfl⟩
  go_wp2_with fail
  rw [rounds_succ]
  go_wp2_with fail
  refine W4.out.mono ?_
  rintro e w' ⟨rfl, rfl⟩
  go_wp2_with fail
  rw [rounds_succ]
  go_wp2
  go_ret
  exact ⟨rfl, rfl⟩
end Go.Proofs.YtdkkeaaepebafaaGreatDoor
