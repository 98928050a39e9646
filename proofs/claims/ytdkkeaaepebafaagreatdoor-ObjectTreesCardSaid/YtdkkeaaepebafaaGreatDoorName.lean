/-
  Names, parts, items: what may be.
-/
import Derived.Test.YtdkkeaaepebafaaGreatDoorCheck
import Derived.Test.YtdkkeaaepebafaaGreatDoorDNamed
namespace Go.Proofs.YtdkkeaaepebafaaGreatDoor
open Go Go.RowKit Go.Shelf

set_option maxRecDepth 100000 in
set_option maxHeartbeats 1000000 in
theorem checkName_yes (s : List UInt8) (hs : s.length ≤ maxLen) (w : World) (he : Er w) (h : namedB s = true) : Calls Tryz.prog 95 #[SV s] w (RetBelow .nilIface w) := by
  obtain ⟨a, c1⟩ := he.wrong
  have hn := fun W => Named_any s W hs
  simp only [h] at hn
  unfold SV at hn ⊢
  have Hn := Lib.hid hn
  have N1 := Lib.hid (fun W => need_yes (.string ⟨#[110, 97, 109, 101]⟩) (.iface 240 (.pointer (some a))) W)
  clear hn he hs h
  go_enter Tryz.func95, Tryz.ntmps95
  go_wp2_with fail
  go_region_held3 (fun W => W.cell? ⟨1, 0, none⟩ = some (.iface 240 (.pointer (some a))) ∧ Below w.heap.size w W)
    (first | exact ⟨c1, (Below.refl _ _).drew⟩ | assumption | go_keep)
    (first
      | (go_at_call 123; refine (Hn.out _).mono ?_; rintro e w2 ⟨rfl, rfl⟩)
      | (go_at_call 60; refine (N1.out _).mono ?_; rintro e w3 ⟨rfl, rfl⟩))
  go_wp2
  go_ret
  exact ⟨rfl, (Below.refl _ _).drew⟩

set_option maxRecDepth 100000 in
set_option maxHeartbeats 1000000 in
theorem checkName_no (s : List UInt8) (hs : s.length ≤ maxLen) (w : World) (he : Er w) (h : namedB s = false) : Calls Tryz.prog 95 #[SV s] w (FailB w) := by
  obtain ⟨a, c1⟩ := he.wrong
  have hn := fun W => Named_any s W hs
  simp only [h] at hn
  unfold SV at hn ⊢
  have Hn := Lib.hid hn
  have N1 := Lib.hid (fun W => need_no ⟨#[110, 97, 109, 101]⟩ 240 (.pointer (some a)) W)
  have hgl := World.block_lt_of_cell? w _ c1
  clear hn he hs h
  go_enter Tryz.func95, Tryz.ntmps95
  go_wp2_with fail
  go_region_held3 (fun W => W.cell? ⟨1, 0, none⟩ = some (.iface 240 (.pointer (some a))) ∧ Below w.heap.size w W)
    (first | exact ⟨c1, (Below.refl _ _).drew⟩ | assumption | go_keep)
    (first
      | (go_at_call 123; refine (Hn.out _).mono ?_; rintro e w2 ⟨rfl, rfl⟩)
      | (go_at_call 60; refine (N1.out _).mono ?_; rintro e w3 ⟨rfl, hw3⟩; have hS3 : w3.cell? ⟨1, 0, none⟩ = some (.iface 240 (.pointer (some a))) ∧ Below w.heap.size w w3 := by subst hw3; exact ⟨cell_to c1 (((Below.refl w.heap.size w).drew).alloc (Nat.le_refl _) _), ((Below.refl w.heap.size w).drew).alloc (Nat.le_refl _) _⟩))
  go_wp2
  go_ret
  exact ⟨_, rfl, hS3.2⟩

theorem partB_parts {s : List UInt8} : partB s = true ↔ s.all partC = true ∧ (1 ≤ s.length ∧ s.length ≤ 70) ∧ s ≠ [46] ∧ s ≠ [46, 46] := by
  unfold partB
  simp only [Bool.and_eq_true, decide_eq_true_eq, Bool.not_eq_true', beq_eq_false_iff_ne]
  exact ⟨fun h => ⟨h.1.1.1, h.1.1.2, h.1.2, h.2⟩, fun h => ⟨⟨⟨h.1, h.2.1⟩, h.2.2.1⟩, h.2.2.2⟩⟩

set_option maxRecDepth 100000 in
set_option maxHeartbeats 1000000 in
theorem checkPart_yes (s : List UInt8) (hs : s.length ≤ maxLen) (w : World) (he : Er w) (h : partB s = true) : Calls Tryz.prog 98 #[SV s] w (RetBelow .nilIface w) := by
  have ho := onlyPart s hs w
  obtain ⟨pe, c0⟩ := he.over
  unfold maxLen at hs
  obtain ⟨h1, ⟨h2, h3⟩, h4, h5⟩ := partB_parts.1 h
  rw [h1] at ho
  unfold SV at ho ⊢
  have Ho := Lib.hid ho
  have N1 := Lib.hid (need_yes (.string ⟨#[112, 97, 114, 116]⟩) (.iface 240 pe) w)
  have b0 : (s == []) = false := by rw [beq_eq_false_iff_ne]; rintro rfl; simp at h2
  have b0' : (s != []) = true := by simp [bne, b0]
  have b0e : s.isEmpty = false := by cases s with | nil => simp at h2 | cons _ _ => rfl
  have b1 : (s == [46]) = false := by rw [beq_eq_false_iff_ne]; exact h4
  have b1' : (s != [46]) = true := by simp [bne, b1]
  have b2 : (s == [46, 46]) = false := by rw [beq_eq_false_iff_ne]; exact h5
  have b2' : (s != [46, 46]) = true := by simp [bne, b2]
  have h3 : (s.length : Int) ≤ 70 := by omega
  clear ho h1 he h4 h5 h h2
  go_enter Tryz.func98, Tryz.ntmps98
  go_wp2_with fail
  refine Ho.out.mono ?_
  rintro e w' ⟨rfl, rfl⟩
  go_wp2_with fail
  refine N1.out.mono ?_
  rintro e w' ⟨rfl, rfl⟩
  go_wp2
  go_ret
  exact ⟨rfl, Below.refl _ _⟩

set_option maxRecDepth 100000 in
set_option maxHeartbeats 2000000 in
theorem checkPart_no (s : List UInt8) (hs : s.length ≤ maxLen) (w : World) (he : Er w) (h : partB s = false) : Calls Tryz.prog 98 #[SV s] w (FailB w) := by
  have ho := onlyPart s hs w
  obtain ⟨pe, c0⟩ := he.over
  obtain ⟨a, c1⟩ := he.wrong
  unfold maxLen at hs
  unfold SV at ho ⊢
  clear he
  have N1 := Lib.hid (need_no ⟨#[112, 97, 114, 116]⟩ 240 pe w)
  by_cases z0 : s = []
  · subst z0
    clear ho N1 h
    go_enter Tryz.func98, Tryz.ntmps98
    go_wp2_with fail
    go_ret
    exact ⟨_, rfl, below_new w _⟩
  by_cases z1 : s = [46]
  · subst z1
    clear ho N1 h z0
    go_enter Tryz.func98, Tryz.ntmps98
    go_wp2_with fail
    go_ret
    exact ⟨_, rfl, below_new w _⟩
  by_cases z2 : s = [46, 46]
  · subst z2
    clear ho N1 h z0 z1
    go_enter Tryz.func98, Tryz.ntmps98
    go_wp2_with fail
    go_ret
    exact ⟨_, rfl, below_new w _⟩
  have h2 : 1 ≤ s.length := by
    cases s with
    | nil => exact absurd rfl z0
    | cons _ _ => simp
  have b0 : (s == []) = false := by rw [beq_eq_false_iff_ne]; exact z0
  have b0' : (s != []) = true := by simp [bne, b0]
  have b0e : s.isEmpty = false := by cases s with | nil => simp at h2 | cons _ _ => rfl
  have b1 : (s == [46]) = false := by rw [beq_eq_false_iff_ne]; exact z1
  have b1' : (s != [46]) = true := by simp [bne, b1]
  have b2 : (s == [46, 46]) = false := by rw [beq_eq_false_iff_ne]; exact z2
  have b2' : (s != [46, 46]) = true := by simp [bne, b2]
  cases h1 : s.all partC
  · rw [h1] at ho
    have Ho := Lib.hid ho
    clear ho h1 h z0 z1 z2 N1
    go_enter Tryz.func98, Tryz.ntmps98
    go_wp2_with fail
    refine Ho.out.mono ?_
    rintro e w' ⟨rfl, rfl⟩
    go_wp2
    go_ret
    exact ⟨_, rfl, below_new w _⟩
  · rw [h1] at ho
    have Ho := Lib.hid ho
    have h7 : ¬ s.length ≤ 70 := fun h7 => by
      have := partB_parts.2 ⟨h1, ⟨h2, h7⟩, z1, z2⟩
      rw [h] at this; cases this
    have h8 : decide ((s.length : Int) ≤ 70) = false := decide_eq_false (by omega)
    clear ho h1 h z0 z1 z2 h7
    go_enter Tryz.func98, Tryz.ntmps98
    go_wp2_with fail
    refine Ho.out.mono ?_
    rintro e w' ⟨rfl, rfl⟩
    go_wp2_with fail
    refine N1.out.mono ?_
    rintro e w' ⟨rfl, rfl⟩
    go_wp2
    go_ret
    exact ⟨_, rfl, below_new w _⟩

/-- An item as the program hands it on. -/
def ItV (x : Itm) : Value := .agg #[.int .i64 x.mode, SV x.name, SV x.id]

set_option maxRecDepth 100000 in
set_option maxHeartbeats 2000000 in
theorem checkItem_yes (x : Itm) (hn : x.name.length ≤ maxLen) (hi : x.id.length ≤ maxLen) (w : World) (he : Er w) (h : itemB x = true) : Calls Tryz.prog 89 #[ItV x] w (RetBelow .nilIface w) := by
  obtain ⟨m, n, i⟩ := x
  obtain ⟨h1, h2, h3, h4⟩ := itemB_parts h
  simp only at h1 h2 h3 h4 hn hi
  have H3 : Hid (∀ W, Below w.heap.size w W → Calls Tryz.prog 98 #[SV n] W (RetBelow .nilIface W)) := Lib.hid fun W hW => checkPart_yes n hn W (he.below hW) h3
  have H4 : Hid (∀ W, Below w.heap.size w W → Calls Tryz.prog 95 #[SV i] W (RetBelow .nilIface W)) := Lib.hid fun W hW => checkName_yes i hi W (he.below hW) h4
  have g1 : ¬ m < 1 := by omega
  have g2 : ¬ 3 < m := by omega
  clear h h3 h4 he hn hi
  unfold ItV SV at *
  simp only
  go_enter Tryz.func89, Tryz.ntmps89
  go_wp2_with fail
  refine (H3.out _ (below_new w _)).mono ?_
  rintro e w1 ⟨rfl, l1⟩
  have L1 : Below w.heap.size w w1 := (below_new w _).trans (l1.mono (by simp))
  have cb := (l1.cell (p := ⟨w.heap.size, 2, none⟩) (by simp))
  go_wp2_with fail
  refine (H4.out _ L1).mono ?_
  rintro e w2 ⟨rfl, l2⟩
  go_wp2
  go_ret
  exact ⟨rfl, L1.trans (l2.mono L1.size)⟩

set_option maxRecDepth 100000 in
set_option maxHeartbeats 2000000 in
theorem checkItem_no (x : Itm) (hn : x.name.length ≤ maxLen) (hi : x.id.length ≤ maxLen) (w : World) (he : Er w) (h : itemB x = false) : Calls Tryz.prog 89 #[ItV x] w (FailB w) := by
  obtain ⟨m, n, i⟩ := x
  simp only at hn hi
  obtain ⟨a, c1⟩ := he.wrong
  have Hh := Lib.hid h
  clear h
  by_cases g1 : m < 1
  · have c2 := cell_to c1 (below_new w (.cells #[.int .i64 m, .string ⟨n.toArray⟩, .string ⟨i.toArray⟩] 54))
    unfold ItV SV
    simp only
    clear he hn hi Hh
    go_enter Tryz.func89, Tryz.ntmps89
    go_wp2_with fail
    go_ret
    exact ⟨_, rfl, (below_new w _).trans ((below_new _ _).mono (by simp))⟩
  by_cases g2 : 3 < m
  · have c2 := cell_to c1 (below_new w (.cells #[.int .i64 m, .string ⟨n.toArray⟩, .string ⟨i.toArray⟩] 54))
    unfold ItV SV
    simp only
    clear he hn hi Hh
    go_enter Tryz.func89, Tryz.ntmps89
    go_wp2_with fail
    go_ret
    exact ⟨_, rfl, (below_new w _).trans ((below_new _ _).mono (by simp))⟩
  cases h3 : partB n
  · have H3 : Hid (∀ W, Below w.heap.size w W → Calls Tryz.prog 98 #[SV n] W (FailB W)) := Lib.hid fun W hW => checkPart_no n hn W (he.below hW) h3
    clear h3 he hn hi Hh c1
    unfold ItV SV at *
    simp only
    go_enter Tryz.func89, Tryz.ntmps89
    go_wp2_with fail
    refine (H3.out _ (below_new w _)).mono ?_
    rintro e w1 ⟨p, rfl, l1⟩
    have L1 : Below w.heap.size w w1 := (below_new w _).trans (l1.mono (by simp))
    go_wp2
    go_ret
    exact ⟨_, rfl, L1⟩
  · have h4 : namedB i = false := by
      have h := Hh.out
      unfold itemB at h
      simp only [h3, Bool.and_true] at h
      rw [decide_eq_true (show 1 ≤ m by omega), decide_eq_true (show m ≤ 3 by omega)] at h
      simpa using h
    have H3 : Hid (∀ W, Below w.heap.size w W → Calls Tryz.prog 98 #[SV n] W (RetBelow .nilIface W)) := Lib.hid fun W hW => checkPart_yes n hn W (he.below hW) h3
    have H4 : Hid (∀ W, Below w.heap.size w W → Calls Tryz.prog 95 #[SV i] W (FailB W)) := Lib.hid fun W hW => checkName_no i hi W (he.below hW) h4
    clear h3 h4 he hn hi Hh c1
    unfold ItV SV at *
    simp only
    go_enter Tryz.func89, Tryz.ntmps89
    go_wp2_with fail
    refine (H3.out _ (below_new w _)).mono ?_
    rintro e w1 ⟨rfl, l1⟩
    have L1 : Below w.heap.size w w1 := (below_new w _).trans (l1.mono (by simp))
    have cb := (l1.cell (p := ⟨w.heap.size, 2, none⟩) (by simp))
    go_wp2_with fail
    refine (H4.out _ L1).mono ?_
    rintro e w2 ⟨p, rfl, l2⟩
    go_wp2
    go_ret
    exact ⟨_, rfl, L1.trans (l2.mono L1.size)⟩
end Go.Proofs.YtdkkeaaepebafaaGreatDoor
