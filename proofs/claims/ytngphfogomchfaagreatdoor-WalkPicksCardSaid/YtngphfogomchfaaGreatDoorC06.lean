/-
  Names, parts, items: what may be.
  strings.Cut at one byte.
-/
import Derived.Test.YtngphfogomchfaaGreatDoorC05
import Derived.Deep.QuietTactic
import Derived.BigQuiet
import Derived.Test.YtngphfogomchfaaGreatDoorLay

namespace Go.Proofs.YtngphfogomchfaaGreatDoor
open Go Go.RowKit Go.Shelf
set_option maxRecDepth 100000 in
set_option maxHeartbeats 1000000 in
theorem checkName_yes (s : List UInt8) (hs : s.length ≤ maxLen) (w : World) (he : Er w) (h : namedB s = true) : Calls Tryz.prog 163 #[SV s] w (RetBelow .nilIface w) := by
  obtain ⟨a, c1⟩ := he.wrong
  have hn := fun W => Named_any s W hs
  simp only [h] at hn
  unfold SV at hn ⊢
  have Hn := Lib.hid hn
  have N1 := Lib.hid (fun W => need_yes (.string ⟨#[110, 97, 109, 101]⟩) (.iface 266 (.pointer (some a))) W)
  clear hn he hs h
  go_enter Tryz.func163, Tryz.ntmps163
  go_wp2_with fail
  go_region_held3 (fun W => W.cell? ⟨1, 0, none⟩ = some (.iface 266 (.pointer (some a))) ∧ Below w.heap.size w W)
    (first | exact ⟨c1, (Below.refl _ _).drew⟩ | assumption | go_keep)
    (first
      | (go_at_call 181; refine (Hn.out _).mono ?_; rintro e w2 ⟨rfl, rfl⟩)
      | (go_at_call 95; refine (N1.out _).mono ?_; rintro e w3 ⟨rfl, rfl⟩))
  go_wp2
  go_ret
  exact ⟨rfl, (Below.refl _ _).drew⟩
set_option maxRecDepth 100000 in
set_option maxHeartbeats 1000000 in
theorem checkName_no (s : List UInt8) (hs : s.length ≤ maxLen) (w : World) (he : Er w) (h : namedB s = false) : Calls Tryz.prog 163 #[SV s] w (FailB w) := by
  obtain ⟨a, c1⟩ := he.wrong
  have hn := fun W => Named_any s W hs
  simp only [h] at hn
  unfold SV at hn ⊢
  have Hn := Lib.hid hn
  have N1 := Lib.hid (fun W => need_no ⟨#[110, 97, 109, 101]⟩ 266 (.pointer (some a)) W)
  have hgl := World.block_lt_of_cell? w _ c1
  clear hn he hs h
  go_enter Tryz.func163, Tryz.ntmps163
  go_wp2_with fail
  go_region_held3 (fun W => W.cell? ⟨1, 0, none⟩ = some (.iface 266 (.pointer (some a))) ∧ Below w.heap.size w W)
    (first | exact ⟨c1, (Below.refl _ _).drew⟩ | assumption | go_keep)
    (first
      | (go_at_call 181; refine (Hn.out _).mono ?_; rintro e w2 ⟨rfl, rfl⟩)
      | (go_at_call 95; refine (N1.out _).mono ?_; rintro e w3 ⟨rfl, hw3⟩; have hS3 : w3.cell? ⟨1, 0, none⟩ = some (.iface 266 (.pointer (some a))) ∧ Below w.heap.size w w3 := by subst hw3; exact ⟨cell_to c1 (((Below.refl w.heap.size w).drew).alloc (Nat.le_refl _) _), ((Below.refl w.heap.size w).drew).alloc (Nat.le_refl _) _⟩))
  go_wp2
  go_ret
  exact ⟨_, rfl, hS3.2⟩
theorem partB_parts {s : List UInt8} : partB s = true ↔ s.all partC = true ∧ (1 ≤ s.length ∧ s.length ≤ 70) ∧ s ≠ [46] ∧ s ≠ [46, 46] := by
  unfold partB
  simp only [Bool.and_eq_true, decide_eq_true_eq, Bool.not_eq_true', beq_eq_false_iff_ne]
  exact ⟨fun h => ⟨h.1.1.1, h.1.1.2, h.1.2, h.2⟩, fun h => ⟨⟨⟨h.1, h.2.1⟩, h.2.2.1⟩, h.2.2.2⟩⟩
set_option maxRecDepth 100000 in
set_option maxHeartbeats 1000000 in
theorem checkPart_yes (s : List UInt8) (hs : s.length ≤ maxLen) (w : World) (he : Er w) (h : partB s = true) : Calls Tryz.prog 166 #[SV s] w (RetBelow .nilIface w) := by
  have ho := onlyPart s hs w
  obtain ⟨pe, c0⟩ := he.over
  unfold maxLen at hs
  obtain ⟨h1, ⟨h2, h3⟩, h4, h5⟩ := partB_parts.1 h
  rw [h1] at ho
  unfold SV at ho ⊢
  have Ho := Lib.hid ho
  have N1 := Lib.hid (need_yes (.string ⟨#[112, 97, 114, 116]⟩) (.iface 266 pe) w)
  have b0 : (s == []) = false := by rw [beq_eq_false_iff_ne]; rintro rfl; simp at h2
  have b0' : (s != []) = true := by simp [bne, b0]
  have b0e : s.isEmpty = false := by cases s with | nil => simp at h2 | cons _ _ => rfl
  have b1 : (s == [46]) = false := by rw [beq_eq_false_iff_ne]; exact h4
  have b1' : (s != [46]) = true := by simp [bne, b1]
  have b2 : (s == [46, 46]) = false := by rw [beq_eq_false_iff_ne]; exact h5
  have b2' : (s != [46, 46]) = true := by simp [bne, b2]
  have h3 : (s.length : Int) ≤ 70 := by omega
  clear ho h1 he h4 h5 h h2
  go_enter Tryz.func166, Tryz.ntmps166
  go_wp2_with fail
  refine Ho.out.mono ?_
  rintro e w' ⟨rfl, rfl⟩
  go_wp2_with fail
  refine N1.out.mono ?_
  rintro e w' ⟨rfl, rfl⟩
  go_wp2
  go_ret
  exact ⟨rfl, Below.refl _ _⟩
set_option maxRecDepth 100000 in
set_option maxHeartbeats 2000000 in
theorem checkPart_no (s : List UInt8) (hs : s.length ≤ maxLen) (w : World) (he : Er w) (h : partB s = false) : Calls Tryz.prog 166 #[SV s] w (FailB w) := by
  have ho := onlyPart s hs w
  obtain ⟨pe, c0⟩ := he.over
  obtain ⟨a, c1⟩ := he.wrong
  unfold maxLen at hs
  unfold SV at ho ⊢
  clear he
  have N1 := Lib.hid (need_no ⟨#[112, 97, 114, 116]⟩ 266 pe w)
  by_cases z0 : s = []
  · subst z0
    clear ho N1 h
    go_enter Tryz.func166, Tryz.ntmps166
    go_wp2_with fail
    go_ret
    exact ⟨_, rfl, below_new w _⟩
  by_cases z1 : s = [46]
  · subst z1
    clear ho N1 h z0
    go_enter Tryz.func166, Tryz.ntmps166
    go_wp2_with fail
    go_ret
    exact ⟨_, rfl, below_new w _⟩
  by_cases z2 : s = [46, 46]
  · subst z2
    clear ho N1 h z0 z1
    go_enter Tryz.func166, Tryz.ntmps166
    go_wp2_with fail
    go_ret
    exact ⟨_, rfl, below_new w _⟩
  have h2 : 1 ≤ s.length := by
    cases s with
    | nil => exact absurd rfl z0
    | cons _ _ => simp
  have b0 : (s == []) = false := by rw [beq_eq_false_iff_ne]; exact z0
  have b0' : (s != []) = true := by simp [bne, b0]
  have b0e : s.isEmpty = false := by cases s with | nil => simp at h2 | cons _ _ => rfl
  have b1 : (s == [46]) = false := by rw [beq_eq_false_iff_ne]; exact z1
  have b1' : (s != [46]) = true := by simp [bne, b1]
  have b2 : (s == [46, 46]) = false := by rw [beq_eq_false_iff_ne]; exact z2
  have b2' : (s != [46, 46]) = true := by simp [bne, b2]
  cases h1 : s.all partC
  · rw [h1] at ho
    have Ho := Lib.hid ho
    clear ho h1 h z0 z1 z2 N1
    go_enter Tryz.func166, Tryz.ntmps166
    go_wp2_with fail
    refine Ho.out.mono ?_
    rintro e w' ⟨rfl, rfl⟩
    go_wp2
    go_ret
    exact ⟨_, rfl, below_new w _⟩
  · rw [h1] at ho
    have Ho := Lib.hid ho
    have h7 : ¬ s.length ≤ 70 := fun h7 => by
      have := partB_parts.2 ⟨h1, ⟨h2, h7⟩, z1, z2⟩
      rw [h] at this; cases this
    have h8 : decide ((s.length : Int) ≤ 70) = false := decide_eq_false (by omega)
    clear ho h1 h z0 z1 z2 h7
    go_enter Tryz.func166, Tryz.ntmps166
    go_wp2_with fail
    refine Ho.out.mono ?_
    rintro e w' ⟨rfl, rfl⟩
    go_wp2_with fail
    refine N1.out.mono ?_
    rintro e w' ⟨rfl, rfl⟩
    go_wp2
    go_ret
    exact ⟨_, rfl, below_new w _⟩
/-- An item as the program hands it on. -/
def ItV (x : Itm) : Value := .agg #[.int .i64 x.mode, SV x.name, SV x.id]
set_option maxRecDepth 100000 in
set_option maxHeartbeats 2000000 in
theorem checkItem_yes (x : Itm) (hn : x.name.length ≤ maxLen) (hi : x.id.length ≤ maxLen) (w : World) (he : Er w) (h : itemB x = true) : Calls Tryz.prog 155 #[ItV x] w (RetBelow .nilIface w) := by
  obtain ⟨m, n, i⟩ := x
  obtain ⟨h1, h2, h3, h4⟩ := itemB_parts h
  simp only at h1 h2 h3 h4 hn hi
  have H3 : Hid (∀ W, Below w.heap.size w W → Calls Tryz.prog 166 #[SV n] W (RetBelow .nilIface W)) := Lib.hid fun W hW => checkPart_yes n hn W (he.below hW) h3
  have H4 : Hid (∀ W, Below w.heap.size w W → Calls Tryz.prog 163 #[SV i] W (RetBelow .nilIface W)) := Lib.hid fun W hW => checkName_yes i hi W (he.below hW) h4
  have g1 : ¬ m < 1 := by omega
  have g2 : ¬ 3 < m := by omega
  clear h h3 h4 he hn hi
  unfold ItV SV at *
  simp only
  go_enter Tryz.func155, Tryz.ntmps155
  go_wp2_with fail
  refine (H3.out _ (below_new w _)).mono ?_
  rintro e w1 ⟨rfl, l1⟩
  have L1 : Below w.heap.size w w1 := (below_new w _).trans (l1.mono (by simp))
  have cb := (l1.cell (p := ⟨w.heap.size, 2, none⟩) (by simp))
  go_wp2_with fail
  refine (H4.out _ L1).mono ?_
  rintro e w2 ⟨rfl, l2⟩
  go_wp2
  go_ret
  exact ⟨rfl, L1.trans (l2.mono L1.size)⟩
set_option maxRecDepth 100000 in
set_option maxHeartbeats 2000000 in
theorem checkItem_no (x : Itm) (hn : x.name.length ≤ maxLen) (hi : x.id.length ≤ maxLen) (w : World) (he : Er w) (h : itemB x = false) : Calls Tryz.prog 155 #[ItV x] w (FailB w) := by
  obtain ⟨m, n, i⟩ := x
  simp only at hn hi
  obtain ⟨a, c1⟩ := he.wrong
  have Hh := Lib.hid h
  clear h
  by_cases g1 : m < 1
  · have c2 := cell_to c1 (below_new w (.cells #[.int .i64 m, .string ⟨n.toArray⟩, .string ⟨i.toArray⟩] 59))
    unfold ItV SV
    simp only
    clear he hn hi Hh
    go_enter Tryz.func155, Tryz.ntmps155
    go_wp2_with fail
    go_ret
    exact ⟨_, rfl, (below_new w _).trans ((below_new _ _).mono (by simp))⟩
  by_cases g2 : 3 < m
  · have c2 := cell_to c1 (below_new w (.cells #[.int .i64 m, .string ⟨n.toArray⟩, .string ⟨i.toArray⟩] 59))
    unfold ItV SV
    simp only
    clear he hn hi Hh
    go_enter Tryz.func155, Tryz.ntmps155
    go_wp2_with fail
    go_ret
    exact ⟨_, rfl, (below_new w _).trans ((below_new _ _).mono (by simp))⟩
  cases h3 : partB n
  · have H3 : Hid (∀ W, Below w.heap.size w W → Calls Tryz.prog 166 #[SV n] W (FailB W)) := Lib.hid fun W hW => checkPart_no n hn W (he.below hW) h3
    clear h3 he hn hi Hh c1
    unfold ItV SV at *
    simp only
    go_enter Tryz.func155, Tryz.ntmps155
    go_wp2_with fail
    refine (H3.out _ (below_new w _)).mono ?_
    rintro e w1 ⟨p, rfl, l1⟩
    have L1 : Below w.heap.size w w1 := (below_new w _).trans (l1.mono (by simp))
    go_wp2
    go_ret
    exact ⟨_, rfl, L1⟩
  · have h4 : namedB i = false := by
      have h := Hh.out
      unfold itemB at h
      simp only [h3, Bool.and_true] at h
      rw [decide_eq_true (show 1 ≤ m by omega), decide_eq_true (show m ≤ 3 by omega)] at h
      simpa using h
    have H3 : Hid (∀ W, Below w.heap.size w W → Calls Tryz.prog 166 #[SV n] W (RetBelow .nilIface W)) := Lib.hid fun W hW => checkPart_yes n hn W (he.below hW) h3
    have H4 : Hid (∀ W, Below w.heap.size w W → Calls Tryz.prog 163 #[SV i] W (FailB W)) := Lib.hid fun W hW => checkName_no i hi W (he.below hW) h4
    clear h3 h4 he hn hi Hh c1
    unfold ItV SV at *
    simp only
    go_enter Tryz.func155, Tryz.ntmps155
    go_wp2_with fail
    refine (H3.out _ (below_new w _)).mono ?_
    rintro e w1 ⟨rfl, l1⟩
    have L1 : Below w.heap.size w w1 := (below_new w _).trans (l1.mono (by simp))
    have cb := (l1.cell (p := ⟨w.heap.size, 2, none⟩) (by simp))
    go_wp2_with fail
    refine (H4.out _ L1).mono ?_
    rintro e w2 ⟨p, rfl, l2⟩
    go_wp2
    go_ret
    exact ⟨_, rfl, L1.trans (l2.mono L1.size)⟩
end Go.Proofs.YtngphfogomchfaaGreatDoor


namespace Go.Proofs.YtngphfogomchfaaGreatDoor
open Go Go.RowKit Go.Shelf
theorem ixb_none (c : UInt8) : ∀ s : List UInt8, cutAt c s = none → Lib.indexByte s c = -1
  | [], _ => rfl
  | x :: s, h => by
    rw [cutAt] at h
    by_cases hx : x = c
    · rw [if_pos hx] at h; cases h
    · rw [if_neg hx, Option.map_eq_none_iff] at h
      rw [Lib.indexByte, if_neg (by simpa using hx), ixb_none c s h]; rfl
theorem ixb_some (c : UInt8) : ∀ (s a r : List UInt8), cutAt c s = some (a, r) → Lib.indexByte s c = (a.length : Int)
  | [], _, _, h => by cases h
  | x :: s, a, r, h => by
    rw [cutAt] at h
    by_cases hx : x = c
    · rw [if_pos hx] at h
      simp only [Option.some.injEq, Prod.mk.injEq] at h
      obtain ⟨rfl, rfl⟩ := h
      rw [Lib.indexByte, if_pos (by simpa using hx)]; rfl
    · rw [if_neg hx] at h
      obtain ⟨⟨a', r'⟩, h1, h2⟩ := Option.map_eq_some_iff.1 h
      simp only [Prod.mk.injEq] at h2
      obtain ⟨rfl, rfl⟩ := h2
      have ih := ixb_some c s a' r' h1
      rw [Lib.indexByte, if_neg (by simpa using hx), ih, if_neg (by simp)]
      simp
set_option maxRecDepth 100000 in
set_option maxHeartbeats 2000000 in
theorem Index_any (s : List UInt8) (c : UInt8) (w : World) : Calls Tryz.prog 198 #[.string ⟨s.toArray⟩, .string ⟨#[c]⟩] w fun e w' => e = .returned (.int .i64 (Lib.indexByte s c)) ∧ w = w' := by
  by_cases hs : s = [c]
  · subst hs
    rw [show Lib.indexByte [c] c = 0 by unfold Lib.indexByte; simp]
    go_enter Tryz.func198, Tryz.ntmps198
    go_wp2_with fail
    go_ret
    exact ⟨rfl, rfl⟩
  have b1 : ([c] == s) = false := by rw [beq_eq_false_iff_ne]; exact fun e => hs e.symm
  clear hs
  have h := Any.stringslite_IndexByte Tryz.ixbA ⟨s.toArray⟩ (c.toNat : Int) w
  have ec : ((c.toNat : Int).toNat).toUInt8 = c := UInt8.toNat_inj.1 (by have := c.toNat_lt; simp)
  rw [ec] at h
  have H := Lib.hid h
  clear h ec
  go_enter Tryz.func198, Tryz.ntmps198
  go_wp2_with fail
  refine H.out.mono ?_
  rintro e w' ⟨rfl, rfl⟩
  go_wp2_with fail
  go_ret
  exact ⟨rfl, rfl⟩
/-- What Cut answers. -/
def cutV (s : List UInt8) (o : Option (List UInt8 × List UInt8)) : Value := match o with
  | some (a, r) => .tuple #[SV a, SV r, .bool true]
  | none => .tuple #[SV s, SV [], .bool false]
set_option maxRecDepth 100000 in
set_option maxHeartbeats 2000000 in
theorem cutLite_any (s : List UInt8) (hs : s.length ≤ 1000000) (c : UInt8) (w : World) : Calls Tryz.prog 191 #[.string ⟨s.toArray⟩, .string ⟨#[c]⟩] w fun e w' => e = .returned (cutV s (cutAt c s)) ∧ ∃ n, w' = w.drewN n := by
  have H := Lib.hid (Index_any s c w)
  cases hc : cutAt c s with
  | none =>
    have e := ixb_none c s hc
    rw [e] at H
    unfold cutV SV
    clear e hc
    go_enter Tryz.func191, Tryz.ntmps191
    go_wp2_with fail
    refine H.out.mono ?_
    rintro e w' ⟨rfl, rfl⟩
    go_wp2_with fail
    go_ret3
    exact ⟨rfl, 0, rfl⟩
  | some p =>
    obtain ⟨a, r⟩ := p
    have e := ixb_some c s a r hc
    obtain ⟨es, _⟩ := cutAt_some hc
    rw [e] at H
    unfold cutV SV
    have hl : a.length + 1 ≤ s.length := by rw [es]; simp
    have x1 : (⟨s.toArray⟩ : ByteArray).extract 0 a.length = ⟨a.toArray⟩ := by rw [extract_S, es, List.take_left]; rfl
    have x2 : (⟨s.toArray⟩ : ByteArray).extract (a.length + 1) s.length = ⟨r.toArray⟩ := by
      rw [extract_S, List.take_length, es, List.drop_append]; simp
    have e1 : IntKind.i64.wrap ((a.length : Int) + 1) = ((a.length + 1 : Nat) : Int) := by rw [IntWalk.i64_in _ (by omega)]; omega
    have p0 : 0 ≤ (a.length : Int) := by omega
    have p1 : (a.length : Int) ≤ (s.length : Int) := by omega
    have p2 : 0 ≤ ((a.length + 1 : Nat) : Int) := by omega
    have p3 : ((a.length + 1 : Nat) : Int) ≤ (s.length : Int) := by omega
    clear e hc es hs
    go_enter Tryz.func191, Tryz.ntmps191
    go_wp2_with fail
    refine H.out.mono ?_
    rintro e w' ⟨rfl, rfl⟩
    go_wp2_with fail
    go_region
    all_goals
      go_wp2_with fail
      go_ret3
      exact ⟨rfl, 1, rfl⟩
set_option maxHeartbeats 1000000 in
theorem Cut_any (s : List UInt8) (hs : s.length ≤ 1000000) (c : UInt8) (w : World) : Calls Tryz.prog 175 #[.string ⟨s.toArray⟩, .string ⟨#[c]⟩] w fun e w' => e = .returned (cutV s (cutAt c s)) ∧ ∃ n, w' = w.drewN n := by
  have H := Lib.hid (cutLite_any s hs c w)
  cases hc : cutAt c s with
  | none =>
    rw [hc] at H
    unfold cutV SV at H ⊢
    clear hc
    go_enter Tryz.func175, Tryz.ntmps175
    go_wp2_with fail
    refine H.out.mono ?_
    rintro e w' ⟨rfl, n, rfl⟩
    go_wp2_with fail
    go_ret3
    exact ⟨rfl, n, rfl⟩
  | some p =>
    obtain ⟨a, r⟩ := p
    rw [hc] at H
    unfold cutV SV at H ⊢
    clear hc
    go_enter Tryz.func175, Tryz.ntmps175
    go_wp2_with fail
    refine H.out.mono ?_
    rintro e w' ⟨rfl, n, rfl⟩
    go_wp2_with fail
    go_ret3
    exact ⟨rfl, n, rfl⟩
end Go.Proofs.YtngphfogomchfaaGreatDoor
