/-
  checkParents, checkChange: an error, if that is no commit.
  PutTree: a tree's bytes.
  checkLabel, writeLabel, PutLabel; told of commits, of tags.
-/
import Derived.Test.YtngphfogomchfaaGreatDoorC10
import Derived.Test.YtngphfogomchfaaGreatDoorLay

namespace Go.Proofs.YtngphfogomchfaaGreatDoor
open Go Go.RowKit Go.Shelf
theorem ckName (s : List UInt8) (hs : s.length ≤ 1000000) (w : World) (he : Er w) : Calls Tryz.prog 163 #[.string ⟨s.toArray⟩] w (CkPost (namedB s) w) := by
  cases h : namedB s
  · exact (checkName_no s (by unfold maxLen; omega) w he h).mono fun e w' ⟨p, h1, h2⟩ => ⟨.inr ⟨rfl, p, h1⟩, h2⟩
  · exact (checkName_yes s (by unfold maxLen; omega) w he h).mono fun e w' ⟨h1, h2⟩ => ⟨.inl ⟨rfl, h1⟩, h2⟩
theorem ckPart (s : List UInt8) (hs : s.length ≤ 1000000) (w : World) (he : Er w) : Calls Tryz.prog 166 #[.string ⟨s.toArray⟩] w (CkPost (partB s) w) := by
  cases h : partB s
  · exact (checkPart_no s (by unfold maxLen; omega) w he h).mono fun e w' ⟨p, h1, h2⟩ => ⟨.inr ⟨rfl, p, h1⟩, h2⟩
  · exact (checkPart_yes s (by unfold maxLen; omega) w he h).mono fun e w' ⟨h1, h2⟩ => ⟨.inl ⟨rfl, h1⟩, h2⟩
theorem ckWho (s : List UInt8) (hs : s.length ≤ 1000000) (w : World) (he : Er w) : Calls Tryz.prog 165 #[.string ⟨s.toArray⟩] w (CkPost (whoB s) w) := by
  cases h : whoB s
  · exact (checkWho_no s (by unfold maxLen; omega) w he h).mono fun e w' ⟨p, h1, h2⟩ => ⟨.inr ⟨rfl, p, h1⟩, h2⟩
  · exact (checkWho_yes s (by unfold maxLen; omega) w he h).mono fun e w' ⟨h1, h2⟩ => ⟨.inl ⟨rfl, h1⟩, h2⟩
theorem ckOnce (zs : List (List UInt8)) (hl : zs.length ≤ 1000000) (v : Value) (w : World) (hr : StrsR w v zs) (he : Er w) : Calls Tryz.prog 157 #[v] w (CkPost (decide zs.Nodup) w) := by
  by_cases h : zs.Nodup
  · exact (checkOnce_yes zs hl v w hr he h).mono fun e w' ⟨h1, h2⟩ => ⟨.inl ⟨decide_eq_true h, h1⟩, h2⟩
  · exact (checkOnce_no zs hl v w hr he h).mono fun e w' ⟨p, h1, h2⟩ => ⟨.inr ⟨decide_eq_false h, p, h1⟩, h2⟩
/-- Another start, another truth, of one sense. -/
theorem CkPost.thru {b b' : Bool} {w w1 : World} {e : Ending} {w' : World} (h : CkPost b w1 e w') (hb : b = b') (hw : Below w.heap.size w w1) : CkPost b' w e w' := by
  subst hb; exact ⟨h.1, hw.trans (h.2.mono hw.size)⟩
theorem CkPost.ret {b : Bool} {w : World} {e : Ending} {w' : World} (h : CkPost b w e w') : ∃ v, e = .returned v := by
  obtain ⟨⟨_, h⟩ | ⟨_, p, h⟩, _⟩ := h <;> exact ⟨_, h⟩
def parB (l : List (List UInt8)) : Bool := decide (l.length ≤ 8) && l.all namedB && decide l.Nodup
def SmallS (l : List (List UInt8)) : Prop := ∀ x ∈ l, x.length ≤ 1000000
theorem parB_no {l : List (List UInt8)} {k : Nat} (hk : k < l.length) (h : namedB (l.getD k []) = false) : parB l = false := by
  unfold parB
  have : l.all namedB = false := by
    rw [List.all_eq_false]; exact ⟨_, getD_mem l [] k hk, by rw [h]; simp⟩
  rw [this]; simp
theorem parB_eq {l : List (List UInt8)} (hl : l.length ≤ 8) (h : ∀ i, i < l.length → namedB (l.getD i []) = true) : parB l = decide l.Nodup := by
  unfold parB
  have : l.all namedB = true := by
    rw [List.all_eq_true]
    intro x hx
    obtain ⟨i, hi, rfl⟩ := List.mem_iff_getElem.1 hx
    have := h i hi
    rwa [List.getD_eq_getElem?_getD, List.getElem?_eq_getElem hi] at this
  rw [this, decide_eq_true hl]; simp
set_option maxRecDepth 100000 in
set_option maxHeartbeats 2000000 in
theorem checkParents_gen (l : List (List UInt8)) (v : Value) (w : World) (hr : StrsR w v l) (hs : SmallS l) (hl : l.length ≤ 8) (he : Er w) :
    Calls Tryz.prog 164 #[v] w (CkPost (parB l) w) := by
  obtain ⟨A, c, rfl⟩ := hr.shape
  have HR := Lib.hid hr; have HS := Lib.hid hs; have HE := Lib.hid he
  have hl2 : ¬ (8 : Int) < (l.length : Int) := by omega
  clear hr hs he
  go_enter Tryz.func164, Tryz.ntmps164
  go_wp2_with fail
  go_loopw [15] (fun vi wr => ∃ k : Nat, k ≤ l.length ∧ vi = .int .i64 k ∧ Hid (Below w.heap.size w wr) ∧ Hid (∀ i, i < k → namedB (l.getD i []) = true)) (fun vi _ => l.length - (intOf vi).toNat)
  case atStart => exact ⟨0, Nat.zero_le _, rfl, Lib.hid (Below.refl _ _), Lib.hid fun i hi => absurd hi (Nat.not_lt_zero _)⟩
  case round =>
    obtain ⟨k, hk, rfl, hB, hN⟩ := hrel
    by_cases hlt : k < l.length
    · obtain ⟨g, o, c', e, _, hg⟩ := HR.out.pos (by omega)
      cases e
      have c0 := StrsR.cell (HR.out.below hB.out (Nat.le_refl _)) k hlt
      have hsx := HS.out _ (getD_mem l [] k hlt)
      have hno := @parB_no l k hlt
      have hnx : namedB (l.getD k []) = true → ∀ i, i < k + 1 → namedB (l.getD i []) = true := fun h i hi => by
        rcases Nat.lt_or_ge i k with h2 | h2
        · exact hN.out i h2
        · rw [show i = k by omega]; exact h
      have HNx := Lib.hid hnx
      have HNo := Lib.hid hno
      obtain ⟨x, hx⟩ : ∃ x, x = l.getD k [] := ⟨_, rfl⟩
      rw [← hx] at c0 hsx HNx HNo
      unfold SV at c0
      have HC := Lib.hid (ckName x hsx wr (HE.out.below hB.out))
      clear hx hsx hno hnx
      go_wp2_with fail
      refine HC.out.mono ?_
      rintro e w1 ⟨⟨hi, rfl⟩ | ⟨hi, p, rfl⟩, l1⟩
      · have HB1 := Lib.hid (hB.out.trans (l1.mono hB.out.size))
        have HN1 := Lib.hid (HNx.out hi)
        clear hi l1
        go_wp2_with fail
        go_roundw
        case rel => exact ⟨k + 1, by omega, by go_num, HB1, HN1⟩
        case measure => simp [intOf]; omega
      · have HB1 := Lib.hid (hB.out.trans (l1.mono hB.out.size))
        have HN1 := Lib.hid (HNo.out hi)
        clear hi l1
        go_wp2_with fail
        go_ret
        exact ⟨.inr ⟨HN1.out, p, rfl⟩, HB1.out⟩
    · obtain rfl : k = l.length := by omega
      have HC := Lib.hid (ckOnce l (by omega) _ wr (HR.out.below hB.out (Nat.le_refl _)) (HE.out.below hB.out))
      have HQ := Lib.hid (parB_eq hl hN.out)
      go_wp2_with fail
      refine HC.out.mono ?_
      intro e w1 h1
      have H1 := Lib.hid (h1.thru HQ.out.symm hB.out)
      obtain ⟨v, rfl⟩ := h1.ret
      clear h1
      go_wp2_with fail
      go_ret
      exact H1.out
set_option maxRecDepth 100000 in
set_option maxHeartbeats 1000000 in
theorem ckParents (l : List (List UInt8)) (v : Value) (w : World) (hr : StrsR w v l) (hs : SmallS l) (he : Er w) :
    Calls Tryz.prog 164 #[v] w (CkPost (parB l) w) := by
  by_cases h : l.length ≤ 8
  · exact checkParents_gen l v w hr hs h he
  · have hf : parB l = false := by unfold parB; rw [decide_eq_false h]; rfl
    have HF := Lib.hid hf
    obtain ⟨A, c, rfl⟩ := hr.shape
    obtain ⟨pe, c0⟩ := he.over
    have hl2 : (8 : Int) < (l.length : Int) := by omega
    clear hr hs he hf h
    go_enter Tryz.func164, Tryz.ntmps164
    go_wp2_with fail
    go_ret
    exact ⟨.inr ⟨HF.out, _, rfl⟩, below_new w _⟩
def ChgV (c : Chg) (vp : Value) : Value := .agg #[.string ⟨c.tree.toArray⟩, vp, .string ⟨c.who.toArray⟩, .string ⟨c.text.toArray⟩]
def SmallC (c : Chg) : Prop := c.tree.length ≤ 100000 ∧ SmallS c.parents ∧ c.who.length ≤ 100000 ∧ c.text.length ≤ 100000
theorem rightC_eq (c : Chg) : rightC c = (namedB c.tree && parB c.parents && whoB c.who) := rfl
set_option maxRecDepth 100000 in
set_option maxHeartbeats 1000000 in
theorem checkChange_any (c : Chg) (vp : Value) (w : World) (hr : StrsR w vp c.parents) (hs : SmallC c) (he : Er w) :
    Calls Tryz.prog 144 #[ChgV c vp] w (CkPost (rightC c) w) := by
  obtain ⟨t, ps, wh, tx⟩ := c
  obtain ⟨s1, s2, s3, s4⟩ := hs
  simp only at s1 s2 s3 s4 hr
  rw [rightC_eq]
  obtain ⟨A, ca, rfl⟩ := hr.shape
  unfold ChgV
  simp only
  have B0 := below_new w (.cells #[.string ⟨t.toArray⟩, .slice A ps.length ca, .string ⟨wh.toArray⟩, .string ⟨tx.toArray⟩] 81)
  have HB0 := Lib.hid B0
  have HN := Lib.hid (ckName t (by omega) _ (he.below B0))
  have HP := Lib.hid (fun W (h : Below w.heap.size w W) => ckParents ps (.slice A ps.length ca) W (hr.below h (Nat.le_refl _)) s2 (he.below h))
  have HW := Lib.hid (fun W (h : Below w.heap.size w W) => ckWho wh (by omega) W (he.below h))
  have hb1 : ∀ w1, Below (w.alloc (.cells #[.string ⟨t.toArray⟩, .slice A ps.length ca, .string ⟨wh.toArray⟩, .string ⟨tx.toArray⟩] 81)).heap.size (w.alloc (.cells #[.string ⟨t.toArray⟩, .slice A ps.length ca, .string ⟨wh.toArray⟩, .string ⟨tx.toArray⟩] 81)) w1 → Below w.heap.size w w1 ∧ w1.heap[w.heap.size]? = some (.cells #[.string ⟨t.toArray⟩, .slice A ps.length ca, .string ⟨wh.toArray⟩, .string ⟨tx.toArray⟩] 81 (0, 0)) := fun w1 h => ⟨B0.trans (h.mono B0.size), (h.block _ (by simp)).trans (heap_alloc_new _ _)⟩
  have HB1 := Lib.hid hb1
  clear hr s1 s2 s3 s4 he B0 hb1
  go_enter Tryz.func144, Tryz.ntmps144
  go_wp2_with fail
  refine HN.out.mono ?_
  rintro e w1 ⟨⟨hi, rfl⟩ | ⟨hi, p, rfl⟩, l1⟩
  · obtain ⟨h1, hb⟩ := HB1.out w1 l1
    have q0 := (cell_of_row w1 w.heap.size 0 _ _ _ hb).trans (by rfl)
    have q1 := (cell_of_row w1 w.heap.size 1 _ _ _ hb).trans (by rfl)
    have q2 := (cell_of_row w1 w.heap.size 2 _ _ _ hb).trans (by rfl)
    have H1 := Lib.hid h1; have HI := Lib.hid hi; have HBk := Lib.hid hb
    clear h1 hi hb l1
    go_wp2_with fail
    refine (HP.out w1 H1.out).mono ?_
    rintro e w2 ⟨⟨hi, rfl⟩ | ⟨hi, p, rfl⟩, l2⟩
    · have hb2 := (l2.block w.heap.size (lt_heap HBk.out)).trans HBk.out
      have r2 := (cell_of_row w2 w.heap.size 2 _ _ _ hb2).trans (by rfl)
      have H2 := Lib.hid (H1.out.trans (l2.mono H1.out.size)); have HI2 := Lib.hid hi
      clear hi l2 hb2 q0 q1 q2
      go_wp2_with fail
      refine (HW.out w2 H2.out).mono ?_
      intro e w3 h3
      have H3 := Lib.hid (h3.thru (b' := namedB t && parB ps && whoB wh) (by rw [HI.out, HI2.out]; rfl) H2.out)
      obtain ⟨v, rfl⟩ := h3.ret
      clear h3
      go_wp2_with fail
      go_ret
      exact H3.out
    · have H2 := Lib.hid (H1.out.trans (l2.mono H1.out.size)); have HI2 := Lib.hid hi
      have HWn := Lib.hid (within_some ⟨#[112, 97, 114, 101, 110, 116, 115]⟩ (.iface 134 (.pointer (some p))) ⟨p, rfl⟩ w2)
      clear hi l2 q0 q1 q2
      go_wp2_with fail
      refine HWn.out.mono ?_
      rintro e w3 ⟨rfl, rfl⟩
      go_wp2_with fail
      go_ret
      exact ⟨.inr ⟨by rw [HI2.out]; simp, _, rfl⟩, H2.out.alloc H2.out.size _⟩
  · obtain ⟨h1, _⟩ := HB1.out w1 l1
    have H1 := Lib.hid h1; have HI := Lib.hid hi
    have HWn := Lib.hid (within_some ⟨#[116, 114, 101, 101]⟩ (.iface 134 (.pointer (some p))) ⟨p, rfl⟩ w1)
    clear h1 hi l1
    go_wp2_with fail
    refine HWn.out.mono ?_
    rintro e w3 ⟨rfl, rfl⟩
    go_wp2_with fail
    go_ret
    exact ⟨.inr ⟨by rw [HI.out]; simp, _, rfl⟩, H1.out.alloc H1.out.size _⟩
end Go.Proofs.YtngphfogomchfaaGreatDoor


namespace Go.Proofs.YtngphfogomchfaaGreatDoor
open Go Go.RowKit Go.Shelf
theorem putI_len {x : Itm} (h : itemB x = true) : (putI x).length ≤ 137 := by
  obtain ⟨_, _, h3, h4⟩ := itemB_parts h
  have := named_len64 h4
  have := (partB_parts.1 h3).2.1.2
  unfold putI
  simp only [List.length_cons, List.length_append]
  omega
theorem putT_snoc (l : List Itm) (k : Nat) (hk : k < l.length) : putT (l.take (k + 1)) = putT (l.take k) ++ putI (l.getD k noItm) := by
  unfold putT
  rw [take_getD l noItm k hk, List.flatMap_append]; simp
theorem putT_len : ∀ {l : List Itm}, (∀ x ∈ l, itemB x = true) → (putT l).length ≤ 137 * l.length
  | [], _ => Nat.zero_le _
  | x :: l, h => by
    have h1 := putI_len (h x (by simp))
    have h2 := putT_len (l := l) (fun y hy => h y (by simp [hy]))
    unfold putT at h2 ⊢
    rw [List.flatMap_cons, List.length_append, List.length_cons]
    omega
/-- Two texts, one behind the other. -/
theorem cat_run (a b : List UInt8) (t : ByteArray) (ht : t = ⟨(a ++ b).toArray⟩) (ha : a.length ≤ 1000000) (hb : b.length ≤ 1000000) : ∀ W : World, (Op.stringOp .add ⟨a.toArray⟩ ⟨b.toArray⟩).run Tryz.prog W = .ok (.string t) W := fun W => by
  rw [run_string_add_sum W _ _ (by show a.length + b.length ≤ _; omega), append_S, ht]
theorem cat_run2 (a b : List UInt8) (s t : ByteArray) (hs : s = ⟨a.toArray⟩) (ht : t = ⟨(a ++ b).toArray⟩) (ha : a.length ≤ 1000000) (hb : b.length ≤ 1000000) : ∀ W : World, (Op.stringOp .add s ⟨b.toArray⟩).run Tryz.prog W = .ok (.string t) W := by
  subst hs; exact cat_run a b t ht ha hb
/-- What PutTree answers. -/
def putTV (l : List Itm) : Value := .tuple #[SV (if rightT l then putT l else []), .bool (rightT l)]
theorem putTV_yes {l : List Itm} (h : rightT l = true) : putTV l = .tuple #[SV (putT l), .bool true] := by unfold putTV; rw [h]; rfl
theorem putTV_no {l : List Itm} (h : rightT l = false) : putTV l = .tuple #[.string ⟨#[]⟩, .bool false] := by unfold putTV; rw [h]; rfl
end Go.Proofs.YtngphfogomchfaaGreatDoor


namespace Go.Proofs.YtngphfogomchfaaGreatDoor
open Go Go.RowKit Go.Shelf
def LblV (l : Lbl) : Value := .agg #[.string ⟨l.id.toArray⟩, .int .i64 l.kind, .string ⟨l.name.toArray⟩, .string ⟨l.text.toArray⟩]
def SmallL (l : Lbl) : Prop := l.id.length ≤ 100000 ∧ l.name.length ≤ 100000 ∧ l.text.length ≤ 100000
set_option maxRecDepth 100000 in
set_option maxHeartbeats 1000000 in
theorem checkLabel_any (l : Lbl) (w : World) (hs : SmallL l) (he : Er w) :
    Calls Tryz.prog 146 #[LblV l] w (CkPost (rightL l) w) := by
  obtain ⟨i, k, nm, tx⟩ := l
  obtain ⟨s1, s2, s3⟩ := hs
  simp only at s1 s2 s3
  unfold LblV
  simp only
  have B0 := below_new w (.cells #[.string ⟨i.toArray⟩, .int .i64 k, .string ⟨nm.toArray⟩, .string ⟨tx.toArray⟩] 85)
  have HB0 := Lib.hid B0
  have HN := Lib.hid (ckName i (by omega) _ (he.below B0))
  have HP := Lib.hid (fun W (h : Below w.heap.size w W) => ckPart nm (by omega) W (he.below h))
  have HE := Lib.hid he
  have hb1 : ∀ w1, Below (w.alloc (.cells #[.string ⟨i.toArray⟩, .int .i64 k, .string ⟨nm.toArray⟩, .string ⟨tx.toArray⟩] 85)).heap.size (w.alloc (.cells #[.string ⟨i.toArray⟩, .int .i64 k, .string ⟨nm.toArray⟩, .string ⟨tx.toArray⟩] 85)) w1 → Below w.heap.size w w1 ∧ w1.heap[w.heap.size]? = some (.cells #[.string ⟨i.toArray⟩, .int .i64 k, .string ⟨nm.toArray⟩, .string ⟨tx.toArray⟩] 85 (0, 0)) := fun w1 h => ⟨B0.trans (h.mono B0.size), (h.block _ (by simp)).trans (heap_alloc_new _ _)⟩
  have HB1 := Lib.hid hb1
  have hwd := fun W => word_any k W
  unfold SV at hwd
  have HWd := Lib.hid hwd
  have HR : Hid (rightL ⟨i, k, nm, tx⟩ = (namedB i && decide (1 ≤ k ∧ k ≤ 4) && partB nm)) := Lib.hid (by unfold rightL; simp)
  clear s1 s2 s3 he B0 hb1 hwd
  go_enter Tryz.func146, Tryz.ntmps146
  go_wp2_with fail
  refine HN.out.mono ?_
  rintro e w1 ⟨⟨hi, rfl⟩ | ⟨hi, p, rfl⟩, l1⟩
  · obtain ⟨h1, hb⟩ := HB1.out w1 l1
    have q1 := (cell_of_row w1 w.heap.size 1 _ _ _ hb).trans (by rfl)
    have q2 := (cell_of_row w1 w.heap.size 2 _ _ _ hb).trans (by rfl)
    obtain ⟨ea, e0⟩ := (HE.out.below h1).wrong
    have H1 := Lib.hid h1; have HI := Lib.hid hi
    clear h1 hi hb l1
    by_cases hk : 1 ≤ k ∧ k ≤ 4
    · have hne : kindW k ≠ [] := fun e => word_ne_nil.1 e hk
      have hd : decide (1 ≤ k ∧ k ≤ 4) = true := decide_eq_true hk
      have HD := Lib.hid hd
      obtain ⟨ch, tl, hct⟩ := List.exists_cons_of_ne_nil hne
      rw [hct] at HWd
      clear hne hd hct hk
      go_wp2_with fail
      refine (HWd.out w1).mono ?_
      rintro e w2 ⟨rfl, rfl⟩
      go_wp2_with fail
      refine (HP.out w1 H1.out).mono ?_
      intro e w3 h3
      have H3 := Lib.hid (h3.thru (b' := rightL ⟨i, k, nm, tx⟩) (by rw [HR.out, HI.out, HD.out]; rfl) H1.out)
      obtain ⟨v, rfl⟩ := h3.ret
      clear h3
      go_wp2_with fail
      go_ret
      exact H3.out
    · have hct := word_ne_nil.2 hk
      have hd : decide (1 ≤ k ∧ k ≤ 4) = false := decide_eq_false hk
      have HD := Lib.hid hd
      rw [hct] at HWd
      clear hd hct hk
      go_wp2_with fail
      refine (HWd.out w1).mono ?_
      rintro e w2 ⟨rfl, rfl⟩
      go_wp2_with fail
      go_ret
      exact ⟨.inr ⟨by rw [HR.out, HD.out]; simp, _, rfl⟩, H1.out.alloc H1.out.size _⟩
  · obtain ⟨h1, _⟩ := HB1.out w1 l1
    have H1 := Lib.hid h1; have HI := Lib.hid hi
    clear h1 hi l1
    go_wp2_with fail
    go_ret
    exact ⟨.inr ⟨by rw [HR.out, HI.out]; simp, _, rfl⟩, H1.out⟩
/-- What PutLabel answers. -/
def putLV (l : Lbl) : Value := .tuple #[SV (if rightL l then putL4 l else []), .bool (rightL l)]
theorem putLV_yes {l : Lbl} (h : rightL l = true) : putLV l = .tuple #[SV (putL4 l), .bool true] := by unfold putLV; rw [h]; rfl
theorem putLV_no {l : Lbl} (h : rightL l = false) : putLV l = .tuple #[.string ⟨#[]⟩, .bool false] := by unfold putLV; rw [h]; rfl
theorem cells4 (W : World) (n : Nat) (a b c d : Value) {a' b' c' d' : Value} (h0 : W.cell? ⟨n, 0, none⟩ = some a') (h1 : W.cell? ⟨n, 1, none⟩ = some b') (h2 : W.cell? ⟨n, 2, none⟩ = some c') (h3 : W.cell? ⟨n, 3, none⟩ = some d') :
    (W.setCell ⟨n, 0, none⟩ a).cell? ⟨n, 0, none⟩ = some a ∧ ((W.setCell ⟨n, 0, none⟩ a).setCell ⟨n, 1, none⟩ b).cell? ⟨n, 1, none⟩ = some b ∧ (((W.setCell ⟨n, 0, none⟩ a).setCell ⟨n, 1, none⟩ b).setCell ⟨n, 2, none⟩ c).cell? ⟨n, 2, none⟩ = some c ∧ ((((W.setCell ⟨n, 0, none⟩ a).setCell ⟨n, 1, none⟩ b).setCell ⟨n, 2, none⟩ c).setCell ⟨n, 3, none⟩ d).cell? ⟨n, 3, none⟩ = some d := by
  refine ⟨?_, ?_, ?_, ?_⟩
  · simp [go_sem, h0]
  · simp [go_sem, h1]
  · simp [go_sem, h2]
  · simp [go_sem, h3]
theorem below_set4 {N n : Nat} {w W : World} (h : Below N w W) (hn : N ≤ n) (a b c d : Value) : Below N w ((((W.setCell ⟨n, 0, none⟩ a).setCell ⟨n, 1, none⟩ b).setCell ⟨n, 2, none⟩ c).setCell ⟨n, 3, none⟩ d) :=
  (((h.setCell hn _).setCell hn _).setCell hn _).setCell hn _
end Go.Proofs.YtngphfogomchfaaGreatDoor
