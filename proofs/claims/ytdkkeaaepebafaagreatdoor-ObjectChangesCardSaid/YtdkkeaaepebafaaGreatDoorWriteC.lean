/-
  writeChange, PutChange.
-/
import Derived.Test.YtdkkeaaepebafaaGreatDoorParents
import Derived.Test.YtdkkeaaepebafaaGreatDoorWrite
namespace Go.Proofs.YtdkkeaaepebafaaGreatDoor
open Go Go.RowKit Go.Shelf

theorem parL_snoc (l : List (List UInt8)) (k : Nat) (hk : k < l.length) : parL (l.take (k + 1)) = parL (l.take k) ++ (wParent ++ (l.getD k [] ++ [10])) := by
  rw [take_getD l [] k hk]; simp [parL]
theorem parL_cons (x : List UInt8) (l : List (List UInt8)) : parL (x :: l) = (wParent ++ (x ++ [10])) ++ parL l := rfl
theorem parL_len : ∀ {l : List (List UInt8)}, (∀ x ∈ l, namedB x = true) → (parL l).length ≤ 72 * l.length
  | [], _ => by simp [parL]
  | x :: l, h => by
    have h1 := named_len64 (h x (by simp))
    have h2 := parL_len (l := l) (fun y hy => h y (List.mem_cons_of_mem _ hy))
    have e2 : (wParent ++ (x ++ [10])).length = x.length + 8 := by simp [wParent]
    rw [parL_cons, List.length_append, e2, List.length_cons]
    omega
/-- The block that the written commit lies in, and the builder's. -/
structure WcW (w : World) (b1 : Nat) (t wh tx : List UInt8) (vp : Value) (l : List UInt8) (W : World) : Prop where
  bd : Bd W w.heap.size b1 l
  below : Below w.heap.size w W
  blk : W.heap[w.heap.size]? = some (.cells #[.string ⟨t.toArray⟩, vp, .string ⟨wh.toArray⟩, .string ⟨tx.toArray⟩] 40 (0, 0))
  ne : w.heap.size ≠ b1
theorem WcW.write {w W : World} {b1 : Nat} {t wh tx : List UInt8} {vp : Value} {l : List UInt8} (h : WcW w b1 t wh tx vp l W) (m : List UInt8) (s : ByteArray) (hs : s = ⟨m.toArray⟩) (hl : l.length + m.length ≤ 1000000) :
    Calls Tryz.prog 66 #[.pointer (some ⟨b1, 0, none⟩), .string s] W fun e W' => (∃ n, e = .returned (.tuple #[.int .i64 n, .nilIface])) ∧ WcW w b1 t wh tx vp (l ++ m) W' :=
  (h.bd.write h.below.size m s hs hl).mono fun e W' ⟨h1, h2, h3, h4⟩ => ⟨h1, h2, h.below.trans h3, kept_blk h4 h.blk h.ne (by decide), h.ne⟩
theorem WcW.c {w W : World} {b1 : Nat} {t wh tx : List UInt8} {vp : Value} {l : List UInt8} (h : WcW w b1 t wh tx vp l W) :
    W.cell? ⟨w.heap.size, 0, none⟩ = some (.string ⟨t.toArray⟩) ∧ W.cell? ⟨w.heap.size, 1, none⟩ = some vp ∧ W.cell? ⟨w.heap.size, 2, none⟩ = some (.string ⟨wh.toArray⟩) ∧ W.cell? ⟨w.heap.size, 3, none⟩ = some (.string ⟨tx.toArray⟩) :=
  ⟨(cell_of_row W _ 0 _ _ _ h.blk).trans rfl, (cell_of_row W _ 1 _ _ _ h.blk).trans rfl, (cell_of_row W _ 2 _ _ _ h.blk).trans rfl, (cell_of_row W _ 3 _ _ _ h.blk).trans rfl⟩

set_option maxRecDepth 100000 in
set_option maxHeartbeats 4000000 in
theorem writeChange_yes (c : Chg) (vp : Value) (w : World) (hr : StrsR w vp c.parents) (hs : SmallC c) (he : Er w) (h : rightC c = true) :
    Calls Tryz.prog 46 #[ChgV c vp] w (RetBelow (.tuple #[SV (putC c), .nilIface]) w) := by
  obtain ⟨g1, g2, g3, g4, g5⟩ := rightC_parts.1 h
  have B0 := below_new w (.cells #[.string ⟨c.tree.toArray⟩, vp, .string ⟨c.who.toArray⟩, .string ⟨c.text.toArray⟩] 40)
  have hck := (checkChange_any c vp _ (hr.below B0 (Nat.le_refl _)) hs (he.below B0)).mono fun e w' h' => CkPost.yes h' h
  obtain ⟨t, ps, wh, tx⟩ := c
  obtain ⟨s1, s2, s3, s4⟩ := hs
  simp only at s1 s2 s3 s4 hr g1 g2 g3 g5 B0
  unfold ChgV at hck ⊢
  simp only at hck ⊢
  obtain ⟨A, ca, rfl⟩ := hr.shape
  have HC := Lib.hid hck
  have HR := Lib.hid hr
  have HP := Lib.hid g3
  have nT := named_len64 g1
  have nW : wh.length ≤ 100 := by unfold whoB at g5; simp only [Bool.and_eq_true, decide_eq_true_eq] at g5; exact g5.2
  have hb1 : ∀ w1, Below (w.alloc (.cells #[.string ⟨t.toArray⟩, .slice A ps.length ca, .string ⟨wh.toArray⟩, .string ⟨tx.toArray⟩] 40)).heap.size (w.alloc (.cells #[.string ⟨t.toArray⟩, .slice A ps.length ca, .string ⟨wh.toArray⟩, .string ⟨tx.toArray⟩] 40)) w1 → Below w.heap.size w w1 ∧ w.heap.size < w1.heap.size ∧ w1.heap[w.heap.size]? = some (.cells #[.string ⟨t.toArray⟩, .slice A ps.length ca, .string ⟨wh.toArray⟩, .string ⟨tx.toArray⟩] 40 (0, 0)) := fun w1 h => by
    have e := (h.block w.heap.size (by simp)).trans (heap_alloc_new _ _)
    exact ⟨B0.trans (h.mono B0.size), lt_heap e, e⟩
  have HB1 := Lib.hid hb1
  obtain ⟨t1, ht1⟩ : ∃ x : ByteArray, x = ⟨(wTree ++ t).toArray⟩ := ⟨_, rfl⟩
  obtain ⟨t2, ht2⟩ : ∃ x : ByteArray, x = ⟨((wTree ++ t) ++ [10]).toArray⟩ := ⟨_, rfl⟩
  obtain ⟨t3, ht3⟩ : ∃ x : ByteArray, x = ⟨(wWho ++ wh).toArray⟩ := ⟨_, rfl⟩
  obtain ⟨t4, ht4⟩ : ∃ x : ByteArray, x = ⟨((wWho ++ wh) ++ [10, 10]).toArray⟩ := ⟨_, rfl⟩
  have r1 : ∀ W : World, (Op.stringOp .add ⟨#[116, 114, 101, 101, 32]⟩ ⟨t.toArray⟩).run Tryz.prog W = .ok (.string t1) W := cat_run wTree t t1 ht1 (by decide) (by omega)
  have r2 : ∀ W : World, (Op.stringOp .add t1 ⟨#[10]⟩).run Tryz.prog W = .ok (.string t2) W := cat_run2 _ [10] t1 t2 ht1 ht2 (by simp [wTree]; omega) (by decide)
  have r3 : ∀ W : World, (Op.stringOp .add ⟨#[119, 104, 111, 32]⟩ ⟨wh.toArray⟩).run Tryz.prog W = .ok (.string t3) W := cat_run wWho wh t3 ht3 (by decide) (by omega)
  have r4 : ∀ W : World, (Op.stringOp .add t3 ⟨#[10, 10]⟩).run Tryz.prog W = .ok (.string t4) W := cat_run2 _ [10, 10] t3 t4 ht3 ht4 (by simp [wWho]; omega) (by decide)
  have H2 := Lib.hid ht2; have H4 := Lib.hid ht4
  have HTx := Lib.hid s4
  have HNT := Lib.hid nT; have HNW := Lib.hid nW
  clear hr he h hck g1 g3 g5 s1 s2 s3 s4 B0 hb1 ht1 ht2 ht3 ht4 nT nW
  go_enter Tryz.func46, Tryz.ntmps46
  go_wp2_with fail
  refine HC.out.mono ?_
  rintro e w1 ⟨rfl, l1⟩
  obtain ⟨h1, hl1, hbk⟩ := HB1.out w1 l1
  have hw0 : WcW w w1.heap.size t wh tx (.slice A ps.length ca) [] (w1.alloc (.cells #[.pointer none, .slice none 0 0] 102)) :=
    ⟨(Bd.new w1).mono h1.size, h1.alloc h1.size _, (Below.heap_alloc _ _ _ hl1).trans hbk, Nat.ne_of_lt hl1⟩
  obtain ⟨q0, _, _, _⟩ := hw0.c
  have HWr := Lib.hid (hw0.write _ t2 H2.out (by have := HNT.out; simp [wTree]; omega))
  clear h1 hl1 hbk hw0 l1
  go_wp2_with fail
  refine HWr.out.mono ?_
  rintro e w2 ⟨⟨n, rfl⟩, hw2⟩
  rw [List.nil_append] at hw2
  obtain ⟨_, q1, _, _⟩ := hw2.c
  have HW2 := Lib.hid hw2
  clear hw2 q0
  go_wp2_with fail
  go_loopw [21] (fun vi wr => ∃ k : Nat, k ≤ ps.length ∧ vi = .int .i64 k ∧ Hid (WcW w w1.heap.size t wh tx (.slice A ps.length ca) (((wTree ++ t) ++ [10]) ++ parL (ps.take k)) wr)) (fun vi _ => ps.length - (intOf vi).toNat)
  case atStart => exact ⟨0, Nat.zero_le _, rfl, Lib.hid (by rw [List.take_zero]; show WcW _ _ _ _ _ _ (_ ++ []) _; rw [List.append_nil]; exact HW2.out)⟩
  case round =>
    obtain ⟨k, hk, rfl, hrel⟩ := hrel
    have hpl := parL_len (l := ps.take k) (fun x hx => HP.out x (List.mem_of_mem_take hx))
    rw [List.length_take] at hpl
    by_cases hlt : k < ps.length
    · obtain ⟨g, o, c', e, _, hg⟩ := HR.out.pos (by omega)
      cases e
      have c0 := StrsR.cell (HR.out.below hrel.out.below (Nat.le_refl _)) k hlt
      have hsn := parL_snoc ps k hlt
      have nx := named_len64 (HP.out _ (getD_mem ps [] k hlt))
      obtain ⟨x, hx⟩ : ∃ x, x = ps.getD k [] := ⟨_, rfl⟩
      rw [← hx] at c0 hsn nx
      unfold SV at c0
      obtain ⟨t5, ht5⟩ : ∃ z : ByteArray, z = ⟨(wParent ++ x).toArray⟩ := ⟨_, rfl⟩
      obtain ⟨t6, ht6⟩ : ∃ z : ByteArray, z = ⟨((wParent ++ x) ++ [10]).toArray⟩ := ⟨_, rfl⟩
      have r5 : ∀ W : World, (Op.stringOp .add ⟨#[112, 97, 114, 101, 110, 116, 32]⟩ ⟨x.toArray⟩).run Tryz.prog W = .ok (.string t5) W := cat_run wParent x t5 ht5 (by decide) (by omega)
      have r6 : ∀ W : World, (Op.stringOp .add t5 ⟨#[10]⟩).run Tryz.prog W = .ok (.string t6) W := cat_run2 _ [10] t5 t6 ht5 ht6 (by simp [wParent]; omega) (by decide)
      have HWk := Lib.hid (hrel.out.write _ t6 ht6 (by have := HNT.out; simp [wTree, wParent]; omega))
      have HS : Hid (((wTree ++ t) ++ [10]) ++ parL (ps.take (k + 1)) = (((wTree ++ t) ++ [10]) ++ parL (ps.take k)) ++ ((wParent ++ x) ++ [10])) := Lib.hid (by rw [hsn]; simp)
      clear hx hsn nx ht5 ht6 hpl
      go_wp2_with fail
      refine HWk.out.mono ?_
      rintro e w3 ⟨⟨n, rfl⟩, hw3⟩
      rw [← HS.out] at hw3
      have HW3 := Lib.hid hw3
      clear hw3
      go_wp2_with fail
      go_roundw
      case rel => exact ⟨k + 1, by omega, by go_num, HW3⟩
      case measure => simp [intOf]; omega
    · obtain rfl : k = ps.length := by omega
      have hw := hrel.out
      rw [List.take_length] at hw hpl
      obtain ⟨_, _, q2, _⟩ := hw.c
      have HWw := Lib.hid (hw.write _ t4 H4.out (by have := HNT.out; have := HNW.out; simp [wTree, wWho]; omega))
      have HPL := Lib.hid hpl
      clear hw hpl
      go_wp2_with fail
      refine HWw.out.mono ?_
      rintro e w3 ⟨⟨n, rfl⟩, hw3⟩
      obtain ⟨_, _, _, q3⟩ := hw3.c
      have HWt := Lib.hid (hw3.write tx ⟨tx.toArray⟩ rfl (by have := HNT.out; have := HNW.out; have := HTx.out; have := HPL.out; simp [wTree, wWho]; omega))
      clear hw3 q2
      go_wp2_with fail
      refine HWt.out.mono ?_
      rintro e w4 ⟨⟨n, rfl⟩, hw4⟩
      have HTo := Lib.hid (hw4.bd.told hw4.below.size)
      have HB4 := Lib.hid hw4.below
      clear hw4 q3
      go_wp2_with fail
      refine HTo.out.mono ?_
      rintro e w5 ⟨rfl, l5⟩
      go_wp2_with fail
      go_ret2
      exact ⟨by simp [putC, SV], HB4.out.trans l5⟩

set_option maxRecDepth 100000 in
set_option maxHeartbeats 1000000 in
theorem writeChange_no (c : Chg) (vp : Value) (w : World) (hr : StrsR w vp c.parents) (hs : SmallC c) (he : Er w) (h : rightC c = false) :
    Calls Tryz.prog 46 #[ChgV c vp] w (FailP (.string ⟨#[]⟩) w) := by
  have B0 := below_new w (.cells #[.string ⟨c.tree.toArray⟩, vp, .string ⟨c.who.toArray⟩, .string ⟨c.text.toArray⟩] 40)
  have hck := (checkChange_any c vp _ (hr.below B0 (Nat.le_refl _)) hs (he.below B0)).mono fun e w' h' => CkPost.no h' h
  have HC := Lib.hid hck; have HB := Lib.hid B0
  obtain ⟨A, ca, rfl⟩ := hr.shape
  unfold ChgV at HC ⊢
  clear hck hr hs he h B0
  go_enter Tryz.func46, Tryz.ntmps46
  go_wp2_with fail
  refine HC.out.mono ?_
  rintro e w1 ⟨p, rfl, l1⟩
  go_wp2_with fail
  go_ret2
  exact ⟨_, rfl, HB.out.trans (l1.mono HB.out.size)⟩

/-- What PutChange answers. -/
def putCV (c : Chg) : Value := .tuple #[SV (if rightC c then putC c else []), .bool (rightC c)]
theorem putCV_yes {c : Chg} (h : rightC c = true) : putCV c = .tuple #[SV (putC c), .bool true] := by unfold putCV; rw [h]; rfl
theorem putCV_no {c : Chg} (h : rightC c = false) : putCV c = .tuple #[.string ⟨#[]⟩, .bool false] := by unfold putCV; rw [h]; rfl
set_option maxRecDepth 100000 in
set_option maxHeartbeats 1000000 in
theorem PutChange_any (c : Chg) (vp : Value) (w : World) (hr : StrsR w vp c.parents) (hs : SmallC c) (he : Er w) :
    Calls Tryz.prog 25 #[ChgV c vp] w (RetBelow (putCV c) w) := by
  have B0 := below_new w (.cells #[.string ⟨c.tree.toArray⟩, vp, .string ⟨c.who.toArray⟩, .string ⟨c.text.toArray⟩] 40)
  have HB := Lib.hid B0
  cases h : rightC c
  · have HW := Lib.hid (writeChange_no c vp _ (hr.below B0 (Nat.le_refl _)) hs (he.below B0) h)
    have HE := Lib.hid he
    obtain ⟨A, ca, rfl⟩ := hr.shape
    rw [putCV_no h]
    unfold ChgV at HW ⊢
    clear hr hs he h B0
    go_enter Tryz.func25, Tryz.ntmps25
    go_wp2_with fail
    refine HW.out.mono ?_
    rintro e w1 ⟨p, rfl, l1⟩
    have L1 := Lib.hid (HB.out.trans (l1.mono HB.out.size))
    have HT := Lib.hid (toldS_fault (.string ⟨#[]⟩) (.iface 92 (.pointer (some p))) w1 ⟨p, rfl⟩ (HE.out.below L1.out).et)
    clear l1
    go_wp2_with fail
    refine HT.out.mono ?_
    rintro e w2 ⟨rfl, l2⟩
    go_wp2_with fail
    go_ret2
    exact ⟨rfl, L1.out.trans (l2.mono L1.out.size)⟩
  · have HW := Lib.hid (writeChange_yes c vp _ (hr.below B0 (Nat.le_refl _)) hs (he.below B0) h)
    obtain ⟨A, ca, rfl⟩ := hr.shape
    rw [putCV_yes h]
    unfold ChgV at HW ⊢
    unfold SV at HW ⊢
    clear hr hs he h B0
    go_enter Tryz.func25, Tryz.ntmps25
    go_wp2_with fail
    refine HW.out.mono ?_
    rintro e w1 ⟨rfl, l1⟩
    have L1 := Lib.hid (HB.out.trans (l1.mono HB.out.size))
    have HT := Lib.hid (toldS_nil (.string ⟨(putC c).toArray⟩) w1)
    clear l1
    go_wp2_with fail
    refine HT.out.mono ?_
    rintro e w2 ⟨rfl, l2⟩
    go_wp2_with fail
    go_ret2
    exact ⟨rfl, L1.out.trans (l2.mono L1.out.size)⟩
end Go.Proofs.YtdkkeaaepebafaaGreatDoor
