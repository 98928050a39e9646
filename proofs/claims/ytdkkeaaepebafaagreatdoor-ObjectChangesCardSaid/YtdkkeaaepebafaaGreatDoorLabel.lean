/-
  checkLabel, writeLabel, PutLabel; told of commits, of tags.
-/
import Derived.Test.YtdkkeaaepebafaaGreatDoorParents
import Derived.Test.YtdkkeaaepebafaaGreatDoorWrite
namespace Go.Proofs.YtdkkeaaepebafaaGreatDoor
open Go Go.RowKit Go.Shelf

theorem alloc_heap4 (w : World) (o : Obj) : (w.alloc o).heap = w.heap.push o := rfl
theorem cell_of_blk {W : World} {b i : Nat} {cs : Array Value} {t : TypeId} {v : Value} (h : W.heap[b]? = some (.cells cs t (0, 0))) (hv : cs[i]? = some v) : W.cell? ⟨b, i, none⟩ = some v := (cell_of_row W b i cs t (0, 0) h).trans hv
theorem frozen_of_blk {W : World} {b i : Nat} {cs : Array Value} {t : TypeId} (h : W.heap[b]? = some (.cells cs t (0, 0))) : W.frozen? ⟨b, i, none⟩ = false := by
  simp [World.frozen?, h]
def LblV (l : Lbl) : Value := .agg #[.string ⟨l.id.toArray⟩, .int .i64 l.kind, .string ⟨l.name.toArray⟩, .string ⟨l.text.toArray⟩]
def SmallL (l : Lbl) : Prop := l.id.length ≤ 100000 ∧ l.name.length ≤ 100000 ∧ l.text.length ≤ 100000
theorem kindW_nil (k : Int) : ((kindW k == []) = false) = (1 ≤ k ∧ k ≤ 4) := by
  rw [beq_eq_false_iff_ne, ne_eq, word_ne_nil, Decidable.not_not]

set_option maxRecDepth 100000 in
set_option maxHeartbeats 1000000 in
theorem checkLabel_any (l : Lbl) (w : World) (hs : SmallL l) (he : Er w) :
    Calls Tryz.prog 73 #[LblV l] w (CkPost (rightL l) w) := by
  obtain ⟨i, k, nm, tx⟩ := l
  obtain ⟨s1, s2, s3⟩ := hs
  simp only at s1 s2 s3
  unfold LblV
  simp only
  have B0 := below_new w (.cells #[.string ⟨i.toArray⟩, .int .i64 k, .string ⟨nm.toArray⟩, .string ⟨tx.toArray⟩] 42)
  have HB0 := Lib.hid B0
  have HN := Lib.hid (ckName i (by omega) _ (he.below B0))
  have HP := Lib.hid (fun W (h : Below w.heap.size w W) => ckPart nm (by omega) W (he.below h))
  have HE := Lib.hid he
  have hb1 : ∀ w1, Below (w.alloc (.cells #[.string ⟨i.toArray⟩, .int .i64 k, .string ⟨nm.toArray⟩, .string ⟨tx.toArray⟩] 42)).heap.size (w.alloc (.cells #[.string ⟨i.toArray⟩, .int .i64 k, .string ⟨nm.toArray⟩, .string ⟨tx.toArray⟩] 42)) w1 → Below w.heap.size w w1 ∧ w1.heap[w.heap.size]? = some (.cells #[.string ⟨i.toArray⟩, .int .i64 k, .string ⟨nm.toArray⟩, .string ⟨tx.toArray⟩] 42 (0, 0)) := fun w1 h => ⟨B0.trans (h.mono B0.size), (h.block _ (by simp)).trans (heap_alloc_new _ _)⟩
  have HB1 := Lib.hid hb1
  have hwd := fun W => word_any k W
  unfold SV at hwd
  have HWd := Lib.hid hwd
  have HR : Hid (rightL ⟨i, k, nm, tx⟩ = (namedB i && decide (1 ≤ k ∧ k ≤ 4) && partB nm)) := Lib.hid (by unfold rightL; simp)
  clear s1 s2 s3 he B0 hb1 hwd
  go_enter Tryz.func73, Tryz.ntmps73
  go_wp2_with fail
  refine HN.out.mono ?_
  rintro e w1 ⟨⟨hi, rfl⟩ | ⟨hi, p, rfl⟩, l1⟩
  · obtain ⟨h1, hb⟩ := HB1.out w1 l1
    have q1 := (cell_of_row w1 w.heap.size 1 _ _ _ hb).trans (by rfl)
    have q2 := (cell_of_row w1 w.heap.size 2 _ _ _ hb).trans (by rfl)
    obtain ⟨ea, e0⟩ := (HE.out.below h1).wrong
    have H1 := Lib.hid h1; have HI := Lib.hid hi
    clear h1 hi hb l1
    by_cases hk : 1 ≤ k ∧ k ≤ 4
    · have hne : kindW k ≠ [] := fun e => word_ne_nil.1 e hk
      have hd : decide (1 ≤ k ∧ k ≤ 4) = true := decide_eq_true hk
      have HD := Lib.hid hd
      obtain ⟨ch, tl, hct⟩ := List.exists_cons_of_ne_nil hne
      rw [hct] at HWd
      clear hne hd hct hk
      go_wp2_with fail
      refine (HWd.out w1).mono ?_
      rintro e w2 ⟨rfl, rfl⟩
      go_wp2_with fail
      refine (HP.out w1 H1.out).mono ?_
      intro e w3 h3
      have H3 := Lib.hid (h3.thru (b' := rightL ⟨i, k, nm, tx⟩) (by rw [HR.out, HI.out, HD.out]; rfl) H1.out)
      obtain ⟨v, rfl⟩ := h3.ret
      clear h3
      go_wp2_with fail
      go_ret
      exact H3.out
    · have hct := word_ne_nil.2 hk
      have hd : decide (1 ≤ k ∧ k ≤ 4) = false := decide_eq_false hk
      have HD := Lib.hid hd
      rw [hct] at HWd
      clear hd hct hk
      go_wp2_with fail
      refine (HWd.out w1).mono ?_
      rintro e w2 ⟨rfl, rfl⟩
      go_wp2_with fail
      go_ret
      exact ⟨.inr ⟨by rw [HR.out, HD.out]; simp, _, rfl⟩, H1.out.alloc H1.out.size _⟩
  · obtain ⟨h1, _⟩ := HB1.out w1 l1
    have H1 := Lib.hid h1; have HI := Lib.hid hi
    clear h1 hi l1
    go_wp2_with fail
    go_ret
    exact ⟨.inr ⟨by rw [HR.out, HI.out]; simp, _, rfl⟩, H1.out⟩

set_option maxRecDepth 100000 in
set_option maxHeartbeats 4000000 in
theorem writeLabel_yes (l : Lbl) (w : World) (hs : SmallL l) (he : Er w) (h : rightL l = true) :
    Calls Tryz.prog 48 #[LblV l] w (RetBelow (.tuple #[SV (putL4 l), .nilIface]) w) := by
  obtain ⟨g1, g2, g3⟩ := rightL_parts.1 h
  have B0 := below_new w (.cells #[.string ⟨l.id.toArray⟩, .int .i64 l.kind, .string ⟨l.name.toArray⟩, .string ⟨l.text.toArray⟩] 42)
  have hck := (checkLabel_any l _ hs (he.below B0)).mono fun e w' h' => CkPost.yes h' h
  obtain ⟨i, k, nm, tx⟩ := l
  obtain ⟨s1, s2, s3⟩ := hs
  simp only at s1 s2 s3 g1 g2 g3 B0
  unfold LblV at hck ⊢
  simp only at hck ⊢
  have HC := Lib.hid hck
  have hb1 : ∀ w1, Below (w.alloc (.cells #[.string ⟨i.toArray⟩, .int .i64 k, .string ⟨nm.toArray⟩, .string ⟨tx.toArray⟩] 42)).heap.size (w.alloc (.cells #[.string ⟨i.toArray⟩, .int .i64 k, .string ⟨nm.toArray⟩, .string ⟨tx.toArray⟩] 42)) w1 → Below w.heap.size w w1 ∧ w1.heap[w.heap.size]? = some (.cells #[.string ⟨i.toArray⟩, .int .i64 k, .string ⟨nm.toArray⟩, .string ⟨tx.toArray⟩] 42 (0, 0)) := fun w1 h => ⟨B0.trans (h.mono B0.size), (h.block _ (by simp)).trans (heap_alloc_new _ _)⟩
  have HB1 := Lib.hid hb1
  have hwd := fun W => word_any k W
  unfold SV at hwd
  have HWd := Lib.hid hwd
  have nk : (kindW k).length ≤ 6 := by rcases kind_cases g2.1 g2.2 with rfl | rfl | rfl | rfl <;> decide
  obtain ⟨t1, ht1⟩ : ∃ x : ByteArray, x = ⟨(wObject ++ i).toArray⟩ := ⟨_, rfl⟩
  obtain ⟨t2, ht2⟩ : ∃ x : ByteArray, x = ⟨((wObject ++ i) ++ (10 :: wKind)).toArray⟩ := ⟨_, rfl⟩
  obtain ⟨t3, ht3⟩ : ∃ x : ByteArray, x = ⟨(((wObject ++ i) ++ (10 :: wKind)) ++ kindW k).toArray⟩ := ⟨_, rfl⟩
  obtain ⟨t4, ht4⟩ : ∃ x : ByteArray, x = ⟨((((wObject ++ i) ++ (10 :: wKind)) ++ kindW k) ++ (10 :: wName)).toArray⟩ := ⟨_, rfl⟩
  obtain ⟨t5, ht5⟩ : ∃ x : ByteArray, x = ⟨(((((wObject ++ i) ++ (10 :: wKind)) ++ kindW k) ++ (10 :: wName)) ++ nm).toArray⟩ := ⟨_, rfl⟩
  obtain ⟨t6, ht6⟩ : ∃ x : ByteArray, x = ⟨((((((wObject ++ i) ++ (10 :: wKind)) ++ kindW k) ++ (10 :: wName)) ++ nm) ++ [10, 10]).toArray⟩ := ⟨_, rfl⟩
  obtain ⟨t7, ht7⟩ : ∃ x : ByteArray, x = ⟨(((((((wObject ++ i) ++ (10 :: wKind)) ++ kindW k) ++ (10 :: wName)) ++ nm) ++ [10, 10]) ++ tx).toArray⟩ := ⟨_, rfl⟩
  have r1 : ∀ W : World, (Op.stringOp .add ⟨#[111, 98, 106, 101, 99, 116, 32]⟩ ⟨i.toArray⟩).run Tryz.prog W = .ok (.string t1) W := cat_run wObject i t1 ht1 (by decide) (by omega)
  have r2 : ∀ W : World, (Op.stringOp .add t1 ⟨#[10, 107, 105, 110, 100, 32]⟩).run Tryz.prog W = .ok (.string t2) W := cat_run2 _ (10 :: wKind) t1 t2 ht1 ht2 (by simp [wObject]; omega) (by decide)
  have r3 : ∀ W : World, (Op.stringOp .add t2 ⟨(kindW k).toArray⟩).run Tryz.prog W = .ok (.string t3) W := cat_run2 _ (kindW k) t2 t3 ht2 ht3 (by simp [wObject, wKind]; omega) (by omega)
  have r4 : ∀ W : World, (Op.stringOp .add t3 ⟨#[10, 110, 97, 109, 101, 32]⟩).run Tryz.prog W = .ok (.string t4) W := cat_run2 _ (10 :: wName) t3 t4 ht3 ht4 (by simp [wObject, wKind]; omega) (by decide)
  have r5 : ∀ W : World, (Op.stringOp .add t4 ⟨nm.toArray⟩).run Tryz.prog W = .ok (.string t5) W := cat_run2 _ nm t4 t5 ht4 ht5 (by simp [wObject, wKind, wName]; omega) (by omega)
  have r6 : ∀ W : World, (Op.stringOp .add t5 ⟨#[10, 10]⟩).run Tryz.prog W = .ok (.string t6) W := cat_run2 _ [10, 10] t5 t6 ht5 ht6 (by simp [wObject, wKind, wName]; omega) (by decide)
  have r7 : ∀ W : World, (Op.stringOp .add t6 ⟨tx.toArray⟩).run Tryz.prog W = .ok (.string t7) W := cat_run2 _ tx t6 t7 ht6 ht7 (by simp [wObject, wKind, wName]; omega) (by omega)
  have H7 := Lib.hid ht7
  have HP : Hid (putL4 ⟨i, k, nm, tx⟩ = ((((((wObject ++ i) ++ (10 :: wKind)) ++ kindW k) ++ (10 :: wName)) ++ nm) ++ [10, 10]) ++ tx) := Lib.hid (by simp [putL4])
  generalize kindW k = kw at HWd r3 H7 HP
  clear he h hck g1 g2 g3 s1 s2 s3 B0 hb1 ht1 ht2 ht3 ht4 ht5 ht6 ht7 nk hwd
  go_enter Tryz.func48, Tryz.ntmps48
  go_wp2_with fail
  refine HC.out.mono ?_
  rintro e w1 ⟨rfl, l1⟩
  obtain ⟨h1, hb⟩ := HB1.out w1 l1
  have q0 := (cell_of_row w1 w.heap.size 0 _ _ _ hb).trans (by rfl)
  have q1 := (cell_of_row w1 w.heap.size 1 _ _ _ hb).trans (by rfl)
  have q2 := (cell_of_row w1 w.heap.size 2 _ _ _ hb).trans (by rfl)
  have q3 := (cell_of_row w1 w.heap.size 3 _ _ _ hb).trans (by rfl)
  have H1 := Lib.hid h1
  clear h1 hb l1
  go_wp2_with fail
  go_quiet (exact Calls.quiet_of_same ((HWd.out _).mono fun _ _ h => ⟨h.1, h.2.symm⟩))
  go_wp2_with fail
  go_ret2
  rw [HP.out]
  exact ⟨by rw [H7.out]; rfl, below_drewN H1.out _⟩

set_option maxRecDepth 100000 in
set_option maxHeartbeats 1000000 in
theorem writeLabel_no (l : Lbl) (w : World) (hs : SmallL l) (he : Er w) (h : rightL l = false) :
    Calls Tryz.prog 48 #[LblV l] w (FailP (.string ⟨#[]⟩) w) := by
  have B0 := below_new w (.cells #[.string ⟨l.id.toArray⟩, .int .i64 l.kind, .string ⟨l.name.toArray⟩, .string ⟨l.text.toArray⟩] 42)
  have hck := (checkLabel_any l _ hs (he.below B0)).mono fun e w' h' => CkPost.no h' h
  have HC := Lib.hid hck; have HB := Lib.hid B0
  unfold LblV at HC ⊢
  clear hck hs he h B0
  go_enter Tryz.func48, Tryz.ntmps48
  go_wp2_with fail
  refine HC.out.mono ?_
  rintro e w1 ⟨p, rfl, l1⟩
  go_wp2_with fail
  go_ret2
  exact ⟨_, rfl, HB.out.trans (l1.mono HB.out.size)⟩

/-- What PutLabel answers. -/
def putLV (l : Lbl) : Value := .tuple #[SV (if rightL l then putL4 l else []), .bool (rightL l)]
theorem putLV_yes {l : Lbl} (h : rightL l = true) : putLV l = .tuple #[SV (putL4 l), .bool true] := by unfold putLV; rw [h]; rfl
theorem putLV_no {l : Lbl} (h : rightL l = false) : putLV l = .tuple #[.string ⟨#[]⟩, .bool false] := by unfold putLV; rw [h]; rfl
set_option maxRecDepth 100000 in
set_option maxHeartbeats 1000000 in
theorem PutLabel_any (l : Lbl) (w : World) (hs : SmallL l) (he : Er w) :
    Calls Tryz.prog 27 #[LblV l] w (RetBelow (putLV l) w) := by
  have B0 := below_new w (.cells #[.string ⟨l.id.toArray⟩, .int .i64 l.kind, .string ⟨l.name.toArray⟩, .string ⟨l.text.toArray⟩] 42)
  have HB := Lib.hid B0
  cases h : rightL l
  · have HW := Lib.hid (writeLabel_no l _ hs (he.below B0) h)
    have HE := Lib.hid he
    rw [putLV_no h]
    unfold LblV at HW ⊢
    clear hs he h B0
    go_enter Tryz.func27, Tryz.ntmps27
    go_wp2_with fail
    refine HW.out.mono ?_
    rintro e w1 ⟨p, rfl, l1⟩
    have L1 := Lib.hid (HB.out.trans (l1.mono HB.out.size))
    have HT := Lib.hid (toldS_fault (.string ⟨#[]⟩) (.iface 92 (.pointer (some p))) w1 ⟨p, rfl⟩ (HE.out.below L1.out).et)
    clear l1
    go_wp2_with fail
    refine HT.out.mono ?_
    rintro e w2 ⟨rfl, l2⟩
    go_wp2_with fail
    go_ret2
    exact ⟨rfl, L1.out.trans (l2.mono L1.out.size)⟩
  · have HW := Lib.hid (writeLabel_yes l _ hs (he.below B0) h)
    rw [putLV_yes h]
    unfold LblV at HW ⊢
    unfold SV at HW ⊢
    clear hs he h B0
    go_enter Tryz.func27, Tryz.ntmps27
    go_wp2_with fail
    refine HW.out.mono ?_
    rintro e w1 ⟨rfl, l1⟩
    have L1 := Lib.hid (HB.out.trans (l1.mono HB.out.size))
    have HT := Lib.hid (toldS_nil (.string ⟨(putL4 l).toArray⟩) w1)
    clear l1
    go_wp2_with fail
    refine HT.out.mono ?_
    rintro e w2 ⟨rfl, l2⟩
    go_wp2_with fail
    go_ret2
    exact ⟨rfl, L1.out.trans (l2.mono L1.out.size)⟩

/-! ### told of a commit, of a tag -/
theorem cells4 (W : World) (n : Nat) (a b c d : Value) {a' b' c' d' : Value} (h0 : W.cell? ⟨n, 0, none⟩ = some a') (h1 : W.cell? ⟨n, 1, none⟩ = some b') (h2 : W.cell? ⟨n, 2, none⟩ = some c') (h3 : W.cell? ⟨n, 3, none⟩ = some d') :
    (W.setCell ⟨n, 0, none⟩ a).cell? ⟨n, 0, none⟩ = some a ∧ ((W.setCell ⟨n, 0, none⟩ a).setCell ⟨n, 1, none⟩ b).cell? ⟨n, 1, none⟩ = some b ∧ (((W.setCell ⟨n, 0, none⟩ a).setCell ⟨n, 1, none⟩ b).setCell ⟨n, 2, none⟩ c).cell? ⟨n, 2, none⟩ = some c ∧ ((((W.setCell ⟨n, 0, none⟩ a).setCell ⟨n, 1, none⟩ b).setCell ⟨n, 2, none⟩ c).setCell ⟨n, 3, none⟩ d).cell? ⟨n, 3, none⟩ = some d := by
  refine ⟨?_, ?_, ?_, ?_⟩
  · simp [go_sem, h0]
  · simp [go_sem, h1]
  · simp [go_sem, h2]
  · simp [go_sem, h3]
theorem below_set4 {N n : Nat} {w W : World} (h : Below N w W) (hn : N ≤ n) (a b c d : Value) : Below N w ((((W.setCell ⟨n, 0, none⟩ a).setCell ⟨n, 1, none⟩ b).setCell ⟨n, 2, none⟩ c).setCell ⟨n, 3, none⟩ d) :=
  (((h.setCell hn _).setCell hn _).setCell hn _).setCell hn _

set_option maxRecDepth 100000 in
set_option maxHeartbeats 1000000 in
theorem toldL_nil (a b c : ByteArray) (k : Int) (w : World) : Calls Tryz.prog 53 #[.agg #[.string a, .int .i64 k, .string b, .string c], .nilIface] w (RetBelow (.tuple #[.agg #[.string a, .int .i64 k, .string b, .string c], .bool true]) w) := by
  have Hin := Lib.hid (fun t w => as_nil t w)
  obtain ⟨W, hW⟩ : ∃ W, W = ((w.alloc (.cells #[.string a, .int .i64 k, .string b, .string c] 42)).alloc (.cells #[.string ⟨#[]⟩, .int .i64 0, .string ⟨#[]⟩, .string ⟨#[]⟩] 42)).alloc (.cells #[.pointer none] 92) := ⟨_, rfl⟩
  have hB : Below w.heap.size w W := by
    rw [hW]; exact (((Below.refl _ w).alloc (Nat.le_refl _) _).alloc (by simp) _).alloc (by simp; omega) _
  have x : ∀ i v, (#[.string a, .int .i64 k, .string b, .string c] : Array Value)[i]? = some v → W.cell? ⟨w.heap.size, i, none⟩ = some v := fun i v h => by
    refine cell_of_blk (cs := #[.string a, .int .i64 k, .string b, .string c]) (t := 42) ?_ h
    rw [hW]; simp only [alloc_heap4, Array.getElem?_push, Array.size_push, Nat.add_assoc, Nat.reduceAdd]; simp
  have y : ∀ i v, (#[.string ⟨#[]⟩, .int .i64 0, .string ⟨#[]⟩, .string ⟨#[]⟩] : Array Value)[i]? = some v → W.cell? ⟨w.heap.size + 1, i, none⟩ = some v := fun i v h => by
    refine cell_of_blk (cs := #[.string ⟨#[]⟩, .int .i64 0, .string ⟨#[]⟩, .string ⟨#[]⟩]) (t := 42) ?_ h
    rw [hW]; simp only [alloc_heap4, Array.getElem?_push, Array.size_push, Nat.add_assoc, Nat.reduceAdd]; simp
  have z : ∀ i, W.frozen? ⟨w.heap.size + 1, i, none⟩ = false := fun i => by
    refine frozen_of_blk (cs := #[.string ⟨#[]⟩, .int .i64 0, .string ⟨#[]⟩, .string ⟨#[]⟩]) (t := 42) ?_
    rw [hW]; simp only [alloc_heap4, Array.getElem?_push, Array.size_push, Nat.add_assoc, Nat.reduceAdd]; simp
  have x0 : W.cell? ⟨w.heap.size, 0, none⟩ = some (.string a) := x 0 _ rfl
  have x1 : W.cell? ⟨w.heap.size, 1, none⟩ = some (.int .i64 k) := x 1 _ rfl
  have x2 : W.cell? ⟨w.heap.size, 2, none⟩ = some (.string b) := x 2 _ rfl
  have x3 : W.cell? ⟨w.heap.size, 3, none⟩ = some (.string c) := x 3 _ rfl
  have y0 : W.cell? ⟨w.heap.size + 1, 0, none⟩ = some (.string ⟨#[]⟩) := y 0 _ rfl
  have y1 : W.cell? ⟨w.heap.size + 1, 1, none⟩ = some (.int .i64 0) := y 1 _ rfl
  have y2 : W.cell? ⟨w.heap.size + 1, 2, none⟩ = some (.string ⟨#[]⟩) := y 2 _ rfl
  have y3 : W.cell? ⟨w.heap.size + 1, 3, none⟩ = some (.string ⟨#[]⟩) := y 3 _ rfl
  have z0 := z 0; have z1 := z 1; have z2 := z 2; have z3 := z 3
  obtain ⟨f0, f1, f2, f3⟩ := cells4 W (w.heap.size + 1) (.string a) (.int .i64 k) (.string b) (.string c) y0 y1 y2 y3
  have HB := Lib.hid hB
  have HW := Lib.hid hW
  clear x y z hB hW
  go_enter Tryz.func53, Tryz.ntmps53
  go_wp2_with fail
  rw [← HW.out]
  refine (Hin.out _ _).mono ?_
  rintro e w' ⟨rfl, rfl⟩
  go_wp2_with fail
  refine bodyPost_ret (v := .tuple #[.agg #[.string a, .int .i64 k, .string b, .string c], .bool true]) (by simp [results, Tryz.results53, go_sem, f0, f1, f2, f3]) rfl ?_
  exact ⟨rfl, below_set4 HB.out (by omega) _ _ _ _⟩
set_option maxRecDepth 100000 in
set_option maxHeartbeats 1000000 in
theorem toldL_fault (a b c : ByteArray) (k : Int) (p : Addr) (w : World) (het : Et w) : Calls Tryz.prog 53 #[.agg #[.string a, .int .i64 k, .string b, .string c], .iface 92 (.pointer (some p))] w (RetBelow (.tuple #[.agg #[.string ⟨#[]⟩, .int .i64 0, .string ⟨#[]⟩, .string ⟨#[]⟩], .bool false]) w) := by
  have h0 : Below w.heap.size w ((w.alloc (.cells #[.string a, .int .i64 k, .string b, .string c] 42)).alloc (.cells #[.string ⟨#[]⟩, .int .i64 0, .string ⟨#[]⟩, .string ⟨#[]⟩] 42)) := ((Below.refl _ w).alloc (Nat.le_refl _) _).alloc (by simp) _
  have hgl := World.block_lt_of_cell? w ⟨2, 0, none⟩ het
  have het1 : Et ((w.alloc (.cells #[.string a, .int .i64 k, .string b, .string c] 42)).alloc (.cells #[.string ⟨#[]⟩, .int .i64 0, .string ⟨#[]⟩, .string ⟨#[]⟩] 42)) := (h0.cell (p := ⟨2, 0, none⟩) hgl).trans het
  have hs1 : ((w.alloc (.cells #[.string a, .int .i64 k, .string b, .string c] 42)).alloc (.cells #[.string ⟨#[]⟩, .int .i64 0, .string ⟨#[]⟩, .string ⟨#[]⟩] 42)).heap.size = w.heap.size + 1 + 1 := by simp
  have hin := told_hin (some p) _ het1
  unfold AsPost at hin
  rw [hs1] at hin
  have Hin := Lib.hid hin
  have hy : ((w.alloc (.cells #[.string a, .int .i64 k, .string b, .string c] 42)).alloc (.cells #[.string ⟨#[]⟩, .int .i64 0, .string ⟨#[]⟩, .string ⟨#[]⟩] 42)).heap[w.heap.size + 1]? = some (.cells #[.string ⟨#[]⟩, .int .i64 0, .string ⟨#[]⟩, .string ⟨#[]⟩] 42 (0, 0)) := by
    simp only [alloc_heap4, Array.getElem?_push, Array.size_push]; simp
  have HY := Lib.hid hy; have H0 := Lib.hid h0
  have HS1 := Lib.hid hs1
  have hk : ∀ w2, (((w.alloc (.cells #[.string a, .int .i64 k, .string b, .string c] 42)).alloc (.cells #[.string ⟨#[]⟩, .int .i64 0, .string ⟨#[]⟩, .string ⟨#[]⟩] 42)).alloc (.cells #[.pointer none] 92)).grownBy w2 (some (w.heap.size + 1 + 1)) → Below w.heap.size w w2 ∧ w2.heap[w.heap.size + 1]? = some (.cells #[.string ⟨#[]⟩, .int .i64 0, .string ⟨#[]⟩, .string ⟨#[]⟩] 42 (0, 0)) := fun w2 hg => by
    rw [← HS1.out] at hg
    have h2 := below_grown_new hg
    exact ⟨H0.out.trans (h2.mono H0.out.size), (h2.block _ (by rw [HS1.out]; omega)).trans HY.out⟩
  have HK := Lib.hid hk
  clear het het1 hy h0 hgl hs1 hk hin
  go_enter Tryz.func53, Tryz.ntmps53
  go_wp2_with fail
  refine Hin.out.mono ?_
  rintro e w1 ⟨rfl, hg, hc⟩
  obtain ⟨hb1, hy1⟩ := HK.out w1 hg
  have hlt := lt_heap hy1
  have hy2 := (Below.heap_alloc w1 (.cells #[.string ⟨#[]⟩, .int .i64 0, .string ⟨#[]⟩, .string ⟨#[]⟩] 42) _ hlt).trans hy1
  have hbb := hb1.alloc hb1.size (.cells #[.string ⟨#[]⟩, .int .i64 0, .string ⟨#[]⟩, .string ⟨#[]⟩] 42)
  have hx := heap_alloc_new w1 (.cells #[.string ⟨#[]⟩, .int .i64 0, .string ⟨#[]⟩, .string ⟨#[]⟩] 42)
  have x0 : (w1.alloc (.cells #[.string ⟨#[]⟩, .int .i64 0, .string ⟨#[]⟩, .string ⟨#[]⟩] 42)).cell? ⟨w1.heap.size, 0, none⟩ = some (.string ⟨#[]⟩) := cell_of_blk hx rfl
  have x1 : (w1.alloc (.cells #[.string ⟨#[]⟩, .int .i64 0, .string ⟨#[]⟩, .string ⟨#[]⟩] 42)).cell? ⟨w1.heap.size, 1, none⟩ = some (.int .i64 0) := cell_of_blk hx rfl
  have x2 : (w1.alloc (.cells #[.string ⟨#[]⟩, .int .i64 0, .string ⟨#[]⟩, .string ⟨#[]⟩] 42)).cell? ⟨w1.heap.size, 2, none⟩ = some (.string ⟨#[]⟩) := cell_of_blk hx rfl
  have x3 : (w1.alloc (.cells #[.string ⟨#[]⟩, .int .i64 0, .string ⟨#[]⟩, .string ⟨#[]⟩] 42)).cell? ⟨w1.heap.size, 3, none⟩ = some (.string ⟨#[]⟩) := cell_of_blk hx rfl
  have y0 : (w1.alloc (.cells #[.string ⟨#[]⟩, .int .i64 0, .string ⟨#[]⟩, .string ⟨#[]⟩] 42)).cell? ⟨w.heap.size + 1, 0, none⟩ = some (.string ⟨#[]⟩) := cell_of_blk hy2 rfl
  have y1 : (w1.alloc (.cells #[.string ⟨#[]⟩, .int .i64 0, .string ⟨#[]⟩, .string ⟨#[]⟩] 42)).cell? ⟨w.heap.size + 1, 1, none⟩ = some (.int .i64 0) := cell_of_blk hy2 rfl
  have y2 : (w1.alloc (.cells #[.string ⟨#[]⟩, .int .i64 0, .string ⟨#[]⟩, .string ⟨#[]⟩] 42)).cell? ⟨w.heap.size + 1, 2, none⟩ = some (.string ⟨#[]⟩) := cell_of_blk hy2 rfl
  have y3 : (w1.alloc (.cells #[.string ⟨#[]⟩, .int .i64 0, .string ⟨#[]⟩, .string ⟨#[]⟩] 42)).cell? ⟨w.heap.size + 1, 3, none⟩ = some (.string ⟨#[]⟩) := cell_of_blk hy2 rfl
  have z0 : (w1.alloc (.cells #[.string ⟨#[]⟩, .int .i64 0, .string ⟨#[]⟩, .string ⟨#[]⟩] 42)).frozen? ⟨w.heap.size + 1, 0, none⟩ = false := frozen_of_blk hy2
  have z1 : (w1.alloc (.cells #[.string ⟨#[]⟩, .int .i64 0, .string ⟨#[]⟩, .string ⟨#[]⟩] 42)).frozen? ⟨w.heap.size + 1, 1, none⟩ = false := frozen_of_blk hy2
  have z2 : (w1.alloc (.cells #[.string ⟨#[]⟩, .int .i64 0, .string ⟨#[]⟩, .string ⟨#[]⟩] 42)).frozen? ⟨w.heap.size + 1, 2, none⟩ = false := frozen_of_blk hy2
  have z3 : (w1.alloc (.cells #[.string ⟨#[]⟩, .int .i64 0, .string ⟨#[]⟩, .string ⟨#[]⟩] 42)).frozen? ⟨w.heap.size + 1, 3, none⟩ = false := frozen_of_blk hy2
  obtain ⟨f0, f1, f2, f3⟩ := cells4 (w1.alloc (.cells #[.string ⟨#[]⟩, .int .i64 0, .string ⟨#[]⟩, .string ⟨#[]⟩] 42)) (w.heap.size + 1) (.string ⟨#[]⟩) (.int .i64 0) (.string ⟨#[]⟩) (.string ⟨#[]⟩) y0 y1 y2 y3
  have HBB := Lib.hid hbb
  clear hc hg hb1 hy1 hlt hy2 hbb hx
  go_wp2_with fail
  refine bodyPost_ret (v := .tuple #[.agg #[.string ⟨#[]⟩, .int .i64 0, .string ⟨#[]⟩, .string ⟨#[]⟩], .bool false]) (by simp [results, Tryz.results53, go_sem, f0, f1, f2, f3]) rfl ?_
  exact ⟨rfl, below_set4 HBB.out (by omega) _ _ _ _⟩
set_option maxRecDepth 100000 in
set_option maxHeartbeats 1000000 in
theorem toldC_nil (a b c : ByteArray) (A : Option Addr) (n m : Nat) (w : World) : Calls Tryz.prog 50 #[.agg #[.string a, .slice A n m, .string b, .string c], .nilIface] w (RetBelow (.tuple #[.agg #[.string a, .slice A n m, .string b, .string c], .bool true]) w) := by
  have Hin := Lib.hid (fun t w => as_nil t w)
  obtain ⟨W, hW⟩ : ∃ W, W = ((w.alloc (.cells #[.string a, .slice A n m, .string b, .string c] 40)).alloc (.cells #[.string ⟨#[]⟩, .slice none 0 0, .string ⟨#[]⟩, .string ⟨#[]⟩] 40)).alloc (.cells #[.pointer none] 92) := ⟨_, rfl⟩
  have hB : Below w.heap.size w W := by
    rw [hW]; exact (((Below.refl _ w).alloc (Nat.le_refl _) _).alloc (by simp) _).alloc (by simp; omega) _
  have x : ∀ i v, (#[.string a, .slice A n m, .string b, .string c] : Array Value)[i]? = some v → W.cell? ⟨w.heap.size, i, none⟩ = some v := fun i v h => by
    refine cell_of_blk (cs := #[.string a, .slice A n m, .string b, .string c]) (t := 40) ?_ h
    rw [hW]; simp only [alloc_heap4, Array.getElem?_push, Array.size_push, Nat.add_assoc, Nat.reduceAdd]; simp
  have y : ∀ i v, (#[.string ⟨#[]⟩, .slice none 0 0, .string ⟨#[]⟩, .string ⟨#[]⟩] : Array Value)[i]? = some v → W.cell? ⟨w.heap.size + 1, i, none⟩ = some v := fun i v h => by
    refine cell_of_blk (cs := #[.string ⟨#[]⟩, .slice none 0 0, .string ⟨#[]⟩, .string ⟨#[]⟩]) (t := 40) ?_ h
    rw [hW]; simp only [alloc_heap4, Array.getElem?_push, Array.size_push, Nat.add_assoc, Nat.reduceAdd]; simp
  have z : ∀ i, W.frozen? ⟨w.heap.size + 1, i, none⟩ = false := fun i => by
    refine frozen_of_blk (cs := #[.string ⟨#[]⟩, .slice none 0 0, .string ⟨#[]⟩, .string ⟨#[]⟩]) (t := 40) ?_
    rw [hW]; simp only [alloc_heap4, Array.getElem?_push, Array.size_push, Nat.add_assoc, Nat.reduceAdd]; simp
  have x0 : W.cell? ⟨w.heap.size, 0, none⟩ = some (.string a) := x 0 _ rfl
  have x1 : W.cell? ⟨w.heap.size, 1, none⟩ = some (.slice A n m) := x 1 _ rfl
  have x2 : W.cell? ⟨w.heap.size, 2, none⟩ = some (.string b) := x 2 _ rfl
  have x3 : W.cell? ⟨w.heap.size, 3, none⟩ = some (.string c) := x 3 _ rfl
  have y0 : W.cell? ⟨w.heap.size + 1, 0, none⟩ = some (.string ⟨#[]⟩) := y 0 _ rfl
  have y1 : W.cell? ⟨w.heap.size + 1, 1, none⟩ = some (.slice none 0 0) := y 1 _ rfl
  have y2 : W.cell? ⟨w.heap.size + 1, 2, none⟩ = some (.string ⟨#[]⟩) := y 2 _ rfl
  have y3 : W.cell? ⟨w.heap.size + 1, 3, none⟩ = some (.string ⟨#[]⟩) := y 3 _ rfl
  have z0 := z 0; have z1 := z 1; have z2 := z 2; have z3 := z 3
  obtain ⟨f0, f1, f2, f3⟩ := cells4 W (w.heap.size + 1) (.string a) (.slice A n m) (.string b) (.string c) y0 y1 y2 y3
  have HB := Lib.hid hB
  have HW := Lib.hid hW
  clear x y z hB hW
  go_enter Tryz.func50, Tryz.ntmps50
  go_wp2_with fail
  rw [← HW.out]
  refine (Hin.out _ _).mono ?_
  rintro e w' ⟨rfl, rfl⟩
  go_wp2_with fail
  refine bodyPost_ret (v := .tuple #[.agg #[.string a, .slice A n m, .string b, .string c], .bool true]) (by simp [results, Tryz.results50, go_sem, f0, f1, f2, f3]) rfl ?_
  exact ⟨rfl, below_set4 HB.out (by omega) _ _ _ _⟩
set_option maxRecDepth 100000 in
set_option maxHeartbeats 1000000 in
theorem toldC_fault (a b c : ByteArray) (A : Option Addr) (n m : Nat) (p : Addr) (w : World) (het : Et w) : Calls Tryz.prog 50 #[.agg #[.string a, .slice A n m, .string b, .string c], .iface 92 (.pointer (some p))] w (RetBelow (.tuple #[.agg #[.string ⟨#[]⟩, .slice none 0 0, .string ⟨#[]⟩, .string ⟨#[]⟩], .bool false]) w) := by
  have h0 : Below w.heap.size w ((w.alloc (.cells #[.string a, .slice A n m, .string b, .string c] 40)).alloc (.cells #[.string ⟨#[]⟩, .slice none 0 0, .string ⟨#[]⟩, .string ⟨#[]⟩] 40)) := ((Below.refl _ w).alloc (Nat.le_refl _) _).alloc (by simp) _
  have hgl := World.block_lt_of_cell? w ⟨2, 0, none⟩ het
  have het1 : Et ((w.alloc (.cells #[.string a, .slice A n m, .string b, .string c] 40)).alloc (.cells #[.string ⟨#[]⟩, .slice none 0 0, .string ⟨#[]⟩, .string ⟨#[]⟩] 40)) := (h0.cell (p := ⟨2, 0, none⟩) hgl).trans het
  have hs1 : ((w.alloc (.cells #[.string a, .slice A n m, .string b, .string c] 40)).alloc (.cells #[.string ⟨#[]⟩, .slice none 0 0, .string ⟨#[]⟩, .string ⟨#[]⟩] 40)).heap.size = w.heap.size + 1 + 1 := by simp
  have hin := told_hin (some p) _ het1
  unfold AsPost at hin
  rw [hs1] at hin
  have Hin := Lib.hid hin
  have hy : ((w.alloc (.cells #[.string a, .slice A n m, .string b, .string c] 40)).alloc (.cells #[.string ⟨#[]⟩, .slice none 0 0, .string ⟨#[]⟩, .string ⟨#[]⟩] 40)).heap[w.heap.size + 1]? = some (.cells #[.string ⟨#[]⟩, .slice none 0 0, .string ⟨#[]⟩, .string ⟨#[]⟩] 40 (0, 0)) := by
    simp only [alloc_heap4, Array.getElem?_push, Array.size_push]; simp
  have HY := Lib.hid hy; have H0 := Lib.hid h0
  have HS1 := Lib.hid hs1
  have hk : ∀ w2, (((w.alloc (.cells #[.string a, .slice A n m, .string b, .string c] 40)).alloc (.cells #[.string ⟨#[]⟩, .slice none 0 0, .string ⟨#[]⟩, .string ⟨#[]⟩] 40)).alloc (.cells #[.pointer none] 92)).grownBy w2 (some (w.heap.size + 1 + 1)) → Below w.heap.size w w2 ∧ w2.heap[w.heap.size + 1]? = some (.cells #[.string ⟨#[]⟩, .slice none 0 0, .string ⟨#[]⟩, .string ⟨#[]⟩] 40 (0, 0)) := fun w2 hg => by
    rw [← HS1.out] at hg
    have h2 := below_grown_new hg
    exact ⟨H0.out.trans (h2.mono H0.out.size), (h2.block _ (by rw [HS1.out]; omega)).trans HY.out⟩
  have HK := Lib.hid hk
  clear het het1 hy h0 hgl hs1 hk hin
  go_enter Tryz.func50, Tryz.ntmps50
  go_wp2_with fail
  refine Hin.out.mono ?_
  rintro e w1 ⟨rfl, hg, hc⟩
  obtain ⟨hb1, hy1⟩ := HK.out w1 hg
  have hlt := lt_heap hy1
  have hy2 := (Below.heap_alloc w1 (.cells #[.string ⟨#[]⟩, .slice none 0 0, .string ⟨#[]⟩, .string ⟨#[]⟩] 40) _ hlt).trans hy1
  have hbb := hb1.alloc hb1.size (.cells #[.string ⟨#[]⟩, .slice none 0 0, .string ⟨#[]⟩, .string ⟨#[]⟩] 40)
  have hx := heap_alloc_new w1 (.cells #[.string ⟨#[]⟩, .slice none 0 0, .string ⟨#[]⟩, .string ⟨#[]⟩] 40)
  have x0 : (w1.alloc (.cells #[.string ⟨#[]⟩, .slice none 0 0, .string ⟨#[]⟩, .string ⟨#[]⟩] 40)).cell? ⟨w1.heap.size, 0, none⟩ = some (.string ⟨#[]⟩) := cell_of_blk hx rfl
  have x1 : (w1.alloc (.cells #[.string ⟨#[]⟩, .slice none 0 0, .string ⟨#[]⟩, .string ⟨#[]⟩] 40)).cell? ⟨w1.heap.size, 1, none⟩ = some (.slice none 0 0) := cell_of_blk hx rfl
  have x2 : (w1.alloc (.cells #[.string ⟨#[]⟩, .slice none 0 0, .string ⟨#[]⟩, .string ⟨#[]⟩] 40)).cell? ⟨w1.heap.size, 2, none⟩ = some (.string ⟨#[]⟩) := cell_of_blk hx rfl
  have x3 : (w1.alloc (.cells #[.string ⟨#[]⟩, .slice none 0 0, .string ⟨#[]⟩, .string ⟨#[]⟩] 40)).cell? ⟨w1.heap.size, 3, none⟩ = some (.string ⟨#[]⟩) := cell_of_blk hx rfl
  have y0 : (w1.alloc (.cells #[.string ⟨#[]⟩, .slice none 0 0, .string ⟨#[]⟩, .string ⟨#[]⟩] 40)).cell? ⟨w.heap.size + 1, 0, none⟩ = some (.string ⟨#[]⟩) := cell_of_blk hy2 rfl
  have y1 : (w1.alloc (.cells #[.string ⟨#[]⟩, .slice none 0 0, .string ⟨#[]⟩, .string ⟨#[]⟩] 40)).cell? ⟨w.heap.size + 1, 1, none⟩ = some (.slice none 0 0) := cell_of_blk hy2 rfl
  have y2 : (w1.alloc (.cells #[.string ⟨#[]⟩, .slice none 0 0, .string ⟨#[]⟩, .string ⟨#[]⟩] 40)).cell? ⟨w.heap.size + 1, 2, none⟩ = some (.string ⟨#[]⟩) := cell_of_blk hy2 rfl
  have y3 : (w1.alloc (.cells #[.string ⟨#[]⟩, .slice none 0 0, .string ⟨#[]⟩, .string ⟨#[]⟩] 40)).cell? ⟨w.heap.size + 1, 3, none⟩ = some (.string ⟨#[]⟩) := cell_of_blk hy2 rfl
  have z0 : (w1.alloc (.cells #[.string ⟨#[]⟩, .slice none 0 0, .string ⟨#[]⟩, .string ⟨#[]⟩] 40)).frozen? ⟨w.heap.size + 1, 0, none⟩ = false := frozen_of_blk hy2
  have z1 : (w1.alloc (.cells #[.string ⟨#[]⟩, .slice none 0 0, .string ⟨#[]⟩, .string ⟨#[]⟩] 40)).frozen? ⟨w.heap.size + 1, 1, none⟩ = false := frozen_of_blk hy2
  have z2 : (w1.alloc (.cells #[.string ⟨#[]⟩, .slice none 0 0, .string ⟨#[]⟩, .string ⟨#[]⟩] 40)).frozen? ⟨w.heap.size + 1, 2, none⟩ = false := frozen_of_blk hy2
  have z3 : (w1.alloc (.cells #[.string ⟨#[]⟩, .slice none 0 0, .string ⟨#[]⟩, .string ⟨#[]⟩] 40)).frozen? ⟨w.heap.size + 1, 3, none⟩ = false := frozen_of_blk hy2
  obtain ⟨f0, f1, f2, f3⟩ := cells4 (w1.alloc (.cells #[.string ⟨#[]⟩, .slice none 0 0, .string ⟨#[]⟩, .string ⟨#[]⟩] 40)) (w.heap.size + 1) (.string ⟨#[]⟩) (.slice none 0 0) (.string ⟨#[]⟩) (.string ⟨#[]⟩) y0 y1 y2 y3
  have HBB := Lib.hid hbb
  clear hc hg hb1 hy1 hlt hy2 hbb hx
  go_wp2_with fail
  refine bodyPost_ret (v := .tuple #[.agg #[.string ⟨#[]⟩, .slice none 0 0, .string ⟨#[]⟩, .string ⟨#[]⟩], .bool false]) (by simp [results, Tryz.results50, go_sem, f0, f1, f2, f3]) rfl ?_
  exact ⟨rfl, below_set4 HBB.out (by omega) _ _ _ _⟩
end Go.Proofs.YtdkkeaaepebafaaGreatDoor
