/-
  Make.
-/
import Derived.Test.YtbgnemephcbgeaaRd
import Derived.Deep.CutRange
namespace Go.Proofs.Ytbgnemephcbgeaa
open Go Go.RowKit Go.Shelf
attribute [local go_sem] Oper.semAt_some

theorem Ow.mono {w : World} {B b : Nat} {v : Value} {l : List UInt8} (h : Ow w B v l) (hb : b ≤ B) : Ow w b v l := by
  obtain ⟨h1, h2⟩ := h
  refine ⟨h1, ?_⟩
  rcases h2 with h2 | ⟨g, c, cur, e, hg, r⟩
  · exact .inl h2
  · exact .inr ⟨g, c, cur, e, Nat.le_trans hb hg, r⟩
theorem l_str (W : World) (b o : Nat) (l : Bs) (h : W.cell? ⟨b, o, none⟩ = some (SV l)) : (Instr.loadAt 9 (.pointer (some ⟨b, o, none⟩))).run Try.prog W = .ok (SV l) W := by
  unfold SV at *
  go_simp
theorem s_29 (W : World) (b o : Nat) (x : Value) (A : Option Addr) (n c : Nat) (h : W.cell? ⟨b, o, none⟩ = some x) (hf : W.frozen? ⟨b, o, none⟩ = false) : (Instr.storeAt 29 (.pointer (some ⟨b, o, none⟩)) (.slice A n c)).run Try.prog W = .ok () (W.setCell ⟨b, o, none⟩ (.slice A n c)) := by
  go_simp
theorem l_29 (W : World) (b o : Nat) (A : Option Addr) (n c : Nat) (h : W.cell? ⟨b, o, none⟩ = some (.slice A n c)) : (Instr.loadAt 29 (.pointer (some ⟨b, o, none⟩))).run Try.prog W = .ok (.slice A n c) W := by
  go_simp
theorem l_int (W : World) (b o : Nat) (x : Int) (h : W.cell? ⟨b, o, none⟩ = some (.int .i64 x)) : (Instr.loadAt 3 (.pointer (some ⟨b, o, none⟩))).run Try.prog W = .ok (.int .i64 x) W := by
  go_simp
theorem alloc_29 (W : World) : (Instr.alloc 29 true (.tuple #[])).run Try.prog W = .ok (.pointer (some ⟨W.heap.size, 0, none⟩)) (W.alloc (.cells #[.slice none 0 0] 29)) := by
  simp [go_sem]
theorem y_bs2 {P : Program} {a : Go.Act} {o : Oper} {W W' : World} {t : TypeId} {x y : Operand} {xv yv r : Value} (ho : o.op = .buildSlice t 2 #[(0, x), (1, y)]) (hx : a.eval x = xv) (hy : a.eval y = yv) (h : (Instr.buildSlice t 2 #[(0, xv), (1, yv)]).run P W = .ok r W') : (execOp a.eval o).run P W = .ok (.value r) W' := by
  subst hx hy
  simp only [execOp, ho]
  simp [h, Result.andThen]
theorem bs2_29 (W : World) (A1 A2 : Option Addr) (n1 n2 c1 c2 : Nat) : (Instr.buildSlice 67 2 #[(0, .slice A1 n1 c1), (1, .slice A2 n2 c2)]).run Try.prog W = .ok (.slice (some ⟨W.heap.size, 0, none⟩) 2 2) (W.alloc (.cells #[.slice A1 n1 c1, .slice A2 n2 c2] 29)) := by
  simp [go_sem]
theorem but_setCell (W : World) (A i : Nat) (v : Value) : But (fun k => k = A) W (W.setCell ⟨A, i, none⟩ v) := (But.refl (fun k => k = A) W).setCell (p := ⟨A, i, none⟩) rfl v
theorem below_set {b A i : Nat} {w W : World} {v : Value} (h : Below b w W) (hA : b ≤ A) : Below b w (W.setCell ⟨A, i, none⟩ v) :=
  h.trans ⟨rfl, rfl, rfl, by rw [size_setCell]; exact Nat.le_refl _, fun k hk => setCell_other _ _ _ _ _ (by omega)⟩
theorem mk_store {W w0 : World} {A B b : Nat} {u v : Value} {l : Bs} (kA : W.heap[A]? = some (.cells #[u] 29 (0, 0))) (o : Ow W B v l) (hB : b ≤ B) (nA : ∀ g, v.ownBlock = some g → g ≠ A) (lA : b ≤ A) (L : Below b w0 W) :
    (W.setCell ⟨A, 0, none⟩ v).heap[A]? = some (.cells #[v] 29 (0, 0)) ∧ Ow (W.setCell ⟨A, 0, none⟩ v) b v l ∧ (∀ g, v.ownBlock = some g → g ≠ A) ∧ b ≤ A ∧ Below b w0 (W.setCell ⟨A, 0, none⟩ v) :=
  ⟨blk_setCell kA v, Ow.mono (row_but o (but_setCell W A 0 v) nA) hB, nA, lA, below_set L lA⟩

/-- Between two rounds: what is made so far. -/
structure MkI (base text : Bs) (b tb : Nat) (w0 : World) (A D d : Nat) (C : Nat → Prop) (W : World) : Prop where
  le : d ≤ text.length
  bx : ∃ v l, W.heap[A]? = some (.cells #[v] 29 (0, 0)) ∧ Ow W b v l ∧ l ++ mkS base [] (text.drop d) = makeL base text ∧ (∀ g, v.ownBlock = some g → g ≠ A ∧ g ≠ D) ∧ (∀ k, C k ↔ k = A ∨ k = D ∨ v.ownBlock = some k)
  dn : W.heap[D]? = some (.cells #[.int .i64 (d : Int)] 3 (0, 0))
  nAD : A ≠ D
  lA : b ≤ A
  lD : b ≤ D
  tbl : tb < b
  tx : W.cell? ⟨tb, 0, none⟩ = some (.string ⟨text.toArray⟩)
  bl : Below b w0 W
theorem MkI.lt {base text : Bs} {b tb : Nat} {w0 : World} {A D d : Nat} {C : Nat → Prop} {W : World} (h : MkI base text b tb w0 A D d C W) : ∀ k, C k → k < W.heap.size := by
  obtain ⟨v, l, h1, h2, _, _, h5⟩ := h.bx
  intro k hk
  rcases (h5 k).1 hk with rfl | rfl | hk
  · exact lt_heap h1
  · exact lt_heap h.dn
  · exact (h2.lt k hk).2
theorem MkI.lo {base text : Bs} {b tb : Nat} {w0 : World} {A D d : Nat} {C : Nat → Prop} {W : World} (h : MkI base text b tb w0 A D d C W) : ∀ k, C k → b ≤ k := by
  obtain ⟨v, l, h1, h2, _, _, h5⟩ := h.bx
  intro k hk
  rcases (h5 k).1 hk with rfl | rfl | hk
  · exact h.lA
  · exact h.lD
  · exact (h2.lt k hk).1
theorem MkI.but {base text : Bs} {b tb : Nat} {w0 : World} {A D d : Nat} {C S : Nat → Prop} {W W' : World} (h : MkI base text b tb w0 A D d C W) (hb : But S W W') (hS : ∀ k, k < W.heap.size → S k → b ≤ k ∧ ¬ C k) : MkI base text b tb w0 A D d C W' := by
  obtain ⟨v, l, h1, h2, h3, h4, h5⟩ := h.bx
  have hn : ∀ k, C k → k < W.heap.size → ¬ S k := fun k hk hl hs => (hS k hl hs).2 hk
  have ltb : tb < W.heap.size := by have := lt_heap h1; have := h.lA; have := h.tbl; omega
  exact ⟨h.le, ⟨v, l, (hb.block A (lt_heap h1) (hn A ((h5 A).2 (.inl rfl)) (lt_heap h1))).trans h1, row_but h2 hb (fun g hg => hn g ((h5 g).2 (.inr (.inr hg))) (h2.lt g hg).2), h3, h4, h5⟩,
    (hb.block D (lt_heap h.dn) (hn D ((h5 D).2 (.inr (.inl rfl))) (lt_heap h.dn))).trans h.dn, h.nAD, h.lA, h.lD, h.tbl, (hb.cell (p := ⟨tb, 0, none⟩) ltb (fun hs => by have := (hS tb ltb hs).1; have := h.tbl; omega)).trans h.tx,
    h.bl.trans ⟨hb.os, hb.tape, hb.output, hb.size, fun k hk => by
      have hkl : k < W.heap.size := by have := lt_heap h1; have := h.lA; omega
      exact hb.block k hkl (fun hs => by have := (hS k hkl hs).1; omega)⟩⟩
/-- A place that is found: what is made, and what is left. -/
theorem make_next {base text l : Bs} {d k : Nat} (h : l ++ mkS base [] (text.drop d) = makeL base text) (hs : Skip base text d k) (h5 : 5 ≤ (lng base (text.drop k)).2) :
    ((l ++ ins ((text.take k).drop d)) ++ (128 :: (putL (lng base (text.drop k)).1 ++ putL (lng base (text.drop k)).2))) ++ mkS base [] (text.drop (k + (lng base (text.drop k)).2)) = makeL base text := by
  rw [← h, hs.mkS, mkS_hi h5, List.drop_drop]
  simp only [List.append_assoc]
theorem make_end {base text l : Bs} {d k : Nat} (h : l ++ mkS base [] (text.drop d) = makeL base text) (hs : Skip base text d k) (h5 : text.length < k + 5) : l ++ ins (text.drop d) = makeL base text := by
  rw [← h, hs.mkS, mkS_few _ _ _ (by rw [List.length_drop]; omega)]
  congr 2
  rw [← List.drop_append_of_le_length (by rw [List.length_take]; have := hs.1; have := hs.2.1; omega), List.take_append_drop]
theorem makeL_len (base text : Bs) (hb : base.length ≤ 10000) (ht : text.length ≤ 10000) : (makeL base text).length ≤ 10000000 := by
  have h1 := putL_len6 (n := base.length) (by omega)
  have h2 := putL_len6 (n := text.length) (by omega)
  have h3 := mkS_len (base := base) (by omega) text.length [] text (Nat.le_refl _) (by omega)
  unfold makeL
  rw [List.length_append, List.length_append]
  simp only [List.length_nil] at h3
  omega

set_option maxHeartbeats 8000000 in
set_option maxRecDepth 100000 in
theorem Make_any (base text : Bs) (hb : base.length ≤ 10000) (ht : text.length ≤ 10000) (w : World) : Calls Try.prog 12 #[SV base, SV text] w fun e w' => e = .returned (SV (makeL base text)) ∧ Below w.heap.size w w' := by
  have HP1 := Lib.hid (fun W => Put_fits base.length (by omega) W)
  have HP2 := Lib.hid (fun W => Put_fits text.length (by omega) W)
  have HQ : Hid ((putL base.length).length ≤ 6 ∧ (putL text.length).length ≤ 6) := Lib.hid ⟨putL_len6 (by omega), putL_len6 (by omega)⟩
  obtain ⟨w0, hw0⟩ : ∃ w0, w0 = w.alloc (.cells #[SV text] 9) := ⟨_, rfl⟩
  have HT : Hid (w0.cell? ⟨w.heap.size, 0, none⟩ = some (SV text)) := Lib.hid ((cell_of_row _ _ 0 _ _ _ (heap_alloc_at hw0 rfl)).trans rfl)
  have HZ0 : Hid (w0.heap.size = w.heap.size + 1) := Lib.hid (heap_alloc_sz hw0 rfl)
  have HB0 : Hid (Below w.heap.size w w0) := Lib.hid (by rw [hw0]; exact below_new _ _)
  have HW0 := Lib.hid hw0
  clear hw0
  refine (callsIn_wide (n := 5)).1 (callsIn_of_wp_marks Try.func12 rfl trivial ?_ rfl)
  refine wpIn_wide.2 ?_
  simp only [Try.ntmps12, List.size_toArray, List.length_cons, List.length_nil, Nat.reduceAdd, Nat.reduceSub, Array.replicate_succ, Array.replicate_zero, List.push_toArray, List.append_toArray, List.nil_append, List.cons_append]
  go_upto_region 1 with fail
  change Code.wp Try.prog _ _ _ (w.alloc (.cells #[SV text] 9))
  rw [← HW0.out]
  clear HW0
  go_cut [5] from 8 to 15 (fun v5 wx => ∃ (A : Nat) (v : Value), v5 = .pointer (some ⟨A, 0, none⟩) ∧ Hid (wx.heap[A]? = some (.cells #[v] 29 (0, 0)) ∧ Ow wx w0.heap.size v (putL base.length ++ putL text.length) ∧ (∀ g, v.ownBlock = some g → g ≠ A) ∧ w0.heap.size ≤ A ∧ Below w0.heap.size w0 wx))
  case first =>
    refine (wpIn_wide (n := 0)).1 (wpIn_mono (Q := Exit.then _ (fun _ _ _ => False)) (wpIn_wide.2 ?_) (fun e a w h => by cases e <;> first | exact h | exact h.elim))
    refine held_start (fun W : World => Below w0.heap.size w0 W) (by kernel_rfl) ?_
    have LD : Below w0.heap.size w0 w0.drew := (Below.refl _ _).drew
    refine held_take 0 (SV base) rfl (by kernel_rfl) (by kernel_rfl) (by kernel_rfl) (fun _ _ _ h => h) (by kernel_rfl) (fun W hW => by kernel_rfl) LD ?_
    refine held_take 1 (.int .i64 (base.length : Int)) rfl (by kernel_rfl) (by kernel_rfl) (by kernel_rfl) (fun _ _ _ h => h) (by kernel_rfl) (fun W hW => y_len (sv := SV base) rfl (by kernel_rfl) (len_SV W base _)) LD ?_
    refine held_take 3 (SV text) rfl (by kernel_rfl) (by kernel_rfl) (by kernel_rfl) (fun _ _ _ h => h) (by kernel_rfl) (fun W hW => y_load (sv := .pointer (some ⟨w.heap.size, 0, none⟩)) rfl (by kernel_rfl) (l_str _ _ _ _ (cell_to HT.out hW))) LD ?_
    refine held_take 4 (.int .i64 (text.length : Int)) rfl (by kernel_rfl) (by kernel_rfl) (by kernel_rfl) (fun _ _ _ h => h) (by kernel_rfl) (fun W hW => y_len (sv := SV text) rfl (by kernel_rfl) (len_SV W text _)) LD ?_
    refine held_two (i := 2) (j := 8) (by kernel_rfl) ?_ ?_
    · skip
      refine held_call 19 #[.int .i64 (base.length : Int)] rfl (by kernel_rfl) (by kernel_rfl) ?_
      refine (HP1.out w0.drew).mono ?_
      rintro e wx1 ⟨Ax1, cx1, rfl, rx1, bx1⟩
      have Lx1 : Below w0.heap.size w0 wx1 := LD.trans (bx1.mono LD.size)
      refine ⟨_, rfl, Lx1, ?_⟩
      refine held_two (i := 5) (j := 8) (by kernel_rfl) ?_ ?_
      · skip
        refine held_call 19 #[.int .i64 (text.length : Int)] rfl (by kernel_rfl) (by kernel_rfl) ?_
        refine (HP2.out wx1).mono ?_
        rintro e wx2 ⟨Ax2, cx2, rfl, rx2, bx2⟩
        have Lx2 : Below w0.heap.size w0 wx2 := Lx1.trans (bx2.mono Lx1.size)
        have rp1x2 := rx1.below bx2 (Nat.le_refl _)
        refine ⟨_, rfl, Lx2, ?_⟩
        refine held_two (i := 6) (j := 8) (by kernel_rfl) ?_ ?_
        · skip
          obtain ⟨wx3, hwx3⟩ : ∃ z, z = World.alloc wx2 (.cells #[.slice Ax1 (putL base.length).length cx1, .slice Ax2 (putL text.length).length cx2] 29) := ⟨_, rfl⟩
          have bx3 : Below (World.heap wx2).size wx2 wx3 := by rw [hwx3]; exact below_new _ _
          have Lx3 : Below w0.heap.size w0 wx3 := Lx2.trans (bx3.mono Lx2.size)
          have rp1x3 := rp1x2.below bx3 (Nat.le_refl _)
          have rp2x3 := rx2.below bx3 (Nat.le_refl _)
          have kGx3 : wx3.heap[(World.heap wx2).size]? = some (.cells #[.slice Ax1 (putL base.length).length cx1, .slice Ax2 (putL text.length).length cx2] 29 (0, 0)) := heap_alloc_at hwx3 rfl
          have g0x3 : wx3.cell? ⟨(World.heap wx2).size, 0, none⟩ = some (.slice Ax1 (putL base.length).length cx1) := (cell_of_row _ _ 0 _ _ _ kGx3).trans rfl
          have g1x3 : wx3.cell? ⟨(World.heap wx2).size, 1, none⟩ = some (.slice Ax2 (putL text.length).length cx2) := (cell_of_row _ _ 1 _ _ _ kGx3).trans rfl
          have glx3 := lt_heap kGx3
          refine held_op (.slice (some ⟨(World.heap wx2).size, 0, none⟩) 2 2) wx3 rfl (by kernel_rfl) (y_bs2 (xv := .slice Ax1 (putL base.length).length cx1) (yv := .slice Ax2 (putL text.length).length cx2) rfl (by kernel_rfl) (by kernel_rfl) (by rw [hwx3]; exact bs2_29 _ _ _ _ _ _ _)) Lx3 ?_
          clear hwx3
          refine held_two (i := 7) (j := 8) (by kernel_rfl) ?_ ?_
          · skip
            refine held_call 18 #[.slice (some ⟨(World.heap wx2).size, 0, none⟩) 2 2] rfl (by kernel_rfl) (by kernel_rfl) ?_
            refine (concat_any glx3 g0x3 g1x3 rp1x3 rp2x3 rfl rfl (putL_pos _) (by have := HQ.out; omega) (by have := HQ.out; omega)).mono ?_
            rintro e wx4 ⟨vx4, rfl, ox4, bx4⟩
            obtain ⟨Avx4, cvx4, rfl, _⟩ := ox4.rb.shape
            have Lx4 : Below w0.heap.size w0 wx4 := Lx3.trans (bx4.mono Lx3.size)
            have rp1x4 := rp1x3.below bx4 (Nat.le_refl _)
            have rp2x4 := rp2x3.below bx4 (Nat.le_refl _)
            have g0x4 := (bx4.cell (p := ⟨(World.heap wx2).size, 0, none⟩) glx3).trans g0x3
            have g1x4 := (bx4.cell (p := ⟨(World.heap wx2).size, 1, none⟩) glx3).trans g1x3
            have glx4 := Nat.lt_of_lt_of_le glx3 bx4.size
            refine ⟨_, rfl, Lx4, ?_⟩
            refine held_one (i := 8) (by kernel_rfl) ?_
            obtain ⟨wx5, hwx5⟩ : ∃ z, z = World.alloc wx4 (.cells #[.slice none 0 0] 29) := ⟨_, rfl⟩
            have bx5 : Below (World.heap wx4).size wx4 wx5 := by rw [hwx5]; exact below_new _ _
            have Lx5 : Below w0.heap.size w0 wx5 := Lx4.trans (bx5.mono Lx4.size)
            have rp1x5 := rp1x4.below bx5 (Nat.le_refl _)
            have rp2x5 := rp2x4.below bx5 (Nat.le_refl _)
            have g0x5 := (bx5.cell (p := ⟨(World.heap wx2).size, 0, none⟩) glx4).trans g0x4
            have g1x5 := (bx5.cell (p := ⟨(World.heap wx2).size, 1, none⟩) glx4).trans g1x4
            have glx5 := Nat.lt_of_lt_of_le glx4 bx5.size
            have ox5 := ox4.below bx5 (Nat.le_refl _)
            have kAx5 : wx5.heap[(World.heap wx4).size]? = some (.cells #[.slice none 0 0] 29 (0, 0)) := heap_alloc_at hwx5 rfl
            have nAx5 : ∀ g, ((Value.slice Avx4 (putL base.length ++ putL text.length).length cvx4)).ownBlock = some g → g ≠ (World.heap wx4).size := fun g hg e => by have := (ox4.lt g hg).2; omega
            refine held_op (.pointer (some ⟨(World.heap wx4).size, 0, none⟩)) wx5 rfl (by kernel_rfl) (y_alloc rfl (by rw [hwx5]; exact alloc_29 _)) Lx5 ?_
            clear hwx5
            refine held_one (i := 9) (by kernel_rfl) ?_
            have hfin := mk_store kAx5 ox5 Lx3.size nAx5 Lx4.size Lx5
            refine held_store (wx5.setCell ⟨(World.heap wx4).size, 0, none⟩ (Value.slice Avx4 (putL base.length ++ putL text.length).length cvx4)) rfl (by kernel_rfl) (y_store (sv := .pointer (some ⟨(World.heap wx4).size, 0, none⟩)) (xv := (Value.slice Avx4 (putL base.length ++ putL text.length).length cvx4)) rfl (by kernel_rfl) (by kernel_rfl) (s_29 _ _ _ _ _ _ _ ((cell_of_row _ _ 0 _ _ _ kAx5).trans rfl) (frozen_of kAx5))) hfin.2.2.2.2 ?_
            refine held_done _ (by kernel_rfl) ?_
            generalize World.setCell wx5 ⟨(World.heap wx4).size, 0, none⟩ (Value.slice Avx4 (putL base.length ++ putL text.length).length cvx4) = wf at hfin ⊢
            have HFin := Lib.hid hfin
            clear hfin
            go_simp
            go_wp2
            go_meet
            case rel => exact ⟨_, _, rfl, HFin⟩
          · skip
            obtain ⟨wx6, hwx6⟩ : ∃ z, z = World.alloc wx3 (.cells #[.slice none 0 0] 29) := ⟨_, rfl⟩
            have bx6 : Below (World.heap wx3).size wx3 wx6 := by rw [hwx6]; exact below_new _ _
            have Lx6 : Below w0.heap.size w0 wx6 := Lx3.trans (bx6.mono Lx3.size)
            have rp1x6 := rp1x3.below bx6 (Nat.le_refl _)
            have rp2x6 := rp2x3.below bx6 (Nat.le_refl _)
            have g0x6 := (bx6.cell (p := ⟨(World.heap wx2).size, 0, none⟩) glx3).trans g0x3
            have g1x6 := (bx6.cell (p := ⟨(World.heap wx2).size, 1, none⟩) glx3).trans g1x3
            have glx6 := Nat.lt_of_lt_of_le glx3 bx6.size
            have kAx6 : wx6.heap[(World.heap wx3).size]? = some (.cells #[.slice none 0 0] 29 (0, 0)) := heap_alloc_at hwx6 rfl
            refine held_op (.pointer (some ⟨(World.heap wx3).size, 0, none⟩)) wx6 rfl (by kernel_rfl) (y_alloc rfl (by rw [hwx6]; exact alloc_29 _)) Lx6 ?_
            clear hwx6
            refine held_one (i := 7) (by kernel_rfl) ?_
            refine held_call 18 #[.slice (some ⟨(World.heap wx2).size, 0, none⟩) 2 2] rfl (by kernel_rfl) (by kernel_rfl) ?_
            refine (concat_any glx6 g0x6 g1x6 rp1x6 rp2x6 rfl rfl (putL_pos _) (by have := HQ.out; omega) (by have := HQ.out; omega)).mono ?_
            rintro e wx7 ⟨vx7, rfl, ox7, bx7⟩
            obtain ⟨Avx7, cvx7, rfl, _⟩ := ox7.rb.shape
            have Lx7 : Below w0.heap.size w0 wx7 := Lx6.trans (bx7.mono Lx6.size)
            have rp1x7 := rp1x6.below bx7 (Nat.le_refl _)
            have rp2x7 := rp2x6.below bx7 (Nat.le_refl _)
            have kAx7 := (bx7.block _ (lt_heap kAx6)).trans kAx6
            have g0x7 := (bx7.cell (p := ⟨(World.heap wx2).size, 0, none⟩) glx6).trans g0x6
            have g1x7 := (bx7.cell (p := ⟨(World.heap wx2).size, 1, none⟩) glx6).trans g1x6
            have glx7 := Nat.lt_of_lt_of_le glx6 bx7.size
            have nAx7 : ∀ g, (Value.slice Avx7 (putL base.length ++ putL text.length).length cvx7).ownBlock = some g → g ≠ (World.heap wx3).size := fun g hg e => by have h1 := (ox7.lt g hg).1; have h2 := lt_heap kAx6; omega
            refine ⟨_, rfl, Lx7, ?_⟩
            refine held_one (i := 9) (by kernel_rfl) ?_
            have hfin := mk_store kAx7 ox7 Lx6.size nAx7 Lx3.size Lx7
            refine held_store (wx7.setCell ⟨(World.heap wx3).size, 0, none⟩ (Value.slice Avx7 (putL base.length ++ putL text.length).length cvx7)) rfl (by kernel_rfl) (y_store (sv := .pointer (some ⟨(World.heap wx3).size, 0, none⟩)) (xv := (Value.slice Avx7 (putL base.length ++ putL text.length).length cvx7)) rfl (by kernel_rfl) (by kernel_rfl) (s_29 _ _ _ _ _ _ _ ((cell_of_row _ _ 0 _ _ _ kAx7).trans rfl) (frozen_of kAx7))) hfin.2.2.2.2 ?_
            refine held_done _ (by kernel_rfl) ?_
            generalize World.setCell wx7 ⟨(World.heap wx3).size, 0, none⟩ (Value.slice Avx7 (putL base.length ++ putL text.length).length cvx7) = wf at hfin ⊢
            have HFin := Lib.hid hfin
            clear hfin
            go_simp
            go_wp2
            go_meet
            case rel => exact ⟨_, _, rfl, HFin⟩
        · skip
          obtain ⟨wx8, hwx8⟩ : ∃ z, z = World.alloc wx2 (.cells #[.slice none 0 0] 29) := ⟨_, rfl⟩
          have bx8 : Below (World.heap wx2).size wx2 wx8 := by rw [hwx8]; exact below_new _ _
          have Lx8 : Below w0.heap.size w0 wx8 := Lx2.trans (bx8.mono Lx2.size)
          have rp1x8 := rp1x2.below bx8 (Nat.le_refl _)
          have rp2x8 := rx2.below bx8 (Nat.le_refl _)
          have kAx8 : wx8.heap[(World.heap wx2).size]? = some (.cells #[.slice none 0 0] 29 (0, 0)) := heap_alloc_at hwx8 rfl
          refine held_op (.pointer (some ⟨(World.heap wx2).size, 0, none⟩)) wx8 rfl (by kernel_rfl) (y_alloc rfl (by rw [hwx8]; exact alloc_29 _)) Lx8 ?_
          clear hwx8
          refine held_one (i := 6) (by kernel_rfl) ?_
          obtain ⟨wx9, hwx9⟩ : ∃ z, z = World.alloc wx8 (.cells #[.slice Ax1 (putL base.length).length cx1, .slice Ax2 (putL text.length).length cx2] 29) := ⟨_, rfl⟩
          have bx9 : Below (World.heap wx8).size wx8 wx9 := by rw [hwx9]; exact below_new _ _
          have Lx9 : Below w0.heap.size w0 wx9 := Lx8.trans (bx9.mono Lx8.size)
          have rp1x9 := rp1x8.below bx9 (Nat.le_refl _)
          have rp2x9 := rp2x8.below bx9 (Nat.le_refl _)
          have kAx9 := (bx9.block _ (lt_heap kAx8)).trans kAx8
          have kGx9 : wx9.heap[(World.heap wx8).size]? = some (.cells #[.slice Ax1 (putL base.length).length cx1, .slice Ax2 (putL text.length).length cx2] 29 (0, 0)) := heap_alloc_at hwx9 rfl
          have g0x9 : wx9.cell? ⟨(World.heap wx8).size, 0, none⟩ = some (.slice Ax1 (putL base.length).length cx1) := (cell_of_row _ _ 0 _ _ _ kGx9).trans rfl
          have g1x9 : wx9.cell? ⟨(World.heap wx8).size, 1, none⟩ = some (.slice Ax2 (putL text.length).length cx2) := (cell_of_row _ _ 1 _ _ _ kGx9).trans rfl
          have glx9 := lt_heap kGx9
          refine held_op (.slice (some ⟨(World.heap wx8).size, 0, none⟩) 2 2) wx9 rfl (by kernel_rfl) (y_bs2 (xv := .slice Ax1 (putL base.length).length cx1) (yv := .slice Ax2 (putL text.length).length cx2) rfl (by kernel_rfl) (by kernel_rfl) (by rw [hwx9]; exact bs2_29 _ _ _ _ _ _ _)) Lx9 ?_
          clear hwx9
          refine held_one (i := 7) (by kernel_rfl) ?_
          refine held_call 18 #[.slice (some ⟨(World.heap wx8).size, 0, none⟩) 2 2] rfl (by kernel_rfl) (by kernel_rfl) ?_
          refine (concat_any glx9 g0x9 g1x9 rp1x9 rp2x9 rfl rfl (putL_pos _) (by have := HQ.out; omega) (by have := HQ.out; omega)).mono ?_
          rintro e wx10 ⟨vx10, rfl, ox10, bx10⟩
          obtain ⟨Avx10, cvx10, rfl, _⟩ := ox10.rb.shape
          have Lx10 : Below w0.heap.size w0 wx10 := Lx9.trans (bx10.mono Lx9.size)
          have rp1x10 := rp1x9.below bx10 (Nat.le_refl _)
          have rp2x10 := rp2x9.below bx10 (Nat.le_refl _)
          have kAx10 := (bx10.block _ (lt_heap kAx9)).trans kAx9
          have g0x10 := (bx10.cell (p := ⟨(World.heap wx8).size, 0, none⟩) glx9).trans g0x9
          have g1x10 := (bx10.cell (p := ⟨(World.heap wx8).size, 1, none⟩) glx9).trans g1x9
          have glx10 := Nat.lt_of_lt_of_le glx9 bx10.size
          have nAx10 : ∀ g, (Value.slice Avx10 (putL base.length ++ putL text.length).length cvx10).ownBlock = some g → g ≠ (World.heap wx2).size := fun g hg e => by have h1 := (ox10.lt g hg).1; have h2 := lt_heap kAx9; omega
          refine ⟨_, rfl, Lx10, ?_⟩
          refine held_one (i := 9) (by kernel_rfl) ?_
          have hfin := mk_store kAx10 ox10 Lx9.size nAx10 Lx2.size Lx10
          refine held_store (wx10.setCell ⟨(World.heap wx2).size, 0, none⟩ (Value.slice Avx10 (putL base.length ++ putL text.length).length cvx10)) rfl (by kernel_rfl) (y_store (sv := .pointer (some ⟨(World.heap wx2).size, 0, none⟩)) (xv := (Value.slice Avx10 (putL base.length ++ putL text.length).length cvx10)) rfl (by kernel_rfl) (by kernel_rfl) (s_29 _ _ _ _ _ _ _ ((cell_of_row _ _ 0 _ _ _ kAx10).trans rfl) (frozen_of kAx10))) hfin.2.2.2.2 ?_
          refine held_done _ (by kernel_rfl) ?_
          generalize World.setCell wx10 ⟨(World.heap wx2).size, 0, none⟩ (Value.slice Avx10 (putL base.length ++ putL text.length).length cvx10) = wf at hfin ⊢
          have HFin := Lib.hid hfin
          clear hfin
          go_simp
          go_wp2
          go_meet
          case rel => exact ⟨_, _, rfl, HFin⟩
      · skip
        obtain ⟨wx11, hwx11⟩ : ∃ z, z = World.alloc wx1 (.cells #[.slice none 0 0] 29) := ⟨_, rfl⟩
        have bx11 : Below (World.heap wx1).size wx1 wx11 := by rw [hwx11]; exact below_new _ _
        have Lx11 : Below w0.heap.size w0 wx11 := Lx1.trans (bx11.mono Lx1.size)
        have rp1x11 := rx1.below bx11 (Nat.le_refl _)
        have kAx11 : wx11.heap[(World.heap wx1).size]? = some (.cells #[.slice none 0 0] 29 (0, 0)) := heap_alloc_at hwx11 rfl
        refine held_op (.pointer (some ⟨(World.heap wx1).size, 0, none⟩)) wx11 rfl (by kernel_rfl) (y_alloc rfl (by rw [hwx11]; exact alloc_29 _)) Lx11 ?_
        clear hwx11
        refine held_one (i := 5) (by kernel_rfl) ?_
        refine held_call 19 #[.int .i64 (text.length : Int)] rfl (by kernel_rfl) (by kernel_rfl) ?_
        refine (HP2.out wx11).mono ?_
        rintro e wx12 ⟨Ax12, cx12, rfl, rx12, bx12⟩
        have Lx12 : Below w0.heap.size w0 wx12 := Lx11.trans (bx12.mono Lx11.size)
        have rp1x12 := rp1x11.below bx12 (Nat.le_refl _)
        have kAx12 := (bx12.block _ (lt_heap kAx11)).trans kAx11
        refine ⟨_, rfl, Lx12, ?_⟩
        refine held_one (i := 6) (by kernel_rfl) ?_
        obtain ⟨wx13, hwx13⟩ : ∃ z, z = World.alloc wx12 (.cells #[.slice Ax1 (putL base.length).length cx1, .slice Ax12 (putL text.length).length cx12] 29) := ⟨_, rfl⟩
        have bx13 : Below (World.heap wx12).size wx12 wx13 := by rw [hwx13]; exact below_new _ _
        have Lx13 : Below w0.heap.size w0 wx13 := Lx12.trans (bx13.mono Lx12.size)
        have rp1x13 := rp1x12.below bx13 (Nat.le_refl _)
        have rp2x13 := rx12.below bx13 (Nat.le_refl _)
        have kAx13 := (bx13.block _ (lt_heap kAx12)).trans kAx12
        have kGx13 : wx13.heap[(World.heap wx12).size]? = some (.cells #[.slice Ax1 (putL base.length).length cx1, .slice Ax12 (putL text.length).length cx12] 29 (0, 0)) := heap_alloc_at hwx13 rfl
        have g0x13 : wx13.cell? ⟨(World.heap wx12).size, 0, none⟩ = some (.slice Ax1 (putL base.length).length cx1) := (cell_of_row _ _ 0 _ _ _ kGx13).trans rfl
        have g1x13 : wx13.cell? ⟨(World.heap wx12).size, 1, none⟩ = some (.slice Ax12 (putL text.length).length cx12) := (cell_of_row _ _ 1 _ _ _ kGx13).trans rfl
        have glx13 := lt_heap kGx13
        refine held_op (.slice (some ⟨(World.heap wx12).size, 0, none⟩) 2 2) wx13 rfl (by kernel_rfl) (y_bs2 (xv := .slice Ax1 (putL base.length).length cx1) (yv := .slice Ax12 (putL text.length).length cx12) rfl (by kernel_rfl) (by kernel_rfl) (by rw [hwx13]; exact bs2_29 _ _ _ _ _ _ _)) Lx13 ?_
        clear hwx13
        refine held_one (i := 7) (by kernel_rfl) ?_
        refine held_call 18 #[.slice (some ⟨(World.heap wx12).size, 0, none⟩) 2 2] rfl (by kernel_rfl) (by kernel_rfl) ?_
        refine (concat_any glx13 g0x13 g1x13 rp1x13 rp2x13 rfl rfl (putL_pos _) (by have := HQ.out; omega) (by have := HQ.out; omega)).mono ?_
        rintro e wx14 ⟨vx14, rfl, ox14, bx14⟩
        obtain ⟨Avx14, cvx14, rfl, _⟩ := ox14.rb.shape
        have Lx14 : Below w0.heap.size w0 wx14 := Lx13.trans (bx14.mono Lx13.size)
        have rp1x14 := rp1x13.below bx14 (Nat.le_refl _)
        have rp2x14 := rp2x13.below bx14 (Nat.le_refl _)
        have kAx14 := (bx14.block _ (lt_heap kAx13)).trans kAx13
        have g0x14 := (bx14.cell (p := ⟨(World.heap wx12).size, 0, none⟩) glx13).trans g0x13
        have g1x14 := (bx14.cell (p := ⟨(World.heap wx12).size, 1, none⟩) glx13).trans g1x13
        have glx14 := Nat.lt_of_lt_of_le glx13 bx14.size
        have nAx14 : ∀ g, (Value.slice Avx14 (putL base.length ++ putL text.length).length cvx14).ownBlock = some g → g ≠ (World.heap wx1).size := fun g hg e => by have h1 := (ox14.lt g hg).1; have h2 := lt_heap kAx13; omega
        refine ⟨_, rfl, Lx14, ?_⟩
        refine held_one (i := 9) (by kernel_rfl) ?_
        have hfin := mk_store kAx14 ox14 Lx13.size nAx14 Lx1.size Lx14
        refine held_store (wx14.setCell ⟨(World.heap wx1).size, 0, none⟩ (Value.slice Avx14 (putL base.length ++ putL text.length).length cvx14)) rfl (by kernel_rfl) (y_store (sv := .pointer (some ⟨(World.heap wx1).size, 0, none⟩)) (xv := (Value.slice Avx14 (putL base.length ++ putL text.length).length cvx14)) rfl (by kernel_rfl) (by kernel_rfl) (s_29 _ _ _ _ _ _ _ ((cell_of_row _ _ 0 _ _ _ kAx14).trans rfl) (frozen_of kAx14))) hfin.2.2.2.2 ?_
        refine held_done _ (by kernel_rfl) ?_
        generalize World.setCell wx14 ⟨(World.heap wx1).size, 0, none⟩ (Value.slice Avx14 (putL base.length ++ putL text.length).length cvx14) = wf at hfin ⊢
        have HFin := Lib.hid hfin
        clear hfin
        go_simp
        go_wp2
        go_meet
        case rel => exact ⟨_, _, rfl, HFin⟩
    · skip
      obtain ⟨wx15, hwx15⟩ : ∃ z, z = World.alloc w0.drew (.cells #[.slice none 0 0] 29) := ⟨_, rfl⟩
      have bx15 : Below (World.heap w0.drew).size w0.drew wx15 := by rw [hwx15]; exact below_new _ _
      have Lx15 : Below w0.heap.size w0 wx15 := LD.trans (bx15.mono LD.size)
      have kAx15 : wx15.heap[(World.heap w0.drew).size]? = some (.cells #[.slice none 0 0] 29 (0, 0)) := heap_alloc_at hwx15 rfl
      refine held_op (.pointer (some ⟨(World.heap w0.drew).size, 0, none⟩)) wx15 rfl (by kernel_rfl) (y_alloc rfl (by rw [hwx15]; exact alloc_29 _)) Lx15 ?_
      clear hwx15
      refine held_one (i := 2) (by kernel_rfl) ?_
      refine held_call 19 #[.int .i64 (base.length : Int)] rfl (by kernel_rfl) (by kernel_rfl) ?_
      refine (HP1.out wx15).mono ?_
      rintro e wx16 ⟨Ax16, cx16, rfl, rx16, bx16⟩
      have Lx16 : Below w0.heap.size w0 wx16 := Lx15.trans (bx16.mono Lx15.size)
      have kAx16 := (bx16.block _ (lt_heap kAx15)).trans kAx15
      refine ⟨_, rfl, Lx16, ?_⟩
      refine held_one (i := 5) (by kernel_rfl) ?_
      refine held_call 19 #[.int .i64 (text.length : Int)] rfl (by kernel_rfl) (by kernel_rfl) ?_
      refine (HP2.out wx16).mono ?_
      rintro e wx17 ⟨Ax17, cx17, rfl, rx17, bx17⟩
      have Lx17 : Below w0.heap.size w0 wx17 := Lx16.trans (bx17.mono Lx16.size)
      have rp1x17 := rx16.below bx17 (Nat.le_refl _)
      have kAx17 := (bx17.block _ (lt_heap kAx16)).trans kAx16
      refine ⟨_, rfl, Lx17, ?_⟩
      refine held_one (i := 6) (by kernel_rfl) ?_
      obtain ⟨wx18, hwx18⟩ : ∃ z, z = World.alloc wx17 (.cells #[.slice Ax16 (putL base.length).length cx16, .slice Ax17 (putL text.length).length cx17] 29) := ⟨_, rfl⟩
      have bx18 : Below (World.heap wx17).size wx17 wx18 := by rw [hwx18]; exact below_new _ _
      have Lx18 : Below w0.heap.size w0 wx18 := Lx17.trans (bx18.mono Lx17.size)
      have rp1x18 := rp1x17.below bx18 (Nat.le_refl _)
      have rp2x18 := rx17.below bx18 (Nat.le_refl _)
      have kAx18 := (bx18.block _ (lt_heap kAx17)).trans kAx17
      have kGx18 : wx18.heap[(World.heap wx17).size]? = some (.cells #[.slice Ax16 (putL base.length).length cx16, .slice Ax17 (putL text.length).length cx17] 29 (0, 0)) := heap_alloc_at hwx18 rfl
      have g0x18 : wx18.cell? ⟨(World.heap wx17).size, 0, none⟩ = some (.slice Ax16 (putL base.length).length cx16) := (cell_of_row _ _ 0 _ _ _ kGx18).trans rfl
      have g1x18 : wx18.cell? ⟨(World.heap wx17).size, 1, none⟩ = some (.slice Ax17 (putL text.length).length cx17) := (cell_of_row _ _ 1 _ _ _ kGx18).trans rfl
      have glx18 := lt_heap kGx18
      refine held_op (.slice (some ⟨(World.heap wx17).size, 0, none⟩) 2 2) wx18 rfl (by kernel_rfl) (y_bs2 (xv := .slice Ax16 (putL base.length).length cx16) (yv := .slice Ax17 (putL text.length).length cx17) rfl (by kernel_rfl) (by kernel_rfl) (by rw [hwx18]; exact bs2_29 _ _ _ _ _ _ _)) Lx18 ?_
      clear hwx18
      refine held_one (i := 7) (by kernel_rfl) ?_
      refine held_call 18 #[.slice (some ⟨(World.heap wx17).size, 0, none⟩) 2 2] rfl (by kernel_rfl) (by kernel_rfl) ?_
      refine (concat_any glx18 g0x18 g1x18 rp1x18 rp2x18 rfl rfl (putL_pos _) (by have := HQ.out; omega) (by have := HQ.out; omega)).mono ?_
      rintro e wx19 ⟨vx19, rfl, ox19, bx19⟩
      obtain ⟨Avx19, cvx19, rfl, _⟩ := ox19.rb.shape
      have Lx19 : Below w0.heap.size w0 wx19 := Lx18.trans (bx19.mono Lx18.size)
      have rp1x19 := rp1x18.below bx19 (Nat.le_refl _)
      have rp2x19 := rp2x18.below bx19 (Nat.le_refl _)
      have kAx19 := (bx19.block _ (lt_heap kAx18)).trans kAx18
      have g0x19 := (bx19.cell (p := ⟨(World.heap wx17).size, 0, none⟩) glx18).trans g0x18
      have g1x19 := (bx19.cell (p := ⟨(World.heap wx17).size, 1, none⟩) glx18).trans g1x18
      have glx19 := Nat.lt_of_lt_of_le glx18 bx19.size
      have nAx19 : ∀ g, (Value.slice Avx19 (putL base.length ++ putL text.length).length cvx19).ownBlock = some g → g ≠ (World.heap w0.drew).size := fun g hg e => by have h1 := (ox19.lt g hg).1; have h2 := lt_heap kAx18; omega
      refine ⟨_, rfl, Lx19, ?_⟩
      refine held_one (i := 9) (by kernel_rfl) ?_
      have hfin := mk_store kAx19 ox19 Lx18.size nAx19 LD.size Lx19
      refine held_store (wx19.setCell ⟨(World.heap w0.drew).size, 0, none⟩ (Value.slice Avx19 (putL base.length ++ putL text.length).length cvx19)) rfl (by kernel_rfl) (y_store (sv := .pointer (some ⟨(World.heap w0.drew).size, 0, none⟩)) (xv := (Value.slice Avx19 (putL base.length ++ putL text.length).length cvx19)) rfl (by kernel_rfl) (by kernel_rfl) (s_29 _ _ _ _ _ _ _ ((cell_of_row _ _ 0 _ _ _ kAx19).trans rfl) (frozen_of kAx19))) hfin.2.2.2.2 ?_
      refine held_done _ (by kernel_rfl) ?_
      generalize World.setCell wx19 ⟨(World.heap w0.drew).size, 0, none⟩ (Value.slice Avx19 (putL base.length ++ putL text.length).length cvx19) = wf at hfin ⊢
      have HFin := Lib.hid hfin
      clear hfin
      go_simp
      go_wp2
      go_meet
      case rel => exact ⟨_, _, rfl, HFin⟩
  case rest =>
    obtain ⟨A, v, rfl, HI⟩ := hcut
    have hx : wc.cell? ⟨w.heap.size, 0, none⟩ = some (.string ⟨text.toArray⟩) := cell_to HT.out HI.out.2.2.2.2
    unfold SV
    go_upto_region 3 with fail
    obtain ⟨w2, hw2⟩ : ∃ w2, w2 = wc.alloc (.cells #[.int .i64 0] 3) := ⟨_, rfl⟩
    rw [← hw2]
    have hx2 : w2.cell? ⟨w.heap.size, 0, none⟩ = some (.string ⟨text.toArray⟩) := cell_to hx (by rw [hw2]; exact below_new _ _)
    have hAw : A < wc.heap.size := lt_heap HI.out.1
    have hD2 : w2.heap[wc.heap.size]? = some (.cells #[.int .i64 0] 3 (0, 0)) := heap_alloc_at hw2 rfl
    have hA2 : w2.heap[A]? = some (.cells #[v] 29 (0, 0)) := (heap_alloc_lo hw2 hAw).trans HI.out.1
    have b2 : Below wc.heap.size wc w2 := by rw [hw2]; exact below_new _ _
    have HM := matches_any base text w2
    unfold SV at HM
    have H0 : Hid (∀ w3, (w2.alloc (.cells #[.string ⟨base.toArray⟩] 9)).alloc (.cells #[.string ⟨text.toArray⟩] 9) = w3 → Below w2.heap.size w2 w3 ∧ w3.cell? ⟨w2.heap.size, 0, none⟩ = some (SV base) ∧ w3.cell? ⟨w2.heap.size + 1, 0, none⟩ = some (SV text) ∧ w3.heap.size = w2.heap.size + 2 ∧ (∀ k, (k = A ∨ k = wc.heap.size ∨ v.ownBlock = some k) → k < w2.heap.size) ∧ MkI base text w0.heap.size w.heap.size w0 A wc.heap.size 0 (fun k => k = A ∨ k = wc.heap.size ∨ v.ownBlock = some k) w3) := Lib.hid (by
      intro w3 hw3
      obtain ⟨wa, hwa⟩ : ∃ wa, wa = w2.alloc (.cells #[.string ⟨base.toArray⟩] 9) := ⟨_, rfl⟩
      rw [← hwa] at hw3
      have sa := heap_alloc_sz hwa rfl
      have ba : Below w2.heap.size w2 wa := by rw [hwa]; exact below_new _ _
      have bb : Below wa.heap.size wa w3 := by rw [← hw3]; exact below_new _ _
      have b23 : Below w2.heap.size w2 w3 := ba.trans (bb.mono ba.size)
      have ka : wa.heap[w2.heap.size]? = some _ := heap_alloc_at hwa rfl
      have kb : w3.heap[wa.heap.size]? = some _ := heap_alloc_at hw3.symm rfl
      have ow := HI.out.2.1.below (b2.trans (b23.mono b2.size)) (Nat.le_refl _)
      have hl : ∀ k, (k = A ∨ k = wc.heap.size ∨ v.ownBlock = some k) → k < w2.heap.size := by
        rintro k (rfl | rfl | hk)
        · exact lt_heap hA2
        · exact lt_heap hD2
        · have := (HI.out.2.1.lt k hk).2; have := b2.size; omega
      refine ⟨b23, (cell_of_row _ _ 0 _ _ _ ((bb.block _ (lt_heap ka)).trans ka)).trans rfl, by rw [← sa]; exact (cell_of_row _ _ 0 _ _ _ kb).trans rfl, by rw [heap_alloc_sz hw3.symm rfl, sa], hl, ?_⟩
      refine ⟨Nat.zero_le _, ⟨v, _, (b23.block _ (lt_heap hA2)).trans hA2, ow, ?_, fun g hg => ⟨HI.out.2.2.1 g hg, fun e => by have := (HI.out.2.1.lt g hg).2; omega⟩, fun k => Iff.rfl⟩, (b23.block _ (lt_heap hD2)).trans hD2, by omega, HI.out.2.2.2.1, by have := HI.out.2.2.2.2.size; omega, by rw [HZ0.out]; omega, cell_to hx2 b23, HI.out.2.2.2.2.trans ((b2.trans (b23.mono b2.size)).mono HI.out.2.2.2.2.size)⟩
      rw [List.drop_zero]; rfl)
    clear hx hA2 hD2 b2 hAw hw2
    go_wp2_with fail
    refine HM.mono ?_
    intro e w3 hh
    have HF := Lib.hid (H0.out w3 hh.2)
    rw [hh.1]
    clear hh e HM H0 hx2
    go_wp2_with fail
    refine range_gen (Step := MStep base text) (End := MEnd base text) (s0 := 0) (C0 := fun k => k = A ∨ k = wc.heap.size ∨ v.ownBlock = some k) rfl (enters_of Try.func36 (by kernel_rfl) rfl) ?hps ?hit (fun d C W => MkI base text w0.heap.size w.heap.size w0 A wc.heap.size d C W) (fun _ _ => False) ?hst (fun _ _ _ _ _ h _ _ => h) (fun d C W h => h.lt) HF.out.2.2.2.2.2 ?round ?done (fun _ _ _ _ _ h _ => h.elim)
    case hps =>
      rintro d vs d' W ⟨k, _, _, rfl, _⟩
      rfl
    case hit =>
      obtain ⟨f1, f2, f3, f4, f5, f6⟩ := HF.out
      exact matches_iter (by omega) (by omega) f2 f3 (by omega) (by omega) (fun h => by have := f5 _ h; omega) (fun h => by have := f5 _ h; omega)
    case hst =>
      intro d C W W' h hbt
      refine h.but hbt fun k _ hk => ⟨?_, hk.2⟩
      have := HF.out.2.2.2.2.2.bl.size
      omega
    case done =>
      rintro De d C W hDe hCD ⟨k, hsk, hk5⟩ hI hK
      obtain ⟨v1, l1, kA, ow, hmk, hne, hC⟩ := hI.bx
      obtain ⟨Av, cv, rfl, _⟩ := ow.rb.shape
      obtain ⟨v1, hv1⟩ : ∃ x, x = Value.slice Av l1.length cv := ⟨_, rfl⟩
      rw [← hv1] at kA ow hne hC
      obtain ⟨pc, hpc⟩ : ∃ x, x = text.drop d := ⟨_, rfl⟩
      have hend := make_end hmk hsk hk5
      rw [← hpc] at hend
      have hlen : l1.length + (ins pc).length ≤ 10000000 := by
        have h1 := congrArg List.length hend
        have h2 := makeL_len base text hb ht
        simp only [List.length_append] at h1
        omega
      obtain ⟨bt, hbt⟩ : ∃ x, x = w.heap.size := ⟨_, rfl⟩
      obtain ⟨D, hD⟩ : ∃ x, x = wc.heap.size := ⟨_, rfl⟩
      rw [← hbt, ← hD] at hI
      rw [← hD] at hne hC
      rw [← hbt, ← hD]
      have ltA := lt_heap kA
      have ltb : bt < W.heap.size := by have := hI.lA; have := hI.tbl; omega
      have hPI := putInserts_any (w := W.drew) (B := w0.heap.size) (v := v1) (l := l1) ow (by have := hI.lA; show _ ≤ W.heap.size; omega) pc (by omega)
      unfold SV at hPI
      have hS0 : W.drew.cell? ⟨bt, 0, none⟩ = some (.string ⟨text.toArray⟩) ∧ W.drew.cell? ⟨D, 0, none⟩ = some (.int .i64 (d : Int)) := ⟨hI.tx, (cell_of_row W _ 0 _ _ _ hI.dn).trans rfl⟩
      have hrd : W.drew.cell? ⟨A, 0, none⟩ = some (.slice Av l1.length cv) := (cell_of_row W _ 0 _ _ _ kA).trans (by rw [hv1]; rfl)
      go_upto_region 8 with fail
      refine (wpIn_wide (n := 0)).1 (wpIn_mono (Q := Exit.then _ (fun _ _ _ => False)) (wpIn_wide.2 ?_) (fun e a w h => by cases e <;> first | exact h | exact h.elim))
      refine held_start (fun W' : World => W'.cell? ⟨bt, 0, none⟩ = some (.string ⟨text.toArray⟩) ∧ W'.cell? ⟨D, 0, none⟩ = some (.int .i64 (d : Int))) (by kernel_rfl) ?_
      refine held_take 1 (.string ⟨text.toArray⟩) rfl (by kernel_rfl) (by kernel_rfl) (by kernel_rfl) (fun _ _ _ h => h) (by kernel_rfl) (fun W' hW => y_load (sv := .pointer (some ⟨bt, 0, none⟩)) rfl (by kernel_rfl) (l_str _ _ _ text hW.1)) hS0 ?_
      refine held_take 2 (.int .i64 (d : Int)) rfl (by kernel_rfl) (by kernel_rfl) (by kernel_rfl) (fun _ _ _ h => h) (by kernel_rfl) (fun W' hW => y_load (sv := .pointer (some ⟨D, 0, none⟩)) rfl (by kernel_rfl) (l_int _ _ _ _ hW.2)) hS0 ?_
      refine held_take 3 (.string ⟨pc.toArray⟩) rfl (by kernel_rfl) (by kernel_rfl) (by kernel_rfl) (fun _ _ _ h => h) (by kernel_rfl) (fun W' hW => y_slice (xv := .string ⟨text.toArray⟩) (lv := some (.int .i64 (d : Int))) (hv := none) (mv := none) rfl (by kernel_rfl) (by kernel_rfl) (by kernel_rfl) (by kernel_rfl) (cut_from W' text pc d hI.le (by rw [extract_S, hpc, List.take_length]))) hS0 ?_
      refine held_one (i := 0) (by kernel_rfl) ?_
      refine held_op (.slice Av l1.length cv) _ rfl (by kernel_rfl) (y_load (sv := .pointer (some ⟨A, 0, none⟩)) rfl (by kernel_rfl) (l_29 _ _ _ _ _ _ hrd)) hS0 ?_
      rw [← hv1]
      refine held_one (i := 4) (by kernel_rfl) ?_
      refine held_call 21 #[v1, .string ⟨pc.toArray⟩] rfl (by kernel_rfl) (by kernel_rfl) ?_
      refine hPI.mono ?_
      rintro e W6 ⟨v6, rfl, o6, a6⟩
      have b6 : But (fun g => v1.ownBlock = some g) W W6 := ⟨a6.1.os, a6.1.tape, a6.1.output, a6.1.size, a6.1.block⟩
      have kD6 : W6.heap[D]? = some (.cells #[.int .i64 (d : Int)] 3 (0, 0)) := (b6.block D (lt_heap hI.dn) (fun h => (hne D h).2 rfl)).trans hI.dn
      have t6 : W6.cell? ⟨bt, 0, none⟩ = some (.string ⟨text.toArray⟩) := (b6.cell (p := ⟨bt, 0, none⟩) ltb (fun (h : v1.ownBlock = some bt) => by have := hI.lo bt ((hC bt).2 (.inr (.inr h))); have := hI.tbl; omega)).trans hI.tx
      have S6 : W6.cell? ⟨bt, 0, none⟩ = some (.string ⟨text.toArray⟩) ∧ W6.cell? ⟨D, 0, none⟩ = some (.int .i64 (d : Int)) := ⟨t6, (cell_of_row W6 _ 0 _ _ _ kD6).trans rfl⟩
      have hcv := o6.rb.conv
      rw [hend] at hcv
      have hDW : W6.heap[De]? = some (.deferred (some [])) := (b6.block De (lt_heap hK) (fun h => by
        rcases ow.2 with ⟨e1, _⟩ | ⟨g, cap, cur, e1, _, hg, _⟩
        · rw [e1] at h; cases h
        · rw [e1] at h; simp [Value.ownBlock] at h; rw [h, hK] at hg; cases hg)).trans hK
      have hBl : Below w.heap.size w (W6.putObj De (.deferred none)) := by
        have h1 : Below w0.heap.size w0 W6 := hI.bl.trans (b6.below (fun g _ h => hI.lo g ((hC g).2 (.inr (.inr h)))) (by have := hI.lA; omega))
        have h2 : Below w0.heap.size w0 (W6.putObj De (.deferred none)) := h1.trans ⟨rfl, rfl, rfl, by simp, fun g hg => World.putObj_heap_other (by have := HF.out.2.2.2.2.2.bl.size; omega)⟩
        exact HB0.out.trans (h2.mono HB0.out.size)
      have HDW := Lib.hid hDW; have HBl := Lib.hid hBl
      refine ⟨_, rfl, S6, ?_⟩
      refine held_one (i := 5) (by kernel_rfl) ?_
      refine held_op (.string ⟨(makeL base text).toArray⟩) _ rfl (by kernel_rfl) (y_conv' (x := v6) rfl (by kernel_rfl) hcv) S6 ?_
      refine held_take 6 (.string ⟨(makeL base text).toArray⟩) rfl (by kernel_rfl) (by kernel_rfl) (by kernel_rfl) (fun _ _ _ h => h) (by kernel_rfl) (fun W' hW => by kernel_rfl) S6 ?_
      refine held_done _ (by kernel_rfl) ?_
      clear hPI a6 b6 kD6 t6 S6 hcv hDW hBl o6 hrd hS0 hC hne hend hlen ltA ltb kA ow hmk hI hv1 hpc hbt hD hK hCD hDe hsk hk5
      go_simp
      go_wp2_with fail
      refine ⟨by simp, .inl ⟨_, _, rfl, run_takeDeferred HDW.out, ?_⟩⟩
      exact ⟨.string ⟨(makeL base text).toArray⟩, by simp [results, Try.results12, go_sem], rfl, HBl.out⟩
    case round =>
      rintro l d C vs d' W hI ⟨k, hsk, h5, rfl, rfl⟩ hl1 hl2 hCl -
      obtain ⟨f, hf⟩ : ∃ f, f = (lng base (text.drop k)).1 := ⟨_, rfl⟩
      obtain ⟨n, hn⟩ : ∃ n, n = (lng base (text.drop k)).2 := ⟨_, rfl⟩
      have HIi := Lib.hid hI; have HSk := Lib.hid hsk; have HfE := Lib.hid hf; have HnE := Lib.hid hn; have H5 := Lib.hid h5
      rw [← hf, ← hn]
      clear hI hsk hf hn h5
      gi_wp2
      obtain ⟨Wa, hWa⟩ : ∃ z, z = W.alloc (.cells #[.int .i64 (k : Int), .int .i64 (f : Int), .int .i64 (n : Int)] 46) := ⟨_, rfl⟩
      rw [← hWa]
      have hba : Below W.heap.size W Wa := by rw [hWa]; exact below_new _ _
      have kM : Wa.heap[W.heap.size]? = some (.cells #[.int .i64 (k : Int), .int .i64 (f : Int), .int .i64 (n : Int)] 46 (0, 0)) := heap_alloc_at hWa rfl
      have hz3 := HIi.out.bl.size
      have hz4 := HF.out.2.2.2.2.2.bl.size
      clear hWa
      refine ⟨hba, fun Wb hbb => ?_⟩
      obtain ⟨M, hM⟩ : ∃ M, M = W.heap.size := ⟨_, rfl⟩
      rw [← hM] at kM ⊢
      have hbab : But (fun k => k = l) W Wb := (But.of_new hba).trans hbb
      have hIb : MkI base text w0.heap.size w.heap.size w0 A wc.heap.size d C Wb := HIi.out.but hbab fun k hk e => ⟨by omega, by rw [e]; exact hCl⟩
      have kMb : Wb.heap[M]? = some (.cells #[.int .i64 (k : Int), .int .i64 (f : Int), .int .i64 (n : Int)] 46 (0, 0)) := (hbb.block M (lt_heap kM) (by omega)).trans kM
      have hCM : ∀ k, C k → k < M := fun k hk => by rw [hM]; exact HIi.out.lt k hk
      obtain ⟨v1, l1, kA, ow, hmk, hne, hC⟩ := hIb.bx
      obtain ⟨Av, cv, rfl, _⟩ := ow.rb.shape
      obtain ⟨v1, hv1⟩ : ∃ x, x = Value.slice Av l1.length cv := ⟨_, rfl⟩
      rw [← hv1] at kA ow hne hC
      obtain ⟨pc, hpc⟩ : ∃ x, x = (text.take k).drop d := ⟨_, rfl⟩
      obtain ⟨bt, hbt⟩ : ∃ x, x = w.heap.size := ⟨_, rfl⟩
      obtain ⟨D, hD⟩ : ∃ x, x = wc.heap.size := ⟨_, rfl⟩
      rw [← hbt, ← hD] at hIb
      rw [← hD] at hne hC
      have hnext := make_next hmk HSk.out H5.out
      rw [← hpc, ← HfE.out, ← HnE.out] at hnext
      have hlen : l1.length + (ins pc).length ≤ 10000000 := by
        have h1 := congrArg List.length hnext
        have h2 := makeL_len base text hb ht
        simp only [List.length_append] at h1
        omega
      have hfn : f ≤ 10000 ∧ n ≤ 10000 ∧ k + n ≤ text.length := by
        have h1 := lng_in base (text.drop k)
        have h2 := lng_le base (text.drop k)
        rw [List.length_drop] at h2
        have h3 := HfE.out; have h4 := HnE.out; have h5 := HSk.out.2.1
        omega
      have hCb : ∀ g, C g → w0.heap.size ≤ g := hIb.lo
      have hoC : ∀ g, v1.ownBlock = some g → C g := fun g hg => (hC g).2 (.inr (.inr hg))
      have ltA := lt_heap kA
      have ltD := lt_heap hIb.dn
      have ltM := lt_heap kMb
      have ltb : bt < Wb.heap.size := by have := hIb.lA; have := hIb.tbl; omega
      have hPI := putInserts_any (w := Wb.drew) (B := w0.heap.size) (v := v1) (l := l1) ow (by have := hIb.lA; show _ ≤ Wb.heap.size; omega) pc (by omega)
      unfold SV at hPI
      have hS0 : Wb.drew.cell? ⟨bt, 0, none⟩ = some (.string ⟨text.toArray⟩) ∧ Wb.drew.cell? ⟨D, 0, none⟩ = some (.int .i64 (d : Int)) ∧ Wb.drew.cell? ⟨M, 0, none⟩ = some (.int .i64 (k : Int)) := ⟨hIb.tx, (cell_of_row Wb _ 0 _ _ _ hIb.dn).trans rfl, (cell_of_row Wb _ 0 _ _ _ kMb).trans rfl⟩
      have hrd : Wb.drew.cell? ⟨A, 0, none⟩ = some (.slice Av l1.length cv) := (cell_of_row Wb _ 0 _ _ _ kA).trans (by rw [hv1]; rfl)
      rw [← hbt, ← hD]
      refine wpIn_block (wpIn_seq (region_round (S := fun W' => W'.cell? ⟨bt, 0, none⟩ = some (.string ⟨text.toArray⟩) ∧ W'.cell? ⟨D, 0, none⟩ = some (.int .i64 (d : Int)) ∧ W'.cell? ⟨M, 0, none⟩ = some (.int .i64 (k : Int))) (by kernel_rfl) (by kernel_rfl) (by rintro ⟨a, w, h⟩; exact h) ?_))
      refine held_take 1 (.string ⟨text.toArray⟩) rfl (by kernel_rfl) (by kernel_rfl) (by kernel_rfl) (fun _ _ _ h => h) (by kernel_rfl) (fun W' hW => y_load (sv := .pointer (some ⟨bt, 0, none⟩)) rfl (by kernel_rfl) (l_str _ _ _ text hW.1)) hS0 ?_
      refine held_take 2 (.int .i64 (d : Int)) rfl (by kernel_rfl) (by kernel_rfl) (by kernel_rfl) (fun _ _ _ h => h) (by kernel_rfl) (fun W' hW => y_load (sv := .pointer (some ⟨D, 0, none⟩)) rfl (by kernel_rfl) (l_int _ _ _ _ hW.2.1)) hS0 ?_
      refine held_take 3 (.pointer (some ⟨M, 0, none⟩)) rfl (by kernel_rfl) (by kernel_rfl) (by kernel_rfl) (fun _ _ _ h => h) (by kernel_rfl) (fun W' hW => by kernel_rfl) hS0 ?_
      refine held_take 4 (.int .i64 (k : Int)) rfl (by kernel_rfl) (by kernel_rfl) (by kernel_rfl) (fun _ _ _ h => h) (by kernel_rfl) (fun W' hW => y_load (sv := .pointer (some ⟨M, 0, none⟩)) rfl (by kernel_rfl) (l_int _ _ _ _ hW.2.2)) hS0 ?_
      refine held_take 5 (.string ⟨pc.toArray⟩) rfl (by kernel_rfl) (by kernel_rfl) (by kernel_rfl) (fun _ _ _ h => h) (by kernel_rfl) (fun W' hW => y_slice (xv := .string ⟨text.toArray⟩) (lv := some (.int .i64 (d : Int))) (hv := some (.int .i64 (k : Int))) (mv := none) rfl (by kernel_rfl) (by kernel_rfl) (by kernel_rfl) (by kernel_rfl) (cut_two W' text pc d k HSk.out.1 HSk.out.2.1 (by rw [extract_S, hpc]))) hS0 ?_
      refine held_one (i := 0) (by kernel_rfl) ?_
      refine held_op (.slice Av l1.length cv) _ rfl (by kernel_rfl) (y_load (sv := .pointer (some ⟨A, 0, none⟩)) rfl (by kernel_rfl) (l_29 _ _ _ _ _ _ hrd)) hS0 ?_
      rw [← hv1]
      refine held_one (i := 6) (by kernel_rfl) ?_
      refine held_call 21 #[v1, .string ⟨pc.toArray⟩] rfl (by kernel_rfl) (by kernel_rfl) ?_
      refine hPI.mono ?_
      rintro e W6 ⟨v6, rfl, o6, a6⟩
      have b6 : But (fun g => v1.ownBlock = some g) Wb W6 := ⟨a6.1.os, a6.1.tape, a6.1.output, a6.1.size, a6.1.block⟩
      have n6 : ∀ g, g < Wb.heap.size → ¬ C g → ¬ v1.ownBlock = some g := fun g _ hg h => hg (hoC g h)
      have x6 : ∀ g, v6.ownBlock = some g → v1.ownBlock = some g ∨ Wb.heap.size ≤ g := a6.2
      have kA6 : W6.heap[A]? = some (.cells #[v1] 29 (0, 0)) := (b6.block A ltA (fun h => (hne A h).1 rfl)).trans kA
      have kD6 : W6.heap[D]? = some (.cells #[.int .i64 (d : Int)] 3 (0, 0)) := (b6.block D ltD (fun h => (hne D h).2 rfl)).trans hIb.dn
      have kM6 : W6.heap[M]? = some (.cells #[.int .i64 (k : Int), .int .i64 (f : Int), .int .i64 (n : Int)] 46 (0, 0)) := (b6.block M ltM (fun h => by have := hCM M (hoC M h); omega)).trans kMb
      have t6 : W6.cell? ⟨bt, 0, none⟩ = some (.string ⟨text.toArray⟩) := (b6.cell (p := ⟨bt, 0, none⟩) ltb (fun (h : v1.ownBlock = some bt) => by have := hCb bt (hoC bt h); have := hIb.tbl; omega)).trans hIb.tx
      obtain ⟨A6, c6, rfl, _⟩ := o6.rb.shape
      refine ⟨_, rfl, ⟨t6, (cell_of_row W6 _ 0 _ _ _ kD6).trans rfl, (cell_of_row W6 _ 0 _ _ _ kM6).trans rfl⟩, ?_⟩
      obtain ⟨v6, hv6⟩ : ∃ x, x = Value.slice A6 (l1 ++ ins pc).length c6 := ⟨_, rfl⟩
      rw [← hv6] at o6 x6
      obtain ⟨W7, hW7⟩ : ∃ z, z = W6.setCell ⟨A, 0, none⟩ v6 := ⟨_, rfl⟩
      have nAM : A ≠ M := by have := hCM A ((hC A).2 (.inl rfl)); omega
      have nDM : D ≠ M := by have := hCM D ((hC D).2 (.inr (.inl rfl))); omega
      have nAD := hIb.nAD
      have nbA : bt ≠ A := by have := hIb.lA; have := hIb.tbl; omega
      have b7 : But (fun g => g = A) W6 W7 := by rw [hW7]; exact but_setCell _ _ _ _
      have kA7 : W7.heap[A]? = some (.cells #[v6] 29 (0, 0)) := by rw [hW7]; exact blk_setCell kA6 v6
      have kD7 : W7.heap[D]? = some (.cells #[.int .i64 (d : Int)] 3 (0, 0)) := (b7.block D (lt_heap kD6) (fun h => nAD h.symm)).trans kD6
      have kM7 : W7.heap[M]? = some (.cells #[.int .i64 (k : Int), .int .i64 (f : Int), .int .i64 (n : Int)] 46 (0, 0)) := (b7.block M (lt_heap kM6) (fun h => nAM h.symm)).trans kM6
      have n6A : ∀ g, v6.ownBlock = some g → g ≠ A ∧ g ≠ D := fun g hg => (x6 g hg).elim (hne g) (fun h => ⟨by omega, by omega⟩)
      have o7 : Ow W7 w0.heap.size v6 (l1 ++ ins pc) := row_but o6 b7 (fun g hg e => (n6A g hg).1 e)
      have t7 : W7.cell? ⟨bt, 0, none⟩ = some (.string ⟨text.toArray⟩) := (b7.cell (p := ⟨bt, 0, none⟩) (by have := b6.size; simp; omega) nbA).trans t6
      refine held_one (i := 7) (by kernel_rfl) ?_
      refine held_store W7 rfl (by kernel_rfl) (y_store (sv := .pointer (some ⟨A, 0, none⟩)) (xv := .slice A6 (l1 ++ ins pc).length c6) rfl (by kernel_rfl) (by kernel_rfl) (by rw [hW7, hv6]; exact s_29 _ _ _ _ _ _ _ ((cell_of_row _ _ 0 _ _ _ kA6).trans rfl) (frozen_of kA6))) ⟨t7, (cell_of_row W7 _ 0 _ _ _ kD7).trans rfl, (cell_of_row W7 _ 0 _ _ _ kM7).trans rfl⟩ ?_
      refine held_done _ (by kernel_rfl) ?_
      have hPC := putCopy_any (w := W7) (B := w0.heap.size) (v := v6) (l := l1 ++ ins pc) o7 (by have := hIb.lA; have := b6.size; have := b7.size; omega) f n (by omega) (by omega) (by rw [List.length_append]; omega)
      have HPC : Hid (Calls Try.prog 22 #[v6, .int .i64 (f : Int), .int .i64 (n : Int)] W7 fun e W8 => ∃ A8 N8 c8, e = .returned (.slice A8 N8 c8) ∧ W8.cell? ⟨A, 0, none⟩ = some v6 ∧ W8.frozen? ⟨A, 0, none⟩ = false ∧ W8.cell? ⟨D, 0, none⟩ = some (.int .i64 (d : Int)) ∧ W8.frozen? ⟨D, 0, none⟩ = false ∧ W8.cell? ⟨M, 0, none⟩ = some (.int .i64 (k : Int)) ∧ W8.cell? ⟨M, 2, none⟩ = some (.int .i64 (n : Int)) ∧
          Hid (∀ (a : Go.Act) (W' : World), W' = (W8.setCell ⟨A, 0, none⟩ (.slice A8 N8 c8)).setCell ⟨D, 0, none⟩ (.int .i64 ((k : Int) + (n : Int))) → bpost (fun d C W => MkI base text w0.heap.size bt w0 A D d C W) (fun _ _ => False) (k + n) C Wb .normal a W')) := Lib.hid (by
        refine hPC.mono ?_
        rintro e W8 ⟨v8, rfl, o8, a8⟩
        obtain ⟨A8, c8, rfl, _⟩ := o8.rb.shape
        obtain ⟨v8, hv8⟩ : ∃ x, x = Value.slice A8 (l1 ++ ins pc ++ 128 :: (putL f ++ putL n)).length c8 := ⟨_, rfl⟩
        rw [← hv8] at o8 a8
        have kA8 := (a8.1.block A (lt_heap kA7) (fun h => (n6A A h).1 rfl)).trans kA7
        have kD8 := (a8.1.block D (lt_heap kD7) (fun h => (n6A D h).2 rfl)).trans kD7
        have kM8 := (a8.1.block M (lt_heap kM7) (fun h => (x6 M h).elim (fun h => by have := hCM M (hoC M h); omega) (fun h => by omega))).trans kM7
        refine ⟨A8, _, c8, rfl, (cell_of_row W8 _ 0 _ _ _ kA8).trans rfl, frozen_of kA8, (cell_of_row W8 _ 0 _ _ _ kD8).trans rfl, frozen_of kD8, (cell_of_row W8 _ 0 _ _ _ kM8).trans rfl, (cell_of_row W8 _ 2 _ _ _ kM8).trans rfl, Lib.hid fun a W' hW' => ?_⟩
        rw [← hv8] at hW'
        obtain ⟨W9, hW9⟩ : ∃ z, z = W8.setCell ⟨A, 0, none⟩ v8 := ⟨_, rfl⟩
        rw [← hW9] at hW'
        have b9 : But (fun g => g = A) W8 W9 := by rw [hW9]; exact but_setCell _ _ _ _
        have b10 : But (fun g => g = D) W9 W' := by rw [hW']; exact but_setCell _ _ _ _
        have x8 : ∀ g, v8.ownBlock = some g → v1.ownBlock = some g ∨ Wb.heap.size ≤ g := fun g hg => (a8.2 g hg).elim (x6 g) (fun h => .inr (by have := b6.size; have := b7.size; omega))
        have n8 : ∀ g, v8.ownBlock = some g → g ≠ A ∧ g ≠ D := fun g hg => (x8 g hg).elim (hne g) (fun h => ⟨by omega, by omega⟩)
        have kA9 : W9.heap[A]? = some (.cells #[v8] 29 (0, 0)) := by rw [hW9]; exact blk_setCell kA8 v8
        have kD9 := (b9.block D (lt_heap kD8) (fun h => nAD h.symm)).trans kD8
        have hall : But C Wb W' := by
          have s1 : But C Wb W6 := b6.mono fun g _ h => hoC g h
          have s2 : But C Wb W7 := s1.trans (b7.mono fun g _ h => by rw [h]; exact (hC A).2 (.inl rfl))
          have s3 : But C Wb W8 := s2.own a8.1 fun g hg => (x6 g hg).imp (hoC g) id
          exact (s3.trans (b9.mono fun g _ h => by rw [h]; exact (hC A).2 (.inl rfl))).trans (b10.mono fun g _ h => by rw [h]; exact (hC D).2 (.inr (.inl rfl)))
        refine ⟨fun g => g = A ∨ g = D ∨ v8.ownBlock = some g, ⟨hfn.2.2, ⟨v8, _, (b10.block A (lt_heap kA9) nAD).trans kA9, row_but (row_but o8 b9 (fun g hg e => (n8 g hg).1 e)) b10 (fun g hg e => (n8 g hg).2 e), hnext, n8, fun g => Iff.rfl⟩, ?_, nAD, hIb.lA, hIb.lD, hIb.tbl, (hall.cell (p := ⟨bt, 0, none⟩) ltb (fun (h : C bt) => by have := hCb bt h; have := hIb.tbl; omega)).trans hIb.tx, hIb.bl.trans (hall.below (fun g _ h => hCb g h) (by have := hIb.lA; omega))⟩, hall, ?_⟩
        · rw [hW', blk_setCell kD9 _, Int.natCast_add]; rfl
        · rintro g (rfl | rfl | hg)
          · exact .inl ((hC _).2 (.inl rfl))
          · exact .inl ((hC _).2 (.inr (.inl rfl)))
          · exact (x8 g hg).imp (hoC g) id)
      have c7A : W7.cell? ⟨A, 0, none⟩ = some v6 := (cell_of_row W7 _ 0 _ _ _ kA7).trans rfl
      have c7f : W7.cell? ⟨M, 1, none⟩ = some (.int .i64 (f : Int)) := (cell_of_row W7 _ 1 _ _ _ kM7).trans rfl
      have c7n : W7.cell? ⟨M, 2, none⟩ = some (.int .i64 (n : Int)) := (cell_of_row W7 _ 2 _ _ _ kM7).trans rfl
      have hn1 : 1 ≤ 5 := by omega
      have HN := Lib.hid (And.intro nAM (And.intro nDM nAD))
      have HKn : Hid (k + n ≤ 10000) := Lib.hid (by omega)
      clear hPC hPI a6 b6 n6 x6 kA6 kD6 kM6 t6 b7 kA7 kD7 kM7 n6A o7 t7 o6 hrd hS0 hC hne hnext hlen hCb hoC ltA ltD ltM ltb hCM kMb kA ow hmk hIb hbab hba kM hz3 hz4 hv6 hW7 nAM nDM nAD nbA hpc hv1 hfn hM hbt hD
      go_simp
      gi_wp2_with fail
      refine ⟨trivial, (CallsIn.inRound l (callsIn_wide.2 HPC.out)).mono ?_⟩
      rintro e W8 ⟨A8, N8, c8, rfl, cA, fA, cD, fD, cM0, cM2, hfin⟩
      obtain ⟨nAM, nDM, nAD⟩ := HN.out
      have nMA := nAM.symm; have nMD := nDM.symm; have nDA := nAD.symm
      have hkn := HKn.out
      clear HPC c7A c7f c7n
      gi_wp2
      exact hfin.out _ _ rfl
end Go.Proofs.Ytbgnemephcbgeaa
