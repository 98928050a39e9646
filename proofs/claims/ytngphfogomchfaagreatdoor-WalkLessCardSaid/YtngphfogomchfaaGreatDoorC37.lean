/-
  Sorted, struck out: rising; Set, Join.
  Join.
  Plain: what the head's calls answer.
-/
import Derived.Lib.AppendZerosOnto
import Derived.Test.YtngphfogomchfaaGreatDoorC35
import Derived.Test.YtngphfogomchfaaGreatDoorC23
import Derived.Test.YtngphfogomchfaaGreatDoorC36
import Derived.Test.YtngphfogomchfaaGreatDoorC20
import Derived.Test.YtngphfogomchfaaGreatDoorC32

namespace Go.Proofs.YtngphfogomchfaaGreatDoor
open Go Go.RowKit Go.Maps Go.Sort

abbrev cmpV : Value := .func (.func 60) #[] #[]
/-- The library's stable sort does its work at v. -/
def SortOk (B : Nat) (l : List Hld) (v : Value) (w : World) : Prop := Calls Tryz.prog 89 #[v, .int .i64 (l.length : Int), cmpV] w (SortPost B l v w)
set_option maxHeartbeats 4000000 in
set_option maxRecDepth 100000 in
theorem sort_small {w : World} {B g c : Nat} {l : List Hld} (h : NewH B w (.slice (some ⟨g, 0, none⟩) l.length c) l) (hl : l.length < 20) : SortOk B l (.slice (some ⟨g, 0, none⟩) l.length c) w := by
  obtain ⟨cur, _, hB, hg, h1, h2, h3, hc⟩ := cells_of_own h
  have hi := ins_any (c := c) hg hc 0 l.length (Nat.zero_le _) (Nat.le_refl _) (by omega)
  have HI := Lib.hid hi; have H := Lib.hid h
  have hlI : ¬ (20 : Int) ≤ (l.length : Int) := by omega
  have hlI2 : ¬ (20 : Int) < (l.length : Int) := by omega
  unfold SortOk
  clear h hB hg h1 h2 h3 hc hi
  go_enter Tryz.func89, Tryz.ntmps89
  go_wp2_with fail
  refine wp_loop_rounds 1 ?_
  rw [rounds_succ]
  go_wp2_with fail
  refine HI.out.mono ?_
  rintro e w2 ⟨rfl, n, os, rfl⟩
  go_wp2_with fail
  refine wp_loop_rounds 1 ?_
  rw [rounds_succ]
  go_wp2_with fail
  go_end0
  refine ⟨rfl, _, insertion_stab l, ?_, but_sortedK _⟩
  have hs := insertion_stab l
  exact own_sortedK H.out _ (by have := hs.perm.length_eq; simpa using this) os
set_option maxHeartbeats 4000000 in
set_option maxRecDepth 100000 in
theorem Compact_any {w : World} {B : Nat} {v : Value} {l : List Hld} (h : NewH B w v l) (hl : l.length ≤ 1000000) :
    Calls Tryz.prog 62 #[v, .func (.func 63) #[] #[]] w fun e w' => ∃ u, e = .returned u ∧ NewH B w' u (dedup l) ∧ But (fun k => v.ownBlock = some k) w w' := by
  have h0 := h
  rcases h.2 with ⟨rfl, hz⟩ | ⟨g, cap, cur, rfl, _⟩
  · obtain rfl : l = [] := List.eq_nil_of_length_eq_zero hz
    have H := Lib.hid h0
    clear h h0 hz
    go_enter Tryz.func62, Tryz.ntmps62
    go_wp2_with fail
    go_ret
    exact ⟨_, rfl, H.out, But.refl _ _⟩
  · refine (Compact_own h0 hl).mono ?_
    rintro e w' ⟨u, rfl, h1, h2⟩
    exact ⟨u, rfl, h1, h2.mono fun k _ e => by rw [e]; rfl⟩
def RisePost (B : Nat) (l : List Hld) (v : Value) (w : World) (e : Ending) (w' : World) : Prop := ∃ u r, e = .returned u ∧ IsSet l r ∧ r.length ≤ l.length ∧ NewH B w' u r ∧ But (fun k => v.ownBlock = some k) w w'
theorem IsSet.len {src r : List Hld} (h : IsSet src r) : r.length ≤ src.length :=
  nodup_len (List.Pairwise.imp (fun {a b} (hab : a.id < b.id) (e : a = b) => lt_irr b.id (by rw [e] at hab; exact hab)) h.rise) fun x hx => findL_mem ((h.mem x).1 hx)
set_option maxHeartbeats 4000000 in
set_option maxRecDepth 100000 in
theorem rising_any {w : World} {B : Nat} {v : Value} {l : List Hld} (h : NewH B w v l) (hl : l.length ≤ 1000000) (hs : SortOk B l v w) : Calls Tryz.prog 41 #[v] w (RisePost B l v w) := by
  have hsf : Calls Tryz.prog 59 #[v, cmpV] w (SortPost B l v w) := by
    obtain ⟨A, c, rfl⟩ := own_slice h
    have HS := Lib.hid hs
    clear hs h
    go_enter Tryz.func59, Tryz.ntmps59
    go_wp2_with fail
    refine HS.out.mono ?_
    rintro e w2 ⟨rfl, hr⟩
    have HR := Lib.hid hr
    clear hr
    go_wp2_with fail
    go_end0
    exact ⟨rfl, HR.out⟩
  have HS := Lib.hid hsf
  obtain ⟨A, c, rfl⟩ := own_slice h
  clear hs h hsf
  go_enter Tryz.func41, Tryz.ntmps41
  go_wp2_with fail
  refine HS.out.mono ?_
  rintro e w2 ⟨rfl, m, hm, hN, hb⟩
  have hC := Compact_any hN (by rw [hm.perm.length_eq]; exact hl)
  have HC := Lib.hid hC; have HM := Lib.hid hm; have HB := Lib.hid hb
  clear hC hm hN hb
  go_wp2_with fail
  refine HC.out.mono ?_
  rintro e w3 ⟨u, rfl, hN, hb⟩
  have HN := Lib.hid hN; have HB2 := Lib.hid hb
  clear hN hb
  go_wp2_with fail
  go_ret
  exact ⟨_, _, rfl, HM.out.isSet, HM.out.isSet.len, HN.out, HB.out.trans HB2.out⟩

/-! ### Set -/
def obC (x : Int × Bs) : List Value := [.int .i64 x.1, SV x.2]
theorem obC_len (x : Int × Bs) : (obC x).length = 2 := rfl
def ObjsR (w : World) (v : Value) (l : List (Int × Bs)) : Prop := RdK 2 obC w v l
theorem ObjsR.cells {w : World} {g o n c : Nat} {l : List (Int × Bs)} (h : ObjsR w (.slice (some ⟨g, o, none⟩) n c) l) (k : Nat) (hk : k < l.length) :
    w.cell? ⟨g, o + k * 2, none⟩ = some (.int .i64 (l.getD k (0, [])).1) ∧ w.cell? ⟨g, o + k * 2 + 1, none⟩ = some (SV (l.getD k (0, [])).2) := by
  rcases h with ⟨_, rfl⟩ | ⟨g', o', c', e, hc, hg, hcell⟩
  · simp at hk
  · cases e
    have h0 := hcell k hk _ (List.getElem?_eq_getElem hk)
    have e : l.getD k (0, []) = l[k] := by rw [List.getD_eq_getElem?_getD, List.getElem?_eq_getElem hk]; rfl
    rw [e]
    exact ⟨h0 0 (by omega), h0 1 (by omega)⟩
/-- The right ones with their names. -/
def setL (l : List (Int × Bs)) : List Hld := l.flatMap fun x => if idL x.1 x.2 = [] then [] else [⟨idL x.1 x.2, x.1, x.2⟩]
theorem setL_snoc {l : List (Int × Bs)} {k : Nat} (h : k < l.length) : setL (l.take (k + 1)) = setL (l.take k) ++ if idL (l.getD k (0, [])).1 (l.getD k (0, [])).2 = [] then [] else [⟨idL (l.getD k (0, [])).1 (l.getD k (0, [])).2, (l.getD k (0, [])).1, (l.getD k (0, [])).2⟩] := by
  unfold setL
  rw [take_getD l (0, []) k h, List.flatMap_append]; simp
theorem setL_len (l : List (Int × Bs)) : (setL l).length ≤ l.length := by
  unfold setL
  induction l with
  | nil => exact Nat.le_refl _
  | cons x l ih =>
    rw [List.flatMap_cons, List.length_append, List.length_cons]
    by_cases e : idL x.1 x.2 = []
    · rw [if_pos e, List.length_nil]; omega
    · rw [if_neg e, List.length_singleton]; omega
def SetPost (l : List Hld) (w : World) (e : Ending) (w' : World) : Prop := ∃ u r, e = .returned u ∧ IsSet l r ∧ r.length ≤ l.length ∧ NewH w.heap.size w' u r ∧ Below w.heap.size w w'
set_option maxHeartbeats 4000000 in
set_option maxRecDepth 100000 in
theorem Set_any {w : World} {v : Value} {l : List (Int × Bs)} (h : ObjsR w v l) (ho : Ob w) (hl : l.length ≤ 10000) (hd : ∀ x ∈ l, x.2.length ≤ 10000) (hs : ∀ B v' w', NewH B w' v' (setL l) → SortOk B (setL l) v' w') :
    Calls Tryz.prog 24 #[v] w (SetPost (setL l) w) := by
  obtain ⟨A, c, rfl⟩ := h.shape
  have Hx := Lib.hid h; have HO := Lib.hid ho; have HD := Lib.hid hd; have HS := Lib.hid hs
  clear h ho hd hs
  go_enter Tryz.func24, Tryz.ntmps24
  go_wp2_with fail
  have HN0 : Hid (NewH w.heap.size w (.slice none 0 0) (setL (l.take 0))) := Lib.hid (OwK.nil _ _ _ _ _)
  go_loopw [9, 3] (fun i z wr => Hid (Below w.heap.size w wr) ∧ ∃ k : Nat, k ≤ l.length ∧ i = .int .i64 k ∧ Hid (NewH w.heap.size wr z (setL (l.take k)))) (fun i _ _ => l.length - (intOf i).toNat)
  case atStart => exact ⟨Lib.hid (Below.refl _ _), 0, Nat.zero_le _, rfl, HN0⟩
  case round =>
    obtain ⟨hB, k, hk, rfl, hN⟩ := hrel
    by_cases hlt : k < l.length
    · obtain ⟨g, o, c', e, _, hg⟩ := Hx.out.pos (by omega)
      cases e
      obtain ⟨p0, p1⟩ := ObjsR.cells (Hx.out.below hB.out (Nat.le_refl _)) k hlt
      have hdl := HD.out _ (getD_mem l (0, []) k hlt)
      have hsn := setL_snoc hlt
      have hsl := setL_len (l.take k)
      have hsl2 := List.length_take_le k l
      obtain ⟨x, hx⟩ : ∃ x, x = l.getD k (0, []) := ⟨_, rfl⟩
      rw [← hx] at p0 p1 hdl hsn
      obtain ⟨xk, xd⟩ := x
      unfold SV at p1
      simp only at p0 p1 hdl hsn
      obtain ⟨w1, hw1⟩ : ∃ w1, w1 = wr.alloc (.cells #[.int .i64 xk, .string ⟨xd.toArray⟩] 30) := ⟨_, rfl⟩
      have hb1 : Below wr.heap.size wr w1 := by rw [hw1]; exact below_new wr _
      have hk1 : w1.heap[wr.heap.size]? = some (.cells #[.int .i64 xk, .string ⟨xd.toArray⟩] 30 (0, 0)) := by rw [hw1]; exact heap_alloc_new wr _
      have hO1 := (HO.out.below hB.out).below hb1
      obtain ⟨nm, hnm⟩ : ∃ nm, nm = idL xk xd := ⟨_, rfl⟩
      have hid := Id_any xk xd (by omega) w1 hO1.eb hO1.tb hO1.pr
      rw [← hnm] at hid hsn
      unfold ObjV SV at hid
      have hN1 : NewH w.heap.size w1 u3 _ := OwK.below hN.out hb1 (Nat.le_refl _)
      have q0 : w1.cell? ⟨wr.heap.size, 0, none⟩ = some (.int .i64 xk) := (cell_of_row w1 _ 0 _ _ _ hk1).trans rfl
      have q1 : w1.cell? ⟨wr.heap.size, 1, none⟩ = some (.string ⟨xd.toArray⟩) := (cell_of_row w1 _ 1 _ _ _ hk1).trans rfl
      have HW1 := Lib.hid hw1; have HB1 := Lib.hid (hB.out.trans (hb1.mono hB.out.size)); have HId := Lib.hid hid; have HSn := Lib.hid hsn; have HN1 := Lib.hid hN1; have HK1 := Lib.hid hk1
      have hpl : (setL (l.take k)).length + 1 ≤ 1000000 := by omega
      have HPL := Lib.hid hpl
      clear hw1 hb1 hk1 hO1 hid hsn hN1 hx hB hN hnm hsl hsl2 hpl hdl
      go_upto_region 5 with fail
      rw [← HW1.out]
      go_wp2_with fail
      refine HId.out.mono ?_
      rintro e w2 ⟨rfl, b2⟩
      have hN2 : NewH w.heap.size w2 u3 _ := OwK.below HN1.out b2 (Nat.le_refl _)
      have q0 := cell_to q0 b2
      have q1 := cell_to q1 b2
      have HB2 := Lib.hid (HB1.out.trans (b2.mono HB1.out.size)); have HN2 := Lib.hid hN2
      clear b2 hN2 p0 p1
      by_cases hn : nm = []
      · subst hn
        have HS2 := Lib.hid (HSn.out.trans (by rw [if_pos rfl, List.append_nil]))
        go_wp2_with fail
        go_roundw
        case rel => exact ⟨HB2, k + 1, hlt, by go_num, Lib.hid (by rw [HS2.out]; exact HN2.out)⟩
        case measure => simp [intOf]; omega
      · have HS2 := Lib.hid (HSn.out.trans (by rw [if_neg hn]))
        have hn2 : (nm == []) = false := by simpa using hn
        have hn3 : (nm != []) = true := by simpa using hn
        clear HSn
        go_wp2_with (at_builtin; refine wpList_one heldK rfl _ _ rfl w.heap.size u3 (setL (l.take k)) ⟨nm, xk, xd⟩ _ rfl rfl rfl HN2.out HPL.out (by decide) HB2.out.size ?_)
        intro z' w3 hN3 hb3
        have HN3 := Lib.hid hN3
        have HB3 := Lib.hid (HB2.out.trans hb3)
        clear hN3 hb3 q0 q1
        go_wp2_with fail
        go_roundw
        case rel => exact ⟨HB3, k + 1, hlt, by go_num, Lib.hid (by rw [HS2.out]; exact HN3.out)⟩
        case measure => simp [intOf]; omega
    · obtain rfl : k = l.length := by omega
      rw [List.take_length] at hN
      have hR := rising_any hN.out (Nat.le_trans (setL_len l) (by omega)) (HS.out _ _ _ hN.out)
      obtain ⟨As, cs, rfl⟩ := own_slice hN.out
      have HR := Lib.hid hR
      clear hR
      go_wp2_with fail
      refine HR.out.mono ?_
      rintro e w2 ⟨u, r, rfl, h1, h2, h3, h4⟩
      have H1 := Lib.hid h1; have H2 := Lib.hid h2; have H3 := Lib.hid h3
      have H4 := Lib.hid (hB.out.trans (h4.below (fun k _ hk => (own_block hN.out hk).1) hB.out.size))
      clear h1 h2 h3 h4
      go_wp2_with fail
      go_ret
      exact ⟨_, r, rfl, H1.out, H2.out, H3.out, H4.out⟩
end Go.Proofs.YtngphfogomchfaaGreatDoor


namespace Go.Proofs.YtngphfogomchfaaGreatDoor
open Go Go.RowKit Go.Maps Go.Sort

set_option maxHeartbeats 4000000 in
set_option maxRecDepth 100000 in
theorem Grow_nil (n : Nat) (hn : n ≤ 1000000) (w : World) : Calls Tryz.prog 64 #[.slice none 0 0, .int .i64 (n : Int)] w fun e w' => ∃ v, e = .returned v ∧ NewH w.heap.size w' v [] ∧ Below w.heap.size w w' := by
  rcases Nat.eq_zero_or_pos n with rfl | h0
  · go_enter Tryz.func64, Tryz.ntmps64
    go_wp2_with fail
    go_ret
    exact ⟨_, rfl, OwK.nil _ _ _ _ _, Below.refl _ _⟩
  · obtain ⟨z, hz, hzs⟩ := heldK.info
    obtain ⟨i0, hi, hz0, hz1, hz2⟩ := info_parts hz
    obtain ⟨ii, hii⟩ : ∃ i, Tryz.prog.info? 3 = some i := Option.isSome_iff_exists.1 (by kernel_rfl)
    have hrun := fun ty => Lib.run_append_grow_zeros w 22 3 ty 51 i0 z .i64 .i64 Tryz.underlying22 Tryz.underlying3 hi hz0 none 0 0 [] (run_firstCells_none w.drew i0.size 0 0 0) n h0 (by omega) (by omega) (by omega)
      (by rw [hz2]; omega) (by rw [Nat.zero_add]; exact growslice_fits h0 (by rw [hz2]; omega))
    rw [Nat.zero_add] at hrun
    obtain ⟨G, hG⟩ : ∃ G, G = grownCap w n 0 51 := ⟨_, rfl⟩
    have hge := grownCap_ge w n 0 51
    have hcm := grownCap_le_maxLen w n 0 51 (by unfold maxLen; omega)
    rw [← hG] at hrun hge hcm
    obtain ⟨w1, hw1⟩ : ∃ w1, w1 = w.drew.alloc (.cells (([] : List Value).toArray ++ Builtin.zeroCells z.cells n ++ Builtin.zeroCells z.cells (G - n)) 51) := ⟨_, rfl⟩
    rw [← hw1] at hrun
    have hb1 : Below w.heap.size w w1 := by rw [hw1]; exact (show Below w.heap.size w w.drew from ⟨rfl, rfl, rfl, Nat.le_refl _, fun _ _ => rfl⟩).alloc (Nat.le_refl _) _
    have hN : NewH w.heap.size w1 (.slice (some ⟨w.heap.size, 0, none⟩) 0 G) [] := by
      refine ⟨rfl, .inr ⟨w.heap.size, G, _, rfl, Nat.le_refl _, by rw [hw1]; exact heap_alloc_new w.drew _, Nat.zero_le _, hcm, ?_, by simp⟩⟩
      simp only [Array.size_append, size_zeroCells, hzs, List.size_toArray, List.length_nil]
      omega
    have hsh := Lib.hid (fun W => sh_held W w.heap.size 0 n G 0 (Nat.zero_le _))
    have hG63 : G ≤ 9223372036854775807 := by unfold maxLen at hcm; omega
    have HR := Lib.hid hrun; have HB1 := Lib.hid hb1; have HN := Lib.hid hN
    have h1 : ¬ ((n : Int) < 0) := by omega
    have h4 : (0 : Int) < (n : Int) := by omega
    clear hz hzs hi hz0 hz1 hz2 hii hrun hG hge hcm hw1 hb1 hN
    go_enter Tryz.func64, Tryz.ntmps64
    go_wp2_with (first | (at_builtin; refine Lib.wpList_append_run _ rfl _ _ _ _ rfl _ _ rfl rfl _ _ (HR.out _) ?_) | (refine wpList_slice rfl _ _ _ _ rfl _ _ _ _ rfl rfl rfl (hsh.out _) ?_))
    go_ret
    exact ⟨_, rfl, HN.out, HB1.out⟩

set_option maxHeartbeats 8000000 in
set_option maxRecDepth 100000 in
theorem Concat_any {w : World} {va vb : Value} {a b : List Hld} {g : Nat} (ha : HldsR w va a) (hb : HldsR w vb b) (hg : w.heap[g]? = some (.cells #[va, vb] 22 (0, 0))) (hla : a.length ≤ 100000) (hlb : b.length ≤ 100000) :
    Calls Tryz.prog 43 #[.slice (some ⟨g, 0, none⟩) 2 2] w fun e w' => ∃ v, e = .returned v ∧ NewH w.heap.size w' v (a ++ b) ∧ Below w.heap.size w w' := by
  obtain ⟨A, ca, rfl⟩ := ha.shape
  obtain ⟨B, cb, rfl⟩ := hb.shape
  have c0 : w.cell? ⟨g, 0, none⟩ = some (.slice A a.length ca) := (cell_of_row w g 0 _ _ _ hg).trans rfl
  have c1 : w.cell? ⟨g, 1, none⟩ = some (.slice B b.length cb) := (cell_of_row w g 1 _ _ _ hg).trans rfl
  have HC := Lib.hid (And.intro c0 c1)
  have Ha := Lib.hid ha; have Hb := Lib.hid hb
  have hgr := Grow_nil (a.length + b.length) (by omega) w
  rw [Int.natCast_add] at hgr
  have HG := Lib.hid hgr
  clear ha hb hg hgr
  go_enter Tryz.func43, Tryz.ntmps43
  go_wp2_with fail
  refine wp_loop_rounds 3 ?_
  rw [rounds_succ]
  go_wp2_with fail
  rw [rounds_succ]
  go_wp2_with fail
  rw [rounds_succ]
  go_wp2_with fail
  refine HG.out.mono ?_
  rintro e w2 ⟨v, rfl, hN, hb2⟩
  have c0 := cell_to HC.out.1 hb2
  have c1 := cell_to HC.out.2 hb2
  have HN := Lib.hid hN; have HB2 := Lib.hid hb2
  clear hN hb2
  go_wp2_with fail
  refine wp_loop_rounds 3 ?_
  rw [rounds_succ]
  go_wp2_with (at_builtin; refine wpList_all heldK rfl _ _ rfl w.heap.size v (.slice A a.length ca) [] a rfl rfl HN.out (Ha.out.below HB2.out (Nat.le_refl _)) (by simp; omega) (by decide) HB2.out.size ?_)
  intro v3 w3 hN3 hb3
  have c0 := (hb3.cell (p := ⟨g, 0, none⟩) (World.block_lt_of_cell? w _ HC.out.1)).trans c0
  have c1 := (hb3.cell (p := ⟨g, 1, none⟩) (World.block_lt_of_cell? w _ HC.out.2)).trans c1
  have HN3 := Lib.hid hN3; have HB3 := Lib.hid (HB2.out.trans hb3)
  clear hN3 hb3
  go_wp2_with fail
  rw [rounds_succ]
  go_wp2_with (at_builtin; refine wpList_all heldK rfl _ _ rfl w.heap.size v3 (.slice B b.length cb) ([] ++ a) b rfl rfl HN3.out (Hb.out.below HB3.out (Nat.le_refl _)) (by simp; omega) (by decide) HB3.out.size ?_)
  intro v4 w4 hN4 hb4
  have HN4 := Lib.hid hN4; have HB4 := Lib.hid (HB3.out.trans hb4)
  have c0 := (hb4.cell (p := ⟨g, 0, none⟩) (World.block_lt_of_cell? w _ HC.out.1)).trans c0
  have c1 := (hb4.cell (p := ⟨g, 1, none⟩) (World.block_lt_of_cell? w _ HC.out.2)).trans c1
  clear hN4 hb4
  go_wp2_with fail
  rw [rounds_succ]
  go_wp2_with fail
  go_ret
  exact ⟨_, rfl, HN4.out, HB4.out⟩
set_option maxHeartbeats 4000000 in
set_option maxRecDepth 100000 in
theorem Join_any {w : World} {va vb : Value} {a b : List Hld} (ha : HldsR w va a) (hb : HldsR w vb b) (hla : a.length ≤ 100000) (hlb : b.length ≤ 100000) (hs : ∀ B v' w', NewH B w' v' (a ++ b) → SortOk B (a ++ b) v' w') :
    Calls Tryz.prog 26 #[va, vb] w (SetPost (a ++ b) w) := by
  obtain ⟨w1, hw1⟩ : ∃ w1, w1 = w.alloc (.cells #[va, vb] 22) := ⟨_, rfl⟩
  have hb1 : Below w.heap.size w w1 := by rw [hw1]; exact below_new w _
  have hk1 : w1.heap[w.heap.size]? = some (.cells #[va, vb] 22 (0, 0)) := by rw [hw1]; exact heap_alloc_new w _
  have hC := Concat_any (ha.below hb1 (Nat.le_refl _)) (hb.below hb1 (Nat.le_refl _)) hk1 hla hlb
  obtain ⟨A, ca, rfl⟩ := ha.shape
  obtain ⟨B, cb, rfl⟩ := hb.shape
  have HC := Lib.hid hC; have HW1 := Lib.hid hw1; have HB1 := Lib.hid hb1; have HS := Lib.hid hs
  clear ha hb hC hw1 hb1 hk1 hs
  go_enter Tryz.func26, Tryz.ntmps26
  go_wp2_with fail
  rw [← HW1.out]
  refine HC.out.mono ?_
  rintro e w2 ⟨v, rfl, hN, hb2⟩
  have hR := rising_any hN (by simp; omega) (HS.out _ _ _ hN)
  have h4 := fun w3 (h4 : But (fun k => v.ownBlock = some k) w2 w3) => (HB1.out.trans (hb2.mono HB1.out.size)).trans (h4.below (fun k _ hk => Nat.le_trans HB1.out.size (own_block hN hk).1) (Nat.le_trans HB1.out.size hb2.size))
  obtain ⟨As, cs, rfl⟩ := own_slice hN
  have hla2 : (a ++ b).length = a.length + b.length := List.length_append
  rw [hla2] at hR h4
  have HR := Lib.hid hR; have H4 := Lib.hid h4
  clear hR hN hb2 h4 hla2
  go_wp2_with fail
  refine HR.out.mono ?_
  rintro e w3 ⟨u, r, rfl, h1, h2, h3, h5⟩
  have H1 := Lib.hid h1; have H2 := Lib.hid h2; have H3 := Lib.hid (OwK.mono h3 HB1.out.size); have H5 := Lib.hid (H4.out w3 h5)
  clear h1 h2 h3 h5
  go_wp2_with fail
  go_ret
  exact ⟨_, r, rfl, H1.out, H2.out, H3.out, H5.out⟩
end Go.Proofs.YtngphfogomchfaaGreatDoor


namespace Go.Proofs.YtngphfogomchfaaGreatDoor

def hT : Hld := ⟨nT, 2, tdT⟩
def hB : Hld := ⟨nB, 1, [120]⟩
def L0 : List Hld := [hT, hB, hB]
theorem set_L0 : setL [(2, tdT), (1, [120]), (1, [120]), (9, [])] = L0 := by
  unfold setL
  simp only [List.flatMap_cons, List.flatMap_nil, id_T, id_B, id_9, if_neg nT_ne, if_neg nB_ne, if_true]
  rfl
theorem find_L0 (s : Bs) : findL L0 s = if s = nT then some hT else if s = nB then some hB else none := by
  unfold L0
  rw [findL_cons, findL_cons, findL_cons]
  by_cases e : s = nT
  · rw [if_pos e, e, if_pos (show hT.id = nT from rfl)]
  · rw [if_neg e, if_neg (show ¬ hT.id = s from fun h => e h.symm)]
    by_cases e2 : s = nB
    · rw [if_pos e2, e2, if_pos (show hB.id = nB from rfl)]
    · rw [if_neg e2, if_neg (show ¬ hB.id = s from fun h => e2 h.symm), if_neg (show ¬ hB.id = s from fun h => e2 h.symm)]; rfl
/-- A list that finds what L0 finds. -/
def TwoH (l : List Hld) : Prop := ∀ s, findL l s = if s = nT then some hT else if s = nB then some hB else none
theorem two_set {r : List Hld} (h : IsSet L0 r) : TwoH r := fun s => (h.find s).trans (find_L0 s)
theorem TwoH.ft {l : List Hld} (h : TwoH l) : findL l nT = some hT := by rw [h, if_pos rfl]
theorem TwoH.fb {l : List Hld} (h : TwoH l) : findL l nB = some hB := by rw [h, if_neg (fun e => ne_TB e.symm), if_pos rfl]
theorem TwoH.no {l : List Hld} (h : TwoH l) {s : Bs} (h1 : s ≠ nT) (h2 : s ≠ nB) : findL l s = none := by rw [h, if_neg h1, if_neg h2]
theorem TwoH.len {l r : List Hld} (h : TwoH l) (hs : IsSet l r) : r.length = 2 := by
  have hn : r.Nodup := List.Pairwise.imp (fun {a b} (hab : a.id < b.id) (e : a = b) => lt_irr b.id (by rw [e] at hab; exact hab)) hs.rise
  have h1 : r.length ≤ [hT, hB].length := nodup_len hn fun x hx => by
    have hf := (hs.mem x).1 hx
    by_cases e : x.id = nT
    · rw [e, h.ft] at hf; cases hf; simp
    · by_cases e2 : x.id = nB
      · rw [e2, h.fb] at hf; cases hf; simp
      · rw [h.no e e2] at hf; cases hf
  have h2 : [hT, hB].length ≤ r.length := nodup_len (by
    refine List.nodup_cons.2 ⟨fun hm => ?_, List.nodup_cons.2 ⟨by simp, List.nodup_nil⟩⟩
    rw [List.mem_singleton] at hm
    exact ne_TB (congrArg Hld.id hm)) fun x hx => by
    rcases List.mem_cons.1 hx with rfl | hx
    · exact (hs.mem hT).2 h.ft
    · rw [List.mem_singleton.1 hx]; exact (hs.mem hB).2 h.fb
  simp only [List.length_cons, List.length_nil] at h1 h2
  omega
theorem wantsB : wantsO 1 [120] = some [] := by decide
theorem TwoH.wt {l : List Hld} (h : TwoH l) : wfL l nT = [(nB, 1)] := by
  unfold wfL; rw [h.ft]; show (wantsO 2 tdT).getD [] = _; rw [wants_T]; rfl
theorem TwoH.wb {l : List Hld} (h : TwoH l) : wfL l nB = [] := by
  unfold wfL; rw [h.fb]; show (wantsO 1 [120]).getD [] = _; rw [wantsB]; rfl
theorem TwoH.tt {l : List Hld} (h : TwoH l) : thB l nT = true := by unfold thB; rw [h.ft]; rfl
theorem TwoH.tb {l : List Hld} (h : TwoH l) : thB l nB = true := by unfold thB; rw [h.fb]; rfl
theorem TwoH.reach {l : List Hld} (h : TwoH l) {tips : List Bs} (ht : ∀ x ∈ tips, x = nT ∨ x = nB) {x : Bs} (hx : Reach (wfL l) tips x) : x = nT ∨ x = nB := by
  induction hx with
  | tip hm => exact ht _ hm
  | want _ hw ih =>
    rcases ih with rfl | rfl
    · rw [h.wt] at hw
      cases List.mem_singleton.1 hw; exact .inr rfl
    · rw [h.wb] at hw; cases hw
theorem len_one {a : List Bs} {x : Bs} (hn : a.Nodup) (h : ∀ y, y ∈ a ↔ y = x) : a = [x] := by
  match a, hn, h with
  | [], _, h => exact absurd ((h x).2 rfl) (by simp)
  | [y], _, h => rw [(h y).1 (by simp)]
  | y :: z :: m, hn, h =>
    have h1 := (h y).1 (by simp)
    have h2 := (h z).1 (by simp)
    rw [h1, h2] at hn
    simp at hn
theorem TwoH.clo {l : List Hld} (h : TwoH l) {a b : List Bs} (hc : IsClo (wfL l) (thB l) [nT] a b) : a.length = 2 ∧ b = [] ∧ ∀ x ∈ a, x = nT ∨ x = nB := by
  have hr : ∀ x, Reach (wfL l) [nT] x → x = nT ∨ x = nB := fun x hx => h.reach (fun x hx => .inl (List.mem_singleton.1 hx)) hx
  have ha : ∀ x ∈ a, x = nT ∨ x = nB := fun x hx => hr x ((hc.ma x).1 hx).1
  have rT : Reach (wfL l) [nT] nT := .tip (by simp)
  have rB : Reach (wfL l) [nT] nB := .want rT (k := 1) (by rw [h.wt]; simp)
  have hb : b = [] := List.eq_nil_iff_forall_not_mem.2 fun x hx => by
    obtain ⟨h1, h2⟩ := (hc.mb x).1 hx
    rcases hr x h1 with rfl | rfl
    · rw [h.tt] at h2; cases h2
    · rw [h.tb] at h2; cases h2
  refine ⟨?_, hb, ha⟩
  have h1 : a.length ≤ [nT, nB].length := nodup_len hc.ra.nodup fun x hx => by rcases ha x hx with rfl | rfl <;> simp
  have h2 : [nT, nB].length ≤ a.length := nodup_len (by simp [ne_TB]) fun x hx => by
    rcases List.mem_cons.1 hx with rfl | hx
    · exact (hc.ma nT).2 ⟨rT, h.tt⟩
    · rw [List.mem_singleton.1 hx]; exact (hc.ma nB).2 ⟨rB, h.tb⟩
  simp only [List.length_cons, List.length_nil] at h1 h2
  omega
theorem TwoH.pick {l : List Hld} (h : TwoH l) {a b : List Bs} (hc : IsClo (wfL (pickL l [nT])) (thB (pickL l [nT])) [nT] a b) : a.length = 1 ∧ b = [nB] := by
  have hf : ∀ s, findL (pickL l [nT]) s = if s = nT then some hT else none := fun s => by
    unfold pickL
    rw [findL_filter _ (fun s => [nT].contains s) (fun _ => rfl)]
    by_cases e : s = nT
    · rw [e, if_pos (by simp), if_pos rfl, h.ft]
    · rw [if_neg (by simpa using e), if_neg e]
  have wT : wfL (pickL l [nT]) nT = [(nB, 1)] := by unfold wfL; rw [hf, if_pos rfl]; show (wantsO 2 tdT).getD [] = _; rw [wants_T]; rfl
  have wN : ∀ s, s ≠ nT → wfL (pickL l [nT]) s = [] := fun s hs => by unfold wfL; rw [hf, if_neg hs]
  have hr : ∀ x, Reach (wfL (pickL l [nT])) [nT] x → x = nT ∨ x = nB := fun x hx => by
    induction hx with
    | tip hm => exact .inl (List.mem_singleton.1 hm)
    | want _ hw ih =>
      rcases ih with rfl | rfl
      · rw [wT] at hw; cases List.mem_singleton.1 hw; exact .inr rfl
      · rw [wN nB (fun e => ne_TB e.symm)] at hw; cases hw
  have rT : Reach (wfL (pickL l [nT])) [nT] nT := .tip (by simp)
  have rB : Reach (wfL (pickL l [nT])) [nT] nB := .want rT (k := 1) (by rw [wT]; simp)
  have tT : thB (pickL l [nT]) nT = true := by unfold thB; rw [hf, if_pos rfl]; rfl
  have tB : thB (pickL l [nT]) nB = false := by unfold thB; rw [hf, if_neg (fun e => ne_TB e.symm)]; rfl
  have e1 : a = [nT] := by
    refine len_one hc.ra.nodup fun y => ⟨fun hy => ?_, fun e => by rw [e]; exact (hc.ma nT).2 ⟨rT, tT⟩⟩
    obtain ⟨h1, h2⟩ := (hc.ma y).1 hy
    rcases hr y h1 with e | e
    · exact e
    · rw [e, tB] at h2; cases h2
  have e2 : b = [nB] := by
    refine len_one hc.rb.nodup fun y => ⟨fun hy => ?_, fun e => by rw [e]; exact (hc.mb nB).2 ⟨rB, tB⟩⟩
    obtain ⟨h1, h2⟩ := (hc.mb y).1 hy
    rcases hr y h1 with e | e
    · rw [e, tT] at h2; cases h2
    · exact e
  exact ⟨by rw [e1]; rfl, e2⟩
theorem TwoH.sound {l : List Hld} (h : TwoH l) {tips : List Bs} (ht : ∀ x ∈ tips, x = nT ∨ x = nB) {r : Int} (hs : IsSound (wfL l) (thB l) (kindB l) tips r) : r = 0 := by
  rcases hs with ⟨_, x, hx, h2⟩ | ⟨_, ⟨_, x, y, k, h1, h2, h3⟩ | ⟨h, _⟩⟩
  · rcases h.reach ht hx with rfl | rfl
    · rw [h.tt] at h2; cases h2
    · rw [h.tb] at h2; cases h2
  · rcases h.reach ht h1 with rfl | rfl
    · rw [h.wt] at h2
      cases List.mem_singleton.1 h2
      exact absurd (by unfold kindB; rw [h.fb]; rfl) h3
    · rw [h.wb] at h2; cases h2
  · exact h
theorem sound_nil {tips : List Bs} (ht : 0 < tips.length) {r : Int} (hs : IsSound (wfL []) (thB []) (kindB []) tips r) : r = 51 := by
  obtain ⟨x, hx⟩ := List.exists_mem_of_length_pos ht
  rcases hs with ⟨h, _⟩ | ⟨hall, _⟩
  · exact h
  · have := hall x (.tip hx)
    cases this
theorem TwoH.twice {r : List Hld} (h : TwoH r) : TwoH (r ++ r) := fun s => by
  rw [findL_append]
  cases hf : findL r s with
  | none => rw [Option.none_or, ← h s, hf]
  | some u => rw [Option.some_or, ← h s, hf]
end Go.Proofs.YtngphfogomchfaaGreatDoor
