/-
  swapRange, walked.
  rotate: two neighbours change their places.
  Plain: what the library's stable sort does: blocks, each sorted by insertion; neighbours made one.
  What the walks of the merge share.
  symMerge, one ahead of many.
-/
import Derived.Test.YthbmaloajgkhmaaGreatDoorC20
import Derived.Test.YthbmaloajgkhmaaGreatDoorC01

namespace Go.Proofs.YthbmaloajgkhmaaGreatDoor
open Go Go.RowKit Go.Maps Go.Sort
def SwapPost (B g c n : Nat) (m : List Hld) (w : World) (e : Ending) (w' : World) : Prop := e = .returned (.tuple #[]) ∧ NewH B w' (.slice (some ⟨g, 0, none⟩) n c) m ∧ But (fun q => q = g) w w'
set_option maxHeartbeats 8000000 in
set_option maxRecDepth 100000 in
theorem swapRange_any {w : World} {B g c n a b : Nat} {p x q y r : List Hld} (h : NewH B w (.slice (some ⟨g, 0, none⟩) n c) (p ++ (x ++ (q ++ (y ++ r))))) (hxy : x.length = y.length) (hn : n ≤ 1000000) (ha : a = p.length) (hb : b = p.length + x.length + q.length) :
    Calls Tryz.prog 121 #[.slice (some ⟨g, 0, none⟩) n c, .int .i64 (a : Int), .int .i64 (b : Int), .int .i64 (x.length : Int), .func (.func 37) #[] #[]] w (SwapPost B g c n (p ++ (y ++ (q ++ (x ++ r)))) w) := by
  have hnl : n = (p ++ (x ++ (q ++ (y ++ r)))).length := by obtain ⟨cur, hnl, _⟩ := cells_of_own h; exact hnl
  have hlen : n = p.length + x.length + q.length + y.length + r.length := by rw [hnl]; simp; omega
  rw [← swapK_zero] at h
  have H := Lib.hid h; have HXY := Lib.hid hxy; have HLen := Lib.hid hlen; have HAe := Lib.hid ha; have HBe := Lib.hid hb
  have hab : a + x.length ≤ b := by omega
  have hbn : b + x.length ≤ n := by omega
  clear h hxy hlen ha hb hnl
  go_enter Tryz.func121, Tryz.ntmps121
  go_wp2_with fail
  go_loopw [10] (fun vi wr => ∃ k : Nat, k ≤ x.length ∧ vi = .int .i64 k ∧ Hid (NewH B wr (.slice (some ⟨g, 0, none⟩) n c) (swapK p x q y r k)) ∧ Hid (But (fun q => q = g) w wr)) (fun vi _ => x.length - (intOf vi).toNat)
  case atStart => exact ⟨0, Nat.zero_le _, rfl, H, Lib.hid (But.refl _ _)⟩
  case round =>
    obtain ⟨k, hk, rfl, hN, hBt⟩ := hrel
    by_cases hlt : k < x.length
    · have hll := swapK_len (p := p) (q := q) (r := r) HXY.out hk
      have c1 := HldsR.cells hN.out.rd (a + k) (by rw [hll]; have := HLen.out; omega)
      have c2 := HldsR.cells hN.out.rd (b + k) (by rw [hll]; have := HLen.out; omega)
      rw [show a + k = p.length + k by rw [HAe.out], swapK_left HXY.out hlt, ← HAe.out, Nat.zero_add] at c1
      rw [show b + k = p.length + x.length + q.length + k by rw [HBe.out], swapK_right HXY.out hlt, ← HBe.out, Nat.zero_add] at c2
      obtain ⟨c10, c11, c12⟩ := c1
      obtain ⟨c20, c21, c22⟩ := c2
      have hst := swapK_step (p := p) (q := q) (r := r) HXY.out hlt
      rw [← HBe.out, ← HAe.out] at hst
      have hw2 : NewH B ((wr.setCells g ((a + k) * 3) (heldC (y.getD k noHld))).setCells g ((b + k) * 3) (heldC (x.getD k noHld))) (.slice (some ⟨g, 0, none⟩) n c) (swapK p x q y r (k + 1)) := by
        rw [← hst]
        exact set_own (set_own hN.out (by rw [hll]; have := HLen.out; omega) _) (by rw [List.length_set, hll]; have := HLen.out; omega) _
      have hb2 : But (fun q => q = g) w ((wr.setCells g ((a + k) * 3) (heldC (y.getD k noHld))).setCells g ((b + k) * 3) (heldC (x.getD k noHld))) := (hBt.out.trans (but_setCells (S := fun q => q = g) rfl _ _ _)).trans (but_setCells (S := fun q => q = g) rfl _ _ _)
      obtain ⟨cur, hn9, hB9, hg, hr9⟩ := cells_of_own hN.out
      clear hn9 hB9 hr9
      obtain ⟨u, hu⟩ : ∃ u, u = x.getD k noHld := ⟨_, rfl⟩
      obtain ⟨v, hv⟩ : ∃ v, v = y.getD k noHld := ⟨_, rfl⟩
      rw [← hu] at c10 c11 c12 hw2 hb2
      rw [← hv] at c20 c21 c22 hw2 hb2
      have f := fun i => frozen_of (i := i) hg
      have f10 := f ((a + k) * 3); have f11 := f ((a + k) * 3 + 1); have f12 := f ((a + k) * 3 + 2)
      have f20 := f ((b + k) * 3); have f21 := f ((b + k) * 3 + 1); have f22 := f ((b + k) * 3 + 2)
      obtain ⟨ui, uk, ud⟩ := u
      obtain ⟨vi, vk, vd⟩ := v
      unfold SV at c10 c12 c20 c22
      simp only at c10 c11 c12 c20 c21 c22
      have hch : (wr.setCells g ((a + k) * 3) (heldC ⟨vi, vk, vd⟩)).setCells g ((b + k) * 3) (heldC ⟨ui, uk, ud⟩) =
          (((((wr.setCell ⟨g, (a + k) * 3, none⟩ (.string ⟨vi.toArray⟩)).setCell ⟨g, (a + k) * 3 + 1, none⟩ (.int .i64 vk)).setCell ⟨g, (a + k) * 3 + 2, none⟩ (.string ⟨vd.toArray⟩)).setCell ⟨g, (b + k) * 3, none⟩ (.string ⟨ui.toArray⟩)).setCell ⟨g, (b + k) * 3 + 1, none⟩ (.int .i64 uk)).setCell ⟨g, (b + k) * 3 + 2, none⟩ (.string ⟨ud.toArray⟩) := rfl
      rw [hch] at hw2 hb2
      have HW2 := Lib.hid hw2; have HB2 := Lib.hid hb2
      clear hch
      have w1 : IntKind.i64.wrap ((a : Int) + (k : Int)) = ((a + k : Nat) : Int) := by rw [show ((a : Int) + (k : Int)) = ((a + k : Nat) : Int) by omega]; exact IntWalk.i64_in _ (by omega)
      have w2 : IntKind.i64.wrap ((b : Int) + (k : Int)) = ((b + k : Nat) : Int) := by rw [show ((b : Int) + (k : Int)) = ((b + k : Nat) : Int) by omega]; exact IntWalk.i64_in _ (by omega)
      have i1 : ((a + k : Nat) : Int) < (n : Int) := by omega
      have i2 : ((b + k : Nat) : Int) < (n : Int) := by omega
      have hkI : (k : Int) < (x.length : Int) := by omega
      clear hw2 hb2 hst hu hv hll f hg
      go_upto_region 3 with fail
      go_big_region
      clear c10 c11 c12 c20 c21 c22 f10 f11 f12 f20 f21 f22 w1 w2 i1 i2
      go_wp2_with fail
      have HW3 := Lib.hid (HW2.out.below (Below.refl _ _).drew (Nat.le_refl _))
      have HB3 := Lib.hid HB2.out.drew
      exact ⟨⟨k + 1, hlt, by go_num, HW3, HB3⟩, by simp [intOf]; omega⟩
    · obtain rfl : k = x.length := by omega
      have HE := Lib.hid (swapK_end (p := p) (q := q) (r := r) HXY.out)
      have hf := hN.out
      rw [HE.out] at hf
      have HF := Lib.hid hf
      clear hf
      go_wp2_with fail
      go_end0
      exact ⟨rfl, HF.out, hBt.out⟩
end Go.Proofs.YthbmaloajgkhmaaGreatDoor


namespace Go.Proofs.YthbmaloajgkhmaaGreatDoor
open Go Go.RowKit Go.Maps Go.Sort
set_option maxHeartbeats 4000000 in
set_option maxRecDepth 100000 in
theorem rotate_any {w : World} {B g c n a m b : Nat} {p u v r : List Hld} (h : NewH B w (.slice (some ⟨g, 0, none⟩) n c) (p ++ (u ++ (v ++ r)))) (hu : 0 < u.length) (hv : 0 < v.length) (hn : n ≤ 1000000) (ha : a = p.length) (hm : m = p.length + u.length) (hb : b = p.length + u.length + v.length) :
    Calls Tryz.prog 112 #[.slice (some ⟨g, 0, none⟩) n c, .int .i64 (a : Int), .int .i64 (m : Int), .int .i64 (b : Int), .func (.func 37) #[] #[]] w (SwapPost B g c n (p ++ (v ++ (u ++ r))) w) := by
  have hnl : n = (p ++ (u ++ (v ++ r))).length := by obtain ⟨cur, hnl, _⟩ := cells_of_own h; exact hnl
  have hlen : n = p.length + u.length + v.length + r.length := by rw [hnl]; simp; omega
  obtain ⟨F, hF⟩ : ∃ F, F = p ++ (v ++ (u ++ r)) := ⟨_, rfl⟩
  rw [← hF]
  obtain ⟨i0, hi0⟩ : ∃ i0, i0 = u.length := ⟨_, rfl⟩
  obtain ⟨j0, hj0⟩ : ∃ j0, j0 = v.length := ⟨_, rfl⟩
  have e1 : (m : Int) - (a : Int) = (i0 : Int) := by omega
  have e2 : (b : Int) - (m : Int) = (j0 : Int) := by omega
  have hmn : m + j0 ≤ n := by omega
  have hi1 : 0 < i0 := by omega
  have hj1 : 0 < j0 := by omega
  have him : i0 ≤ m := by omega
  have H := Lib.hid h; have HF := Lib.hid hF; have HI := Lib.hid hi0; have HJ := Lib.hid hj0; have HM : Hid (m = p.length + i0) := Lib.hid (by omega)
  clear h hF hi0 hj0 hu hv hlen hnl ha hm hb
  go_enter Tryz.func112, Tryz.ntmps112
  go_wp2
  clear e1 e2
  go_loopw [10, 11] (fun vi vj wr => ∃ (i j : Nat) (l1 u1 v1 r1 : List Hld), vi = .int .i64 i ∧ vj = .int .i64 j ∧ 0 < i ∧ 0 < j ∧ i ≤ m ∧ m + j ≤ n ∧ Hid (i = u1.length) ∧ Hid (j = v1.length) ∧ Hid (m = l1.length + i) ∧ Hid (F = l1 ++ (v1 ++ (u1 ++ r1))) ∧ Hid (NewH B wr (.slice (some ⟨g, 0, none⟩) n c) (l1 ++ (u1 ++ (v1 ++ r1)))) ∧ Hid (But (fun q => q = g) w wr)) (fun vi vj _ => (intOf vi).toNat + (intOf vj).toNat)
  case atStart => exact ⟨i0, j0, p, u, v, r, rfl, rfl, hi1, hj1, him, hmn, HI, HJ, HM, HF, H, Lib.hid (But.refl _ _)⟩
  case round =>
    clear H HF HI HJ HM hi1 hj1 him hmn
    obtain ⟨i, j, l1, u1, v1, r1, rfl, rfl, hi1, hj1, him, hmn, HI, HJ, HM, HF, HN, HB⟩ := hrel
    rcases Nat.lt_trichotomy i j with hij | hij | hij
    · obtain ⟨y, z, hyz, hz⟩ : ∃ y z, v1 = y ++ z ∧ z.length = i := ⟨v1.take (j - i), v1.drop (j - i), (List.take_append_drop _ _).symm, by rw [List.length_drop, ← HJ.out]; omega⟩
      have hy : y.length = j - i := by have := HJ.out; rw [hyz, List.length_append] at this; omega
      have HC : Hid (Calls Tryz.prog 121 #[.slice (some ⟨g, 0, none⟩) n c, .int .i64 ((m : Int) - (i : Int)), .int .i64 ((m : Int) + (j : Int) - (i : Int)), .int .i64 (i : Int), .func (.func 37) #[] #[]] wr (SwapPost B g c n (l1 ++ (z ++ (y ++ (u1 ++ r1)))) wr)) := Lib.hid (by
        have h := HN.out
        rw [hyz, List.append_assoc] at h
        have := swapRange_any (a := m - i) (b := m + j - i) h (by rw [hz]; exact HI.out.symm) hn (by have := HM.out; omega) (by have := HM.out; have := HI.out; omega)
        rw [← HI.out, show ((m - i : Nat) : Int) = (m : Int) - (i : Int) by omega, show ((m + j - i : Nat) : Int) = (m : Int) + (j : Int) - (i : Int) by omega] at this
        exact this)
      have HF2 : Hid (F = l1 ++ (y ++ (z ++ (u1 ++ r1)))) := Lib.hid (by rw [HF.out, hyz]; simp)
      have Hz := Lib.hid hz.symm; have Hy := Lib.hid hy.symm
      have b1 : ((i : Int) != (j : Int)) = true := by simp only [bne_iff_ne, ne_eq]; omega
      have b2 : ¬ (j : Int) < (i : Int) := by omega
      clear hyz hz hy HN HF HJ
      go_wp2_with fail
      refine HC.out.mono ?_
      rintro e w2 ⟨rfl, n2, t2⟩
      have HN2 := Lib.hid n2; have HB2 := Lib.hid (HB.out.trans t2)
      clear n2 t2 HB HC b1 b2
      go_wp2
      go_roundw
      case rel => exact ⟨i, j - i, l1, z, y, u1 ++ r1, rfl, congrArg (Value.int .i64) (by omega), hi1, by omega, him, by omega, Hz, Hy, HM, HF2, HN2, HB2⟩
      case measure => simp [intOf]; omega
    · subst hij
      have HC : Hid (Calls Tryz.prog 121 #[.slice (some ⟨g, 0, none⟩) n c, .int .i64 ((m : Int) - (i : Int)), .int .i64 (m : Int), .int .i64 (i : Int), .func (.func 37) #[] #[]] wr (SwapPost B g c n F wr)) := Lib.hid (by
        have := swapRange_any (a := m - i) (b := m) (p := l1) (x := u1) (q := []) (y := v1) (r := r1) (by rw [List.nil_append]; exact HN.out) (by rw [← HI.out, ← HJ.out]) hn (by have := HM.out; omega) (by have := HM.out; have := HI.out; simp; omega)
        rw [← HI.out, show ((m - i : Nat) : Int) = (m : Int) - (i : Int) by omega, List.nil_append, ← HF.out] at this
        exact this)
      have b1 : ((i : Int) != (i : Int)) = false := by simp
      clear HN HF HJ HI HM
      go_wp2_with fail
      refine HC.out.mono ?_
      rintro e w2 ⟨rfl, n2, t2⟩
      have HN2 := Lib.hid n2; have HB2 := Lib.hid (HB.out.trans t2)
      clear n2 t2 HB HC
      go_wp2_with fail
      go_end0
      exact ⟨rfl, HN2.out, HB2.out⟩
    · obtain ⟨x, q, hxq, hx⟩ : ∃ x q, u1 = x ++ q ∧ x.length = j := ⟨u1.take j, u1.drop j, (List.take_append_drop _ _).symm, by rw [List.length_take, ← HI.out]; omega⟩
      have hq : q.length = i - j := by have := HI.out; rw [hxq, List.length_append] at this; omega
      have HC : Hid (Calls Tryz.prog 121 #[.slice (some ⟨g, 0, none⟩) n c, .int .i64 ((m : Int) - (i : Int)), .int .i64 (m : Int), .int .i64 (j : Int), .func (.func 37) #[] #[]] wr (SwapPost B g c n (l1 ++ (v1 ++ (q ++ (x ++ r1)))) wr)) := Lib.hid (by
        have h := HN.out
        rw [hxq, List.append_assoc] at h
        have := swapRange_any (a := m - i) (b := m) h (by rw [hx]; exact HJ.out) hn (by have := HM.out; omega) (by have := HM.out; omega)
        rw [hx, show ((m - i : Nat) : Int) = (m : Int) - (i : Int) by omega] at this
        exact this)
      have HF2 : Hid (F = (l1 ++ v1) ++ (x ++ (q ++ r1))) := Lib.hid (by rw [HF.out, hxq]; simp)
      have Hx := Lib.hid hx.symm; have Hq := Lib.hid hq.symm
      have HM2 : Hid (m = (l1 ++ v1).length + (i - j)) := Lib.hid (by have := HM.out; have := HJ.out; rw [List.length_append]; omega)
      have b1 : ((i : Int) != (j : Int)) = true := by simp only [bne_iff_ne, ne_eq]; omega
      have b2 : (j : Int) < (i : Int) := by omega
      clear hxq hx hq HN HF HJ HI HM
      go_wp2_with fail
      refine HC.out.mono ?_
      rintro e w2 ⟨rfl, n2, t2⟩
      have HN2 : Hid (NewH B w2 (.slice (some ⟨g, 0, none⟩) n c) ((l1 ++ v1) ++ (q ++ (x ++ r1)))) := Lib.hid (by rw [List.append_assoc]; exact n2)
      have HB2 := Lib.hid (HB.out.trans t2)
      clear n2 t2 HB HC b1 b2
      go_wp2
      go_roundw
      case rel => exact ⟨i - j, j, l1 ++ v1, q, x, r1, congrArg (Value.int .i64) (by omega), rfl, by omega, hj1, by omega, hmn, Hq, Hx, HM2, HF2, HN2, HB2⟩
      case measure => simp [intOf]; omega
end Go.Proofs.YthbmaloajgkhmaaGreatDoor


namespace Go.Proofs.YthbmaloajgkhmaaGreatDoor
open Go.Sort
theorem SortedH.one (x : Hld) : SortedH [x] := List.pairwise_cons.2 ⟨fun _ h => (by cases h), List.Pairwise.nil⟩
theorem SortedH.left {a b : List Hld} (h : SortedH (a ++ b)) : SortedH a := (List.pairwise_append.1 h).1
theorem SortedH.right {a b : List Hld} (h : SortedH (a ++ b)) : SortedH b := (List.pairwise_append.1 h).2.1
/-- One ahead of many: those less go ahead of it. -/
theorem stab_one_left {x : Hld} {b1 b2 : List Hld} (hB : SortedH (b1 ++ b2)) (h1 : ∀ y ∈ b1, y.id < x.id) (h2 : ∀ y ∈ b2, ¬ y.id < x.id) : Stab ([x] ++ (b1 ++ b2)) (b1 ++ ([x] ++ b2)) := by
  have hs : SortedH ([x] ++ b2) := List.pairwise_append.2 ⟨SortedH.one x, hB.right, fun a ha y hy => by rw [List.mem_singleton.1 ha]; exact h2 y hy⟩
  have := stab_halves (u1 := []) (u2 := [x]) (v1 := b1) (v2 := b2) (m := b1) (n := [x] ++ b2) (by rw [List.nil_append]; exact Stab.refl hB.left) (Stab.refl hs) (by rw [List.nil_append]; exact SortedH.one x) hB
    (fun a ha y hy => by rw [List.mem_singleton.1 ha]; exact h1 y hy) (fun a ha => by cases ha)
  rwa [List.nil_append] at this
/-- One behind many: it goes ahead of those that are more. -/
theorem stab_one_right {y : Hld} {a1 a2 : List Hld} (hA : SortedH (a1 ++ a2)) (h1 : ∀ x ∈ a1, ¬ y.id < x.id) (h2 : ∀ x ∈ a2, y.id < x.id) : Stab ((a1 ++ a2) ++ [y]) (a1 ++ ([y] ++ a2)) := by
  have hs : SortedH (a1 ++ [y]) := List.pairwise_append.2 ⟨hA.left, SortedH.one y, fun a ha z hz => by rw [List.mem_singleton.1 hz]; exact h1 a ha⟩
  have := stab_halves (u1 := a1) (u2 := a2) (v1 := [y]) (v2 := []) (m := a1 ++ [y]) (n := a2) (Stab.refl hs) (by rw [List.append_nil]; exact Stab.refl hA.right) hA (by rw [List.append_nil]; exact SortedH.one y)
    (fun x hx z hz => by rw [List.mem_singleton.1 hz]; exact h2 x hx) (fun a _ z hz => by cases hz)
  simpa [List.append_assoc] using this
/-- What a search among sorted ones has seen: all below i are less, all from j on are not. -/
theorem sorted_less {B : List Hld} {x : Hld} (hB : SortedH B) {i : Nat} (h : i = 0 ∨ (i ≤ B.length ∧ (B.getD (i - 1) noHld).id < x.id)) : ∀ y ∈ B.take i, y.id < x.id := by
  intro y hy
  obtain ⟨j, hj1, hj2, rfl⟩ := mem_take_at hy
  rcases h with rfl | ⟨hle, h⟩
  · omega
  · have b1 := sorted_at hB (show j ≤ i - 1 by omega) (by omega)
    rcases lt_cases (B.getD j noHld).id (B.getD (i - 1) noHld).id with q | q | q
    · exact lt_tr q h
    · rw [q]; exact h
    · exact absurd q b1
theorem sorted_more {B : List Hld} {x : Hld} (hB : SortedH B) {j : Nat} (h : B.length ≤ j ∨ ¬ (B.getD j noHld).id < x.id) : ∀ y ∈ B.drop j, ¬ y.id < x.id := by
  intro y hy
  obtain ⟨i, hi1, hi2, rfl⟩ := mem_drop_at hy
  rcases h with h | h
  · omega
  · exact le_tr' h (sorted_at hB hi1 hi2)
theorem sorted_leq {A : List Hld} {y : Hld} (hA : SortedH A) {i : Nat} (h : i = 0 ∨ (i ≤ A.length ∧ ¬ y.id < (A.getD (i - 1) noHld).id)) : ∀ x ∈ A.take i, ¬ y.id < x.id := by
  intro x hx
  obtain ⟨j, hj1, hj2, rfl⟩ := mem_take_at hx
  rcases h with rfl | ⟨hle, h⟩
  · omega
  · exact le_tr' (sorted_at hA (show j ≤ i - 1 by omega) (by omega)) h
theorem sorted_gt {A : List Hld} {y : Hld} (hA : SortedH A) {j : Nat} (h : A.length ≤ j ∨ y.id < (A.getD j noHld).id) : ∀ x ∈ A.drop j, y.id < x.id := by
  intro x hx
  obtain ⟨i, hi1, hi2, rfl⟩ := mem_drop_at hx
  rcases h with h | h
  · omega
  · have := sorted_at hA hi1 hi2
    rcases lt_cases (A.getD j noHld).id (A.getD i noHld).id with q | q | q
    · exact lt_tr h q
    · rw [← q]; exact h
    · exact absurd q this
/-- x behind the first t of b. -/
def leadK (p : List Hld) (x : Hld) (b r : List Hld) (t : Nat) : List Hld := p ++ (b.take t ++ (x :: (b.drop t ++ r)))
theorem leadK_zero (p : List Hld) (x : Hld) (b r : List Hld) : leadK p x b r 0 = p ++ ([x] ++ (b ++ r)) := by simp [leadK]
theorem leadK_end (p : List Hld) (x : Hld) (b r : List Hld) : leadK p x b r b.length = p ++ (b ++ ([x] ++ r)) := by simp [leadK]
theorem leadK_len {p : List Hld} {x : Hld} {b r : List Hld} {t : Nat} (_h : t ≤ b.length) : (leadK p x b r t).length = p.length + b.length + 1 + r.length := by
  unfold leadK; simp; omega
theorem leadK_here {p : List Hld} {x : Hld} {b r : List Hld} {t : Nat} (h : t ≤ b.length) : (leadK p x b r t).getD (p.length + t) noHld = x := by
  unfold leadK
  rw [List.getD_eq_getElem?_getD, List.getElem?_append_right (by omega), show p.length + t - p.length = t by omega, List.getElem?_append_right (by simp; omega), List.length_take, Nat.min_eq_left h, Nat.sub_self]; rfl
theorem leadK_next {p : List Hld} {x : Hld} {b r : List Hld} {t : Nat} (h : t < b.length) : (leadK p x b r t).getD (p.length + t + 1) noHld = b.getD t noHld := by
  unfold leadK
  rw [List.getD_eq_getElem?_getD, List.getElem?_append_right (by omega), show p.length + t + 1 - p.length = t + 1 by omega, List.getElem?_append_right (by simp; omega), List.length_take, Nat.min_eq_left (by omega), show t + 1 - t = 1 by omega, List.getElem?_cons_succ, List.getElem?_append_left (by simp; omega), List.getElem?_drop, List.getD_eq_getElem?_getD]; rfl
theorem leadK_prev {p : List Hld} {x : Hld} {b r : List Hld} {t : Nat} (h0 : 0 < t) (h : t ≤ b.length) : (leadK p x b r t).getD (p.length + t - 1) noHld = b.getD (t - 1) noHld := by
  unfold leadK
  rw [List.getD_eq_getElem?_getD, List.getElem?_append_right (by omega), show p.length + t - 1 - p.length = t - 1 by omega, List.getElem?_append_left (by simp; omega), List.getElem?_take, if_pos (by omega), List.getD_eq_getElem?_getD]
theorem set_pair (l1 l2 : List Hld) (a b c d : Hld) (i : Nat) (h : i = l1.length) : ((l1 ++ a :: b :: l2).set i c).set (i + 1) d = l1 ++ c :: d :: l2 := by
  subst h
  rw [List.set_append_right _ _ (Nat.le_refl _), Nat.sub_self, List.set_append_right _ _ (Nat.le_succ _), show l1.length + 1 - l1.length = 1 by omega]; rfl
/-- A step to the right: places i, i + 1 changed. -/
theorem leadK_step {p : List Hld} {x : Hld} {b r : List Hld} {t : Nat} (h : t < b.length) : ((leadK p x b r t).set (p.length + t) (b.getD t noHld)).set (p.length + t + 1) x = leadK p x b r (t + 1) := by
  have e1 : leadK p x b r t = (p ++ b.take t) ++ x :: b[t] :: (b.drop (t + 1) ++ r) := by
    unfold leadK; rw [List.drop_eq_getElem_cons h]; simp only [List.append_assoc, List.cons_append]
  have hb : b.getD t noHld = b[t] := by rw [List.getD_eq_getElem?_getD, List.getElem?_eq_getElem h]; rfl
  rw [e1, hb, set_pair _ _ _ _ _ _ _ (by simp; omega)]
  unfold leadK
  rw [List.take_add_one, List.getElem?_eq_getElem h]
  simp only [List.append_assoc, List.cons_append, List.nil_append, Option.toList]
/-- A step to the left. -/
theorem leadK_back {p : List Hld} {x : Hld} {b r : List Hld} {t : Nat} (h : t < b.length) : ((leadK p x b r (t + 1)).set (p.length + t + 1) (b.getD t noHld)).set (p.length + t) x = leadK p x b r t := by
  have e1 : leadK p x b r (t + 1) = (p ++ b.take t) ++ b[t] :: x :: (b.drop (t + 1) ++ r) := by
    unfold leadK; rw [List.take_add_one, List.getElem?_eq_getElem h]; simp only [List.append_assoc, List.cons_append, List.nil_append, Option.toList]
  have hb : b.getD t noHld = b[t] := by rw [List.getD_eq_getElem?_getD, List.getElem?_eq_getElem h]; rfl
  rw [e1, hb, List.set_comm _ _ (by omega), set_pair _ _ _ _ _ _ _ (by simp; omega)]
  unfold leadK
  rw [List.drop_eq_getElem_cons h]; simp only [List.append_assoc, List.cons_append]
theorem swp_blk (p r x : List Hld) (d : Array Hld) (j : Nat) (hd : d.toList = p ++ (x ++ r)) (h1 : p.length ≤ j) (h2 : j + 1 < p.length + x.length) (hlt : ltH d[j + 1]! d[j]! = true) : ∃ y, (swp d (j + 1) j).toList = p ++ (y ++ r) ∧ SameF x y ∧ y.length = x.length := by
  have hsz : d.size = p.length + x.length + r.length := by have := congrArg List.length hd; simp at this; omega
  obtain ⟨t, rfl⟩ : ∃ t, j = p.length + t := ⟨j - p.length, by omega⟩
  have ht : t + 1 < x.length := by omega
  have ha : d[p.length + t]! = x[t] := by
    rw [getElem!_pos d _ (by omega)]
    have : d.toList[p.length + t]? = some x[t] := by rw [hd, List.getElem?_append_right (by omega), show p.length + t - p.length = t by omega, List.getElem?_append_left (by omega), List.getElem?_eq_getElem (by omega)]
    rw [Array.getElem?_toList, Array.getElem?_eq_getElem (by omega)] at this
    exact Option.some.inj this
  have hb : d[p.length + t + 1]! = x[t + 1] := by
    rw [getElem!_pos d _ (by omega)]
    have : d.toList[p.length + t + 1]? = some x[t + 1] := by rw [hd, List.getElem?_append_right (by omega), show p.length + t + 1 - p.length = t + 1 by omega, List.getElem?_append_left (by omega), List.getElem?_eq_getElem (by omega)]
    rw [Array.getElem?_toList, Array.getElem?_eq_getElem (by omega)] at this
    exact Option.some.inj this
  have hx : x = x.take t ++ ([x[t]] ++ [x[t + 1]]) ++ x.drop (t + 2) := by
    have h3 : x.drop t = x[t] :: x.drop (t + 1) := List.drop_eq_getElem_cons (by omega)
    have h4 : x.drop (t + 1) = x[t + 1] :: x.drop (t + 2) := List.drop_eq_getElem_cons ht
    rw [List.append_assoc]
    show x = x.take t ++ (x[t] :: x[t + 1] :: x.drop (t + 2))
    rw [← h4, ← h3, List.take_append_drop]
  refine ⟨x.take t ++ ([x[t + 1]] ++ [x[t]]) ++ x.drop (t + 2), ?_, ?_, ?_⟩
  · have hs : (swp d (p.length + t + 1) (p.length + t)).toList = (d.toList.set (p.length + t) (d[p.length + t + 1]!)).set (p.length + t + 1) (d[p.length + t]!) := by
      unfold swp
      rw [Array.toList_setIfInBounds, Array.toList_setIfInBounds, List.set_comm _ _ (by omega)]
    rw [hs, ha, hb, hd]
    have e : p ++ (x ++ r) = (p ++ x.take t) ++ x[t] :: x[t + 1] :: (x.drop (t + 2) ++ r) := by
      conv => lhs; rw [hx]
      simp only [List.append_assoc, List.cons_append, List.nil_append]
    rw [e, set_pair _ _ _ _ _ _ _ (by simp; omega)]
    simp only [List.append_assoc, List.cons_append, List.nil_append]
  · conv => lhs; rw [hx]
    rw [ha, hb] at hlt
    refine sameF_blocks fun a ha' b hb' e => ?_
    rw [List.mem_singleton.1 ha', List.mem_singleton.1 hb'] at e
    have := of_decide_eq_true (show decide (_ < _) = true from hlt)
    rw [e] at this; exact lt_irr _ this
  · simp; omega
theorem insInner_blk (p r : List Hld) : ∀ (j : Nat) (x : List Hld) (d : Array Hld), d.toList = p ++ (x ++ r) → j < p.length + x.length → ∃ y, (insInner ltH p.length j d).toList = p ++ (y ++ r) ∧ SameF x y ∧ y.length = x.length
  | 0, x, d, hd, _ => by unfold insInner; exact ⟨x, hd, SameF.refl _, rfl⟩
  | j + 1, x, d, hd, hj => by
    unfold insInner
    split
    · rename_i hc
      rw [Bool.and_eq_true, decide_eq_true_eq] at hc
      obtain ⟨y, h1, h2, h3⟩ := swp_blk p r x d j hd (by omega) hj hc.2
      obtain ⟨z, k1, k2, k3⟩ := insInner_blk p r j y _ h1 (by omega)
      exact ⟨z, k1, h2.trans k2, k3.trans h3⟩
    · exact ⟨x, hd, SameF.refl _, rfl⟩
theorem insOuter_blk (p r : List Hld) (b : Nat) : ∀ (n i : Nat) (x : List Hld) (d : Array Hld), b - i = n → b = p.length + x.length → d.toList = p ++ (x ++ r) → ∃ y, (insOuter ltH p.length b i d).toList = p ++ (y ++ r) ∧ SameF x y ∧ y.length = x.length
  | 0, i, x, d, h, hb, hd => by rw [insOuter, if_neg (by omega)]; exact ⟨x, hd, SameF.refl _, rfl⟩
  | n + 1, i, x, d, h, hb, hd => by
    rw [insOuter, if_pos (by omega)]
    obtain ⟨y, h1, h2, h3⟩ := insInner_blk p r i x d hd (by omega)
    obtain ⟨z, k1, k2, k3⟩ := insOuter_blk p r b n (i + 1) y _ (by omega) (by rw [h3]; exact hb) h1
    exact ⟨z, k1, h2.trans k2, k3.trans h3⟩
theorem insertion_blk (p x r : List Hld) : ∃ y, (insertionSort ltH (p ++ (x ++ r)).toArray p.length (p.length + x.length)).toList = p ++ (y ++ r) ∧ Stab x y := by
  obtain ⟨y, h1, h2, h3⟩ := insOuter_blk p r (p.length + x.length) _ (p.length + 1) x (p ++ (x ++ r)).toArray rfl rfl (by simp)
  have hs := insertionSort_holds ltH_swo (p ++ (x ++ r)).toArray p.length (p.length + x.length) (by omega) (by simp)
  have h1' : (insertionSort ltH (p ++ (x ++ r)).toArray p.length (p.length + x.length)).toList = p ++ (y ++ r) := h1
  generalize insertionSort ltH (p ++ (x ++ r)).toArray p.length (p.length + x.length) = d at hs h1'
  obtain ⟨⟨g1, g2, g3⟩, g4⟩ := hs
  refine ⟨y, h1', ⟨?_, h2, ?_⟩⟩
  · have e1 : (d.extract p.length (p.length + x.length)).toList = y := by
      rw [Array.toList_extract, h1', List.extract_eq_take_drop, List.drop_append, List.drop_of_length_le (Nat.le_refl _), Nat.sub_self, List.drop_zero, List.nil_append, Nat.add_sub_cancel_left, ← h3, List.take_left]
    have e2 : ((p ++ (x ++ r)).toArray.extract p.length (p.length + x.length)).toList = x := by
      rw [Array.toList_extract, List.extract_eq_take_drop, List.drop_append, List.drop_of_length_le (Nat.le_refl _), Nat.sub_self, List.drop_zero, List.nil_append, Nat.add_sub_cancel_left, List.take_left]
    rw [e1, e2] at g3
    exact g3
  · rw [List.pairwise_iff_getElem]
    intro i j hi hj hij
    have := g4 (p.length + i) (p.length + j) (by omega) (by omega) (by omega)
    have hat : ∀ k (hk : k < y.length), d[p.length + k]! = y[k] := fun k hk => by
      have hsz : d.size = p.length + (y.length + r.length) := by have := congrArg List.length h1'; simpa using this
      rw [getElem!_pos d _ (by omega)]
      have : d.toList[p.length + k]? = some y[k] := by rw [h1', List.getElem?_append_right (by omega), show p.length + k - p.length = k by omega, List.getElem?_append_left hk, List.getElem?_eq_getElem hk]
      rw [Array.getElem?_toList, Array.getElem?_eq_getElem (by omega)] at this
      exact Option.some.inj this
    rw [hat i hi, hat j hj] at this
    exact of_decide_eq_false (show decide (_ < _) = false from this)
def chunkL (s i : Nat) (l : List Hld) : List Hld := (l.drop (i * s)).take s
theorem drop_mid_right {p x r : List Hld} {j : Nat} (h : p.length + x.length ≤ j) : (p ++ (x ++ r)).drop j = r.drop (j - (p.length + x.length)) := by
  rw [← List.append_assoc, List.drop_append, List.drop_of_length_le (by simp; omega), List.nil_append, List.length_append]
theorem chunk_right {p x y r : List Hld} (hxy : y.length = x.length) {s i : Nat} (h : p.length + x.length ≤ i * s) : chunkL s i (p ++ (y ++ r)) = chunkL s i (p ++ (x ++ r)) := by
  unfold chunkL; rw [drop_mid_right h, drop_mid_right (by rw [hxy]; exact h), hxy]
theorem chunk_left {p x y r : List Hld} {s i : Nat} (h : i * s + s ≤ p.length) : chunkL s i (p ++ (y ++ r)) = chunkL s i (p ++ (x ++ r)) := by
  unfold chunkL
  rw [List.drop_append_of_le_length (by omega), List.drop_append_of_le_length (by omega), List.take_append_of_le_length (by rw [List.length_drop]; omega), List.take_append_of_le_length (by rw [List.length_drop]; omega)]
theorem chunk_mid {p y r : List Hld} {s i : Nat} (hp : p.length = i * s) (hy : y.length = s ∨ (r = [] ∧ y.length ≤ s)) : chunkL s i (p ++ (y ++ r)) = y := by
  unfold chunkL
  rw [← hp, List.drop_left]
  rcases hy with h | ⟨rfl, h⟩
  · rw [← h, List.take_left]
  · rw [List.append_nil, List.take_of_length_le h]
theorem chunk_two (s k : Nat) (l : List Hld) : chunkL (2 * s) k l = chunkL s (2 * k) l ++ chunkL s (2 * k + 1) l := by
  unfold chunkL
  rw [show k * (2 * s) = 2 * k * s by rw [← Nat.mul_assoc, Nat.mul_comm k 2], show (2 * k + 1) * s = 2 * k * s + s by rw [Nat.add_mul, Nat.one_mul], Nat.two_mul s, List.take_add, List.drop_drop]
theorem chunk_none {s i : Nat} {l : List Hld} (h : l.length ≤ i * s) : chunkL s i l = [] := by unfold chunkL; rw [List.drop_of_length_le h, List.take_nil]
theorem chunk_all {s : Nat} {l : List Hld} (h : l.length ≤ s) : chunkL s 0 l = l := by unfold chunkL; rw [Nat.zero_mul, List.drop_zero, List.take_of_length_le h]
theorem Stab.nil : Stab [] [] := Stab.refl List.Pairwise.nil
/-- Blocks of s, the first k sorted; the others as they were. -/
structure Ini (s k : Nat) (l m : List Hld) : Prop where
  len : m.length = l.length
  done : ∀ i, i < k → Stab (chunkL s i l) (chunkL s i m)
  left : ∀ i, k ≤ i → chunkL s i m = chunkL s i l
/-- All blocks of s sorted. -/
structure Parts (s : Nat) (l m : List Hld) : Prop where
  len : m.length = l.length
  done : ∀ i, Stab (chunkL s i l) (chunkL s i m)
/-- The first k of 2 s; behind these those of s. -/
structure Mix (s k : Nat) (l m : List Hld) : Prop where
  len : m.length = l.length
  done : ∀ i, i < k → Stab (chunkL (2 * s) i l) (chunkL (2 * s) i m)
  left : ∀ i, 2 * k ≤ i → Stab (chunkL s i l) (chunkL s i m)
theorem Ini.start (s : Nat) (l : List Hld) : Ini s 0 l l := ⟨rfl, fun i h => absurd h (Nat.not_lt_zero i), fun _ _ => rfl⟩
theorem Ini.step {s k : Nat} {l p x r y : List Hld} (h : Ini s k l (p ++ (x ++ r))) (hp : p.length = k * s) (hx : x.length = s ∨ (r = [] ∧ x.length ≤ s)) (hy : Stab x y) : Ini s (k + 1) l (p ++ (y ++ r)) := by
  have hyl : y.length = x.length := hy.perm.length_eq
  refine ⟨?_, fun i hi => ?_, fun i hi => ?_⟩
  · rw [← h.len]; simp [hyl]
  · by_cases e : i = k
    · subst e
      rw [chunk_mid hp (by rw [hyl]; exact hx), ← h.left i (Nat.le_refl _), chunk_mid hp hx]
      exact hy
    · rw [chunk_left (x := x) (by rw [hp]; have : (i + 1) * s ≤ k * s := Nat.mul_le_mul_right s (by omega); rw [Nat.add_mul] at this; omega)]
      exact h.done i (by omega)
  · rcases hx with hx | ⟨rfl, hx⟩
    · rw [chunk_right hyl (by rw [hp, hx]; have : (k + 1) * s ≤ i * s := Nat.mul_le_mul_right s hi; rw [Nat.add_mul] at this; omega)]
      exact h.left i (by omega)
    · have hle : (k + 1) * s ≤ i * s := Nat.mul_le_mul_right s hi
      rw [Nat.add_mul] at hle
      rw [← h.left i (by omega), chunk_none (by simp; omega), chunk_none (by simp; omega)]
theorem Ini.parts {s k : Nat} {l m : List Hld} (h : Ini s k l m) (hk : l.length ≤ k * s) : Parts s l m := ⟨h.len, fun i => by
  by_cases hi : i < k
  · exact h.done i hi
  · have : k * s ≤ i * s := Nat.mul_le_mul_right s (by omega)
    rw [chunk_none (by omega), chunk_none (by rw [h.len]; omega)]; exact Stab.nil⟩
theorem Parts.mix {s : Nat} {l m : List Hld} (h : Parts s l m) : Mix s 0 l m := ⟨h.len, fun i hi => absurd hi (Nat.not_lt_zero i), fun i _ => h.done i⟩
theorem Parts.all {s : Nat} {l m : List Hld} (h : Parts s l m) (hs : l.length ≤ s) : Stab l m := by
  have := h.done 0
  rw [chunk_all hs, chunk_all (by rw [h.len]; exact hs)] at this
  exact this
theorem Stab.two {a b x y z : List Hld} (h : Stab a x) (k : Stab b y) (hz : Stab (x ++ y) z) : Stab (a ++ b) z := Stab.trans' (h.perm.append k.perm) (h.same.append k.same) hz
theorem Mix.step {s k : Nat} {l p A B r M : List Hld} (h : Mix s k l (p ++ ((A ++ B) ++ r))) (hp : p.length = k * (2 * s)) (hA : A.length = s) (hB : B.length = s ∨ (r = [] ∧ B.length ≤ s)) (hM : Stab (A ++ B) M) : Mix s (k + 1) l (p ++ (M ++ r)) := by
  have hml : M.length = (A ++ B).length := hM.perm.length_eq
  have hab : (A ++ B).length = 2 * s ∨ (r = [] ∧ (A ++ B).length ≤ 2 * s) := by
    rw [List.length_append, hA]
    rcases hB with h | ⟨h1, h2⟩
    · left; omega
    · exact .inr ⟨h1, by omega⟩
  refine ⟨?_, fun i hi => ?_, fun i hi => ?_⟩
  · rw [← h.len]; simp [hml]; omega
  · by_cases e : i = k
    · subst e
      rw [chunk_mid hp (by rw [hml]; exact hab)]
      have hmid := chunk_mid (y := A ++ B) (r := r) hp hab
      rw [chunk_two] at hmid ⊢
      have c1 := h.left (2 * i) (Nat.le_refl _)
      have c2 := h.left (2 * i + 1) (by omega)
      exact Stab.two c1 c2 (by rw [hmid]; exact hM)
    · rw [chunk_left (x := A ++ B) (by rw [hp]; have : (i + 1) * (2 * s) ≤ k * (2 * s) := Nat.mul_le_mul_right _ (by omega); rw [Nat.add_mul] at this; omega)]
      exact h.done i (by omega)
  · have hle : 2 * (k + 1) * s ≤ i * s := Nat.mul_le_mul_right s hi
    have e2 : 2 * (k + 1) * s = k * (2 * s) + 2 * s := by rw [Nat.mul_add, Nat.add_mul, Nat.mul_one, Nat.mul_comm 2 k, Nat.mul_assoc]
    rw [e2] at hle
    rcases hab with hx | ⟨rfl, hx⟩
    · rw [chunk_right (x := A ++ B) hml (by rw [hp, hx]; exact hle)]
      exact h.left i (by omega)
    · have hn := h.len
      rw [List.append_nil, List.length_append] at hn
      rw [chunk_none (by omega), chunk_none (by rw [List.append_nil, List.length_append, hml]; omega)]; exact Stab.nil
theorem Mix.parts {s k : Nat} {l m : List Hld} (h : Mix s k l m) (hk : l.length ≤ k * (2 * s) + s) : Parts (2 * s) l m := ⟨h.len, fun i => by
  by_cases hi : i < k
  · exact h.done i hi
  · have : k * (2 * s) ≤ i * (2 * s) := Nat.mul_le_mul_right _ (by omega)
    have e2 : (2 * i + 1) * s = i * (2 * s) + s := by rw [Nat.add_mul, Nat.one_mul, Nat.mul_comm 2 i, Nat.mul_assoc]
    rw [chunk_two, chunk_two, chunk_none (i := 2 * i + 1) (by omega), chunk_none (i := 2 * i + 1) (l := m) (by rw [h.len]; omega), List.append_nil, List.append_nil]
    exact h.left (2 * i) (by omega)⟩
theorem Mix.sorted {s k : Nat} {l m : List Hld} (h : Mix s k l m) : SortedH (chunkL s (2 * k) m) ∧ SortedH (chunkL s (2 * k + 1) m) := ⟨(h.left _ (Nat.le_refl _)).sort, (h.left _ (by omega)).sort⟩
/-- A list in its parts. -/
theorem cut_four (m : List Hld) (a s : Nat) : m = m.take a ++ (((m.drop a).take s ++ (m.drop (a + s)).take s) ++ m.drop (a + s + s)) := by
  have e1 : m.drop (a + s) = (m.drop (a + s)).take s ++ m.drop (a + s + s) := by rw [← List.drop_drop (i := s) (j := a + s)]; exact (List.take_append_drop _ _).symm
  have e2 : m.drop a = (m.drop a).take s ++ m.drop (a + s) := by rw [← List.drop_drop (i := s) (j := a)]; exact (List.take_append_drop _ _).symm
  rw [List.append_assoc, ← e1, ← e2, List.take_append_drop]
end Go.Proofs.YthbmaloajgkhmaaGreatDoor


namespace Go.Proofs.YthbmaloajgkhmaaGreatDoor
open Go Go.RowKit Go.Maps Go.Sort

theorem ld_row {w W : World} {B g n c i : Nat} {L : List Hld} (h : NewH B w (.slice (some ⟨g, 0, none⟩) n c) L) (hi : i < L.length) (hW : Below w.heap.size w W) : (Instr.loadAt 35 (.pointer (some ⟨g, 0 + i * 3, none⟩))).run Tryz.prog W = .ok (.agg (heldC (L.getD i noHld)).toArray) W := by
  obtain ⟨h0, h1, h2⟩ := HldsR.cells h.rd i hi
  exact l_held W g (0 + i * 3) _ (cell_to h0 hW) (cell_to h1 hW) (cell_to h2 hW)
theorem below_grow (W : World) (q : Nat) (os : Array Obj) : Below W.heap.size W (grow (W.drewN q) os) := by
  refine ⟨rfl, rfl, rfl, ?_, fun k hk => ?_⟩
  · simp
  · rw [heap_grow_old _ _ (by simpa using hk)]; rfl
theorem cmp_b (x y : Hld) (W : World) (z : Int) (hz : cmpH x y = z) : Calls Tryz.prog 37 #[.agg (heldC x).toArray, .agg (heldC y).toArray] W fun e w' => e = .returned (.int .i64 z) ∧ Below W.heap.size W w' := by
  refine (cmp_any x y W).mono ?_
  rintro e w' ⟨rfl, q, os, rfl⟩
  exact ⟨by rw [hz], below_grow W q os⟩
theorem cmp_z (x y : Hld) : ∃ z, cmpH x y = z ∧ (decide (z < 0) = ltH x y) := ⟨_, rfl, by rw [← lt_cmp]; rfl⟩


theorem lss0 (W : World) (z : Int) (b : Bool) (h : decide (z < 0) = b) : (binOp .lss 3 (.int .i64 z) (.int .i64 0)).run Tryz.prog W = .ok (.bool b) W := by
  cases b with
  | true =>
    have h1 := of_decide_eq_true h
    simp [go_sem, h1]
  | false =>
    have h1 := of_decide_eq_false h
    simp [go_sem]; omega
/-- What a merge leaves. -/
def MergePost (B g c n : Nat) (p A Bl r : List Hld) (w : World) (e : Ending) (w' : World) : Prop := e = .returned (.tuple #[]) ∧ ∃ M, Stab (A ++ Bl) M ∧ NewH B w' (.slice (some ⟨g, 0, none⟩) n c) (p ++ (M ++ r)) ∧ But (fun q => q = g) w w'
def LessTo (Bl : List Hld) (x : Hld) (t : Nat) : Prop := t = 0 ∨ (t ≤ Bl.length ∧ (Bl.getD (t - 1) noHld).id < x.id)
def MoreFrom (Bl : List Hld) (x : Hld) (u : Nat) : Prop := Bl.length ≤ u ∨ ¬ (Bl.getD u noHld).id < x.id
def LeqTo (A : List Hld) (y : Hld) (t : Nat) : Prop := t = 0 ∨ (t ≤ A.length ∧ ¬ y.id < (A.getD (t - 1) noHld).id)
def GtFrom (A : List Hld) (y : Hld) (u : Nat) : Prop := A.length ≤ u ∨ y.id < (A.getD u noHld).id
theorem ltH_t {x y : Hld} (h : ltH x y = true) : x.id < y.id := of_decide_eq_true (show decide (_ < _) = true from h)
theorem ltH_f {x y : Hld} (h : ltH x y = false) : ¬ x.id < y.id := of_decide_eq_false (show decide (_ < _) = false from h)
/-- Elements i, i + 1 changed. -/
theorem own_len {w : World} {B g n c : Nat} {L : List Hld} (h : NewH B w (.slice (some ⟨g, 0, none⟩) n c) L) : n = L.length := by obtain ⟨cur, hn, _⟩ := cells_of_own h; exact hn
theorem mid_l {p Bl r : List Hld} {x : Hld} {a m b h : Nat} (hm : m ≤ h) (ha : a = p.length) (hm2 : m = a + 1) (hb : b = m + Bl.length) (hj : h < b) : (p ++ ([x] ++ (Bl ++ r))).getD h noHld = Bl.getD (h - m) noHld := by
  obtain ⟨q, rfl⟩ : ∃ q, h = m + q := ⟨h - m, by omega⟩
  subst hm2 ha
  rw [Nat.add_sub_cancel_left, getD_right (by omega), show p.length + 1 + q - p.length = q + 1 by omega, List.singleton_append, List.getD_cons_succ, getD_left (by omega)]
theorem mid_r1 {p A r : List Hld} {y : Hld} {a m : Nat} (ha : a = p.length) (hm : m = a + A.length) : (p ++ (A ++ ([y] ++ r))).getD m noHld = y := by
  subst hm ha
  rw [getD_right (by omega), show p.length + A.length - p.length = A.length by omega, getD_right (Nat.le_refl _), Nat.sub_self]; rfl
theorem mid_r2 {p A r : List Hld} {y : Hld} {a m h : Nat} (ha : a = p.length) (hm : m = a + A.length) (h1 : a ≤ h) (h2 : h < m) : (p ++ (A ++ ([y] ++ r))).getD h noHld = A.getD (h - a) noHld := by
  subst ha
  rw [getD_right h1, getD_left (by omega)]
theorem own_fz {w : World} {B g n c : Nat} {L : List Hld} (h : NewH B w (.slice (some ⟨g, 0, none⟩) n c) L) (i : Nat) : w.frozen? ⟨g, i, none⟩ = false := by
  obtain ⟨cur, _, _, hg, _⟩ := cells_of_own h
  exact frozen_of hg
end Go.Proofs.YthbmaloajgkhmaaGreatDoor


namespace Go.Proofs.YthbmaloajgkhmaaGreatDoor
open Go Go.RowKit Go.Maps Go.Sort

set_option maxHeartbeats 8000000 in
set_option maxRecDepth 100000 in
theorem merge_left {w : World} {B g c n a m b : Nat} {p Bl r : List Hld} {x : Hld} (h0 : 0 < Bl.length) (hB : SortedH Bl) (h : NewH B w (.slice (some ⟨g, 0, none⟩) n c) (p ++ ([x] ++ (Bl ++ r)))) (hn : n ≤ 1000000) (ha : a = p.length) (hm : m = a + 1) (hb : b = m + Bl.length) :
    Calls Tryz.prog 87 #[.slice (some ⟨g, 0, none⟩) n c, .int .i64 (a : Int), .int .i64 (m : Int), .int .i64 (b : Int), .func (.func 37) #[] #[]] w (MergePost B g c n p [x] Bl r w) := by
  obtain ⟨L, hLe⟩ : ∃ L, L = p ++ ([x] ++ (Bl ++ r)) := ⟨_, rfl⟩
  rw [← hLe] at h
  have hnl := own_len h
  have hlen : n = p.length + 1 + Bl.length + r.length := by rw [hnl, hLe]; simp; omega
  have e1 : (m : Int) - (a : Int) = 1 := by omega
  have hmb : m ≤ b := by omega
  have hbn : b ≤ n := by omega
  have ham : a < m := by omega
  have H := Lib.hid h; have HLe := Lib.hid hLe; have HA := Lib.hid ha; have HBb := Lib.hid hb; have HLen := Lib.hid hlen; have HBs := Lib.hid hB; have HM : Hid (m = a + 1) := Lib.hid hm
  clear h hLe hnl hlen ha hb hB hm h0
  go_enter Tryz.func87, Tryz.ntmps87
  go_wp2_with fail
  clear e1
  go_loopw [10, 11, 12] (fun iv jv _ wr => ∃ i j : Nat, m ≤ i ∧ i ≤ j ∧ j ≤ b ∧ iv = .int .i64 i ∧ jv = .int .i64 j ∧ Hid (LessTo Bl x (i - m)) ∧ Hid (MoreFrom Bl x (j - m)) ∧ Hid (NewH B wr (.slice (some ⟨g, 0, none⟩) n c) L) ∧ Hid (But (fun q => q = g) w wr)) (fun iv jv _ _ => (intOf jv).toNat - (intOf iv).toNat)
  case atStart => exact ⟨m, b, Nat.le_refl _, hmb, Nat.le_refl _, rfl, rfl, Lib.hid (.inl (by omega)), Lib.hid (.inl (by have := HBb.out; omega)), H, Lib.hid (But.refl _ _)⟩
  case round =>
    clear H
    obtain ⟨i, j, hmi, hij, hjb, rfl, rfl, hT, hU, hN, hBt⟩ := hrel
    by_cases hlt : i < j
    · obtain ⟨h, hh⟩ : ∃ h, h = (i + j) / 2 := ⟨_, rfl⟩
      have hs9 : h < j := by omega
      have hs8 : i ≤ h := by omega
      have hmi9 : m ≤ h := by omega
      obtain ⟨s, hs⟩ : ∃ s, s = i + j := ⟨_, rfl⟩
      have s1 : IntKind.i64.wrap ((i : Int) + (j : Int)) = (s : Int) := by rw [show ((i : Int) + (j : Int)) = (s : Int) by omega]; exact IntWalk.i64_in _ (by omega)
      have s2 : IntKind.u64.wrap (s : Int) = (s : Int) := by exact IntWalk.u64_in _ (by omega)
      have s3 : (s : Int) / 2 = (h : Int) := by omega
      have s4 : IntKind.i64.wrap (h : Int) = (h : Int) := IntWalk.i64_in _ (by omega)
      clear hs hh
      go_upto_region 5 with fail
      clear s1 s2 s3 s4
      have hL1 : L.getD h noHld = Bl.getD (h - m) noHld := by rw [HLe.out]; exact mid_l hmi9 HA.out HM.out HBb.out (by omega)
      have hL2 : L.getD a noHld = x := by rw [HLe.out, HA.out]; simp [List.getD_eq_getElem?_getD]
      obtain ⟨y, hy⟩ : ∃ y, y = Bl.getD (h - m) noHld := ⟨_, rfl⟩
      rw [← hy] at hL1
      have hr1 := fun W (hW : Below wr.heap.size wr W) => ld_row hN.out (i := h) (by rw [← own_len hN.out]; omega) hW
      have hr2 := fun W (hW : Below wr.heap.size wr W) => ld_row hN.out (i := a) (by rw [← own_len hN.out]; omega) hW
      rw [hL1] at hr1
      rw [hL2] at hr2
      have R1 := Lib.hid hr1; have R2 := Lib.hid hr2
      obtain ⟨z, hz, hzb⟩ := cmp_z y x
      have HC := Lib.hid (fun W => cmp_b y x W z hz)
      clear hr1 hr2 hL1 hL2 hz
      cases hlt9 : ltH y x with
      | true =>
        rw [hlt9] at hzb
        refine AnyK.start wr.heap.size wr (by kernel_rfl) ?_
        have LD := Lib.hid (show Below wr.heap.size wr wr.drew from (Below.refl _ _).drew)
        generalize wr.drew = wd at LD ⊢
        refine AnyK.take 0 (.func (.func 37) #[] #[]) LD.out rfl (by kernel_rfl) (by kernel_rfl) (by kernel_rfl) (fun _ _ _ h => h) (by kernel_rfl) (fun W hW => by kernel_rfl) ?_
        refine AnyK.take 1 (.slice (some ⟨g, 0, none⟩) n c) LD.out rfl (by kernel_rfl) (by kernel_rfl) (by kernel_rfl) (fun _ _ _ h => h) (by kernel_rfl) (fun W hW => by kernel_rfl) ?_
        refine AnyK.take 2 (.int .i64 (h : Int)) LD.out rfl (by kernel_rfl) (by kernel_rfl) (by kernel_rfl) (fun _ _ _ h => h) (by kernel_rfl) (fun W hW => by kernel_rfl) ?_
        refine AnyK.take 3 (.pointer (some ⟨g, 0 + h * 3, none⟩)) LD.out rfl (by kernel_rfl) (by kernel_rfl) (by kernel_rfl) (fun _ _ _ h => h) (by kernel_rfl) (fun W hW => y_index (sv := .slice (some ⟨g, 0, none⟩) n c) (iv := .int .i64 (h : Int)) rfl (by kernel_rfl) (by kernel_rfl) (at_held W g 0 n c h (by omega))) ?_
        refine AnyK.take 4 (.agg (heldC y).toArray) LD.out rfl (by kernel_rfl) (by kernel_rfl) (by kernel_rfl) (fun _ _ _ h => h) (by kernel_rfl) (fun W hW => y_load (sv := .pointer (some ⟨g, 0 + h * 3, none⟩)) rfl (by kernel_rfl) (R1.out W hW)) ?_
        refine AnyK.take 5 (.slice (some ⟨g, 0, none⟩) n c) LD.out rfl (by kernel_rfl) (by kernel_rfl) (by kernel_rfl) (fun _ _ _ h => h) (by kernel_rfl) (fun W hW => by kernel_rfl) ?_
        refine AnyK.take 6 (.int .i64 (a : Int)) LD.out rfl (by kernel_rfl) (by kernel_rfl) (by kernel_rfl) (fun _ _ _ h => h) (by kernel_rfl) (fun W hW => by kernel_rfl) ?_
        refine AnyK.take 7 (.pointer (some ⟨g, 0 + a * 3, none⟩)) LD.out rfl (by kernel_rfl) (by kernel_rfl) (by kernel_rfl) (fun _ _ _ h => h) (by kernel_rfl) (fun W hW => y_index (sv := .slice (some ⟨g, 0, none⟩) n c) (iv := .int .i64 (a : Int)) rfl (by kernel_rfl) (by kernel_rfl) (at_held W g 0 n c a (by omega))) ?_
        refine AnyK.take 8 (.agg (heldC x).toArray) LD.out rfl (by kernel_rfl) (by kernel_rfl) (by kernel_rfl) (fun _ _ _ h => h) (by kernel_rfl) (fun W hW => y_load (sv := .pointer (some ⟨g, 0 + a * 3, none⟩)) rfl (by kernel_rfl) (R2.out W hW)) ?_
        refine AnyK.call 9 37 #[.agg (heldC y).toArray, .agg (heldC x).toArray] (by kernel_rfl) rfl (by kernel_rfl) (by kernel_rfl) ((HC.out wd).mono ?_)
        rintro e w2 ⟨rfl, l9⟩
        have L2 := LD.out.trans (l9.mono LD.out.size)
        refine ⟨_, rfl, L2, ?_⟩
        refine AnyK.take 10 (.bool true) L2 rfl (by kernel_rfl) (by kernel_rfl) (by kernel_rfl) (fun _ _ _ h => h) (by kernel_rfl) (fun W hW => y_bin (x := .int .i64 z) (y := .int .i64 0) rfl (by kernel_rfl) (by kernel_rfl) rfl (lss0 W z _ hzb)) ?_
        refine AnyK.done _ (by kernel_rfl) ?_
        have HN2 : Hid (NewH B w2 (.slice (some ⟨g, 0, none⟩) n c) L) := Lib.hid (OwK.below hN.out L2 (Nat.le_refl _))
        have HB2 : Hid (But (fun q => q = g) w w2) := Lib.hid (hBt.out.trans (But.of_new L2))
        clear l9 LD L2 HC R1 R2 hzb
        go_simp
        have HT : Hid (LessTo Bl x (h + 1 - m)) := Lib.hid (.inr ⟨by have := HBb.out; omega, by rw [show h + 1 - m - 1 = h - m by omega, ← hy]; exact ltH_t hlt9⟩)
        clear hlt9 hy hN hBt hT y
        go_wp2_with fail
        go_roundw
        case rel => exact ⟨h + 1, j, by omega, by omega, hjb, by go_num, rfl, HT, hU, HN2, HB2⟩
        case measure => simp [intOf]; omega
      | false =>
        rw [hlt9] at hzb
        refine AnyK.start wr.heap.size wr (by kernel_rfl) ?_
        have LD := Lib.hid (show Below wr.heap.size wr wr.drew from (Below.refl _ _).drew)
        generalize wr.drew = wd at LD ⊢
        refine AnyK.take 0 (.func (.func 37) #[] #[]) LD.out rfl (by kernel_rfl) (by kernel_rfl) (by kernel_rfl) (fun _ _ _ h => h) (by kernel_rfl) (fun W hW => by kernel_rfl) ?_
        refine AnyK.take 1 (.slice (some ⟨g, 0, none⟩) n c) LD.out rfl (by kernel_rfl) (by kernel_rfl) (by kernel_rfl) (fun _ _ _ h => h) (by kernel_rfl) (fun W hW => by kernel_rfl) ?_
        refine AnyK.take 2 (.int .i64 (h : Int)) LD.out rfl (by kernel_rfl) (by kernel_rfl) (by kernel_rfl) (fun _ _ _ h => h) (by kernel_rfl) (fun W hW => by kernel_rfl) ?_
        refine AnyK.take 3 (.pointer (some ⟨g, 0 + h * 3, none⟩)) LD.out rfl (by kernel_rfl) (by kernel_rfl) (by kernel_rfl) (fun _ _ _ h => h) (by kernel_rfl) (fun W hW => y_index (sv := .slice (some ⟨g, 0, none⟩) n c) (iv := .int .i64 (h : Int)) rfl (by kernel_rfl) (by kernel_rfl) (at_held W g 0 n c h (by omega))) ?_
        refine AnyK.take 4 (.agg (heldC y).toArray) LD.out rfl (by kernel_rfl) (by kernel_rfl) (by kernel_rfl) (fun _ _ _ h => h) (by kernel_rfl) (fun W hW => y_load (sv := .pointer (some ⟨g, 0 + h * 3, none⟩)) rfl (by kernel_rfl) (R1.out W hW)) ?_
        refine AnyK.take 5 (.slice (some ⟨g, 0, none⟩) n c) LD.out rfl (by kernel_rfl) (by kernel_rfl) (by kernel_rfl) (fun _ _ _ h => h) (by kernel_rfl) (fun W hW => by kernel_rfl) ?_
        refine AnyK.take 6 (.int .i64 (a : Int)) LD.out rfl (by kernel_rfl) (by kernel_rfl) (by kernel_rfl) (fun _ _ _ h => h) (by kernel_rfl) (fun W hW => by kernel_rfl) ?_
        refine AnyK.take 7 (.pointer (some ⟨g, 0 + a * 3, none⟩)) LD.out rfl (by kernel_rfl) (by kernel_rfl) (by kernel_rfl) (fun _ _ _ h => h) (by kernel_rfl) (fun W hW => y_index (sv := .slice (some ⟨g, 0, none⟩) n c) (iv := .int .i64 (a : Int)) rfl (by kernel_rfl) (by kernel_rfl) (at_held W g 0 n c a (by omega))) ?_
        refine AnyK.take 8 (.agg (heldC x).toArray) LD.out rfl (by kernel_rfl) (by kernel_rfl) (by kernel_rfl) (fun _ _ _ h => h) (by kernel_rfl) (fun W hW => y_load (sv := .pointer (some ⟨g, 0 + a * 3, none⟩)) rfl (by kernel_rfl) (R2.out W hW)) ?_
        refine AnyK.call 9 37 #[.agg (heldC y).toArray, .agg (heldC x).toArray] (by kernel_rfl) rfl (by kernel_rfl) (by kernel_rfl) ((HC.out wd).mono ?_)
        rintro e w2 ⟨rfl, l9⟩
        have L2 := LD.out.trans (l9.mono LD.out.size)
        refine ⟨_, rfl, L2, ?_⟩
        refine AnyK.take 10 (.bool false) L2 rfl (by kernel_rfl) (by kernel_rfl) (by kernel_rfl) (fun _ _ _ h => h) (by kernel_rfl) (fun W hW => y_bin (x := .int .i64 z) (y := .int .i64 0) rfl (by kernel_rfl) (by kernel_rfl) rfl (lss0 W z _ hzb)) ?_
        refine AnyK.done _ (by kernel_rfl) ?_
        have HN2 : Hid (NewH B w2 (.slice (some ⟨g, 0, none⟩) n c) L) := Lib.hid (OwK.below hN.out L2 (Nat.le_refl _))
        have HB2 : Hid (But (fun q => q = g) w w2) := Lib.hid (hBt.out.trans (But.of_new L2))
        clear l9 LD L2 HC R1 R2 hzb
        go_simp
        have HU : Hid (MoreFrom Bl x (h - m)) := Lib.hid (.inr (by rw [← hy]; exact ltH_f hlt9))
        clear hlt9 hy hN hBt hU y
        go_wp2_with fail
        go_roundw
        case rel => exact ⟨i, h, hmi, by omega, by omega, rfl, rfl, hT, HU, HN2, HB2⟩
        case measure => simp [intOf]; omega

    obtain rfl : i = j := by omega
    obtain ⟨t, rfl⟩ : ∃ t, i = m + t := ⟨i - m, by omega⟩
    have htl : t ≤ Bl.length := by have := HBb.out; omega
    have hT2 := hT.out; have hU2 := hU.out
    rw [Nat.add_sub_cancel_left] at hT2 hU2
    obtain ⟨b1, hb1⟩ : ∃ b1, b1 = Bl.take t := ⟨_, rfl⟩
    obtain ⟨b2, hb2⟩ : ∃ b2, b2 = Bl.drop t := ⟨_, rfl⟩
    have hbb : Bl = b1 ++ b2 := by rw [hb1, hb2, List.take_append_drop]
    have hl1 : b1.length = t := by rw [hb1, List.length_take]; omega
    have HSt : Hid (Stab ([x] ++ Bl) (b1 ++ ([x] ++ b2))) := Lib.hid (by
      have h1 := sorted_less HBs.out hT2
      have h2 := sorted_more HBs.out hU2
      rw [← hb1] at h1
      rw [← hb2] at h2
      have hs := HBs.out
      rw [hbb] at hs ⊢
      exact stab_one_left hs h1 h2)
    have HN0 : Hid (NewH B wr (.slice (some ⟨g, 0, none⟩) n c) (leadK p x b1 (b2 ++ r) 0)) := Lib.hid (by
      rw [leadK_zero]
      have h := hN.out
      rw [HLe.out, hbb, List.append_assoc] at h
      exact h)
    have Hl1 := Lib.hid hl1
    have HBt := Lib.hid hBt.out
    have hlI : ¬ (((m + t : Nat) : Int) < ((m + t : Nat) : Int)) := by omega
    have hLen2 : Hid (n = p.length + 1 + t + (b2 ++ r).length) := Lib.hid (by have := HLen.out; rw [hbb] at this; simp at this ⊢; omega)
    have hat : a + t < n := by have := hLen2.out; have := HA.out; omega
    obtain ⟨k9, hk9⟩ : ∃ k9, k9 = m + t := ⟨_, rfl⟩
    rw [← hk9] at hlI ⊢
    have e9 : IntKind.i64.wrap ((k9 : Int) - 1) = ((a + t : Nat) : Int) := by rw [show ((k9 : Int) - 1) = ((a + t : Nat) : Int) by have := HM.out; omega]; exact IntWalk.i64_in _ (by omega)
    obtain ⟨q9, hq9⟩ : ∃ q9, q9 = a + t := ⟨_, rfl⟩
    rw [← hq9] at e9 hat
    have HQ9 := Lib.hid hq9
    clear hT hU hT2 hU2 hN hBt hb1 hb2 hbb hl1 hij hlt htl hk9 hq9 HBs
    go_wp2_with fail
    go_loopw [13] (fun kv wx => ∃ s : Nat, s ≤ t ∧ kv = .int .i64 ((a + s : Nat) : Int) ∧ Hid (NewH B wx (.slice (some ⟨g, 0, none⟩) n c) (leadK p x b1 (b2 ++ r) s)) ∧ Hid (But (fun q => q = g) w wx)) (fun kv _ => q9 - (intOf kv).toNat)
    case atStart => exact ⟨0, Nat.zero_le _, rfl, HN0, HBt⟩
    case round =>
      clear HN0 HBt
      obtain ⟨s, hs, rfl, hN, hBt⟩ := hrel
      obtain ⟨k, hk⟩ : ∃ k, k = a + s := ⟨_, rfl⟩
      rw [← hk]
      by_cases hlt : k < q9
      · have hst9 : s < t := by have := HQ9.out; omega
        have hsl : s < b1.length := by rw [Hl1.out]; exact hst9
        have hll := leadK_len (p := p) (x := x) (r := b2 ++ r) (Nat.le_of_lt hsl)
        have c1 := HldsR.cells hN.out.rd k (by rw [← own_len hN.out]; omega)
        have c2 := HldsR.cells hN.out.rd (k + 1) (by rw [← own_len hN.out]; omega)
        have hkp : k = p.length + s := by rw [hk, HA.out]
        rw [hkp, leadK_here (Nat.le_of_lt hsl), ← hkp, Nat.zero_add] at c1
        rw [hkp, leadK_next hsl, ← hkp, Nat.zero_add] at c2
        obtain ⟨c10, c11, c12⟩ := c1
        obtain ⟨c20, c21, c22⟩ := c2
        have hst := leadK_step (p := p) (x := x) (r := b2 ++ r) hsl
        rw [← hkp] at hst
        have hw2 : NewH B ((wr.setCells g (k * 3) (heldC (b1.getD s noHld))).setCells g ((k + 1) * 3) (heldC x)) (.slice (some ⟨g, 0, none⟩) n c) (leadK p x b1 (b2 ++ r) (s + 1)) := by
          rw [← hst]
          exact set_own (set_own hN.out (by rw [← own_len hN.out]; omega) _) (by rw [List.length_set, ← own_len hN.out]; omega) _
        have hb2 : But (fun q => q = g) w ((wr.setCells g (k * 3) (heldC (b1.getD s noHld))).setCells g ((k + 1) * 3) (heldC x)) := (hBt.out.trans (but_setCells (S := fun q => q = g) rfl _ _ _)).trans (but_setCells (S := fun q => q = g) rfl _ _ _)
        have f := fun i => own_fz hN.out i
        have f10 := f (k * 3); have f11 := f (k * 3 + 1); have f12 := f (k * 3 + 2)
        have f20 := f ((k + 1) * 3); have f21 := f ((k + 1) * 3 + 1); have f22 := f ((k + 1) * 3 + 2)
        obtain ⟨v, hv⟩ : ∃ v, v = b1.getD s noHld := ⟨_, rfl⟩
        rw [← hv] at c20 c21 c22 hw2 hb2
        obtain ⟨ui, uk, ud⟩ := x
        obtain ⟨vi, vk, vd⟩ := v
        unfold SV at c10 c12 c20 c22
        simp only at c10 c11 c12 c20 c21 c22
        have hch : (wr.setCells g (k * 3) (heldC ⟨vi, vk, vd⟩)).setCells g ((k + 1) * 3) (heldC ⟨ui, uk, ud⟩) =
            (((((wr.setCell ⟨g, k * 3, none⟩ (.string ⟨vi.toArray⟩)).setCell ⟨g, k * 3 + 1, none⟩ (.int .i64 vk)).setCell ⟨g, k * 3 + 2, none⟩ (.string ⟨vd.toArray⟩)).setCell ⟨g, (k + 1) * 3, none⟩ (.string ⟨ui.toArray⟩)).setCell ⟨g, (k + 1) * 3 + 1, none⟩ (.int .i64 uk)).setCell ⟨g, (k + 1) * 3 + 2, none⟩ (.string ⟨ud.toArray⟩) := rfl
        rw [hch] at hw2 hb2
        have HW2 := Lib.hid hw2; have HB2 := Lib.hid hb2
        have w1 : IntKind.i64.wrap ((k : Int) + 1) = ((k + 1 : Nat) : Int) := by rw [show ((k : Int) + 1) = ((k + 1 : Nat) : Int) by omega]; exact IntWalk.i64_in _ (by omega)
        have i1 : (k : Int) < (n : Int) := by omega
        have i2 : ((k + 1 : Nat) : Int) < (n : Int) := by omega
        have hkI : (k : Int) < (q9 : Int) := by omega
        have HK := Lib.hid hk
        clear hw2 hb2 hst hv hll f hch hk hkp hN hBt hlI
        go_upto_region 11 with fail
        go_big_region
        clear c10 c11 c12 c20 c21 c22 f10 f11 f12 f20 f21 f22 i1 i2
        go_wp2_with fail
        have HW3 := Lib.hid (HW2.out.below (Below.refl _ _).drew (Nat.le_refl _))
        have HB3 := Lib.hid HB2.out.drew
        exact ⟨⟨s + 1, hst9, by rw [HK.out]; go_num, HW3, HB3⟩, by simp [intOf]; omega⟩
      · obtain rfl : s = t := by have := HQ9.out; omega
        have hf := hN.out
        have e := leadK_end p x b1 (b2 ++ r)
        rw [Hl1.out] at e
        rw [e] at hf
        have HF : Hid (NewH B wr (.slice (some ⟨g, 0, none⟩) n c) (p ++ ((b1 ++ ([x] ++ b2)) ++ r))) := Lib.hid (by simpa [List.append_assoc] using hf)
        have hkI : ¬ (k : Int) < (q9 : Int) := by omega
        clear hf e hk hN
        go_wp2_with fail
        go_end0
        exact ⟨rfl, _, HSt.out, HF.out, hBt.out⟩
end Go.Proofs.YthbmaloajgkhmaaGreatDoor
