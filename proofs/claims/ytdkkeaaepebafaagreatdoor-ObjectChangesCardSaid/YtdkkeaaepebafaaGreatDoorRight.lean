/-
  wants of a blob, of what is no kind; Right, Wants.
-/
import Derived.Test.YtdkkeaaepebafaaGreatDoorWants
namespace Go.Proofs.YtdkkeaaepebafaaGreatDoor
open Go Go.RowKit Go.Shelf

set_option maxRecDepth 100000 in
set_option maxHeartbeats 4000000 in
theorem wants_1 (d : List UInt8) (hs : d.length ≤ 100000) (w : World) (he : Eb w) :
    Calls Tryz.prog 37 #[ObjV 1 d] w (WtPost (wantsO 1 d) w) := by
  have B0 := below_new w (.cells #[.int .i64 1, .string ⟨d.toArray⟩] 23)
  have HB0 := Lib.hid B0
  obtain ⟨pe, c0⟩ := (he.below B0).er.over
  have hwd := fun W => word_any 1 W
  unfold SV at hwd
  obtain ⟨kw, hkw⟩ : ∃ kw : ByteArray, kw = ⟨(kindW 1).toArray⟩ := ⟨_, rfl⟩
  rw [← hkw] at hwd
  have HWd := Lib.hid hwd
  have HWn := Lib.hid (fun W => within_nil (.string kw) W)
  have HWs := Lib.hid (fun (p : Addr) W => within_some kw (.iface 92 (.pointer (some p))) ⟨p, rfl⟩ W)
  have HQ1 : Hid (d.length ≤ 65536 → wantsO 1 d = some []) := Lib.hid (fun h => (wantsO_in d 1 h).trans rfl)
  have HQ2 : Hid (¬ d.length ≤ 65536 → wantsO 1 d = none) := Lib.hid (wantsO_over d 1)
  obtain ⟨w1, hw1⟩ : ∃ w1, w1 = w.alloc (.cells #[.int .i64 1, .string ⟨d.toArray⟩] 23) := ⟨_, rfl⟩
  have q0 : w1.cell? ⟨w.heap.size, 0, none⟩ = some (.int .i64 1) := by rw [hw1]; exact cell_of_blk' (heap_alloc_new _ _) rfl
  have q1 : w1.cell? ⟨w.heap.size, 1, none⟩ = some (.string ⟨d.toArray⟩) := by rw [hw1]; exact cell_of_blk' (heap_alloc_new _ _) rfl
  rw [← hw1] at c0 HB0
  have HW1 := Lib.hid hw1
  unfold ObjV
  clear he B0 hwd hkw hw1
  by_cases hd : d.length ≤ 65536
  · have hd2 : decide ((d.length : Int) ≤ 65536) = true := decide_eq_true (by omega)
    have hd3 : decide (d.length ≤ 65536) = true := decide_eq_true hd
    have HD := Lib.hid hd
    have HNd := Lib.hid (need_yes (.string ⟨#[100, 97, 116, 97]⟩) (.iface 240 pe) w1)
    clear hd
    go_enter Tryz.func37, Tryz.ntmps37
    go_wp2_with (rw [← HW1.out])
    refine HNd.out.mono ?_
    rintro e w2 ⟨rfl, rfl⟩
    go_wp2_with fail
    refine (HWd.out w1).mono ?_
    rintro e w2 ⟨rfl, rfl⟩
    go_wp2_with fail
    refine (HWn.out w1).mono ?_
    rintro e w2 ⟨rfl, rfl⟩
    go_wp2_with fail
    go_ret2
    rw [HQ1.out HD.out]
    exact ⟨.inl ⟨_, [], rfl, rfl, .inl ⟨⟨_, _, rfl⟩, rfl⟩, by simp⟩, HB0.out⟩
  · have hd2 : decide ((d.length : Int) ≤ 65536) = false := decide_eq_false (by omega)
    have hd3 : decide (d.length ≤ 65536) = false := decide_eq_false hd
    have HD := Lib.hid hd
    have HNd := Lib.hid (need_no ⟨#[100, 97, 116, 97]⟩ 240 pe w1)
    clear hd
    go_enter Tryz.func37, Tryz.ntmps37
    go_wp2_with (rw [← HW1.out])
    refine HNd.out.mono ?_
    rintro e w2 ⟨rfl, hw2⟩
    have l2 : Below w1.heap.size w1 w2 := by rw [← hw2]; exact below_new w1 _
    have q2 : w2.cell? ⟨w.heap.size, 0, none⟩ = some (.int .i64 1) := cell_to q0 l2
    have HB2 := Lib.hid (HB0.out.trans (l2.mono HB0.out.size))
    clear hw2 l2 q0 q1 c0
    go_wp2_with fail
    refine (HWd.out _).mono ?_
    rintro e w3 ⟨rfl, rfl⟩
    go_wp2_with fail
    refine (HWs.out _ _).mono ?_
    rintro e w3 ⟨rfl, hw3⟩
    have HB3 : Hid (Below w.heap.size w w3) := Lib.hid (by rw [← hw3]; exact HB2.out.alloc HB2.out.size _)
    clear hw3
    go_wp2_with fail
    go_ret2
    rw [HQ2.out HD.out]
    exact ⟨.inr ⟨rfl, _, _, _, _, rfl⟩, HB3.out⟩
set_option maxRecDepth 100000 in
set_option maxHeartbeats 4000000 in
theorem wants_else (k : Int) (h1 : k ≠ 1) (h2 : k ≠ 2) (h3 : k ≠ 3) (h4 : k ≠ 4) (d : List UInt8) (w : World) (he : Eb w) :
    Calls Tryz.prog 37 #[ObjV k d] w (WtPost (wantsO k d) w) := by
  have B0 := below_new w (.cells #[.int .i64 k, .string ⟨d.toArray⟩] 23)
  have HB0 := Lib.hid B0
  obtain ⟨ea, c1⟩ := (he.below B0).er.wrong
  have hwd := fun W => word_any k W
  unfold SV at hwd
  obtain ⟨kw, hkw⟩ : ∃ kw : ByteArray, kw = ⟨(kindW k).toArray⟩ := ⟨_, rfl⟩
  rw [← hkw] at hwd
  have HWd := Lib.hid hwd
  have HWs := Lib.hid (fun (p : Addr) W => within_some kw (.iface 92 (.pointer (some p))) ⟨p, rfl⟩ W)
  have HQ : Hid (wantsO k d = none) := Lib.hid (by
    by_cases hd : d.length ≤ 65536
    · rw [wantsO_in d k hd, if_neg h1, if_neg h2, if_neg h3, if_neg h4]
    · exact wantsO_over d k hd)
  obtain ⟨w1, hw1⟩ : ∃ w1, w1 = w.alloc (.cells #[.int .i64 k, .string ⟨d.toArray⟩] 23) := ⟨_, rfl⟩
  have q0 : w1.cell? ⟨w.heap.size, 0, none⟩ = some (.int .i64 k) := by rw [hw1]; exact cell_of_blk' (heap_alloc_new _ _) rfl
  rw [← hw1] at c1 HB0
  have q2 : (w1.alloc (.cells #[.string ⟨#[107, 105, 110, 100]⟩, .iface 240 (.pointer (some ea))] 97)).cell? ⟨w.heap.size, 0, none⟩ = some (.int .i64 k) := cell_to q0 (below_new w1 _)
  have HW1 := Lib.hid hw1
  have b1 : (k == 1) = false := by simpa using h1
  have b2 : (k == 2) = false := by simpa using h2
  have b3 : (k == 3) = false := by simpa using h3
  have b4 : (k == 4) = false := by simpa using h4
  unfold ObjV
  clear he B0 hwd hkw hw1
  go_enter Tryz.func37, Tryz.ntmps37
  go_wp2_with (rw [← HW1.out])
  refine (HWd.out _).mono ?_
  rintro e w3 ⟨rfl, rfl⟩
  go_wp2_with fail
  refine (HWs.out _ _).mono ?_
  rintro e w3 ⟨rfl, hw3⟩
  have HB3 : Hid (Below w.heap.size w w3) := Lib.hid (by rw [← hw3]; exact (HB0.out.alloc HB0.out.size _).alloc (by have := HB0.out.size; simp; omega) _)
  clear hw3
  go_wp2_with fail
  go_ret2
  rw [HQ.out]
  exact ⟨.inr ⟨rfl, _, _, _, _, rfl⟩, HB3.out⟩

theorem wants_any (k : Int) (d : List UInt8) (hs : d.length ≤ 100000) (w : World) (he : Eb w) (ht : Tb w) :
    Calls Tryz.prog 37 #[ObjV k d] w (WtPost (wantsO k d) w) := by
  by_cases h1 : k = 1
  · subst h1; exact wants_1 d hs w he
  by_cases h2 : k = 2
  · subst h2; exact wants_2 d hs w he ht
  by_cases h3 : k = 3
  · subst h3; exact wants_3 d hs w he ht
  by_cases h4 : k = 4
  · subst h4; exact wants_4 d hs w he ht
  · exact wants_else k h1 h2 h3 h4 d w he

set_option maxRecDepth 100000 in
set_option maxHeartbeats 2000000 in
theorem Right_any (k : Int) (d : List UInt8) (hs : d.length ≤ 100000) (w : World) (he : Eb w) (ht : Tb w) :
    Calls Tryz.prog 11 #[ObjV k d] w (RetBelow (.bool (wantsO k d).isSome) w) := by
  have B0 := below_new w (.cells #[.int .i64 k, .string ⟨d.toArray⟩] 23)
  have HW := Lib.hid (wants_any k d hs _ (he.below B0) (ht.below B0))
  have HB := Lib.hid B0; have HE := Lib.hid he
  unfold ObjV at HW ⊢
  clear he ht hs B0
  go_enter Tryz.func11, Tryz.ntmps11
  go_wp2_with fail
  refine HW.out.mono ?_
  intro e w1 h
  have L1 := Lib.hid (HB.out.trans (h.2.mono HB.out.size))
  rcases h.ret with ⟨A, n, c, rfl, l, ho, _, _⟩ | ⟨A, n, c, p, rfl, ho⟩
  · have HO := Lib.hid ho
    have HT := Lib.hid (toldW_nil (.slice A n c) w1)
    clear h ho
    go_wp2_with fail
    refine HT.out.mono ?_
    rintro e w2 ⟨rfl, l2⟩
    go_wp2_with fail
    go_ret
    rw [HO.out]
    exact ⟨rfl, L1.out.trans (l2.mono L1.out.size)⟩
  · have HO := Lib.hid ho
    have HT := Lib.hid (toldW_fault (.slice A n c) (.iface 92 (.pointer (some p))) w1 ⟨p, rfl⟩ (HE.out.below L1.out).er.et)
    clear h ho
    go_wp2_with fail
    refine HT.out.mono ?_
    rintro e w2 ⟨rfl, l2⟩
    go_wp2_with fail
    go_ret
    rw [HO.out]
    exact ⟨rfl, L1.out.trans (l2.mono L1.out.size)⟩

/-- What Wants answers. -/
def WsPost (o : Option (List (List UInt8 × Int))) (w : World) (e : Ending) (w' : World) : Prop :=
  Below w.heap.size w w' ∧ ∃ v, e = .returned v ∧ WantsR w' v (o.getD []) ∧ (o.getD []).length ≤ 256
set_option maxRecDepth 100000 in
set_option maxHeartbeats 2000000 in
theorem Wants_any (k : Int) (d : List UInt8) (hs : d.length ≤ 100000) (w : World) (he : Eb w) (ht : Tb w) :
    Calls Tryz.prog 16 #[ObjV k d] w (WsPost (wantsO k d) w) := by
  have B0 := below_new w (.cells #[.int .i64 k, .string ⟨d.toArray⟩] 23)
  have HW := Lib.hid (wants_any k d hs _ (he.below B0) (ht.below B0))
  have HB := Lib.hid B0; have HE := Lib.hid he
  unfold ObjV at HW ⊢
  clear he ht hs B0
  go_enter Tryz.func16, Tryz.ntmps16
  go_wp2_with fail
  refine HW.out.mono ?_
  intro e w1 h
  have L1 := Lib.hid (HB.out.trans (h.2.mono HB.out.size))
  rcases h.ret with ⟨A, n, c, rfl, l, ho, hr, hl⟩ | ⟨A, n, c, p, rfl, ho⟩
  · have HO := Lib.hid ho; have HR := Lib.hid hr; have HL := Lib.hid hl
    have HT := Lib.hid (toldW_nil (.slice A n c) w1)
    clear h ho hr hl
    go_wp2_with fail
    refine HT.out.mono ?_
    rintro e w2 ⟨rfl, l2⟩
    go_wp2_with fail
    go_ret
    rw [HO.out]
    exact ⟨L1.out.trans (l2.mono L1.out.size), _, rfl, HR.out.below l2 (Nat.le_refl _), HL.out⟩
  · have HO := Lib.hid ho
    have HT := Lib.hid (toldW_fault (.slice A n c) (.iface 92 (.pointer (some p))) w1 ⟨p, rfl⟩ (HE.out.below L1.out).er.et)
    clear h ho
    go_wp2_with fail
    refine HT.out.mono ?_
    rintro e w2 ⟨rfl, l2⟩
    go_wp2_with fail
    go_ret
    rw [HO.out]
    exact ⟨L1.out.trans (l2.mono L1.out.size), _, rfl, .inl ⟨⟨_, _, rfl⟩, rfl⟩, by simp⟩
end Go.Proofs.YtdkkeaaepebafaaGreatDoor
