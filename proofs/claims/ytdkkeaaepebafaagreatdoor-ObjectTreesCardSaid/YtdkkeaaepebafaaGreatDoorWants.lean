/-
  wants, Right, Wants.
-/
import Derived.Test.YtdkkeaaepebafaaGreatDoorLblR
namespace Go.Proofs.YtdkkeaaepebafaaGreatDoor
open Go Go.RowKit Go.Shelf

theorem WtPost.ret {o : Option (List (List UInt8 × Int))} {w : World} {e : Ending} {w' : World} (h : WtPost o w e w') : (∃ A n c, e = .returned (.tuple #[.slice A n c, .nilIface]) ∧ ∃ l, o = some l ∧ WantsR w' (.slice A n c) l ∧ l.length ≤ 256) ∨ (∃ A n c p, e = .returned (.tuple #[.slice A n c, .iface 92 (.pointer (some p))]) ∧ o = none) := by
  obtain ⟨⟨v, l, ho, rfl, hr, hl⟩ | ⟨ho, A, n, c, p, rfl⟩, _⟩ := h
  · obtain ⟨A, c, rfl⟩ := hr.shape
    exact .inl ⟨A, _, c, rfl, l, ho, hr, hl⟩
  · exact .inr ⟨A, n, c, p, rfl, ho⟩

theorem wantsO_over (d : List UInt8) (k : Int) (h : ¬ d.length ≤ 65536) : wantsO k d = none := by
  unfold wantsO; exact if_pos (Nat.lt_of_not_le h)
theorem wantsO_in (d : List UInt8) (k : Int) (h : d.length ≤ 65536) : wantsO k d = if k = 1 then some [] else if k = 2 then (getT d).map fun l => l.map wantI else if k = 3 then (getC d).map wantC else if k = 4 then (getL4 d).map wantL else none := by
  unfold wantsO; exact if_neg (Nat.not_lt_of_le h)
theorem wantsO_fit (d : List UInt8) (k : Int) (hk : k = 2 ∨ k = 3 ∨ k = 4) (h : d.length ≤ 65536) : wantsO k d = formO k d := by
  rw [wantsO_in d k h]
  rcases hk with rfl | rfl | rfl <;> rfl
theorem wantsO_none (d : List UInt8) (k : Int) (hk : k = 2 ∨ k = 3 ∨ k = 4) (h : formO k d = none) : wantsO k d = none := by
  by_cases hd : d.length ≤ 65536
  · rw [wantsO_fit d k hk hd, h]
  · exact wantsO_over d k hd

set_option maxRecDepth 100000 in
set_option maxHeartbeats 4000000 in
theorem wants_2 (d : List UInt8) (hs : d.length ≤ 100000) (w : World) (he : Eb w) (ht : Tb w) :
    Calls Tryz.prog 37 #[ObjV 2 d] w (WtPost (wantsO 2 d) w) := by
  have B0 := below_new w (.cells #[.int .i64 2, .string ⟨d.toArray⟩] 23)
  have hf := formWants_any 2 d hs _ (he.below B0) (ht.below B0)
  have HF := Lib.hid hf
  have HE := Lib.hid he; have HB0 := Lib.hid B0; have HS := Lib.hid hs
  have HQ1 : Hid (d.length ≤ 65536 → wantsO 2 d = formO 2 d) := Lib.hid (wantsO_fit d 2 (by decide))
  have HQ2 : Hid (¬ d.length ≤ 65536 → wantsO 2 d = none) := Lib.hid (wantsO_over d 2)
  have HQ3 : Hid (formO 2 d = none → wantsO 2 d = none) := Lib.hid (wantsO_none d 2 (by decide))
  have hblk : ∀ W, Below (w.alloc (.cells #[.int .i64 2, .string ⟨d.toArray⟩] 23)).heap.size (w.alloc (.cells #[.int .i64 2, .string ⟨d.toArray⟩] 23)) W → Below w.heap.size w W ∧ W.heap[w.heap.size]? = some (.cells #[.int .i64 2, .string ⟨d.toArray⟩] 23 (0, 0)) := fun W h => ⟨B0.trans (h.mono B0.size), (h.block _ (by simp)).trans (heap_alloc_new _ _)⟩
  have HBk := Lib.hid hblk
  have hwd := fun W => word_any 2 W
  unfold SV at hwd
  obtain ⟨kw, hkw⟩ : ∃ kw : ByteArray, kw = ⟨(kindW 2).toArray⟩ := ⟨_, rfl⟩
  rw [← hkw] at hwd
  have HWd := Lib.hid hwd
  have HWn := Lib.hid (fun W => within_nil (.string kw) W)
  have HWs := Lib.hid (fun (p : Addr) W => within_some kw (.iface 92 (.pointer (some p))) ⟨p, rfl⟩ W)
  unfold ObjV at HF ⊢
  clear hf he ht hs B0 hblk hwd hkw
  go_enter Tryz.func37, Tryz.ntmps37
  go_wp2_with fail
  refine HF.out.mono ?_
  intro e w1 h
  have l1 := h.2
  rcases h.ret with ⟨A, n, c, rfl, l, ho, hr, hl⟩ | ⟨A, n, c, p, rfl, ho⟩
  · obtain ⟨hb, hbk⟩ := HBk.out w1 l1
    have q0 : w1.cell? ⟨w.heap.size, 0, none⟩ = some (.int .i64 2) := cell_of_blk' hbk rfl
    have q1 : w1.cell? ⟨w.heap.size, 1, none⟩ = some (.string ⟨d.toArray⟩) := cell_of_blk' hbk rfl
    obtain ⟨pe, c0⟩ := (HE.out.below hb).er.over
    have HB := Lib.hid hb; have HR := Lib.hid hr; have HO := Lib.hid ho; have HL := Lib.hid hl; have HK := Lib.hid hbk
    clear h l1 hb hbk hr ho hl
    by_cases hd : d.length ≤ 65536
    · have hd2 : (d.length : Int) ≤ 65536 := by omega
      have HD := Lib.hid hd
      have HNd := Lib.hid (need_yes (.string ⟨#[100, 97, 116, 97]⟩) (.iface 240 pe) w1)
      clear hd
      go_wp2_with fail
      refine HNd.out.mono ?_
      rintro e w2 ⟨rfl, rfl⟩
      go_wp2_with fail
      refine (HWd.out w1).mono ?_
      rintro e w2 ⟨rfl, rfl⟩
      go_wp2_with fail
      refine (HWn.out w1).mono ?_
      rintro e w2 ⟨rfl, rfl⟩
      go_wp2_with fail
      go_ret2
      rw [HQ1.out HD.out]
      exact ⟨.inl ⟨_, l, HO.out, rfl, HR.out, HL.out⟩, HB.out⟩
    · have hd2 : decide ((d.length : Int) ≤ 65536) = false := decide_eq_false (by omega)
      have hd3 : decide (d.length ≤ 65536) = false := decide_eq_false hd
      have HD := Lib.hid hd
      have HNd := Lib.hid (need_no ⟨#[100, 97, 116, 97]⟩ 240 pe w1)
      clear hd
      go_wp2_with fail
      refine HNd.out.mono ?_
      rintro e w2 ⟨rfl, hw2⟩
      have l2 : Below w1.heap.size w1 w2 := by rw [← hw2]; exact below_new w1 _
      have q2 : w2.cell? ⟨w.heap.size, 0, none⟩ = some (.int .i64 2) := cell_to q0 l2
      have HB2 := Lib.hid (HB.out.trans (l2.mono HB.out.size))
      clear hw2 l2 q0 q1 c0
      go_wp2_with fail
      refine (HWd.out _).mono ?_
      rintro e w3 ⟨rfl, rfl⟩
      go_wp2_with fail
      refine (HWs.out _ _).mono ?_
      rintro e w3 ⟨rfl, hw3⟩
      have HB3 : Hid (Below w.heap.size w w3) := Lib.hid (by rw [← hw3]; exact HB2.out.alloc HB2.out.size _)
      clear hw3
      go_wp2_with fail
      go_ret2
      rw [HQ2.out HD.out]
      exact ⟨.inr ⟨rfl, _, _, _, _, rfl⟩, HB3.out⟩
  · obtain ⟨hb, hbk⟩ := HBk.out w1 l1
    have q0 : w1.cell? ⟨w.heap.size, 0, none⟩ = some (.int .i64 2) := cell_of_blk' hbk rfl
    have HB := Lib.hid hb; have HO := Lib.hid ho
    clear h l1 hb hbk ho
    go_wp2_with fail
    refine (HWd.out _).mono ?_
    rintro e w2 ⟨rfl, rfl⟩
    go_wp2_with fail
    refine (HWs.out _ _).mono ?_
    rintro e w2 ⟨rfl, rfl⟩
    go_wp2_with fail
    go_ret2
    rw [HQ3.out HO.out]
    exact ⟨.inr ⟨rfl, _, _, _, _, rfl⟩, HB.out.alloc HB.out.size _⟩
set_option maxRecDepth 100000 in
set_option maxHeartbeats 4000000 in
theorem wants_3 (d : List UInt8) (hs : d.length ≤ 100000) (w : World) (he : Eb w) (ht : Tb w) :
    Calls Tryz.prog 37 #[ObjV 3 d] w (WtPost (wantsO 3 d) w) := by
  have B0 := below_new w (.cells #[.int .i64 3, .string ⟨d.toArray⟩] 23)
  have hf := formWants_any 3 d hs _ (he.below B0) (ht.below B0)
  have HF := Lib.hid hf
  have HE := Lib.hid he; have HB0 := Lib.hid B0; have HS := Lib.hid hs
  have HQ1 : Hid (d.length ≤ 65536 → wantsO 3 d = formO 3 d) := Lib.hid (wantsO_fit d 3 (by decide))
  have HQ2 : Hid (¬ d.length ≤ 65536 → wantsO 3 d = none) := Lib.hid (wantsO_over d 3)
  have HQ3 : Hid (formO 3 d = none → wantsO 3 d = none) := Lib.hid (wantsO_none d 3 (by decide))
  have hblk : ∀ W, Below (w.alloc (.cells #[.int .i64 3, .string ⟨d.toArray⟩] 23)).heap.size (w.alloc (.cells #[.int .i64 3, .string ⟨d.toArray⟩] 23)) W → Below w.heap.size w W ∧ W.heap[w.heap.size]? = some (.cells #[.int .i64 3, .string ⟨d.toArray⟩] 23 (0, 0)) := fun W h => ⟨B0.trans (h.mono B0.size), (h.block _ (by simp)).trans (heap_alloc_new _ _)⟩
  have HBk := Lib.hid hblk
  have hwd := fun W => word_any 3 W
  unfold SV at hwd
  obtain ⟨kw, hkw⟩ : ∃ kw : ByteArray, kw = ⟨(kindW 3).toArray⟩ := ⟨_, rfl⟩
  rw [← hkw] at hwd
  have HWd := Lib.hid hwd
  have HWn := Lib.hid (fun W => within_nil (.string kw) W)
  have HWs := Lib.hid (fun (p : Addr) W => within_some kw (.iface 92 (.pointer (some p))) ⟨p, rfl⟩ W)
  unfold ObjV at HF ⊢
  clear hf he ht hs B0 hblk hwd hkw
  go_enter Tryz.func37, Tryz.ntmps37
  go_wp2_with fail
  refine HF.out.mono ?_
  intro e w1 h
  have l1 := h.2
  rcases h.ret with ⟨A, n, c, rfl, l, ho, hr, hl⟩ | ⟨A, n, c, p, rfl, ho⟩
  · obtain ⟨hb, hbk⟩ := HBk.out w1 l1
    have q0 : w1.cell? ⟨w.heap.size, 0, none⟩ = some (.int .i64 3) := cell_of_blk' hbk rfl
    have q1 : w1.cell? ⟨w.heap.size, 1, none⟩ = some (.string ⟨d.toArray⟩) := cell_of_blk' hbk rfl
    obtain ⟨pe, c0⟩ := (HE.out.below hb).er.over
    have HB := Lib.hid hb; have HR := Lib.hid hr; have HO := Lib.hid ho; have HL := Lib.hid hl; have HK := Lib.hid hbk
    clear h l1 hb hbk hr ho hl
    by_cases hd : d.length ≤ 65536
    · have hd2 : (d.length : Int) ≤ 65536 := by omega
      have HD := Lib.hid hd
      have HNd := Lib.hid (need_yes (.string ⟨#[100, 97, 116, 97]⟩) (.iface 240 pe) w1)
      clear hd
      go_wp2_with fail
      refine HNd.out.mono ?_
      rintro e w2 ⟨rfl, rfl⟩
      go_wp2_with fail
      refine (HWd.out w1).mono ?_
      rintro e w2 ⟨rfl, rfl⟩
      go_wp2_with fail
      refine (HWn.out w1).mono ?_
      rintro e w2 ⟨rfl, rfl⟩
      go_wp2_with fail
      go_ret2
      rw [HQ1.out HD.out]
      exact ⟨.inl ⟨_, l, HO.out, rfl, HR.out, HL.out⟩, HB.out⟩
    · have hd2 : decide ((d.length : Int) ≤ 65536) = false := decide_eq_false (by omega)
      have hd3 : decide (d.length ≤ 65536) = false := decide_eq_false hd
      have HD := Lib.hid hd
      have HNd := Lib.hid (need_no ⟨#[100, 97, 116, 97]⟩ 240 pe w1)
      clear hd
      go_wp2_with fail
      refine HNd.out.mono ?_
      rintro e w2 ⟨rfl, hw2⟩
      have l2 : Below w1.heap.size w1 w2 := by rw [← hw2]; exact below_new w1 _
      have q2 : w2.cell? ⟨w.heap.size, 0, none⟩ = some (.int .i64 3) := cell_to q0 l2
      have HB2 := Lib.hid (HB.out.trans (l2.mono HB.out.size))
      clear hw2 l2 q0 q1 c0
      go_wp2_with fail
      refine (HWd.out _).mono ?_
      rintro e w3 ⟨rfl, rfl⟩
      go_wp2_with fail
      refine (HWs.out _ _).mono ?_
      rintro e w3 ⟨rfl, hw3⟩
      have HB3 : Hid (Below w.heap.size w w3) := Lib.hid (by rw [← hw3]; exact HB2.out.alloc HB2.out.size _)
      clear hw3
      go_wp2_with fail
      go_ret2
      rw [HQ2.out HD.out]
      exact ⟨.inr ⟨rfl, _, _, _, _, rfl⟩, HB3.out⟩
  · obtain ⟨hb, hbk⟩ := HBk.out w1 l1
    have q0 : w1.cell? ⟨w.heap.size, 0, none⟩ = some (.int .i64 3) := cell_of_blk' hbk rfl
    have HB := Lib.hid hb; have HO := Lib.hid ho
    clear h l1 hb hbk ho
    go_wp2_with fail
    refine (HWd.out _).mono ?_
    rintro e w2 ⟨rfl, rfl⟩
    go_wp2_with fail
    refine (HWs.out _ _).mono ?_
    rintro e w2 ⟨rfl, rfl⟩
    go_wp2_with fail
    go_ret2
    rw [HQ3.out HO.out]
    exact ⟨.inr ⟨rfl, _, _, _, _, rfl⟩, HB.out.alloc HB.out.size _⟩
set_option maxRecDepth 100000 in
set_option maxHeartbeats 4000000 in
theorem wants_4 (d : List UInt8) (hs : d.length ≤ 100000) (w : World) (he : Eb w) (ht : Tb w) :
    Calls Tryz.prog 37 #[ObjV 4 d] w (WtPost (wantsO 4 d) w) := by
  have B0 := below_new w (.cells #[.int .i64 4, .string ⟨d.toArray⟩] 23)
  have hf := formWants_any 4 d hs _ (he.below B0) (ht.below B0)
  have HF := Lib.hid hf
  have HE := Lib.hid he; have HB0 := Lib.hid B0; have HS := Lib.hid hs
  have HQ1 : Hid (d.length ≤ 65536 → wantsO 4 d = formO 4 d) := Lib.hid (wantsO_fit d 4 (by decide))
  have HQ2 : Hid (¬ d.length ≤ 65536 → wantsO 4 d = none) := Lib.hid (wantsO_over d 4)
  have HQ3 : Hid (formO 4 d = none → wantsO 4 d = none) := Lib.hid (wantsO_none d 4 (by decide))
  have hblk : ∀ W, Below (w.alloc (.cells #[.int .i64 4, .string ⟨d.toArray⟩] 23)).heap.size (w.alloc (.cells #[.int .i64 4, .string ⟨d.toArray⟩] 23)) W → Below w.heap.size w W ∧ W.heap[w.heap.size]? = some (.cells #[.int .i64 4, .string ⟨d.toArray⟩] 23 (0, 0)) := fun W h => ⟨B0.trans (h.mono B0.size), (h.block _ (by simp)).trans (heap_alloc_new _ _)⟩
  have HBk := Lib.hid hblk
  have hwd := fun W => word_any 4 W
  unfold SV at hwd
  obtain ⟨kw, hkw⟩ : ∃ kw : ByteArray, kw = ⟨(kindW 4).toArray⟩ := ⟨_, rfl⟩
  rw [← hkw] at hwd
  have HWd := Lib.hid hwd
  have HWn := Lib.hid (fun W => within_nil (.string kw) W)
  have HWs := Lib.hid (fun (p : Addr) W => within_some kw (.iface 92 (.pointer (some p))) ⟨p, rfl⟩ W)
  unfold ObjV at HF ⊢
  clear hf he ht hs B0 hblk hwd hkw
  go_enter Tryz.func37, Tryz.ntmps37
  go_wp2_with fail
  refine HF.out.mono ?_
  intro e w1 h
  have l1 := h.2
  rcases h.ret with ⟨A, n, c, rfl, l, ho, hr, hl⟩ | ⟨A, n, c, p, rfl, ho⟩
  · obtain ⟨hb, hbk⟩ := HBk.out w1 l1
    have q0 : w1.cell? ⟨w.heap.size, 0, none⟩ = some (.int .i64 4) := cell_of_blk' hbk rfl
    have q1 : w1.cell? ⟨w.heap.size, 1, none⟩ = some (.string ⟨d.toArray⟩) := cell_of_blk' hbk rfl
    obtain ⟨pe, c0⟩ := (HE.out.below hb).er.over
    have HB := Lib.hid hb; have HR := Lib.hid hr; have HO := Lib.hid ho; have HL := Lib.hid hl; have HK := Lib.hid hbk
    clear h l1 hb hbk hr ho hl
    by_cases hd : d.length ≤ 65536
    · have hd2 : (d.length : Int) ≤ 65536 := by omega
      have HD := Lib.hid hd
      have HNd := Lib.hid (need_yes (.string ⟨#[100, 97, 116, 97]⟩) (.iface 240 pe) w1)
      clear hd
      go_wp2_with fail
      refine HNd.out.mono ?_
      rintro e w2 ⟨rfl, rfl⟩
      go_wp2_with fail
      refine (HWd.out w1).mono ?_
      rintro e w2 ⟨rfl, rfl⟩
      go_wp2_with fail
      refine (HWn.out w1).mono ?_
      rintro e w2 ⟨rfl, rfl⟩
      go_wp2_with fail
      go_ret2
      rw [HQ1.out HD.out]
      exact ⟨.inl ⟨_, l, HO.out, rfl, HR.out, HL.out⟩, HB.out⟩
    · have hd2 : decide ((d.length : Int) ≤ 65536) = false := decide_eq_false (by omega)
      have hd3 : decide (d.length ≤ 65536) = false := decide_eq_false hd
      have HD := Lib.hid hd
      have HNd := Lib.hid (need_no ⟨#[100, 97, 116, 97]⟩ 240 pe w1)
      clear hd
      go_wp2_with fail
      refine HNd.out.mono ?_
      rintro e w2 ⟨rfl, hw2⟩
      have l2 : Below w1.heap.size w1 w2 := by rw [← hw2]; exact below_new w1 _
      have q2 : w2.cell? ⟨w.heap.size, 0, none⟩ = some (.int .i64 4) := cell_to q0 l2
      have HB2 := Lib.hid (HB.out.trans (l2.mono HB.out.size))
      clear hw2 l2 q0 q1 c0
      go_wp2_with fail
      refine (HWd.out _).mono ?_
      rintro e w3 ⟨rfl, rfl⟩
      go_wp2_with fail
      refine (HWs.out _ _).mono ?_
      rintro e w3 ⟨rfl, hw3⟩
      have HB3 : Hid (Below w.heap.size w w3) := Lib.hid (by rw [← hw3]; exact HB2.out.alloc HB2.out.size _)
      clear hw3
      go_wp2_with fail
      go_ret2
      rw [HQ2.out HD.out]
      exact ⟨.inr ⟨rfl, _, _, _, _, rfl⟩, HB3.out⟩
  · obtain ⟨hb, hbk⟩ := HBk.out w1 l1
    have q0 : w1.cell? ⟨w.heap.size, 0, none⟩ = some (.int .i64 4) := cell_of_blk' hbk rfl
    have HB := Lib.hid hb; have HO := Lib.hid ho
    clear h l1 hb hbk ho
    go_wp2_with fail
    refine (HWd.out _).mono ?_
    rintro e w2 ⟨rfl, rfl⟩
    go_wp2_with fail
    refine (HWs.out _ _).mono ?_
    rintro e w2 ⟨rfl, rfl⟩
    go_wp2_with fail
    go_ret2
    rw [HQ3.out HO.out]
    exact ⟨.inr ⟨rfl, _, _, _, _, rfl⟩, HB.out.alloc HB.out.size _⟩
end Go.Proofs.YtdkkeaaepebafaaGreatDoor
