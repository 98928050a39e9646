/-
  wants, Right, Wants. wants of a blob, of what is no kind; Right, Wants. The plain side of roots.
-/
import Derived.Test.YtgjddkeogboojaaGreatDoorT10
import Derived.Lib.BitFns
import Derived.Test.YtgjddkeogboojaaGreatDoorT01
namespace Go.Proofs.YtgjddkeogboojaaGreatDoor
open Go Go.RowKit Go.Shelf
theorem WtPost.ret {o : Option (List (List UInt8 × Int))} {w : World} {e : Ending} {w' : World} (h : WtPost o w e w') : (∃ A n c, e = .returned (.tuple #[.slice A n c, .nilIface]) ∧ ∃ l, o = some l ∧ WantsR w' (.slice A n c) l ∧ l.length ≤ 256 ∧ Fr w.heap.size (.slice A n c)) ∨ (∃ A n c p, e = .returned (.tuple #[.slice A n c, .iface 232 (.pointer (some p))]) ∧ o = none) := by
  obtain ⟨⟨v, l, ho, rfl, hr, hl⟩ | ⟨ho, A, n, c, p, rfl⟩, _⟩ := h
  · obtain ⟨A, c, rfl⟩ := hr.shape
    exact .inl ⟨A, _, c, rfl, l, ho, hr, hl⟩
  · exact .inr ⟨A, n, c, p, rfl, ho⟩
theorem wantsO_over (d : List UInt8) (k : Int) (h : ¬ d.length ≤ 65536) : wantsO k d = none := by
  unfold wantsO; exact if_pos (Nat.lt_of_not_le h)
theorem wantsO_in (d : List UInt8) (k : Int) (h : d.length ≤ 65536) : wantsO k d = if k = 1 then some [] else if k = 2 then (getT d).map fun l => l.map wantI else if k = 3 then (getC d).map wantC else if k = 4 then (getL4 d).map wantL else none := by
  unfold wantsO; exact if_neg (Nat.not_lt_of_le h)
theorem wantsO_fit (d : List UInt8) (k : Int) (hk : k = 2 ∨ k = 3 ∨ k = 4) (h : d.length ≤ 65536) : wantsO k d = formO k d := by
  rw [wantsO_in d k h]
  rcases hk with rfl | rfl | rfl <;> rfl
theorem wantsO_none (d : List UInt8) (k : Int) (hk : k = 2 ∨ k = 3 ∨ k = 4) (h : formO k d = none) : wantsO k d = none := by
  by_cases hd : d.length ≤ 65536
  · rw [wantsO_fit d k hk hd, h]
  · exact wantsO_over d k hd
set_option maxRecDepth 100000 in
set_option maxHeartbeats 4000000 in
theorem wants_2 (d : List UInt8) (hs : d.length ≤ 100000) (w : World) (he : Eb w) (ht : Tb w) :
    Calls Tryz.prog 127 #[ObjV 2 d] w (WtPost (wantsO 2 d) w) := by
  have B0 := below_new w (.cells #[.int .i64 2, .string ⟨d.toArray⟩] 37)
  have hf := formWants_any 2 d hs _ (he.below B0) (ht.below B0)
  have HF := Lib.hid hf
  have HE := Lib.hid he; have HB0 := Lib.hid B0; have HS := Lib.hid hs
  have HQ1 : Hid (d.length ≤ 65536 → wantsO 2 d = formO 2 d) := Lib.hid (wantsO_fit d 2 (by decide))
  have HQ2 : Hid (¬ d.length ≤ 65536 → wantsO 2 d = none) := Lib.hid (wantsO_over d 2)
  have HQ3 : Hid (formO 2 d = none → wantsO 2 d = none) := Lib.hid (wantsO_none d 2 (by decide))
  have hblk : ∀ W, Below (w.alloc (.cells #[.int .i64 2, .string ⟨d.toArray⟩] 37)).heap.size (w.alloc (.cells #[.int .i64 2, .string ⟨d.toArray⟩] 37)) W → Below w.heap.size w W ∧ W.heap[w.heap.size]? = some (.cells #[.int .i64 2, .string ⟨d.toArray⟩] 37 (0, 0)) := fun W h => ⟨B0.trans (h.mono B0.size), (h.block _ (by simp)).trans (heap_alloc_new _ _)⟩
  have HBk := Lib.hid hblk
  have hwd := fun W => word_any 2 W
  unfold SV at hwd
  obtain ⟨kw, hkw⟩ : ∃ kw : ByteArray, kw = ⟨(kindW 2).toArray⟩ := ⟨_, rfl⟩
  rw [← hkw] at hwd
  have HWd := Lib.hid hwd
  have HWn := Lib.hid (fun W => within_nil (.string kw) W)
  have HWs := Lib.hid (fun (p : Addr) W => within_some kw (.iface 232 (.pointer (some p))) ⟨p, rfl⟩ W)
  unfold ObjV at HF ⊢
  clear hf he ht hs B0 hblk hwd hkw
  go_enter Tryz.func127, Tryz.ntmps127
  go_wp2_with fail
  refine HF.out.mono ?_
  intro e w1 h
  have l1 := h.2
  rcases h.ret with ⟨A, n, c, rfl, l, ho, hr, hl⟩ | ⟨A, n, c, p, rfl, ho⟩
  · obtain ⟨hb, hbk⟩ := HBk.out w1 l1
    have q0 : w1.cell? ⟨w.heap.size, 0, none⟩ = some (.int .i64 2) := cell_of_blk' hbk rfl
    have q1 : w1.cell? ⟨w.heap.size, 1, none⟩ = some (.string ⟨d.toArray⟩) := cell_of_blk' hbk rfl
    obtain ⟨pe, c0⟩ := (HE.out.below hb).er.over
    have HB := Lib.hid hb; have HR := Lib.hid hr; have HO := Lib.hid ho; have HL := Lib.hid hl; have HK := Lib.hid hbk
    clear h l1 hb hbk hr ho hl
    by_cases hd : d.length ≤ 65536
    · have hd2 : (d.length : Int) ≤ 65536 := by omega
      have HD := Lib.hid hd
      have HNd := Lib.hid (need_yes (.string ⟨#[100, 97, 116, 97]⟩) (.iface 336 pe) w1)
      clear hd
      go_wp2_with fail
      refine HNd.out.mono ?_
      rintro e w2 ⟨rfl, rfl⟩
      go_wp2_with fail
      refine (HWd.out w1).mono ?_
      rintro e w2 ⟨rfl, rfl⟩
      go_wp2_with fail
      refine (HWn.out w1).mono ?_
      rintro e w2 ⟨rfl, rfl⟩
      go_wp2_with fail
      go_ret2
      rw [HQ1.out HD.out]
      exact ⟨.inl ⟨_, l, HO.out, rfl, HR.out, HL.out.1, HL.out.2.mono HB0.out.size⟩, HB.out⟩
    · have hd2 : decide ((d.length : Int) ≤ 65536) = false := decide_eq_false (by omega)
      have hd3 : decide (d.length ≤ 65536) = false := decide_eq_false hd
      have HD := Lib.hid hd
      have HNd := Lib.hid (need_no ⟨#[100, 97, 116, 97]⟩ 336 pe w1)
      clear hd
      go_wp2_with fail
      refine HNd.out.mono ?_
      rintro e w2 ⟨rfl, hw2⟩
      have l2 : Below w1.heap.size w1 w2 := by rw [← hw2]; exact below_new w1 _
      have q2 : w2.cell? ⟨w.heap.size, 0, none⟩ = some (.int .i64 2) := cell_to q0 l2
      have HB2 := Lib.hid (HB.out.trans (l2.mono HB.out.size))
      clear hw2 l2 q0 q1 c0
      go_wp2_with fail
      refine (HWd.out _).mono ?_
      rintro e w3 ⟨rfl, rfl⟩
      go_wp2_with fail
      refine (HWs.out _ _).mono ?_
      rintro e w3 ⟨rfl, hw3⟩
      have HB3 : Hid (Below w.heap.size w w3) := Lib.hid (by rw [← hw3]; exact HB2.out.alloc HB2.out.size _)
      clear hw3
      go_wp2_with fail
      go_ret2
      rw [HQ2.out HD.out]
      exact ⟨.inr ⟨rfl, _, _, _, _, rfl⟩, HB3.out⟩
  · obtain ⟨hb, hbk⟩ := HBk.out w1 l1
    have q0 : w1.cell? ⟨w.heap.size, 0, none⟩ = some (.int .i64 2) := cell_of_blk' hbk rfl
    have HB := Lib.hid hb; have HO := Lib.hid ho
    clear h l1 hb hbk ho
    go_wp2_with fail
    refine (HWd.out _).mono ?_
    rintro e w2 ⟨rfl, rfl⟩
    go_wp2_with fail
    refine (HWs.out _ _).mono ?_
    rintro e w2 ⟨rfl, rfl⟩
    go_wp2_with fail
    go_ret2
    rw [HQ3.out HO.out]
    exact ⟨.inr ⟨rfl, _, _, _, _, rfl⟩, HB.out.alloc HB.out.size _⟩
set_option maxRecDepth 100000 in
set_option maxHeartbeats 4000000 in
theorem wants_3 (d : List UInt8) (hs : d.length ≤ 100000) (w : World) (he : Eb w) (ht : Tb w) :
    Calls Tryz.prog 127 #[ObjV 3 d] w (WtPost (wantsO 3 d) w) := by
  have B0 := below_new w (.cells #[.int .i64 3, .string ⟨d.toArray⟩] 37)
  have hf := formWants_any 3 d hs _ (he.below B0) (ht.below B0)
  have HF := Lib.hid hf
  have HE := Lib.hid he; have HB0 := Lib.hid B0; have HS := Lib.hid hs
  have HQ1 : Hid (d.length ≤ 65536 → wantsO 3 d = formO 3 d) := Lib.hid (wantsO_fit d 3 (by decide))
  have HQ2 : Hid (¬ d.length ≤ 65536 → wantsO 3 d = none) := Lib.hid (wantsO_over d 3)
  have HQ3 : Hid (formO 3 d = none → wantsO 3 d = none) := Lib.hid (wantsO_none d 3 (by decide))
  have hblk : ∀ W, Below (w.alloc (.cells #[.int .i64 3, .string ⟨d.toArray⟩] 37)).heap.size (w.alloc (.cells #[.int .i64 3, .string ⟨d.toArray⟩] 37)) W → Below w.heap.size w W ∧ W.heap[w.heap.size]? = some (.cells #[.int .i64 3, .string ⟨d.toArray⟩] 37 (0, 0)) := fun W h => ⟨B0.trans (h.mono B0.size), (h.block _ (by simp)).trans (heap_alloc_new _ _)⟩
  have HBk := Lib.hid hblk
  have hwd := fun W => word_any 3 W
  unfold SV at hwd
  obtain ⟨kw, hkw⟩ : ∃ kw : ByteArray, kw = ⟨(kindW 3).toArray⟩ := ⟨_, rfl⟩
  rw [← hkw] at hwd
  have HWd := Lib.hid hwd
  have HWn := Lib.hid (fun W => within_nil (.string kw) W)
  have HWs := Lib.hid (fun (p : Addr) W => within_some kw (.iface 232 (.pointer (some p))) ⟨p, rfl⟩ W)
  unfold ObjV at HF ⊢
  clear hf he ht hs B0 hblk hwd hkw
  go_enter Tryz.func127, Tryz.ntmps127
  go_wp2_with fail
  refine HF.out.mono ?_
  intro e w1 h
  have l1 := h.2
  rcases h.ret with ⟨A, n, c, rfl, l, ho, hr, hl⟩ | ⟨A, n, c, p, rfl, ho⟩
  · obtain ⟨hb, hbk⟩ := HBk.out w1 l1
    have q0 : w1.cell? ⟨w.heap.size, 0, none⟩ = some (.int .i64 3) := cell_of_blk' hbk rfl
    have q1 : w1.cell? ⟨w.heap.size, 1, none⟩ = some (.string ⟨d.toArray⟩) := cell_of_blk' hbk rfl
    obtain ⟨pe, c0⟩ := (HE.out.below hb).er.over
    have HB := Lib.hid hb; have HR := Lib.hid hr; have HO := Lib.hid ho; have HL := Lib.hid hl; have HK := Lib.hid hbk
    clear h l1 hb hbk hr ho hl
    by_cases hd : d.length ≤ 65536
    · have hd2 : (d.length : Int) ≤ 65536 := by omega
      have HD := Lib.hid hd
      have HNd := Lib.hid (need_yes (.string ⟨#[100, 97, 116, 97]⟩) (.iface 336 pe) w1)
      clear hd
      go_wp2_with fail
      refine HNd.out.mono ?_
      rintro e w2 ⟨rfl, rfl⟩
      go_wp2_with fail
      refine (HWd.out w1).mono ?_
      rintro e w2 ⟨rfl, rfl⟩
      go_wp2_with fail
      refine (HWn.out w1).mono ?_
      rintro e w2 ⟨rfl, rfl⟩
      go_wp2_with fail
      go_ret2
      rw [HQ1.out HD.out]
      exact ⟨.inl ⟨_, l, HO.out, rfl, HR.out, HL.out.1, HL.out.2.mono HB0.out.size⟩, HB.out⟩
    · have hd2 : decide ((d.length : Int) ≤ 65536) = false := decide_eq_false (by omega)
      have hd3 : decide (d.length ≤ 65536) = false := decide_eq_false hd
      have HD := Lib.hid hd
      have HNd := Lib.hid (need_no ⟨#[100, 97, 116, 97]⟩ 336 pe w1)
      clear hd
      go_wp2_with fail
      refine HNd.out.mono ?_
      rintro e w2 ⟨rfl, hw2⟩
      have l2 : Below w1.heap.size w1 w2 := by rw [← hw2]; exact below_new w1 _
      have q2 : w2.cell? ⟨w.heap.size, 0, none⟩ = some (.int .i64 3) := cell_to q0 l2
      have HB2 := Lib.hid (HB.out.trans (l2.mono HB.out.size))
      clear hw2 l2 q0 q1 c0
      go_wp2_with fail
      refine (HWd.out _).mono ?_
      rintro e w3 ⟨rfl, rfl⟩
      go_wp2_with fail
      refine (HWs.out _ _).mono ?_
      rintro e w3 ⟨rfl, hw3⟩
      have HB3 : Hid (Below w.heap.size w w3) := Lib.hid (by rw [← hw3]; exact HB2.out.alloc HB2.out.size _)
      clear hw3
      go_wp2_with fail
      go_ret2
      rw [HQ2.out HD.out]
      exact ⟨.inr ⟨rfl, _, _, _, _, rfl⟩, HB3.out⟩
  · obtain ⟨hb, hbk⟩ := HBk.out w1 l1
    have q0 : w1.cell? ⟨w.heap.size, 0, none⟩ = some (.int .i64 3) := cell_of_blk' hbk rfl
    have HB := Lib.hid hb; have HO := Lib.hid ho
    clear h l1 hb hbk ho
    go_wp2_with fail
    refine (HWd.out _).mono ?_
    rintro e w2 ⟨rfl, rfl⟩
    go_wp2_with fail
    refine (HWs.out _ _).mono ?_
    rintro e w2 ⟨rfl, rfl⟩
    go_wp2_with fail
    go_ret2
    rw [HQ3.out HO.out]
    exact ⟨.inr ⟨rfl, _, _, _, _, rfl⟩, HB.out.alloc HB.out.size _⟩
set_option maxRecDepth 100000 in
set_option maxHeartbeats 4000000 in
theorem wants_4 (d : List UInt8) (hs : d.length ≤ 100000) (w : World) (he : Eb w) (ht : Tb w) :
    Calls Tryz.prog 127 #[ObjV 4 d] w (WtPost (wantsO 4 d) w) := by
  have B0 := below_new w (.cells #[.int .i64 4, .string ⟨d.toArray⟩] 37)
  have hf := formWants_any 4 d hs _ (he.below B0) (ht.below B0)
  have HF := Lib.hid hf
  have HE := Lib.hid he; have HB0 := Lib.hid B0; have HS := Lib.hid hs
  have HQ1 : Hid (d.length ≤ 65536 → wantsO 4 d = formO 4 d) := Lib.hid (wantsO_fit d 4 (by decide))
  have HQ2 : Hid (¬ d.length ≤ 65536 → wantsO 4 d = none) := Lib.hid (wantsO_over d 4)
  have HQ3 : Hid (formO 4 d = none → wantsO 4 d = none) := Lib.hid (wantsO_none d 4 (by decide))
  have hblk : ∀ W, Below (w.alloc (.cells #[.int .i64 4, .string ⟨d.toArray⟩] 37)).heap.size (w.alloc (.cells #[.int .i64 4, .string ⟨d.toArray⟩] 37)) W → Below w.heap.size w W ∧ W.heap[w.heap.size]? = some (.cells #[.int .i64 4, .string ⟨d.toArray⟩] 37 (0, 0)) := fun W h => ⟨B0.trans (h.mono B0.size), (h.block _ (by simp)).trans (heap_alloc_new _ _)⟩
  have HBk := Lib.hid hblk
  have hwd := fun W => word_any 4 W
  unfold SV at hwd
  obtain ⟨kw, hkw⟩ : ∃ kw : ByteArray, kw = ⟨(kindW 4).toArray⟩ := ⟨_, rfl⟩
  rw [← hkw] at hwd
  have HWd := Lib.hid hwd
  have HWn := Lib.hid (fun W => within_nil (.string kw) W)
  have HWs := Lib.hid (fun (p : Addr) W => within_some kw (.iface 232 (.pointer (some p))) ⟨p, rfl⟩ W)
  unfold ObjV at HF ⊢
  clear hf he ht hs B0 hblk hwd hkw
  go_enter Tryz.func127, Tryz.ntmps127
  go_wp2_with fail
  refine HF.out.mono ?_
  intro e w1 h
  have l1 := h.2
  rcases h.ret with ⟨A, n, c, rfl, l, ho, hr, hl⟩ | ⟨A, n, c, p, rfl, ho⟩
  · obtain ⟨hb, hbk⟩ := HBk.out w1 l1
    have q0 : w1.cell? ⟨w.heap.size, 0, none⟩ = some (.int .i64 4) := cell_of_blk' hbk rfl
    have q1 : w1.cell? ⟨w.heap.size, 1, none⟩ = some (.string ⟨d.toArray⟩) := cell_of_blk' hbk rfl
    obtain ⟨pe, c0⟩ := (HE.out.below hb).er.over
    have HB := Lib.hid hb; have HR := Lib.hid hr; have HO := Lib.hid ho; have HL := Lib.hid hl; have HK := Lib.hid hbk
    clear h l1 hb hbk hr ho hl
    by_cases hd : d.length ≤ 65536
    · have hd2 : (d.length : Int) ≤ 65536 := by omega
      have HD := Lib.hid hd
      have HNd := Lib.hid (need_yes (.string ⟨#[100, 97, 116, 97]⟩) (.iface 336 pe) w1)
      clear hd
      go_wp2_with fail
      refine HNd.out.mono ?_
      rintro e w2 ⟨rfl, rfl⟩
      go_wp2_with fail
      refine (HWd.out w1).mono ?_
      rintro e w2 ⟨rfl, rfl⟩
      go_wp2_with fail
      refine (HWn.out w1).mono ?_
      rintro e w2 ⟨rfl, rfl⟩
      go_wp2_with fail
      go_ret2
      rw [HQ1.out HD.out]
      exact ⟨.inl ⟨_, l, HO.out, rfl, HR.out, HL.out.1, HL.out.2.mono HB0.out.size⟩, HB.out⟩
    · have hd2 : decide ((d.length : Int) ≤ 65536) = false := decide_eq_false (by omega)
      have hd3 : decide (d.length ≤ 65536) = false := decide_eq_false hd
      have HD := Lib.hid hd
      have HNd := Lib.hid (need_no ⟨#[100, 97, 116, 97]⟩ 336 pe w1)
      clear hd
      go_wp2_with fail
      refine HNd.out.mono ?_
      rintro e w2 ⟨rfl, hw2⟩
      have l2 : Below w1.heap.size w1 w2 := by rw [← hw2]; exact below_new w1 _
      have q2 : w2.cell? ⟨w.heap.size, 0, none⟩ = some (.int .i64 4) := cell_to q0 l2
      have HB2 := Lib.hid (HB.out.trans (l2.mono HB.out.size))
      clear hw2 l2 q0 q1 c0
      go_wp2_with fail
      refine (HWd.out _).mono ?_
      rintro e w3 ⟨rfl, rfl⟩
      go_wp2_with fail
      refine (HWs.out _ _).mono ?_
      rintro e w3 ⟨rfl, hw3⟩
      have HB3 : Hid (Below w.heap.size w w3) := Lib.hid (by rw [← hw3]; exact HB2.out.alloc HB2.out.size _)
      clear hw3
      go_wp2_with fail
      go_ret2
      rw [HQ2.out HD.out]
      exact ⟨.inr ⟨rfl, _, _, _, _, rfl⟩, HB3.out⟩
  · obtain ⟨hb, hbk⟩ := HBk.out w1 l1
    have q0 : w1.cell? ⟨w.heap.size, 0, none⟩ = some (.int .i64 4) := cell_of_blk' hbk rfl
    have HB := Lib.hid hb; have HO := Lib.hid ho
    clear h l1 hb hbk ho
    go_wp2_with fail
    refine (HWd.out _).mono ?_
    rintro e w2 ⟨rfl, rfl⟩
    go_wp2_with fail
    refine (HWs.out _ _).mono ?_
    rintro e w2 ⟨rfl, rfl⟩
    go_wp2_with fail
    go_ret2
    rw [HQ3.out HO.out]
    exact ⟨.inr ⟨rfl, _, _, _, _, rfl⟩, HB.out.alloc HB.out.size _⟩
end Go.Proofs.YtgjddkeogboojaaGreatDoor
namespace Go.Proofs.YtgjddkeogboojaaGreatDoor
open Go Go.RowKit Go.Shelf
set_option maxRecDepth 100000 in
set_option maxHeartbeats 4000000 in
theorem wants_1 (d : List UInt8) (hs : d.length ≤ 100000) (w : World) (he : Eb w) :
    Calls Tryz.prog 127 #[ObjV 1 d] w (WtPost (wantsO 1 d) w) := by
  have B0 := below_new w (.cells #[.int .i64 1, .string ⟨d.toArray⟩] 37)
  have HB0 := Lib.hid B0
  obtain ⟨pe, c0⟩ := (he.below B0).er.over
  have hwd := fun W => word_any 1 W
  unfold SV at hwd
  obtain ⟨kw, hkw⟩ : ∃ kw : ByteArray, kw = ⟨(kindW 1).toArray⟩ := ⟨_, rfl⟩
  rw [← hkw] at hwd
  have HWd := Lib.hid hwd
  have HWn := Lib.hid (fun W => within_nil (.string kw) W)
  have HWs := Lib.hid (fun (p : Addr) W => within_some kw (.iface 232 (.pointer (some p))) ⟨p, rfl⟩ W)
  have HQ1 : Hid (d.length ≤ 65536 → wantsO 1 d = some []) := Lib.hid (fun h => (wantsO_in d 1 h).trans rfl)
  have HQ2 : Hid (¬ d.length ≤ 65536 → wantsO 1 d = none) := Lib.hid (wantsO_over d 1)
  obtain ⟨w1, hw1⟩ : ∃ w1, w1 = w.alloc (.cells #[.int .i64 1, .string ⟨d.toArray⟩] 37) := ⟨_, rfl⟩
  have q0 : w1.cell? ⟨w.heap.size, 0, none⟩ = some (.int .i64 1) := by rw [hw1]; exact cell_of_blk' (heap_alloc_new _ _) rfl
  have q1 : w1.cell? ⟨w.heap.size, 1, none⟩ = some (.string ⟨d.toArray⟩) := by rw [hw1]; exact cell_of_blk' (heap_alloc_new _ _) rfl
  rw [← hw1] at c0 HB0
  have HW1 := Lib.hid hw1
  unfold ObjV
  clear he B0 hwd hkw hw1
  by_cases hd : d.length ≤ 65536
  · have hd2 : decide ((d.length : Int) ≤ 65536) = true := decide_eq_true (by omega)
    have hd3 : decide (d.length ≤ 65536) = true := decide_eq_true hd
    have HD := Lib.hid hd
    have HNd := Lib.hid (need_yes (.string ⟨#[100, 97, 116, 97]⟩) (.iface 336 pe) w1)
    clear hd
    go_enter Tryz.func127, Tryz.ntmps127
    go_wp2_with (rw [← HW1.out])
    refine HNd.out.mono ?_
    rintro e w2 ⟨rfl, rfl⟩
    go_wp2_with fail
    refine (HWd.out w1).mono ?_
    rintro e w2 ⟨rfl, rfl⟩
    go_wp2_with fail
    refine (HWn.out w1).mono ?_
    rintro e w2 ⟨rfl, rfl⟩
    go_wp2_with fail
    go_ret2
    rw [HQ1.out HD.out]
    exact ⟨.inl ⟨_, [], rfl, rfl, .inl ⟨⟨_, _, rfl⟩, rfl⟩, by simp, Fr.nil _ _ _⟩, HB0.out⟩
  · have hd2 : decide ((d.length : Int) ≤ 65536) = false := decide_eq_false (by omega)
    have hd3 : decide (d.length ≤ 65536) = false := decide_eq_false hd
    have HD := Lib.hid hd
    have HNd := Lib.hid (need_no ⟨#[100, 97, 116, 97]⟩ 336 pe w1)
    clear hd
    go_enter Tryz.func127, Tryz.ntmps127
    go_wp2_with (rw [← HW1.out])
    refine HNd.out.mono ?_
    rintro e w2 ⟨rfl, hw2⟩
    have l2 : Below w1.heap.size w1 w2 := by rw [← hw2]; exact below_new w1 _
    have q2 : w2.cell? ⟨w.heap.size, 0, none⟩ = some (.int .i64 1) := cell_to q0 l2
    have HB2 := Lib.hid (HB0.out.trans (l2.mono HB0.out.size))
    clear hw2 l2 q0 q1 c0
    go_wp2_with fail
    refine (HWd.out _).mono ?_
    rintro e w3 ⟨rfl, rfl⟩
    go_wp2_with fail
    refine (HWs.out _ _).mono ?_
    rintro e w3 ⟨rfl, hw3⟩
    have HB3 : Hid (Below w.heap.size w w3) := Lib.hid (by rw [← hw3]; exact HB2.out.alloc HB2.out.size _)
    clear hw3
    go_wp2_with fail
    go_ret2
    rw [HQ2.out HD.out]
    exact ⟨.inr ⟨rfl, _, _, _, _, rfl⟩, HB3.out⟩
set_option maxRecDepth 100000 in
set_option maxHeartbeats 4000000 in
theorem wants_else (k : Int) (h1 : k ≠ 1) (h2 : k ≠ 2) (h3 : k ≠ 3) (h4 : k ≠ 4) (d : List UInt8) (w : World) (he : Eb w) :
    Calls Tryz.prog 127 #[ObjV k d] w (WtPost (wantsO k d) w) := by
  have B0 := below_new w (.cells #[.int .i64 k, .string ⟨d.toArray⟩] 37)
  have HB0 := Lib.hid B0
  obtain ⟨ea, c1⟩ := (he.below B0).er.wrong
  have hwd := fun W => word_any k W
  unfold SV at hwd
  obtain ⟨kw, hkw⟩ : ∃ kw : ByteArray, kw = ⟨(kindW k).toArray⟩ := ⟨_, rfl⟩
  rw [← hkw] at hwd
  have HWd := Lib.hid hwd
  have HWs := Lib.hid (fun (p : Addr) W => within_some kw (.iface 232 (.pointer (some p))) ⟨p, rfl⟩ W)
  have HQ : Hid (wantsO k d = none) := Lib.hid (by
    by_cases hd : d.length ≤ 65536
    · rw [wantsO_in d k hd, if_neg h1, if_neg h2, if_neg h3, if_neg h4]
    · exact wantsO_over d k hd)
  obtain ⟨w1, hw1⟩ : ∃ w1, w1 = w.alloc (.cells #[.int .i64 k, .string ⟨d.toArray⟩] 37) := ⟨_, rfl⟩
  have q0 : w1.cell? ⟨w.heap.size, 0, none⟩ = some (.int .i64 k) := by rw [hw1]; exact cell_of_blk' (heap_alloc_new _ _) rfl
  rw [← hw1] at c1 HB0
  have q2 : (w1.alloc (.cells #[.string ⟨#[107, 105, 110, 100]⟩, .iface 336 (.pointer (some ea))] 236)).cell? ⟨w.heap.size, 0, none⟩ = some (.int .i64 k) := cell_to q0 (below_new w1 _)
  have HW1 := Lib.hid hw1
  have b1 : (k == 1) = false := by simpa using h1
  have b2 : (k == 2) = false := by simpa using h2
  have b3 : (k == 3) = false := by simpa using h3
  have b4 : (k == 4) = false := by simpa using h4
  unfold ObjV
  clear he B0 hwd hkw hw1
  go_enter Tryz.func127, Tryz.ntmps127
  go_wp2_with (rw [← HW1.out])
  refine (HWd.out _).mono ?_
  rintro e w3 ⟨rfl, rfl⟩
  go_wp2_with fail
  refine (HWs.out _ _).mono ?_
  rintro e w3 ⟨rfl, hw3⟩
  have HB3 : Hid (Below w.heap.size w w3) := Lib.hid (by rw [← hw3]; exact (HB0.out.alloc HB0.out.size _).alloc (by have := HB0.out.size; simp; omega) _)
  clear hw3
  go_wp2_with fail
  go_ret2
  rw [HQ.out]
  exact ⟨.inr ⟨rfl, _, _, _, _, rfl⟩, HB3.out⟩
theorem wants_any (k : Int) (d : List UInt8) (hs : d.length ≤ 100000) (w : World) (he : Eb w) (ht : Tb w) :
    Calls Tryz.prog 127 #[ObjV k d] w (WtPost (wantsO k d) w) := by
  by_cases h1 : k = 1
  · subst h1; exact wants_1 d hs w he
  by_cases h2 : k = 2
  · subst h2; exact wants_2 d hs w he ht
  by_cases h3 : k = 3
  · subst h3; exact wants_3 d hs w he ht
  by_cases h4 : k = 4
  · subst h4; exact wants_4 d hs w he ht
  · exact wants_else k h1 h2 h3 h4 d w he
set_option maxRecDepth 100000 in
set_option maxHeartbeats 2000000 in
theorem Right_any (k : Int) (d : List UInt8) (hs : d.length ≤ 100000) (w : World) (he : Eb w) (ht : Tb w) :
    Calls Tryz.prog 119 #[ObjV k d] w (RetBelow (.bool (wantsO k d).isSome) w) := by
  have B0 := below_new w (.cells #[.int .i64 k, .string ⟨d.toArray⟩] 37)
  have HW := Lib.hid (wants_any k d hs _ (he.below B0) (ht.below B0))
  have HB := Lib.hid B0; have HE := Lib.hid he
  unfold ObjV at HW ⊢
  clear he ht hs B0
  go_enter Tryz.func119, Tryz.ntmps119
  go_wp2_with fail
  refine HW.out.mono ?_
  intro e w1 h
  have L1 := Lib.hid (HB.out.trans (h.2.mono HB.out.size))
  rcases h.ret with ⟨A, n, c, rfl, l, ho, _, _⟩ | ⟨A, n, c, p, rfl, ho⟩
  · have HO := Lib.hid ho
    have HT := Lib.hid (toldW_nil (.slice A n c) w1)
    clear h ho
    go_wp2_with fail
    refine HT.out.mono ?_
    rintro e w2 ⟨rfl, l2⟩
    go_wp2_with fail
    go_ret
    rw [HO.out]
    exact ⟨rfl, L1.out.trans (l2.mono L1.out.size)⟩
  · have HO := Lib.hid ho
    have HT := Lib.hid (toldW_fault (.slice A n c) (.iface 232 (.pointer (some p))) w1 ⟨p, rfl⟩ (HE.out.below L1.out).er.et)
    clear h ho
    go_wp2_with fail
    refine HT.out.mono ?_
    rintro e w2 ⟨rfl, l2⟩
    go_wp2_with fail
    go_ret
    rw [HO.out]
    exact ⟨rfl, L1.out.trans (l2.mono L1.out.size)⟩
end Go.Proofs.YtgjddkeogboojaaGreatDoor
namespace Go.Proofs.YtgjddkeogboojaaGreatDoor
def shl64 (x : UInt64) (s : Nat) : UInt64 := UInt64.ofNat (x.toNat * 2 ^ s)
def shr64 (x : UInt64) (s : Nat) : UInt64 := UInt64.ofNat (x.toNat / 2 ^ s)
def mulHi (x y : UInt64) : UInt64 := UInt64.ofNat (x.toNat * y.toNat / 18446744073709551616)
structure Two where
  hi : UInt64
  lo : UInt64
deriving DecidableEq
def Two.times (n : Two) (m : UInt64) : Two := ⟨n.hi * m + mulHi n.lo m, n.lo * m⟩
def Two.pow (r : UInt64) : Nat → Two
  | 0 => ⟨0, r⟩
  | j + 1 => (Two.pow r j).times r
def Two.down (n : Two) (b : Nat) : UInt64 := shl64 n.hi (64 - b) ||| shr64 n.lo b
/-- One round's test. -/
def corrB (yn0 un q rhat : UInt64) : Bool := decide (4294967296 ≤ q.toNat) || decide ((4294967296 * rhat + un).toNat < (q * yn0).toNat)
def corr (yn1 yn0 un : UInt64) : Nat → UInt64 → UInt64 → UInt64
  | 0, q, _ => q
  | n + 1, q, rhat => if corrB yn0 un q rhat then (if 4294967296 ≤ (rhat + yn1).toNat then q - 1 else corr yn1 yn0 un n (q - 1) (rhat + yn1)) else q
def corrOk (yn1 yn0 un : UInt64) : Nat → UInt64 → UInt64 → Bool
  | 0, _, _ => false
  | n + 1, q, rhat => if corrB yn0 un q rhat then (if 4294967296 ≤ (rhat + yn1).toNat then true else corrOk yn1 yn0 un n (q - 1) (rhat + yn1)) else true
/-- What Div64 reckons with. -/
structure Div where
  s : Nat
  y : UInt64
  yn1 : UInt64
  yn0 : UInt64
  un32 : UInt64
  un1 : UInt64
  un0 : UInt64
def divOf (hi lo y : UInt64) (s : Nat) : Div :=
  ⟨s, shl64 y s, shr64 (shl64 y s) 32, shl64 y s &&& 4294967295, shl64 hi s ||| shr64 lo (64 - s), shr64 (shl64 lo s) 32, shl64 lo s &&& 4294967295⟩
def Div.q1 (d : Div) : UInt64 := corr d.yn1 d.yn0 d.un1 3 (d.un32 / d.yn1) (d.un32 - d.un32 / d.yn1 * d.yn1)
def Div.un21 (d : Div) : UInt64 := d.un32 * 4294967296 + d.un1 - d.q1 * d.y
def Div.q0 (d : Div) : UInt64 := corr d.yn1 d.yn0 d.un0 3 (d.un21 / d.yn1) (d.un21 - d.un21 / d.yn1 * d.yn1)
def Div.quo (d : Div) : UInt64 := d.q1 * 4294967296 + d.q0
def Div.ok (d : Div) : Bool := decide (0 < d.yn1.toNat) && decide (d.yn1.toNat < 4294967296) && corrOk d.yn1 d.yn0 d.un1 3 (d.un32 / d.yn1) (d.un32 - d.un32 / d.yn1 * d.yn1)
  && corrOk d.yn1 d.yn0 d.un0 3 (d.un21 / d.yn1) (d.un21 - d.un21 / d.yn1 * d.yn1)
/-- The number of bits. -/
def lenN (n : Nat) : Nat := Go.Lib.bitLen n
def nearM (r : UInt64) (k : Nat) : UInt64 := (Two.pow r (k - 1)).down (32 * k - 51)
def nearS (r p : UInt64) (k : Nat) : UInt64 := (UInt64.ofNat k - 1) * nearM r k + (UInt64.ofNat k + 1) * shl64 p 51
def nearY (r p : UInt64) (k : Nat) : UInt64 := (UInt64.ofNat k + 1) * nearM r k + (UInt64.ofNat k - 1) * shl64 p 51
def nearD (r p : UInt64) (k : Nat) : Div := divOf (mulHi (nearS r p k) r) (nearS r p k * r) (nearY r p k) (64 - lenN (nearY r p k).toNat)
def nearer (r p : UInt64) (k : Nat) : UInt64 := (nearD r p k).quo
def nearOk (r p : UInt64) (k : Nat) : Bool :=
  (nearD r p k).ok && decide (0 < (mulHi (nearS r p k) r).toNat) && decide ((mulHi (nearS r p k) r).toNat < (nearY r p k).toNat) && decide (1 ≤ lenN (nearY r p k).toNat)
def rootN (p near : UInt64) (k : Nat) : Nat → UInt64
  | 0 => near
  | j + 1 => nearer (rootN p near k j) p k
def primesL : List Nat := [
  2, 3, 5, 7, 11, 13, 17, 19, 23, 29, 31, 37, 41, 43, 47, 53,
  59, 61, 67, 71, 73, 79, 83, 89, 97, 101, 103, 107, 109, 113, 127, 131,
  137, 139, 149, 151, 157, 163, 167, 173, 179, 181, 191, 193, 197, 199, 211, 223,
  227, 229, 233, 239, 241, 251, 257, 263, 269, 271, 277, 281, 283, 293, 307, 311]
def primeN (i : Nat) : Nat := primesL.getD i 0
/-- The roots so far. -/
def rootsR (k : Nat) : Nat → UInt64
  | 0 => 4294967296
  | i + 1 => rootN (UInt64.ofNat (primeN i)) (rootsR k i) k 3
/-- The roots, reckoned one by one: what is held at each step is a number, and each step is looked at. -/
def forceN {β : Type} (x : UInt64) (f : UInt64 → β) : β :=
  match x.toNat with
  | 0 => f 0
  | n + 1 => f (UInt64.ofNat (n + 1))
theorem forceN_eq {β : Type} (x : UInt64) (f : UInt64 → β) : forceN x f = f x := by
  unfold forceN
  split
  · rename_i h; rw [show x = 0 from UInt64.toNat_inj.1 (by simpa using h)]
  · rename_i n h; rw [show n + 1 = x.toNat from h.symm, UInt64.ofNat_toNat]
def stepE (p : Nat) (k : Nat) (near : UInt64) : Bool × UInt64 :=
  forceN (nearer near (UInt64.ofNat p) k) fun r1 => forceN (nearer r1 (UInt64.ofNat p) k) fun r2 => forceN (nearer r2 (UInt64.ofNat p) k) fun r3 =>
    (nearOk near (UInt64.ofNat p) k && nearOk r1 (UInt64.ofNat p) k && nearOk r2 (UInt64.ofNat p) k, r3)
def rootsK (st : Bool × UInt64) (t : UInt32) (f : UInt64 → Bool) : Bool := st.1 && decide (st.2.toUInt32 = t) && f st.2
def rootsE (k : Nat) : List Nat → UInt64 → List UInt32 → Bool
  | [], _, _ => true
  | p :: ps, near, L => rootsK (stepE p k near) (L.headD 0) fun r => rootsE k ps r L.tail
theorem rootsE_eq (k p : Nat) (ps : List Nat) (near : UInt64) (t : UInt32) (ts : List UInt32) : rootsE k (p :: ps) near (t :: ts) = rootsK (stepE p k near) t fun r => rootsE k ps r ts := rfl
theorem eight : rootsE 2 (primesL.take 8) 4294967296 HL = true := by decide +kernel
theorem sixtyfour : rootsE 3 primesL 4294967296 KL = true := by decide +kernel
theorem stepE_eq (p k : Nat) (near : UInt64) : stepE p k near = (nearOk near (UInt64.ofNat p) k && nearOk (rootN (UInt64.ofNat p) near k 1) (UInt64.ofNat p) k && nearOk (rootN (UInt64.ofNat p) near k 2) (UInt64.ofNat p) k, rootN (UInt64.ofNat p) near k 3) := by
  unfold stepE
  simp only [forceN_eq]
  rfl
theorem rootsK_spec {st : Bool × UInt64} {t : UInt32} {f : UInt64 → Bool} (h : rootsK st t f = true) : st.1 = true ∧ st.2.toUInt32 = t ∧ f st.2 = true := by
  unfold rootsK at h
  rw [Bool.and_eq_true, Bool.and_eq_true] at h
  exact ⟨h.1.1, of_decide_eq_true h.1.2, h.2⟩
def okAll (p k : Nat) (near : UInt64) : Prop := ∀ j, j < 3 → nearOk (rootN (UInt64.ofNat p) near k j) (UInt64.ofNat p) k = true
theorem okAll_of {p k : Nat} {near : UInt64} (h : (nearOk near (UInt64.ofNat p) k && nearOk (rootN (UInt64.ofNat p) near k 1) (UInt64.ofNat p) k && nearOk (rootN (UInt64.ofNat p) near k 2) (UInt64.ofNat p) k) = true) : okAll p k near := by
  rw [Bool.and_eq_true, Bool.and_eq_true] at h
  obtain ⟨⟨k0, k1⟩, k2⟩ := h
  intro j hj
  match j, hj with
  | 0, _ => exact k0
  | 1, _ => exact k1
  | 2, _ => exact k2
theorem rootsE_cons {k p : Nat} {ps : List Nat} {near : UInt64} {t : UInt32} {ts : List UInt32} (h : rootsE k (p :: ps) near (t :: ts) = true) :
    okAll p k near ∧ (rootN (UInt64.ofNat p) near k 3).toUInt32 = t ∧ rootsE k ps (rootN (UInt64.ofNat p) near k 3) ts = true := by
  rw [rootsE_eq] at h
  obtain ⟨h1, h2, h3⟩ := rootsK_spec h
  rw [stepE_eq] at h1 h2 h3
  exact ⟨okAll_of h1, h2, h3⟩
theorem rootsE_at {k : Nat} {ps : List Nat} {L : List UInt32} (h : rootsE k ps 4294967296 L = true) (hl : L.length = ps.length) (hp : ∀ i, i < ps.length → ps[i]? = some (primeN i)) :
    ∀ i, i ≤ ps.length → rootsE k (ps.drop i) (rootsR k i) (L.drop i) = true := by
  intro i
  induction i with
  | zero => intro _; exact h
  | succ i ih =>
    intro hi
    have h1 := ih (by omega)
    have e1 : ps.drop i = primeN i :: ps.drop (i + 1) := by
      have := hp i (by omega)
      rw [List.getElem?_eq_getElem (by omega)] at this
      rw [List.drop_eq_getElem_cons (by omega), Option.some.inj this]
    have e2 : L.drop i = L[i]'(by omega) :: L.drop (i + 1) := List.drop_eq_getElem_cons (by omega)
    rw [e1, e2] at h1
    exact (rootsE_cons h1).2.2
theorem rootsE_get {k : Nat} {ps : List Nat} {L : List UInt32} (h : rootsE k ps 4294967296 L = true) (hl : L.length = ps.length) (hp : ∀ i, i < ps.length → ps[i]? = some (primeN i))
    (i : Nat) (hi : i < ps.length) : okAll (primeN i) k (rootsR k i) ∧ (rootsR k (i + 1)).toUInt32 = L.getD i 0 := by
  have h1 := rootsE_at h hl hp i (by omega)
  have e1 : ps.drop i = primeN i :: ps.drop (i + 1) := by
    have := hp i (by omega)
    rw [List.getElem?_eq_getElem (by omega)] at this
    rw [List.drop_eq_getElem_cons (by omega), Option.some.inj this]
  have e2 : L.drop i = L[i]'(by omega) :: L.drop (i + 1) := List.drop_eq_getElem_cons (by omega)
  rw [e1, e2] at h1
  have h2 := rootsE_cons h1
  refine ⟨h2.1, ?_⟩
  rw [List.getD_eq_getElem?_getD, List.getElem?_eq_getElem (by omega)]
  exact h2.2.1
/-- All that the rounds' numbers owe. -/
theorem roots3 (i : Nat) (hi : i < 64) : okAll (primeN i) 3 (rootsR 3 i) ∧ (rootsR 3 (i + 1)).toUInt32 = KF i :=
  rootsE_get sixtyfour rfl (fun i hi => by
    unfold primeN; rw [List.getD_eq_getElem?_getD, List.getElem?_eq_getElem hi]; rfl) i hi
theorem HL_get : ∀ i, i < 8 → HL.getD i 0 = H0.get i := by decide +kernel
theorem take8 : ∀ i, i < 8 → (primesL.take 8)[i]? = some (primeN i) := by decide +kernel
theorem roots2 (i : Nat) (hi : i < 8) : okAll (primeN i) 2 (rootsR 2 i) ∧ (rootsR 2 (i + 1)).toUInt32 = H0.get i := by
  have h := rootsE_get eight (by decide) (fun i hi => take8 i hi) i hi
  exact ⟨h.1, h.2.trans (HL_get i hi)⟩
end Go.Proofs.YtgjddkeogboojaaGreatDoor
