/-
  wants, Right, Wants. wants of a blob, of what is no kind; Right, Wants. The plain side of roots.
-/
import Derived.Test.YtgjddkeogboojaaGreatDoorX10
import Derived.Lib.BitFns
import Derived.Test.YtgjddkeogboojaaGreatDoorX01
set_option maxHeartbeats 16000000
set_option maxRecDepth 100000
namespace Go.Proofs.YtgjddkeogboojaaGreatDoor
open Go Go.RowKit Go.Shelf
theorem WtPost.ret {o : Option (List (zB × Int))} {w : World} {e : Ending} {w' : World} (h : WtPost o w e w') : (∃ A n c, e = .returned (.tuple #[.slice A n c, .nilIface]) ∧ ∃ l, o = some l ∧ zc9 w' (.slice A n c) l ∧ l.length ≤ 256 ∧ Fr w.heap.size (.slice A n c)) ∨ (∃ A n c p, e = .returned (.tuple #[.slice A n c, .iface 232 (.pointer (some p))]) ∧ o = none) := by
 obtain ⟨⟨v, l, ho, rfl, hr, hl⟩ | ⟨ho, A, n, c, p, rfl⟩, _⟩ := h
 · obtain ⟨A, c, rfl⟩ := hr.shape
   exact .inl ⟨A, _, c, rfl, l, ho, hr, hl⟩
 · exact .inr ⟨A, n, c, p, rfl, ho⟩
theorem z1x (d : zB) (k : Int) (h : ¬ d.length ≤ 65536) : z0g k d = none := by
 unfold z0g; exact if_pos (Nat.lt_of_not_le h)
theorem z6d (d : zB) (k : Int) (h : d.length ≤ 65536) : z0g k d = if k = 1 then some [] else if k = 2 then (getT d).map fun l => l.map z71 else if k = 3 then (getC d).map zbb else if k = 4 then (z23 d).map zc8 else none := by
 unfold z0g; exact if_neg (Nat.not_lt_of_le h)
theorem z5d (d : zB) (k : Int) (hk : k = 2 ∨ k = 3 ∨ k = 4) (h : d.length ≤ 65536) : z0g k d = z78 k d := by
 rw [z6d d k h]
 rcases hk with rfl | rfl | rfl <;> rfl
theorem z5s (d : zB) (k : Int) (hk : k = 2 ∨ k = 3 ∨ k = 4) (h : z78 k d = none) : z0g k d = none := by
 by_cases hd : d.length ≤ 65536
 · rw [z5d d k hk hd, h]
 · exact z1x d k hd
theorem wants_2 (d : zB) (hs : d.length ≤ 100000) (w : World) (he : Eb w) (ht : Tb w) :
 Calls Tryz.prog 127 #[ObjV 2 d] w (WtPost (z0g 2 d) w) := by
 have B0 := below_new w (.cells #[.int .i64 2, .string ⟨d.toArray⟩] 37)
 have hf := z4f 2 d hs _ (he.below B0) (ht.below B0)
 have HF := zh hf
 have HE := zh he; have HB0 := zh B0; have HS := zh hs
 have HQ1 : Hid (d.length ≤ 65536 → z0g 2 d = z78 2 d) := zh (z5d d 2 (by decide))
 have HQ2 : Hid (¬ d.length ≤ 65536 → z0g 2 d = none) := zh (z1x d 2)
 have HQ3 : Hid (z78 2 d = none → z0g 2 d = none) := zh (z5s d 2 (by decide))
 have hblk : ∀ W, Below (w.alloc (.cells #[.int .i64 2, .string ⟨d.toArray⟩] 37)).heap.size (w.alloc (.cells #[.int .i64 2, .string ⟨d.toArray⟩] 37)) W → Below w.heap.size w W ∧ W.heap[w.heap.size]? = some (.cells #[.int .i64 2, .string ⟨d.toArray⟩] 37 (0, 0)) := fun W h => ⟨B0.trans (h.mono B0.size), (h.block _ (by simp)).trans (heap_alloc_new _ _)⟩
 have HBk := zh hblk
 have hwd := fun W => z3j 2 W
 unfold SV at hwd
 obtain ⟨kw, hkw⟩ : ∃ kw : ByteArray, kw = ⟨(kindW 2).toArray⟩ := ⟨_, rfl⟩
 rw [← hkw] at hwd
 have HWd := zh hwd
 have HWn := zh (fun W => z3s (.string kw) W)
 have HWs := zh (fun (p : Addr) W => z1i kw (.iface 232 (.pointer (some p))) ⟨p, rfl⟩ W)
 unfold ObjV at HF ⊢
 clear hf he ht hs B0 hblk hwd hkw
 go_enter Tryz.func127, Tryz.ntmps127
 go_wp2_with fail
 refine HF.out.mono ?_
 intro e w1 h
 have l1 := h.2
 rcases h.ret with ⟨A, n, c, rfl, l, ho, hr, hl⟩ | ⟨A, n, c, p, rfl, ho⟩
 · obtain ⟨hb, hbk⟩ := HBk.out w1 l1
   have q0 : w1.cell? ⟨w.heap.size, 0, none⟩ = some (.int .i64 2) := z03 hbk rfl
   have q1 : w1.cell? ⟨w.heap.size, 1, none⟩ = some (.string ⟨d.toArray⟩) := z03 hbk rfl
   obtain ⟨pe, c0⟩ := (HE.out.below hb).er.over
   have HB := zh hb; have HR := zh hr; have HO := zh ho; have HL := zh hl; have HK := zh hbk
   clear h l1 hb hbk hr ho hl
   by_cases hd : d.length ≤ 65536
   · have hd2 : (d.length : Int) ≤ 65536 := by omega
     have HD := zh hd
     have HNd := zh (z2n (.string ⟨#[100, 97, 116, 97]⟩) (.iface 336 pe) w1)
     clear hd
     go_wp2_with fail
     refine HNd.out.mono ?_
     rintro e w2 ⟨rfl, rfl⟩
     go_wp2_with fail
     refine (HWd.out w1).mono ?_
     rintro e w2 ⟨rfl, rfl⟩
     go_wp2_with fail
     refine (HWn.out w1).mono ?_
     rintro e w2 ⟨rfl, rfl⟩
     go_wp2_with fail
     go_ret2
     rw [HQ1.out HD.out]
     exact ⟨.inl ⟨_, l, HO.out, rfl, HR.out, HL.out.1, HL.out.2.mono HB0.out.size⟩, HB.out⟩
   · have hd2 : decide ((d.length : Int) ≤ 65536) = false := decide_eq_false (by omega)
     have hd3 : decide (d.length ≤ 65536) = false := decide_eq_false hd
     have HD := zh hd
     have HNd := zh (z3o ⟨#[100, 97, 116, 97]⟩ 336 pe w1)
     clear hd
     go_wp2_with fail
     refine HNd.out.mono ?_
     rintro e w2 ⟨rfl, hw2⟩
     have l2 : Below w1.heap.size w1 w2 := by rw [← hw2]; exact below_new w1 _
     have q2 : w2.cell? ⟨w.heap.size, 0, none⟩ = some (.int .i64 2) := cell_to q0 l2
     have HB2 := zh (HB.out.trans (l2.mono HB.out.size))
     clear hw2 l2 q0 q1 c0
     go_wp2_with fail
     refine (HWd.out _).mono ?_
     rintro e w3 ⟨rfl, rfl⟩
     go_wp2_with fail
     refine (HWs.out _ _).mono ?_
     rintro e w3 ⟨rfl, hw3⟩
     have HB3 : Hid (Below w.heap.size w w3) := zh (by rw [← hw3]; exact HB2.out.alloc HB2.out.size _)
     clear hw3
     go_wp2_with fail
     go_ret2
     rw [HQ2.out HD.out]
     exact ⟨.inr ⟨rfl, _, _, _, _, rfl⟩, HB3.out⟩
 · obtain ⟨hb, hbk⟩ := HBk.out w1 l1
   have q0 : w1.cell? ⟨w.heap.size, 0, none⟩ = some (.int .i64 2) := z03 hbk rfl
   have HB := zh hb; have HO := zh ho
   clear h l1 hb hbk ho
   go_wp2_with fail
   refine (HWd.out _).mono ?_
   rintro e w2 ⟨rfl, rfl⟩
   go_wp2_with fail
   refine (HWs.out _ _).mono ?_
   rintro e w2 ⟨rfl, rfl⟩
   go_wp2_with fail
   go_ret2
   rw [HQ3.out HO.out]
   exact ⟨.inr ⟨rfl, _, _, _, _, rfl⟩, HB.out.alloc HB.out.size _⟩
theorem wants_3 (d : zB) (hs : d.length ≤ 100000) (w : World) (he : Eb w) (ht : Tb w) :
 Calls Tryz.prog 127 #[ObjV 3 d] w (WtPost (z0g 3 d) w) := by
 have B0 := below_new w (.cells #[.int .i64 3, .string ⟨d.toArray⟩] 37)
 have hf := z4f 3 d hs _ (he.below B0) (ht.below B0)
 have HF := zh hf
 have HE := zh he; have HB0 := zh B0; have HS := zh hs
 have HQ1 : Hid (d.length ≤ 65536 → z0g 3 d = z78 3 d) := zh (z5d d 3 (by decide))
 have HQ2 : Hid (¬ d.length ≤ 65536 → z0g 3 d = none) := zh (z1x d 3)
 have HQ3 : Hid (z78 3 d = none → z0g 3 d = none) := zh (z5s d 3 (by decide))
 have hblk : ∀ W, Below (w.alloc (.cells #[.int .i64 3, .string ⟨d.toArray⟩] 37)).heap.size (w.alloc (.cells #[.int .i64 3, .string ⟨d.toArray⟩] 37)) W → Below w.heap.size w W ∧ W.heap[w.heap.size]? = some (.cells #[.int .i64 3, .string ⟨d.toArray⟩] 37 (0, 0)) := fun W h => ⟨B0.trans (h.mono B0.size), (h.block _ (by simp)).trans (heap_alloc_new _ _)⟩
 have HBk := zh hblk
 have hwd := fun W => z3j 3 W
 unfold SV at hwd
 obtain ⟨kw, hkw⟩ : ∃ kw : ByteArray, kw = ⟨(kindW 3).toArray⟩ := ⟨_, rfl⟩
 rw [← hkw] at hwd
 have HWd := zh hwd
 have HWn := zh (fun W => z3s (.string kw) W)
 have HWs := zh (fun (p : Addr) W => z1i kw (.iface 232 (.pointer (some p))) ⟨p, rfl⟩ W)
 unfold ObjV at HF ⊢
 clear hf he ht hs B0 hblk hwd hkw
 go_enter Tryz.func127, Tryz.ntmps127
 go_wp2_with fail
 refine HF.out.mono ?_
 intro e w1 h
 have l1 := h.2
 rcases h.ret with ⟨A, n, c, rfl, l, ho, hr, hl⟩ | ⟨A, n, c, p, rfl, ho⟩
 · obtain ⟨hb, hbk⟩ := HBk.out w1 l1
   have q0 : w1.cell? ⟨w.heap.size, 0, none⟩ = some (.int .i64 3) := z03 hbk rfl
   have q1 : w1.cell? ⟨w.heap.size, 1, none⟩ = some (.string ⟨d.toArray⟩) := z03 hbk rfl
   obtain ⟨pe, c0⟩ := (HE.out.below hb).er.over
   have HB := zh hb; have HR := zh hr; have HO := zh ho; have HL := zh hl; have HK := zh hbk
   clear h l1 hb hbk hr ho hl
   by_cases hd : d.length ≤ 65536
   · have hd2 : (d.length : Int) ≤ 65536 := by omega
     have HD := zh hd
     have HNd := zh (z2n (.string ⟨#[100, 97, 116, 97]⟩) (.iface 336 pe) w1)
     clear hd
     go_wp2_with fail
     refine HNd.out.mono ?_
     rintro e w2 ⟨rfl, rfl⟩
     go_wp2_with fail
     refine (HWd.out w1).mono ?_
     rintro e w2 ⟨rfl, rfl⟩
     go_wp2_with fail
     refine (HWn.out w1).mono ?_
     rintro e w2 ⟨rfl, rfl⟩
     go_wp2_with fail
     go_ret2
     rw [HQ1.out HD.out]
     exact ⟨.inl ⟨_, l, HO.out, rfl, HR.out, HL.out.1, HL.out.2.mono HB0.out.size⟩, HB.out⟩
   · have hd2 : decide ((d.length : Int) ≤ 65536) = false := decide_eq_false (by omega)
     have hd3 : decide (d.length ≤ 65536) = false := decide_eq_false hd
     have HD := zh hd
     have HNd := zh (z3o ⟨#[100, 97, 116, 97]⟩ 336 pe w1)
     clear hd
     go_wp2_with fail
     refine HNd.out.mono ?_
     rintro e w2 ⟨rfl, hw2⟩
     have l2 : Below w1.heap.size w1 w2 := by rw [← hw2]; exact below_new w1 _
     have q2 : w2.cell? ⟨w.heap.size, 0, none⟩ = some (.int .i64 3) := cell_to q0 l2
     have HB2 := zh (HB.out.trans (l2.mono HB.out.size))
     clear hw2 l2 q0 q1 c0
     go_wp2_with fail
     refine (HWd.out _).mono ?_
     rintro e w3 ⟨rfl, rfl⟩
     go_wp2_with fail
     refine (HWs.out _ _).mono ?_
     rintro e w3 ⟨rfl, hw3⟩
     have HB3 : Hid (Below w.heap.size w w3) := zh (by rw [← hw3]; exact HB2.out.alloc HB2.out.size _)
     clear hw3
     go_wp2_with fail
     go_ret2
     rw [HQ2.out HD.out]
     exact ⟨.inr ⟨rfl, _, _, _, _, rfl⟩, HB3.out⟩
 · obtain ⟨hb, hbk⟩ := HBk.out w1 l1
   have q0 : w1.cell? ⟨w.heap.size, 0, none⟩ = some (.int .i64 3) := z03 hbk rfl
   have HB := zh hb; have HO := zh ho
   clear h l1 hb hbk ho
   go_wp2_with fail
   refine (HWd.out _).mono ?_
   rintro e w2 ⟨rfl, rfl⟩
   go_wp2_with fail
   refine (HWs.out _ _).mono ?_
   rintro e w2 ⟨rfl, rfl⟩
   go_wp2_with fail
   go_ret2
   rw [HQ3.out HO.out]
   exact ⟨.inr ⟨rfl, _, _, _, _, rfl⟩, HB.out.alloc HB.out.size _⟩
theorem wants_4 (d : zB) (hs : d.length ≤ 100000) (w : World) (he : Eb w) (ht : Tb w) :
 Calls Tryz.prog 127 #[ObjV 4 d] w (WtPost (z0g 4 d) w) := by
 have B0 := below_new w (.cells #[.int .i64 4, .string ⟨d.toArray⟩] 37)
 have hf := z4f 4 d hs _ (he.below B0) (ht.below B0)
 have HF := zh hf
 have HE := zh he; have HB0 := zh B0; have HS := zh hs
 have HQ1 : Hid (d.length ≤ 65536 → z0g 4 d = z78 4 d) := zh (z5d d 4 (by decide))
 have HQ2 : Hid (¬ d.length ≤ 65536 → z0g 4 d = none) := zh (z1x d 4)
 have HQ3 : Hid (z78 4 d = none → z0g 4 d = none) := zh (z5s d 4 (by decide))
 have hblk : ∀ W, Below (w.alloc (.cells #[.int .i64 4, .string ⟨d.toArray⟩] 37)).heap.size (w.alloc (.cells #[.int .i64 4, .string ⟨d.toArray⟩] 37)) W → Below w.heap.size w W ∧ W.heap[w.heap.size]? = some (.cells #[.int .i64 4, .string ⟨d.toArray⟩] 37 (0, 0)) := fun W h => ⟨B0.trans (h.mono B0.size), (h.block _ (by simp)).trans (heap_alloc_new _ _)⟩
 have HBk := zh hblk
 have hwd := fun W => z3j 4 W
 unfold SV at hwd
 obtain ⟨kw, hkw⟩ : ∃ kw : ByteArray, kw = ⟨(kindW 4).toArray⟩ := ⟨_, rfl⟩
 rw [← hkw] at hwd
 have HWd := zh hwd
 have HWn := zh (fun W => z3s (.string kw) W)
 have HWs := zh (fun (p : Addr) W => z1i kw (.iface 232 (.pointer (some p))) ⟨p, rfl⟩ W)
 unfold ObjV at HF ⊢
 clear hf he ht hs B0 hblk hwd hkw
 go_enter Tryz.func127, Tryz.ntmps127
 go_wp2_with fail
 refine HF.out.mono ?_
 intro e w1 h
 have l1 := h.2
 rcases h.ret with ⟨A, n, c, rfl, l, ho, hr, hl⟩ | ⟨A, n, c, p, rfl, ho⟩
 · obtain ⟨hb, hbk⟩ := HBk.out w1 l1
   have q0 : w1.cell? ⟨w.heap.size, 0, none⟩ = some (.int .i64 4) := z03 hbk rfl
   have q1 : w1.cell? ⟨w.heap.size, 1, none⟩ = some (.string ⟨d.toArray⟩) := z03 hbk rfl
   obtain ⟨pe, c0⟩ := (HE.out.below hb).er.over
   have HB := zh hb; have HR := zh hr; have HO := zh ho; have HL := zh hl; have HK := zh hbk
   clear h l1 hb hbk hr ho hl
   by_cases hd : d.length ≤ 65536
   · have hd2 : (d.length : Int) ≤ 65536 := by omega
     have HD := zh hd
     have HNd := zh (z2n (.string ⟨#[100, 97, 116, 97]⟩) (.iface 336 pe) w1)
     clear hd
     go_wp2_with fail
     refine HNd.out.mono ?_
     rintro e w2 ⟨rfl, rfl⟩
     go_wp2_with fail
     refine (HWd.out w1).mono ?_
     rintro e w2 ⟨rfl, rfl⟩
     go_wp2_with fail
     refine (HWn.out w1).mono ?_
     rintro e w2 ⟨rfl, rfl⟩
     go_wp2_with fail
     go_ret2
     rw [HQ1.out HD.out]
     exact ⟨.inl ⟨_, l, HO.out, rfl, HR.out, HL.out.1, HL.out.2.mono HB0.out.size⟩, HB.out⟩
   · have hd2 : decide ((d.length : Int) ≤ 65536) = false := decide_eq_false (by omega)
     have hd3 : decide (d.length ≤ 65536) = false := decide_eq_false hd
     have HD := zh hd
     have HNd := zh (z3o ⟨#[100, 97, 116, 97]⟩ 336 pe w1)
     clear hd
     go_wp2_with fail
     refine HNd.out.mono ?_
     rintro e w2 ⟨rfl, hw2⟩
     have l2 : Below w1.heap.size w1 w2 := by rw [← hw2]; exact below_new w1 _
     have q2 : w2.cell? ⟨w.heap.size, 0, none⟩ = some (.int .i64 4) := cell_to q0 l2
     have HB2 := zh (HB.out.trans (l2.mono HB.out.size))
     clear hw2 l2 q0 q1 c0
     go_wp2_with fail
     refine (HWd.out _).mono ?_
     rintro e w3 ⟨rfl, rfl⟩
     go_wp2_with fail
     refine (HWs.out _ _).mono ?_
     rintro e w3 ⟨rfl, hw3⟩
     have HB3 : Hid (Below w.heap.size w w3) := zh (by rw [← hw3]; exact HB2.out.alloc HB2.out.size _)
     clear hw3
     go_wp2_with fail
     go_ret2
     rw [HQ2.out HD.out]
     exact ⟨.inr ⟨rfl, _, _, _, _, rfl⟩, HB3.out⟩
 · obtain ⟨hb, hbk⟩ := HBk.out w1 l1
   have q0 : w1.cell? ⟨w.heap.size, 0, none⟩ = some (.int .i64 4) := z03 hbk rfl
   have HB := zh hb; have HO := zh ho
   clear h l1 hb hbk ho
   go_wp2_with fail
   refine (HWd.out _).mono ?_
   rintro e w2 ⟨rfl, rfl⟩
   go_wp2_with fail
   refine (HWs.out _ _).mono ?_
   rintro e w2 ⟨rfl, rfl⟩
   go_wp2_with fail
   go_ret2
   rw [HQ3.out HO.out]
   exact ⟨.inr ⟨rfl, _, _, _, _, rfl⟩, HB.out.alloc HB.out.size _⟩
theorem wants_1 (d : zB) (hs : d.length ≤ 100000) (w : World) (he : Eb w) :
 Calls Tryz.prog 127 #[ObjV 1 d] w (WtPost (z0g 1 d) w) := by
 have B0 := below_new w (.cells #[.int .i64 1, .string ⟨d.toArray⟩] 37)
 have HB0 := zh B0
 obtain ⟨pe, c0⟩ := (he.below B0).er.over
 have hwd := fun W => z3j 1 W
 unfold SV at hwd
 obtain ⟨kw, hkw⟩ : ∃ kw : ByteArray, kw = ⟨(kindW 1).toArray⟩ := ⟨_, rfl⟩
 rw [← hkw] at hwd
 have HWd := zh hwd
 have HWn := zh (fun W => z3s (.string kw) W)
 have HWs := zh (fun (p : Addr) W => z1i kw (.iface 232 (.pointer (some p))) ⟨p, rfl⟩ W)
 have HQ1 : Hid (d.length ≤ 65536 → z0g 1 d = some []) := zh (fun h => (z6d d 1 h).trans rfl)
 have HQ2 : Hid (¬ d.length ≤ 65536 → z0g 1 d = none) := zh (z1x d 1)
 obtain ⟨w1, hw1⟩ := zx (w.alloc (.cells #[.int .i64 1, .string ⟨d.toArray⟩] 37))
 have q0 : w1.cell? ⟨w.heap.size, 0, none⟩ = some (.int .i64 1) := by rw [hw1]; exact z03 (heap_alloc_new _ _) rfl
 have q1 : w1.cell? ⟨w.heap.size, 1, none⟩ = some (.string ⟨d.toArray⟩) := by rw [hw1]; exact z03 (heap_alloc_new _ _) rfl
 rw [← hw1] at c0 HB0
 have HW1 := zh hw1
 unfold ObjV
 clear he B0 hwd hkw hw1
 by_cases hd : d.length ≤ 65536
 · have hd2 : decide ((d.length : Int) ≤ 65536) = true := decide_eq_true (by omega)
   have hd3 : decide (d.length ≤ 65536) = true := decide_eq_true hd
   have HD := zh hd
   have HNd := zh (z2n (.string ⟨#[100, 97, 116, 97]⟩) (.iface 336 pe) w1)
   clear hd
   go_enter Tryz.func127, Tryz.ntmps127
   go_wp2_with (rw [← HW1.out])
   refine HNd.out.mono ?_
   rintro e w2 ⟨rfl, rfl⟩
   go_wp2_with fail
   refine (HWd.out w1).mono ?_
   rintro e w2 ⟨rfl, rfl⟩
   go_wp2_with fail
   refine (HWn.out w1).mono ?_
   rintro e w2 ⟨rfl, rfl⟩
   go_wp2_with fail
   go_ret2
   rw [HQ1.out HD.out]
   exact ⟨.inl ⟨_, [], rfl, rfl, .inl ⟨⟨_, _, rfl⟩, rfl⟩, by simp, Fr.nil _ _ _⟩, HB0.out⟩
 · have hd2 : decide ((d.length : Int) ≤ 65536) = false := decide_eq_false (by omega)
   have hd3 : decide (d.length ≤ 65536) = false := decide_eq_false hd
   have HD := zh hd
   have HNd := zh (z3o ⟨#[100, 97, 116, 97]⟩ 336 pe w1)
   clear hd
   go_enter Tryz.func127, Tryz.ntmps127
   go_wp2_with (rw [← HW1.out])
   refine HNd.out.mono ?_
   rintro e w2 ⟨rfl, hw2⟩
   have l2 : Below w1.heap.size w1 w2 := by rw [← hw2]; exact below_new w1 _
   have q2 : w2.cell? ⟨w.heap.size, 0, none⟩ = some (.int .i64 1) := cell_to q0 l2
   have HB2 := zh (HB0.out.trans (l2.mono HB0.out.size))
   clear hw2 l2 q0 q1 c0
   go_wp2_with fail
   refine (HWd.out _).mono ?_
   rintro e w3 ⟨rfl, rfl⟩
   go_wp2_with fail
   refine (HWs.out _ _).mono ?_
   rintro e w3 ⟨rfl, hw3⟩
   have HB3 : Hid (Below w.heap.size w w3) := zh (by rw [← hw3]; exact HB2.out.alloc HB2.out.size _)
   clear hw3
   go_wp2_with fail
   go_ret2
   rw [HQ2.out HD.out]
   exact ⟨.inr ⟨rfl, _, _, _, _, rfl⟩, HB3.out⟩
theorem zhx (k : Int) (h1 : k ≠ 1) (h2 : k ≠ 2) (h3 : k ≠ 3) (h4 : k ≠ 4) (d : zB) (w : World) (he : Eb w) :
 Calls Tryz.prog 127 #[ObjV k d] w (WtPost (z0g k d) w) := by
 have B0 := below_new w (.cells #[.int .i64 k, .string ⟨d.toArray⟩] 37)
 have HB0 := zh B0
 obtain ⟨ea, c1⟩ := (he.below B0).er.wrong
 have hwd := fun W => z3j k W
 unfold SV at hwd
 obtain ⟨kw, hkw⟩ : ∃ kw : ByteArray, kw = ⟨(kindW k).toArray⟩ := ⟨_, rfl⟩
 rw [← hkw] at hwd
 have HWd := zh hwd
 have HWs := zh (fun (p : Addr) W => z1i kw (.iface 232 (.pointer (some p))) ⟨p, rfl⟩ W)
 have HQ : Hid (z0g k d = none) := zh (by
  by_cases hd : d.length ≤ 65536
  · rw [z6d d k hd, if_neg h1, if_neg h2, if_neg h3, if_neg h4]
  · exact z1x d k hd)
 obtain ⟨w1, hw1⟩ := zx (w.alloc (.cells #[.int .i64 k, .string ⟨d.toArray⟩] 37))
 have q0 : w1.cell? ⟨w.heap.size, 0, none⟩ = some (.int .i64 k) := by rw [hw1]; exact z03 (heap_alloc_new _ _) rfl
 rw [← hw1] at c1 HB0
 have q2 : (w1.alloc (.cells #[.string ⟨#[107, 105, 110, 100]⟩, .iface 336 (.pointer (some ea))] 236)).cell? ⟨w.heap.size, 0, none⟩ = some (.int .i64 k) := cell_to q0 (below_new w1 _)
 have HW1 := zh hw1
 have b1 : (k == 1) = false := by simpa using h1
 have b2 : (k == 2) = false := by simpa using h2
 have b3 : (k == 3) = false := by simpa using h3
 have b4 : (k == 4) = false := by simpa using h4
 unfold ObjV
 clear he B0 hwd hkw hw1
 go_enter Tryz.func127, Tryz.ntmps127
 go_wp2_with (rw [← HW1.out])
 refine (HWd.out _).mono ?_
 rintro e w3 ⟨rfl, rfl⟩
 go_wp2_with fail
 refine (HWs.out _ _).mono ?_
 rintro e w3 ⟨rfl, hw3⟩
 have HB3 : Hid (Below w.heap.size w w3) := zh (by rw [← hw3]; exact (HB0.out.alloc HB0.out.size _).alloc (by have := HB0.out.size; simp; omega) _)
 clear hw3
 go_wp2_with fail
 go_ret2
 rw [HQ.out]
 exact ⟨.inr ⟨rfl, _, _, _, _, rfl⟩, HB3.out⟩
theorem z8s (k : Int) (d : zB) (hs : d.length ≤ 100000) (w : World) (he : Eb w) (ht : Tb w) :
 Calls Tryz.prog 127 #[ObjV k d] w (WtPost (z0g k d) w) := by
 by_cases h1 : k = 1
 · subst h1; exact wants_1 d hs w he
 by_cases h2 : k = 2
 · subst h2; exact wants_2 d hs w he ht
 by_cases h3 : k = 3
 · subst h3; exact wants_3 d hs w he ht
 by_cases h4 : k = 4
 · subst h4; exact wants_4 d hs w he ht
 · exact zhx k h1 h2 h3 h4 d w he
theorem zcp (k : Int) (d : zB) (hs : d.length ≤ 100000) (w : World) (he : Eb w) (ht : Tb w) :
 Calls Tryz.prog 119 #[ObjV k d] w (z06 (.bool (z0g k d).isSome) w) := by
 have B0 := below_new w (.cells #[.int .i64 k, .string ⟨d.toArray⟩] 37)
 have HW := zh (z8s k d hs _ (he.below B0) (ht.below B0))
 have HB := zh B0; have HE := zh he
 unfold ObjV at HW ⊢
 clear he ht hs B0
 go_enter Tryz.func119, Tryz.ntmps119
 go_wp2_with fail
 refine HW.out.mono ?_
 intro e w1 h
 have L1 := zh (HB.out.trans (h.2.mono HB.out.size))
 rcases h.ret with ⟨A, n, c, rfl, l, ho, _, _⟩ | ⟨A, n, c, p, rfl, ho⟩
 · have HO := zh ho
   have HT := zh (zji (.slice A n c) w1)
   clear h ho
   go_wp2_with fail
   refine HT.out.mono ?_
   rintro e w2 ⟨rfl, l2⟩
   go_wp2_with fail
   go_ret
   rw [HO.out]
   exact ⟨rfl, L1.out.trans (l2.mono L1.out.size)⟩
 · have HO := zh ho
   have HT := zh (zec (.slice A n c) (.iface 232 (.pointer (some p))) w1 ⟨p, rfl⟩ (HE.out.below L1.out).er.et)
   clear h ho
   go_wp2_with fail
   refine HT.out.mono ?_
   rintro e w2 ⟨rfl, l2⟩
   go_wp2_with fail
   go_ret
   rw [HO.out]
   exact ⟨rfl, L1.out.trans (l2.mono L1.out.size)⟩
end Go.Proofs.YtgjddkeogboojaaGreatDoor
namespace Go.Proofs.YtgjddkeogboojaaGreatDoor
def z4w (x : UInt64) (s : Nat) : UInt64 := UInt64.ofNat (x.toNat * 2 ^ s)
def z8t (x : UInt64) (s : Nat) : UInt64 := UInt64.ofNat (x.toNat / 2 ^ s)
def zbo (x y : UInt64) : UInt64 := UInt64.ofNat (x.toNat * y.toNat / 18446744073709551616)
structure Two where
 hi : UInt64
 lo : UInt64
deriving DecidableEq
def Two.times (n : Two) (m : UInt64) : Two := ⟨n.hi * m + zbo n.lo m, n.lo * m⟩
def Two.pow (r : UInt64) : Nat → Two
 | 0 => ⟨0, r⟩
 | j + 1 => (Two.pow r j).times r
def Two.down (n : Two) (b : Nat) : UInt64 := z4w n.hi (64 - b) ||| z8t n.lo b
def z3v (yn0 un q rhat : UInt64) : Bool := decide (4294967296 ≤ q.toNat) || decide ((4294967296 * rhat + un).toNat < (q * yn0).toNat)
def corr (yn1 yn0 un : UInt64) : Nat → UInt64 → UInt64 → UInt64
 | 0, q, _ => q
 | n + 1, q, rhat => if z3v yn0 un q rhat then (if 4294967296 ≤ (rhat + yn1).toNat then q - 1 else corr yn1 yn0 un n (q - 1) (rhat + yn1)) else q
def z4i (yn1 yn0 un : UInt64) : Nat → UInt64 → UInt64 → Bool
 | 0, _, _ => false
 | n + 1, q, rhat => if z3v yn0 un q rhat then (if 4294967296 ≤ (rhat + yn1).toNat then true else z4i yn1 yn0 un n (q - 1) (rhat + yn1)) else true
structure Div where
 s : Nat
 y : UInt64
 yn1 : UInt64
 yn0 : UInt64
 un32 : UInt64
 un1 : UInt64
 un0 : UInt64
def zhy (hi lo y : UInt64) (s : Nat) : Div :=
 ⟨s, z4w y s, z8t (z4w y s) 32, z4w y s &&& 4294967295, z4w hi s ||| z8t lo (64 - s), z8t (z4w lo s) 32, z4w lo s &&& 4294967295⟩
def Div.q1 (d : Div) : UInt64 := corr d.yn1 d.yn0 d.un1 3 (d.un32 / d.yn1) (d.un32 - d.un32 / d.yn1 * d.yn1)
def Div.un21 (d : Div) : UInt64 := d.un32 * 4294967296 + d.un1 - d.q1 * d.y
def Div.q0 (d : Div) : UInt64 := corr d.yn1 d.yn0 d.un0 3 (d.un21 / d.yn1) (d.un21 - d.un21 / d.yn1 * d.yn1)
def Div.quo (d : Div) : UInt64 := d.q1 * 4294967296 + d.q0
def Div.ok (d : Div) : Bool := decide (0 < d.yn1.toNat) && decide (d.yn1.toNat < 4294967296) && z4i d.yn1 d.yn0 d.un1 3 (d.un32 / d.yn1) (d.un32 - d.un32 / d.yn1 * d.yn1)
 && z4i d.yn1 d.yn0 d.un0 3 (d.un21 / d.yn1) (d.un21 - d.un21 / d.yn1 * d.yn1)
def lenN (n : Nat) : Nat := Go.Lib.bitLen n
def nearM (r : UInt64) (k : Nat) : UInt64 := (Two.pow r (k - 1)).down (32 * k - 51)
def zkp (r p : UInt64) (k : Nat) : UInt64 := (UInt64.ofNat k - 1) * nearM r k + (UInt64.ofNat k + 1) * z4w p 51
def zkq (r p : UInt64) (k : Nat) : UInt64 := (UInt64.ofNat k + 1) * nearM r k + (UInt64.ofNat k - 1) * z4w p 51
def nearD (r p : UInt64) (k : Nat) : Div := zhy (zbo (zkp r p k) r) (zkp r p k * r) (zkq r p k) (64 - lenN (zkq r p k).toNat)
def z8u (r p : UInt64) (k : Nat) : UInt64 := (nearD r p k).quo
def z3w (r p : UInt64) (k : Nat) : Bool :=
 (nearD r p k).ok && decide (0 < (zbo (zkp r p k) r).toNat) && decide ((zbo (zkp r p k) r).toNat < (zkq r p k).toNat) && decide (1 ≤ lenN (zkq r p k).toNat)
def z5t (p near : UInt64) (k : Nat) : Nat → UInt64
 | 0 => near
 | j + 1 => z8u (z5t p near k j) p k
def primesL : List Nat := [
 2, 3, 5, 7, 11, 13, 17, 19, 23, 29, 31, 37, 41, 43, 47, 53,
 59, 61, 67, 71, 73, 79, 83, 89, 97, 101, 103, 107, 109, 113, 127, 131,
 137, 139, 149, 151, 157, 163, 167, 173, 179, 181, 191, 193, 197, 199, 211, 223,
 227, 229, 233, 239, 241, 251, 257, 263, 269, 271, 277, 281, 283, 293, 307, 311]
def primeN (i : Nat) : Nat := primesL.getD i 0
def z4j (k : Nat) : Nat → UInt64
 | 0 => 4294967296
 | i + 1 => z5t (UInt64.ofNat (primeN i)) (z4j k i) k 3
def zcq {β : Type} (x : UInt64) (f : UInt64 → β) : β :=
 match x.toNat with
 | 0 => f 0
 | n + 1 => f (UInt64.ofNat (n + 1))
theorem zkr {β : Type} (x : UInt64) (f : UInt64 → β) : zcq x f = f x := by
 unfold zcq
 split
 · rename_i h; rw [show x = 0 from UInt64.toNat_inj.1 (by simpa using h)]
 · rename_i n h; rw [show n + 1 = x.toNat from h.symm, UInt64.ofNat_toNat]
def stepE (p : Nat) (k : Nat) (near : UInt64) : Bool × UInt64 :=
 zcq (z8u near (UInt64.ofNat p) k) fun r1 => zcq (z8u r1 (UInt64.ofNat p) k) fun r2 => zcq (z8u r2 (UInt64.ofNat p) k) fun r3 =>
  (z3w near (UInt64.ofNat p) k && z3w r1 (UInt64.ofNat p) k && z3w r2 (UInt64.ofNat p) k, r3)
def zg6 (st : Bool × UInt64) (t : UInt32) (f : UInt64 → Bool) : Bool := st.1 && decide (st.2.toUInt32 = t) && f st.2
def z5i (k : Nat) : List Nat → UInt64 → List UInt32 → Bool
 | [], _, _ => true
 | p :: ps, near, L => zg6 (stepE p k near) (L.headD 0) fun r => z5i k ps r L.tail
theorem zks (k p : Nat) (ps : List Nat) (near : UInt64) (t : UInt32) (ts : List UInt32) : z5i k (p :: ps) near (t :: ts) = zg6 (stepE p k near) t fun r => z5i k ps r ts := rfl
theorem eight : z5i 2 (primesL.take 8) 4294967296 HL = true := by decide +kernel
theorem zkt : z5i 3 primesL 4294967296 KL = true := by decide +kernel
theorem stepE_eq (p k : Nat) (near : UInt64) : stepE p k near = (z3w near (UInt64.ofNat p) k && z3w (z5t (UInt64.ofNat p) near k 1) (UInt64.ofNat p) k && z3w (z5t (UInt64.ofNat p) near k 2) (UInt64.ofNat p) k, z5t (UInt64.ofNat p) near k 3) := by
 unfold stepE
 simp only [zkr]
 rfl
theorem zet {st : Bool × UInt64} {t : UInt32} {f : UInt64 → Bool} (h : zg6 st t f = true) : st.1 = true ∧ st.2.toUInt32 = t ∧ f st.2 = true := by
 unfold zg6 at h
 rw [Bool.and_eq_true, Bool.and_eq_true] at h
 exact ⟨h.1.1, of_decide_eq_true h.1.2, h.2⟩
def zhz (p k : Nat) (near : UInt64) : Prop := ∀ j, j < 3 → z3w (z5t (UInt64.ofNat p) near k j) (UInt64.ofNat p) k = true
theorem okAll_of {p k : Nat} {near : UInt64} (h : (z3w near (UInt64.ofNat p) k && z3w (z5t (UInt64.ofNat p) near k 1) (UInt64.ofNat p) k && z3w (z5t (UInt64.ofNat p) near k 2) (UInt64.ofNat p) k) = true) : zhz p k near := by
 rw [Bool.and_eq_true, Bool.and_eq_true] at h
 obtain ⟨⟨k0, k1⟩, k2⟩ := h
 intro j hj
 match j, hj with
 | 0, _ => exact k0
 | 1, _ => exact k1
 | 2, _ => exact k2
theorem z8v {k p : Nat} {ps : List Nat} {near : UInt64} {t : UInt32} {ts : List UInt32} (h : z5i k (p :: ps) near (t :: ts) = true) :
 zhz p k near ∧ (z5t (UInt64.ofNat p) near k 3).toUInt32 = t ∧ z5i k ps (z5t (UInt64.ofNat p) near k 3) ts = true := by
 rw [zks] at h
 obtain ⟨h1, h2, h3⟩ := zet h
 rw [stepE_eq] at h1 h2 h3
 exact ⟨okAll_of h1, h2, h3⟩
theorem zku {k : Nat} {ps : List Nat} {L : List UInt32} (h : z5i k ps 4294967296 L = true) (hl : L.length = ps.length) (hp : ∀ i, i < ps.length → ps[i]? = some (primeN i)) :
 ∀ i, i ≤ ps.length → z5i k (ps.drop i) (z4j k i) (L.drop i) = true := by
 intro i
 induction i with
 | zero => intro _; exact h
 | succ i ih =>
   intro hi
   have h1 := ih (by omega)
   have e1 : ps.drop i = primeN i :: ps.drop (i + 1) := by
    have := hp i (by omega)
    rw [zj (by omega)] at this
    rw [List.drop_eq_getElem_cons (by omega), Option.some.inj this]
   have e2 : L.drop i = L[i]'(by omega) :: L.drop (i + 1) := List.drop_eq_getElem_cons (by omega)
   rw [e1, e2] at h1
   exact (z8v h1).2.2
theorem zae {k : Nat} {ps : List Nat} {L : List UInt32} (h : z5i k ps 4294967296 L = true) (hl : L.length = ps.length) (hp : ∀ i, i < ps.length → ps[i]? = some (primeN i))
 (i : Nat) (hi : i < ps.length) : zhz (primeN i) k (z4j k i) ∧ (z4j k (i + 1)).toUInt32 = L.getD i 0 := by
 have h1 := zku h hl hp i (by omega)
 have e1 : ps.drop i = primeN i :: ps.drop (i + 1) := by
  have := hp i (by omega)
  rw [zj (by omega)] at this
  rw [List.drop_eq_getElem_cons (by omega), Option.some.inj this]
 have e2 : L.drop i = L[i]'(by omega) :: L.drop (i + 1) := List.drop_eq_getElem_cons (by omega)
 rw [e1, e2] at h1
 have h2 := z8v h1
 refine ⟨h2.1, ?_⟩
 rw [zg, zj (by omega)]
 exact h2.2.1
theorem roots3 (i : Nat) (hi : i < 64) : zhz (primeN i) 3 (z4j 3 i) ∧ (z4j 3 (i + 1)).toUInt32 = KF i :=
 zae zkt rfl (fun i hi => by
  unfold primeN; rw [zg, zj hi]; rfl) i hi
theorem HL_get : ∀ i, i < 8 → HL.getD i 0 = H0.get i := by decide +kernel
theorem take8 : ∀ i, i < 8 → (primesL.take 8)[i]? = some (primeN i) := by decide +kernel
theorem roots2 (i : Nat) (hi : i < 8) : zhz (primeN i) 2 (z4j 2 i) ∧ (z4j 2 (i + 1)).toUInt32 = H0.get i := by
 have h := zae eight (by decide) (fun i hi => take8 i hi) i hi
 exact ⟨h.1, h.2.trans (HL_get i hi)⟩
end Go.Proofs.YtgjddkeogboojaaGreatDoor
