/-
  wants, Right, Wants. wants of a blob, of what is no kind; Right, Wants. The plain side of roots.
  The digest: begin.
-/
import Derived.Test.YtgjddkeogboojaaGreatDoorY10
import Derived.Lib.BitFns
import Derived.Test.YtgjddkeogboojaaGreatDoorY01
import Derived.Shelf.Small.Bits
import Derived.Shelf.Bits.Mul64
import Derived.Laws.Bits64b
import Derived.Laws.Shifts
import Derived.Lib.Mul64
import Derived.IntWalk
import Derived.Deep.QuietTactic
import Derived.BigQuiet
import Derived.Deep.CutBlock
import Derived.Deep.CutRange
import Derived.Test.YtgjddkeogboojaaGreatDoorY02
import Derived.Test.YtgjddkeogboojaaGreatDoorLay
set_option maxHeartbeats 16000000
set_option maxRecDepth 100000
namespace Go.Proofs.YtgjddkeogboojaaGreatDoor
open Go Go.RowKit Go.Shelf
theorem WtPost.ret {o : Option (List (zB × Int))} {w : World} {e : Ending} {w' : World} (h : WtPost o w e w') : (∃ A n c, e = .returned (.tuple #[.slice A n c, .nilIface]) ∧ ∃ l, o = some l ∧ zcn w' (.slice A n c) l ∧ l.length ≤ 256 ∧ Fr w.heap.size (.slice A n c)) ∨ (∃ A n c p, e = .returned (.tuple #[.slice A n c, .iface 232 (.pointer (some p))]) ∧ o = none) := by
 obtain ⟨⟨v, l, ho, rfl, hr, hl⟩ | ⟨ho, A, n, c, p, rfl⟩, _⟩ := h
 · obtain ⟨A, c, rfl⟩ := hr.shape;exact .inl ⟨A, _, c, rfl, l, ho, hr, hl⟩
 · exact .inr ⟨A, n, c, p, rfl, ho⟩
theorem z1y (d : zB) (k : Int) (h : ¬ d.length ≤ 65536) : z0g k d = none := by
 unfold z0g; exact if_pos (Nat.lt_of_not_le h)
theorem z6l (d : zB) (k : Int) (h : d.length ≤ 65536) : z0g k d = if k = 1 then some [] else if k = 2 then (getT d).map fun l => l.map z7b else if k = 3 then (getC d).map zbk else if k = 4 then (z28 d).map zcm else none := by
 unfold z0g; exact if_neg (Nat.not_lt_of_le h)
theorem z5l (d : zB) (k : Int) (hk : k = 2 ∨ k = 3 ∨ k = 4) (h : d.length ≤ 65536) : z0g k d = z7h k d := by
 rw [z6l d k h];rcases hk with rfl | rfl | rfl <;> rfl
theorem z66 (d : zB) (k : Int) (hk : k = 2 ∨ k = 3 ∨ k = 4) (h : z7h k d = none) : z0g k d = none := by
 by_cases hd : d.length ≤ 65536
 · rw [z5l d k hk hd, h]
 · exact z1y d k hd
theorem wants_2 (d : zB) (hs : d.length ≤ 100000) (w : World) (he : Eb w) (ht : Tb w) :
 Calls Tryz.prog 127 #[ObjV 2 d] w (WtPost (z0g 2 d) w) := by
 have B0 := below_new w (.cells #[.int .i64 2, .string ⟨d.toArray⟩] 37);have hf := z4i 2 d hs _ (he.below B0) (ht.below B0);have HF := zh hf;have HE := zh he; have HB0 := zh B0; have HS := zh hs;have HQ1 : Hid (d.length ≤ 65536 → z0g 2 d = z7h 2 d) := zh (z5l d 2 (by decide));have HQ2 : Hid (¬ d.length ≤ 65536 → z0g 2 d = none) := zh (z1y d 2);have HQ3 : Hid (z7h 2 d = none → z0g 2 d = none) := zh (z66 d 2 (by decide));have hblk : ∀ W, Below (w.alloc (.cells #[.int .i64 2, .string ⟨d.toArray⟩] 37)).heap.size (w.alloc (.cells #[.int .i64 2, .string ⟨d.toArray⟩] 37)) W → Below w.heap.size w W ∧ W.heap[w.heap.size]? = some (.cells #[.int .i64 2, .string ⟨d.toArray⟩] 37 (0, 0)) := fun W h => ⟨B0.trans (h.mono B0.size), (h.block _ (by simp)).trans (heap_alloc_new _ _)⟩
 have HBk := zh hblk;have hwd := fun W => z3k 2 W;unfold SV at hwd;obtain ⟨kw, hkw⟩ : ∃ kw : ByteArray, kw = ⟨(kindW 2).toArray⟩ := ⟨_, rfl⟩
 rw [← hkw] at hwd;have HWd := zh hwd;have HWn := zh (fun W => z3w (.string kw) W);have HWs := zh (fun (p : Addr) W => z1l kw (.iface 232 (.pointer (some p))) ⟨p, rfl⟩ W);unfold ObjV at HF ⊢;clear hf he ht hs B0 hblk hwd hkw
 go_enter Tryz.func127, Tryz.ntmps127
 go_wp2_with fail
 refine HF.out.mono ?_;intro e w1 h;have l1 := h.2;rcases h.ret with ⟨A, n, c, rfl, l, ho, hr, hl⟩ | ⟨A, n, c, p, rfl, ho⟩
 · obtain ⟨hb, hbk⟩ := HBk.out w1 l1;have q0 : w1.cell? ⟨w.heap.size, 0, none⟩ = some (.int .i64 2) := z03 hbk rfl;have q1 : w1.cell? ⟨w.heap.size, 1, none⟩ = some (.string ⟨d.toArray⟩) := z03 hbk rfl;obtain ⟨pe, c0⟩ := (HE.out.below hb).er.over;have HB := zh hb; have HR := zh hr; have HO := zh ho; have HL := zh hl; have HK := zh hbk;clear h l1 hb hbk hr ho hl;by_cases hd : d.length ≤ 65536
   · have hd2 : (d.length : Int) ≤ 65536 := by omega
     have HD := zh hd;have HNd := zh (z2m (.string ⟨#[100, 97, 116, 97]⟩) (.iface 336 pe) w1);clear hd
     go_wp2_with fail
     refine HNd.out.mono ?_;rintro e w2 ⟨rfl, rfl⟩
     go_wp2_with fail
     refine (HWd.out w1).mono ?_;rintro e w2 ⟨rfl, rfl⟩
     go_wp2_with fail
     refine (HWn.out w1).mono ?_;rintro e w2 ⟨rfl, rfl⟩
     go_wp2_with fail
     go_ret2
     rw [HQ1.out HD.out];exact ⟨.inl ⟨_, l, HO.out, rfl, HR.out, HL.out.1, HL.out.2.mono HB0.out.size⟩, HB.out⟩
   · have hd2 : decide ((d.length : Int) ≤ 65536) = false := decide_eq_false (by omega);have hd3 : decide (d.length ≤ 65536) = false := decide_eq_false hd;have HD := zh hd;have HNd := zh (z3s ⟨#[100, 97, 116, 97]⟩ 336 pe w1);clear hd
     go_wp2_with fail
     refine HNd.out.mono ?_;rintro e w2 ⟨rfl, hw2⟩;have l2 : Below w1.heap.size w1 w2 := by rw [← hw2]; exact below_new w1 _
     have q2 : w2.cell? ⟨w.heap.size, 0, none⟩ = some (.int .i64 2) := cell_to q0 l2;have HB2 := zh (HB.out.trans (l2.mono HB.out.size));clear hw2 l2 q0 q1 c0
     go_wp2_with fail
     refine (HWd.out _).mono ?_;rintro e w3 ⟨rfl, rfl⟩
     go_wp2_with fail
     refine (HWs.out _ _).mono ?_;rintro e w3 ⟨rfl, hw3⟩;have HB3 : Hid (Below w.heap.size w w3) := zh (by rw [← hw3]; exact HB2.out.alloc HB2.out.size _);clear hw3
     go_wp2_with fail
     go_ret2
     rw [HQ2.out HD.out];exact ⟨.inr ⟨rfl, _, _, _, _, rfl⟩, HB3.out⟩
 · obtain ⟨hb, hbk⟩ := HBk.out w1 l1;have q0 : w1.cell? ⟨w.heap.size, 0, none⟩ = some (.int .i64 2) := z03 hbk rfl;have HB := zh hb; have HO := zh ho;clear h l1 hb hbk ho
   go_wp2_with fail
   refine (HWd.out _).mono ?_;rintro e w2 ⟨rfl, rfl⟩
   go_wp2_with fail
   refine (HWs.out _ _).mono ?_;rintro e w2 ⟨rfl, rfl⟩
   go_wp2_with fail
   go_ret2
   rw [HQ3.out HO.out];exact ⟨.inr ⟨rfl, _, _, _, _, rfl⟩, HB.out.alloc HB.out.size _⟩
theorem wants_3 (d : zB) (hs : d.length ≤ 100000) (w : World) (he : Eb w) (ht : Tb w) :
 Calls Tryz.prog 127 #[ObjV 3 d] w (WtPost (z0g 3 d) w) := by
 have B0 := below_new w (.cells #[.int .i64 3, .string ⟨d.toArray⟩] 37);have hf := z4i 3 d hs _ (he.below B0) (ht.below B0);have HF := zh hf;have HE := zh he; have HB0 := zh B0; have HS := zh hs;have HQ1 : Hid (d.length ≤ 65536 → z0g 3 d = z7h 3 d) := zh (z5l d 3 (by decide));have HQ2 : Hid (¬ d.length ≤ 65536 → z0g 3 d = none) := zh (z1y d 3);have HQ3 : Hid (z7h 3 d = none → z0g 3 d = none) := zh (z66 d 3 (by decide));have hblk : ∀ W, Below (w.alloc (.cells #[.int .i64 3, .string ⟨d.toArray⟩] 37)).heap.size (w.alloc (.cells #[.int .i64 3, .string ⟨d.toArray⟩] 37)) W → Below w.heap.size w W ∧ W.heap[w.heap.size]? = some (.cells #[.int .i64 3, .string ⟨d.toArray⟩] 37 (0, 0)) := fun W h => ⟨B0.trans (h.mono B0.size), (h.block _ (by simp)).trans (heap_alloc_new _ _)⟩
 have HBk := zh hblk;have hwd := fun W => z3k 3 W;unfold SV at hwd;obtain ⟨kw, hkw⟩ : ∃ kw : ByteArray, kw = ⟨(kindW 3).toArray⟩ := ⟨_, rfl⟩
 rw [← hkw] at hwd;have HWd := zh hwd;have HWn := zh (fun W => z3w (.string kw) W);have HWs := zh (fun (p : Addr) W => z1l kw (.iface 232 (.pointer (some p))) ⟨p, rfl⟩ W);unfold ObjV at HF ⊢;clear hf he ht hs B0 hblk hwd hkw
 go_enter Tryz.func127, Tryz.ntmps127
 go_wp2_with fail
 refine HF.out.mono ?_;intro e w1 h;have l1 := h.2;rcases h.ret with ⟨A, n, c, rfl, l, ho, hr, hl⟩ | ⟨A, n, c, p, rfl, ho⟩
 · obtain ⟨hb, hbk⟩ := HBk.out w1 l1;have q0 : w1.cell? ⟨w.heap.size, 0, none⟩ = some (.int .i64 3) := z03 hbk rfl;have q1 : w1.cell? ⟨w.heap.size, 1, none⟩ = some (.string ⟨d.toArray⟩) := z03 hbk rfl;obtain ⟨pe, c0⟩ := (HE.out.below hb).er.over;have HB := zh hb; have HR := zh hr; have HO := zh ho; have HL := zh hl; have HK := zh hbk;clear h l1 hb hbk hr ho hl;by_cases hd : d.length ≤ 65536
   · have hd2 : (d.length : Int) ≤ 65536 := by omega
     have HD := zh hd;have HNd := zh (z2m (.string ⟨#[100, 97, 116, 97]⟩) (.iface 336 pe) w1);clear hd
     go_wp2_with fail
     refine HNd.out.mono ?_;rintro e w2 ⟨rfl, rfl⟩
     go_wp2_with fail
     refine (HWd.out w1).mono ?_;rintro e w2 ⟨rfl, rfl⟩
     go_wp2_with fail
     refine (HWn.out w1).mono ?_;rintro e w2 ⟨rfl, rfl⟩
     go_wp2_with fail
     go_ret2
     rw [HQ1.out HD.out];exact ⟨.inl ⟨_, l, HO.out, rfl, HR.out, HL.out.1, HL.out.2.mono HB0.out.size⟩, HB.out⟩
   · have hd2 : decide ((d.length : Int) ≤ 65536) = false := decide_eq_false (by omega);have hd3 : decide (d.length ≤ 65536) = false := decide_eq_false hd;have HD := zh hd;have HNd := zh (z3s ⟨#[100, 97, 116, 97]⟩ 336 pe w1);clear hd
     go_wp2_with fail
     refine HNd.out.mono ?_;rintro e w2 ⟨rfl, hw2⟩;have l2 : Below w1.heap.size w1 w2 := by rw [← hw2]; exact below_new w1 _
     have q2 : w2.cell? ⟨w.heap.size, 0, none⟩ = some (.int .i64 3) := cell_to q0 l2;have HB2 := zh (HB.out.trans (l2.mono HB.out.size));clear hw2 l2 q0 q1 c0
     go_wp2_with fail
     refine (HWd.out _).mono ?_;rintro e w3 ⟨rfl, rfl⟩
     go_wp2_with fail
     refine (HWs.out _ _).mono ?_;rintro e w3 ⟨rfl, hw3⟩;have HB3 : Hid (Below w.heap.size w w3) := zh (by rw [← hw3]; exact HB2.out.alloc HB2.out.size _);clear hw3
     go_wp2_with fail
     go_ret2
     rw [HQ2.out HD.out];exact ⟨.inr ⟨rfl, _, _, _, _, rfl⟩, HB3.out⟩
 · obtain ⟨hb, hbk⟩ := HBk.out w1 l1;have q0 : w1.cell? ⟨w.heap.size, 0, none⟩ = some (.int .i64 3) := z03 hbk rfl;have HB := zh hb; have HO := zh ho;clear h l1 hb hbk ho
   go_wp2_with fail
   refine (HWd.out _).mono ?_;rintro e w2 ⟨rfl, rfl⟩
   go_wp2_with fail
   refine (HWs.out _ _).mono ?_;rintro e w2 ⟨rfl, rfl⟩
   go_wp2_with fail
   go_ret2
   rw [HQ3.out HO.out];exact ⟨.inr ⟨rfl, _, _, _, _, rfl⟩, HB.out.alloc HB.out.size _⟩
theorem wants_4 (d : zB) (hs : d.length ≤ 100000) (w : World) (he : Eb w) (ht : Tb w) :
 Calls Tryz.prog 127 #[ObjV 4 d] w (WtPost (z0g 4 d) w) := by
 have B0 := below_new w (.cells #[.int .i64 4, .string ⟨d.toArray⟩] 37);have hf := z4i 4 d hs _ (he.below B0) (ht.below B0);have HF := zh hf;have HE := zh he; have HB0 := zh B0; have HS := zh hs;have HQ1 : Hid (d.length ≤ 65536 → z0g 4 d = z7h 4 d) := zh (z5l d 4 (by decide));have HQ2 : Hid (¬ d.length ≤ 65536 → z0g 4 d = none) := zh (z1y d 4);have HQ3 : Hid (z7h 4 d = none → z0g 4 d = none) := zh (z66 d 4 (by decide));have hblk : ∀ W, Below (w.alloc (.cells #[.int .i64 4, .string ⟨d.toArray⟩] 37)).heap.size (w.alloc (.cells #[.int .i64 4, .string ⟨d.toArray⟩] 37)) W → Below w.heap.size w W ∧ W.heap[w.heap.size]? = some (.cells #[.int .i64 4, .string ⟨d.toArray⟩] 37 (0, 0)) := fun W h => ⟨B0.trans (h.mono B0.size), (h.block _ (by simp)).trans (heap_alloc_new _ _)⟩
 have HBk := zh hblk;have hwd := fun W => z3k 4 W;unfold SV at hwd;obtain ⟨kw, hkw⟩ : ∃ kw : ByteArray, kw = ⟨(kindW 4).toArray⟩ := ⟨_, rfl⟩
 rw [← hkw] at hwd;have HWd := zh hwd;have HWn := zh (fun W => z3w (.string kw) W);have HWs := zh (fun (p : Addr) W => z1l kw (.iface 232 (.pointer (some p))) ⟨p, rfl⟩ W);unfold ObjV at HF ⊢;clear hf he ht hs B0 hblk hwd hkw
 go_enter Tryz.func127, Tryz.ntmps127
 go_wp2_with fail
 refine HF.out.mono ?_;intro e w1 h;have l1 := h.2;rcases h.ret with ⟨A, n, c, rfl, l, ho, hr, hl⟩ | ⟨A, n, c, p, rfl, ho⟩
 · obtain ⟨hb, hbk⟩ := HBk.out w1 l1;have q0 : w1.cell? ⟨w.heap.size, 0, none⟩ = some (.int .i64 4) := z03 hbk rfl;have q1 : w1.cell? ⟨w.heap.size, 1, none⟩ = some (.string ⟨d.toArray⟩) := z03 hbk rfl;obtain ⟨pe, c0⟩ := (HE.out.below hb).er.over;have HB := zh hb; have HR := zh hr; have HO := zh ho; have HL := zh hl; have HK := zh hbk;clear h l1 hb hbk hr ho hl;by_cases hd : d.length ≤ 65536
   · have hd2 : (d.length : Int) ≤ 65536 := by omega
     have HD := zh hd;have HNd := zh (z2m (.string ⟨#[100, 97, 116, 97]⟩) (.iface 336 pe) w1);clear hd
     go_wp2_with fail
     refine HNd.out.mono ?_;rintro e w2 ⟨rfl, rfl⟩
     go_wp2_with fail
     refine (HWd.out w1).mono ?_;rintro e w2 ⟨rfl, rfl⟩
     go_wp2_with fail
     refine (HWn.out w1).mono ?_;rintro e w2 ⟨rfl, rfl⟩
     go_wp2_with fail
     go_ret2
     rw [HQ1.out HD.out];exact ⟨.inl ⟨_, l, HO.out, rfl, HR.out, HL.out.1, HL.out.2.mono HB0.out.size⟩, HB.out⟩
   · have hd2 : decide ((d.length : Int) ≤ 65536) = false := decide_eq_false (by omega);have hd3 : decide (d.length ≤ 65536) = false := decide_eq_false hd;have HD := zh hd;have HNd := zh (z3s ⟨#[100, 97, 116, 97]⟩ 336 pe w1);clear hd
     go_wp2_with fail
     refine HNd.out.mono ?_;rintro e w2 ⟨rfl, hw2⟩;have l2 : Below w1.heap.size w1 w2 := by rw [← hw2]; exact below_new w1 _
     have q2 : w2.cell? ⟨w.heap.size, 0, none⟩ = some (.int .i64 4) := cell_to q0 l2;have HB2 := zh (HB.out.trans (l2.mono HB.out.size));clear hw2 l2 q0 q1 c0
     go_wp2_with fail
     refine (HWd.out _).mono ?_;rintro e w3 ⟨rfl, rfl⟩
     go_wp2_with fail
     refine (HWs.out _ _).mono ?_;rintro e w3 ⟨rfl, hw3⟩;have HB3 : Hid (Below w.heap.size w w3) := zh (by rw [← hw3]; exact HB2.out.alloc HB2.out.size _);clear hw3
     go_wp2_with fail
     go_ret2
     rw [HQ2.out HD.out];exact ⟨.inr ⟨rfl, _, _, _, _, rfl⟩, HB3.out⟩
 · obtain ⟨hb, hbk⟩ := HBk.out w1 l1;have q0 : w1.cell? ⟨w.heap.size, 0, none⟩ = some (.int .i64 4) := z03 hbk rfl;have HB := zh hb; have HO := zh ho;clear h l1 hb hbk ho
   go_wp2_with fail
   refine (HWd.out _).mono ?_;rintro e w2 ⟨rfl, rfl⟩
   go_wp2_with fail
   refine (HWs.out _ _).mono ?_;rintro e w2 ⟨rfl, rfl⟩
   go_wp2_with fail
   go_ret2
   rw [HQ3.out HO.out];exact ⟨.inr ⟨rfl, _, _, _, _, rfl⟩, HB.out.alloc HB.out.size _⟩
theorem wants_1 (d : zB) (hs : d.length ≤ 100000) (w : World) (he : Eb w) :
 Calls Tryz.prog 127 #[ObjV 1 d] w (WtPost (z0g 1 d) w) := by
 have B0 := below_new w (.cells #[.int .i64 1, .string ⟨d.toArray⟩] 37);have HB0 := zh B0;obtain ⟨pe, c0⟩ := (he.below B0).er.over;have hwd := fun W => z3k 1 W;unfold SV at hwd;obtain ⟨kw, hkw⟩ : ∃ kw : ByteArray, kw = ⟨(kindW 1).toArray⟩ := ⟨_, rfl⟩
 rw [← hkw] at hwd;have HWd := zh hwd;have HWn := zh (fun W => z3w (.string kw) W);have HWs := zh (fun (p : Addr) W => z1l kw (.iface 232 (.pointer (some p))) ⟨p, rfl⟩ W);have HQ1 : Hid (d.length ≤ 65536 → z0g 1 d = some []) := zh (fun h => (z6l d 1 h).trans rfl);have HQ2 : Hid (¬ d.length ≤ 65536 → z0g 1 d = none) := zh (z1y d 1);obtain ⟨w1, hw1⟩ := zx (w.alloc (.cells #[.int .i64 1, .string ⟨d.toArray⟩] 37));have q0 : w1.cell? ⟨w.heap.size, 0, none⟩ = some (.int .i64 1) := by rw [hw1]; exact z03 (heap_alloc_new _ _) rfl
 have q1 : w1.cell? ⟨w.heap.size, 1, none⟩ = some (.string ⟨d.toArray⟩) := by rw [hw1]; exact z03 (heap_alloc_new _ _) rfl
 rw [← hw1] at c0 HB0;have HW1 := zh hw1;unfold ObjV;clear he B0 hwd hkw hw1;by_cases hd : d.length ≤ 65536
 · have hd2 : decide ((d.length : Int) ≤ 65536) = true := decide_eq_true (by omega);have hd3 : decide (d.length ≤ 65536) = true := decide_eq_true hd;have HD := zh hd;have HNd := zh (z2m (.string ⟨#[100, 97, 116, 97]⟩) (.iface 336 pe) w1);clear hd
   go_enter Tryz.func127, Tryz.ntmps127
   go_wp2_with (rw [← HW1.out])
   refine HNd.out.mono ?_;rintro e w2 ⟨rfl, rfl⟩
   go_wp2_with fail
   refine (HWd.out w1).mono ?_;rintro e w2 ⟨rfl, rfl⟩
   go_wp2_with fail
   refine (HWn.out w1).mono ?_;rintro e w2 ⟨rfl, rfl⟩
   go_wp2_with fail
   go_ret2
   rw [HQ1.out HD.out];exact ⟨.inl ⟨_, [], rfl, rfl, .inl ⟨⟨_, _, rfl⟩, rfl⟩, by simp, Fr.nil _ _ _⟩, HB0.out⟩
 · have hd2 : decide ((d.length : Int) ≤ 65536) = false := decide_eq_false (by omega);have hd3 : decide (d.length ≤ 65536) = false := decide_eq_false hd;have HD := zh hd;have HNd := zh (z3s ⟨#[100, 97, 116, 97]⟩ 336 pe w1);clear hd
   go_enter Tryz.func127, Tryz.ntmps127
   go_wp2_with (rw [← HW1.out])
   refine HNd.out.mono ?_;rintro e w2 ⟨rfl, hw2⟩;have l2 : Below w1.heap.size w1 w2 := by rw [← hw2]; exact below_new w1 _
   have q2 : w2.cell? ⟨w.heap.size, 0, none⟩ = some (.int .i64 1) := cell_to q0 l2;have HB2 := zh (HB0.out.trans (l2.mono HB0.out.size));clear hw2 l2 q0 q1 c0
   go_wp2_with fail
   refine (HWd.out _).mono ?_;rintro e w3 ⟨rfl, rfl⟩
   go_wp2_with fail
   refine (HWs.out _ _).mono ?_;rintro e w3 ⟨rfl, hw3⟩;have HB3 : Hid (Below w.heap.size w w3) := zh (by rw [← hw3]; exact HB2.out.alloc HB2.out.size _);clear hw3
   go_wp2_with fail
   go_ret2
   rw [HQ2.out HD.out];exact ⟨.inr ⟨rfl, _, _, _, _, rfl⟩, HB3.out⟩
theorem zil (k : Int) (h1 : k ≠ 1) (h2 : k ≠ 2) (h3 : k ≠ 3) (h4 : k ≠ 4) (d : zB) (w : World) (he : Eb w) :
 Calls Tryz.prog 127 #[ObjV k d] w (WtPost (z0g k d) w) := by
 have B0 := below_new w (.cells #[.int .i64 k, .string ⟨d.toArray⟩] 37);have HB0 := zh B0;obtain ⟨ea, c1⟩ := (he.below B0).er.wrong;have hwd := fun W => z3k k W;unfold SV at hwd;obtain ⟨kw, hkw⟩ : ∃ kw : ByteArray, kw = ⟨(kindW k).toArray⟩ := ⟨_, rfl⟩
 rw [← hkw] at hwd;have HWd := zh hwd;have HWs := zh (fun (p : Addr) W => z1l kw (.iface 232 (.pointer (some p))) ⟨p, rfl⟩ W)
 have HQ : Hid (z0g k d = none) := zh (by
  by_cases hd : d.length ≤ 65536
  · rw [z6l d k hd, if_neg h1, if_neg h2, if_neg h3, if_neg h4]
  · exact z1y d k hd)
 obtain ⟨w1, hw1⟩ := zx (w.alloc (.cells #[.int .i64 k, .string ⟨d.toArray⟩] 37));have q0 : w1.cell? ⟨w.heap.size, 0, none⟩ = some (.int .i64 k) := by rw [hw1]; exact z03 (heap_alloc_new _ _) rfl
 rw [← hw1] at c1 HB0;have q2 : (w1.alloc (.cells #[.string ⟨#[107, 105, 110, 100]⟩, .iface 336 (.pointer (some ea))] 236)).cell? ⟨w.heap.size, 0, none⟩ = some (.int .i64 k) := cell_to q0 (below_new w1 _);have HW1 := zh hw1;have b1 : (k == 1) = false := by simpa using h1
 have b2 : (k == 2) = false := by simpa using h2
 have b3 : (k == 3) = false := by simpa using h3
 have b4 : (k == 4) = false := by simpa using h4
 unfold ObjV;clear he B0 hwd hkw hw1
 go_enter Tryz.func127, Tryz.ntmps127
 go_wp2_with (rw [← HW1.out])
 refine (HWd.out _).mono ?_;rintro e w3 ⟨rfl, rfl⟩
 go_wp2_with fail
 refine (HWs.out _ _).mono ?_;rintro e w3 ⟨rfl, hw3⟩;have HB3 : Hid (Below w.heap.size w w3) := zh (by rw [← hw3]; exact (HB0.out.alloc HB0.out.size _).alloc (by have := HB0.out.size; simp; omega) _);clear hw3
 go_wp2_with fail
 go_ret2
 rw [HQ.out];exact ⟨.inr ⟨rfl, _, _, _, _, rfl⟩, HB3.out⟩
theorem z92 (k : Int) (d : zB) (hs : d.length ≤ 100000) (w : World) (he : Eb w) (ht : Tb w) :
 Calls Tryz.prog 127 #[ObjV k d] w (WtPost (z0g k d) w) := by
 by_cases h1 : k = 1
 · subst h1; exact wants_1 d hs w he
 by_cases h2 : k = 2
 · subst h2; exact wants_2 d hs w he ht
 by_cases h3 : k = 3
 · subst h3; exact wants_3 d hs w he ht
 by_cases h4 : k = 4
 · subst h4; exact wants_4 d hs w he ht
 · exact zil k h1 h2 h3 h4 d w he
theorem zd5 (k : Int) (d : zB) (hs : d.length ≤ 100000) (w : World) (he : Eb w) (ht : Tb w) :
 Calls Tryz.prog 119 #[ObjV k d] w (z06 (.bool (z0g k d).isSome) w) := by
 have B0 := below_new w (.cells #[.int .i64 k, .string ⟨d.toArray⟩] 37);have HW := zh (z92 k d hs _ (he.below B0) (ht.below B0));have HB := zh B0; have HE := zh he;unfold ObjV at HW ⊢;clear he ht hs B0
 go_enter Tryz.func119, Tryz.ntmps119
 go_wp2_with fail
 refine HW.out.mono ?_;intro e w1 h;have L1 := zh (HB.out.trans (h.2.mono HB.out.size));rcases h.ret with ⟨A, n, c, rfl, l, ho, _, _⟩ | ⟨A, n, c, p, rfl, ho⟩
 · have HO := zh ho;have HT := zh (zkf (.slice A n c) w1);clear h ho
   go_wp2_with fail
   refine HT.out.mono ?_;rintro e w2 ⟨rfl, l2⟩
   go_wp2_with fail
   go_ret
   rw [HO.out];exact ⟨rfl, L1.out.trans (l2.mono L1.out.size)⟩
 · have HO := zh ho;have HT := zh (zey (.slice A n c) (.iface 232 (.pointer (some p))) w1 ⟨p, rfl⟩ (HE.out.below L1.out).er.et);clear h ho
   go_wp2_with fail
   refine HT.out.mono ?_;rintro e w2 ⟨rfl, l2⟩
   go_wp2_with fail
   go_ret
   rw [HO.out];exact ⟨rfl, L1.out.trans (l2.mono L1.out.size)⟩
end Go.Proofs.YtgjddkeogboojaaGreatDoor
namespace Go.Proofs.YtgjddkeogboojaaGreatDoor
def z55 (x : UInt64) (s : Nat) : UInt64 := UInt64.ofNat (x.toNat * 2 ^ s)
def z93 (x : UInt64) (s : Nat) : UInt64 := UInt64.ofNat (x.toNat / 2 ^ s)
def zbw (x y : UInt64) : UInt64 := UInt64.ofNat (x.toNat * y.toNat / 18446744073709551616)
structure Two where
 hi : UInt64
 lo : UInt64
deriving DecidableEq
def Two.times (n : Two) (m : UInt64) : Two := ⟨n.hi * m + zbw n.lo m, n.lo * m⟩
def Two.pow (r : UInt64) : Nat → Two
 | 0 => ⟨0, r⟩
 | j + 1 => (Two.pow r j).times r
def Two.down (n : Two) (b : Nat) : UInt64 := z55 n.hi (64 - b) ||| z93 n.lo b
def z3y (yn0 un q rhat : UInt64) : Bool := decide (4294967296 ≤ q.toNat) || decide ((4294967296 * rhat + un).toNat < (q * yn0).toNat)
def corr (yn1 yn0 un : UInt64) : Nat → UInt64 → UInt64 → UInt64
 | 0, q, _ => q
 | n + 1, q, rhat => if z3y yn0 un q rhat then (if 4294967296 ≤ (rhat + yn1).toNat then q - 1 else corr yn1 yn0 un n (q - 1) (rhat + yn1)) else q
def z4o (yn1 yn0 un : UInt64) : Nat → UInt64 → UInt64 → Bool
 | 0, _, _ => false
 | n + 1, q, rhat => if z3y yn0 un q rhat then (if 4294967296 ≤ (rhat + yn1).toNat then true else z4o yn1 yn0 un n (q - 1) (rhat + yn1)) else true
structure Div where
 s : Nat
 y : UInt64
 yn1 : UInt64
 yn0 : UInt64
 un32 : UInt64
 un1 : UInt64
 un0 : UInt64
def zim (hi lo y : UInt64) (s : Nat) : Div :=
 ⟨s, z55 y s, z93 (z55 y s) 32, z55 y s &&& 4294967295, z55 hi s ||| z93 lo (64 - s), z93 (z55 lo s) 32, z55 lo s &&& 4294967295⟩
def Div.q1 (d : Div) : UInt64 := corr d.yn1 d.yn0 d.un1 3 (d.un32 / d.yn1) (d.un32 - d.un32 / d.yn1 * d.yn1)
def Div.un21 (d : Div) : UInt64 := d.un32 * 4294967296 + d.un1 - d.q1 * d.y
def Div.q0 (d : Div) : UInt64 := corr d.yn1 d.yn0 d.un0 3 (d.un21 / d.yn1) (d.un21 - d.un21 / d.yn1 * d.yn1)
def Div.quo (d : Div) : UInt64 := d.q1 * 4294967296 + d.q0
def Div.ok (d : Div) : Bool := decide (0 < d.yn1.toNat) && decide (d.yn1.toNat < 4294967296) && z4o d.yn1 d.yn0 d.un1 3 (d.un32 / d.yn1) (d.un32 - d.un32 / d.yn1 * d.yn1)
 && z4o d.yn1 d.yn0 d.un0 3 (d.un21 / d.yn1) (d.un21 - d.un21 / d.yn1 * d.yn1)
def lenN (n : Nat) : Nat := Go.Lib.bitLen n
def nearM (r : UInt64) (k : Nat) : UInt64 := (Two.pow r (k - 1)).down (32 * k - 51)
def zlk (r p : UInt64) (k : Nat) : UInt64 := (UInt64.ofNat k - 1) * nearM r k + (UInt64.ofNat k + 1) * z55 p 51
def zll (r p : UInt64) (k : Nat) : UInt64 := (UInt64.ofNat k + 1) * nearM r k + (UInt64.ofNat k - 1) * z55 p 51
def nearD (r p : UInt64) (k : Nat) : Div := zim (zbw (zlk r p k) r) (zlk r p k * r) (zll r p k) (64 - lenN (zll r p k).toNat)
def z94 (r p : UInt64) (k : Nat) : UInt64 := (nearD r p k).quo
def z3z (r p : UInt64) (k : Nat) : Bool :=
 (nearD r p k).ok && decide (0 < (zbw (zlk r p k) r).toNat) && decide ((zbw (zlk r p k) r).toNat < (zll r p k).toNat) && decide (1 ≤ lenN (zll r p k).toNat)
def z67 (p near : UInt64) (k : Nat) : Nat → UInt64
 | 0 => near
 | j + 1 => z94 (z67 p near k j) p k
def primesL : List Nat := [
 2, 3, 5, 7, 11, 13, 17, 19, 23, 29, 31, 37, 41, 43, 47, 53,
 59, 61, 67, 71, 73, 79, 83, 89, 97, 101, 103, 107, 109, 113, 127, 131,
 137, 139, 149, 151, 157, 163, 167, 173, 179, 181, 191, 193, 197, 199, 211, 223,
 227, 229, 233, 239, 241, 251, 257, 263, 269, 271, 277, 281, 283, 293, 307, 311]
def primeN (i : Nat) : Nat := primesL.getD i 0
def z4p (k : Nat) : Nat → UInt64
 | 0 => 4294967296
 | i + 1 => z67 (UInt64.ofNat (primeN i)) (z4p k i) k 3
def zd6 {β : Type} (x : UInt64) (f : UInt64 → β) : β :=
 match x.toNat with
 | 0 => f 0
 | n + 1 => f (UInt64.ofNat (n + 1))
theorem zlm {β : Type} (x : UInt64) (f : UInt64 → β) : zd6 x f = f x := by
 unfold zd6;split
 · rename_i h; rw [show x = 0 from UInt64.toNat_inj.1 (by simpa using h)]
 · rename_i n h; rw [show n + 1 = x.toNat from h.symm, UInt64.ofNat_toNat]
def stepE (p : Nat) (k : Nat) (near : UInt64) : Bool × UInt64 :=
 zd6 (z94 near (UInt64.ofNat p) k) fun r1 => zd6 (z94 r1 (UInt64.ofNat p) k) fun r2 => zd6 (z94 r2 (UInt64.ofNat p) k) fun r3 =>
  (z3z near (UInt64.ofNat p) k && z3z r1 (UInt64.ofNat p) k && z3z r2 (UInt64.ofNat p) k, r3)
def zgw (st : Bool × UInt64) (t : UInt32) (f : UInt64 → Bool) : Bool := st.1 && decide (st.2.toUInt32 = t) && f st.2
def z5u (k : Nat) : List Nat → UInt64 → List UInt32 → Bool
 | [], _, _ => true
 | p :: ps, near, L => zgw (stepE p k near) (L.headD 0) fun r => z5u k ps r L.tail
theorem zln (k p : Nat) (ps : List Nat) (near : UInt64) (t : UInt32) (ts : List UInt32) : z5u k (p :: ps) near (t :: ts) = zgw (stepE p k near) t fun r => z5u k ps r ts := rfl
theorem eight : z5u 2 (primesL.take 8) 4294967296 HL = true := by decide +kernel
theorem zlo : z5u 3 primesL 4294967296 KL = true := by decide +kernel
theorem stepE_eq (p k : Nat) (near : UInt64) : stepE p k near = (z3z near (UInt64.ofNat p) k && z3z (z67 (UInt64.ofNat p) near k 1) (UInt64.ofNat p) k && z3z (z67 (UInt64.ofNat p) near k 2) (UInt64.ofNat p) k, z67 (UInt64.ofNat p) near k 3) := by
 unfold stepE;simp only [zlm];rfl
theorem zff {st : Bool × UInt64} {t : UInt32} {f : UInt64 → Bool} (h : zgw st t f = true) : st.1 = true ∧ st.2.toUInt32 = t ∧ f st.2 = true := by
 unfold zgw at h;rw [Bool.and_eq_true, Bool.and_eq_true] at h;exact ⟨h.1.1, of_decide_eq_true h.1.2, h.2⟩
def zin (p k : Nat) (near : UInt64) : Prop := ∀ j, j < 3 → z3z (z67 (UInt64.ofNat p) near k j) (UInt64.ofNat p) k = true
theorem okAll_of {p k : Nat} {near : UInt64} (h : (z3z near (UInt64.ofNat p) k && z3z (z67 (UInt64.ofNat p) near k 1) (UInt64.ofNat p) k && z3z (z67 (UInt64.ofNat p) near k 2) (UInt64.ofNat p) k) = true) : zin p k near := by
 rw [Bool.and_eq_true, Bool.and_eq_true] at h;obtain ⟨⟨k0, k1⟩, k2⟩ := h;intro j hj
 match j, hj with
 | 0, _ => exact k0
 | 1, _ => exact k1
 | 2, _ => exact k2
theorem z95 {k p : Nat} {ps : List Nat} {near : UInt64} {t : UInt32} {ts : List UInt32} (h : z5u k (p :: ps) near (t :: ts) = true) :
 zin p k near ∧ (z67 (UInt64.ofNat p) near k 3).toUInt32 = t ∧ z5u k ps (z67 (UInt64.ofNat p) near k 3) ts = true := by
 rw [zln] at h;obtain ⟨h1, h2, h3⟩ := zff h;rw [stepE_eq] at h1 h2 h3;exact ⟨okAll_of h1, h2, h3⟩
theorem zlp {k : Nat} {ps : List Nat} {L : List UInt32} (h : z5u k ps 4294967296 L = true) (hl : L.length = ps.length) (hp : ∀ i, i < ps.length → ps[i]? = some (primeN i)) :
 ∀ i, i ≤ ps.length → z5u k (ps.drop i) (z4p k i) (L.drop i) = true := by
 intro i
 induction i with
 | zero => intro _; exact h
 | succ i ih =>
   intro hi;have h1 := ih (by omega)
   have e1 : ps.drop i = primeN i :: ps.drop (i + 1) := by
    have := hp i (by omega);rw [zj (by omega)] at this;rw [List.drop_eq_getElem_cons (by omega), Option.some.inj this]
   have e2 : L.drop i = L[i]'(by omega) :: L.drop (i + 1) := List.drop_eq_getElem_cons (by omega);rw [e1, e2] at h1;exact (z95 h1).2.2
theorem zas {k : Nat} {ps : List Nat} {L : List UInt32} (h : z5u k ps 4294967296 L = true) (hl : L.length = ps.length) (hp : ∀ i, i < ps.length → ps[i]? = some (primeN i))
 (i : Nat) (hi : i < ps.length) : zin (primeN i) k (z4p k i) ∧ (z4p k (i + 1)).toUInt32 = L.getD i 0 := by
 have h1 := zlp h hl hp i (by omega)
 have e1 : ps.drop i = primeN i :: ps.drop (i + 1) := by
  have := hp i (by omega);rw [zj (by omega)] at this;rw [List.drop_eq_getElem_cons (by omega), Option.some.inj this]
 have e2 : L.drop i = L[i]'(by omega) :: L.drop (i + 1) := List.drop_eq_getElem_cons (by omega);rw [e1, e2] at h1;have h2 := z95 h1;refine ⟨h2.1, ?_⟩;rw [zg, zj (by omega)];exact h2.2.1
theorem roots3 (i : Nat) (hi : i < 64) : zin (primeN i) 3 (z4p 3 i) ∧ (z4p 3 (i + 1)).toUInt32 = KF i :=
 zas zlo rfl (fun i hi => by
  unfold primeN; rw [zg, zj hi]; rfl) i hi
theorem HL_get : ∀ i, i < 8 → HL.getD i 0 = H0.get i := by decide +kernel
theorem take8 : ∀ i, i < 8 → (primesL.take 8)[i]? = some (primeN i) := by decide +kernel
theorem roots2 (i : Nat) (hi : i < 8) : zin (primeN i) 2 (z4p 2 i) ∧ (z4p 2 (i + 1)).toUInt32 = H0.get i := by
 have h := zas eight (by decide) (fun i hi => take8 i hi) i hi;exact ⟨h.1, h.2.trans (HL_get i hi)⟩
end Go.Proofs.YtgjddkeogboojaaGreatDoor
namespace Go.Proofs.YtgjddkeogboojaaGreatDoor
open Go Go.RowKit Go.Shelf
theorem lz_any (x : Int) (w : World) (h0 : 0 ≤ x) (h1 : x ≤ 18446744073709551615) :
 Calls Tryz.prog 146 #[.int .u64 x] w fun e w' => e = .returned (.int .i64 (64 - (Lib.bitLen x.toNat : Int))) ∧ w' = w := Any.bits_LeadingZeros64 Tryz.lzA x w h0 h1
theorem mul_any (x y : Nat) (hx : x < 18446744073709551616) (hy : y < 18446744073709551616) (w : World) :
 Calls Tryz.prog 132 #[.int .u64 x, .int .u64 y] w fun e w' => e = .returned (.tuple #[.int .u64 ((x * y / 18446744073709551616 : Nat) : Int), .int .u64 ((x * y % 18446744073709551616 : Nat) : Int)]) ∧ w' = w := Any.bits_Mul64 Tryz.mulA x y hx hy w
theorem and64 (x y : UInt64) : bits .and .u64 (x.toNat : Int) (y.toNat : Int) = ((x &&& y).toNat : Int) := by
 rw [bits_and_u64_nat _ _ x.toNat_lt y.toNat_lt, UInt64.toNat_and]
theorem mask64 (x : UInt64) : bits .and .u64 (x.toNat : Int) 4294967295 = ((x &&& 4294967295).toNat : Int) := and64 x 4294967295
theorem or64 (x y : UInt64) : bits .or .u64 (x.toNat : Int) (y.toNat : Int) = ((x ||| y).toNat : Int) := by
 rw [bits_or_u64_nat _ _ x.toNat_lt y.toNat_lt, UInt64.toNat_or]
theorem add64 (x y : UInt64) : ((x.toNat : Int) + (y.toNat : Int)) % 18446744073709551616 = ((x + y).toNat : Int) := by
 rw [← Int.natCast_add, UInt64.toNat_add]; omega
theorem mul64 (x y : UInt64) : ((x.toNat : Int) * (y.toNat : Int)) % 18446744073709551616 = ((x * y).toNat : Int) := by
 rw [← Int.natCast_mul, UInt64.toNat_mul]; omega
theorem sub64 (x y : UInt64) : ((x.toNat : Int) - (y.toNat : Int)) % 18446744073709551616 = ((x - y).toNat : Int) := by
 have h1 := x.toNat_lt; have h2 := y.toNat_lt;rw [UInt64.toNat_sub]; omega
theorem div64 (x y : UInt64) : ((x.toNat : Int) / (y.toNat : Int)) = ((x / y).toNat : Int) := by
 rw [UInt64.toNat_div]; exact (Int.natCast_ediv _ _).symm
theorem shl64_eq (x : UInt64) (s : Nat) : ((x.toNat : Int) * 2 ^ s) % 18446744073709551616 = ((z55 x s).toNat : Int) := by
 unfold z55;rw [UInt64.toNat_ofNat', show (2 : Int) ^ s = ((2 ^ s : Nat) : Int) by simp, ← Int.natCast_mul]; omega
theorem z6m (x : UInt64) (s : Nat) : (x.toNat : Int) / 2 ^ s = ((z93 x s).toNat : Int) := by
 unfold z93;have h1 := x.toNat_lt;have h2 : x.toNat / 2 ^ s ≤ x.toNat := Nat.div_le_self _ _;rw [UInt64.toNat_ofNat', show (2 : Int) ^ s = ((2 ^ s : Nat) : Int) by simp, ← Int.natCast_ediv, Nat.mod_eq_of_lt (by omega)]
theorem z5v (x y : UInt64) : IntKind.u64.wrap ((x.toNat : Int) + (y.toNat : Int)) = ((x + y).toNat : Int) := by rw [IntKind.wrap_u64, add64]
theorem z40 (x y : UInt64) : IntKind.u64.wrap ((x.toNat : Int) * (y.toNat : Int)) = ((x * y).toNat : Int) := by rw [IntKind.wrap_u64, mul64]
theorem zd7 (x y : UInt64) : IntKind.u64.wrap ((x.toNat : Int) - (y.toNat : Int)) = ((x - y).toNat : Int) := by rw [IntKind.wrap_u64, sub64]
theorem zd8 (x y : UInt64) (w : World) :
 Calls Tryz.prog 132 #[.int .u64 (x.toNat : Int), .int .u64 (y.toNat : Int)] w fun e w' => e = .returned (.tuple #[.int .u64 ((zbw x y).toNat : Int), .int .u64 ((x * y).toNat : Int)]) ∧ w = w' := by
 have h1 : (zbw x y).toNat = x.toNat * y.toNat / 18446744073709551616 := by
  unfold zbw;have hx := x.toNat_lt; have hy := y.toNat_lt;have : x.toNat * y.toNat ≤ 18446744073709551615 * 18446744073709551615 := Nat.mul_le_mul (by omega) (by omega);rw [UInt64.toNat_ofNat', Nat.mod_eq_of_lt (by omega)]
 have h2 : (x * y).toNat = x.toNat * y.toNat % 18446744073709551616 := UInt64.toNat_mul x y;rw [h1, h2];exact (mul_any x.toNat y.toNat x.toNat_lt y.toNat_lt w).mono fun _ _ h => ⟨h.1, h.2.symm⟩
theorem zlq (n : Two) (m : UInt64) (w : World) :
 Calls Tryz.prog 145 #[.agg #[.int .u64 (n.hi.toNat : Int), .int .u64 (n.lo.toNat : Int)], .int .u64 (m.toNat : Int)] w fun e w' =>
  e = .returned (.agg #[.int .u64 ((n.times m).hi.toNat : Int), .int .u64 ((n.times m).lo.toNat : Int)]) ∧ Below w.heap.size w w' := by
 obtain ⟨a, b⟩ := n;have HM := zh (zd8 b m);obtain ⟨p, hp⟩ := zx (zbw b m);obtain ⟨q, hq⟩ := zx (b * m);obtain ⟨r, hr⟩ := zx (a * m);obtain ⟨t, ht⟩ := zx (r + p);rw [← hp, ← hq] at HM;have g1 : IntKind.u64.wrap ((a.toNat : Int) * (m.toNat : Int)) = (r.toNat : Int) := by rw [z40, hr]
 have g2 : IntKind.u64.wrap ((r.toNat : Int) + (p.toNat : Int)) = (t.toNat : Int) := by rw [z5v, ht]
 have g3 : ((r.toNat : Int) + (p.toNat : Int)) % 18446744073709551616 = (t.toNat : Int) := by rw [add64, ht]
 have ht : (Two.times ⟨a, b⟩ m) = ⟨t, q⟩ := by rw [ht, hr, hp, hq]; rfl
 rw [ht];have G3 := zh g3;clear hp hq hr ht g3
 go_enter Tryz.func145, Tryz.ntmps145
 go_wp2_with (refine (HM.out _).mono ?_; rintro e w' ⟨rfl, rfl⟩)
 exact bodyPost_ret (v := .agg #[.int .u64 (t.toNat : Int), .int .u64 (q.toNat : Int)]) (by simp [results, Tryz.results145, go_sem]; exact G3.out) rfl ⟨rfl, ((Below.refl _ _).alloc zl _).alloc (by simp) _⟩
theorem zlr (r : UInt64) (k : Nat) (hk : 1 ≤ k) (hk2 : k ≤ 3) (w : World) :
 Calls Tryz.prog 130 #[.int .u64 (r.toNat : Int), .int .u64 (k : Int)] w fun e w' =>
  e = .returned (.agg #[.int .u64 ((Two.pow r (k - 1)).hi.toNat : Int), .int .u64 ((Two.pow r (k - 1)).lo.toNat : Int)]) ∧ Below w.heap.size w w' := by
 have gk : IntKind.u64.wrap ((k : Int) - 1) = ((k - 1 : Nat) : Int) := by rw [IntKind.wrap_u64]; omega
 obtain ⟨n, hn⟩ := zx (k - 1);rw [← hn] at gk ⊢;have hn2 : n ≤ 2 := by omega
 clear hn hk hk2
 go_enter Tryz.func130, Tryz.ntmps130
 go_wp2
 clear gk
 go_loopw [10] (fun i wr => ∃ (j : Nat) (t : Two), j ≤ n ∧ i = .int .u64 j ∧ t = Two.pow r j ∧ Below w.heap.size w wr ∧ Blk wr w.heap.size 223 #[.int .u64 0, .int .u64 0] ∧ Blk wr (w.heap.size + 1) 223 #[.int .u64 (t.hi.toNat : Int), .int .u64 (t.lo.toNat : Int)]) (fun i _ => n - (intOf i).toNat)
 case atStart => exact ⟨0, ⟨0, r⟩, Nat.zero_le _, rfl, rfl, ((Below.refl _ _).alloc zl _).alloc (by simp) _, (Blk.new w _ _).alloc _, by have := Blk.new (w.alloc (Obj.cells #[.int .u64 0, .int .u64 0] 223)) 223 #[.int .u64 0, .int .u64 (r.toNat : Int)]; simpa using this⟩
 case round =>
  obtain ⟨j, t, hj, rfl, ht, hb, b0, b1⟩ := hrel;have Ht := zh ht; clear ht;by_cases hlt : j < n
  · have HC := zh (zlq t r wr);have gj : IntKind.u64.wrap ((j : Int) + 1) = ((j + 1 : Nat) : Int) := by rw [IntKind.wrap_u64]; omega
    have c0 := b1.cell 0;have c1 := b1.cell 1;simp only [List.getElem?_toArray, List.getElem?_cons_zero, List.getElem?_cons_succ] at c0 c1;have f0 := b1.frozen 0;have f1 := b1.frozen 1;have hsz := b1.lt
    go_wp2_with fail
    refine HC.out.mono ?_;rintro e w' ⟨rfl, hbw⟩;have b0' := b0.below hbw b0.lt;have b1' := b1.below hbw b1.lt;have c0' := b1'.cell 0;have c1' := b1'.cell 1;simp only [List.getElem?_toArray, List.getElem?_cons_zero, List.getElem?_cons_succ] at c0' c1';have f0' := b1'.frozen 0;have f1' := b1'.frozen 1;have hsz' := b1'.lt;clear c0 c1 f0 f1 hsz
    go_wp2
    go_roundw
    case rel =>
     refine ⟨j + 1, t.times r, by omega, by go_num, by rw [Ht.out]; rfl, ((hb.trans (hbw.mono hb.size)).setCell (by simp) _).setCell (by simp) _, (b0'.far (by simp) _).far (by simp) _, ?_⟩;have := (b1'.set_ 0 (.int .u64 ((t.times r).hi.toNat : Int))).set_ 1 (.int .u64 ((t.times r).lo.toNat : Int));simpa using this
    case measure => simp [intOf]; omega
  · have hjn : Hid (t = Two.pow r n) := zh (by rw [Ht.out, show j = n by omega]);have c0 := b1.cell 0;have c1 := b1.cell 1;have d0 := b0.cell 0;have d1 := b0.cell 1;simp only [List.getElem?_toArray, List.getElem?_cons_zero, List.getElem?_cons_succ] at c0 c1 d0 d1;have f0 := b0.frozen 0;have f1 := b0.frozen 1;have hsz := b1.lt;have hbe : Below w.heap.size w ((wr.setCell ⟨w.heap.size, 0, none⟩ (.int .u64 (t.hi.toNat : Int))).setCell ⟨w.heap.size, 1, none⟩ (.int .u64 (t.lo.toNat : Int))) := (hb.setCell (by simp) _).setCell (by simp) _
    have be : Blk ((wr.setCell ⟨w.heap.size, 0, none⟩ (.int .u64 (t.hi.toNat : Int))).setCell ⟨w.heap.size, 1, none⟩ (.int .u64 (t.lo.toNat : Int))) w.heap.size 223 #[.int .u64 (t.hi.toNat : Int), .int .u64 (t.lo.toNat : Int)] := by
     have := (b0.set_ 0 (.int .u64 (t.hi.toNat : Int))).set_ 1 (.int .u64 (t.lo.toNat : Int));simpa using this
    go_wp2
    rw [← hjn.out];exact bodyPost_ret (v := .agg #[.int .u64 (t.hi.toNat : Int), .int .u64 (t.lo.toNat : Int)]) (results_cell_row rfl _ _ w.heap.size 223 _ (0, 0) _ rfl be Tryz.underlying223 rfl (by kernel_rfl)) rfl ⟨rfl, hbe⟩
end Go.Proofs.YtgjddkeogboojaaGreatDoor
namespace Go.Proofs.YtgjddkeogboojaaGreatDoor
open Go Go.RowKit
theorem ret_u64 {a b : Int} (h : a = b) : Ending.returned (.int .u64 a) = .returned (.int .u64 b) := by rw [h]
theorem zd9 (x : UInt64) (s : Nat) : IntKind.u64.wrap ((x.toNat : Int) * 2 ^ s) = ((z55 x s).toNat : Int) := by rw [IntKind.wrap_u64, shl64_eq]
theorem down_any (n : Two) (b : Nat) (hb : b ≤ 63) (hb1 : 1 ≤ b) (w : World) :
 Calls Tryz.prog 131 #[.agg #[.int .u64 (n.hi.toNat : Int), .int .u64 (n.lo.toNat : Int)], .int .u64 (b : Int)] w fun e w' =>
  e = .returned (.int .u64 ((n.down b).toNat : Int)) ∧ Below w.heap.size w w' := by
 obtain ⟨x, y⟩ := n;obtain ⟨c, hc⟩ := zx (64 - b);have g1 : IntKind.u64.wrap (64 - (b : Int)) = (c : Int) := by rw [IntKind.wrap_u64]; omega
 have HD : Hid (Two.down ⟨x, y⟩ b = z55 x c ||| z93 y b) := zh (by rw [hc]; rfl);have hc1 : c ≤ 63 := by omega
 clear hc
 go_enter Tryz.func131, Tryz.ntmps131
 go_wp2
 go_ret
 refine ⟨ret_u64 ?_, (Below.refl _ _).alloc zl _⟩;rw [zd9, z6m, or64, HD.out]
theorem lz_nat (x : UInt64) (w : World) : Calls Tryz.prog 146 #[.int .u64 (x.toNat : Int)] w fun e w' => e = .returned (.int .i64 ((64 - lenN x.toNat : Nat) : Int)) ∧ w = w' := by
 have hx := x.toNat_lt;refine (lz_any (x.toNat : Int) w (by omega) (by omega)).mono ?_;rintro e w' ⟨rfl, rfl⟩;refine ⟨?_, rfl⟩
 have e1 : Lib.bitLen ((x.toNat : Int)).toNat = lenN x.toNat := by
  rw [Int.toNat_natCast]; rfl
 have e2 : lenN x.toNat ≤ 64 := Go.Lib.bitLen_le x.toNat 64 (by omega) (by omega);rw [e1]
 congr 2
 omega
theorem rem_lt (x y : UInt64) (h : 0 < y.toNat) : (x - x / y * y).toNat < y.toNat := by
 have h1 : (x / y * y).toNat = x.toNat / y.toNat * y.toNat := by
  rw [UInt64.toNat_mul, UInt64.toNat_div, Nat.mod_eq_of_lt];have := Nat.div_mul_le_self x.toNat y.toNat;have := x.toNat_lt;omega
 have h2 : (x / y * y).toNat ≤ x.toNat := by rw [h1]; exact Nat.div_mul_le_self _ _
 have h3 := x.toNat_lt
 have h4 : (x - x / y * y).toNat = x.toNat % y.toNat := by
  have := Nat.div_add_mod' x.toNat y.toNat;rw [UInt64.toNat_sub];omega
 rw [h4];exact Nat.mod_lt _ h
theorem zls {yn1 yn0 un q r : UInt64} {n : Nat} (h : z3y yn0 un q r = false) : corr yn1 yn0 un (n + 1) q r = q := by rw [corr, h]; rfl
theorem zda {yn1 yn0 un q r : UInt64} {n : Nat} (h : z3y yn0 un q r = true) (h2 : 4294967296 ≤ (r + yn1).toNat) : corr yn1 yn0 un (n + 1) q r = q - 1 := by rw [corr, h, if_pos rfl, if_pos h2]
theorem zlt {yn1 yn0 un q r : UInt64} {n : Nat} (h : z3y yn0 un q r = true) (h2 : ¬ 4294967296 ≤ (r + yn1).toNat) : corr yn1 yn0 un (n + 1) q r = corr yn1 yn0 un n (q - 1) (r + yn1) := by rw [corr, h, if_pos rfl, if_neg h2]
theorem zdb {yn1 yn0 un q r : UInt64} {n : Nat} (h : z3y yn0 un q r = true) (h2 : ¬ 4294967296 ≤ (r + yn1).toNat) : z4o yn1 yn0 un (n + 1) q r = z4o yn1 yn0 un n (q - 1) (r + yn1) := by rw [z4o, h, if_pos rfl, if_neg h2]
theorem zlu (x : UInt64) : IntKind.u64.wrap (x.toNat : Int) = (x.toNat : Int) := by have := x.toNat_lt; rw [IntKind.wrap_u64]; omega
theorem zlv (x : UInt64) : IntKind.u64.wrap (4294967296 * (x.toNat : Int)) = ((4294967296 * x).toNat : Int) := z40 4294967296 x
theorem zfg (x : UInt64) : IntKind.u64.wrap ((x.toNat : Int) * 4294967296) = ((x * 4294967296).toNat : Int) := z40 x 4294967296
theorem dec64w (x : UInt64) : IntKind.u64.wrap ((x.toNat : Int) - 1) = ((x - 1).toNat : Int) := zd7 x 1
theorem zlw (hi lo y : UInt64) (s : Nat) (hs : s = 64 - lenN y.toNat) (hs63 : s ≤ 63) (h0 : 0 < hi.toNat) (h1 : hi.toNat < y.toNat) (hok : (zim hi lo y s).ok = true) (w : World) :
 Calls Tryz.prog 133 #[.int .u64 (hi.toNat : Int), .int .u64 (lo.toNat : Int), .int .u64 (y.toNat : Int)] w fun e w' =>
  (∃ r : UInt64, e = .returned (.tuple #[.int .u64 ((zim hi lo y s).quo.toNat : Int), .int .u64 (r.toNat : Int)])) ∧ w = w' := by
 have HL := zh (lz_nat y w);rw [← hs] at HL;clear hs;obtain ⟨y2, hy2⟩ := zx (z55 y s);obtain ⟨yn1, hyn1⟩ := zx (z93 y2 32);obtain ⟨yn0, hyn0⟩ := zx (y2 &&& 4294967295);obtain ⟨b1, hb1⟩ := zx (z55 hi s);obtain ⟨b2, hb2⟩ := zx (z93 lo (64 - s));obtain ⟨un32, hun32⟩ := zx (b1 ||| b2);obtain ⟨un10, hun10⟩ := zx (z55 lo s);obtain ⟨un1, hun1⟩ := zx (z93 un10 32);obtain ⟨un0, hun0⟩ := zx (un10 &&& 4294967295);have hd : zim hi lo y s = ⟨s, y2, yn1, yn0, un32, un1, un0⟩ := by rw [hyn1, hyn0, hun1, hun0, hun32, hb1, hb2, hun10, hy2]; rfl
 rw [hd] at hok ⊢;clear hd;have gs : IntKind.u64.wrap (s : Int) = (s : Int) := by rw [IntKind.wrap_u64]; omega
 obtain ⟨c, hc⟩ := zx (64 - s);have gc : IntKind.u64.wrap (64 - (s : Int)) = (c : Int) := by rw [IntKind.wrap_u64]; omega
 have gy2 : IntKind.u64.wrap ((y.toNat : Int) * 2 ^ s) = (y2.toNat : Int) := by rw [zd9, hy2]
 have gyn1 : (y2.toNat : Int) / 4294967296 = (yn1.toNat : Int) := by have := z6m y2 32; rw [hyn1]; exact this
 have gyn0 : bits .and .u64 (y2.toNat : Int) 4294967295 = (yn0.toNat : Int) := by rw [mask64, hyn0]
 have gb1 : IntKind.u64.wrap ((hi.toNat : Int) * 2 ^ s) = (b1.toNat : Int) := by rw [zd9, hb1]
 have gb2 : (lo.toNat : Int) / 2 ^ c = (b2.toNat : Int) := by rw [z6m, hb2, hc]
 have gun32 : bits .or .u64 (b1.toNat : Int) (b2.toNat : Int) = (un32.toNat : Int) := by rw [or64, hun32]
 have gun10 : IntKind.u64.wrap ((lo.toNat : Int) * 2 ^ s) = (un10.toNat : Int) := by rw [zd9, hun10]
 have gun1 : (un10.toNat : Int) / 4294967296 = (un1.toNat : Int) := by have := z6m un10 32; rw [hun1]; exact this
 have gun0 : bits .and .u64 (un10.toNat : Int) 4294967295 = (un0.toNat : Int) := by rw [mask64, hun0]
 have hc63 : 1 ≤ c := by omega
 have hc64 : c ≤ 64 := by omega
 clear hyn1 hyn0 hun1 hun0 hun32 hb1 hb2 hun10 hy2 hc;unfold Div.ok at hok;simp only [Bool.and_eq_true, decide_eq_true_eq] at hok;obtain ⟨⟨⟨k1, k2⟩, k3⟩, k4⟩ := hok;have K3 := zh k3; have K4 := zh k4; clear k3 k4;have t1 : ((y.toNat : Int) == 0) = false := by simp; omega
 have t2 : decide (y.toNat ≤ hi.toNat) = false := decide_eq_false (by omega);have t3 : ((hi.toNat : Int) == 0) = false := by simp; omega
 have t4 : ((yn1.toNat : Int) == 0) = false := by simp; omega
 have t5 : ¬ ((yn1.toNat : Int) = 0) := by omega
 obtain ⟨qa, hqa⟩ := zx (un32 / yn1);obtain ⟨ma, hma⟩ := zx (qa * yn1);obtain ⟨ra, hra⟩ := zx (un32 - ma);have gqa : (un32.toNat : Int) / (yn1.toNat : Int) = (qa.toNat : Int) := by rw [div64, hqa]
 have gma : IntKind.u64.wrap ((qa.toNat : Int) * (yn1.toNat : Int)) = (ma.toNat : Int) := by rw [z40, hma]
 have gra : IntKind.u64.wrap ((un32.toNat : Int) - (ma.toNat : Int)) = (ra.toNat : Int) := by rw [zd7, hra]
 have gqs := zlu qa;obtain ⟨q1, hq1⟩ := zx (Div.q1 ⟨s, y2, yn1, yn0, un32, un1, un0⟩);have Hq1 : Hid (q1 = corr yn1 yn0 un1 3 qa ra) := zh (by rw [hq1, hra, hma, hqa]; rfl);have K3' : Hid (z4o yn1 yn0 un1 3 qa ra = true) := zh (by rw [hra, hma, hqa]; exact K3.out);have Hra : Hid (ra.toNat < 4294967296) := zh (by have := rem_lt un32 yn1 k1; rw [hra, hma, hqa]; omega);clear hqa hma hra
 go_enter Tryz.func133, Tryz.ntmps133
 go_upto_block 0 with (refine HL.out.mono ?_; rintro e w' ⟨rfl, rfl⟩)
 go_cut [15, 16] from 67 to 85 (fun q rh wx => q = .int .u64 (q1.toNat : Int) ∧ w = wx)
 case first =>
  go_wp2_with fail
  go_loop [15, 16] (fun q rh => ∃ (n : Nat) (Q R : UInt64), q = .int .u64 (Q.toNat : Int) ∧ rh = .int .u64 (R.toNat : Int) ∧ z4o yn1 yn0 un1 n Q R = true ∧ corr yn1 yn0 un1 n Q R = q1 ∧ R.toNat < 4294967296) (fun _ rh => 4294967296 - (intOf rh).toNat)
  case atStart => exact ⟨3, qa, ra, rfl, rfl, K3'.out, Hq1.out.symm, Hra.out⟩
  case round =>
   obtain ⟨n, Q, R, rfl, rfl, hok, hres, hR⟩ := hrel;cases n with
   | zero => cases hok
   | succ n =>
     have Hok := zh hok; have Hres := zh hres; clear hok hres;obtain ⟨a, ha⟩ := zx (Q * yn0);obtain ⟨b, hb⟩ := zx (4294967296 * R);obtain ⟨d, hd⟩ := zx (b + un1);obtain ⟨Q', hQ'⟩ := zx (Q - 1);obtain ⟨R', hR'⟩ := zx (R + yn1);have ga : IntKind.u64.wrap ((Q.toNat : Int) * (yn0.toNat : Int)) = (a.toNat : Int) := by rw [z40, ha]
     have gb : IntKind.u64.wrap (4294967296 * (R.toNat : Int)) = (b.toNat : Int) := by rw [zlv, hb]
     have gd : IntKind.u64.wrap ((b.toNat : Int) + (un1.toNat : Int)) = (d.toNat : Int) := by rw [z5v, hd]
     have gQ : IntKind.u64.wrap ((Q.toNat : Int) - 1) = (Q'.toNat : Int) := by rw [dec64w, hQ']
     have gR : IntKind.u64.wrap ((R.toNat : Int) + (yn1.toNat : Int)) = (R'.toNat : Int) := by rw [z5v, hR']
     have nR : R'.toNat = R.toNat + yn1.toNat := by rw [hR', UInt64.toNat_add]; omega
     have NR := zh nR; clear nR;have hBd : z3y yn0 un1 Q R = (decide (4294967296 ≤ Q.toNat) || decide (d.toNat < a.toNat)) := by rw [ha, hd, hb]; rfl
     have hstop : z3y yn0 un1 Q R = true → 4294967296 ≤ R'.toNat → q1 = Q' := fun h h2 => by rw [← Hres.out, hQ', zda h (by rw [← hR']; exact h2)]
     have hgo : z3y yn0 un1 Q R = true → ¬ 4294967296 ≤ R'.toNat → z4o yn1 yn0 un1 n Q' R' = true ∧ corr yn1 yn0 un1 n Q' R' = q1 := fun h h2 => by
      have h2' : ¬ 4294967296 ≤ (R + yn1).toNat := by rw [← hR']; exact h2
      rw [hQ', hR', ← Hres.out, ← Hok.out, zlt h h2', zdb h h2'];exact ⟨rfl, rfl⟩
     have hno : z3y yn0 un1 Q R = false → q1 = Q := fun h => by rw [← Hres.out, zls h]
     have HBd := zh hBd; have Hstop := zh hstop; have Hgo := zh hgo; have Hno := zh hno;clear hBd hstop hgo hno ha hb hd hQ' hR';by_cases c1 : 4294967296 ≤ (Q.toNat : Int)
     · have hB : Hid (z3y yn0 un1 Q R = true) := zh (by rw [HBd.out, decide_eq_true (by omega)]; rfl);by_cases c3 : 4294967296 ≤ (R'.toNat : Int)
       · go_wp2
         go_meet
         case rel => exact ⟨by rw [Hstop.out hB.out (by omega)], rfl⟩
       · go_wp2
         go_round
         case rel => exact ⟨n, Q', R', rfl, rfl, (Hgo.out hB.out (by omega)).1, (Hgo.out hB.out (by omega)).2, by omega⟩
         case measure => have := NR.out; simp [intOf]; omega
     · by_cases c2 : d.toNat < a.toNat
       · have hB : Hid (z3y yn0 un1 Q R = true) := zh (by rw [HBd.out, decide_eq_true c2, Bool.or_true]);by_cases c3 : 4294967296 ≤ (R'.toNat : Int)
         · go_wp2
           go_meet
           case rel => exact ⟨by rw [Hstop.out hB.out (by omega)], rfl⟩
         · go_wp2
           go_round
           case rel => exact ⟨n, Q', R', rfl, rfl, (Hgo.out hB.out (by omega)).1, (Hgo.out hB.out (by omega)).2, by omega⟩
           case measure => have := NR.out; simp [intOf]; omega
       · have hB : Hid (z3y yn0 un1 Q R = false) := zh (by rw [HBd.out, decide_eq_false c2, decide_eq_false (by omega)]; rfl)
         go_wp2
         go_meet
         case rel => exact ⟨by rw [Hno.out hB.out], rfl⟩
 case rest =>
  obtain ⟨rfl, rfl⟩ := hcut;obtain ⟨e1, he1⟩ := zx (un32 * 4294967296);have ge1 : IntKind.u64.wrap ((un32.toNat : Int) * 4294967296) = (e1.toNat : Int) := by rw [zfg, he1]
  obtain ⟨e2, he2⟩ := zx (e1 + un1);have ge2 : IntKind.u64.wrap ((e1.toNat : Int) + (un1.toNat : Int)) = (e2.toNat : Int) := by rw [z5v, he2]
  obtain ⟨e3, he3⟩ := zx (q1 * y2);have ge3 : IntKind.u64.wrap ((q1.toNat : Int) * (y2.toNat : Int)) = (e3.toNat : Int) := by rw [z40, he3]
  obtain ⟨e4, he4⟩ := zx (e2 - e3);have ge4 : IntKind.u64.wrap ((e2.toNat : Int) - (e3.toNat : Int)) = (e4.toNat : Int) := by rw [zd7, he4]
  obtain ⟨qb, hqb⟩ := zx (e4 / yn1);have gqb : (e4.toNat : Int) / (yn1.toNat : Int) = (qb.toNat : Int) := by rw [div64, hqb]
  obtain ⟨mb, hmb⟩ := zx (qb * yn1);have gmb : IntKind.u64.wrap ((qb.toNat : Int) * (yn1.toNat : Int)) = (mb.toNat : Int) := by rw [z40, hmb]
  obtain ⟨rb, hrb⟩ := zx (e4 - mb);have grb : IntKind.u64.wrap ((e4.toNat : Int) - (mb.toNat : Int)) = (rb.toNat : Int) := by rw [zd7, hrb]
  have gqs' := zlu qb;have h21 : Div.un21 ⟨s, y2, yn1, yn0, un32, un1, un0⟩ = e4 := by rw [he4, he3, he2, he1, hq1]; rfl
  obtain ⟨q0, hq0⟩ := zx (Div.q0 ⟨s, y2, yn1, yn0, un32, un1, un0⟩);have Hq0 : Hid (q0 = corr yn1 yn0 un0 3 qb rb) := zh (by rw [hq0, hrb, hmb, hqb, ← h21]; rfl);have K4' : Hid (z4o yn1 yn0 un0 3 qb rb = true) := zh (by rw [hrb, hmb, hqb, ← h21]; exact K4.out);have Hrb : Hid (rb.toNat < 4294967296) := zh (by have := rem_lt e4 yn1 k1; rw [hrb, hmb, hqb]; omega);have Hquo : Hid (Div.quo ⟨s, y2, yn1, yn0, un32, un1, un0⟩ = q1 * 4294967296 + q0) := zh (by rw [hq0, hq1]; rfl);clear he1 he2 he3 he4 hqb hmb hrb h21 hq0 hq1
  go_upto_block 2 with fail
  go_cut [18, 16] from 102 to 120 (fun q rh wx => q = .int .u64 (q0.toNat : Int) ∧ w = wx)
  case first =>
   go_wp2_with fail
   go_loop [18, 16] (fun q rh => ∃ (n : Nat) (Q R : UInt64), q = .int .u64 (Q.toNat : Int) ∧ rh = .int .u64 (R.toNat : Int) ∧ z4o yn1 yn0 un0 n Q R = true ∧ corr yn1 yn0 un0 n Q R = q0 ∧ R.toNat < 4294967296) (fun _ rh => 4294967296 - (intOf rh).toNat)
   case atStart => exact ⟨3, qb, rb, rfl, rfl, K4'.out, Hq0.out.symm, Hrb.out⟩
   case round =>
    obtain ⟨n, Q, R, rfl, rfl, hok, hres, hR⟩ := hrel;cases n with
    | zero => cases hok
    | succ n =>
      have Hok := zh hok; have Hres := zh hres; clear hok hres;obtain ⟨a, ha⟩ := zx (Q * yn0);obtain ⟨b, hb⟩ := zx (4294967296 * R);obtain ⟨d, hd⟩ := zx (b + un0);obtain ⟨Q', hQ'⟩ := zx (Q - 1);obtain ⟨R', hR'⟩ := zx (R + yn1);have ga : IntKind.u64.wrap ((Q.toNat : Int) * (yn0.toNat : Int)) = (a.toNat : Int) := by rw [z40, ha]
      have gb : IntKind.u64.wrap (4294967296 * (R.toNat : Int)) = (b.toNat : Int) := by rw [zlv, hb]
      have gd : IntKind.u64.wrap ((b.toNat : Int) + (un0.toNat : Int)) = (d.toNat : Int) := by rw [z5v, hd]
      have gQ : IntKind.u64.wrap ((Q.toNat : Int) - 1) = (Q'.toNat : Int) := by rw [dec64w, hQ']
      have gR : IntKind.u64.wrap ((R.toNat : Int) + (yn1.toNat : Int)) = (R'.toNat : Int) := by rw [z5v, hR']
      have nR : R'.toNat = R.toNat + yn1.toNat := by rw [hR', UInt64.toNat_add]; omega
      have NR := zh nR; clear nR;have hBd : z3y yn0 un0 Q R = (decide (4294967296 ≤ Q.toNat) || decide (d.toNat < a.toNat)) := by rw [ha, hd, hb]; rfl
      have hstop : z3y yn0 un0 Q R = true → 4294967296 ≤ R'.toNat → q0 = Q' := fun h h2 => by rw [← Hres.out, hQ', zda h (by rw [← hR']; exact h2)]
      have hgo : z3y yn0 un0 Q R = true → ¬ 4294967296 ≤ R'.toNat → z4o yn1 yn0 un0 n Q' R' = true ∧ corr yn1 yn0 un0 n Q' R' = q0 := fun h h2 => by
       have h2' : ¬ 4294967296 ≤ (R + yn1).toNat := by rw [← hR']; exact h2
       rw [hQ', hR', ← Hres.out, ← Hok.out, zlt h h2', zdb h h2'];exact ⟨rfl, rfl⟩
      have hno : z3y yn0 un0 Q R = false → q0 = Q := fun h => by rw [← Hres.out, zls h]
      have HBd := zh hBd; have Hstop := zh hstop; have Hgo := zh hgo; have Hno := zh hno;clear hBd hstop hgo hno ha hb hd hQ' hR';by_cases c1 : 4294967296 ≤ (Q.toNat : Int)
      · have hB : Hid (z3y yn0 un0 Q R = true) := zh (by rw [HBd.out, decide_eq_true (by omega)]; rfl);by_cases c3 : 4294967296 ≤ (R'.toNat : Int)
        · go_wp2
          go_meet
          case rel => exact ⟨by rw [Hstop.out hB.out (by omega)], rfl⟩
        · go_wp2
          go_round
          case rel => exact ⟨n, Q', R', rfl, rfl, (Hgo.out hB.out (by omega)).1, (Hgo.out hB.out (by omega)).2, by omega⟩
          case measure => have := NR.out; simp [intOf]; omega
      · by_cases c2 : d.toNat < a.toNat
        · have hB : Hid (z3y yn0 un0 Q R = true) := zh (by rw [HBd.out, decide_eq_true c2, Bool.or_true]);by_cases c3 : 4294967296 ≤ (R'.toNat : Int)
          · go_wp2
            go_meet
            case rel => exact ⟨by rw [Hstop.out hB.out (by omega)], rfl⟩
          · go_wp2
            go_round
            case rel => exact ⟨n, Q', R', rfl, rfl, (Hgo.out hB.out (by omega)).1, (Hgo.out hB.out (by omega)).2, by omega⟩
            case measure => have := NR.out; simp [intOf]; omega
        · have hB : Hid (z3y yn0 un0 Q R = false) := zh (by rw [HBd.out, decide_eq_false c2, decide_eq_false (by omega)]; rfl)
          go_wp2
          go_meet
          case rel => exact ⟨by rw [Hno.out hB.out], rfl⟩
  case rest =>
   obtain ⟨rfl, rfl⟩ := hcut;obtain ⟨f1, hf1⟩ := zx (q1 * 4294967296);have gf1 : IntKind.u64.wrap ((q1.toNat : Int) * 4294967296) = (f1.toNat : Int) := by rw [zfg, hf1]
   obtain ⟨f2, hf2⟩ := zx (f1 + q0);have gf2 : IntKind.u64.wrap ((f1.toNat : Int) + (q0.toNat : Int)) = (f2.toNat : Int) := by rw [z5v, hf2]
   obtain ⟨f3, hf3⟩ := zx (e4 * 4294967296);have gf3 : IntKind.u64.wrap ((e4.toNat : Int) * 4294967296) = (f3.toNat : Int) := by rw [zfg, hf3]
   obtain ⟨f4, hf4⟩ := zx (f3 + un0);have gf4 : IntKind.u64.wrap ((f3.toNat : Int) + (un0.toNat : Int)) = (f4.toNat : Int) := by rw [z5v, hf4]
   obtain ⟨f5, hf5⟩ := zx (q0 * y2);have gf5 : IntKind.u64.wrap ((q0.toNat : Int) * (y2.toNat : Int)) = (f5.toNat : Int) := by rw [z40, hf5]
   obtain ⟨f6, hf6⟩ := zx (f4 - f5);have gf6 : IntKind.u64.wrap ((f4.toNat : Int) - (f5.toNat : Int)) = (f6.toNat : Int) := by rw [zd7, hf6]
   obtain ⟨f7, hf7⟩ := zx (z93 f6 s);have gf7 : (f6.toNat : Int) / 2 ^ s = (f7.toNat : Int) := by rw [z6m, hf7]
   have Hf : Hid (f2 = Div.quo ⟨s, y2, yn1, yn0, un32, un1, un0⟩) := zh (by rw [Hquo.out, hf2, hf1]);clear hf1 hf2 hf3 hf4 hf5 hf6 hf7
   go_wp2
   go_ret2
   exact ⟨⟨f7, by rw [Hf.out]; rfl⟩, rfl⟩
theorem zio (r p : UInt64) (k : Nat) (hk : 2 ≤ k) (hk2 : k ≤ 3) (hok : z3z r p k = true) (w : World) :
 Calls Tryz.prog 121 #[.int .u64 (r.toNat : Int), .int .u64 (p.toNat : Int), .int .u64 (k : Int)] w fun e w' =>
  e = .returned (.int .u64 ((z94 r p k).toNat : Int)) ∧ Below w.heap.size w w' := by
 obtain ⟨m, hm⟩ := zx (nearM r k);obtain ⟨n, hn⟩ := zx (z55 p 51);obtain ⟨km, hkm⟩ := zx (UInt64.ofNat k - 1);obtain ⟨kp, hkp⟩ := zx (UInt64.ofNat k + 1);obtain ⟨j, hj⟩ := zx (32 * k - 51)
 have gkm : IntKind.u64.wrap ((k : Int) - 1) = (km.toNat : Int) := by
  rw [hkm]; rcases (show k = 2 ∨ k = 3 by omega) with rfl | rfl <;> rfl
 have gkp : IntKind.u64.wrap ((k : Int) + 1) = (kp.toNat : Int) := by
  rw [hkp]; rcases (show k = 2 ∨ k = 3 by omega) with rfl | rfl <;> rfl
 have gk32 : IntKind.u64.wrap (32 * (k : Int)) = ((32 * k : Nat) : Int) := by rw [IntKind.wrap_u64]; omega
 have gj : IntKind.u64.wrap (((32 * k : Nat) : Int) - 51) = (j : Int) := by rw [IntKind.wrap_u64]; omega
 have gj' : IntKind.u64.wrap (32 * (k : Int) - 51) = (j : Int) := by rw [IntKind.wrap_u64]; omega
 have gn : IntKind.u64.wrap ((p.toNat : Int) * 2251799813685248) = (n.toNat : Int) := by have := zd9 p 51; rw [hn, ← this]; rfl
 have HP := zh (zlr r k (by omega) hk2);obtain ⟨t, ht⟩ := zx (Two.pow r (k - 1));rw [← ht] at HP;have HD := zh (down_any t j (by omega) (by omega));have htm : Two.down t j = m := by rw [ht, hm, hj]; rfl
 rw [htm] at HD;obtain ⟨s1, hs1⟩ := zx (km * m);have gs1 : IntKind.u64.wrap ((km.toNat : Int) * (m.toNat : Int)) = (s1.toNat : Int) := by rw [z40, hs1]
 obtain ⟨s2, hs2⟩ := zx (kp * n);have gs2 : IntKind.u64.wrap ((kp.toNat : Int) * (n.toNat : Int)) = (s2.toNat : Int) := by rw [z40, hs2]
 obtain ⟨s3, hs3⟩ := zx (s1 + s2);have gs3 : IntKind.u64.wrap ((s1.toNat : Int) + (s2.toNat : Int)) = (s3.toNat : Int) := by rw [z5v, hs3]
 obtain ⟨t1, ht1⟩ := zx (kp * m);have gt1 : IntKind.u64.wrap ((kp.toNat : Int) * (m.toNat : Int)) = (t1.toNat : Int) := by rw [z40, ht1]
 obtain ⟨t2, ht2⟩ := zx (km * n);have gt2 : IntKind.u64.wrap ((km.toNat : Int) * (n.toNat : Int)) = (t2.toNat : Int) := by rw [z40, ht2]
 obtain ⟨t3, ht3⟩ := zx (t1 + t2);have gt3 : IntKind.u64.wrap ((t1.toNat : Int) + (t2.toNat : Int)) = (t3.toNat : Int) := by rw [z5v, ht3]
 have hS : zlk r p k = s3 := by rw [hs3, hs2, hs1, hn, hm, hkm, hkp]; rfl
 have hY : zll r p k = t3 := by rw [ht3, ht2, ht1, hn, hm, hkm, hkp]; rfl
 have HM := zh (zd8 s3 r);obtain ⟨hi, hhi⟩ := zx (zbw s3 r);obtain ⟨lo, hlo⟩ := zx (s3 * r);rw [← hhi, ← hlo] at HM;unfold z3z at hok;unfold z94;simp only [Bool.and_eq_true, decide_eq_true_eq] at hok;have hN : nearD r p k = zim hi lo t3 (64 - lenN t3.toNat) := by unfold nearD; rw [hS, hY, hhi, hlo]
 rw [hN, hS, hY, ← hhi] at hok;rw [hN];have HV := zh (zlw hi lo t3 _ rfl (by omega) hok.1.1.2 hok.1.2 hok.1.1.1);obtain ⟨qq, hqq⟩ := zx ((zim hi lo t3 (64 - lenN t3.toNat)).quo);rw [← hqq] at HV ⊢;clear hqq hok hN hS hY hhi hlo htm ht hm hn hkm hkp hj hs1 hs2 hs3 ht1 ht2 ht3
 go_enter Tryz.func121, Tryz.ntmps121
 go_wp2_with fail
 refine (HP.out _).mono ?_;rintro e w1 ⟨rfl, hb1⟩
 go_wp2_with fail
 refine (HD.out _).mono ?_;rintro e w2 ⟨rfl, hb2⟩
 go_wp2_with fail
 refine (HM.out _).mono ?_;rintro e w3 ⟨rfl, rfl⟩
 go_wp2_with fail
 refine (HV.out _).mono ?_;rintro e w4 ⟨⟨rr, rfl⟩, rfl⟩
 go_wp2
 go_ret
 exact ⟨rfl, hb1.trans (hb2.mono hb1.size)⟩
theorem root_any (p near : UInt64) (k : Nat) (hk : 2 ≤ k) (hk2 : k ≤ 3) (hok : ∀ j, j < 3 → z3z (z67 p near k j) p k = true) (w : World) :
 Calls Tryz.prog 109 #[.int .u64 (p.toNat : Int), .int .u64 (k : Int), .int .u64 (near.toNat : Int)] w fun e w' =>
  e = .returned (.int .u64 ((z67 p near k 3).toNat : Int)) ∧ Below w.heap.size w w' := by
 have HO := zh hok; clear hok
 go_enter Tryz.func109, Tryz.ntmps109
 go_wp2
 go_loopw [7, 9] (fun r i wr => ∃ (j : Nat) (x : UInt64), j ≤ 3 ∧ i = .int .i64 j ∧ r = .int .u64 (x.toNat : Int) ∧ x = z67 p near k j ∧ Below w.heap.size w wr) (fun _ i _ => 3 - (intOf i).toNat)
 case atStart => exact ⟨0, near, Nat.zero_le _, rfl, rfl, rfl, Below.refl _ _⟩
 case round =>
  obtain ⟨j, x, hj, rfl, rfl, hx, hb⟩ := hrel;have Hx := zh hx;by_cases hlt : j < 3
  · have HC := zh (zio x p k hk hk2 (by rw [hx]; exact HO.out j hlt) wr);clear hx
    go_wp2_with fail
    refine HC.out.mono ?_;rintro e w1 ⟨rfl, hb1⟩
    go_wp2
    go_roundw
    case rel => exact ⟨j + 1, z94 x p k, by omega, by go_num, rfl, by rw [Hx.out]; rfl, hb.trans (hb1.mono hb.size)⟩
    case measure => simp [intOf]; omega
  · have Hf : Hid (x = z67 p near k 3) := zh (by rw [Hx.out, show j = 3 by omega]);clear hx
    go_wp2
    go_ret
    exact ⟨by rw [Hf.out]; rfl, hb⟩
def Pr (w : World) : Prop := ∀ i, i < 64 → w.cell? ⟨1, i, none⟩ = some (.int .u16 (primeN i : Int))
theorem Pr.lt {w : World} (h : Pr w) : 1 < w.heap.size := by have := block_lt_of_cell (h 0 (by omega)); exact this
theorem Pr.grown {w w' : World} {g : Nat} (h : Pr w) (hg : w.grownBy w' (some g)) (hne : 1 ≠ g) : Pr w' := fun i hi => by
 rw [World.cell?_of_block (w := w) (a := ⟨1, i, none⟩) (hg.block _ h.lt (by simpa using hne))]; exact h i hi
theorem Pr.below {w w' : World} {b : Nat} (h : Pr w) (hb : Below b w w') (hlt : 1 < b) : Pr w' := fun i hi => by
 rw [hb.cell (p := ⟨1, i, none⟩) hlt]; exact h i hi
theorem conv32 (x : UInt64) : IntKind.u32.wrap (x.toNat : Int) = ((x.toUInt32).toNat : Int) := by
 rw [z5z, UInt64.toNat_toUInt32]
theorem zgx : ∀ i, i < 64 → primeN i < 65536 := by decide +kernel
theorem convP (i : Nat) (hi : i < 64) : IntKind.u64.wrap (primeN i : Int) = ((UInt64.ofNat (primeN i)).toNat : Int) := by
 have := zgx i hi;rw [IntKind.wrap_u64, UInt64.toNat_ofNat', Nat.mod_eq_of_lt (by omega)]; omega
def z2b (k o n : Nat) (F : Nat → UInt32) (i : Nat) : UInt32 := if o ≤ i ∧ i < o + n then (z4p k (i - o + 1)).toUInt32 else F i
theorem zdc (w : World) (k n g o c N : Nat) (T : TypeId) (F : Nat → UInt32) (hk : 2 ≤ k) (hk2 : k ≤ 3) (hn : n ≤ 64) (hN : o + n ≤ N) (hok : ∀ i, i < n → zin (primeN i) k (z4p k i))
 (hblk : Blk w g T (u32s N F)) (hp : Pr w) (hne : 1 ≠ g) :
 Calls Tryz.prog 94 #[.slice (some ⟨g, o, none⟩) n c, .int .u64 (k : Int)] w fun e w' => e = .returned (.tuple #[]) ∧
  Blk w' g T (u32s N (z2b k o n F)) ∧ w.grownBy w' (some g) := by
 have HO := zh hok; have HPr := zh hp; have Hne := zh hne;clear hok hp hne
 go_enter Tryz.func94, Tryz.ntmps94
 go_wp2
 go_loopw [4, 8] (fun r i wr => ∃ (j : Nat) (x : UInt64) (F' : Nat → UInt32), j ≤ n ∧ i = .int .i64 j ∧ r = .int .u64 (x.toNat : Int) ∧ x = z4p k j ∧ Blk wr g T (u32s N F') ∧ w.grownBy wr (some g) ∧ (∀ i, i < N → F' i = z2b k o j F i)) (fun _ i _ => n - (intOf i).toNat)
 case atStart => exact ⟨0, 4294967296, F, Nat.zero_le _, rfl, rfl, rfl, hblk, z78 _ _, fun i _ => by unfold z2b; rw [if_neg (by omega)]⟩
 case round =>
  obtain ⟨j, x, F', hj, rfl, rfl, hx, hblk', hg, hF⟩ := hrel;have Hx := zh hx; have HF := zh hF; clear hF;by_cases hlt : j < n
  · obtain ⟨p, hpp⟩ := zx (UInt64.ofNat (primeN j));have hprw : Pr wr := HPr.out.grown hg Hne.out;have cp := hprw j (by omega);have gp : IntKind.u64.wrap (primeN j : Int) = (p.toNat : Int) := by rw [convP j (by omega), hpp]
    have hplt := zgx j (by omega);obtain ⟨pj, hpj⟩ := zx (primeN j);rw [← hpj] at cp gp hplt;have HC := zh (root_any p x k hk hk2 (by rw [hpp, hx]; exact HO.out j hlt) wr);obtain ⟨y, hy⟩ := zx (z67 p x k 3);rw [← hy] at HC;have Hy : Hid (y = z4p k (j + 1)) := zh (by rw [hy, hpp, hx]; rfl);obtain ⟨z, hz⟩ := zx y.toUInt32;have gz : IntKind.u32.wrap (y.toNat : Int) = (z.toNat : Int) := by rw [conv32, hz]
    have Hz := zh hz;clear hx hy hpp hpj hz
    go_wp2_with fail
    refine HC.out.mono ?_;rintro e w1 ⟨rfl, hb1⟩;have bq := hblk'.below hb1 hblk'.lt;have lq := z1x hg hb1;have cq := bq.word (o + j) (by omega);have zq := bq.frozen (o + j);clear cp gp
    go_wp2
    go_roundw
    case rel =>
     refine ⟨j + 1, y, upd F' (o + j) z, by omega, by go_num, rfl, Hy.out, bq.setW (o + j) z, zch lq _ _, fun i hi => ?_⟩;unfold z2b;by_cases hij : i = o + j
     · subst hij;rw [z0q, if_pos (by omega), Hz.out, Hy.out, show o + j - o = j by omega]
     · rw [z09 _ _ _ _ hij, HF.out i hi];unfold z2b;by_cases h : o ≤ i ∧ i < o + j
       · rw [if_pos h, if_pos (by omega)]
       · rw [if_neg h, if_neg (by omega)]
    case measure => simp [intOf]; omega
  · have Hfin : Hid (u32s N F' = u32s N (z2b k o n F)) := zh (z3a fun i hi => by rw [HF.out i hi, show j = n by omega]);rw [Hfin.out] at hblk';clear hx
    go_wp2
    go_end0
    exact ⟨rfl, hblk', hg⟩
theorem zlx : (∀ w, (zeroValue 185).run Tryz.prog w = .ok (.agg (u32s 72 fun _ => 0)) w) ∧ (Tryz.prog.info? 185).map (·.size) = some 72 := zero_of_info (by kernel_rfl)
theorem zdd (w : World) (hp : Pr w) :
 Calls Tryz.prog 72 #[] w fun e w' => e = .returned (.pointer (some ⟨w.heap.size, 0, none⟩)) ∧ Blk w' w.heap.size 185 (u32s 72 (stF H0 KF)) ∧ Below w.heap.size w w' := by
 have hz := zlx.1;have Hp := zh hp; clear hp
 go_enter Tryz.func72, Tryz.ntmps72
 go_wp2_with fail
 obtain ⟨w0, hw0⟩ := zx (w.alloc (Obj.cells (u32s 72 fun _ => 0) 185));rw [← hw0];have hlt := Hp.out.lt;have b0 : Blk w0 w.heap.size 185 (u32s 72 fun _ => 0) := by rw [hw0]; exact Blk.new w _ _
 have l0 : Below w.heap.size w w0 := by rw [hw0]; exact (Below.refl _ _).alloc zl _
 have p0 : Pr w0 := Hp.out.below l0 hlt;have HC := zh (zdc w0 2 8 w.heap.size 0 8 72 185 (fun _ => 0) (by omega) (by omega) (by omega) (by omega) (fun i hi => (roots2 i hi).1) b0 p0 (by omega));clear hw0;refine HC.out.mono ?_;rintro e w1 ⟨rfl, b1, g1⟩;have p1 : Pr w1 := p0.grown g1 (by omega);have l1 : Below w.heap.size w w1 := l0.trans (z1h g1 (Nat.le_of_lt b0.lt) zl);have HC2 := zh (zdc w1 3 64 w.heap.size 8 64 72 185 _ (by omega) (by omega) (by omega) (by omega) (fun i hi => (roots3 i hi).1) b1 p1 (by omega))
 go_wp2_with fail
 refine HC2.out.mono ?_;rintro e w2 ⟨rfl, b2, g2⟩;have l2 : Below w.heap.size w w2 := l1.trans (z1h g2 (Nat.le_of_lt b1.lt) zl)
 have Hfin : Hid (u32s 72 (z2b 3 8 64 (z2b 2 0 8 fun _ => 0)) = u32s 72 (stF H0 KF)) := zh (z3a fun i hi => by
  unfold z2b stF;by_cases h : i < 8
  · rw [if_neg (by omega), if_pos (by omega), if_pos h, (roots2 (i - 0) (by omega)).2]; rfl
  · rw [if_pos (by omega), if_neg h, (roots3 (i - 8) (by omega)).2])
 go_wp2
 go_ret
 exact ⟨rfl, by rw [← Hfin.out]; exact b2, l2⟩
end Go.Proofs.YtgjddkeogboojaaGreatDoor
