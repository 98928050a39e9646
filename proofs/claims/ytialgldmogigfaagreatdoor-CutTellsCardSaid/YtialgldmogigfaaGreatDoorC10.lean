/-
  wants of a blob, of what is no kind; Right, Wants.
  The digest: Sum, Name, Named.
  A region that draws its order: what it reads stays as it is, behind whatever calls come; so the reads may be taken as soon as they can be.
  name, Id: an object's name, if it is right.
  The plain side of layer 4's laws.
  The two names that the head's objects have, reckoned.
-/
import Derived.Test.YtialgldmogigfaaGreatDoorC09
import Derived.Lib.BitFns
import Derived.Shelf.Small.Bits
import Derived.Shelf.Bits.Mul64
import Derived.Laws.Bits64b
import Derived.Laws.Shifts
import Derived.Lib.Mul64
import Derived.IntWalk
import Derived.Deep.QuietTactic
import Derived.BigQuiet
import Derived.Deep.CutBlock
import Derived.Deep.CutRange
import Derived.Laws.CopyOwn
import Derived.Laws.ResultCell
import Derived.Laws.IdiomStrings
import Derived.Stop.BytesEq
import Derived.Test.YtialgldmogigfaaGreatDoorC01
import Derived.Test.YtialgldmogigfaaGreatDoorLay
import Derived.Test.YtialgldmogigfaaGreatDoorC03
import Derived.OrdersHeld
import Derived.Deep.RegionHeld
import Derived.Test.YtialgldmogigfaaGreatDoorC05
import Derived.WideAt
import Derived.WideShapes
import Derived.Test.YtialgldmogigfaaGreatDoorC02

namespace Go.Proofs.YtialgldmogigfaaGreatDoor
open Go Go.RowKit Go.Shelf
set_option maxRecDepth 100000 in
set_option maxHeartbeats 4000000 in
theorem wants_1 (d : List UInt8) (hs : d.length ≤ 100000) (w : World) (he : Eb w) :
    Calls Tryz.prog 61 #[ObjV 1 d] w (WtPost (wantsO 1 d) w) := by
  have B0 := below_new w (.cells #[.int .i64 1, .string ⟨d.toArray⟩] 44)
  have HB0 := Lib.hid B0
  obtain ⟨pe, c0⟩ := (he.below B0).er.over
  have hwd := fun W => word_any 1 W
  unfold SV at hwd
  obtain ⟨kw, hkw⟩ : ∃ kw : ByteArray, kw = ⟨(kindW 1).toArray⟩ := ⟨_, rfl⟩
  rw [← hkw] at hwd
  have HWd := Lib.hid hwd
  have HWn := Lib.hid (fun W => within_nil (.string kw) W)
  have HWs := Lib.hid (fun (p : Addr) W => within_some kw (.iface 129 (.pointer (some p))) ⟨p, rfl⟩ W)
  have HQ1 : Hid (d.length ≤ 65536 → wantsO 1 d = some []) := Lib.hid (fun h => (wantsO_in d 1 h).trans rfl)
  have HQ2 : Hid (¬ d.length ≤ 65536 → wantsO 1 d = none) := Lib.hid (wantsO_over d 1)
  obtain ⟨w1, hw1⟩ : ∃ w1, w1 = w.alloc (.cells #[.int .i64 1, .string ⟨d.toArray⟩] 44) := ⟨_, rfl⟩
  have q0 : w1.cell? ⟨w.heap.size, 0, none⟩ = some (.int .i64 1) := by rw [hw1]; exact cell_of_blk' (heap_alloc_new _ _) rfl
  have q1 : w1.cell? ⟨w.heap.size, 1, none⟩ = some (.string ⟨d.toArray⟩) := by rw [hw1]; exact cell_of_blk' (heap_alloc_new _ _) rfl
  rw [← hw1] at c0 HB0
  have HW1 := Lib.hid hw1
  unfold ObjV
  clear he B0 hwd hkw hw1
  by_cases hd : d.length ≤ 65536
  · have hd2 : decide ((d.length : Int) ≤ 65536) = true := decide_eq_true (by omega)
    have hd3 : decide (d.length ≤ 65536) = true := decide_eq_true hd
    have HD := Lib.hid hd
    have HNd := Lib.hid (need_yes (.string ⟨#[100, 97, 116, 97]⟩) (.iface 235 pe) w1)
    clear hd
    go_enter Tryz.func61, Tryz.ntmps61
    go_wp2_with (rw [← HW1.out])
    refine HNd.out.mono ?_
    rintro e w2 ⟨rfl, rfl⟩
    go_wp2_with fail
    refine (HWd.out w1).mono ?_
    rintro e w2 ⟨rfl, rfl⟩
    go_wp2_with fail
    refine (HWn.out w1).mono ?_
    rintro e w2 ⟨rfl, rfl⟩
    go_wp2_with fail
    go_ret2
    rw [HQ1.out HD.out]
    exact ⟨.inl ⟨_, [], rfl, rfl, .inl ⟨⟨_, _, rfl⟩, rfl⟩, by simp, Fr.nil _ _ _⟩, HB0.out⟩
  · have hd2 : decide ((d.length : Int) ≤ 65536) = false := decide_eq_false (by omega)
    have hd3 : decide (d.length ≤ 65536) = false := decide_eq_false hd
    have HD := Lib.hid hd
    have HNd := Lib.hid (need_no ⟨#[100, 97, 116, 97]⟩ 235 pe w1)
    clear hd
    go_enter Tryz.func61, Tryz.ntmps61
    go_wp2_with (rw [← HW1.out])
    refine HNd.out.mono ?_
    rintro e w2 ⟨rfl, hw2⟩
    have l2 : Below w1.heap.size w1 w2 := by rw [← hw2]; exact below_new w1 _
    have q2 : w2.cell? ⟨w.heap.size, 0, none⟩ = some (.int .i64 1) := cell_to q0 l2
    have HB2 := Lib.hid (HB0.out.trans (l2.mono HB0.out.size))
    clear hw2 l2 q0 q1 c0
    go_wp2_with fail
    refine (HWd.out _).mono ?_
    rintro e w3 ⟨rfl, rfl⟩
    go_wp2_with fail
    refine (HWs.out _ _).mono ?_
    rintro e w3 ⟨rfl, hw3⟩
    have HB3 : Hid (Below w.heap.size w w3) := Lib.hid (by rw [← hw3]; exact HB2.out.alloc HB2.out.size _)
    clear hw3
    go_wp2_with fail
    go_ret2
    rw [HQ2.out HD.out]
    exact ⟨.inr ⟨rfl, _, _, _, _, rfl⟩, HB3.out⟩
set_option maxRecDepth 100000 in
set_option maxHeartbeats 4000000 in
theorem wants_else (k : Int) (h1 : k ≠ 1) (h2 : k ≠ 2) (h3 : k ≠ 3) (h4 : k ≠ 4) (d : List UInt8) (w : World) (he : Eb w) :
    Calls Tryz.prog 61 #[ObjV k d] w (WtPost (wantsO k d) w) := by
  have B0 := below_new w (.cells #[.int .i64 k, .string ⟨d.toArray⟩] 44)
  have HB0 := Lib.hid B0
  obtain ⟨ea, c1⟩ := (he.below B0).er.wrong
  have hwd := fun W => word_any k W
  unfold SV at hwd
  obtain ⟨kw, hkw⟩ : ∃ kw : ByteArray, kw = ⟨(kindW k).toArray⟩ := ⟨_, rfl⟩
  rw [← hkw] at hwd
  have HWd := Lib.hid hwd
  have HWs := Lib.hid (fun (p : Addr) W => within_some kw (.iface 129 (.pointer (some p))) ⟨p, rfl⟩ W)
  have HQ : Hid (wantsO k d = none) := Lib.hid (by
    by_cases hd : d.length ≤ 65536
    · rw [wantsO_in d k hd, if_neg h1, if_neg h2, if_neg h3, if_neg h4]
    · exact wantsO_over d k hd)
  obtain ⟨w1, hw1⟩ : ∃ w1, w1 = w.alloc (.cells #[.int .i64 k, .string ⟨d.toArray⟩] 44) := ⟨_, rfl⟩
  have q0 : w1.cell? ⟨w.heap.size, 0, none⟩ = some (.int .i64 k) := by rw [hw1]; exact cell_of_blk' (heap_alloc_new _ _) rfl
  rw [← hw1] at c1 HB0
  have q2 : (w1.alloc (.cells #[.string ⟨#[107, 105, 110, 100]⟩, .iface 235 (.pointer (some ea))] 134)).cell? ⟨w.heap.size, 0, none⟩ = some (.int .i64 k) := cell_to q0 (below_new w1 _)
  have HW1 := Lib.hid hw1
  have b1 : (k == 1) = false := by simpa using h1
  have b2 : (k == 2) = false := by simpa using h2
  have b3 : (k == 3) = false := by simpa using h3
  have b4 : (k == 4) = false := by simpa using h4
  unfold ObjV
  clear he B0 hwd hkw hw1
  go_enter Tryz.func61, Tryz.ntmps61
  go_wp2_with (rw [← HW1.out])
  refine (HWd.out _).mono ?_
  rintro e w3 ⟨rfl, rfl⟩
  go_wp2_with fail
  refine (HWs.out _ _).mono ?_
  rintro e w3 ⟨rfl, hw3⟩
  have HB3 : Hid (Below w.heap.size w w3) := Lib.hid (by rw [← hw3]; exact (HB0.out.alloc HB0.out.size _).alloc (by have := HB0.out.size; simp; omega) _)
  clear hw3
  go_wp2_with fail
  go_ret2
  rw [HQ.out]
  exact ⟨.inr ⟨rfl, _, _, _, _, rfl⟩, HB3.out⟩
theorem wants_any (k : Int) (d : List UInt8) (hs : d.length ≤ 100000) (w : World) (he : Eb w) (ht : Tb w) :
    Calls Tryz.prog 61 #[ObjV k d] w (WtPost (wantsO k d) w) := by
  by_cases h1 : k = 1
  · subst h1; exact wants_1 d hs w he
  by_cases h2 : k = 2
  · subst h2; exact wants_2 d hs w he ht
  by_cases h3 : k = 3
  · subst h3; exact wants_3 d hs w he ht
  by_cases h4 : k = 4
  · subst h4; exact wants_4 d hs w he ht
  · exact wants_else k h1 h2 h3 h4 d w he
/-- What Wants answers. -/
def WsPost (o : Option (List (List UInt8 × Int))) (w : World) (e : Ending) (w' : World) : Prop :=
  Below w.heap.size w w' ∧ ∃ v, e = .returned v ∧ WantsR w' v (o.getD []) ∧ (o.getD []).length ≤ 256 ∧ Fr w.heap.size v
set_option maxRecDepth 100000 in
set_option maxHeartbeats 2000000 in
theorem Wants_any (k : Int) (d : List UInt8) (hs : d.length ≤ 100000) (w : World) (he : Eb w) (ht : Tb w) :
    Calls Tryz.prog 48 #[ObjV k d] w (WsPost (wantsO k d) w) := by
  have B0 := below_new w (.cells #[.int .i64 k, .string ⟨d.toArray⟩] 44)
  have HW := Lib.hid (wants_any k d hs _ (he.below B0) (ht.below B0))
  have HB := Lib.hid B0; have HE := Lib.hid he
  unfold ObjV at HW ⊢
  clear he ht hs B0
  go_enter Tryz.func48, Tryz.ntmps48
  go_wp2_with fail
  refine HW.out.mono ?_
  intro e w1 h
  have L1 := Lib.hid (HB.out.trans (h.2.mono HB.out.size))
  rcases h.ret with ⟨A, n, c, rfl, l, ho, hr, hl⟩ | ⟨A, n, c, p, rfl, ho⟩
  · have HO := Lib.hid ho; have HR := Lib.hid hr; have HL := Lib.hid hl
    have HT := Lib.hid (toldW_nil (.slice A n c) w1)
    clear h ho hr hl
    go_wp2_with fail
    refine HT.out.mono ?_
    rintro e w2 ⟨rfl, l2⟩
    go_wp2_with fail
    go_ret
    rw [HO.out]
    exact ⟨L1.out.trans (l2.mono L1.out.size), _, rfl, HR.out.below l2 (Nat.le_refl _), HL.out.1, HL.out.2.mono HB.out.size⟩
  · have HO := Lib.hid ho
    have HT := Lib.hid (toldW_fault (.slice A n c) (.iface 129 (.pointer (some p))) w1 ⟨p, rfl⟩ (HE.out.below L1.out).er.et)
    clear h ho
    go_wp2_with fail
    refine HT.out.mono ?_
    rintro e w2 ⟨rfl, l2⟩
    go_wp2_with fail
    go_ret
    rw [HO.out]
    exact ⟨L1.out.trans (l2.mono L1.out.size), _, rfl, .inl ⟨⟨_, _, rfl⟩, rfl⟩, by simp, Fr.nil _ _ _⟩
end Go.Proofs.YtialgldmogigfaaGreatDoor


namespace Go.Proofs.YtialgldmogigfaaGreatDoor
open Go Go.RowKit
theorem add_none (g o j : Nat) : (⟨g, o, none⟩ : Addr).add j = ⟨g, o + j, none⟩ := by unfold Addr.add; split <;> simp_all
theorem below_new_DSum (w : World) (o : Obj) : Below w.heap.size w (w.alloc o) := (Below.refl _ w).alloc (Nat.le_refl _) o
end Go.Proofs.YtialgldmogigfaaGreatDoor
namespace Go.Proofs.YtialgldmogigfaaGreatDoor
open Go Go.RowKit
/-- The slice value v holds the bytes l. -/
def Rb (w : World) (v : Value) (l : List UInt8) : Prop :=
  ((∃ A, v = .slice A 0 0) ∧ l = []) ∨ ∃ g o c, v = .slice (some ⟨g, o, none⟩) l.length c ∧ l.length ≤ c ∧ g < w.heap.size ∧ ∀ j, j < l.length → w.cell? ⟨g, o + j, none⟩ = some (.int .u8 ((l.getD j 0).toNat : Int))
theorem Rb.below {w w' : World} {v : Value} {l : List UInt8} {b : Nat} (h : Rb w v l) (hb : Below b w w') (hlt : w.heap.size ≤ b) : Rb w' v l := by
  rcases h with h | ⟨g, o, c, rfl, hc, hg, hcell⟩
  · exact .inl h
  · exact .inr ⟨g, o, c, rfl, hc, Nat.lt_of_lt_of_le hg hb.size, fun j hj => by rw [hb.cell (p := ⟨g, o + j, none⟩) (by show g < b; omega)]; exact hcell j hj⟩
end Go.Proofs.YtialgldmogigfaaGreatDoor
namespace Go.Proofs.YtialgldmogigfaaGreatDoor
open Go Go.RowKit
theorem u8s_cells (f : Nat → UInt8) (n : Nat) : u8s n f = (((List.range n).map f).map Extern.Stop.cell).toArray := by
  unfold u8s
  rw [List.map_map]; rfl
/-- The sum's bytes as cells. -/
def sumC (l : List UInt8) : List Value := (sumL l).map Extern.Stop.cell
theorem sumC_eq (l : List UInt8) : u8s 32 (byteV (sumV l)) = (sumC l).toArray := u8s_cells _ _
theorem name_eq (l : List UInt8) : ((List.range 32).flatMap fun i => [hexD (byteV (sumV l) i / 16), hexD (byteV (sumV l) i % 16)]) = nameL l := by
  unfold nameL sumL
  rw [List.flatMap_map]
end Go.Proofs.YtialgldmogigfaaGreatDoor


namespace Go.Proofs.YtialgldmogigfaaGreatDoor
open Go Go.RowKit
section
variable {P : Program} {ops : Array Oper} {Q : Exit → Go.Act → World → Prop}

theorem held_mono {md : Region.Mode} {S S' : World → Prop} (hS : ∀ w, S' w → S w) : ∀ (fuel : Nat) (listed : Array Bool) (a : Go.Act) (w : World), wpAnyH P md ops Q S' fuel listed a w → wpAnyH P md ops Q S fuel listed a w
  | 0, _, _, _, h => h
  | fuel + 1, _, _, _, h => ⟨h.1, fun i hi => wpOp_mono (fun a' w' h' => ⟨hS w' h'.1, held_mono hS fuel _ a' w' h'.2⟩) (h.2 i hi)⟩

/-- Whatever order is picked from here on; what lies in w stays as it is. -/
def AnyB (P : Program) (ops : Array Oper) (Q : Exit → Go.Act → World → Prop) (fuel : Nat) (listed : Array Bool) (a : Go.Act) (w : World) : Prop :=
  wpAnyH P .any ops Q (fun W => Below w.heap.size w W) fuel listed a w

theorem AnyB.start {id : Nat} {a : Go.Act} {w : World} (hm : P.follows .mixedOrders = true) (h : AnyB P ops Q ops.size (Array.replicate ops.size false) a w.drew) : (Code.region id ops true).wp P Q a w :=
  wp_region_held hm h

/-- A read, taken as soon as it may come up. -/
theorem AnyB.take (i : Nat) (v : Value) {oi : Oper} {fuel : Nat} {listed : Array Bool} {a : Go.Act} {w : World} (hi : ops[i]? = some oi)
    (hs : Region.noSelect ops = true) (hf : Region.free .any ops listed i = true) (hr : (Region.ready .any ops listed).contains i = true)
    (hQ : ∀ c a w, Q (.panic c) (a.put oi.dst v) w → Q (.panic c) a w) (hw : Region.wanted oi (yielded ops a.tmps) = true)
    (hy : ∀ W, Below w.heap.size w W → (execOp a.eval oi).run P W = .ok (.value v) W)
    (h : AnyB P ops Q fuel (listed.setIfInBounds i true) (a.put oi.dst v) w) : AnyB P ops Q (fuel + 1) listed a w :=
  wpAnyH_take hi hs hf hr hQ (.inl ⟨hw, hy⟩) (Below.refl _ _) h

/-- What its guard keeps from being done. -/
theorem AnyB.skip (i : Nat) {oi : Oper} {fuel : Nat} {listed : Array Bool} {a : Go.Act} {w : World} (hi : ops[i]? = some oi)
    (hs : Region.noSelect ops = true) (hf : Region.free .any ops listed i = true) (hr : (Region.ready .any ops listed).contains i = true)
    (hQ : ∀ c a w, Q (.panic c) (a.put oi.dst undef) w → Q (.panic c) a w) (hw : Region.wanted oi (yielded ops a.tmps) = false)
    (h : AnyB P ops Q fuel (listed.setIfInBounds i true) (a.put oi.dst undef) w) : AnyB P ops Q (fuel + 1) listed a w :=
  wpAnyH_take hi hs hf hr hQ (.inr ⟨hw, rfl⟩) (Below.refl _ _) h

/-- A call that alone may come up. -/
theorem AnyB.call (i : Nat) {oi : Oper} {fuel : Nat} {listed : Array Bool} {a : Go.Act} {w : World} (f : FuncId) (vs : Array Value) (hr : Region.ready .any ops listed = [i]) (hi : ops[i]? = some oi)
    (hw : Region.wanted oi (yielded ops a.tmps) = true) (he : (execOp a.eval oi).run P w = .ok (.enter f vs) w)
    (hc : Calls P f vs w fun e w' => ∃ v, e = .returned v ∧ Below w.heap.size w w' ∧ AnyB P ops Q fuel (listed.setIfInBounds i true) (a.put oi.dst v) w') : AnyB P ops Q (fuel + 1) listed a w := by
  refine wpAnyH_ready hr (by simp) (AllReadyH.cons hi (fun K hK => ?_) AllReadyH.nil)
  rw [if_pos hw]
  unfold Oper.wp
  rw [he, Oper.upon_enter]
  refine hc.mono ?_
  rintro e w' ⟨v, rfl, hb, h⟩
  exact hK.out _ _ hb fun _ => held_mono (fun _ hW => hb.trans (hW.mono hb.size)) _ _ _ _ h

/-- What makes memory, where it alone may come up. -/
theorem AnyB.op (i : Nat) (v : Value) (w' : World) {oi : Oper} {fuel : Nat} {listed : Array Bool} {a : Go.Act} {w : World} (hr : Region.ready .any ops listed = [i]) (hi : ops[i]? = some oi)
    (hw : Region.wanted oi (yielded ops a.tmps) = true) (he : (execOp a.eval oi).run P w = .ok (.value v) w') (hb : Below w.heap.size w w') (h : AnyB P ops Q fuel (listed.setIfInBounds i true) (a.put oi.dst v) w') : AnyB P ops Q (fuel + 1) listed a w :=
  held_one hr (held_op v w' hi hw he hb (held_mono (fun _ hW => hb.trans (hW.mono hb.size)) _ _ _ _ h))
theorem AnyB.done {listed : Array Bool} {a : Go.Act} {w : World} (fuel : Nat) (hr : Region.ready .any ops listed = []) (h : Q .normal a w) : AnyB P ops Q fuel listed a w :=
  wpAnyH_done hr h fuel
end
section
variable {P : Program} {a : Go.Act} {o : Oper} {W : World}
/-- A comparison of what two slots hold. -/
theorem y_bin {op : BinOp} {s t : Operand} {ty ty' : TypeId} {x y r : Value} (ho : o.op = .binOp op ty s t ty') (hs : a.eval s = x) (ht : a.eval t = y)
    (hg : (eqGuard op ty s t x y).run P W = .ok () W) (hb : (binOp op ty x y).run P W = .ok r W) : (execOp a.eval o).run P W = .ok (.value r) W := by
  subst hs ht
  simp only [execOp, ho]
  simp [Sem.run_bind, hg, hb, Result.andThen]
theorem y_conv' {s : Operand} {ty ty' : TypeId} {x r : Value} {W' : World} (ho : o.op = .convert ty ty' s) (hs : a.eval s = x) (hc : (convert ty ty' x).run P W = .ok r W') : (execOp a.eval o).run P W = .ok (.value r) W' := by
  subst hs
  simp only [execOp, ho]
  simp [hc, Result.andThen]
/-- A conversion of what a slot holds. -/
theorem y_conv {s : Operand} {ty ty' : TypeId} {x r : Value} (ho : o.op = .convert ty ty' s) (hs : a.eval s = x) (hc : (convert ty ty' x).run P W = .ok r W) : (execOp a.eval o).run P W = .ok (.value r) W := by
  subst hs
  simp only [execOp, ho]
  simp [hc, Result.andThen]
end
end Go.Proofs.YtialgldmogigfaaGreatDoor


namespace Go.Proofs.YtialgldmogigfaaGreatDoor
open Go Go.RowKit Go.Shelf
/-- Of which bytes an object's name is. -/
def headL (k : Int) (d : List UInt8) : List UInt8 := kindW k ++ (32 :: (textL d.length ++ (10 :: d)))
theorem kind_short (k : Int) : (kindW k).length ≤ 6 := by
  by_cases h : 1 ≤ k ∧ k ≤ 4
  · rcases kind_cases h.1 h.2 with rfl | rfl | rfl | rfl <;> decide
  · rw [word_ne_nil.2 h]; simp
theorem conv_bytes (W : World) (l : List UInt8) : ∃ A c W', (convert 9 71 (.string ⟨l.toArray⟩)).run Tryz.prog W = .ok (.slice A l.length c) W' ∧ Rb W' (.slice A l.length c) l ∧ Below W.heap.size W W' := by
  have hge := grownCap_ge W (⟨l.toArray⟩ : ByteArray).size 0 5
  have hsz : (⟨l.toArray⟩ : ByteArray).size = l.length := rfl
  refine ⟨_, _, _, run_bytes_of_string W _ _ 5 _ Tryz.underlying9 Tryz.underlying71 Tryz.underlying5, ?_, ?_⟩
  · refine .inr ⟨W.heap.size, 0, _, rfl, by rw [← hsz]; exact hge, by simp, fun j hj => ?_⟩
    rw [Nat.zero_add]
    have h1 := bytesRow_at ⟨l.toArray⟩ (grownCap W (⟨l.toArray⟩ : ByteArray).size 0 5) j (by simpa using hj)
    have h2 := cell_of_row (W.drew.alloc (.cells (bytesRow ⟨l.toArray⟩ (grownCap W (⟨l.toArray⟩ : ByteArray).size 0 5)) 5 ((bytesRow ⟨l.toArray⟩ (grownCap W (⟨l.toArray⟩ : ByteArray).size 0 5)).size, (bytesRow ⟨l.toArray⟩ (grownCap W (⟨l.toArray⟩ : ByteArray).size 0 5)).size + 1))) W.heap.size j _ _ _ (heap_alloc_new W.drew _)
    rw [h2, h1, List.getD_eq_getElem?_getD, List.getElem?_eq_getElem hj]
    simp
  · exact (Below.refl _ _).drew.alloc (Nat.le_refl _) _
/-- An object's name; nothing, if it is not right. -/
def idL (k : Int) (d : List UInt8) : List UInt8 := if (wantsO k d).isSome then nameL (headL k d) else []
end Go.Proofs.YtialgldmogigfaaGreatDoor


namespace Go.Proofs.YtialgldmogigfaaGreatDoor
open Go Go.RowKit
theorem getD_elem {α : Type} (l : List α) (d : α) (k : Nat) (hk : k < l.length) : l.getD k d = l[k] := by
  rw [List.getD_eq_getElem?_getD, List.getElem?_eq_getElem hk]; rfl
theorem part_len {s : List UInt8} (h : partB s = true) : s.length ≤ 70 := by
  unfold partB at h
  simp only [Bool.and_eq_true, decide_eq_true_eq] at h
  exact h.1.1.2.2
theorem parL_len72 : ∀ {l : List (List UInt8)}, (∀ p ∈ l, namedB p = true) → (parL l).length = 72 * l.length
  | [], _ => rfl
  | p :: l, h => by
    have h1 := named_len64 (h p (by simp))
    have h2 := parL_len72 (fun y hy => h y (List.mem_cons_of_mem _ hy))
    have e : parL (p :: l) = (wParent ++ (p ++ [10])) ++ parL l := rfl
    rw [e, List.length_append, List.length_cons]
    simp only [List.length_append, List.length_cons, List.length_nil, wParent]
    omega
theorem putC_len {c : Chg} (h : rightC c = true) : (putC c).length ≤ 1000 + c.text.length := by
  obtain ⟨h1, h2, h3, _, h5⟩ := rightC_parts.1 h
  have e1 := named_len64 h1
  have e2 := parL_len72 h3
  have e3 : c.who.length ≤ 100 := by
    unfold whoB at h5
    simp only [Bool.and_eq_true, decide_eq_true_eq] at h5
    exact h5.2
  unfold putC
  simp only [List.length_append, List.length_cons, wTree, wWho, List.length_nil]
  omega
theorem kindW_len (k : Int) : (kindW k).length ≤ 6 := by
  by_cases h : 1 ≤ k ∧ k ≤ 4
  · rcases kind_cases h.1 h.2 with rfl | rfl | rfl | rfl <;> decide
  · rw [word_ne_nil.2 h]; simp
theorem putL_len4 {l : Lbl} (h : rightL l = true) : (putL4 l).length ≤ 1000 + l.text.length := by
  obtain ⟨h1, _, h3⟩ := rightL_parts.1 h
  have e1 := named_len64 h1
  have e2 := part_len h3
  have e3 := kindW_len l.kind
  unfold putL4
  simp only [List.length_append, List.length_cons, wObject, wKind, wName, List.length_nil]
  omega
theorem wantsO_each {k : Int} {d : List UInt8} {l : List (List UInt8 × Int)} (h : wantsO k d = some l) : ∀ x ∈ l, namedB x.1 = true ∧ 1 ≤ x.2 ∧ x.2 ≤ 4 := by
  unfold wantsO at h
  by_cases h0 : 65536 < d.length
  · rw [if_pos h0] at h; cases h
  rw [if_neg h0] at h
  by_cases h1 : k = 1
  · rw [if_pos h1] at h; cases h; intro x hx; cases hx
  rw [if_neg h1] at h
  by_cases h2 : k = 2
  · rw [if_pos h2] at h
    obtain ⟨m, hm, rfl⟩ := Option.map_eq_some_iff.1 h
    intro x hx
    obtain ⟨y, hy, rfl⟩ := List.mem_map.1 hx
    obtain ⟨_, _, _, h4⟩ := itemB_parts (rightT_items (getT_iff.1 hm).1 y hy)
    refine ⟨h4, ?_⟩
    unfold wantI
    by_cases h3 : y.mode = 3
    · rw [if_pos h3]; omega
    · rw [if_neg h3]; omega
  rw [if_neg h2] at h
  by_cases h3 : k = 3
  · rw [if_pos h3] at h
    obtain ⟨c, hc, rfl⟩ := Option.map_eq_some_iff.1 h
    obtain ⟨g1, _, g3, _, _⟩ := rightC_parts.1 (getC_iff.1 hc).1
    intro x hx
    unfold wantC at hx
    rcases List.mem_cons.1 hx with rfl | hx
    · exact ⟨g1, show (1 : Int) ≤ 2 by decide, show (2 : Int) ≤ 4 by decide⟩
    · obtain ⟨p, hp, rfl⟩ := List.mem_map.1 hx
      exact ⟨g3 p hp, show (1 : Int) ≤ 3 by decide, show (3 : Int) ≤ 4 by decide⟩
  rw [if_neg h3] at h
  by_cases h4 : k = 4
  · rw [if_pos h4] at h
    obtain ⟨c, hc, rfl⟩ := Option.map_eq_some_iff.1 h
    obtain ⟨g1, g2, _⟩ := rightL_parts.1 (getL4_iff.1 hc).1
    intro x hx
    obtain rfl := List.mem_singleton.1 hx
    exact ⟨g1, g2⟩
  · rw [if_neg h4] at h; cases h
end Go.Proofs.YtialgldmogigfaaGreatDoor


namespace Go.Proofs.YtialgldmogigfaaGreatDoor
/-- k of x, x being reckoned first. -/
def force {β : Type} (x : UInt32) (k : UInt32 → β) : β :=
  match x.toNat with
  | 0 => k 0
  | n + 1 => k (UInt32.ofNat (n + 1))
theorem force_eq {β : Type} (x : UInt32) (k : UInt32 → β) : force x k = k x := by
  unfold force
  split
  · rename_i h; rw [show x = 0 from UInt32.toNat_inj.1 (by simpa using h)]
  · rename_i n h; rw [show n + 1 = x.toNat from h.symm, UInt32.ofNat_toNat]
/-- The words so far, the newest one first. -/
def schedE (m : Nat → UInt32) : Nat → List UInt32
  | 0 => []
  | t + 1 =>
    let l := schedE m t
    if t < 16 then m t :: l else (ss1 (l.getD 1 0) + l.getD 6 0 + ss0 (l.getD 14 0) + l.getD 15 0) :: l
theorem schedE_length (m : Nat → UInt32) (t : Nat) : (schedE m t).length = t := by
  induction t with
  | zero => rfl
  | succ t ih => rw [schedE]; split <;> simp [ih]
theorem schedE_get (m : Nat → UInt32) (t i : Nat) (h : i < t) : (schedE m t).getD i 0 = sched m (t - 1 - i) := by
  induction t generalizing i with
  | zero => omega
  | succ t ih =>
    rw [schedE]
    cases i with
    | zero =>
      by_cases h16 : t < 16
      · rw [if_pos h16, show t + 1 - 1 - 0 = t by omega, sched_lo _ _ h16]; rfl
      · rw [if_neg h16, ih 1 (by omega), ih 6 (by omega), ih 14 (by omega), ih 15 (by omega), show t + 1 - 1 - 0 = t by omega, sched_hi _ _ h16,
          show t - 1 - 1 = t - 2 by omega, show t - 1 - 6 = t - 7 by omega, show t - 1 - 14 = t - 15 by omega, show t - 1 - 15 = t - 16 by omega]
        rfl
    | succ i =>
      have e : ∀ x : UInt32, (x :: schedE m t).getD (i + 1) 0 = (schedE m t).getD i 0 := fun _ => rfl
      have e2 : t + 1 - 1 - (i + 1) = t - 1 - i := by omega
      split <;> rw [e, ih i (by omega), e2]
/-- All words, reckoned: n more behind l. -/
def growE : Nat → List UInt32 → List UInt32
  | 0, l => l
  | n + 1, l => force (ss1 (l.getD 1 0) + l.getD 6 0 + ss0 (l.getD 14 0) + l.getD 15 0) fun x => growE n (x :: l)
theorem growE_eq (m : Nat → UInt32) (n t : Nat) (h : 16 ≤ t) : growE n (schedE m t) = schedE m (t + n) := by
  induction n generalizing t with
  | zero => rfl
  | succ n ih =>
    rw [growE, force_eq]
    have : (ss1 ((schedE m t).getD 1 0) + (schedE m t).getD 6 0 + ss0 ((schedE m t).getD 14 0) + (schedE m t).getD 15 0) :: schedE m t = schedE m (t + 1) := by
      rw [schedE, if_neg (by omega)]
    rw [this, ih (t + 1) (by omega)]
    congr 1; omega
/-- The rounds, reckoned: the words that are left, the oldest first. -/
def rndsE : List UInt32 → List UInt32 → V → V
  | k :: ks, w :: ws, v => force (rndX k w v + rndY v) fun a => force (v.d + rndX k w v) fun e => rndsE ks ws ⟨a, v.a, v.b, v.c, e, v.e, v.f, v.g⟩
  | _, _, v => v
theorem rndsE_eq (kf wf : Nat → UInt32) (v : V) (n : Nat) (ks ws : List UInt32) (t : Nat) (hk : ks.length = n) (hw : ws.length = n)
    (ek : ∀ i, i < n → ks.getD i 0 = kf (t + i)) (ew : ∀ i, i < n → ws.getD i 0 = wf (t + i)) : rndsE ks ws (rnds kf wf v t) = rnds kf wf v (t + n) := by
  induction n generalizing ks ws t with
  | zero =>
    cases ks with
    | nil => rfl
    | cons => simp at hk
  | succ n ih =>
    cases ks with
    | nil => simp at hk
    | cons k ks =>
      cases ws with
      | nil => simp at hw
      | cons w ws =>
        have k0 := ek 0 (by omega)
        have w0 := ew 0 (by omega)
        simp only [List.getD_cons_zero, Nat.add_zero] at k0 w0
        rw [rndsE, force_eq, force_eq]
        have : (⟨rndX k w (rnds kf wf v t) + rndY (rnds kf wf v t), (rnds kf wf v t).a, (rnds kf wf v t).b, (rnds kf wf v t).c, (rnds kf wf v t).d + rndX k w (rnds kf wf v t), (rnds kf wf v t).e, (rnds kf wf v t).f, (rnds kf wf v t).g⟩ : V) = rnds kf wf v (t + 1) := by
          rw [rnds, rnd, k0, w0]
        rw [this, ih ks ws (t + 1) (by simpa using hk) (by simpa using hw) (fun i hi => by have := ek (i + 1) (by omega); rw [show t + 1 + i = t + (i + 1) by omega, ← this]; rfl) (fun i hi => by have := ew (i + 1) (by omega); rw [show t + 1 + i = t + (i + 1) by omega, ← this]; rfl)]
        congr 1; omega
def forceAll {β : Type} : List UInt32 → (List UInt32 → β) → β
  | [], k => k []
  | x :: l, k => force x fun y => forceAll l fun l' => k (y :: l')
theorem forceAll_eq {β : Type} (l : List UInt32) (k : List UInt32 → β) : forceAll l k = k l := by
  induction l generalizing k with
  | nil => rfl
  | cons x l ih => rw [forceAll, force_eq, ih]
def mixE (v : V) (m : Nat → UInt8) : V := addV v (forceAll (schedE (word m) 16) fun l => rndsE KL (growE 48 l).reverse v)
theorem KF_get (t : Nat) : KL.getD t 0 = KF t := rfl
theorem rev_get (l : List UInt32) (i : Nat) (h : i < l.length) : l.reverse.getD i 0 = l.getD (l.length - 1 - i) 0 := by
  rw [List.getD_eq_getElem?_getD, List.getD_eq_getElem?_getD, List.getElem?_reverse h]
theorem mixE_eq (v : V) (m : Nat → UInt8) : mixE v m = mixV KF v m := by
  unfold mixE mixV
  rw [forceAll_eq, growE_eq _ _ _ (Nat.le_refl _)]
  have hl : (schedE (word m) (16 + 48)).length = 64 := schedE_length _ _
  congr 1
  exact rndsE_eq KF (sched (word m)) v 64 KL _ 0 rfl (by rw [List.length_reverse, hl]) (fun i hi => by rw [Nat.zero_add]; rfl) (fun i hi => by
    rw [rev_get _ _ (by rw [hl]; exact hi), hl, schedE_get _ _ _ (by omega), Nat.zero_add]
    congr 1; omega)
def xB : List UInt8 := [98, 108, 111, 98, 32, 49, 10, 120]
def nB : List UInt8 := [97, 53, 100, 52, 100, 54, 98, 55, 97, 50, 52, 57, 52, 51, 56, 57, 54, 100, 101, 57, 53, 100, 50, 53, 97, 50, 54, 102, 97, 48, 55, 51, 50, 55, 98, 55, 50, 50, 100, 49, 51, 53, 100, 55, 57, 100, 56, 99, 99, 51, 98, 56, 55, 51, 102, 98, 57, 56, 51, 48, 52, 56, 51, 102]
def tdT : List UInt8 := [49, 32, 102, 0, 97, 53, 100, 52, 100, 54, 98, 55, 97, 50, 52, 57, 52, 51, 56, 57, 54, 100, 101, 57, 53, 100, 50, 53, 97, 50, 54, 102, 97, 48, 55, 51, 50, 55, 98, 55, 50, 50, 100, 49, 51, 53, 100, 55, 57, 100, 56, 99, 99, 51, 98, 56, 55, 51, 102, 98, 57, 56, 51, 48, 52, 56, 51, 102]
def xT : List UInt8 := [116, 114, 101, 101, 32, 54, 56, 10, 49, 32, 102, 0, 97, 53, 100, 52, 100, 54, 98, 55, 97, 50, 52, 57, 52, 51, 56, 57, 54, 100, 101, 57, 53, 100, 50, 53, 97, 50, 54, 102, 97, 48, 55, 51, 50, 55, 98, 55, 50, 50, 100, 49, 51, 53, 100, 55, 57, 100, 56, 99, 99, 51, 98, 56, 55, 51, 102, 98, 57, 56, 51, 48, 52, 56, 51, 102]
def nT : List UInt8 := [99, 48, 53, 48, 56, 101, 50, 54, 100, 54, 57, 52, 56, 54, 102, 54, 54, 56, 56, 52, 51, 48, 101, 48, 100, 97, 49, 57, 54, 57, 102, 50, 100, 50, 99, 57, 57, 49, 98, 51, 53, 102, 48, 53, 98, 48, 99, 55, 55, 101, 54, 97, 48, 56, 100, 98, 55, 50, 48, 99, 101, 102, 51, 101]
theorem sum_B : sumV xB = ⟨0xa5d4d6b7, 0xa2494389, 0x6de95d25, 0xa26fa073, 0x27b722d1, 0x35d79d8c, 0xc3b873fb, 0x9830483f⟩ := by
  have h : sumV xB = mixE H0 (fun j => padded xB (64 * 0 + j)) := by
    rw [mixE_eq]; rfl
  rw [h]
  decide +kernel
theorem name_B : nameL xB = nB := by
  unfold nameL sumL
  rw [sum_B]
  decide +kernel
theorem half_T : mixE H0 (fun j => padded xT (64 * 0 + j)) = ⟨0x797bfccf, 0x9830dcca, 0x70d9e3db, 0x7643ed51, 0x596d74f9, 0xfbb4402d, 0x7dbc08e1, 0xda1305e1⟩ := by decide +kernel
theorem sum_T : sumV xT = ⟨0xc0508e26, 0xd69486f6, 0x688430e0, 0xda1969f2, 0xd2c991b3, 0x5f05b0c7, 0x7e6a08db, 0x720cef3e⟩ := by
  have h : sumV xT = mixE (mixE H0 (fun j => padded xT (64 * 0 + j))) (fun j => padded xT (64 * 1 + j)) := by
    rw [mixE_eq, mixE_eq]; rfl
  rw [h, half_T]
  decide +kernel
theorem name_T : nameL xT = nT := by
  unfold nameL sumL
  rw [sum_T]
  decide +kernel
theorem head_B : headL 1 [120] = xB := by decide +kernel
theorem head_T : headL 2 tdT = xT := by decide +kernel
theorem id_B : idL 1 [120] = nB := by
  unfold idL
  rw [if_pos (by decide), head_B, name_B]
def itB : Itm := ⟨1, [102], nB⟩
theorem right_B : rightT [itB] = true := by decide +kernel
theorem put_B : putT [itB] = tdT := by decide +kernel
theorem wants_T : wantsO 2 tdT = some [(nB, 1)] := by
  unfold wantsO
  rw [if_neg (by decide), if_neg (by decide), if_pos rfl, getT_iff.2 ⟨right_B, put_B⟩]
  rfl
theorem id_T : idL 2 tdT = nT := by
  unfold idL
  rw [wants_T, if_pos (show (some [(nB, (1 : Int))]).isSome = true from rfl), head_T, name_T]
theorem id_9 : idL 9 [] = [] := by
  unfold idL
  rw [if_neg (by decide)]
theorem ne_TB : nT ≠ nB := by decide +kernel
theorem nB_ne : nB ≠ [] := by decide
theorem nT_ne : nT ≠ [] := by decide
end Go.Proofs.YtialgldmogigfaaGreatDoor
