/-
  A region that draws its order: what it reads stays as it is, behind whatever calls come; so the reads may be taken as soon as they can be.
  name, Id: an object's name, if it is right.
  The plain side of layer 4's laws.
  The two names that the head's objects have, reckoned.
-/
import Derived.OrdersHeld
import Derived.Deep.RegionHeld
import Derived.Test.YtngphfogomchfaaGreatDoorC10
import Derived.Laws.IdiomStrings
import Derived.Test.YtngphfogomchfaaGreatDoorC17
import Derived.Test.YtngphfogomchfaaGreatDoorC19
import Derived.WideAt
import Derived.WideShapes
import Derived.Test.YtngphfogomchfaaGreatDoorC03
import Derived.Test.YtngphfogomchfaaGreatDoorC01

namespace Go.Proofs.YtngphfogomchfaaGreatDoor
open Go Go.RowKit
section
variable {P : Program} {ops : Array Oper} {Q : Exit → Go.Act → World → Prop}

theorem held_mono {md : Region.Mode} {S S' : World → Prop} (hS : ∀ w, S' w → S w) : ∀ (fuel : Nat) (listed : Array Bool) (a : Go.Act) (w : World), wpAnyH P md ops Q S' fuel listed a w → wpAnyH P md ops Q S fuel listed a w
  | 0, _, _, _, h => h
  | fuel + 1, _, _, _, h => ⟨h.1, fun i hi => wpOp_mono (fun a' w' h' => ⟨hS w' h'.1, held_mono hS fuel _ a' w' h'.2⟩) (h.2 i hi)⟩

/-- Whatever order is picked from here on; what lies in w stays as it is. -/
def AnyB (P : Program) (ops : Array Oper) (Q : Exit → Go.Act → World → Prop) (fuel : Nat) (listed : Array Bool) (a : Go.Act) (w : World) : Prop :=
  wpAnyH P .any ops Q (fun W => Below w.heap.size w W) fuel listed a w

theorem AnyB.start {id : Nat} {a : Go.Act} {w : World} (hm : P.follows .mixedOrders = true) (h : AnyB P ops Q ops.size (Array.replicate ops.size false) a w.drew) : (Code.region id ops true).wp P Q a w :=
  wp_region_held hm h

/-- A read, taken as soon as it may come up. -/
theorem AnyB.take (i : Nat) (v : Value) {oi : Oper} {fuel : Nat} {listed : Array Bool} {a : Go.Act} {w : World} (hi : ops[i]? = some oi)
    (hs : Region.noSelect ops = true) (hf : Region.free .any ops listed i = true) (hr : (Region.ready .any ops listed).contains i = true)
    (hQ : ∀ c a w, Q (.panic c) (a.put oi.dst v) w → Q (.panic c) a w) (hw : Region.wanted oi (yielded ops a.tmps) = true)
    (hy : ∀ W, Below w.heap.size w W → (execOp a.eval oi).run P W = .ok (.value v) W)
    (h : AnyB P ops Q fuel (listed.setIfInBounds i true) (a.put oi.dst v) w) : AnyB P ops Q (fuel + 1) listed a w :=
  wpAnyH_take hi hs hf hr hQ (.inl ⟨hw, hy⟩) (Below.refl _ _) h

/-- What its guard keeps from being done. -/
theorem AnyB.skip (i : Nat) {oi : Oper} {fuel : Nat} {listed : Array Bool} {a : Go.Act} {w : World} (hi : ops[i]? = some oi)
    (hs : Region.noSelect ops = true) (hf : Region.free .any ops listed i = true) (hr : (Region.ready .any ops listed).contains i = true)
    (hQ : ∀ c a w, Q (.panic c) (a.put oi.dst undef) w → Q (.panic c) a w) (hw : Region.wanted oi (yielded ops a.tmps) = false)
    (h : AnyB P ops Q fuel (listed.setIfInBounds i true) (a.put oi.dst undef) w) : AnyB P ops Q (fuel + 1) listed a w :=
  wpAnyH_take hi hs hf hr hQ (.inr ⟨hw, rfl⟩) (Below.refl _ _) h

/-- A call that alone may come up. -/
theorem AnyB.call (i : Nat) {oi : Oper} {fuel : Nat} {listed : Array Bool} {a : Go.Act} {w : World} (f : FuncId) (vs : Array Value) (hr : Region.ready .any ops listed = [i]) (hi : ops[i]? = some oi)
    (hw : Region.wanted oi (yielded ops a.tmps) = true) (he : (execOp a.eval oi).run P w = .ok (.enter f vs) w)
    (hc : Calls P f vs w fun e w' => ∃ v, e = .returned v ∧ Below w.heap.size w w' ∧ AnyB P ops Q fuel (listed.setIfInBounds i true) (a.put oi.dst v) w') : AnyB P ops Q (fuel + 1) listed a w := by
  refine wpAnyH_ready hr (by simp) (AllReadyH.cons hi (fun K hK => ?_) AllReadyH.nil)
  rw [if_pos hw]
  unfold Oper.wp
  rw [he, Oper.upon_enter]
  refine hc.mono ?_
  rintro e w' ⟨v, rfl, hb, h⟩
  exact hK.out _ _ hb fun _ => held_mono (fun _ hW => hb.trans (hW.mono hb.size)) _ _ _ _ h

/-- What makes memory, where it alone may come up. -/
theorem AnyB.op (i : Nat) (v : Value) (w' : World) {oi : Oper} {fuel : Nat} {listed : Array Bool} {a : Go.Act} {w : World} (hr : Region.ready .any ops listed = [i]) (hi : ops[i]? = some oi)
    (hw : Region.wanted oi (yielded ops a.tmps) = true) (he : (execOp a.eval oi).run P w = .ok (.value v) w') (hb : Below w.heap.size w w') (h : AnyB P ops Q fuel (listed.setIfInBounds i true) (a.put oi.dst v) w') : AnyB P ops Q (fuel + 1) listed a w :=
  held_one hr (held_op v w' hi hw he hb (held_mono (fun _ hW => hb.trans (hW.mono hb.size)) _ _ _ _ h))
theorem AnyB.done {listed : Array Bool} {a : Go.Act} {w : World} (fuel : Nat) (hr : Region.ready .any ops listed = []) (h : Q .normal a w) : AnyB P ops Q fuel listed a w :=
  wpAnyH_done hr h fuel
end
section
variable {P : Program} {a : Go.Act} {o : Oper} {W : World}
/-- A comparison of what two slots hold. -/
theorem y_bin {op : BinOp} {s t : Operand} {ty ty' : TypeId} {x y r : Value} (ho : o.op = .binOp op ty s t ty') (hs : a.eval s = x) (ht : a.eval t = y)
    (hg : (eqGuard op ty s t x y).run P W = .ok () W) (hb : (binOp op ty x y).run P W = .ok r W) : (execOp a.eval o).run P W = .ok (.value r) W := by
  subst hs ht
  simp only [execOp, ho]
  simp [Sem.run_bind, hg, hb, Result.andThen]
theorem y_conv' {s : Operand} {ty ty' : TypeId} {x r : Value} {W' : World} (ho : o.op = .convert ty ty' s) (hs : a.eval s = x) (hc : (convert ty ty' x).run P W = .ok r W') : (execOp a.eval o).run P W = .ok (.value r) W' := by
  subst hs
  simp only [execOp, ho]
  simp [hc, Result.andThen]
/-- A conversion of what a slot holds. -/
theorem y_conv {s : Operand} {ty ty' : TypeId} {x r : Value} (ho : o.op = .convert ty ty' s) (hs : a.eval s = x) (hc : (convert ty ty' x).run P W = .ok r W) : (execOp a.eval o).run P W = .ok (.value r) W := by
  subst hs
  simp only [execOp, ho]
  simp [hc, Result.andThen]
end
end Go.Proofs.YtngphfogomchfaaGreatDoor


namespace Go.Proofs.YtngphfogomchfaaGreatDoor
open Go Go.RowKit Go.Shelf
/-- Of which bytes an object's name is. -/
def headL (k : Int) (d : List UInt8) : List UInt8 := kindW k ++ (32 :: (textL d.length ++ (10 :: d)))
theorem kind_short (k : Int) : (kindW k).length ≤ 6 := by
  by_cases h : 1 ≤ k ∧ k ≤ 4
  · rcases kind_cases h.1 h.2 with rfl | rfl | rfl | rfl <;> decide
  · rw [word_ne_nil.2 h]; simp
theorem conv_bytes (W : World) (l : List UInt8) : ∃ A c W', (convert 9 89 (.string ⟨l.toArray⟩)).run Tryz.prog W = .ok (.slice A l.length c) W' ∧ Rb W' (.slice A l.length c) l ∧ Below W.heap.size W W' := by
  have hge := grownCap_ge W (⟨l.toArray⟩ : ByteArray).size 0 5
  have hsz : (⟨l.toArray⟩ : ByteArray).size = l.length := rfl
  refine ⟨_, _, _, run_bytes_of_string W _ _ 5 _ Tryz.underlying9 Tryz.underlying89 Tryz.underlying5, ?_, ?_⟩
  · refine .inr ⟨W.heap.size, 0, _, rfl, by rw [← hsz]; exact hge, by simp, fun j hj => ?_⟩
    rw [Nat.zero_add]
    have h1 := bytesRow_at ⟨l.toArray⟩ (grownCap W (⟨l.toArray⟩ : ByteArray).size 0 5) j (by simpa using hj)
    have h2 := cell_of_row (W.drew.alloc (.cells (bytesRow ⟨l.toArray⟩ (grownCap W (⟨l.toArray⟩ : ByteArray).size 0 5)) 5 ((bytesRow ⟨l.toArray⟩ (grownCap W (⟨l.toArray⟩ : ByteArray).size 0 5)).size, (bytesRow ⟨l.toArray⟩ (grownCap W (⟨l.toArray⟩ : ByteArray).size 0 5)).size + 1))) W.heap.size j _ _ _ (heap_alloc_new W.drew _)
    rw [h2, h1, List.getD_eq_getElem?_getD, List.getElem?_eq_getElem hj]
    simp
  · exact (Below.refl _ _).drew.alloc (Nat.le_refl _) _
set_option maxRecDepth 100000 in
set_option maxHeartbeats 4000000 in
theorem name_yes (k : Int) (d : List UInt8) (hs : d.length ≤ 80000) (w : World) (he : Eb w) (ht : Tb w) (hp : Pr w) (l : List (List UInt8 × Int)) (h : wantsO k d = some l) :
    Calls Tryz.prog 58 #[ObjV k d] w (RetBelow (.tuple #[SV (nameL (headL k d)), .nilIface]) w) := by
  have B0 := below_new w (.cells #[.int .i64 k, .string ⟨d.toArray⟩] 30)
  have hw := (wants_any k d (by omega) _ (he.below B0) (ht.below B0))
  have hw2 : Calls Tryz.prog 73 #[ObjV k d] (w.alloc (.cells #[.int .i64 k, .string ⟨d.toArray⟩] 30)) fun e w' => (∃ A n c, e = .returned (.tuple #[.slice A n c, .nilIface])) ∧ Below w.heap.size w w' ∧ w'.heap[w.heap.size]? = some (.cells #[.int .i64 k, .string ⟨d.toArray⟩] 30 (0, 0)) := by
    refine hw.mono ?_
    intro e w' hh
    refine ⟨?_, B0.trans (hh.2.mono B0.size), (hh.2.block _ (by simp)).trans (heap_alloc_new _ _)⟩
    rcases hh.ret with ⟨A, n, c, rfl, _⟩ | ⟨_, _, _, _, _, ho⟩
    · exact ⟨A, n, c, rfl⟩
    · rw [h] at ho; cases ho
  have HW := Lib.hid hw2
  obtain ⟨kw, hkw⟩ : ∃ kw, kw = kindW k := ⟨_, rfl⟩
  obtain ⟨tx, htx⟩ : ∃ tx, tx = textL (d.length : Int) := ⟨_, rfl⟩
  have hk6 : kw.length ≤ 6 := by rw [hkw]; exact kind_short k
  have ht20 : tx.length ≤ 20 := by rw [htx]; exact textL_len (by omega)
  have hall : ((kw ++ [32]) ++ tx ++ [10]) ++ d = headL k d := by rw [hkw, htx]; unfold headL; simp
  have HWd : Hid (∀ W : World, Calls Tryz.prog 87 #[.int .i64 k] W fun e w' => e = .returned (.string ⟨kw.toArray⟩) ∧ W = w') := Lib.hid fun W => by rw [hkw]; exact word_any k W
  have HTx : Hid (∀ W : World, Below w.heap.size w W → Calls Tryz.prog 88 #[.int .i64 (d.length : Int)] W fun e w' => e = .returned (.string ⟨tx.toArray⟩) ∧ Below W.heap.size W w') := Lib.hid fun W hW => by rw [htx]; exact Text_any _ (by omega) (by omega) W (ht.below hW)
  have HNm : Hid (∀ (W : World) (v : Value), Below w.heap.size w W → Rb W v (headL k d) → Calls Tryz.prog 86 #[v] W fun e w' => e = .returned (SV (nameL (headL k d))) ∧ Below W.heap.size W w') := Lib.hid fun W v hW hr => Name_any W v _ (hp.below hW hp.lt) (by rw [← hall]; simp; omega) hr
  have HAll := Lib.hid hall
  obtain ⟨p1, h1⟩ : ∃ p1, p1 = kw ++ [32] := ⟨_, rfl⟩
  obtain ⟨p2, h2⟩ : ∃ p2, p2 = p1 ++ tx := ⟨_, rfl⟩
  obtain ⟨p3, h3⟩ : ∃ p3, p3 = p2 ++ [10] := ⟨_, rfl⟩
  obtain ⟨p4, h4⟩ : ∃ p4, p4 = headL k d := ⟨_, rfl⟩
  have z1 : p1.length ≤ 7 := by rw [h1]; simp; omega
  have z2 : p2.length ≤ 27 := by rw [h2]; simp; omega
  have z3 : p3.length ≤ 28 := by rw [h3]; simp; omega
  have c1 := cat_run kw [32] ⟨p1.toArray⟩ (by rw [h1]) (by omega) (by simp)
  have c2 := cat_run p1 tx ⟨p2.toArray⟩ (by rw [h2]) (by omega) (by omega)
  have c3 := cat_run p2 [10] ⟨p3.toArray⟩ (by rw [h3]) (by omega) (by simp)
  have c4 := cat_run p3 d ⟨p4.toArray⟩ (by rw [h4, h3, h2, h1, hall]) (by omega) (by omega)
  rw [← h4] at HNm ⊢
  have C1 := Lib.hid c1; have C2 := Lib.hid c2; have C3 := Lib.hid c3; have C4 := Lib.hid c4
  unfold ObjV at HW ⊢
  clear he ht hp hw hw2 B0 h hkw htx hall c1 c2 c3 c4 h1 h2 h3 h4 z1 z2 z3 HAll
  go_enter Tryz.func58, Tryz.ntmps58
  go_wp2_with fail
  refine HW.out.mono ?_
  rintro e w1 ⟨⟨A, n, c, rfl⟩, hb, hbk⟩
  have q0 : ∀ W, Below w1.drew.heap.size w1.drew W → W.cell? ⟨w.heap.size, 0, none⟩ = some (.int .i64 k) := fun W hW => (hW.cell (p := ⟨w.heap.size, 0, none⟩) (lt_heap hbk)).trans (cell_of_blk' hbk rfl)
  have q1 : ∀ W, Below w1.drew.heap.size w1.drew W → W.cell? ⟨w.heap.size, 1, none⟩ = some (.string ⟨d.toArray⟩) := fun W hW => (hW.cell (p := ⟨w.heap.size, 1, none⟩) (lt_heap hbk)).trans (cell_of_blk' hbk rfl)
  have Q0 := Lib.hid q0; have Q1 := Lib.hid q1; have HB := Lib.hid hb.drew
  clear q0 q1 hbk hb
  go_wp2_with fail
  refine AnyB.start (by kernel_rfl) ?_
  refine AnyB.take 0 (.pointer (some ⟨w.heap.size, 0, none⟩)) rfl (by kernel_rfl) (by kernel_rfl) (by kernel_rfl) (fun _ _ _ h => h) (by kernel_rfl) (fun W hW => by kernel_rfl) ?_
  refine AnyB.take 1 (.int .i64 k) rfl (by kernel_rfl) (by kernel_rfl) (by kernel_rfl) (fun _ _ _ h => h) (by kernel_rfl) (fun W hW => y_load (sv := .pointer (some ⟨w.heap.size, 0, none⟩)) rfl (by kernel_rfl) (by have hW2 := Q0.out W hW; simp [go_sem, hW2])) ?_
  refine AnyB.take 4 (.pointer (some ⟨w.heap.size, 1, none⟩)) rfl (by kernel_rfl) (by kernel_rfl) (by kernel_rfl) (fun _ _ _ h => h) (by kernel_rfl) (fun W hW => by kernel_rfl) ?_
  refine AnyB.take 5 (.string ⟨d.toArray⟩) rfl (by kernel_rfl) (by kernel_rfl) (by kernel_rfl) (fun _ _ _ h => h) (by kernel_rfl) (fun W hW => y_load (sv := .pointer (some ⟨w.heap.size, 1, none⟩)) rfl (by kernel_rfl) (by have hW2 := Q1.out W hW; simp [go_sem, hW2])) ?_
  refine AnyB.take 6 (.int .i64 (d.length : Int)) rfl (by kernel_rfl) (by kernel_rfl) (by kernel_rfl) (fun _ _ _ h => h) (by kernel_rfl) (fun W hW => by kernel_rfl) ?_
  refine AnyB.take 10 (.pointer (some ⟨w.heap.size, 1, none⟩)) rfl (by kernel_rfl) (by kernel_rfl) (by kernel_rfl) (fun _ _ _ h => h) (by kernel_rfl) (fun W hW => by kernel_rfl) ?_
  refine AnyB.take 11 (.string ⟨d.toArray⟩) rfl (by kernel_rfl) (by kernel_rfl) (by kernel_rfl) (fun _ _ _ h => h) (by kernel_rfl) (fun W hW => y_load (sv := .pointer (some ⟨w.heap.size, 1, none⟩)) rfl (by kernel_rfl) (by have hW2 := Q1.out W hW; simp [go_sem, hW2])) ?_
  refine AnyB.call 2 87 #[.int .i64 k] (by kernel_rfl) rfl (by kernel_rfl) (by kernel_rfl) ((HWd.out _).mono ?_)
  rintro e w2 ⟨rfl, rfl⟩
  refine ⟨_, rfl, Below.refl _ _, ?_⟩
  refine AnyB.take 3 (.string ⟨p1.toArray⟩) rfl (by kernel_rfl) (by kernel_rfl) (by kernel_rfl) (fun _ _ _ h => h) (by kernel_rfl) (fun W hW => y_bin (x := .string ⟨kw.toArray⟩) (y := .string ⟨#[32]⟩) rfl (by kernel_rfl) (by kernel_rfl) rfl (by have := C1.out W; simp [go_sem, this])) ?_
  refine AnyB.call 7 88 #[.int .i64 (d.length : Int)] (by kernel_rfl) rfl (by kernel_rfl) (by kernel_rfl) ((HTx.out _ HB.out).mono ?_)
  rintro e w2 ⟨rfl, l2⟩
  refine ⟨_, rfl, l2, ?_⟩
  have L2 := Lib.hid (HB.out.trans (l2.mono HB.out.size))
  refine AnyB.take 8 (.string ⟨p2.toArray⟩) rfl (by kernel_rfl) (by kernel_rfl) (by kernel_rfl) (fun _ _ _ h => h) (by kernel_rfl) (fun W hW => y_bin (x := .string ⟨p1.toArray⟩) (y := .string ⟨tx.toArray⟩) rfl (by kernel_rfl) (by kernel_rfl) rfl (by have := C2.out W; simp only [binOp]; simp [go_sem, this])) ?_
  refine AnyB.take 9 (.string ⟨p3.toArray⟩) rfl (by kernel_rfl) (by kernel_rfl) (by kernel_rfl) (fun _ _ _ h => h) (by kernel_rfl) (fun W hW => y_bin (x := .string ⟨p2.toArray⟩) (y := .string ⟨#[10]⟩) rfl (by kernel_rfl) (by kernel_rfl) rfl (by have := C3.out W; simp [go_sem, this])) ?_
  refine AnyB.take 12 (.string ⟨p4.toArray⟩) rfl (by kernel_rfl) (by kernel_rfl) (by kernel_rfl) (fun _ _ _ h => h) (by kernel_rfl) (fun W hW => y_bin (x := .string ⟨p3.toArray⟩) (y := .string ⟨d.toArray⟩) rfl (by kernel_rfl) (by kernel_rfl) rfl (by have := C4.out W; simp [go_sem, this])) ?_
  obtain ⟨A3, c3, w3, hrun, hr3, l3⟩ := conv_bytes w2 (p4)
  refine AnyB.op 13 (.slice A3 (p4).length c3) w3 (by kernel_rfl) rfl (by kernel_rfl) (y_conv' (x := .string ⟨p4.toArray⟩) rfl (by kernel_rfl) hrun) l3 ?_
  have L3 := Lib.hid (L2.out.trans (l3.mono L2.out.size))
  refine AnyB.call 14 86 #[.slice A3 (p4).length c3] (by kernel_rfl) rfl (by kernel_rfl) (by kernel_rfl) ((HNm.out _ _ L3.out hr3).mono ?_)
  rintro e w4 ⟨rfl, l4⟩
  refine ⟨_, rfl, l4, ?_⟩
  have L4 := Lib.hid (L3.out.trans (l4.mono L3.out.size))
  clear hrun hr3 l3 l4 l2
  unfold SV
  refine AnyB.take 15 (.string ⟨(nameL p4).toArray⟩) rfl (by kernel_rfl) (by kernel_rfl) (by kernel_rfl) (fun _ _ _ h => h) (by kernel_rfl) (fun W hW => by kernel_rfl) ?_
  refine AnyB.take 16 .nilIface rfl (by kernel_rfl) (by kernel_rfl) (by kernel_rfl) (fun _ _ _ h => h) (by kernel_rfl) (fun W hW => by kernel_rfl) ?_
  refine AnyB.done _ (by kernel_rfl) ?_
  go_simp
  go_wp2_with fail
  go_ret2
  exact ⟨rfl, L4.out⟩
/-- There is an error. -/
def NmNo (w : World) (e : Ending) (w' : World) : Prop := (∃ p, e = .returned (.tuple #[.string ⟨#[]⟩, .iface 134 (.pointer (some p))])) ∧ Below w.heap.size w w'
set_option maxRecDepth 100000 in
set_option maxHeartbeats 4000000 in
theorem name_no (k : Int) (d : List UInt8) (hs : d.length ≤ 80000) (w : World) (he : Eb w) (ht : Tb w) (h : wantsO k d = none) :
    Calls Tryz.prog 58 #[ObjV k d] w (NmNo w) := by
  have B0 := below_new w (.cells #[.int .i64 k, .string ⟨d.toArray⟩] 30)
  have hw := (wants_any k d (by omega) _ (he.below B0) (ht.below B0))
  have hw2 : Calls Tryz.prog 73 #[ObjV k d] (w.alloc (.cells #[.int .i64 k, .string ⟨d.toArray⟩] 30)) fun e w' => (∃ A n c p, e = .returned (.tuple #[.slice A n c, .iface 134 (.pointer (some p))])) ∧ Below w.heap.size w w' := by
    refine hw.mono ?_
    intro e w' hh
    refine ⟨?_, B0.trans (hh.2.mono B0.size)⟩
    rcases hh.ret with ⟨A, n, c, rfl, l, ho, _⟩ | ⟨A, n, c, p, rfl, _⟩
    · rw [h] at ho; cases ho
    · exact ⟨A, n, c, p, rfl⟩
  have HW := Lib.hid hw2
  unfold ObjV at HW ⊢
  clear he ht hw hw2 B0 h
  go_enter Tryz.func58, Tryz.ntmps58
  go_wp2_with fail
  refine HW.out.mono ?_
  rintro e w1 ⟨⟨A, n, c, p, rfl⟩, hb⟩
  have HB := Lib.hid hb
  clear hb
  go_wp2_with fail
  go_ret2
  exact ⟨⟨p, rfl⟩, HB.out⟩
/-- An object's name; nothing, if it is not right. -/
def idL (k : Int) (d : List UInt8) : List UInt8 := if (wantsO k d).isSome then nameL (headL k d) else []
set_option maxRecDepth 100000 in
set_option maxHeartbeats 4000000 in
theorem Id_any (k : Int) (d : List UInt8) (hs : d.length ≤ 80000) (w : World) (he : Eb w) (ht : Tb w) (hp : Pr w) :
    Calls Tryz.prog 40 #[ObjV k d] w (RetBelow (SV (idL k d)) w) := by
  have B0 := below_new w (.cells #[.int .i64 k, .string ⟨d.toArray⟩] 30)
  have HB := Lib.hid B0
  cases h : wantsO k d with
  | none =>
    have HN := Lib.hid (name_no k d hs _ (he.below B0) (ht.below B0) h)
    have e0 : idL k d = [] := by unfold idL; rw [h]; rfl
    rw [e0]
    have HE := Lib.hid he
    unfold ObjV at HN ⊢
    unfold SV
    clear he ht hp h e0 B0
    go_enter Tryz.func40, Tryz.ntmps40
    go_wp2_with fail
    refine HN.out.mono ?_
    rintro e w1 ⟨⟨p, rfl⟩, l1⟩
    have L1 := Lib.hid (HB.out.trans (l1.mono HB.out.size))
    have HT := Lib.hid (toldS_fault (.string ⟨#[]⟩) (.iface 134 (.pointer (some p))) w1 ⟨p, rfl⟩ (HE.out.below L1.out).er.et)
    clear l1
    go_wp2_with fail
    refine HT.out.mono ?_
    rintro e w2 ⟨rfl, l2⟩
    go_wp2_with fail
    go_ret
    exact ⟨rfl, L1.out.trans (l2.mono L1.out.size)⟩
  | some l =>
    have HN := Lib.hid (name_yes k d hs _ (he.below B0) (ht.below B0) (hp.below B0 hp.lt) l h)
    have e0 : idL k d = nameL (headL k d) := by unfold idL; rw [h]; rfl
    rw [← e0] at HN
    obtain ⟨nm, hnm⟩ : ∃ nm, nm = idL k d := ⟨_, rfl⟩
    rw [← hnm] at HN ⊢
    unfold ObjV at HN ⊢
    unfold SV at HN ⊢
    clear he ht hp h e0 hnm B0
    go_enter Tryz.func40, Tryz.ntmps40
    go_wp2_with fail
    refine HN.out.mono ?_
    rintro e w1 ⟨rfl, l1⟩
    have L1 := Lib.hid (HB.out.trans (l1.mono HB.out.size))
    have HT := Lib.hid (toldS_nil (.string ⟨nm.toArray⟩) w1)
    clear l1
    go_wp2_with fail
    refine HT.out.mono ?_
    rintro e w2 ⟨rfl, l2⟩
    go_wp2_with fail
    go_ret
    exact ⟨rfl, L1.out.trans (l2.mono L1.out.size)⟩
end Go.Proofs.YtngphfogomchfaaGreatDoor


namespace Go.Proofs.YtngphfogomchfaaGreatDoor
open Go Go.RowKit
theorem getD_elem {α : Type} (l : List α) (d : α) (k : Nat) (hk : k < l.length) : l.getD k d = l[k] := by
  rw [List.getD_eq_getElem?_getD, List.getElem?_eq_getElem hk]; rfl
theorem part_len {s : List UInt8} (h : partB s = true) : s.length ≤ 70 := by
  unfold partB at h
  simp only [Bool.and_eq_true, decide_eq_true_eq] at h
  exact h.1.1.2.2
theorem parL_len72 : ∀ {l : List (List UInt8)}, (∀ p ∈ l, namedB p = true) → (parL l).length = 72 * l.length
  | [], _ => rfl
  | p :: l, h => by
    have h1 := named_len64 (h p (by simp))
    have h2 := parL_len72 (fun y hy => h y (List.mem_cons_of_mem _ hy))
    have e : parL (p :: l) = (wParent ++ (p ++ [10])) ++ parL l := rfl
    rw [e, List.length_append, List.length_cons]
    simp only [List.length_append, List.length_cons, List.length_nil, wParent]
    omega
theorem putC_len {c : Chg} (h : rightC c = true) : (putC c).length ≤ 1000 + c.text.length := by
  obtain ⟨h1, h2, h3, _, h5⟩ := rightC_parts.1 h
  have e1 := named_len64 h1
  have e2 := parL_len72 h3
  have e3 : c.who.length ≤ 100 := by
    unfold whoB at h5
    simp only [Bool.and_eq_true, decide_eq_true_eq] at h5
    exact h5.2
  unfold putC
  simp only [List.length_append, List.length_cons, wTree, wWho, List.length_nil]
  omega
theorem kindW_len (k : Int) : (kindW k).length ≤ 6 := by
  by_cases h : 1 ≤ k ∧ k ≤ 4
  · rcases kind_cases h.1 h.2 with rfl | rfl | rfl | rfl <;> decide
  · rw [word_ne_nil.2 h]; simp
theorem putL_len4 {l : Lbl} (h : rightL l = true) : (putL4 l).length ≤ 1000 + l.text.length := by
  obtain ⟨h1, _, h3⟩ := rightL_parts.1 h
  have e1 := named_len64 h1
  have e2 := part_len h3
  have e3 := kindW_len l.kind
  unfold putL4
  simp only [List.length_append, List.length_cons, wObject, wKind, wName, List.length_nil]
  omega
theorem wantsO_each {k : Int} {d : List UInt8} {l : List (List UInt8 × Int)} (h : wantsO k d = some l) : ∀ x ∈ l, namedB x.1 = true ∧ 1 ≤ x.2 ∧ x.2 ≤ 4 := by
  unfold wantsO at h
  by_cases h0 : 65536 < d.length
  · rw [if_pos h0] at h; cases h
  rw [if_neg h0] at h
  by_cases h1 : k = 1
  · rw [if_pos h1] at h; cases h; intro x hx; cases hx
  rw [if_neg h1] at h
  by_cases h2 : k = 2
  · rw [if_pos h2] at h
    obtain ⟨m, hm, rfl⟩ := Option.map_eq_some_iff.1 h
    intro x hx
    obtain ⟨y, hy, rfl⟩ := List.mem_map.1 hx
    obtain ⟨_, _, _, h4⟩ := itemB_parts (rightT_items (getT_iff.1 hm).1 y hy)
    refine ⟨h4, ?_⟩
    unfold wantI
    by_cases h3 : y.mode = 3
    · rw [if_pos h3]; omega
    · rw [if_neg h3]; omega
  rw [if_neg h2] at h
  by_cases h3 : k = 3
  · rw [if_pos h3] at h
    obtain ⟨c, hc, rfl⟩ := Option.map_eq_some_iff.1 h
    obtain ⟨g1, _, g3, _, _⟩ := rightC_parts.1 (getC_iff.1 hc).1
    intro x hx
    unfold wantC at hx
    rcases List.mem_cons.1 hx with rfl | hx
    · exact ⟨g1, show (1 : Int) ≤ 2 by decide, show (2 : Int) ≤ 4 by decide⟩
    · obtain ⟨p, hp, rfl⟩ := List.mem_map.1 hx
      exact ⟨g3 p hp, show (1 : Int) ≤ 3 by decide, show (3 : Int) ≤ 4 by decide⟩
  rw [if_neg h3] at h
  by_cases h4 : k = 4
  · rw [if_pos h4] at h
    obtain ⟨c, hc, rfl⟩ := Option.map_eq_some_iff.1 h
    obtain ⟨g1, g2, _⟩ := rightL_parts.1 (getL4_iff.1 hc).1
    intro x hx
    obtain rfl := List.mem_singleton.1 hx
    exact ⟨g1, g2⟩
  · rw [if_neg h4] at h; cases h
end Go.Proofs.YtngphfogomchfaaGreatDoor


namespace Go.Proofs.YtngphfogomchfaaGreatDoor

/-- k of x, x being reckoned first. -/
def force {β : Type} (x : UInt32) (k : UInt32 → β) : β :=
  match x.toNat with
  | 0 => k 0
  | n + 1 => k (UInt32.ofNat (n + 1))
theorem force_eq {β : Type} (x : UInt32) (k : UInt32 → β) : force x k = k x := by
  unfold force
  split
  · rename_i h; rw [show x = 0 from UInt32.toNat_inj.1 (by simpa using h)]
  · rename_i n h; rw [show n + 1 = x.toNat from h.symm, UInt32.ofNat_toNat]

/-- The words so far, the newest one first. -/
def schedE (m : Nat → UInt32) : Nat → List UInt32
  | 0 => []
  | t + 1 =>
    let l := schedE m t
    if t < 16 then m t :: l else (ss1 (l.getD 1 0) + l.getD 6 0 + ss0 (l.getD 14 0) + l.getD 15 0) :: l

theorem schedE_length (m : Nat → UInt32) (t : Nat) : (schedE m t).length = t := by
  induction t with
  | zero => rfl
  | succ t ih => rw [schedE]; split <;> simp [ih]
theorem schedE_get (m : Nat → UInt32) (t i : Nat) (h : i < t) : (schedE m t).getD i 0 = sched m (t - 1 - i) := by
  induction t generalizing i with
  | zero => omega
  | succ t ih =>
    rw [schedE]
    cases i with
    | zero =>
      by_cases h16 : t < 16
      · rw [if_pos h16, show t + 1 - 1 - 0 = t by omega, sched_lo _ _ h16]; rfl
      · rw [if_neg h16, ih 1 (by omega), ih 6 (by omega), ih 14 (by omega), ih 15 (by omega), show t + 1 - 1 - 0 = t by omega, sched_hi _ _ h16,
          show t - 1 - 1 = t - 2 by omega, show t - 1 - 6 = t - 7 by omega, show t - 1 - 14 = t - 15 by omega, show t - 1 - 15 = t - 16 by omega]
        rfl
    | succ i =>
      have e : ∀ x : UInt32, (x :: schedE m t).getD (i + 1) 0 = (schedE m t).getD i 0 := fun _ => rfl
      have e2 : t + 1 - 1 - (i + 1) = t - 1 - i := by omega
      split <;> rw [e, ih i (by omega), e2]

/-- All words, reckoned: n more behind l. -/
def growE : Nat → List UInt32 → List UInt32
  | 0, l => l
  | n + 1, l => force (ss1 (l.getD 1 0) + l.getD 6 0 + ss0 (l.getD 14 0) + l.getD 15 0) fun x => growE n (x :: l)
theorem growE_eq (m : Nat → UInt32) (n t : Nat) (h : 16 ≤ t) : growE n (schedE m t) = schedE m (t + n) := by
  induction n generalizing t with
  | zero => rfl
  | succ n ih =>
    rw [growE, force_eq]
    have : (ss1 ((schedE m t).getD 1 0) + (schedE m t).getD 6 0 + ss0 ((schedE m t).getD 14 0) + (schedE m t).getD 15 0) :: schedE m t = schedE m (t + 1) := by
      rw [schedE, if_neg (by omega)]
    rw [this, ih (t + 1) (by omega)]
    congr 1; omega

/-- The rounds, reckoned: the words that are left, the oldest first. -/
def rndsE : List UInt32 → List UInt32 → V → V
  | k :: ks, w :: ws, v => force (rndX k w v + rndY v) fun a => force (v.d + rndX k w v) fun e => rndsE ks ws ⟨a, v.a, v.b, v.c, e, v.e, v.f, v.g⟩
  | _, _, v => v
theorem rndsE_eq (kf wf : Nat → UInt32) (v : V) (n : Nat) (ks ws : List UInt32) (t : Nat) (hk : ks.length = n) (hw : ws.length = n)
    (ek : ∀ i, i < n → ks.getD i 0 = kf (t + i)) (ew : ∀ i, i < n → ws.getD i 0 = wf (t + i)) : rndsE ks ws (rnds kf wf v t) = rnds kf wf v (t + n) := by
  induction n generalizing ks ws t with
  | zero =>
    cases ks with
    | nil => rfl
    | cons => simp at hk
  | succ n ih =>
    cases ks with
    | nil => simp at hk
    | cons k ks =>
      cases ws with
      | nil => simp at hw
      | cons w ws =>
        have k0 := ek 0 (by omega)
        have w0 := ew 0 (by omega)
        simp only [List.getD_cons_zero, Nat.add_zero] at k0 w0
        rw [rndsE, force_eq, force_eq]
        have : (⟨rndX k w (rnds kf wf v t) + rndY (rnds kf wf v t), (rnds kf wf v t).a, (rnds kf wf v t).b, (rnds kf wf v t).c, (rnds kf wf v t).d + rndX k w (rnds kf wf v t), (rnds kf wf v t).e, (rnds kf wf v t).f, (rnds kf wf v t).g⟩ : V) = rnds kf wf v (t + 1) := by
          rw [rnds, rnd, k0, w0]
        rw [this, ih ks ws (t + 1) (by simpa using hk) (by simpa using hw) (fun i hi => by have := ek (i + 1) (by omega); rw [show t + 1 + i = t + (i + 1) by omega, ← this]; rfl) (fun i hi => by have := ew (i + 1) (by omega); rw [show t + 1 + i = t + (i + 1) by omega, ← this]; rfl)]
        congr 1; omega

def forceAll {β : Type} : List UInt32 → (List UInt32 → β) → β
  | [], k => k []
  | x :: l, k => force x fun y => forceAll l fun l' => k (y :: l')
theorem forceAll_eq {β : Type} (l : List UInt32) (k : List UInt32 → β) : forceAll l k = k l := by
  induction l generalizing k with
  | nil => rfl
  | cons x l ih => rw [forceAll, force_eq, ih]

def mixE (v : V) (m : Nat → UInt8) : V := addV v (forceAll (schedE (word m) 16) fun l => rndsE KL (growE 48 l).reverse v)

theorem KF_get (t : Nat) : KL.getD t 0 = KF t := rfl
theorem rev_get (l : List UInt32) (i : Nat) (h : i < l.length) : l.reverse.getD i 0 = l.getD (l.length - 1 - i) 0 := by
  rw [List.getD_eq_getElem?_getD, List.getD_eq_getElem?_getD, List.getElem?_reverse h]
theorem mixE_eq (v : V) (m : Nat → UInt8) : mixE v m = mixV KF v m := by
  unfold mixE mixV
  rw [forceAll_eq, growE_eq _ _ _ (Nat.le_refl _)]
  have hl : (schedE (word m) (16 + 48)).length = 64 := schedE_length _ _
  congr 1
  exact rndsE_eq KF (sched (word m)) v 64 KL _ 0 rfl (by rw [List.length_reverse, hl]) (fun i hi => by rw [Nat.zero_add]; rfl) (fun i hi => by
    rw [rev_get _ _ (by rw [hl]; exact hi), hl, schedE_get _ _ _ (by omega), Nat.zero_add]
    congr 1; omega)

def xB : List UInt8 := [98, 108, 111, 98, 32, 49, 10, 120]
def nB : List UInt8 := [97, 53, 100, 52, 100, 54, 98, 55, 97, 50, 52, 57, 52, 51, 56, 57, 54, 100, 101, 57, 53, 100, 50, 53, 97, 50, 54, 102, 97, 48, 55, 51, 50, 55, 98, 55, 50, 50, 100, 49, 51, 53, 100, 55, 57, 100, 56, 99, 99, 51, 98, 56, 55, 51, 102, 98, 57, 56, 51, 48, 52, 56, 51, 102]
def tdT : List UInt8 := [49, 32, 102, 0, 97, 53, 100, 52, 100, 54, 98, 55, 97, 50, 52, 57, 52, 51, 56, 57, 54, 100, 101, 57, 53, 100, 50, 53, 97, 50, 54, 102, 97, 48, 55, 51, 50, 55, 98, 55, 50, 50, 100, 49, 51, 53, 100, 55, 57, 100, 56, 99, 99, 51, 98, 56, 55, 51, 102, 98, 57, 56, 51, 48, 52, 56, 51, 102]
def xT : List UInt8 := [116, 114, 101, 101, 32, 54, 56, 10, 49, 32, 102, 0, 97, 53, 100, 52, 100, 54, 98, 55, 97, 50, 52, 57, 52, 51, 56, 57, 54, 100, 101, 57, 53, 100, 50, 53, 97, 50, 54, 102, 97, 48, 55, 51, 50, 55, 98, 55, 50, 50, 100, 49, 51, 53, 100, 55, 57, 100, 56, 99, 99, 51, 98, 56, 55, 51, 102, 98, 57, 56, 51, 48, 52, 56, 51, 102]
def nT : List UInt8 := [99, 48, 53, 48, 56, 101, 50, 54, 100, 54, 57, 52, 56, 54, 102, 54, 54, 56, 56, 52, 51, 48, 101, 48, 100, 97, 49, 57, 54, 57, 102, 50, 100, 50, 99, 57, 57, 49, 98, 51, 53, 102, 48, 53, 98, 48, 99, 55, 55, 101, 54, 97, 48, 56, 100, 98, 55, 50, 48, 99, 101, 102, 51, 101]
theorem sum_B : sumV xB = ⟨0xa5d4d6b7, 0xa2494389, 0x6de95d25, 0xa26fa073, 0x27b722d1, 0x35d79d8c, 0xc3b873fb, 0x9830483f⟩ := by
  have h : sumV xB = mixE H0 (fun j => padded xB (64 * 0 + j)) := by
    rw [mixE_eq]; rfl
  rw [h]
  decide +kernel
theorem name_B : nameL xB = nB := by
  unfold nameL sumL
  rw [sum_B]
  decide +kernel
theorem half_T : mixE H0 (fun j => padded xT (64 * 0 + j)) = ⟨0x797bfccf, 0x9830dcca, 0x70d9e3db, 0x7643ed51, 0x596d74f9, 0xfbb4402d, 0x7dbc08e1, 0xda1305e1⟩ := by decide +kernel
theorem sum_T : sumV xT = ⟨0xc0508e26, 0xd69486f6, 0x688430e0, 0xda1969f2, 0xd2c991b3, 0x5f05b0c7, 0x7e6a08db, 0x720cef3e⟩ := by
  have h : sumV xT = mixE (mixE H0 (fun j => padded xT (64 * 0 + j))) (fun j => padded xT (64 * 1 + j)) := by
    rw [mixE_eq, mixE_eq]; rfl
  rw [h, half_T]
  decide +kernel
theorem name_T : nameL xT = nT := by
  unfold nameL sumL
  rw [sum_T]
  decide +kernel
theorem head_B : headL 1 [120] = xB := by decide +kernel
theorem head_T : headL 2 tdT = xT := by decide +kernel
theorem id_B : idL 1 [120] = nB := by
  unfold idL
  rw [if_pos (by decide), head_B, name_B]
def itB : Itm := ⟨1, [102], nB⟩
theorem right_B : rightT [itB] = true := by decide +kernel
theorem put_B : putT [itB] = tdT := by decide +kernel
theorem wants_T : wantsO 2 tdT = some [(nB, 1)] := by
  unfold wantsO
  rw [if_neg (by decide), if_neg (by decide), if_pos rfl, getT_iff.2 ⟨right_B, put_B⟩]
  rfl
theorem id_T : idL 2 tdT = nT := by
  unfold idL
  rw [wants_T, if_pos (show (some [(nB, (1 : Int))]).isSome = true from rfl), head_T, name_T]
theorem id_9 : idL 9 [] = [] := by
  unfold idL
  rw [if_neg (by decide)]
theorem ne_TB : nT ≠ nB := by decide +kernel
theorem nB_ne : nB ≠ [] := by decide
theorem nT_ne : nT ≠ [] := by decide
end Go.Proofs.YtngphfogomchfaaGreatDoor
