/-
  Regions that draw their order, step by step.
-/
import Derived.Test.YtbgnemephcbgeaaBase
namespace Go.Proofs.Ytbgnemephcbgeaa
open Go Go.RowKit

section
variable {P : Program} {ops : Array Oper} {Q : Exit → Go.Act → World → Prop}

theorem held_mono {md : Region.Mode} {S S' : World → Prop} (hS : ∀ w, S' w → S w) : ∀ (fuel : Nat) (listed : Array Bool) (a : Go.Act) (w : World), wpAnyH P md ops Q S' fuel listed a w → wpAnyH P md ops Q S fuel listed a w
  | 0, _, _, _, h => h
  | fuel + 1, _, _, _, h => ⟨h.1, fun i hi => wpOp_mono (fun a' w' h' => ⟨hS w' h'.1, held_mono hS fuel _ a' w' h'.2⟩) (h.2 i hi)⟩

/-- Whatever order is picked from here on; what lies in w stays as it is. -/
def AnyB (P : Program) (ops : Array Oper) (Q : Exit → Go.Act → World → Prop) (fuel : Nat) (listed : Array Bool) (a : Go.Act) (w : World) : Prop :=
  wpAnyH P .any ops Q (fun W => Below w.heap.size w W) fuel listed a w

theorem AnyB.start {id : Nat} {a : Go.Act} {w : World} (hm : P.follows .mixedOrders = true) (h : AnyB P ops Q ops.size (Array.replicate ops.size false) a w.drew) : (Code.region id ops true).wp P Q a w :=
  wp_region_held hm h

/-- A read, taken as soon as it may come up. -/
theorem AnyB.take (i : Nat) (v : Value) {oi : Oper} {fuel : Nat} {listed : Array Bool} {a : Go.Act} {w : World} (hi : ops[i]? = some oi)
    (hs : Region.noSelect ops = true) (hf : Region.free .any ops listed i = true) (hr : (Region.ready .any ops listed).contains i = true)
    (hQ : ∀ c a w, Q (.panic c) (a.put oi.dst v) w → Q (.panic c) a w) (hw : Region.wanted oi (yielded ops a.tmps) = true)
    (hy : ∀ W, Below w.heap.size w W → (execOp a.eval oi).run P W = .ok (.value v) W)
    (h : AnyB P ops Q fuel (listed.setIfInBounds i true) (a.put oi.dst v) w) : AnyB P ops Q (fuel + 1) listed a w :=
  wpAnyH_take hi hs hf hr hQ (.inl ⟨hw, hy⟩) (Below.refl _ _) h

/-- What its guard keeps from being done. -/
theorem AnyB.skip (i : Nat) {oi : Oper} {fuel : Nat} {listed : Array Bool} {a : Go.Act} {w : World} (hi : ops[i]? = some oi)
    (hs : Region.noSelect ops = true) (hf : Region.free .any ops listed i = true) (hr : (Region.ready .any ops listed).contains i = true)
    (hQ : ∀ c a w, Q (.panic c) (a.put oi.dst undef) w → Q (.panic c) a w) (hw : Region.wanted oi (yielded ops a.tmps) = false)
    (h : AnyB P ops Q fuel (listed.setIfInBounds i true) (a.put oi.dst undef) w) : AnyB P ops Q (fuel + 1) listed a w :=
  wpAnyH_take hi hs hf hr hQ (.inr ⟨hw, rfl⟩) (Below.refl _ _) h

/-- A call that alone may come up. -/
theorem AnyB.call (i : Nat) {oi : Oper} {fuel : Nat} {listed : Array Bool} {a : Go.Act} {w : World} (f : FuncId) (vs : Array Value) (hr : Region.ready .any ops listed = [i]) (hi : ops[i]? = some oi)
    (hw : Region.wanted oi (yielded ops a.tmps) = true) (he : (execOp a.eval oi).run P w = .ok (.enter f vs) w)
    (hc : Calls P f vs w fun e w' => ∃ v, e = .returned v ∧ Below w.heap.size w w' ∧ AnyB P ops Q fuel (listed.setIfInBounds i true) (a.put oi.dst v) w') : AnyB P ops Q (fuel + 1) listed a w := by
  refine wpAnyH_ready hr (by simp) (AllReadyH.cons hi (fun K hK => ?_) AllReadyH.nil)
  rw [if_pos hw]
  unfold Oper.wp
  rw [he, Oper.upon_enter]
  refine hc.mono ?_
  rintro e w' ⟨v, rfl, hb, h⟩
  exact hK.out _ _ hb fun _ => held_mono (fun _ hW => hb.trans (hW.mono hb.size)) _ _ _ _ h

/-- What makes memory, where it alone may come up. -/
theorem AnyB.op (i : Nat) (v : Value) (w' : World) {oi : Oper} {fuel : Nat} {listed : Array Bool} {a : Go.Act} {w : World} (hr : Region.ready .any ops listed = [i]) (hi : ops[i]? = some oi)
    (hw : Region.wanted oi (yielded ops a.tmps) = true) (he : (execOp a.eval oi).run P w = .ok (.value v) w') (hb : Below w.heap.size w w') (h : AnyB P ops Q fuel (listed.setIfInBounds i true) (a.put oi.dst v) w') : AnyB P ops Q (fuel + 1) listed a w :=
  held_one hr (held_op v w' hi hw he hb (held_mono (fun _ hW => hb.trans (hW.mono hb.size)) _ _ _ _ h))
theorem AnyB.done {listed : Array Bool} {a : Go.Act} {w : World} (fuel : Nat) (hr : Region.ready .any ops listed = []) (h : Q .normal a w) : AnyB P ops Q fuel listed a w :=
  wpAnyH_done hr h fuel
end

section
variable {P : Program} {a : Go.Act} {o : Oper} {W : World}
/-- A comparison of what two slots hold. -/
theorem y_bin {op : BinOp} {s t : Operand} {ty ty' : TypeId} {x y r : Value} (ho : o.op = .binOp op ty s t ty') (hs : a.eval s = x) (ht : a.eval t = y)
    (hg : (eqGuard op ty s t x y).run P W = .ok () W) (hb : (binOp op ty x y).run P W = .ok r W) : (execOp a.eval o).run P W = .ok (.value r) W := by
  subst hs ht
  simp only [execOp, ho]
  simp [Sem.run_bind, hg, hb, Result.andThen]
theorem y_conv' {s : Operand} {ty ty' : TypeId} {x r : Value} {W' : World} (ho : o.op = .convert ty ty' s) (hs : a.eval s = x) (hc : (convert ty ty' x).run P W = .ok r W') : (execOp a.eval o).run P W = .ok (.value r) W' := by
  subst hs
  simp only [execOp, ho]
  simp [hc, Result.andThen]
/-- A conversion of what a slot holds. -/
theorem y_conv {s : Operand} {ty ty' : TypeId} {x r : Value} (ho : o.op = .convert ty ty' s) (hs : a.eval s = x) (hc : (convert ty ty' x).run P W = .ok r W) : (execOp a.eval o).run P W = .ok (.value r) W := by
  subst hs
  simp only [execOp, ho]
  simp [hc, Result.andThen]
end
section
variable {P : Program} {ops : Array Oper} {Q : Exit → Go.Act → World → Prop}
/-- One of two may come up. -/
theorem AnyB.two (i j : Nat) {fuel : Nat} {listed : Array Bool} {a : Go.Act} {w : World} (hr : Region.ready .any ops listed = [i, j]) {oi oj : Oper} (v v' : Value) (w1 w2 : World) (hi : ops[i]? = some oi) (hj : ops[j]? = some oj)
    (hwi : Region.wanted oi (yielded ops a.tmps) = true) (hwj : Region.wanted oj (yielded ops a.tmps) = true)
    (hei : (execOp a.eval oi).run P w = .ok (.value v) w1) (hej : (execOp a.eval oj).run P w = .ok (.value v') w2) (hb1 : Below w.heap.size w w1) (hb2 : Below w.heap.size w w2)
    (h1 : AnyB P ops Q fuel (listed.setIfInBounds i true) (a.put oi.dst v) w1) (h2 : AnyB P ops Q fuel (listed.setIfInBounds j true) (a.put oj.dst v') w2) : AnyB P ops Q (fuel + 1) listed a w :=
  held_two hr (held_op v w1 hi hwi hei hb1 (held_mono (fun _ hW => hb1.trans (hW.mono hb1.size)) _ _ _ _ h1)) (held_op v' w2 hj hwj hej hb2 (held_mono (fun _ hW => hb2.trans (hW.mono hb2.size)) _ _ _ _ h2))
end
section
variable {P : Program} {ops : Array Oper} {Q : Exit → Go.Act → World → Prop} {b : Nat} {w0 : World}
/-- Whatever order is picked from here on; what lies in w0 below b stays as it is. -/
def AnyK (P : Program) (ops : Array Oper) (Q : Exit → Go.Act → World → Prop) (b : Nat) (w0 : World) (fuel : Nat) (listed : Array Bool) (a : Go.Act) (w : World) : Prop :=
  wpAnyH P .any ops Q (fun W => Below b w0 W) fuel listed a w
theorem AnyK.start (b : Nat) (w0 : World) {id : Nat} {a : Go.Act} {w : World} (hm : P.follows .mixedOrders = true) (h : AnyK P ops Q b w0 ops.size (Array.replicate ops.size false) a w.drew) : (Code.region id ops true).wp P Q a w :=
  held_start _ hm h
theorem AnyK.take (i : Nat) (v : Value) {oi : Oper} {fuel : Nat} {listed : Array Bool} {a : Go.Act} {w : World} (hS : Below b w0 w) (hi : ops[i]? = some oi)
    (hs : Region.noSelect ops = true) (hf : Region.free .any ops listed i = true) (hr : (Region.ready .any ops listed).contains i = true)
    (hQ : ∀ c a w, Q (.panic c) (a.put oi.dst v) w → Q (.panic c) a w) (hw : Region.wanted oi (yielded ops a.tmps) = true)
    (hy : ∀ W, Below b w0 W → (execOp a.eval oi).run P W = .ok (.value v) W)
    (h : AnyK P ops Q b w0 fuel (listed.setIfInBounds i true) (a.put oi.dst v) w) : AnyK P ops Q b w0 (fuel + 1) listed a w :=
  held_take i v hi hs hf hr hQ hw hy hS h
theorem AnyK.call (i : Nat) {oi : Oper} {fuel : Nat} {listed : Array Bool} {a : Go.Act} {w : World} (f : FuncId) (vs : Array Value) (hr : Region.ready .any ops listed = [i]) (hi : ops[i]? = some oi)
    (hw : Region.wanted oi (yielded ops a.tmps) = true) (he : (execOp a.eval oi).run P w = .ok (.enter f vs) w)
    (hc : Calls P f vs w fun e w' => ∃ v, e = .returned v ∧ Below b w0 w' ∧ AnyK P ops Q b w0 fuel (listed.setIfInBounds i true) (a.put oi.dst v) w') : AnyK P ops Q b w0 (fuel + 1) listed a w := by
  refine wpAnyH_ready hr (by simp) (AllReadyH.cons hi (fun K hK => ?_) AllReadyH.nil)
  rw [if_pos hw]
  unfold Oper.wp
  rw [he, Oper.upon_enter]
  refine hc.mono ?_
  rintro e w' ⟨v, rfl, hb, h⟩
  exact hK.out _ _ hb fun _ => h
theorem AnyK.op (i : Nat) (v : Value) (w' : World) {oi : Oper} {fuel : Nat} {listed : Array Bool} {a : Go.Act} {w : World} (hr : Region.ready .any ops listed = [i]) (hi : ops[i]? = some oi)
    (hw : Region.wanted oi (yielded ops a.tmps) = true) (he : (execOp a.eval oi).run P w = .ok (.value v) w') (hb : Below b w0 w') (h : AnyK P ops Q b w0 fuel (listed.setIfInBounds i true) (a.put oi.dst v) w') : AnyK P ops Q b w0 (fuel + 1) listed a w :=
  held_one hr (held_op v w' hi hw he hb h)
theorem AnyK.two (i j : Nat) {fuel : Nat} {listed : Array Bool} {a : Go.Act} {w : World} (hr : Region.ready .any ops listed = [i, j]) {oi oj : Oper} (v v' : Value) (w1 w2 : World) (hi : ops[i]? = some oi) (hj : ops[j]? = some oj)
    (hwi : Region.wanted oi (yielded ops a.tmps) = true) (hwj : Region.wanted oj (yielded ops a.tmps) = true)
    (hei : (execOp a.eval oi).run P w = .ok (.value v) w1) (hej : (execOp a.eval oj).run P w = .ok (.value v') w2) (hb1 : Below b w0 w1) (hb2 : Below b w0 w2)
    (h1 : AnyK P ops Q b w0 fuel (listed.setIfInBounds i true) (a.put oi.dst v) w1) (h2 : AnyK P ops Q b w0 fuel (listed.setIfInBounds j true) (a.put oj.dst v') w2) : AnyK P ops Q b w0 (fuel + 1) listed a w :=
  held_two hr (held_op v w1 hi hwi hei hb1 h1) (held_op v' w2 hj hwj hej hb2 h2)
theorem AnyK.done {listed : Array Bool} {a : Go.Act} {w : World} (fuel : Nat) (hr : Region.ready .any ops listed = []) (h : Q .normal a w) : AnyK P ops Q b w0 fuel listed a w :=
  held_done fuel hr h
end
section
variable {P : Program} {a : Go.Act} {o : Oper} {W : World}
theorem y_slice {t : TypeId} {x : Operand} {lo hi mx : Option Operand} {xv r : Value} {lv hv mv : Option Value} (ho : o.op = .slice t x lo hi mx) (hx : a.eval x = xv) (hl : lo.map a.eval = lv) (hh : hi.map a.eval = hv) (hm : mx.map a.eval = mv)
    (hs : (Instr.sliceAt t xv lv hv mv).run P W = .ok r W) : (execOp a.eval o).run P W = .ok (.value r) W := by
  subst hx hl hh hm
  simp only [execOp, ho]
  simp [hs, Result.andThen]
theorem y_index {t : TypeId} {s i : Operand} {sv iv r : Value} (ho : o.op = .indexAddr t s i) (hs : a.eval s = sv) (hi : a.eval i = iv) (h : (Instr.indexAt t sv iv).run P W = .ok r W) : (execOp a.eval o).run P W = .ok (.value r) W := by
  subst hs hi
  simp only [execOp, ho]
  simp [h, Result.andThen]
theorem y_field {t : TypeId} {s : Operand} {n : Nat} {sv r : Value} (ho : o.op = .fieldAddr t s n) (hs : a.eval s = sv) (h : (Instr.fieldAt t sv n).run P W = .ok r W) : (execOp a.eval o).run P W = .ok (.value r) W := by
  subst hs
  simp only [execOp, ho]
  simp [h, Result.andThen]
end
section
variable {P : Program} {ops : Array Oper} {Q : Exit → Go.Act → World → Prop} {b : Nat} {w0 : World}
theorem AnyK.store (i : Nat) (w' : World) {oi : Oper} {fuel : Nat} {listed : Array Bool} {a : Go.Act} {w : World} (hr : Region.ready .any ops listed = [i]) (hi : ops[i]? = some oi)
    (hw : Region.wanted oi (yielded ops a.tmps) = true) (he : (execOp a.eval oi).run P w = .ok .skip w') (hb : Below b w0 w') (h : AnyK P ops Q b w0 fuel (listed.setIfInBounds i true) (a.put oi.dst undef) w') : AnyK P ops Q b w0 (fuel + 1) listed a w :=
  held_one hr (held_store w' hi hw he hb h)
/-- A call, or what makes memory: either may come first. -/
theorem AnyK.callop (i j : Nat) {fuel : Nat} {listed : Array Bool} {a : Go.Act} {w : World} (hr : Region.ready .any ops listed = [i, j]) {oi oj : Oper} (f : FuncId) (vs : Array Value) (v' : Value) (w2 : World) (hi : ops[i]? = some oi) (hj : ops[j]? = some oj)
    (hwi : Region.wanted oi (yielded ops a.tmps) = true) (hwj : Region.wanted oj (yielded ops a.tmps) = true) (he : (execOp a.eval oi).run P w = .ok (.enter f vs) w) (hej : (execOp a.eval oj).run P w = .ok (.value v') w2) (hb2 : Below b w0 w2)
    (hc : Calls P f vs w fun e w' => ∃ v, e = .returned v ∧ Below b w0 w' ∧ AnyK P ops Q b w0 fuel (listed.setIfInBounds i true) (a.put oi.dst v) w')
    (h2 : AnyK P ops Q b w0 fuel (listed.setIfInBounds j true) (a.put oj.dst v') w2) : AnyK P ops Q b w0 (fuel + 1) listed a w := by
  refine wpAnyH_ready hr (by simp) (AllReadyH.cons hi (fun K hK => ?_) (AllReadyH.cons hj (fun K hK => ?_) AllReadyH.nil))
  · rw [if_pos hwi]
    unfold Oper.wp
    rw [he, Oper.upon_enter]
    refine hc.mono ?_
    rintro e w' ⟨v, rfl, hb, h⟩
    exact hK.out _ _ hb fun _ => h
  · rw [if_pos hwj]
    unfold Oper.wp
    rw [hej, Oper.upon_value]
    exact hK.out _ _ hb2 fun _ => h2
end
section
variable {P : Program} {a : Go.Act} {o : Oper} {W : World}
theorem y_lookup {t : TypeId} {m x : Operand} {c : Bool} {mv xv r : Value} (ho : o.op = .lookup t m x c) (hm : a.eval m = mv) (hx : a.eval x = xv) (h : (Instr.lookup t mv xv c).run P W = .ok r W) : (execOp a.eval o).run P W = .ok (.value r) W := by
  subst hm hx
  simp only [execOp, ho]
  simp [h, Result.andThen]
theorem y_alloc {t : TypeId} {r : Value} {W' : World} (ho : o.op = .alloc t) (h : (Instr.alloc t true (.tuple #[])).run P W = .ok r W') : (execOp a.eval o).run P W = .ok (.value r) W' := by
  simp only [execOp, ho]
  simp [h, Result.andThen]
end
section
variable {P : Program} {ops : Array Oper} {Q : Exit → Go.Act → World → Prop} {S : World → Prop}
theorem held_three {i j k : Nat} {fuel : Nat} {listed : Array Bool} {a : Go.Act} {w : World} (hr : Region.ready .any ops listed = [i, j, k])
    (h : wpOp P ops Q i (fun a' w' => S w' ∧ wpAnyH P .any ops Q S fuel (listed.setIfInBounds i true) a' w') a w)
    (h' : wpOp P ops Q j (fun a' w' => S w' ∧ wpAnyH P .any ops Q S fuel (listed.setIfInBounds j true) a' w') a w)
    (h'' : wpOp P ops Q k (fun a' w' => S w' ∧ wpAnyH P .any ops Q S fuel (listed.setIfInBounds k true) a' w') a w) : wpAnyH P .any ops Q S (fuel + 1) listed a w :=
  wpAnyH_all hr (by simp) (fun l hl => by
    have e : l = i ∨ l = j ∨ l = k := by simpa using hl
    rcases e with e | e | e
    · subst e; exact h
    · subst e; exact h'
    · subst e; exact h'')
theorem held_call {i : Nat} {oi : Oper} {fuel : Nat} {listed : Array Bool} {a : Go.Act} {w : World} (f : FuncId) (vs : Array Value) (hi : ops[i]? = some oi)
    (hw : Region.wanted oi (yielded ops a.tmps) = true) (he : (execOp a.eval oi).run P w = .ok (.enter f vs) w)
    (hc : Calls P f vs w fun e w' => ∃ v, e = .returned v ∧ S w' ∧ wpAnyH P .any ops Q S fuel (listed.setIfInBounds i true) (a.put oi.dst v) w') :
    wpOp P ops Q i (fun a' w' => S w' ∧ wpAnyH P .any ops Q S fuel (listed.setIfInBounds i true) a' w') a w := by
  unfold wpOp
  rw [hi]
  simp only
  rw [if_pos hw]
  left
  unfold Oper.wp
  rw [he, Oper.upon_enter]
  refine hc.mono ?_
  rintro e w' ⟨v, rfl, h⟩
  exact h
end
end Go.Proofs.Ytbgnemephcbgeaa
