/-
  A region that draws its order: what it reads stays as it is, behind whatever calls come; so the reads may be taken as soon as they can be.
-/
import Derived.Test.YtdjmcehoaneekaaDoorHeld
import Derived.OrdersHeld
import Derived.Deep.RegionHeld
namespace Go.Proofs.YtdjmcehoaneekaaDoor
open Go Go.RowKit
section
variable {P : Program} {ops : Array Oper} {Q : Exit → Go.Act → World → Prop}

theorem held_mono {md : Region.Mode} {S S' : World → Prop} (hS : ∀ w, S' w → S w) : ∀ (fuel : Nat) (listed : Array Bool) (a : Go.Act) (w : World), wpAnyH P md ops Q S' fuel listed a w → wpAnyH P md ops Q S fuel listed a w
  | 0, _, _, _, h => h
  | fuel + 1, _, _, _, h => ⟨h.1, fun i hi => wpOp_mono (fun a' w' h' => ⟨hS w' h'.1, held_mono hS fuel _ a' w' h'.2⟩) (h.2 i hi)⟩

/-- Whatever order is picked from here on; what lies in w stays as it is. -/
def AnyB (P : Program) (ops : Array Oper) (Q : Exit → Go.Act → World → Prop) (fuel : Nat) (listed : Array Bool) (a : Go.Act) (w : World) : Prop :=
  wpAnyH P .any ops Q (fun W => Below w.heap.size w W) fuel listed a w

theorem AnyB.start {id : Nat} {a : Go.Act} {w : World} (hm : P.follows .mixedOrders = true) (h : AnyB P ops Q ops.size (Array.replicate ops.size false) a w.drew) : (Code.region id ops true).wp P Q a w :=
  wp_region_held hm h

/-- A read, taken as soon as it may come up. -/
theorem AnyB.take (i : Nat) (v : Value) {oi : Oper} {fuel : Nat} {listed : Array Bool} {a : Go.Act} {w : World} (hi : ops[i]? = some oi)
    (hs : Region.noSelect ops = true) (hf : Region.free .any ops listed i = true) (hr : (Region.ready .any ops listed).contains i = true)
    (hQ : ∀ c a w, Q (.panic c) (a.put oi.dst v) w → Q (.panic c) a w) (hw : Region.wanted oi (yielded ops a.tmps) = true)
    (hy : ∀ W, Below w.heap.size w W → (execOp a.eval oi).run P W = .ok (.value v) W)
    (h : AnyB P ops Q fuel (listed.setIfInBounds i true) (a.put oi.dst v) w) : AnyB P ops Q (fuel + 1) listed a w :=
  wpAnyH_take hi hs hf hr hQ (.inl ⟨hw, hy⟩) (Below.refl _ _) h

/-- What its guard keeps from being done. -/
theorem AnyB.skip (i : Nat) {oi : Oper} {fuel : Nat} {listed : Array Bool} {a : Go.Act} {w : World} (hi : ops[i]? = some oi)
    (hs : Region.noSelect ops = true) (hf : Region.free .any ops listed i = true) (hr : (Region.ready .any ops listed).contains i = true)
    (hQ : ∀ c a w, Q (.panic c) (a.put oi.dst undef) w → Q (.panic c) a w) (hw : Region.wanted oi (yielded ops a.tmps) = false)
    (h : AnyB P ops Q fuel (listed.setIfInBounds i true) (a.put oi.dst undef) w) : AnyB P ops Q (fuel + 1) listed a w :=
  wpAnyH_take hi hs hf hr hQ (.inr ⟨hw, rfl⟩) (Below.refl _ _) h

/-- A call that alone may come up. -/
theorem AnyB.call (i : Nat) {oi : Oper} {fuel : Nat} {listed : Array Bool} {a : Go.Act} {w : World} (f : FuncId) (vs : Array Value) (hr : Region.ready .any ops listed = [i]) (hi : ops[i]? = some oi)
    (hw : Region.wanted oi (yielded ops a.tmps) = true) (he : (execOp a.eval oi).run P w = .ok (.enter f vs) w)
    (hc : Calls P f vs w fun e w' => ∃ v, e = .returned v ∧ Below w.heap.size w w' ∧ AnyB P ops Q fuel (listed.setIfInBounds i true) (a.put oi.dst v) w') : AnyB P ops Q (fuel + 1) listed a w := by
  refine wpAnyH_ready hr (by simp) (AllReadyH.cons hi (fun K hK => ?_) AllReadyH.nil)
  rw [if_pos hw]
  unfold Oper.wp
  rw [he, Oper.upon_enter]
  refine hc.mono ?_
  rintro e w' ⟨v, rfl, hb, h⟩
  exact hK.out _ _ hb fun _ => held_mono (fun _ hW => hb.trans (hW.mono hb.size)) _ _ _ _ h

/-- What makes memory, where it alone may come up. -/
theorem AnyB.op (i : Nat) (v : Value) (w' : World) {oi : Oper} {fuel : Nat} {listed : Array Bool} {a : Go.Act} {w : World} (hr : Region.ready .any ops listed = [i]) (hi : ops[i]? = some oi)
    (hw : Region.wanted oi (yielded ops a.tmps) = true) (he : (execOp a.eval oi).run P w = .ok (.value v) w') (hb : Below w.heap.size w w') (h : AnyB P ops Q fuel (listed.setIfInBounds i true) (a.put oi.dst v) w') : AnyB P ops Q (fuel + 1) listed a w :=
  held_one hr (held_op v w' hi hw he hb (held_mono (fun _ hW => hb.trans (hW.mono hb.size)) _ _ _ _ h))
theorem AnyB.done {listed : Array Bool} {a : Go.Act} {w : World} (fuel : Nat) (hr : Region.ready .any ops listed = []) (h : Q .normal a w) : AnyB P ops Q fuel listed a w :=
  wpAnyH_done hr h fuel
end
section
variable {P : Program} {a : Go.Act} {o : Oper} {W : World}
/-- A comparison of what two slots hold. -/
theorem y_bin {op : BinOp} {s t : Operand} {ty ty' : TypeId} {x y r : Value} (ho : o.op = .binOp op ty s t ty') (hs : a.eval s = x) (ht : a.eval t = y)
    (hg : (eqGuard op ty s t x y).run P W = .ok () W) (hb : (binOp op ty x y).run P W = .ok r W) : (execOp a.eval o).run P W = .ok (.value r) W := by
  subst hs ht
  simp only [execOp, ho]
  simp [Sem.run_bind, hg, hb, Result.andThen]
theorem y_conv' {s : Operand} {ty ty' : TypeId} {x r : Value} {W' : World} (ho : o.op = .convert ty ty' s) (hs : a.eval s = x) (hc : (convert ty ty' x).run P W = .ok r W') : (execOp a.eval o).run P W = .ok (.value r) W' := by
  subst hs
  simp only [execOp, ho]
  simp [hc, Result.andThen]
/-- A conversion of what a slot holds. -/
theorem y_conv {s : Operand} {ty ty' : TypeId} {x r : Value} (ho : o.op = .convert ty ty' s) (hs : a.eval s = x) (hc : (convert ty ty' x).run P W = .ok r W) : (execOp a.eval o).run P W = .ok (.value r) W := by
  subst hs
  simp only [execOp, ho]
  simp [hc, Result.andThen]
end
end Go.Proofs.YtdjmcehoaneekaaDoor
