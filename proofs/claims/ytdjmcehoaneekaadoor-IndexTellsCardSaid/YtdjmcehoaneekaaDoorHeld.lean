/-
  A region that draws its order, step by step: what may come up alone, or one of two.
-/
import Derived.Test.YtdjmcehoaneekaaDoorBase
import Derived.OrdersHeld
import Derived.Deep.RegionHeld
namespace Go.Proofs.YtdjmcehoaneekaaDoor
open Go Go.RowKit
section
variable {P : Program} {ops : Array Oper} {Q : Exit → Go.Act → World → Prop} {S : World → Prop}
theorem held_start (S : World → Prop) {id : Nat} {a : Go.Act} {w : World} (hm : P.follows .mixedOrders = true) (h : wpAnyH P .any ops Q S ops.size (Array.replicate ops.size false) a w.drew) : (Code.region id ops true).wp P Q a w :=
  wp_region_held hm h
theorem held_take (i : Nat) (v : Value) {oi : Oper} {fuel : Nat} {listed : Array Bool} {a : Go.Act} {w : World} (hi : ops[i]? = some oi)
    (hs : Region.noSelect ops = true) (hf : Region.free .any ops listed i = true) (hr : (Region.ready .any ops listed).contains i = true)
    (hQ : ∀ c a w, Q (.panic c) (a.put oi.dst v) w → Q (.panic c) a w) (hw : Region.wanted oi (yielded ops a.tmps) = true)
    (hy : ∀ W, S W → (execOp a.eval oi).run P W = .ok (.value v) W) (hS : S w)
    (h : wpAnyH P .any ops Q S fuel (listed.setIfInBounds i true) (a.put oi.dst v) w) : wpAnyH P .any ops Q S (fuel + 1) listed a w :=
  wpAnyH_take hi hs hf hr hQ (.inl ⟨hw, hy⟩) hS h
theorem held_op {i : Nat} (v : Value) (w' : World) {oi : Oper} {fuel : Nat} {listed : Array Bool} {a : Go.Act} {w : World} (hi : ops[i]? = some oi) (hw : Region.wanted oi (yielded ops a.tmps) = true)
    (he : (execOp a.eval oi).run P w = .ok (.value v) w') (hS : S w') (h : wpAnyH P .any ops Q S fuel (listed.setIfInBounds i true) (a.put oi.dst v) w') :
    wpOp P ops Q i (fun a' w' => S w' ∧ wpAnyH P .any ops Q S fuel (listed.setIfInBounds i true) a' w') a w := by
  unfold wpOp
  rw [hi]
  simp only
  rw [if_pos hw]
  left
  unfold Oper.wp
  rw [he]
  exact ⟨hS, h⟩
theorem held_store {i : Nat} (w' : World) {oi : Oper} {fuel : Nat} {listed : Array Bool} {a : Go.Act} {w : World} (hi : ops[i]? = some oi) (hw : Region.wanted oi (yielded ops a.tmps) = true)
    (he : (execOp a.eval oi).run P w = .ok .skip w') (hS : S w') (h : wpAnyH P .any ops Q S fuel (listed.setIfInBounds i true) (a.put oi.dst undef) w') :
    wpOp P ops Q i (fun a' w' => S w' ∧ wpAnyH P .any ops Q S fuel (listed.setIfInBounds i true) a' w') a w := by
  unfold wpOp
  rw [hi]
  simp only
  rw [if_pos hw]
  left
  unfold Oper.wp
  rw [he]
  exact ⟨hS, h⟩
theorem held_one {i : Nat} {fuel : Nat} {listed : Array Bool} {a : Go.Act} {w : World} (hr : Region.ready .any ops listed = [i])
    (h : wpOp P ops Q i (fun a' w' => S w' ∧ wpAnyH P .any ops Q S fuel (listed.setIfInBounds i true) a' w') a w) : wpAnyH P .any ops Q S (fuel + 1) listed a w :=
  wpAnyH_all hr (by simp) (fun j hj => by have e : j = i := by simpa using hj
                                          subst e; exact h)
theorem held_two {i j : Nat} {fuel : Nat} {listed : Array Bool} {a : Go.Act} {w : World} (hr : Region.ready .any ops listed = [i, j])
    (h : wpOp P ops Q i (fun a' w' => S w' ∧ wpAnyH P .any ops Q S fuel (listed.setIfInBounds i true) a' w') a w)
    (h' : wpOp P ops Q j (fun a' w' => S w' ∧ wpAnyH P .any ops Q S fuel (listed.setIfInBounds j true) a' w') a w) : wpAnyH P .any ops Q S (fuel + 1) listed a w :=
  wpAnyH_all hr (by simp) (fun k hk => by
    have e : k = i ∨ k = j := by simpa using hk
    rcases e with e | e
    · subst e; exact h
    · subst e; exact h')
theorem held_done {listed : Array Bool} {a : Go.Act} {w : World} (fuel : Nat) (hr : Region.ready .any ops listed = []) (h : Q .normal a w) : wpAnyH P .any ops Q S fuel listed a w :=
  wpAnyH_done hr h fuel
end
section
variable {P : Program} {a : Go.Act} {o : Oper} {W : World}
theorem y_load {t : TypeId} {s : Operand} {sv r : Value} (ho : o.op = .load t s) (hs : a.eval s = sv) (h : (Instr.loadAt t sv).run P W = .ok r W) : (execOp a.eval o).run P W = .ok (.value r) W := by
  subst hs
  simp only [execOp, ho]
  simp [h, Result.andThen]
theorem y_store {t : TypeId} {s x : Operand} {sv xv : Value} {W' : World} (ho : o.op = .store t s x) (hs : a.eval s = sv) (hx : a.eval x = xv) (h : (Instr.storeAt t sv xv).run P W = .ok () W') : (execOp a.eval o).run P W = .ok .skip W' := by
  subst hs hx
  simp only [execOp, ho]
  simp [h, Result.andThen]
theorem y_append {st : TypeId} {s y : Operand} {sv yv r : Value} {W' : World} (ho : o.op = .call { callee := .builtin .append, args := #[s, y], argTypes := #[st, st] }) (hs : a.eval s = sv) (hy : a.eval y = yv)
    (h : (Builtin.append_ #[st, st] o.type #[sv, yv]).run P W = .ok r W') : (execOp a.eval o).run P W = .ok (.value r) W' := by
  subst hs hy
  simp [execOp, ho, resolve, invoke, builtin, h, Result.andThen]
end
end Go.Proofs.YtdjmcehoaneekaaDoor
