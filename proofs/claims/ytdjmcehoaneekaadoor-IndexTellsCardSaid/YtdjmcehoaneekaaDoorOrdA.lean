/-
  Pieces of lists, joined: appends of what a slice holds; steps of a region that draws its order.
-/
import Derived.Test.YtdjmcehoaneekaaDoorBase
import Derived.Test.YtdjmcehoaneekaaDoorFault
import Derived.Deep.QuietTactic
import Derived.BigQuiet
import Derived.IntWalk
import Derived.Shelf.Abstract
import Derived.Test.YtdjmcehoaneekaaDoorDNamed
import Derived.Test.YtdjmcehoaneekaaDoorLay
import Derived.LaidEql
import Derived.Stop.Asserts
import Derived.Test.YtdjmcehoaneekaaDoorTreeC
import Derived.Test.YtdjmcehoaneekaaDoorHeld
import Derived.Test.YtdjmcehoaneekaaDoorDSum
import Derived.Test.YtdjmcehoaneekaaDoorAnyB
import Derived.Laws.IdiomStrings
import Derived.Test.YtdjmcehoaneekaaDoorDRSum
import Derived.WideAt
import Derived.WideShapes
import Derived.Lib.SlBytesConst
import Derived.Test.YtdjmcehoaneekaaDoorSameO
import Derived.Test.YtdjmcehoaneekaaDoorTree
namespace Go.Proofs.YtdjmcehoaneekaaDoor
open Go Go.RowKit Go.Shelf
section
variable {α : Type} {st t : TypeId} {k bt : Nat} {f : α → List Value}
theorem RdK.take' {w : World} {g o n c : Nat} {l : List α} (h : RdK k f w (.slice (some ⟨g, o, none⟩) n c) l) (hn : n = l.length) (hn0 : 0 < n) (m : Nat) (hm : m ≤ n) :
    ∀ j u, ((l.take m).flatMap f)[j]? = some u → (∀ x, (f x).length = k) → 0 < k → w.cell? ⟨g, o + j, none⟩ = some u := by
  intro j u hj hf hk
  rcases h with ⟨_, rfl⟩ | ⟨g', o', c', e, hc, hg, hcell⟩
  · simp at hn; omega
  cases e
  have hlt : j < (l.take m).length * k := by
    rw [← flat_length hf]
    exact (List.getElem?_eq_some_iff.1 hj).1
  have hq : j / k < (l.take m).length := Nat.div_lt_of_lt_mul (by rw [Nat.mul_comm]; exact hlt)
  have hr : j % k < k := Nat.mod_lt _ hk
  have hj2 : j / k * k + j % k = j := by rw [Nat.mul_comm]; exact Nat.div_add_mod j k
  have hx : (l.take m)[j / k]? = some (l.take m)[j / k] := List.getElem?_eq_getElem hq
  have h1 := flat_get hf (l.take m) (j / k) _ hx (j % k) hr
  rw [hj2, hj] at h1
  have hq2 : j / k < l.length := by rw [List.length_take] at hq; omega
  have hx2 : l[j / k]? = some (l.take m)[j / k] := by rw [List.getElem_take]; exact List.getElem?_eq_getElem hq2
  have h2 := hcell (j / k) hq2 _ hx2 (j % k) hr
  rw [Nat.add_assoc, hj2] at h2
  rw [h2, ← h1]
theorem RdK.drop' {w : World} {g o n c : Nat} {l : List α} (h : RdK k f w (.slice (some ⟨g, o, none⟩) n c) l) (hn : n = l.length) (hn0 : 0 < n) (m : Nat) (hm : m ≤ n) :
    ∀ j u, ((l.drop m).flatMap f)[j]? = some u → (∀ x, (f x).length = k) → 0 < k → w.cell? ⟨g, o + m * k + j, none⟩ = some u := by
  intro j u hj hf hk
  rcases h with ⟨_, rfl⟩ | ⟨g', o', c', e, hc, hg, hcell⟩
  · simp at hn; omega
  cases e
  have hlt : j < (l.drop m).length * k := by
    rw [← flat_length hf]
    exact (List.getElem?_eq_some_iff.1 hj).1
  have hq : j / k < (l.drop m).length := Nat.div_lt_of_lt_mul (by rw [Nat.mul_comm]; exact hlt)
  have hr : j % k < k := Nat.mod_lt _ hk
  have hj2 : j / k * k + j % k = j := by rw [Nat.mul_comm]; exact Nat.div_add_mod j k
  have hx : (l.drop m)[j / k]? = some (l.drop m)[j / k] := List.getElem?_eq_getElem hq
  have h1 := flat_get hf (l.drop m) (j / k) _ hx (j % k) hr
  rw [hj2, hj] at h1
  have hq2 : m + j / k < l.length := by rw [List.length_drop] at hq; omega
  have hx2 : l[m + j / k]? = some (l.drop m)[j / k] := by rw [List.getElem_drop]; exact List.getElem?_eq_getElem hq2
  have h2 := hcell (m + j / k) hq2 _ hx2 (j % k) hr
  have e : o + (m + j / k) * k + j % k = o + m * k + j := by rw [Nat.add_mul]; omega
  rw [e] at h2
  rw [h2, ← h1]

/-- What a slice holds, behind. -/
theorem run_appK (E : ElK st t k bt f) {w : World} {base : Nat} {v : Value} {l m : List α} (h : OwK t k f w base v l) (a : Addr) (n c : Nat) (hn : n = m.length) (hs : ∀ j u, (m.flatMap f)[j]? = some u → w.cell? (a.add j) = some u) (hl : l.length + m.length ≤ 1000000) (hbt : bt ≤ 1000) (hb : base ≤ w.heap.size) (ty : TypeId) :
    ∃ v' w', (Builtin.append_ #[st, st] ty #[v, .slice (some a) n c]).run Tryd.prog w = .ok v' w' ∧ OwK t k f w' base v' (l ++ m) ∧ Below base w w' ∧ w.grownBy w' v.ownBlock := by
  subst hn
  obtain ⟨z, hz, hzs⟩ := E.info
  obtain ⟨i0, hi, hz0, hz1, hz2⟩ := info_parts hz
  obtain ⟨v', w', h1, h2, h3, _⟩ := run_append_own (P := Tryd.prog) w base st ty t i0 z k bt E.ut hi hz0 hz1 hz2 hzs E.pos v l.length (l.flatMap f) h a m.length c (m.flatMap f) (flat_length E.len m) hs
    (fun u hu => by obtain ⟨x, _, hx⟩ := List.mem_flatMap.1 hu; exact E.one x u hx) (by unfold maxLen; omega) (by
      have : (l.length + m.length) * bt ≤ 1000000 * 1000 := Nat.mul_le_mul hl hbt
      omega) hb
  refine ⟨v', w', h1, ?_, ⟨h3.os, h3.tape, h3.output, h3.size, fun j hj => h3.block j (by omega) ?_⟩, h3⟩
  · unfold OwK; rw [List.length_append, List.flatMap_append]; exact h2
  · intro e
    have := (h.lt j e.symm).1
    omega
theorem OwK.new0 (w : World) (base : Nat) (hb : base ≤ w.heap.size) : OwK t k f (w.alloc (.cells #[] t)) base (.slice (some ⟨w.heap.size, 0, none⟩) 0 0) [] :=
  ⟨by simp, .inr ⟨w.heap.size, 0, #[], rfl, hb, heap_alloc_new w _, by simp, by simp, by simp, by simp⟩⟩
end
section
variable {P : Program} {ops : Array Oper} {Q : Exit → Go.Act → World → Prop}
/-- One of two may come up. -/
theorem AnyB.two (i j : Nat) {fuel : Nat} {listed : Array Bool} {a : Go.Act} {w : World} (hr : Region.ready .any ops listed = [i, j]) {oi oj : Oper} (v v' : Value) (w1 w2 : World) (hi : ops[i]? = some oi) (hj : ops[j]? = some oj)
    (hwi : Region.wanted oi (yielded ops a.tmps) = true) (hwj : Region.wanted oj (yielded ops a.tmps) = true)
    (hei : (execOp a.eval oi).run P w = .ok (.value v) w1) (hej : (execOp a.eval oj).run P w = .ok (.value v') w2) (hb1 : Below w.heap.size w w1) (hb2 : Below w.heap.size w w2)
    (h1 : AnyB P ops Q fuel (listed.setIfInBounds i true) (a.put oi.dst v) w1) (h2 : AnyB P ops Q fuel (listed.setIfInBounds j true) (a.put oj.dst v') w2) : AnyB P ops Q (fuel + 1) listed a w :=
  held_two hr (held_op v w1 hi hwi hei hb1 (held_mono (fun _ hW => hb1.trans (hW.mono hb1.size)) _ _ _ _ h1)) (held_op v' w2 hj hwj hej hb2 (held_mono (fun _ hW => hb2.trans (hW.mono hb2.size)) _ _ _ _ h2))
end
section
variable {P : Program} {ops : Array Oper} {Q : Exit → Go.Act → World → Prop} {b : Nat} {w0 : World}
/-- Whatever order is picked from here on; what lies in w0 below b stays as it is. -/
def AnyK (P : Program) (ops : Array Oper) (Q : Exit → Go.Act → World → Prop) (b : Nat) (w0 : World) (fuel : Nat) (listed : Array Bool) (a : Go.Act) (w : World) : Prop :=
  wpAnyH P .any ops Q (fun W => Below b w0 W) fuel listed a w
theorem AnyK.start (b : Nat) (w0 : World) {id : Nat} {a : Go.Act} {w : World} (hm : P.follows .mixedOrders = true) (h : AnyK P ops Q b w0 ops.size (Array.replicate ops.size false) a w.drew) : (Code.region id ops true).wp P Q a w :=
  held_start _ hm h
theorem AnyK.take (i : Nat) (v : Value) {oi : Oper} {fuel : Nat} {listed : Array Bool} {a : Go.Act} {w : World} (hS : Below b w0 w) (hi : ops[i]? = some oi)
    (hs : Region.noSelect ops = true) (hf : Region.free .any ops listed i = true) (hr : (Region.ready .any ops listed).contains i = true)
    (hQ : ∀ c a w, Q (.panic c) (a.put oi.dst v) w → Q (.panic c) a w) (hw : Region.wanted oi (yielded ops a.tmps) = true)
    (hy : ∀ W, Below b w0 W → (execOp a.eval oi).run P W = .ok (.value v) W)
    (h : AnyK P ops Q b w0 fuel (listed.setIfInBounds i true) (a.put oi.dst v) w) : AnyK P ops Q b w0 (fuel + 1) listed a w :=
  held_take i v hi hs hf hr hQ hw hy hS h
theorem AnyK.call (i : Nat) {oi : Oper} {fuel : Nat} {listed : Array Bool} {a : Go.Act} {w : World} (f : FuncId) (vs : Array Value) (hr : Region.ready .any ops listed = [i]) (hi : ops[i]? = some oi)
    (hw : Region.wanted oi (yielded ops a.tmps) = true) (he : (execOp a.eval oi).run P w = .ok (.enter f vs) w)
    (hc : Calls P f vs w fun e w' => ∃ v, e = .returned v ∧ Below b w0 w' ∧ AnyK P ops Q b w0 fuel (listed.setIfInBounds i true) (a.put oi.dst v) w') : AnyK P ops Q b w0 (fuel + 1) listed a w := by
  refine wpAnyH_ready hr (by simp) (AllReadyH.cons hi (fun K hK => ?_) AllReadyH.nil)
  rw [if_pos hw]
  unfold Oper.wp
  rw [he, Oper.upon_enter]
  refine hc.mono ?_
  rintro e w' ⟨v, rfl, hb, h⟩
  exact hK.out _ _ hb fun _ => h
theorem AnyK.op (i : Nat) (v : Value) (w' : World) {oi : Oper} {fuel : Nat} {listed : Array Bool} {a : Go.Act} {w : World} (hr : Region.ready .any ops listed = [i]) (hi : ops[i]? = some oi)
    (hw : Region.wanted oi (yielded ops a.tmps) = true) (he : (execOp a.eval oi).run P w = .ok (.value v) w') (hb : Below b w0 w') (h : AnyK P ops Q b w0 fuel (listed.setIfInBounds i true) (a.put oi.dst v) w') : AnyK P ops Q b w0 (fuel + 1) listed a w :=
  held_one hr (held_op v w' hi hw he hb h)
theorem AnyK.two (i j : Nat) {fuel : Nat} {listed : Array Bool} {a : Go.Act} {w : World} (hr : Region.ready .any ops listed = [i, j]) {oi oj : Oper} (v v' : Value) (w1 w2 : World) (hi : ops[i]? = some oi) (hj : ops[j]? = some oj)
    (hwi : Region.wanted oi (yielded ops a.tmps) = true) (hwj : Region.wanted oj (yielded ops a.tmps) = true)
    (hei : (execOp a.eval oi).run P w = .ok (.value v) w1) (hej : (execOp a.eval oj).run P w = .ok (.value v') w2) (hb1 : Below b w0 w1) (hb2 : Below b w0 w2)
    (h1 : AnyK P ops Q b w0 fuel (listed.setIfInBounds i true) (a.put oi.dst v) w1) (h2 : AnyK P ops Q b w0 fuel (listed.setIfInBounds j true) (a.put oj.dst v') w2) : AnyK P ops Q b w0 (fuel + 1) listed a w :=
  held_two hr (held_op v w1 hi hwi hei hb1 h1) (held_op v' w2 hj hwj hej hb2 h2)
theorem AnyK.done {listed : Array Bool} {a : Go.Act} {w : World} (fuel : Nat) (hr : Region.ready .any ops listed = []) (h : Q .normal a w) : AnyK P ops Q b w0 fuel listed a w :=
  held_done fuel hr h
end
section
variable {P : Program} {a : Go.Act} {o : Oper} {W : World}
theorem y_slice {t : TypeId} {x : Operand} {lo hi mx : Option Operand} {xv r : Value} {lv hv mv : Option Value} (ho : o.op = .slice t x lo hi mx) (hx : a.eval x = xv) (hl : lo.map a.eval = lv) (hh : hi.map a.eval = hv) (hm : mx.map a.eval = mv)
    (hs : (Instr.sliceAt t xv lv hv mv).run P W = .ok r W) : (execOp a.eval o).run P W = .ok (.value r) W := by
  subst hx hl hh hm
  simp only [execOp, ho]
  simp [hs, Result.andThen]
theorem y_index {t : TypeId} {s i : Operand} {sv iv r : Value} (ho : o.op = .indexAddr t s i) (hs : a.eval s = sv) (hi : a.eval i = iv) (h : (Instr.indexAt t sv iv).run P W = .ok r W) : (execOp a.eval o).run P W = .ok (.value r) W := by
  subst hs hi
  simp only [execOp, ho]
  simp [h, Result.andThen]
theorem y_field {t : TypeId} {s : Operand} {n : Nat} {sv r : Value} (ho : o.op = .fieldAddr t s n) (hs : a.eval s = sv) (h : (Instr.fieldAt t sv n).run P W = .ok r W) : (execOp a.eval o).run P W = .ok (.value r) W := by
  subst hs
  simp only [execOp, ho]
  simp [h, Result.andThen]
end
end Go.Proofs.YtdjmcehoaneekaaDoor
