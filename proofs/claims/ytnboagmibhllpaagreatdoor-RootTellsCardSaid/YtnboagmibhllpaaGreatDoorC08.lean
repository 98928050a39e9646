/-
  Pieces of lists, joined: appends of what a slice holds; steps of a region that draws its order.
  One more behind a slice of one's own; slices of refs and texts that own their memory.
  Find: the object of the first ref of a name.
  Tips: all objects that refs stand for, rising, each once.
  arePacks: may a list be all packs of someone?
-/
import Derived.Laws.IdiomStrings
import Derived.WideAt
import Derived.WideShapes
import Derived.Lib.SlBytesConst
import Derived.Deep.QuietTactic
import Derived.BigQuiet
import Derived.IntWalk
import Derived.Test.YtnboagmibhllpaaGreatDoorC02
import Derived.Test.YtnboagmibhllpaaGreatDoorC03
import Derived.Test.YtnboagmibhllpaaGreatDoorC05
import Derived.Test.YtnboagmibhllpaaGreatDoorC01
import Derived.Test.YtnboagmibhllpaaGreatDoorC07
import Derived.Test.YtnboagmibhllpaaGreatDoorC06
import Derived.Sort.OwnSorted
import Derived.Test.YtnboagmibhllpaaGreatDoorRSort
import Derived.Laws.MakeOwn
import Derived.Laws.CopyRow
import Derived.Laws.IdiomCopy

namespace Go.Proofs.YtnboagmibhllpaaGreatDoor
open Go Go.RowKit Go.Shelf
section
variable {α : Type} {st t : TypeId} {k bt : Nat} {f : α → List Value}
theorem RdK.take' {w : World} {g o n c : Nat} {l : List α} (h : RdK k f w (.slice (some ⟨g, o, none⟩) n c) l) (hn : n = l.length) (hn0 : 0 < n) (m : Nat) (hm : m ≤ n) :
    ∀ j u, ((l.take m).flatMap f)[j]? = some u → (∀ x, (f x).length = k) → 0 < k → w.cell? ⟨g, o + j, none⟩ = some u := by
  intro j u hj hf hk
  rcases h with ⟨_, rfl⟩ | ⟨g', o', c', e, hc, hg, hcell⟩
  · simp at hn; omega
  cases e
  have hlt : j < (l.take m).length * k := by
    rw [← flat_length hf]
    exact (List.getElem?_eq_some_iff.1 hj).1
  have hq : j / k < (l.take m).length := Nat.div_lt_of_lt_mul (by rw [Nat.mul_comm]; exact hlt)
  have hr : j % k < k := Nat.mod_lt _ hk
  have hj2 : j / k * k + j % k = j := by rw [Nat.mul_comm]; exact Nat.div_add_mod j k
  have hx : (l.take m)[j / k]? = some (l.take m)[j / k] := List.getElem?_eq_getElem hq
  have h1 := flat_get hf (l.take m) (j / k) _ hx (j % k) hr
  rw [hj2, hj] at h1
  have hq2 : j / k < l.length := by rw [List.length_take] at hq; omega
  have hx2 : l[j / k]? = some (l.take m)[j / k] := by rw [List.getElem_take]; exact List.getElem?_eq_getElem hq2
  have h2 := hcell (j / k) hq2 _ hx2 (j % k) hr
  rw [Nat.add_assoc, hj2] at h2
  rw [h2, ← h1]
theorem RdK.drop' {w : World} {g o n c : Nat} {l : List α} (h : RdK k f w (.slice (some ⟨g, o, none⟩) n c) l) (hn : n = l.length) (hn0 : 0 < n) (m : Nat) (hm : m ≤ n) :
    ∀ j u, ((l.drop m).flatMap f)[j]? = some u → (∀ x, (f x).length = k) → 0 < k → w.cell? ⟨g, o + m * k + j, none⟩ = some u := by
  intro j u hj hf hk
  rcases h with ⟨_, rfl⟩ | ⟨g', o', c', e, hc, hg, hcell⟩
  · simp at hn; omega
  cases e
  have hlt : j < (l.drop m).length * k := by
    rw [← flat_length hf]
    exact (List.getElem?_eq_some_iff.1 hj).1
  have hq : j / k < (l.drop m).length := Nat.div_lt_of_lt_mul (by rw [Nat.mul_comm]; exact hlt)
  have hr : j % k < k := Nat.mod_lt _ hk
  have hj2 : j / k * k + j % k = j := by rw [Nat.mul_comm]; exact Nat.div_add_mod j k
  have hx : (l.drop m)[j / k]? = some (l.drop m)[j / k] := List.getElem?_eq_getElem hq
  have h1 := flat_get hf (l.drop m) (j / k) _ hx (j % k) hr
  rw [hj2, hj] at h1
  have hq2 : m + j / k < l.length := by rw [List.length_drop] at hq; omega
  have hx2 : l[m + j / k]? = some (l.drop m)[j / k] := by rw [List.getElem_drop]; exact List.getElem?_eq_getElem hq2
  have h2 := hcell (m + j / k) hq2 _ hx2 (j % k) hr
  have e : o + (m + j / k) * k + j % k = o + m * k + j := by rw [Nat.add_mul]; omega
  rw [e] at h2
  rw [h2, ← h1]

/-- What a slice holds, behind. -/
theorem run_appK (E : ElK st t k bt f) {w : World} {base : Nat} {v : Value} {l m : List α} (h : OwK t k f w base v l) (a : Addr) (n c : Nat) (hn : n = m.length) (hs : ∀ j u, (m.flatMap f)[j]? = some u → w.cell? (a.add j) = some u) (hl : l.length + m.length ≤ 1000000) (hbt : bt ≤ 1000) (hb : base ≤ w.heap.size) (ty : TypeId) :
    ∃ v' w', (Builtin.append_ #[st, st] ty #[v, .slice (some a) n c]).run Tryz.prog w = .ok v' w' ∧ OwK t k f w' base v' (l ++ m) ∧ Below base w w' ∧ w.grownBy w' v.ownBlock := by
  subst hn
  obtain ⟨z, hz, hzs⟩ := E.info
  obtain ⟨i0, hi, hz0, hz1, hz2⟩ := info_parts hz
  obtain ⟨v', w', h1, h2, h3, _⟩ := run_append_own (P := Tryz.prog) w base st ty t i0 z k bt E.ut hi hz0 hz1 hz2 hzs E.pos v l.length (l.flatMap f) h a m.length c (m.flatMap f) (flat_length E.len m) hs
    (fun u hu => by obtain ⟨x, _, hx⟩ := List.mem_flatMap.1 hu; exact E.one x u hx) (by unfold maxLen; omega) (by
      have : (l.length + m.length) * bt ≤ 1000000 * 1000 := Nat.mul_le_mul hl hbt
      omega) hb
  refine ⟨v', w', h1, ?_, ⟨h3.os, h3.tape, h3.output, h3.size, fun j hj => h3.block j (by omega) ?_⟩, h3⟩
  · unfold OwK; rw [List.length_append, List.flatMap_append]; exact h2
  · intro e
    have := (h.lt j e.symm).1
    omega
theorem OwK.new0 (w : World) (base : Nat) (hb : base ≤ w.heap.size) : OwK t k f (w.alloc (.cells #[] t)) base (.slice (some ⟨w.heap.size, 0, none⟩) 0 0) [] :=
  ⟨by simp, .inr ⟨w.heap.size, 0, #[], rfl, hb, heap_alloc_new w _, by simp, by simp, by simp, by simp⟩⟩
end
section
variable {P : Program} {ops : Array Oper} {Q : Exit → Go.Act → World → Prop}
/-- One of two may come up. -/
theorem AnyB.two (i j : Nat) {fuel : Nat} {listed : Array Bool} {a : Go.Act} {w : World} (hr : Region.ready .any ops listed = [i, j]) {oi oj : Oper} (v v' : Value) (w1 w2 : World) (hi : ops[i]? = some oi) (hj : ops[j]? = some oj)
    (hwi : Region.wanted oi (yielded ops a.tmps) = true) (hwj : Region.wanted oj (yielded ops a.tmps) = true)
    (hei : (execOp a.eval oi).run P w = .ok (.value v) w1) (hej : (execOp a.eval oj).run P w = .ok (.value v') w2) (hb1 : Below w.heap.size w w1) (hb2 : Below w.heap.size w w2)
    (h1 : AnyB P ops Q fuel (listed.setIfInBounds i true) (a.put oi.dst v) w1) (h2 : AnyB P ops Q fuel (listed.setIfInBounds j true) (a.put oj.dst v') w2) : AnyB P ops Q (fuel + 1) listed a w :=
  held_two hr (held_op v w1 hi hwi hei hb1 (held_mono (fun _ hW => hb1.trans (hW.mono hb1.size)) _ _ _ _ h1)) (held_op v' w2 hj hwj hej hb2 (held_mono (fun _ hW => hb2.trans (hW.mono hb2.size)) _ _ _ _ h2))
end
section
variable {P : Program} {ops : Array Oper} {Q : Exit → Go.Act → World → Prop} {b : Nat} {w0 : World}
/-- Whatever order is picked from here on; what lies in w0 below b stays as it is. -/
def AnyK (P : Program) (ops : Array Oper) (Q : Exit → Go.Act → World → Prop) (b : Nat) (w0 : World) (fuel : Nat) (listed : Array Bool) (a : Go.Act) (w : World) : Prop :=
  wpAnyH P .any ops Q (fun W => Below b w0 W) fuel listed a w
theorem AnyK.start (b : Nat) (w0 : World) {id : Nat} {a : Go.Act} {w : World} (hm : P.follows .mixedOrders = true) (h : AnyK P ops Q b w0 ops.size (Array.replicate ops.size false) a w.drew) : (Code.region id ops true).wp P Q a w :=
  held_start _ hm h
theorem AnyK.take (i : Nat) (v : Value) {oi : Oper} {fuel : Nat} {listed : Array Bool} {a : Go.Act} {w : World} (hS : Below b w0 w) (hi : ops[i]? = some oi)
    (hs : Region.noSelect ops = true) (hf : Region.free .any ops listed i = true) (hr : (Region.ready .any ops listed).contains i = true)
    (hQ : ∀ c a w, Q (.panic c) (a.put oi.dst v) w → Q (.panic c) a w) (hw : Region.wanted oi (yielded ops a.tmps) = true)
    (hy : ∀ W, Below b w0 W → (execOp a.eval oi).run P W = .ok (.value v) W)
    (h : AnyK P ops Q b w0 fuel (listed.setIfInBounds i true) (a.put oi.dst v) w) : AnyK P ops Q b w0 (fuel + 1) listed a w :=
  held_take i v hi hs hf hr hQ hw hy hS h
theorem AnyK.call (i : Nat) {oi : Oper} {fuel : Nat} {listed : Array Bool} {a : Go.Act} {w : World} (f : FuncId) (vs : Array Value) (hr : Region.ready .any ops listed = [i]) (hi : ops[i]? = some oi)
    (hw : Region.wanted oi (yielded ops a.tmps) = true) (he : (execOp a.eval oi).run P w = .ok (.enter f vs) w)
    (hc : Calls P f vs w fun e w' => ∃ v, e = .returned v ∧ Below b w0 w' ∧ AnyK P ops Q b w0 fuel (listed.setIfInBounds i true) (a.put oi.dst v) w') : AnyK P ops Q b w0 (fuel + 1) listed a w := by
  refine wpAnyH_ready hr (by simp) (AllReadyH.cons hi (fun K hK => ?_) AllReadyH.nil)
  rw [if_pos hw]
  unfold Oper.wp
  rw [he, Oper.upon_enter]
  refine hc.mono ?_
  rintro e w' ⟨v, rfl, hb, h⟩
  exact hK.out _ _ hb fun _ => h
theorem AnyK.op (i : Nat) (v : Value) (w' : World) {oi : Oper} {fuel : Nat} {listed : Array Bool} {a : Go.Act} {w : World} (hr : Region.ready .any ops listed = [i]) (hi : ops[i]? = some oi)
    (hw : Region.wanted oi (yielded ops a.tmps) = true) (he : (execOp a.eval oi).run P w = .ok (.value v) w') (hb : Below b w0 w') (h : AnyK P ops Q b w0 fuel (listed.setIfInBounds i true) (a.put oi.dst v) w') : AnyK P ops Q b w0 (fuel + 1) listed a w :=
  held_one hr (held_op v w' hi hw he hb h)
theorem AnyK.two (i j : Nat) {fuel : Nat} {listed : Array Bool} {a : Go.Act} {w : World} (hr : Region.ready .any ops listed = [i, j]) {oi oj : Oper} (v v' : Value) (w1 w2 : World) (hi : ops[i]? = some oi) (hj : ops[j]? = some oj)
    (hwi : Region.wanted oi (yielded ops a.tmps) = true) (hwj : Region.wanted oj (yielded ops a.tmps) = true)
    (hei : (execOp a.eval oi).run P w = .ok (.value v) w1) (hej : (execOp a.eval oj).run P w = .ok (.value v') w2) (hb1 : Below b w0 w1) (hb2 : Below b w0 w2)
    (h1 : AnyK P ops Q b w0 fuel (listed.setIfInBounds i true) (a.put oi.dst v) w1) (h2 : AnyK P ops Q b w0 fuel (listed.setIfInBounds j true) (a.put oj.dst v') w2) : AnyK P ops Q b w0 (fuel + 1) listed a w :=
  held_two hr (held_op v w1 hi hwi hei hb1 h1) (held_op v' w2 hj hwj hej hb2 h2)
theorem AnyK.done {listed : Array Bool} {a : Go.Act} {w : World} (fuel : Nat) (hr : Region.ready .any ops listed = []) (h : Q .normal a w) : AnyK P ops Q b w0 fuel listed a w :=
  held_done fuel hr h
end
section
variable {P : Program} {a : Go.Act} {o : Oper} {W : World}
theorem y_slice {t : TypeId} {x : Operand} {lo hi mx : Option Operand} {xv r : Value} {lv hv mv : Option Value} (ho : o.op = .slice t x lo hi mx) (hx : a.eval x = xv) (hl : lo.map a.eval = lv) (hh : hi.map a.eval = hv) (hm : mx.map a.eval = mv)
    (hs : (Instr.sliceAt t xv lv hv mv).run P W = .ok r W) : (execOp a.eval o).run P W = .ok (.value r) W := by
  subst hx hl hh hm
  simp only [execOp, ho]
  simp [hs, Result.andThen]
theorem y_index {t : TypeId} {s i : Operand} {sv iv r : Value} (ho : o.op = .indexAddr t s i) (hs : a.eval s = sv) (hi : a.eval i = iv) (h : (Instr.indexAt t sv iv).run P W = .ok r W) : (execOp a.eval o).run P W = .ok (.value r) W := by
  subst hs hi
  simp only [execOp, ho]
  simp [h, Result.andThen]
theorem y_field {t : TypeId} {s : Operand} {n : Nat} {sv r : Value} (ho : o.op = .fieldAddr t s n) (hs : a.eval s = sv) (h : (Instr.fieldAt t sv n).run P W = .ok r W) : (execOp a.eval o).run P W = .ok (.value r) W := by
  subst hs
  simp only [execOp, ho]
  simp [h, Result.andThen]
end
end Go.Proofs.YtnboagmibhllpaaGreatDoor


namespace Go.Proofs.YtnboagmibhllpaaGreatDoor.Rf
open Go.Proofs.YtnboagmibhllpaaGreatDoor
open Go Go.RowKit
section
variable {α : Type} {st t : TypeId} {k bt : Nat} {f : α → List Value}
theorem wpList_push (E : ElK st t k bt f) {ops : Array Oper} {rest : List Oper} {o : Oper} {a : Go.Act} {w : World} {Q : Exit → Go.Act → World → Prop} (hgd : o.guard = none) (s y : Operand)
    (ho : o.op = .call { callee := .builtin .append, args := #[s, y], argTypes := #[st, st] }) (base : Nat) (v : Value) (l : List α) (x : α) (cs : Array Value) (hcs : cs = (f x).toArray) (hs : a.eval s = v) (hy : a.eval y = .slice (some ⟨w.heap.size, 0, none⟩) 1 1)
    (h : OwK t k f w base v l) (hl : l.length < 1000000) (hbt : bt ≤ 1000) (hb : base ≤ w.heap.size)
    (kk : ∀ v' w', OwK t k f w' base v' (l ++ [x]) → Below base w w' → (w.alloc (.cells cs t)).grownBy w' v.ownBlock → wpList Tryz.prog ops Q rest (a.put o.dst v') w') : wpList Tryz.prog ops Q (o :: rest) a (w.alloc (.cells cs t)) := by
  subst hcs
  have hlen := E.len x
  obtain ⟨v', w', h1, h2, h3, h4⟩ := run_appK E (m := [x]) (h.below (below_new w (.cells (f x).toArray t)) (Nat.le_refl _)) ⟨w.heap.size, 0, none⟩ 1 1 rfl (fun j u hj => by
      have e : (f x)[j]? = some u := by simpa using hj
      rw [Addr.add_lit, Nat.zero_add, cell_of_row _ _ j _ _ _ (heap_alloc_new w _)]
      simpa using e) (by simp; omega) hbt (Nat.le_trans hb (below_new w (.cells (f x).toArray t)).size) o.type
  refine wpList_plain hgd fun K hK => ?_
  unfold Oper.wp
  simp [execOp, ho, resolve, invoke, builtin, hs, hy, h1, Result.andThen]
  exact hK _ _ (kk v' w' h2 ((((below_new w (.cells (f x).toArray t)).mono hb)).trans h3) h4)
end
abbrev OwR (w : World) (base : Nat) (v : Value) (l : List Ref) : Prop := OwK 75 2 refC w base v l
abbrev OwS (w : World) (base : Nat) (v : Value) (l : List Bs) : Prop := OwK 9 1 strC w base v l
theorem OwK.shape {α : Type} {t : TypeId} {k : Nat} {f : α → List Value} {w : World} {base : Nat} {v : Value} {l : List α} (h : OwK t k f w base v l) : ∃ A n c, v = .slice A n c ∧ n = l.length := by
  obtain ⟨A, c, e⟩ := own_slice h
  exact ⟨A, _, c, e, rfl⟩
end Go.Proofs.YtnboagmibhllpaaGreatDoor.Rf


namespace Go.Proofs.YtnboagmibhllpaaGreatDoor.Rf
open Go.Proofs.YtnboagmibhllpaaGreatDoor
open Go Go.RowKit
theorem below_al (w : World) (o : Obj) : Below w.heap.size w (w.alloc o) := (Below.refl _ _).alloc (Nat.le_refl _) o
theorem cell_al {w : World} {p : Addr} {u : Value} (h : w.cell? p = some u) (o : Obj) : (w.alloc o).cell? p = some u := by
  have hlt := World.block_lt_of_cell? _ _ h
  exact ((below_al w o).cell (p := p) hlt).trans h
end Go.Proofs.YtnboagmibhllpaaGreatDoor.Rf


namespace Go.Proofs.YtnboagmibhllpaaGreatDoor.Rf
open Go.Proofs.YtnboagmibhllpaaGreatDoor
open Go Go.RowKit Go.Sort
theorem compact_rises {zs : List Bs} (h : zs.Pairwise fun a b => a ≤ b) : Rising (Lib.compact zs) ∧ ∀ x, x ∈ Lib.compact zs ↔ x ∈ zs := by
  have hle : ∀ i j, i < j → j < zs.length → zs.toArray[i]! ≤ zs.toArray[j]! := fun i j hij hj => by
    rw [getElem!_pos _ i (by simp; omega), getElem!_pos _ j (by simpa using hj)]
    exact List.pairwise_iff_getElem.1 h i j (by omega) hj hij
  have key : ∀ m, m ≤ zs.length → Rising (Lib.compactUpTo zs.toArray m) ∧ ∀ x, x ∈ Lib.compactUpTo zs.toArray m ↔ ∃ j, j < m ∧ zs.toArray[j]! = x := by
    intro m
    induction m with
    | zero => intro _; exact ⟨List.Pairwise.nil, fun x => by simp [Lib.compactUpTo]⟩
    | succ m ih =>
      intro hm
      obtain ⟨h1, h2⟩ := ih (by omega)
      rw [Lib.compactUpTo_succ]
      cases hk : Lib.keeps zs.toArray m with
      | true =>
        rw [if_pos rfl]
        unfold Lib.keeps at hk
        have hk := of_decide_eq_true hk
        refine ⟨List.pairwise_append.2 ⟨h1, List.pairwise_singleton _ _, fun a ha b hb => ?_⟩, fun x => ?_⟩
        · rw [List.mem_singleton.1 hb]
          obtain ⟨j, hj, rfl⟩ := (h2 a).1 ha
          rcases hk with hk | hk
          · omega
          · refine lt_of_le_ne (hle j m hj (by omega)) fun e => hk ?_
            rcases Nat.lt_or_ge j (m - 1) with hlt | hge
            · have a1 := hle j (m - 1) hlt (by omega)
              have a2 := hle (m - 1) m (by omega) (by omega)
              rw [e] at a1
              exact List.le_antisymm a1 a2
            · have e2 : j = m - 1 := by omega
              rw [← e2]; exact e.symm
        · rw [List.mem_append, List.mem_singleton, h2]
          constructor
          · rintro (⟨j, hj, e⟩ | e)
            · exact ⟨j, by omega, e⟩
            · exact ⟨m, by omega, e.symm⟩
          · rintro ⟨j, hj, e⟩
            rcases Nat.lt_or_ge j m with hlt | hge
            · exact .inl ⟨j, hlt, e⟩
            · have e2 : j = m := by omega
              rw [e2] at e; exact .inr e.symm
      | false =>
        rw [if_neg (by simp), List.append_nil]
        unfold Lib.keeps at hk
        have hk := of_decide_eq_false hk
        have h0 : m ≠ 0 := fun e => hk (.inl e)
        have he : zs.toArray[m]! = zs.toArray[m - 1]! := Classical.byContradiction fun hn => hk (.inr hn)
        refine ⟨h1, fun x => ?_⟩
        rw [h2]
        constructor
        · rintro ⟨j, hj, e⟩; exact ⟨j, by omega, e⟩
        · rintro ⟨j, hj, e⟩
          rcases Nat.lt_or_ge j m with hlt | hge
          · exact ⟨j, hlt, e⟩
          · have e2 : j = m := by omega
            rw [e2, he] at e; exact ⟨m - 1, by omega, e⟩
  obtain ⟨h1, h2⟩ := key zs.length (Nat.le_refl _)
  refine ⟨h1, fun x => (h2 x).trans ⟨?_, fun hx => ?_⟩⟩
  · rintro ⟨j, hj, rfl⟩
    rw [getElem!_pos _ j (by simpa using hj)]; simp
  · obtain ⟨j, hj, rfl⟩ := List.mem_iff_getElem.1 hx
    exact ⟨j, hj, by rw [getElem!_pos _ j (by simpa using hj)]; simp⟩
theorem sorted_le (l : List Bs) : (l.mergeSort fun x y => decide (x ≤ y)).Pairwise fun a b => a ≤ b := by
  have h := List.pairwise_mergeSort (le := fun x y : Bs => decide (x ≤ y)) (fun a b c h1 h2 => by simp only [decide_eq_true_eq] at *; exact List.le_trans h1 h2) (fun a b => by simp only [Bool.or_eq_true, decide_eq_true_eq]; exact List.le_total a b) l
  exact h.imp fun hh => of_decide_eq_true hh
theorem strs_flat (zs : List Bs) : zs.flatMap strC = zs.map encStr := by
  induction zs with
  | nil => rfl
  | cons z zs ih => rw [List.flatMap_cons, ih]; rfl
theorem rd_putRow {w : World} {g n cap : Nat} {cur : Array Value} {e : TypeId} {fr : Nat × Nat} (hg : w.heap[g]? = some (.cells cur e fr)) (t r : List Bs) (hs : t.length ≤ cur.size) (hc : t.length ≤ cap) :
    StrsR (putRow encStr (Sort.ahead w n) g 0 (t ++ r).toArray) (.slice (some ⟨g, 0, none⟩) t.length cap) t := by
  have hlt : g < w.heap.size := (Array.getElem?_eq_some_iff.1 hg).1
  refine .inr ⟨g, 0, cap, rfl, hc, by simpa [putRow, mapBlock, Sort.ahead] using hlt, fun j hj x hx i hi => ?_⟩
  have hi0 : i = 0 := by omega
  subst hi0
  have e1 : 0 + j * 1 + 0 = j := by omega
  rw [e1]
  have hh : (putRow encStr (Sort.ahead w n) g 0 (t ++ r).toArray).heap[g]? = some (.cells (putCells encStr 0 (t ++ r).toArray cur) e fr) := by
    simp [putRow, mapBlock, Sort.ahead, Array.getElem?_modify, hg, onCells]
  have hj2 : j < cur.size := by omega
  have hj3 : j < (t ++ r).toArray.size := by simp; omega
  have hcell : (putCells encStr 0 (t ++ r).toArray cur)[j]? = some (encStr x) := by
    have hx2 : (t ++ r)[j]? = some x := by rw [List.getElem?_append_left hj]; exact hx
    rw [putCells, Array.getElem?_mapIdx, Array.getElem?_eq_getElem hj2]
    simp only [Option.map_some, Nat.zero_le, Nat.zero_add, hj3, and_self, if_true, Nat.sub_zero]
    rw [getElem!_pos _ j hj3]
    have : (t ++ r).toArray[j] = x := by
      have h5 := Array.getElem?_eq_getElem hj3
      rw [show ((t ++ r).toArray)[j]? = (t ++ r)[j]? by simp] at h5
      rw [hx2] at h5; exact (Option.some.inj h5).symm
    rw [this]
  show (match (putRow encStr (Sort.ahead w n) g 0 (t ++ r).toArray).heap[g]? with | some (.cells c _ _) => c[j]? | _ => none) = some (SV x)
  rw [hh]; exact hcell
theorem grownBy_putRow' {w : World} {g n : Nat} (d : Array (List UInt8)) : w.grownBy (putRow encStr (Sort.ahead w n) g 0 d) (some g) := by
  refine ⟨rfl, rfl, rfl, by simp [putRow, mapBlock, Sort.ahead], fun k hk hne => ?_⟩
  have : g ≠ k := fun e => hne (by rw [e])
  simp [putRow, mapBlock, Sort.ahead, Array.getElem?_modify, this]
/-- Sorted, and told once each. -/
theorem sort_S {w : World} {B : Nat} {v : Value} {zs : List Bs} (h : OwS w B v zs) (hl : zs.length ≤ 1000000) (hw : B ≤ w.heap.size) : Calls Tryz.prog 60 #[v] w fun e w' => e = .returned (.tuple #[]) ∧ OwS w' B v (zs.mergeSort fun x y => decide (x ≤ y)) ∧ Below B w w' := by
  have hlen : (zs.mergeSort fun x y => decide (x ≤ y)).length = zs.length := List.length_mergeSort zs
  have h0 := h
  rcases h.2 with ⟨rfl, hz⟩ | ⟨g, cap, cur, rfl, hbg, hg, h1, h2, h3, h4⟩
  · obtain rfl : zs = [] := List.eq_nil_of_length_eq_zero hz
    refine (AnyM.slices_Sort_string_none Tryz.sortA none 0 w).mono ?_
    rintro e w' ⟨rfl, rfl⟩
    exact ⟨rfl, by simpa using h0, Below.refl _ _⟩
  · rw [strs_flat] at h4
    have hH : Holds encStr w g 0 zs.toArray := holds_of_block hg (by simpa using h4)
    refine (AnyM.slices_Sort_string Tryz.sortA g 0 cap zs w hH (lt_heap hg) (by omega)).mono ?_
    rintro e w' ⟨rfl, n, os, rfl⟩
    refine ⟨rfl, ?_, ?_⟩
    · have := ownsRow_sorted (n := n) (os := os) hlen hbg hg h1 h2 h3
      unfold OwS OwK
      rw [strs_flat, hlen]; exact this
    · exact (Below.refl _ w).mono hw |>.grown (grownBy_sorted _) hw (fun j hj => by cases hj; exact hbg)
theorem compact_S {w : World} {B : Nat} {v : Value} {zs : List Bs} (h : OwS w B v zs) (hl : zs.length ≤ 1000000) (hw : B ≤ w.heap.size) : Calls Tryz.prog 61 #[v] w fun e w' => ∃ v', e = .returned v' ∧ StrsR w' v' (Lib.compact zs) ∧ Below B w w' := by
  have hle : (Lib.compact zs).length ≤ zs.length := by
    unfold Lib.compact Lib.compactUpTo
    rw [List.length_map]
    exact Nat.le_trans (List.length_filter_le _ _) (by simp)
  rcases h.2 with ⟨rfl, hz⟩ | ⟨g, cap, cur, rfl, hbg, hg, h1, h2, h3, h4⟩
  · obtain rfl : zs = [] := List.eq_nil_of_length_eq_zero hz
    refine (Any.slices_Compact_string_empty Tryz.compA none 0 w).mono ?_
    rintro e w' ⟨rfl, rfl⟩
    exact ⟨_, rfl, .inl ⟨⟨none, 0, rfl⟩, rfl⟩, Below.refl _ _⟩
  · rw [strs_flat] at h4
    have hH : Holds encStr w g 0 zs.toArray := holds_of_block hg (by simpa using h4)
    refine (Any.slices_Compact_string Tryz.compA g 0 cap zs w hH (by omega) h1).mono ?_
    rintro e w' ⟨rfl, n, rfl⟩
    exact ⟨_, rfl, rd_putRow hg _ _ (by omega) (by omega), (Below.refl _ w).mono hw |>.grown (grownBy_putRow' _) hw (fun j hj => by cases hj; exact hbg)⟩
end Go.Proofs.YtnboagmibhllpaaGreatDoor.Rf


namespace Go.Proofs.YtnboagmibhllpaaGreatDoor.Ro
open Go.Proofs.YtnboagmibhllpaaGreatDoor
open Go.Proofs.YtnboagmibhllpaaGreatDoor.Rf (BoolB Ref nameB linesL lineL sort_S compact_S compact_rises sorted_le OwS)
open Go Go.RowKit Go.Sort

/-! ### Steps whose run is known -/
theorem wpList_wanted {P : Program} {ops : Array Oper} {rest : List Oper} {o : Oper} {a : Go.Act} {w : World} {Q : Exit → Go.Act → World → Prop} (hw : Region.wanted o (yielded ops a.tmps) = true)
    (h : ∀ K : Go.Act → World → Prop, (∀ a w, wpList P ops Q rest a w → K a w) → o.wp P a w K Q) : wpList P ops Q (o :: rest) a w :=
  wpList_step fun K hK => by rw [if_pos hw]; exact h K hK
theorem wpList_run {ops : Array Oper} {rest : List Oper} {o : Oper} {a : Go.Act} {w : World} {Q : Exit → Go.Act → World → Prop} (hgd : Region.wanted o (yielded ops a.tmps) = true) (v : Value) (w' : World) (he : (execOp a.eval o).run Tryz.prog w = .ok (.value v) w')
    (h : wpList Tryz.prog ops Q rest (a.put o.dst v) w') : wpList Tryz.prog ops Q (o :: rest) a w :=
  wpList_wanted hgd fun K hK => by
    unfold Oper.wp
    rw [he]
    exact hK _ _ h
theorem y_make {P : Program} {a : Go.Act} {o : Oper} {W W' : World} {t : TypeId} {l c : Operand} {lv cv r : Value} (ho : o.op = .makeSlice t l c) (hl : a.eval l = lv) (hc : a.eval c = cv) (h : (Instr.makeSlice t lv cv).run P W = .ok r W') : (execOp a.eval o).run P W = .ok (.value r) W' := by
  subst hl hc
  simp only [execOp, ho]
  simp [h, Result.andThen]
theorem y_copy {P : Program} {a : Go.Act} {o : Oper} {W W' : World} {t t' : TypeId} {d s : Operand} {dv sv r : Value} (ho : o.op = .call { callee := .builtin .copy, args := #[d, s], argTypes := #[t, t'] }) (hd : a.eval d = dv) (hs : a.eval s = sv)
    (h : (Builtin.copy_ #[t, t'] o.type #[dv, sv]).run P W = .ok r W') : (execOp a.eval o).run P W = .ok (.value r) W' := by
  subst hd hs
  simp [execOp, ho, resolve, invoke, builtin, h, Result.andThen]

theorem bdr {B : Nat} {w w' : World} (h : Below B w w') (n : Nat) : Below B w (w'.drewN n) := ⟨h.os, h.tape, h.output, h.size, h.block⟩
/-! ### A copy of texts -/
def strsA (l : List Bs) : Array Value := (l.map SV).toArray
theorem made_empty (n : Nat) : madeCells (Value.string ⟨#[]⟩).cells (n * 1) = strsA (List.replicate n []) := by
  rw [Nat.mul_one]
  apply Array.ext
  · rw [size_madeCells]; simp [strsA]
  · intro i h1 h2
    simp [madeCells, strsA, Nat.mod_one, Value.cells]
    rfl
theorem mk_strs (w : World) (n : Nat) (hn : n ≤ 512) : (Instr.makeSlice 22 (.int .i64 (n : Int)) (.int .i64 (n : Int))).run Tryz.prog w = .ok (.slice (some ⟨w.heap.size, 0, none⟩) n n) (w.alloc (.cells (strsA (List.replicate n [])) 9)) := by
  obtain ⟨i, hi⟩ : ∃ i, Tryz.prog.info? 9 = some i := Option.isSome_iff_exists.1 (by kernel_rfl)
  have hi0 : (Tryz.prog.info? 9).map (fun i => (i.zero, i.size, i.bytes)) = some (some (.string ⟨#[]⟩), 1, 16) := by kernel_rfl
  rw [hi] at hi0
  simp only [Option.map_some, Option.some.injEq, Prod.mk.injEq] at hi0
  obtain ⟨hz, hs, hb⟩ := hi0
  have hr := run_make (P := Tryz.prog) w 22 9 i (.string ⟨#[]⟩) Tryz.underlying22 hi hz .i64 .i64 n n (by omega) (by omega) (by rw [hb]; omega) (by omega)
  rw [Int.toNat_natCast, hs, made_empty] at hr
  exact hr
theorem strsA_size (l : List Bs) : (strsA l).size = l.length := by simp [strsA]
theorem strsA_get (l : List Bs) (i : Nat) : (strsA l)[i]? = (l[i]?).map SV := by simp [strsA]
theorem flat_strC (l : List Bs) : l.flatMap strC = l.map SV := by
  induction l with
  | nil => rfl
  | cons x l ih => rw [List.flatMap_cons, List.map_cons, ih]; rfl
theorem own_strs {w : World} {g B : Nat} {l : List Bs} (h : Blk w g 9 (strsA l)) (hB : B ≤ g) (hl : l.length ≤ 1000000) : OwS w B (.slice (some ⟨g, 0, none⟩) l.length l.length) l := by
  refine ⟨by simp [flat_length strC_len], .inr ⟨g, l.length, strsA l, rfl, hB, h, Nat.le_refl _, by unfold maxLen; omega, by rw [strsA_size]; omega, ?_⟩⟩
  rw [flat_strC]
  simp only [strsA, Nat.mul_one]
  rw [List.take_of_length_le (by simp)]
theorem sizeS : (Tryz.prog.info? 9).map (·.size) = some 1 := by kernel_rfl
theorem copy_S {w : World} {g N c : Nat} {A : Option Addr} {l : List Bs} (hN : N = l.length) (hb : Blk w g 9 (strsA (List.replicate N []))) (hr : StrsR w (.slice A N c) l) (ty : TypeId) :
    ∃ w', (Builtin.copy_ #[22, 22] ty #[.slice (some ⟨g, 0, none⟩) N N, .slice A N c]).run Tryz.prog w = .ok (.int .i64 (N : Int)) w' ∧ Blk w' g 9 (strsA l) ∧ But (fun k => k = g) w w' := by
  by_cases h0 : N = 0
  · subst h0
    obtain rfl : l = [] := List.length_eq_zero_iff.1 hN.symm
    exact ⟨w, run_copy_none (P := Tryz.prog) w 22 22 ty 9 _ _ 0 0 0 c Tryz.underlying22 sizeS rfl, hb, But.refl _ _⟩
  · rcases hr with ⟨_, hl⟩ | ⟨g', o, c', e, hc, hg, hcell⟩
    · rw [hl] at hN; exact absurd hN h0
    · obtain rfl : A = some ⟨g', o, none⟩ := by cases e; rfl
      have hrun := run_copy_row (P := Tryz.prog) w 22 22 ty 9 g 0 N N ⟨g', o, none⟩ N c (strsA (List.replicate N [])) 9 (l.map SV) Tryz.underlying22 sizeS hb (by simp [hN]) (fun j v hj => by
        rw [List.getElem?_map] at hj
        cases hx : l[j]? with
        | none => rw [hx] at hj; cases hj
        | some x =>
          rw [hx] at hj
          cases hj
          have h := hcell j (List.getElem?_eq_some_iff.1 hx).1 x hx 0 (by omega)
          have ea : (⟨g', o, none⟩ : Addr).add j = ⟨g', o + j, none⟩ := by unfold Addr.add; split <;> simp_all
          rw [ea]
          rw [Nat.mul_one, Nat.add_zero] at h
          exact h) (by rw [strsA_size]; simp [hN]) (fun u hu => by obtain ⟨x, _, rfl⟩ := List.mem_map.1 hu; rfl)
      have el : (List.map SV l).length = N := by simp [hN]
      have ec : ((strsA (List.replicate N [])).toList.take 0 ++ l.map SV ++ (strsA (List.replicate N [])).toList.drop (0 + (l.map SV).length)).toArray = strsA l := by
        rw [el]; simp [strsA]
      rw [ec, el] at hrun
      refine ⟨_, hrun, setRow_heap w g _ _ _ _ hb, ?_⟩
      exact ⟨rfl, rfl, rfl, by simp [World.setRow], fun k hk hn => by simp [World.setRow, Array.getElem?_modify, Ne.symm hn]⟩

/-! ### The law -/
/-- Texts that are no longer than a text may be. -/
def FitS (l : List Bs) : Prop := ∀ s ∈ l, s.length ≤ maxLen
set_option maxHeartbeats 1000000 in
theorem isNone_any (l : Bs) (w : World) (hl : l.length ≤ maxLen) : Calls Tryz.prog 57 #[SV l] w fun e w' => e = .returned (.bool (!namedB l)) ∧ w = w' := by
  have HN := Lib.hid (fun W => Named_any l W hl)
  unfold SV at HN ⊢
  cases hn : namedB l
  all_goals
    rw [hn] at HN
    go_enter Tryz.func57, Tryz.ntmps57
    go_wp2_with fail
    refine (HN.out _).mono ?_
    rintro e w1 ⟨rfl, rfl⟩
    go_wp2
    go_ret
    exact ⟨rfl, rfl⟩
theorem merge_len (l : List Bs) : (l.mergeSort fun x y => decide (x ≤ y)).length = l.length := List.length_mergeSort l
theorem rising_nodup {l : List Bs} (h : Rising l) : l.Nodup := List.Pairwise.imp (R := fun a b => a < b) (S := fun a b => a ≠ b) (fun {a b} hh e => lt_irr b (by rw [e] at hh; exact hh)) h
/-- As many as they were: none was there twice. -/
theorem once_iff (l : List Bs) : (Lib.compact (l.mergeSort fun x y => decide (x ≤ y))).length = l.length ↔ l.Nodup := by
  obtain ⟨h1, h2⟩ := compact_rises (sorted_le l)
  have hn := rising_nodup h1
  have hm : ∀ x, x ∈ Lib.compact (l.mergeSort fun x y => decide (x ≤ y)) ↔ x ∈ l := fun x => by rw [h2, (List.mergeSort_perm l _).mem_iff]
  constructor
  · intro hl
    refine (List.mergeSort_perm l fun x y => decide (x ≤ y)).nodup_iff.1 ?_
    obtain ⟨zs, hz⟩ : ∃ zs, zs = l.mergeSort fun x y => decide (x ≤ y) := ⟨_, rfl⟩
    rw [← hz] at hn hl ⊢
    have hlz : l.length = zs.length := by rw [hz, merge_len]
    have ec : Lib.compact zs = zs := by
      unfold Lib.compact Lib.compactUpTo at hl ⊢
      rw [List.length_map] at hl
      have ha : ∀ a ∈ List.range zs.length, Lib.keeps zs.toArray a = true := List.length_filter_eq_length_iff.1 (by rw [hl, List.length_range, hlz])
      rw [List.filter_eq_self.2 ha]
      apply List.ext_getElem
      · simp
      · intro i h3 h4
        rw [List.getElem_map, List.getElem_range]
        rw [getElem!_pos zs.toArray i (by simpa using h4)]; simp
    rw [ec] at hn; exact hn
  · intro hl
    have hp : (Lib.compact (l.mergeSort fun x y => decide (x ≤ y))).Perm l := (List.perm_ext_iff_of_nodup hn hl).2 fun {a} => hm a
    exact hp.length_eq
theorem packs_no {l : List Bs} (h : ¬ PacksOk l) : packsB l = false := by
  cases hb : packsB l with
  | false => rfl
  | true => exact absurd (packsB_iff.1 hb) h
theorem any_named {l : List Bs} : (l.any fun x => !namedB x) = false ↔ ∀ x ∈ l, namedB x = true := by
  rw [List.any_eq_false]
  simp
theorem packs_eq {l : List Bs} (h1 : l.length ≤ 24) (h2 : (l.any fun x => !namedB x) = false) : packsB l = decide ((Lib.compact (l.mergeSort fun x y => decide (x ≤ y))).length = l.length) := by
  by_cases h : (Lib.compact (l.mergeSort fun x y => decide (x ≤ y))).length = l.length
  · rw [decide_eq_true h]; exact packsB_iff.2 ⟨h1, any_named.1 h2, (once_iff l).1 h⟩
  · rw [decide_eq_false h]; exact packs_no fun hp => h ((once_iff l).2 hp.once)
abbrev FS := {s : Bs // s.length ≤ maxLen}
instance : Inhabited FS := ⟨⟨[], Nat.zero_le _⟩⟩
theorem con_any {l : List Bs} {A : Option Addr} {N c : Nat} {w : World} (hN : N = l.length) (hv : StrsR w (.slice A N c) l) (hf : FitS l) (hl : N ≤ 1000000) :
    Calls Tryz.prog 59 #[.slice A N c, .func (.func 57) #[] #[]] w fun e w' => e = .returned (.bool (l.any fun x => !namedB x)) ∧ ∃ q, w' = w.drewN q := by
  by_cases h0 : l = []
  · subst h0
    have hN0 : N = 0 := hN
    subst hN0
    refine (AnyE.slices_ContainsFunc_empty Tryz.conA A c _ w).mono ?_
    rintro e w' ⟨rfl, rfl⟩
    exact ⟨rfl, 0, rfl⟩
  · subst hN
    rcases hv with ⟨_, h⟩ | ⟨g, o, c', e, hc, hg, hcell⟩
    · exact absurd h h0
    obtain rfl : A = some ⟨g, o, none⟩ := by cases e; rfl
    have hf : ∀ x ∈ l, x.length ≤ maxLen := hf
    have hzl : (l.attachWith (fun x => x.length ≤ maxLen) hf).length = l.length := by simp
    have h := AnyE.slices_ContainsFunc Tryz.conA (fun x : FS => SV x.1) (fun x => !namedB x.1) 57 #[] (enters_of Tryz.func57 (by kernel_rfl) rfl) g o l.length c (l.attachWith (fun x => x.length ≤ maxLen) hf) w
      (fun W x _ => (isNone_any x.1 W x.2).mono fun e w' he => ⟨he.1, 0, he.2.symm⟩) (by omega) (by omega) (fun j hj => by
        have hj2 : j < l.length := by omega
        rw [getElem!_pos _ j hj]
        simp only [List.getElem_attachWith]
        have h := hcell j hj2 _ (List.getElem?_eq_getElem hj2) 0 (by omega)
        rw [Nat.mul_one, Nat.add_zero] at h
        exact h)
    have e : ((l.attachWith (fun x => x.length ≤ maxLen) hf).take l.length).any (fun x => !namedB x.1) = l.any fun x => !namedB x := by
      rw [List.take_of_length_le (by omega)]
      rw [Bool.eq_iff_iff, List.any_eq_true, List.any_eq_true]
      constructor
      · rintro ⟨x, hx, h⟩
        exact ⟨x.1, (List.mem_attachWith _ _).1 hx, h⟩
      · rintro ⟨x, hx, h⟩
        exact ⟨⟨x, hf x hx⟩, (List.mem_attachWith _ _).2 hx, h⟩
    rw [e] at h
    exact h
set_option maxRecDepth 100000 in
set_option maxHeartbeats 4000000 in
theorem arePacks_p (l : List Bs) (v : Value) (w : World) (hv : StrsR w v l) (hf : FitS l) (hl : l.length ≤ 1000000) : Calls Tryz.prog 34 #[v] w (BoolB (packsB l) w) := by
  obtain ⟨A, c, rfl⟩ := hv.shape
  obtain ⟨N, hN⟩ : ∃ N, N = l.length := ⟨_, rfl⟩
  rw [← hN] at hv hl ⊢
  have HC := Lib.hid (con_any hN hv hf hl)
  obtain ⟨b, hb⟩ : ∃ b, b = packsB l := ⟨_, rfl⟩
  rw [← hb]
  by_cases h24 : N ≤ 24
  case neg =>
    have hI : 24 < (N : Int) := by omega
    have HB : Hid (b = false) := Lib.hid (by rw [hb]; exact packs_no fun h => h24 (by rw [hN]; exact h.len))
    clear hv hf hb hN h24 HC
    go_enter Tryz.func34, Tryz.ntmps34
    go_wp2_with fail
    go_ret
    exact ⟨ret_bool HB.out.symm, Below.refl _ _⟩
  have hI : ¬ 24 < (N : Int) := by omega
  cases ha : (l.any fun x => !namedB x) with
  | true =>
    rw [ha] at HC
    have HB : Hid (b = false) := Lib.hid (by
      rw [hb]
      refine packs_no fun h => ?_
      rw [any_named.2 h.id] at ha
      cases ha)
    clear hv hf hb hN h24 ha
    go_enter Tryz.func34, Tryz.ntmps34
    go_wp2_with fail
    refine HC.out.mono ?_
    rintro e w1 ⟨rfl, q, rfl⟩
    go_wp2_with fail
    go_ret
    exact ⟨ret_bool HB.out.symm, bdr (Below.refl _ _) _⟩
  | false =>
  rw [ha] at HC
  have HB := Lib.hid (hb.trans (packs_eq (by omega) ha))
  have HV := Lib.hid hv; have HN := Lib.hid hN
  have hN5 : N ≤ 512 := by omega
  clear hv hf hb hN ha
  go_enter Tryz.func34, Tryz.ntmps34
  go_wp2_with fail
  refine HC.out.mono ?_
  rintro e wq ⟨rfl, q, hwq⟩
  have lq : Below w.heap.size w wq := by rw [hwq]; exact bdr (Below.refl _ _) _
  have LQ := Lib.hid lq
  obtain ⟨w1, hw1⟩ : ∃ z, z = wq.alloc (.cells (strsA (List.replicate N [])) 9) := ⟨_, rfl⟩
  have l1 : Below wq.heap.size wq w1 := by rw [hw1]; exact below_new _ _
  have b1 : Blk w1 wq.heap.size 9 (strsA (List.replicate N [])) := by rw [hw1]; exact Blk.new _ _ _
  have HMk := Lib.hid (mk_strs wq N hN5)
  rw [← hw1] at HMk
  have hr1 : StrsR w1 (.slice A N c) l := RdK.below (RdK.below HV.out lq (Nat.le_refl _)) l1 (Nat.le_refl _)
  have HCp := Lib.hid (fun ty => copy_S HN.out b1 hr1 ty)
  have L1 := Lib.hid (lq.trans (l1.mono lq.size))
  clear hwq lq hw1 l1 b1 hr1 HC
  obtain ⟨w2, hcp, b2, t2⟩ := HCp.out 3
  have L2 : Hid (Below w.heap.size w w2) := Lib.hid (L1.out.trans (t2.below (fun k _ hk => by rw [hk]; exact LQ.out.size) L1.out.size))
  have HO := Lib.hid (own_strs (B := w.heap.size) b2 LQ.out.size (by rw [← HN.out]; omega))
  rw [← HN.out] at HO
  have HCq := Lib.hid hcp
  clear hcp b2 t2 HCp
  go_wp2_with (first
    | (refine wpList_run (by kernel_rfl) (.slice (some ⟨wq.heap.size, 0, none⟩) N N) w1 (y_make (l := .tmp 14) (c := .tmp 14) rfl (by kernel_rfl) (by kernel_rfl) HMk.out) ?_)
    | (refine wpList_run (by kernel_rfl) (.int .i64 (N : Int)) w2 (y_copy (d := .tmp 16) (s := .tmp 17) rfl (by kernel_rfl) (by kernel_rfl) HCq.out) ?_))
  clear HCq HMk
  have HS := Lib.hid (sort_S HO.out (by rw [← HN.out]; omega) L2.out.size)
  refine HS.out.mono ?_
  rintro e w3 ⟨rfl, o3, l3⟩
  have L3 := Lib.hid (L2.out.trans l3)
  have HCm := Lib.hid (compact_S o3 (by rw [merge_len, ← HN.out]; omega) L3.out.size)
  clear o3 l3 HS HO
  go_wp2_with fail
  refine HCm.out.mono ?_
  rintro e w4 ⟨v', rfl, r4, l4⟩
  obtain ⟨A4, c4, rfl⟩ := r4.shape
  obtain ⟨M, hM⟩ : ∃ M, M = (Lib.compact (l.mergeSort fun x y => decide (x ≤ y))).length := ⟨_, rfl⟩
  rw [← hM]
  have HB2 : Hid (b = ((M : Int) == (N : Int))) := Lib.hid (by
    rw [HB.out, ← hM, ← HN.out]
    by_cases h : M = N
    · rw [decide_eq_true h, h]; simp
    · rw [decide_eq_false h]; symm; simp; omega)
  have L4 := Lib.hid (L3.out.trans l4)
  clear hM r4 l4 HCm HB
  go_wp2_with fail
  go_ret
  exact ⟨ret_bool HB2.out.symm, L4.out⟩
end Go.Proofs.YtnboagmibhllpaaGreatDoor.Ro
