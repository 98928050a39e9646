/-
  What is sorted by its names: the comparisons; a few elements sorted.
  Pieces of a slice of items, made and read.
  Pieces of lists, joined: appends of what a slice holds; steps of a region that draws its order.
-/
import Derived.Test.YthbmaloajgkhmaaGreatDoorC15
import Derived.Test.YthbmaloajgkhmaaGreatDoorC01
import Derived.Test.YthbmaloajgkhmaaGreatDoorC05
import Derived.Test.YthbmaloajgkhmaaGreatDoorC11
import Derived.Deep.QuietTactic
import Derived.BigQuiet
import Derived.IntWalk
import Derived.Test.YthbmaloajgkhmaaGreatDoorC14

namespace Go.Proofs.YthbmaloajgkhmaaGreatDoor
open Go Go.RowKit Go.Maps Go.Shelf Go.Sort
def cmpH (x y : Hld) : Int := Lib.compareBytes x.id y.id
theorem cmp_lt : ∀ a b : Bs, Lib.compareBytes a b < 0 ↔ a < b
  | [], [] => by simp [Lib.compareBytes]
  | [], b :: m => by simp [Lib.compareBytes]
  | a :: l, [] => by simp [Lib.compareBytes]
  | a :: l, b :: m => by
    unfold Lib.compareBytes
    rw [List.cons_lt_cons_iff]
    by_cases h : a < b
    · rw [if_pos h]; simp [h]
    · rw [if_neg h]
      by_cases h2 : b < a
      · rw [if_pos h2]
        have : ¬ a = b := fun e => by rw [e] at h2; exact absurd h2 (by simp)
        simp [h, this]
      · rw [if_neg h2, cmp_lt l m]
        have : a = b := by
          have h1 : ¬ a.toNat < b.toNat := h
          have h3 : ¬ b.toNat < a.toNat := h2
          exact UInt8.toNat_inj.1 (by omega)
        simp [this]
theorem lt_cmp : ltOf cmpH = ltH := by
  funext x y
  unfold ltOf ltH cmpH
  rw [decide_eq_decide]; exact cmp_lt _ _
set_option maxHeartbeats 2000000 in
set_option maxRecDepth 100000 in
theorem cmp_any (x y : Hld) (W : World) : Calls Tryz.prog 37 #[.agg (heldC x).toArray, .agg (heldC y).toArray] W fun e w' => e = .returned (.int .i64 (cmpH x y)) ∧ ∃ q os', w' = grow (W.drewN q) os' := by
  obtain ⟨xi, xk, xd⟩ := x
  obtain ⟨yi, yk, yd⟩ := y
  unfold heldC SV cmpH
  simp only
  have HC := fun w => Lib.hid (Any.strings_Compare Tryz.cmpA ⟨xi.toArray⟩ ⟨yi.toArray⟩ w)
  go_enter Tryz.func37, Tryz.ntmps37
  go_wp2_with fail
  refine (HC _).out.mono ?_
  rintro e w2 ⟨rfl, rfl⟩
  go_wp2_with fail
  go_ret
  refine ⟨by simp, 0, #[.cells #[.string ⟨xi.toArray⟩, .int .i64 xk, .string ⟨xd.toArray⟩] 35, .cells #[.string ⟨yi.toArray⟩, .int .i64 yk, .string ⟨yd.toArray⟩] 35], ?_⟩
  rw [alloc_eq_grow, alloc_eq_grow, grow_grow]; rfl
set_option maxHeartbeats 2000000 in
set_option maxRecDepth 100000 in
theorem same_any (x y : Hld) (b : Bool) (hb : (x.id == y.id) = b) (W : World) : Calls Tryz.prog 40 #[.agg (heldC x).toArray, .agg (heldC y).toArray] W (RetBelow (.bool b) W) := by
  obtain ⟨xi, xk, xd⟩ := x
  obtain ⟨yi, yk, yd⟩ := y
  unfold heldC SV
  simp only at hb ⊢
  cases b with
  | true =>
    have e : xi = yi := by simpa using hb
    subst e
    clear hb
    go_enter Tryz.func40, Tryz.ntmps40
    go_wp2_with fail
    go_ret
    exact ⟨by simp, (below_new W _).alloc (by simp) _⟩
  | false =>
    have e : ¬ xi = yi := by simpa using hb
    go_enter Tryz.func40, Tryz.ntmps40
    go_wp2_with fail
    go_ret
    exact ⟨by simp, (below_new W _).alloc (by simp) _⟩
theorem own_of_cells {w : World} {B g cap : Nat} {cur : Array Value} {l : List Hld} (hB : B ≤ g) (hg : w.heap[g]? = some (.cells cur 35 (0, 0))) (h1 : l.length ≤ cap) (h2 : cap ≤ maxLen) (h3 : cur.size = cap * 3)
    (hc : ∀ j, j < l.length → ∀ i, i < 3 → cur[j * 3 + i]? = (heldC (l.getD j noHld))[i]?) : NewH B w (.slice (some ⟨g, 0, none⟩) l.length cap) l := by
  refine ⟨flat_length heldC_len l, .inr ⟨g, cap, cur, rfl, hB, hg, h1, h2, h3, ?_⟩⟩
  apply List.ext_getElem?
  intro t
  by_cases ht : t < l.length * 3
  · rw [List.getElem?_take_of_lt ht, Array.getElem?_toList]
    have hq : t / 3 < l.length := by omega
    have hr : t % 3 < 3 := by omega
    have e : t / 3 * 3 + t % 3 = t := by omega
    have := hc (t / 3) hq (t % 3) hr
    rw [e] at this
    have h4 := flat_get heldC_len l (t / 3) _ (List.getElem?_eq_getElem hq) (t % 3) hr
    rw [e] at h4
    rw [this, h4, List.getD_eq_getElem?_getD, List.getElem?_eq_getElem hq]; rfl
  · rw [List.getElem?_take_eq_none (by omega), List.getElem?_eq_none (by rw [flat_length heldC_len]; omega)]
theorem cells_of_own {w : World} {B g c n : Nat} {l : List Hld} (h : NewH B w (.slice (some ⟨g, 0, none⟩) n c) l) : ∃ cur, n = l.length ∧ B ≤ g ∧ w.heap[g]? = some (.cells cur 35 (0, 0)) ∧ l.length ≤ c ∧ c ≤ maxLen ∧ cur.size = c * 3 ∧ ∀ j, j < l.length → ∀ i, i < 3 → cur[j * 3 + i]? = (heldC (l.getD j noHld))[i]? := by
  have hr := h.rd
  rcases h.2 with ⟨h0, _⟩ | ⟨g', cap, cur, e, hbg, hg, hnc, hcm, hcs, _⟩
  · cases h0
  · cases e
    refine ⟨cur, rfl, hbg, hg, hnc, hcm, hcs, fun j hj i hi => ?_⟩
    rcases hr with ⟨⟨A, c', e⟩, rfl⟩ | ⟨g2, o2, c2, e, _, _, hcell⟩
    · cases hj
    · cases e
      have := hcell j hj _ (List.getElem?_eq_getElem hj) i hi
      rw [cell_of_row w g _ cur _ _ hg, Nat.zero_add] at this
      rw [this, List.getD_eq_getElem?_getD, List.getElem?_eq_getElem hj]; rfl
theorem holdsK_of {w : World} {g : Nat} {cur : Array Value} {l : List Hld} (hg : w.heap[g]? = some (.cells cur 35 (0, 0))) (hc : ∀ j, j < l.length → ∀ i, i < 3 → cur[j * 3 + i]? = (heldC (l.getD j noHld))[i]?) :
    HoldsK heldC 3 w g 0 l.toArray := by
  intro t ht
  rw [size_flatK] at ht
  have hs : l.toArray.size = l.length := by simp
  rw [hs] at ht
  refine ⟨?_, frozen_of hg⟩
  have hq : t / 3 < l.length := by omega
  have hr : t % 3 < 3 := by omega
  have e : t / 3 * 3 + t % 3 = t := by omega
  have := hc (t / 3) hq (t % 3) hr
  rw [e] at this
  rw [get_flatK heldC 3 l.toArray t (by rw [hs]; exact ht), Nat.zero_add, cell_of_row w g t cur _ _ hg, this]
  have e2 : l.toArray[t / 3]! = l.getD (t / 3) noHld := by
    rw [getElem!_pos _ _ (by simpa using hq), List.getD_eq_getElem?_getD, List.getElem?_eq_getElem hq]; simp
  rw [e2]
  have hl := heldC_len (l.getD (t / 3) noHld)
  rw [List.getElem?_eq_getElem (by omega), getElem!_pos _ _ (by omega)]; rfl
theorem heap_sortedK {w : World} {g n : Nat} {os : Array Obj} {cur : Array Value} {e : TypeId} {fr : Nat × Nat} (d : Array Hld) (hb : w.heap[g]? = some (.cells cur e fr)) :
    (sortWorldK heldC 3 w g 0 n d os).heap[g]? = some (.cells (putCells id 0 (flatK heldC 3 d) cur) e fr) := by
  have hg : g < w.heap.size := (Array.getElem?_eq_some_iff.1 hb).1
  unfold sortWorldK putRowK
  rw [heap_grow_old _ _ (by simpa using hg)]
  simp [putRow, mapBlock, Sort.ahead, Array.getElem?_modify, hb, onCells]
theorem but_sortedK {w : World} {g n : Nat} {os : Array Obj} (d : Array Hld) : But (fun k => some g = some k) w (sortWorldK heldC 3 w g 0 n d os) := by
  unfold sortWorldK putRowK
  refine ⟨rfl, rfl, rfl, by simp, fun k hk hne => ?_⟩
  rw [heap_grow_old _ _ (by simpa using hk)]
  have : g ≠ k := fun e => hne (by rw [e])
  simp [putRow, mapBlock, Sort.ahead, Array.getElem?_modify, this]
theorem own_sortedK {w : World} {B g c n : Nat} {l : List Hld} (h : NewH B w (.slice (some ⟨g, 0, none⟩) l.length c) l) (d : Array Hld) (hd : d.size = l.length) (os : Array Obj) :
    NewH B (sortWorldK heldC 3 w g 0 n d os) (.slice (some ⟨g, 0, none⟩) l.length c) d.toList := by
  obtain ⟨cur, _, hB, hg, h1, h2, h3, hc⟩ := cells_of_own h
  have := own_of_cells (l := d.toList) hB (heap_sortedK (n := n) (os := os) d hg) (by simp [hd]; exact h1) h2 (by simp [putCells, h3]) (fun j hj i hi => ?_)
  · simpa [hd] using this
  · have hj' : j < d.size := by simpa using hj
    have h5 : j * 3 + i < cur.size := by omega
    have h6 : j * 3 + i < d.size * 3 := by omega
    have e1 : (j * 3 + i) / 3 = j := by omega
    have e2 : (j * 3 + i) % 3 = i := by omega
    rw [putCells, Array.getElem?_mapIdx, Array.getElem?_eq_getElem h5]
    simp only [Option.map_some, Nat.zero_le, Nat.zero_add, size_flatK, h6, and_self, if_true, Nat.sub_zero, id_eq]
    rw [get_flatK heldC 3 d _ h6, e1, e2, getElem!_pos d j hj', List.getD_eq_getElem?_getD, List.getElem?_eq_getElem hj]
    have hl := heldC_len (d.toList[j])
    simp only [Option.getD_some]
    rw [List.getElem?_eq_getElem (by omega), getElem!_pos _ _ (by rw [show d[j] = d.toList[j] by simp]; omega)]
    simp
def SortPost (B : Nat) (l : List Hld) (v : Value) (w : World) (e : Ending) (w' : World) : Prop :=
  e = .returned (.tuple #[]) ∧ ∃ m, Stab l m ∧ NewH B w' v m ∧ But (fun k => v.ownBlock = some k) w w'
theorem heldOne (x : Hld) : ∀ v ∈ heldC x, v.oneCell' = true := by
  intro v hv
  simp only [heldC, List.mem_cons, List.not_mem_nil, or_false] at hv
  rcases hv with rfl | rfl | rfl <;> rfl
theorem ins_any {w : World} {g c : Nat} {cur : Array Value} {l : List Hld} (hg : w.heap[g]? = some (.cells cur 35 (0, 0))) (hc : ∀ j, j < l.length → ∀ i, i < 3 → cur[j * 3 + i]? = (heldC (l.getD j noHld))[i]?) (a b : Nat) (hab : a ≤ b) (hb : b ≤ l.length) (hl : l.length ≤ 1000000) :
    Calls Tryz.prog 86 #[.slice (some ⟨g, 0, none⟩) l.length c, .int .i64 a, .int .i64 b, .func (.func 37) #[] #[]] w fun e w' =>
      e = .returned (.tuple #[]) ∧ ∃ n os, w' = sortWorldK heldC 3 w g 0 n (insertionSort ltH l.toArray a b) os := by
  have h := AnyQ.insertionSortCmpFunc Tryz.insA 3 (fun w => by kernel_rfl) (fun w => by kernel_rfl) heldC heldC_len heldOne cmpH 37 #[] g 0 c a b l.toArray w (fun args w => by kernel_rfl)
    (fun m os dk _ x y => cmp_any x y _) (holdsK_of hg hc) (lt_heap hg) hab (by simpa using hb) (by simp; omega)
  rw [lt_cmp, show l.toArray.size = l.length by simp] at h
  exact h
end Go.Proofs.YthbmaloajgkhmaaGreatDoor


namespace Go.Proofs.YthbmaloajgkhmaaGreatDoor
open Go Go.RowKit Go.Shelf
section
variable {P : Program} {a : Go.Act} {o : Oper} {W : World}
theorem y_build {t : TypeId} {n : Nat} {parts : Array (Nat × Operand)} {ps : Array (Nat × Value)} {r : Value} {W' : World} (ho : o.op = .buildSlice t n parts) (hp : (parts.map fun (i, x) => (i, a.eval x)) = ps) (h : (Instr.buildSlice t n ps).run P W = .ok r W') : (execOp a.eval o).run P W = .ok (.value r) W' := by
  subst hp
  simp only [execOp, ho]
  simp [h, Result.andThen]
end
theorem build1 (W : World) (xm : Int) (xn xi : List UInt8) : (Instr.buildSlice 43 1 #[(0, .agg #[.int .i64 xm, .string ⟨xn.toArray⟩, .string ⟨xi.toArray⟩])]).run Tryz.prog W = .ok (.slice (some ⟨W.heap.size, 0, none⟩) 1 1) (W.alloc (.cells #[.int .i64 xm, .string ⟨xn.toArray⟩, .string ⟨xi.toArray⟩] 42)) := by
  simp [go_sem]
theorem at_one (W : World) (g o n c k : Nat) (hk : k < n) : (Instr.indexAt 43 (.slice (some ⟨g, o, none⟩) n c) (.int .i64 (k : Int))).run Tryz.prog W = .ok (.pointer (some ⟨g, o + k * 3, none⟩)) W := by
  have h1 : (k : Int) < (n : Int) := by omega
  simp [go_sem, h1]
end Go.Proofs.YthbmaloajgkhmaaGreatDoor


namespace Go.Proofs.YthbmaloajgkhmaaGreatDoor
open Go Go.RowKit Go.Shelf
section
variable {α : Type} {st t : TypeId} {k bt : Nat} {f : α → List Value}
theorem RdK.take' {w : World} {g o n c : Nat} {l : List α} (h : RdK k f w (.slice (some ⟨g, o, none⟩) n c) l) (hn : n = l.length) (hn0 : 0 < n) (m : Nat) (hm : m ≤ n) :
    ∀ j u, ((l.take m).flatMap f)[j]? = some u → (∀ x, (f x).length = k) → 0 < k → w.cell? ⟨g, o + j, none⟩ = some u := by
  intro j u hj hf hk
  rcases h with ⟨_, rfl⟩ | ⟨g', o', c', e, hc, hg, hcell⟩
  · simp at hn; omega
  cases e
  have hlt : j < (l.take m).length * k := by
    rw [← flat_length hf]
    exact (List.getElem?_eq_some_iff.1 hj).1
  have hq : j / k < (l.take m).length := Nat.div_lt_of_lt_mul (by rw [Nat.mul_comm]; exact hlt)
  have hr : j % k < k := Nat.mod_lt _ hk
  have hj2 : j / k * k + j % k = j := by rw [Nat.mul_comm]; exact Nat.div_add_mod j k
  have hx : (l.take m)[j / k]? = some (l.take m)[j / k] := List.getElem?_eq_getElem hq
  have h1 := flat_get hf (l.take m) (j / k) _ hx (j % k) hr
  rw [hj2, hj] at h1
  have hq2 : j / k < l.length := by rw [List.length_take] at hq; omega
  have hx2 : l[j / k]? = some (l.take m)[j / k] := by rw [List.getElem_take]; exact List.getElem?_eq_getElem hq2
  have h2 := hcell (j / k) hq2 _ hx2 (j % k) hr
  rw [Nat.add_assoc, hj2] at h2
  rw [h2, ← h1]
theorem RdK.drop' {w : World} {g o n c : Nat} {l : List α} (h : RdK k f w (.slice (some ⟨g, o, none⟩) n c) l) (hn : n = l.length) (hn0 : 0 < n) (m : Nat) (hm : m ≤ n) :
    ∀ j u, ((l.drop m).flatMap f)[j]? = some u → (∀ x, (f x).length = k) → 0 < k → w.cell? ⟨g, o + m * k + j, none⟩ = some u := by
  intro j u hj hf hk
  rcases h with ⟨_, rfl⟩ | ⟨g', o', c', e, hc, hg, hcell⟩
  · simp at hn; omega
  cases e
  have hlt : j < (l.drop m).length * k := by
    rw [← flat_length hf]
    exact (List.getElem?_eq_some_iff.1 hj).1
  have hq : j / k < (l.drop m).length := Nat.div_lt_of_lt_mul (by rw [Nat.mul_comm]; exact hlt)
  have hr : j % k < k := Nat.mod_lt _ hk
  have hj2 : j / k * k + j % k = j := by rw [Nat.mul_comm]; exact Nat.div_add_mod j k
  have hx : (l.drop m)[j / k]? = some (l.drop m)[j / k] := List.getElem?_eq_getElem hq
  have h1 := flat_get hf (l.drop m) (j / k) _ hx (j % k) hr
  rw [hj2, hj] at h1
  have hq2 : m + j / k < l.length := by rw [List.length_drop] at hq; omega
  have hx2 : l[m + j / k]? = some (l.drop m)[j / k] := by rw [List.getElem_drop]; exact List.getElem?_eq_getElem hq2
  have h2 := hcell (m + j / k) hq2 _ hx2 (j % k) hr
  have e : o + (m + j / k) * k + j % k = o + m * k + j := by rw [Nat.add_mul]; omega
  rw [e] at h2
  rw [h2, ← h1]

/-- What a slice holds, behind. -/
theorem run_appK (E : ElK st t k bt f) {w : World} {base : Nat} {v : Value} {l m : List α} (h : OwK t k f w base v l) (a : Addr) (n c : Nat) (hn : n = m.length) (hs : ∀ j u, (m.flatMap f)[j]? = some u → w.cell? (a.add j) = some u) (hl : l.length + m.length ≤ 1000000) (hbt : bt ≤ 1000) (hb : base ≤ w.heap.size) (ty : TypeId) :
    ∃ v' w', (Builtin.append_ #[st, st] ty #[v, .slice (some a) n c]).run Tryz.prog w = .ok v' w' ∧ OwK t k f w' base v' (l ++ m) ∧ Below base w w' ∧ w.grownBy w' v.ownBlock := by
  subst hn
  obtain ⟨z, hz, hzs⟩ := E.info
  obtain ⟨i0, hi, hz0, hz1, hz2⟩ := info_parts hz
  obtain ⟨v', w', h1, h2, h3, _⟩ := run_append_own (P := Tryz.prog) w base st ty t i0 z k bt E.ut hi hz0 hz1 hz2 hzs E.pos v l.length (l.flatMap f) h a m.length c (m.flatMap f) (flat_length E.len m) hs
    (fun u hu => by obtain ⟨x, _, hx⟩ := List.mem_flatMap.1 hu; exact E.one x u hx) (by unfold maxLen; omega) (by
      have : (l.length + m.length) * bt ≤ 1000000 * 1000 := Nat.mul_le_mul hl hbt
      omega) hb
  refine ⟨v', w', h1, ?_, ⟨h3.os, h3.tape, h3.output, h3.size, fun j hj => h3.block j (by omega) ?_⟩, h3⟩
  · unfold OwK; rw [List.length_append, List.flatMap_append]; exact h2
  · intro e
    have := (h.lt j e.symm).1
    omega
theorem OwK.new0 (w : World) (base : Nat) (hb : base ≤ w.heap.size) : OwK t k f (w.alloc (.cells #[] t)) base (.slice (some ⟨w.heap.size, 0, none⟩) 0 0) [] :=
  ⟨by simp, .inr ⟨w.heap.size, 0, #[], rfl, hb, heap_alloc_new w _, by simp, by simp, by simp, by simp⟩⟩
end
section
variable {P : Program} {ops : Array Oper} {Q : Exit → Go.Act → World → Prop}
/-- One of two may come up. -/
theorem AnyB.two (i j : Nat) {fuel : Nat} {listed : Array Bool} {a : Go.Act} {w : World} (hr : Region.ready .any ops listed = [i, j]) {oi oj : Oper} (v v' : Value) (w1 w2 : World) (hi : ops[i]? = some oi) (hj : ops[j]? = some oj)
    (hwi : Region.wanted oi (yielded ops a.tmps) = true) (hwj : Region.wanted oj (yielded ops a.tmps) = true)
    (hei : (execOp a.eval oi).run P w = .ok (.value v) w1) (hej : (execOp a.eval oj).run P w = .ok (.value v') w2) (hb1 : Below w.heap.size w w1) (hb2 : Below w.heap.size w w2)
    (h1 : AnyB P ops Q fuel (listed.setIfInBounds i true) (a.put oi.dst v) w1) (h2 : AnyB P ops Q fuel (listed.setIfInBounds j true) (a.put oj.dst v') w2) : AnyB P ops Q (fuel + 1) listed a w :=
  held_two hr (held_op v w1 hi hwi hei hb1 (held_mono (fun _ hW => hb1.trans (hW.mono hb1.size)) _ _ _ _ h1)) (held_op v' w2 hj hwj hej hb2 (held_mono (fun _ hW => hb2.trans (hW.mono hb2.size)) _ _ _ _ h2))
end
section
variable {P : Program} {ops : Array Oper} {Q : Exit → Go.Act → World → Prop} {b : Nat} {w0 : World}
/-- Whatever order is picked from here on; what lies in w0 below b stays as it is. -/
def AnyK (P : Program) (ops : Array Oper) (Q : Exit → Go.Act → World → Prop) (b : Nat) (w0 : World) (fuel : Nat) (listed : Array Bool) (a : Go.Act) (w : World) : Prop :=
  wpAnyH P .any ops Q (fun W => Below b w0 W) fuel listed a w
theorem AnyK.start (b : Nat) (w0 : World) {id : Nat} {a : Go.Act} {w : World} (hm : P.follows .mixedOrders = true) (h : AnyK P ops Q b w0 ops.size (Array.replicate ops.size false) a w.drew) : (Code.region id ops true).wp P Q a w :=
  held_start _ hm h
theorem AnyK.take (i : Nat) (v : Value) {oi : Oper} {fuel : Nat} {listed : Array Bool} {a : Go.Act} {w : World} (hS : Below b w0 w) (hi : ops[i]? = some oi)
    (hs : Region.noSelect ops = true) (hf : Region.free .any ops listed i = true) (hr : (Region.ready .any ops listed).contains i = true)
    (hQ : ∀ c a w, Q (.panic c) (a.put oi.dst v) w → Q (.panic c) a w) (hw : Region.wanted oi (yielded ops a.tmps) = true)
    (hy : ∀ W, Below b w0 W → (execOp a.eval oi).run P W = .ok (.value v) W)
    (h : AnyK P ops Q b w0 fuel (listed.setIfInBounds i true) (a.put oi.dst v) w) : AnyK P ops Q b w0 (fuel + 1) listed a w :=
  held_take i v hi hs hf hr hQ hw hy hS h
theorem AnyK.call (i : Nat) {oi : Oper} {fuel : Nat} {listed : Array Bool} {a : Go.Act} {w : World} (f : FuncId) (vs : Array Value) (hr : Region.ready .any ops listed = [i]) (hi : ops[i]? = some oi)
    (hw : Region.wanted oi (yielded ops a.tmps) = true) (he : (execOp a.eval oi).run P w = .ok (.enter f vs) w)
    (hc : Calls P f vs w fun e w' => ∃ v, e = .returned v ∧ Below b w0 w' ∧ AnyK P ops Q b w0 fuel (listed.setIfInBounds i true) (a.put oi.dst v) w') : AnyK P ops Q b w0 (fuel + 1) listed a w := by
  refine wpAnyH_ready hr (by simp) (AllReadyH.cons hi (fun K hK => ?_) AllReadyH.nil)
  rw [if_pos hw]
  unfold Oper.wp
  rw [he, Oper.upon_enter]
  refine hc.mono ?_
  rintro e w' ⟨v, rfl, hb, h⟩
  exact hK.out _ _ hb fun _ => h
theorem AnyK.op (i : Nat) (v : Value) (w' : World) {oi : Oper} {fuel : Nat} {listed : Array Bool} {a : Go.Act} {w : World} (hr : Region.ready .any ops listed = [i]) (hi : ops[i]? = some oi)
    (hw : Region.wanted oi (yielded ops a.tmps) = true) (he : (execOp a.eval oi).run P w = .ok (.value v) w') (hb : Below b w0 w') (h : AnyK P ops Q b w0 fuel (listed.setIfInBounds i true) (a.put oi.dst v) w') : AnyK P ops Q b w0 (fuel + 1) listed a w :=
  held_one hr (held_op v w' hi hw he hb h)
theorem AnyK.two (i j : Nat) {fuel : Nat} {listed : Array Bool} {a : Go.Act} {w : World} (hr : Region.ready .any ops listed = [i, j]) {oi oj : Oper} (v v' : Value) (w1 w2 : World) (hi : ops[i]? = some oi) (hj : ops[j]? = some oj)
    (hwi : Region.wanted oi (yielded ops a.tmps) = true) (hwj : Region.wanted oj (yielded ops a.tmps) = true)
    (hei : (execOp a.eval oi).run P w = .ok (.value v) w1) (hej : (execOp a.eval oj).run P w = .ok (.value v') w2) (hb1 : Below b w0 w1) (hb2 : Below b w0 w2)
    (h1 : AnyK P ops Q b w0 fuel (listed.setIfInBounds i true) (a.put oi.dst v) w1) (h2 : AnyK P ops Q b w0 fuel (listed.setIfInBounds j true) (a.put oj.dst v') w2) : AnyK P ops Q b w0 (fuel + 1) listed a w :=
  held_two hr (held_op v w1 hi hwi hei hb1 h1) (held_op v' w2 hj hwj hej hb2 h2)
theorem AnyK.done {listed : Array Bool} {a : Go.Act} {w : World} (fuel : Nat) (hr : Region.ready .any ops listed = []) (h : Q .normal a w) : AnyK P ops Q b w0 fuel listed a w :=
  held_done fuel hr h
end
section
variable {P : Program} {a : Go.Act} {o : Oper} {W : World}
theorem y_slice {t : TypeId} {x : Operand} {lo hi mx : Option Operand} {xv r : Value} {lv hv mv : Option Value} (ho : o.op = .slice t x lo hi mx) (hx : a.eval x = xv) (hl : lo.map a.eval = lv) (hh : hi.map a.eval = hv) (hm : mx.map a.eval = mv)
    (hs : (Instr.sliceAt t xv lv hv mv).run P W = .ok r W) : (execOp a.eval o).run P W = .ok (.value r) W := by
  subst hx hl hh hm
  simp only [execOp, ho]
  simp [hs, Result.andThen]
theorem y_index {t : TypeId} {s i : Operand} {sv iv r : Value} (ho : o.op = .indexAddr t s i) (hs : a.eval s = sv) (hi : a.eval i = iv) (h : (Instr.indexAt t sv iv).run P W = .ok r W) : (execOp a.eval o).run P W = .ok (.value r) W := by
  subst hs hi
  simp only [execOp, ho]
  simp [h, Result.andThen]
theorem y_field {t : TypeId} {s : Operand} {n : Nat} {sv r : Value} (ho : o.op = .fieldAddr t s n) (hs : a.eval s = sv) (h : (Instr.fieldAt t sv n).run P W = .ok r W) : (execOp a.eval o).run P W = .ok (.value r) W := by
  subst hs
  simp only [execOp, ho]
  simp [h, Result.andThen]
end
end Go.Proofs.YthbmaloajgkhmaaGreatDoor
