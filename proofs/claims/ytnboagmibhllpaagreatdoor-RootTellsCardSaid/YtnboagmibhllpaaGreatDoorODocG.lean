/-
  The document's Get: what stands while it reads.
-/
import Derived.Test.YtnboagmibhllpaaGreatDoorC20
import Derived.Test.YtnboagmibhllpaaGreatDoorOTelP
import Derived.Test.YtnboagmibhllpaaGreatDoorRDocR
import Derived.Test.YtnboagmibhllpaaGreatDoorODocP
namespace Go.Proofs.YtnboagmibhllpaaGreatDoor.Ro
open Go.Proofs.YtnboagmibhllpaaGreatDoor
open Go.Proofs.YtnboagmibhllpaaGreatDoor.Rf (BoolB Ref RefsR OwR OwS nameB linesL)
open Go Go.RowKit

theorem At.next {b : Bs} {cnt : Nat} {pool : List Bs} {nf k at_ : Nat} {acc : List Fk} {r : Rt} (h : At b cnt pool nf k at_ acc r) (hr : RtOk r) (hk : k < nf) :
    ∃ f, r.forks[k]? = some f ∧ FkOk f ∧ (splitL 10 b)[at_]? = some (openB f.op) ∧ at_ + 1 + f.refs.length + f.packs.length < (splitL 10 b).length ∧ ((splitL 10 b).drop (at_ + 1)).take f.refs.length = f.refs.map refL ∧
      ((splitL 10 b).drop (at_ + 1 + f.refs.length)).take f.packs.length = f.packs ∧ At b cnt pool nf (k + 1) (at_ + 1 + f.refs.length + f.packs.length) (acc ++ [f]) r := by
  have hkl : k < r.forks.length := by rw [h.nf]; exact hk
  have hd := List.drop_eq_getElem_cons hkl
  obtain ⟨f, hf⟩ : ∃ f, f = r.forks[k] := ⟨_, rfl⟩
  rw [← hf] at hd
  have hfx : r.forks[k]? = some f := by rw [hf]; exact List.getElem?_eq_getElem hkl
  have hl := h.left
  rw [hd, List.flatMap_cons] at hl
  have hfk : fkLs f = openB f.op :: (f.refs.map refL ++ f.packs) := rfl
  rw [hfk] at hl
  obtain ⟨T, hT⟩ : ∃ T, T = (r.forks.drop (k + 1)).flatMap fkLs ++ [[]] := ⟨_, rfl⟩
  have h1 : (splitL 10 b).drop at_ = openB f.op :: (f.refs.map refL ++ (f.packs ++ T)) := by rw [hl, hT]; simp
  have h2 : (splitL 10 b).drop (at_ + 1) = f.refs.map refL ++ (f.packs ++ T) := by rw [← List.drop_drop, h1]; rfl
  have h3 : (splitL 10 b).drop (at_ + 1 + f.refs.length) = f.packs ++ T := by rw [← List.drop_drop, h2, List.drop_left' (by simp)]
  have h4 : (splitL 10 b).drop (at_ + 1 + f.refs.length + f.packs.length) = T := by rw [← List.drop_drop, h3, List.drop_left]
  refine ⟨f, hfx, hr.forks.each f (List.mem_of_getElem? hfx), ?_, ?_, ?_, ?_, h.cnt, h.pool, h.nf, ?_, by rw [h4, hT]⟩
  · have := congrArg (fun l => l[0]?) h1
    simpa [List.getElem?_drop] using this
  · have := congrArg List.length h4
    rw [List.length_drop, hT] at this
    simp at this; omega
  · rw [h2, List.take_left' (by simp)]
  · rw [h3, List.take_left]
  · rw [List.take_add_one, hfx, Option.toList_some, h.acc]
theorem decV_un (o : Option Nat) : ∃ (c : Nat) (k : Bool), Nu.decV o = .tuple #[.int .i64 (c : Int), .bool k] ∧ (k = true → o = some c) ∧ (k = false → o = none) := by
  cases o with
  | none => exact ⟨0, false, rfl, (fun h => by cases h), fun _ => rfl⟩
  | some c => exact ⟨c, true, rfl, (fun _ => rfl), fun h => by cases h⟩
theorem getO_no {b : Bs} (h : ∀ r, ¬ IsRoot b r) : getO b = none := by
  cases hg : getO b with
  | none => rfl
  | some r => exact absurd (getO_iff.1 hg) (h r)
/-- What stands while the document reads. -/
structure DSt (w wr : World) (b0 b1 m : Nat) (Ap : Option Addr) (np cp : Nat) (pool : List Bs) (Af : Option Addr) (nf' cf : Nat) (acc : List Fk) (lv : Value) (lns : List Bs) : Prop where
  k1 : wr.heap[b1]? = some (.cells #[.int .i64 (m : Int), .slice Ap np cp, .slice Af nf' cf] 25 (0, 0))
  k0 : wr.heap[b0]? = some (.cells rt0 25 (0, 0))
  fs : FksO wr w.heap.size (.slice Af nf' cf) acc
  op : OwS wr w.heap.size (.slice Ap np cp) pool
  ln : OwS wr w.heap.size lv lns
  low : Below w.heap.size w wr
section
variable {w wr wd : World} {b0 b1 m : Nat} {Ap : Option Addr} {np cp : Nat} {pool : List Bs} {Af : Option Addr} {nf' cf : Nat} {acc : List Fk} {lv : Value} {lns : List Bs}
theorem DSt.new (h : DSt w wr b0 b1 m Ap np cp pool Af nf' cf acc lv lns) (hb : Below wr.heap.size wr wd) : DSt w wd b0 b1 m Ap np cp pool Af nf' cf acc lv lns :=
  have t := But.of_new hb
  ⟨(hb.block _ (lt_heap h.k1)).trans h.k1, (hb.block _ (lt_heap h.k0)).trans h.k0, h.fs.but t (fun _ _ _ h => h), row_but h.op t (fun _ _ h => h), row_but h.ln t (fun _ _ h => h), h.low.trans (hb.mono h.low.size)⟩
/-- A cell of the root that is read. -/
theorem DSt.box (h : DSt w wr b0 b1 m Ap np cp pool Af nf' cf acc lv lns) (i : Nat) (v : Value) (h01 : b0 ≠ b1) (h1 : w.heap.size ≤ b1) {m2 : Nat} {Ap2 : Option Addr} {np2 cp2 : Nat} {pool2 : List Bs}
    (hc : (#[.int .i64 (m : Int), .slice Ap np cp, .slice Af nf' cf] : Array Value).setIfInBounds i v = #[.int .i64 (m2 : Int), .slice Ap2 np2 cp2, .slice Af nf' cf]) (ho : OwS wr w.heap.size (.slice Ap2 np2 cp2) pool2) :
    DSt w (wr.setCell ⟨b1, i, none⟩ v) b0 b1 m2 Ap2 np2 cp2 pool2 Af nf' cf acc lv lns := by
  have t := but_set wr b1 i v
  refine ⟨(blk_set h.k1 _).trans (by rw [hc]), (t.block b0 (lt_heap h.k0) h01).trans h.k0, h.fs.but t fun g _ hg e => ?_, row_but ho t (ownNe ho h.k1 (by decide)), row_but h.ln t (ownNe h.ln h.k1 (by decide)), h.low.trans (t.below (B := w.heap.size) (fun k _ e => by omega) h.low.size)⟩
  · subst e
    rcases hg with ⟨cs', fr, hg⟩ | ⟨cs', fr, hg⟩ | ⟨cs', fr, hg⟩ <;> (rw [h.k1] at hg; cases hg)
/-- The pool is read. -/
theorem DSt.fill (h : DSt w wr b0 b1 m none 0 0 [] Af nf' cf acc lv lns) {sv : Value} {m2 : List Bs} (hrd : StrsR wr sv m2) (hl : m2.length ≤ 1000000) (h01 : b0 ≠ b1) (h1 : w.heap.size ≤ b1) :
    ∃ A9 n9 q9 w9, (∀ ty, (Builtin.append_ #[22, 22] ty #[.slice none 0 0, sv]).run Tryz.prog wr = .ok (.slice A9 n9 q9) w9) ∧ wr.cell? ⟨b1, 1, none⟩ = some (.slice none 0 0) ∧
      (Instr.storeAt 22 (.pointer (some ⟨b1, 1, none⟩)) (.slice A9 n9 q9)).run Tryz.prog w9 = .ok () (w9.setCell ⟨b1, 1, none⟩ (.slice A9 n9 q9)) ∧
      DSt w (w9.setCell ⟨b1, 1, none⟩ (.slice A9 n9 q9)) b0 b1 m A9 n9 q9 m2 Af nf' cf acc lv lns := by
  obtain ⟨v9, w9, hr9, ho9, hg9⟩ := run_all' elStr h.op hrd (by simpa using hl) (by decide) h.low.size
  obtain ⟨A9, n9, q9, rfl, -⟩ := Rf.OwK.shape ho9
  rw [List.nil_append] at ho9
  have hb9 : Below wr.heap.size wr w9 := ⟨hg9.os, hg9.tape, hg9.output, hg9.size, fun k hk => hg9.block k hk (fun e => by cases e)⟩
  have h9 := h.new hb9
  refine ⟨A9, n9, q9, w9, hr9, (cell_of_row wr b1 1 _ _ _ h.k1).trans rfl, ?_, h9.box 1 _ h01 h1 rfl ho9⟩
  have c9 : w9.cell? ⟨b1, 1, none⟩ = some (.slice none 0 0) := (cell_of_row w9 b1 1 _ _ _ h9.k1).trans rfl
  have f9 : w9.frozen? ⟨b1, 1, none⟩ = false := frz h9.k1
  simp [go_sem, c9, f9]
end
/-- A fork is being read. -/
structure FSt (w wr : World) (b0 b1 m : Nat) (Ap : Option Addr) (np cp : Nat) (pool : List Bs) (Af : Option Addr) (nf' cf : Nat) (acc : List Fk) (lv : Value) (lns : List Bs) (bt : Nat) (x : Fs) (f : Fk) : Prop where
  d : DSt w wr b0 b1 m Ap np cp pool Af nf' cf acc lv lns
  kt : wr.heap[bt]? = some (.cells (fsC x).toArray 42 (0, 0))
  fo : FkO wr w.heap.size x f
  ne : ∀ g, (Value.slice Af nf' cf).ownBlock = some g → g ≠ bt
  hi : w.heap.size ≤ bt
section
variable {w wr wd : World} {b0 b1 m : Nat} {Ap : Option Addr} {np cp : Nat} {pool : List Bs} {Af : Option Addr} {nf' cf : Nat} {acc : List Fk} {lv : Value} {lns : List Bs}
theorem DSt.tmp (h : DSt w wr b0 b1 m Ap np cp pool Af nf' cf acc lv lns) {bt : Nat} {cs : Array Value} (kt : wr.heap[bt]? = some (.cells cs 42 (0, 0))) (ne : ∀ g, (Value.slice Af nf' cf).ownBlock = some g → g ≠ bt) (hi : w.heap.size ≤ bt) (t : But (fun k => k = bt) wr wd) :
    DSt w wd b0 b1 m Ap np cp pool Af nf' cf acc lv lns := by
  refine ⟨(t.block b1 (lt_heap h.k1) fun e => by have := h.k1; rw [e, kt] at this; cases this).trans h.k1, ?_, ?_, row_but h.op t (ownNe h.op kt (by decide)), row_but h.ln t (ownNe h.ln kt (by decide)), h.low.trans (t.below (fun k _ e => by omega) h.low.size)⟩
  · refine (t.block b0 (lt_heap h.k0) fun e => ?_).trans h.k0
    have := h.k0; rw [e, kt] at this; cases this
  · obtain ⟨xs, ho, hlen, hel⟩ := h.fs
    refine ⟨xs, row_but ho t (fun g hg e => ne g hg e), hlen, fun k x f hx hf => (hel k x f hx hf).but t fun g _ hg e => ?_⟩
    subst e
    rcases hg with ⟨cs', fr, hg⟩ | ⟨cs', fr, hg⟩ <;> (rw [kt] at hg; cases hg)
theorem DSt.far (h : DSt w wr b0 b1 m Ap np cp pool Af nf' cf acc lv lns) {g : Nat} (hg : (Value.slice Af nf' cf).ownBlock = some g) : g < wr.heap.size := by
  obtain ⟨xs, ho, _, _⟩ := h.fs
  exact (own_block ho hg).2.1
/-- A fork's block is made and written. -/
theorem DSt.fork (h : DSt w wr b0 b1 m Ap np cp pool Af nf' cf acc lv lns) {nm hd : Bs} {lk : Bool} {Ar : Option Addr} {nr cr : Nat} {refs : List Ref} (hr : OwR wr w.heap.size (.slice Ar nr cr) refs) :
    (Instr.storeAt 42 (.pointer (some ⟨wr.heap.size, 0, none⟩)) (.agg #[.string ⟨nm.toArray⟩, .bool lk, .string ⟨hd.toArray⟩, .slice Ar nr cr, .slice none 0 0])).run Tryz.prog (wr.alloc (.cells fk0 42)) = .ok () ((wr.alloc (.cells fk0 42)).setRow wr.heap.size (fsC ⟨nm, lk, hd, Ar, nr, cr, none, 0, 0⟩).toArray) ∧
    FSt w ((wr.alloc (.cells fk0 42)).setRow wr.heap.size (fsC ⟨nm, lk, hd, Ar, nr, cr, none, 0, 0⟩).toArray) b0 b1 m Ap np cp pool Af nf' cf acc lv lns wr.heap.size ⟨nm, lk, hd, Ar, nr, cr, none, 0, 0⟩ ⟨nm, lk, hd, refs, []⟩ := by
  have hb := below_new wr (.cells fk0 42)
  have hk := heap_alloc_new wr (.cells fk0 42)
  have h2 := h.new hb
  obtain ⟨w2, hw2⟩ : ∃ y, y = wr.alloc (.cells fk0 42) := ⟨_, rfl⟩
  rw [← hw2] at hb hk h2 ⊢
  have ne : ∀ g, (Value.slice Af nf' cf).ownBlock = some g → g ≠ wr.heap.size := fun g hg e => by have := h.far hg; omega
  have t := but_row w2 wr.heap.size (fsC ⟨nm, lk, hd, Ar, nr, cr, none, 0, 0⟩).toArray
  refine ⟨?_, h2.tmp hk ne h.low.size t, ?_, ⟨rfl, rfl, rfl, ?_, OwK.nil _ _ _ _ _⟩, ne, h.low.size⟩
  · simp only [Instr.storeAt, Instr.sureAddr, Sem.run_bind, Sem.run_pure, Result.andThen_ok]
    exact run_storeVar_row w2 wr.heap.size 42 42 fk0 _ hk (by kernel_rfl) rfl (by rw [← Array.all_toList]; rfl)
  · simp only [World.setRow, Array.getElem?_modify]
    rw [hk]; simp
  · have hr2 : OwR w2 w.heap.size (.slice Ar nr cr) refs := row_but hr (But.of_new hb) (fun _ _ h => h)
    exact row_but hr2 t (ownNe hr2 hk (by decide))
theorem FSt.new {bt : Nat} {x : Fs} {f : Fk} (h : FSt w wr b0 b1 m Ap np cp pool Af nf' cf acc lv lns bt x f) (hb : Below wr.heap.size wr wd) : FSt w wd b0 b1 m Ap np cp pool Af nf' cf acc lv lns bt x f :=
  ⟨h.d.new hb, (hb.block _ (lt_heap h.kt)).trans h.kt, h.fo.but (But.of_new hb) (fun _ _ _ h => h), h.ne, h.hi⟩
/-- Its packs are read. -/
theorem FSt.fill {bt : Nat} {nm hd : Bs} {lk : Bool} {Ar : Option Addr} {nr cr : Nat} {f : Fk} (h : FSt w wr b0 b1 m Ap np cp pool Af nf' cf acc lv lns bt ⟨nm, lk, hd, Ar, nr, cr, none, 0, 0⟩ f) (hf : f.packs = []) {sv : Value} {m2 : List Bs} (hrd : StrsR wr sv m2) (hl : m2.length ≤ 1000000) :
    ∃ A9 n9 q9 w9, (∀ ty, (Builtin.append_ #[22, 22] ty #[.slice none 0 0, sv]).run Tryz.prog wr = .ok (.slice A9 n9 q9) w9) ∧ wr.cell? ⟨bt, 4, none⟩ = some (.slice none 0 0) ∧
      (Instr.storeAt 22 (.pointer (some ⟨bt, 4, none⟩)) (.slice A9 n9 q9)).run Tryz.prog w9 = .ok () (w9.setCell ⟨bt, 4, none⟩ (.slice A9 n9 q9)) ∧
      FSt w (w9.setCell ⟨bt, 4, none⟩ (.slice A9 n9 q9)) b0 b1 m Ap np cp pool Af nf' cf acc lv lns bt ⟨nm, lk, hd, Ar, nr, cr, A9, n9, q9⟩ { f with packs := m2 } := by
  have ho : OwS wr w.heap.size (.slice none 0 0) [] := by have := h.fo.packs; rw [hf] at this; exact this
  obtain ⟨v9, w9, hr9, ho9, hg9⟩ := run_all' elStr ho hrd (by simpa using hl) (by decide) h.d.low.size
  obtain ⟨A9, n9, q9, rfl, -⟩ := Rf.OwK.shape ho9
  rw [List.nil_append] at ho9
  have hb9 : Below wr.heap.size wr w9 := ⟨hg9.os, hg9.tape, hg9.output, hg9.size, fun k hk => hg9.block k hk (fun e => by cases e)⟩
  have h9 := h.new hb9
  have t := but_set w9 bt 4 (.slice A9 n9 q9)
  have c9 : w9.cell? ⟨bt, 4, none⟩ = some (.slice none 0 0) := (cell_of_row w9 bt 4 _ _ _ h9.kt).trans rfl
  have f9 : w9.frozen? ⟨bt, 4, none⟩ = false := frz h9.kt
  refine ⟨A9, n9, q9, w9, hr9, (cell_of_row wr bt 4 _ _ _ h.kt).trans rfl, by simp [go_sem, c9, f9], h9.d.tmp h9.kt h9.ne h9.hi t, (blk_set h9.kt _).trans rfl, ⟨h9.fo.name, h9.fo.linked, h9.fo.head, row_but h9.fo.refs t (ownNe h9.fo.refs h9.kt (by decide)), row_but ho9 t (ownNe ho9 h9.kt (by decide))⟩, h.ne, h.hi⟩
/-- It stands behind the others. -/
theorem FSt.push {bt : Nat} {x : Fs} {f : Fk} (h : FSt w wr b0 b1 m Ap np cp pool Af nf' cf acc lv lns bt x f) (hl : acc.length + 1 ≤ 1000000) (h01 : b0 ≠ b1) (h1 : w.heap.size ≤ b1) :
    ∃ w8 A9 n9 q9 w9, w8 = wr.alloc (.cells (fsC x).toArray 42) ∧ (wr.cell? ⟨b1, 2, none⟩ = some (.slice Af nf' cf)) ∧ (Instr.buildSlice 23 1 #[(0, fkV x.fc)]).run Tryz.prog wr = .ok (.slice (some ⟨wr.heap.size, 0, none⟩) 1 1) w8 ∧
      (∀ ty, (Builtin.append_ #[23, 23] ty #[.slice Af nf' cf, .slice (some ⟨wr.heap.size, 0, none⟩) 1 1]).run Tryz.prog w8 = .ok (.slice A9 n9 q9) w9) ∧
      (Instr.storeAt 23 (.pointer (some ⟨b1, 2, none⟩)) (.slice A9 n9 q9)).run Tryz.prog w9 = .ok () (w9.setCell ⟨b1, 2, none⟩ (.slice A9 n9 q9)) ∧
      (w9.cell? ⟨b1, 2, none⟩ = some (.slice Af nf' cf) ∧ w9.frozen? ⟨b1, 2, none⟩ = false ∧ w8.cell? ⟨b1, 2, none⟩ = some (.slice Af nf' cf)) ∧ DSt w (w9.setCell ⟨b1, 2, none⟩ (.slice A9 n9 q9)) b0 b1 m Ap np cp pool A9 n9 q9 (acc ++ [f]) lv lns := by
  obtain ⟨w8, hw8⟩ : ∃ y, y = wr.alloc (.cells (fsC x).toArray 42) := ⟨_, rfl⟩
  have hb8 : (Instr.buildSlice 23 1 #[(0, fkV x.fc)]).run Tryz.prog wr = .ok (.slice (some ⟨wr.heap.size, 0, none⟩) 1 1) w8 := by
    rw [hw8]; exact bs_fk wr _ _ _ _ _
  have l8 : Below wr.heap.size wr w8 := by rw [hw8]; exact below_new _ _
  have rd8 : RdK 5 fsC w8 (.slice (some ⟨wr.heap.size, 0, none⟩) 1 1) [x] := by rw [hw8]; exact Rf.row_new fsC_len wr _ [x] _ (by simp) 1 rfl
  have h8 := h.new l8
  obtain ⟨xs, ho, hlen, hel⟩ := h8.d.fs
  obtain ⟨v9, w9, hr9, ho9, hg9⟩ := run_all' elFork ho rd8 (by rw [hlen]; simpa using hl) (by decide) (Nat.le_trans h.d.low.size l8.size)
  obtain ⟨A9, n9, q9, rfl, -⟩ := Rf.OwK.shape ho9
  have fs9 : FksO w9 w.heap.size (.slice A9 n9 q9) (acc ++ [f]) := FksO.snoc ho hlen hel h8.fo ho9 hg9
  have t9 : But (fun k => (Value.slice Af nf' cf).ownBlock = some k) w8 w9 := (But.of_grown hg9).mono fun k _ h => h
  have nb : ∀ b cs t fr, w8.heap[b]? = some (.cells cs t fr) → t ≠ 42 → ¬ ((Value.slice Af nf' cf).ownBlock = some b) := fun b cs t fr hb ht e => ownNe ho hb ht b e rfl
  have k1 := (t9.block b1 (lt_heap h8.d.k1) (nb _ _ _ _ h8.d.k1 (by decide))).trans h8.d.k1
  have k0 := (t9.block b0 (lt_heap h8.d.k0) (nb _ _ _ _ h8.d.k0 (by decide))).trans h8.d.k0
  have op9 := row_but h8.d.op t9 fun g hg e => by
    obtain ⟨_, _, cur, hc⟩ := own_block h8.d.op hg
    exact nb _ _ _ _ hc (by decide) e
  have ln9 := row_but h8.d.ln t9 fun g hg e => by
    obtain ⟨_, _, cur, hc⟩ := own_block h8.d.ln hg
    exact nb _ _ _ _ hc (by decide) e
  have low9 : Below w.heap.size w w9 := h8.d.low.trans (t9.below (fun k _ e => (own_block ho e).1) h8.d.low.size)
  have c9 : w9.cell? ⟨b1, 2, none⟩ = some (.slice Af nf' cf) := (cell_of_row w9 b1 2 _ _ _ k1).trans rfl
  have t10 := but_set w9 b1 2 (.slice A9 n9 q9)
  refine ⟨w8, A9, n9, q9, w9, hw8, (cell_of_row wr b1 2 _ _ _ h.d.k1).trans rfl, hb8, hr9, s_Fl w9 b1 2 A9 n9 q9 _ c9 (frz k1), ⟨c9, frz k1, (cell_of_row w8 b1 2 _ _ _ h8.d.k1).trans rfl⟩, ?_⟩
  refine ⟨(blk_set k1 _).trans rfl, (t10.block b0 (lt_heap k0) h01).trans k0, fs9.but t10 fun g _ hg e => ?_, row_but op9 t10 (ownNe op9 k1 (by decide)), row_but ln9 t10 (ownNe ln9 k1 (by decide)), low9.trans (t10.below (B := w.heap.size) (fun k _ e => by omega) low9.size)⟩
  subst e
  rcases hg with ⟨cs', fr, hg⟩ | ⟨cs', fr, hg⟩ | ⟨cs', fr, hg⟩ <;> (rw [k1] at hg; cases hg)
end
end Go.Proofs.YtnboagmibhllpaaGreatDoor.Ro
