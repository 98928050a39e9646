/-
  RootLess: a root's box, changed; what a changed root fits.
-/
import Derived.Test.YtnboagmibhllpaaGreatDoorOLessP
namespace Go.Proofs.YtnboagmibhllpaaGreatDoor.Ro
open Go.Proofs.YtnboagmibhllpaaGreatDoor
open Go.Proofs.YtnboagmibhllpaaGreatDoor.Rf (BoolB Ref RefsR)
open Go Go.RowKit

theorem row_set {w : World} {b i : Nat} {cs : Array Value} {t : TypeId} {v : Value} (h : w.heap[b]? = some (.cells cs t (0, 0))) : (w.setCell ⟨b, i, none⟩ v).heap[b]? = some (.cells (cs.setIfInBounds i v) t (0, 0)) := by
  have hlt := lt_of_block h
  have h' : w.heap[b] = .cells cs t (0, 0) := by simpa [Array.getElem?_eq_getElem hlt] using h
  show (w.heap.modify b _)[b]? = _
  rw [Array.getElem?_eq_getElem (by simpa using hlt), Array.getElem_modify_self, h']
  rfl
theorem box_forks {w : World} {b : Nat} {z : Int} {A B B' : Option Addr} {n c m d m' d' : Nat} {r' : Rt} (hk : w.heap[b]? = some (.cells #[.int .i64 z, .slice A n c, .slice B m d] 25 (0, 0)))
    (hr : RtR (w.setCell ⟨b, 2, none⟩ (.slice B' m' d')) (.agg #[.int .i64 z, .slice A n c, .slice B' m' d']) r') : RtB (w.setCell ⟨b, 2, none⟩ (.slice B' m' d')) b r' :=
  ⟨z, A, n, c, B', m', d', (cell_of_row _ b 0 _ _ _ (row_set hk)).trans rfl, (cell_of_row _ b 1 _ _ _ (row_set hk)).trans rfl, (cell_of_row _ b 2 _ _ _ (row_set hk)).trans rfl, hr⟩
theorem box_pool {w : World} {b : Nat} {z : Int} {A A' B : Option Addr} {n c m d n' c' : Nat} {r' : Rt} (hk : w.heap[b]? = some (.cells #[.int .i64 z, .slice A n c, .slice B m d] 25 (0, 0)))
    (hr : RtR (w.setCell ⟨b, 1, none⟩ (.slice A' n' c')) (.agg #[.int .i64 z, .slice A' n' c', .slice B m d]) r') : RtB (w.setCell ⟨b, 1, none⟩ (.slice A' n' c')) b r' :=
  ⟨z, A', n', c', B, m, d, (cell_of_row _ b 0 _ _ _ (row_set hk)).trans rfl, (cell_of_row _ b 1 _ _ _ (row_set hk)).trans rfl, (cell_of_row _ b 2 _ _ _ (row_set hk)).trans rfl, hr⟩
theorem rt_forks {w w' : World} {z : Int} {A B B' : Option Addr} {n c m d m' d' : Nat} {r : Rt} {l : List Fk} (h : RtR w (.agg #[.int .i64 z, .slice A n c, .slice B m d]) r) (hb : Below w.heap.size w w') (hl : FksR w' (.slice B' m' d') l) : RtR w' (.agg #[.int .i64 z, .slice A n c, .slice B' m' d']) { r with forks := l } := by
  obtain ⟨pv, fv, e, h1, h2⟩ := h
  cases e
  exact ⟨_, _, rfl, RdK.below h1 hb (Nat.le_refl _), hl⟩
theorem rt_pool {w w' : World} {z : Int} {A A' B : Option Addr} {n c m d n' c' : Nat} {r : Rt} {l : List Bs} (h : RtR w (.agg #[.int .i64 z, .slice A n c, .slice B m d]) r) (hb : Below w.heap.size w w') (hl : StrsR w' (.slice A' n' c') l) : RtR w' (.agg #[.int .i64 z, .slice A' n' c', .slice B m d]) { r with pool := l } := by
  obtain ⟨pv, fv, e, h1, h2⟩ := h
  cases e
  exact ⟨_, _, rfl, hl, h2.below hb (Nat.le_refl _)⟩
theorem strs_oneR (W : World) (x : Bs) : StrsR (W.alloc (.cells #[.string ⟨x.toArray⟩] 9)) (.slice (some ⟨W.heap.size, 0, none⟩) 1 1) [x] :=
  .inr ⟨W.heap.size, 0, 1, rfl, Nat.le_refl _, by simp, fun j hj y hy i hi => by
    obtain rfl : j = 0 := by simpa using hj
    obtain rfl : i = 0 := by omega
    cases hy
    exact (cell_of_row _ _ 0 _ _ _ (heap_alloc_new W _)).trans rfl⟩
theorem below_grown {b : Nat} {w w' : World} {base : Nat} {t : TypeId} {v : Value} {l : List Bs} (h : OwK t 1 strC w base v l) (hb : b ≤ base) (hw : b ≤ w.heap.size) (hg : w.grownBy w' v.ownBlock) : Below b w w' :=
  ⟨hg.os, hg.tape, hg.output, hg.size, fun j hj => hg.block j (by omega) fun e => by have := (own_block h e.symm).1; omega⟩
theorem fit_forks {r : Rt} {l : List Fk} (h : FitR r) (hl : ∀ f ∈ l, f ∈ r.forks) (hn : l.length ≤ 1000000) : FitR { r with forks := l } := ⟨h.pool, h.plen, fun f hf => h.forks f (hl f hf), hn, h.c0, h.c1⟩
theorem fit_pool {r : Rt} {id : Bs} (h : FitR r) (hid : id.length ≤ maxLen) (hn : r.pool.length + 1 ≤ 1000000) : FitR { r with pool := r.pool ++ [id] } := by
  refine ⟨fun x hx => ?_, by simpa using hn, h.forks, h.flen, h.c0, h.c1⟩
  rcases List.mem_append.1 hx with hx | hx
  · exact h.pool x hx
  · rw [List.mem_singleton.1 hx]; exact hid
/-- One that stands in the row, laid together by itself. -/
theorem one_row {w : World} {g o : Nat} {y : Fs} (h : ∀ i, i < 5 → w.cell? ⟨g, o + i, none⟩ = (fsC y)[i]?) : ∀ j u, (([y] : List Fs).flatMap fsC)[j]? = some u → w.cell? ((⟨g, o, none⟩ : Addr).add j) = some u := fun j u hj => by
  have hj' : (fsC y)[j]? = some u := by simpa using hj
  have hlt : j < 5 := by have := (List.getElem?_eq_some_iff.1 hj').1; rw [fsC_len] at this; exact this
  rw [Go.WideShapes.add_plain]
  exact (h j hlt).trans hj'
theorem find_pos {r : Rt} (h : RtOk r) {k : Nat} {f : Fk} (hf : r.forks[k]? = some f) : findF r.forks f.name = (k : Int) := findF_at h.forks.rise hf
theorem sl_lo (W : World) (A : Option Addr) (n c k : Nat) (hk : k ≤ c) : (Instr.sliceAt 23 (.slice A n c) none (some (.int .i64 (k : Int))) none).run Tryz.prog W = .ok (.slice A k c) W := fcut_lo W A n c k hk
theorem add_k (W : World) (k : Nat) (h : k ≤ 1000000) : (binOp .add 3 (.int .i64 (k : Int)) (.int .i64 1)).run Tryz.prog W = .ok (.int .i64 ((k + 1 : Nat) : Int)) W := by
  have h2 : IntKind.i64.wrap ((k : Int) + 1) = (k : Int) + 1 := IntWalk.i64_in _ (by omega)
  simp [go_sem, h2]
theorem s_Fl2 (W : World) (b i : Nat) (A : Option Addr) (n c : Nat) (u : Value) (h : W.cell? ⟨b, i, none⟩ = some u) (hf : W.frozen? ⟨b, i, none⟩ = false) : (Instr.storeAt 23 (.pointer (some ⟨b, i, none⟩)) (.slice A n c)).run Tryz.prog W = .ok () (W.setCell ⟨b, i, none⟩ (.slice A n c)) := by
  simp [go_sem, h, hf]
theorem fld2 (W : World) (b : Nat) : (Instr.fieldAt 25 (.pointer (some ⟨b, 0, none⟩)) 2).run Tryz.prog W = .ok (.pointer (some ⟨b, 2, none⟩)) W := by simp [go_sem]
theorem l_Root (W : World) (b : Nat) (x0 x1 x2 : Value) (h0 : W.cell? ⟨b, 0, none⟩ = some x0) (h1 : W.cell? ⟨b, 1, none⟩ = some x1) (h2 : W.cell? ⟨b, 2, none⟩ = some x2) :
    (Instr.loadAt 25 (.pointer (some ⟨b, 0, none⟩))).run Tryz.prog W = .ok (.agg #[x0, x1, x2]) W := by
  simp [go_sem, h0, h1, h2]
theorem geq_neg (W : World) : (binOp .geq 3 (.int .i64 (-1)) (.int .i64 0)).run Tryz.prog W = .ok (.bool false) W := by simp [go_sem]
theorem neq_self (W : World) (k : Nat) : (binOp .neq 3 (.int .i64 (k : Int)) (.int .i64 (k : Int))).run Tryz.prog W = .ok (.bool false) W := by simp [go_sem]
theorem lit_kept {α : Type} {f : α → List Value} {x : α} {W W' : World} {g : Nat} (h : ∀ j u, (([x] : List α).flatMap f)[j]? = some u → W.cell? ((⟨g, 0, none⟩ : Addr).add j) = some u) (hb : W'.heap[g]? = W.heap[g]?) :
    ∀ j u, (([x] : List α).flatMap f)[j]? = some u → W'.cell? ((⟨g, 0, none⟩ : Addr).add j) = some u := fun j u hj => by
  have h1 := h j u hj
  rw [Go.WideShapes.add_plain] at h1 ⊢
  rw [← h1]
  exact World.cell?_of_block (w := W) (a := ⟨g, 0 + j, none⟩) hb
end Go.Proofs.YtnboagmibhllpaaGreatDoor.Ro
