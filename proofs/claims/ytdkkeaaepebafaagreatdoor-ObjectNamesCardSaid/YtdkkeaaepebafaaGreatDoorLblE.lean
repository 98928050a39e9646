/-
  readLabel's steps.
-/
import Derived.Test.YtdkkeaaepebafaaGreatDoorChgR
namespace Go.Proofs.YtdkkeaaepebafaaGreatDoor
open Go Go.RowKit Go.Shelf

/-- The blocks that readLabel lays, from N on; what the tag and its kind's word hold may turn. -/
structure LblEnv (w : World) (W : World) (di kd nm : List UInt8) : Prop where
  below : Below w.heap.size w W
  r0 : W.heap[w.heap.size]? = some (.cells #[.string ⟨#[]⟩, .int .i64 0, .string ⟨#[]⟩, .string ⟨#[]⟩] 42 (0, 0))
  l : W.heap[w.heap.size + 1]? = some (.cells #[SV di, .int .i64 0, SV nm, .string ⟨#[]⟩] 42 (0, 0))
  k : W.heap[w.heap.size + 2]? = some (.cells #[SV kd] 9 (0, 0))
  b3 : W.heap[w.heap.size + 3]? = some (.cells #[SV wObject] 9 (0, 0))
  b4 : W.heap[w.heap.size + 4]? = some (.cells #[.pointer (some ⟨w.heap.size + 1, 0, none⟩)] 115 (0, 0))
  b5 : W.heap[w.heap.size + 5]? = some (.cells #[SV wKind] 9 (0, 0))
  b6 : W.heap[w.heap.size + 6]? = some (.cells #[.pointer (some ⟨w.heap.size + 2, 0, none⟩)] 115 (0, 0))
  b7 : W.heap[w.heap.size + 7]? = some (.cells #[SV wName] 9 (0, 0))
  b8 : W.heap[w.heap.size + 8]? = some (.cells #[.pointer (some ⟨w.heap.size + 1, 2, none⟩)] 115 (0, 0))
  b9 : W.heap[w.heap.size + 9]? = some (.cells #[.string ⟨#[10]⟩] 9 (0, 0))
  b10 : W.heap[w.heap.size + 10]? = some (.cells #[.func (.func 99) #[] #[.pointer (some ⟨w.heap.size + 3, 0, none⟩), .pointer (some ⟨w.heap.size + 4, 0, none⟩)],
    .func (.func 99) #[] #[.pointer (some ⟨w.heap.size + 5, 0, none⟩), .pointer (some ⟨w.heap.size + 6, 0, none⟩)],
    .func (.func 99) #[] #[.pointer (some ⟨w.heap.size + 7, 0, none⟩), .pointer (some ⟨w.heap.size + 8, 0, none⟩)],
    .func (.func 102) #[] #[.pointer (some ⟨w.heap.size + 9, 0, none⟩)]] 113 (0, 0))
section
variable {w W W' : World} {di kd nm : List UInt8}
theorem LblEnv.turnL (h : LblEnv w W di kd nm) (hg : W.grownBy W' (some (w.heap.size + 1))) {di' nm' : List UInt8} (hc : W'.heap[w.heap.size + 1]? = some (.cells #[SV di', .int .i64 0, SV nm', .string ⟨#[]⟩] 42 (0, 0))) : LblEnv w W' di' kd nm' := by
  have k : ∀ j, j ≠ 1 → ∀ o, W.heap[w.heap.size + j]? = some o → W'.heap[w.heap.size + j]? = some o := fun j hj o ho => (hg.block _ (lt_heap ho) (fun e => hj (by simp at e; omega))).trans ho
  exact ⟨h.below.grown hg h.below.size (fun k e => by cases e; omega), k 0 (by omega) _ h.r0, hc, k 2 (by omega) _ h.k, k 3 (by omega) _ h.b3, k 4 (by omega) _ h.b4, k 5 (by omega) _ h.b5, k 6 (by omega) _ h.b6, k 7 (by omega) _ h.b7, k 8 (by omega) _ h.b8, k 9 (by omega) _ h.b9, k 10 (by omega) _ h.b10⟩
theorem LblEnv.turnK (h : LblEnv w W di kd nm) (hg : W.grownBy W' (some (w.heap.size + 2))) {kd' : List UInt8} (hc : W'.heap[w.heap.size + 2]? = some (.cells #[SV kd'] 9 (0, 0))) : LblEnv w W' di kd' nm := by
  have k : ∀ j, j ≠ 2 → ∀ o, W.heap[w.heap.size + j]? = some o → W'.heap[w.heap.size + j]? = some o := fun j hj o ho => (hg.block _ (lt_heap ho) (fun e => hj (by simp at e; omega))).trans ho
  exact ⟨h.below.grown hg h.below.size (fun k e => by cases e; omega), k 0 (by omega) _ h.r0, k 1 (by omega) _ h.l, hc, k 3 (by omega) _ h.b3, k 4 (by omega) _ h.b4, k 5 (by omega) _ h.b5, k 6 (by omega) _ h.b6, k 7 (by omega) _ h.b7, k 8 (by omega) _ h.b8, k 9 (by omega) _ h.b9, k 10 (by omega) _ h.b10⟩
end
def lblRel (s0 : List UInt8) : Nat → List UInt8 → List UInt8 → List UInt8 → List UInt8 → Prop
  | 0, s, _, _, _ => s = s0
  | 1, s, di, _, _ => lineP wObject s0 = some (di, s)
  | 2, s, di, kd, _ => ∃ r1, lineP wObject s0 = some (di, r1) ∧ lineP wKind r1 = some (kd, s)
  | 3, s, di, kd, nm => ∃ r1 r2, lineP wObject s0 = some (di, r1) ∧ lineP wKind r1 = some (kd, r2) ∧ lineP wName r2 = some (nm, s)
  | _, s, di, kd, nm => rawL s0 = some ⟨di, kindOfW kd, nm, s⟩
def lblP (w : World) (s0 : List UInt8) (i : Nat) (s : List UInt8) (W : World) : Prop := s.length ≤ 100000 ∧ ∃ di kd nm, LblEnv w W di kd nm ∧ lblRel s0 i s di kd nm
def lblF (w : World) (s0 : List UInt8) (_ : Value) (W : World) : Prop := rawL s0 = none ∧ Below w.heap.size w W ∧ W.heap[w.heap.size]? = some (.cells #[.string ⟨#[]⟩, .int .i64 0, .string ⟨#[]⟩, .string ⟨#[]⟩] 42 (0, 0))
def lblG : Nat → FuncId
  | 0 => 99
  | 1 => 99
  | 2 => 99
  | _ => 102
def lblL (N : Nat) : Nat → Array Value
  | 0 => #[.pointer (some ⟨N + 3, 0, none⟩), .pointer (some ⟨N + 4, 0, none⟩)]
  | 1 => #[.pointer (some ⟨N + 5, 0, none⟩), .pointer (some ⟨N + 6, 0, none⟩)]
  | 2 => #[.pointer (some ⟨N + 7, 0, none⟩), .pointer (some ⟨N + 8, 0, none⟩)]
  | _ => #[.pointer (some ⟨N + 9, 0, none⟩)]

theorem lbl_step (w : World) (he : Er w) (s0 : List UInt8) : ∀ i s W, i < 4 → lblP w s0 i s W → Calls Tryz.prog (lblG i) (#[.string ⟨s.toArray⟩] ++ lblL w.heap.size i) W (StepPost (lblP w s0 (i + 1)) (lblF w s0)) := by
  have hgl : 1 < w.heap.size := by
    obtain ⟨a, h⟩ := he.wrong; exact World.block_lt_of_cell? w _ h
  intro i s W hi hP
  obtain ⟨hs, di, kd, nm, E, R⟩ := hP
  have heW := he.below E.below
  match i, hi, R with
  | 0, _, R =>
    have e0 : s = s0 := R
    subst e0
    refine (line_any s wObject (by omega) W heW (w.heap.size + 3) (w.heap.size + 4) (w.heap.size + 1) 0 _ (cell_of_blk' E.b3 rfl) (cell_of_blk' E.b4 rfl) (cell_of_blk' E.l rfl) (frozen_of_blk' E.l) (by omega) (by omega) (by omega)).mono ?_
    rintro e w' (⟨q, rfl, a, h1, h2⟩ | ⟨x, p, rfl, h1, h2, _⟩)
    · exact .inl ⟨q, rfl, by have := lineP_len h1; omega, a, _, _, E.turnL h2.1 (by have := h2.2 _ _ E.l; simpa using this), h1⟩
    · refine .inr ⟨_, p, rfl, by unfold rawL; rw [h1], E.below.grown h2 E.below.size (fun k e => by cases e; omega), (h2.block _ (lt_heap E.r0) (fun e => by simp at e)).trans E.r0⟩
  | 1, _, R =>
    have e0 : lineP wObject s0 = some (di, s) := R
    refine (line_any s wKind (by omega) W heW (w.heap.size + 5) (w.heap.size + 6) (w.heap.size + 2) 0 _ (cell_of_blk' E.b5 rfl) (cell_of_blk' E.b6 rfl) (cell_of_blk' E.k rfl) (frozen_of_blk' E.k) (by omega) (by omega) (by omega)).mono ?_
    rintro e w' (⟨q, rfl, a, h1, h2⟩ | ⟨x, p, rfl, h1, h2, _⟩)
    · exact .inl ⟨q, rfl, by have := lineP_len h1; omega, _, a, _, E.turnK h2.1 (by have := h2.2 _ _ E.k; simpa using this), s, e0, h1⟩
    · refine .inr ⟨_, p, rfl, by unfold rawL; rw [e0]; simp only; rw [h1], E.below.grown h2 E.below.size (fun k e => by cases e; omega), (h2.block _ (lt_heap E.r0) (fun e => by simp at e)).trans E.r0⟩
  | 2, _, R =>
    obtain ⟨r1, e0, e1⟩ := R
    refine (line_any s wName (by omega) W heW (w.heap.size + 7) (w.heap.size + 8) (w.heap.size + 1) 2 _ (cell_of_blk' E.b7 rfl) (cell_of_blk' E.b8 rfl) (cell_of_blk' E.l rfl) (frozen_of_blk' E.l) (by omega) (by omega) (by omega)).mono ?_
    rintro e w' (⟨q, rfl, a, h1, h2⟩ | ⟨x, p, rfl, h1, h2, _⟩)
    · exact .inl ⟨q, rfl, by have := lineP_len h1; omega, _, _, a, E.turnL h2.1 (by have := h2.2 _ _ E.l; simpa using this), r1, s, e0, e1, h1⟩
    · refine .inr ⟨_, p, rfl, by unfold rawL; rw [e0]; simp only; rw [e1]; simp only; rw [h1], E.below.grown h2 E.below.size (fun k e => by cases e; omega), (h2.block _ (lt_heap E.r0) (fun e => by simp at e)).trans E.r0⟩
  | 3, _, R =>
    obtain ⟨r1, r2, e0, e1, e2⟩ := R
    have er : rawL s0 = (tailP s).map fun x => ⟨di, kindOfW kd, nm, x⟩ := by unfold rawL; rw [e0]; simp only; rw [e1]; simp only; rw [e2]
    by_cases hp : ([10] : List UInt8).isPrefixOf s = true
    · refine (past_yes s [10] (w.heap.size + 9) W (cell_of_blk' E.b9 rfl) heW hp).mono ?_
      rintro e w' ⟨rfl, rfl⟩
      obtain ⟨q, hq⟩ := pre_iff.1 hp
      refine .inl ⟨q, by rw [hq]; rfl, by rw [hq] at hs; simp at hs; omega, di, kd, nm, E, ?_⟩
      show rawL s0 = _
      rw [er, hq]; rfl
    · obtain ⟨a, b, _, _, c3⟩ := heW.two
      refine (past_no s [10] (w.heap.size + 9) W (cell_of_blk' E.b9 rfl) _ c3 (Bool.eq_false_iff.2 hp)).mono ?_
      rintro e w' ⟨rfl, rfl⟩
      refine .inr ⟨_, _, rfl, ?_, E.below.trans ((below_new W _).mono E.below.size), ((below_new W _).block _ (lt_heap E.r0)).trans E.r0⟩
      rw [er]
      cases s with
      | nil => rfl
      | cons b s =>
        rw [tailP, if_neg]
        · rfl
        · intro h; subst h; exact hp (by simp)
end Go.Proofs.YtdkkeaaepebafaaGreatDoor
