/-
  readChange's steps.
-/
import Derived.Test.YtdkkeaaepebafaaGreatDoorLines
import Derived.Test.YtdkkeaaepebafaaGreatDoorParents
namespace Go.Proofs.YtdkkeaaepebafaaGreatDoor
open Go Go.RowKit Go.Shelf

/-- The blocks that readChange lays, from N on; what the commit holds may turn. -/
structure ChgEnv (w : World) (W : World) (tr : List UInt8) (vp : Value) (ps : List (List UInt8)) (wh : List UInt8) : Prop where
  below : Below w.heap.size w W
  own : OwK 9 1 strC W (w.heap.size + 11) vp ps
  r0 : W.heap[w.heap.size]? = some (.cells #[.string ⟨#[]⟩, .slice none 0 0, .string ⟨#[]⟩, .string ⟨#[]⟩] 40 (0, 0))
  c : W.heap[w.heap.size + 1]? = some (.cells #[SV tr, vp, SV wh, .string ⟨#[]⟩] 40 (0, 0))
  b2 : W.heap[w.heap.size + 2]? = some (.cells #[SV wTree] 9 (0, 0))
  b3 : W.heap[w.heap.size + 3]? = some (.cells #[.pointer (some ⟨w.heap.size + 1, 0, none⟩)] 115 (0, 0))
  b4 : W.heap[w.heap.size + 4]? = some (.cells #[SV wParent] 9 (0, 0))
  b5 : W.heap[w.heap.size + 5]? = some (.cells #[.int .i64 8] 3 (0, 0))
  b6 : W.heap[w.heap.size + 6]? = some (.cells #[.pointer (some ⟨w.heap.size + 1, 1, none⟩)] 117 (0, 0))
  b7 : W.heap[w.heap.size + 7]? = some (.cells #[SV wWho] 9 (0, 0))
  b8 : W.heap[w.heap.size + 8]? = some (.cells #[.pointer (some ⟨w.heap.size + 1, 2, none⟩)] 115 (0, 0))
  b9 : W.heap[w.heap.size + 9]? = some (.cells #[.string ⟨#[10]⟩] 9 (0, 0))
  b10 : W.heap[w.heap.size + 10]? = some (.cells #[.func (.func 99) #[] #[.pointer (some ⟨w.heap.size + 2, 0, none⟩), .pointer (some ⟨w.heap.size + 3, 0, none⟩)],
    .func (.func 100) #[] #[.pointer (some ⟨w.heap.size + 6, 0, none⟩), .pointer (some ⟨w.heap.size + 5, 0, none⟩), .pointer (some ⟨w.heap.size + 4, 0, none⟩)],
    .func (.func 99) #[] #[.pointer (some ⟨w.heap.size + 7, 0, none⟩), .pointer (some ⟨w.heap.size + 8, 0, none⟩)],
    .func (.func 102) #[] #[.pointer (some ⟨w.heap.size + 9, 0, none⟩)]] 113 (0, 0))

theorem OwK.kept {b tb : Nat} {w w' : World} {v : Value} {l : List (List UInt8)} (h : OwK 9 1 strC w b v l) (hg : w.grownBy w' (some tb)) (ht : tb < b) : OwK 9 1 strC w' b v l := by
  obtain ⟨h1, h2⟩ := h
  refine ⟨h1, ?_⟩
  rcases h2 with h2 | ⟨g, cap, cur, rfl, hbg, hg2, r⟩
  · exact .inl h2
  · exact .inr ⟨g, cap, cur, rfl, hbg, (hg.block g (lt_heap hg2) (fun e => by cases e; omega)).trans hg2, r⟩
section
variable {w W W' : World} {tr wh : List UInt8} {vp : Value} {ps : List (List UInt8)}
theorem ChgEnv.lt (h : ChgEnv w W tr vp ps wh) : w.heap.size + 11 ≤ W.heap.size := lt_heap h.b10
/-- The commit's block turned, and nothing else that lay there. -/
theorem ChgEnv.turn (h : ChgEnv w W tr vp ps wh) (hg : W.grownBy W' (some (w.heap.size + 1))) {tr' wh' : List UInt8} {vp' : Value} {ps' : List (List UInt8)} (hc : W'.heap[w.heap.size + 1]? = some (.cells #[SV tr', vp', SV wh', .string ⟨#[]⟩] 40 (0, 0))) (ho : OwK 9 1 strC W' (w.heap.size + 11) vp' ps') : ChgEnv w W' tr' vp' ps' wh' := by
  have k : ∀ j, j ≠ 1 → ∀ o, W.heap[w.heap.size + j]? = some o → W'.heap[w.heap.size + j]? = some o := fun j hj o ho => (hg.block _ (lt_heap ho) (fun e => hj (by simp at e; omega))).trans ho
  exact ⟨h.below.grown hg h.below.size (fun k e => by cases e; omega), ho, k 0 (by omega) _ h.r0, hc, k 2 (by omega) _ h.b2, k 3 (by omega) _ h.b3, k 4 (by omega) _ h.b4, k 5 (by omega) _ h.b5, k 6 (by omega) _ h.b6, k 7 (by omega) _ h.b7, k 8 (by omega) _ h.b8, k 9 (by omega) _ h.b9, k 10 (by omega) _ h.b10⟩
end

/-- How far the steps have come. -/
def chgRel (s0 : List UInt8) : Nat → List UInt8 → List UInt8 → List (List UInt8) → List UInt8 → Prop
  | 0, s, _, ps, _ => s = s0 ∧ ps = []
  | 1, s, tr, ps, _ => lineP wTree s0 = some (tr, s) ∧ ps = []
  | 2, s, tr, ps, _ => ∃ r1, lineP wTree s0 = some (tr, r1) ∧ linesP wParent 8 r1 = some (ps, s)
  | 3, s, tr, ps, wh => ∃ r1 r2, lineP wTree s0 = some (tr, r1) ∧ linesP wParent 8 r1 = some (ps, r2) ∧ lineP wWho r2 = some (wh, s)
  | _, s, tr, ps, wh => rawC s0 = some ⟨tr, ps, wh, s⟩
def chgP (w : World) (s0 : List UInt8) (i : Nat) (s : List UInt8) (W : World) : Prop := s.length ≤ 100000 ∧ ∃ tr vp ps wh, ChgEnv w W tr vp ps wh ∧ chgRel s0 i s tr ps wh ∧ (i = 0 ∨ i = 1 → vp = .slice none 0 0)
def chgF (w : World) (s0 : List UInt8) (_ : Value) (W : World) : Prop := rawC s0 = none ∧ Below w.heap.size w W ∧ W.heap[w.heap.size]? = some (.cells #[.string ⟨#[]⟩, .slice none 0 0, .string ⟨#[]⟩, .string ⟨#[]⟩] 40 (0, 0))
def chgG : Nat → FuncId
  | 0 => 99
  | 1 => 100
  | 2 => 99
  | _ => 102
def chgL (N : Nat) : Nat → Array Value
  | 0 => #[.pointer (some ⟨N + 2, 0, none⟩), .pointer (some ⟨N + 3, 0, none⟩)]
  | 1 => #[.pointer (some ⟨N + 6, 0, none⟩), .pointer (some ⟨N + 5, 0, none⟩), .pointer (some ⟨N + 4, 0, none⟩)]
  | 2 => #[.pointer (some ⟨N + 7, 0, none⟩), .pointer (some ⟨N + 8, 0, none⟩)]
  | _ => #[.pointer (some ⟨N + 9, 0, none⟩)]
theorem linesP_len {word : List UInt8} {n : Nat} {s r : List UInt8} {l : List (List UInt8)} (h : linesP word n s = some (l, r)) : r.length ≤ s.length := by
  rw [linesP_some h]; simp
theorem frozen_of_blk' {W : World} {b i : Nat} {cs : Array Value} {t : TypeId} (h : W.heap[b]? = some (.cells cs t (0, 0))) : W.frozen? ⟨b, i, none⟩ = false := by
  simp [World.frozen?, h]

theorem chg_step (w : World) (he : Eb w) (s0 : List UInt8) : ∀ i s W, i < 4 → chgP w s0 i s W → Calls Tryz.prog (chgG i) (#[.string ⟨s.toArray⟩] ++ chgL w.heap.size i) W (StepPost (chgP w s0 (i + 1)) (chgF w s0)) := by
  have hgl : 1 < w.heap.size := by
    obtain ⟨a, h⟩ := he.er.wrong; exact World.block_lt_of_cell? w _ h
  intro i s W hi hP
  obtain ⟨hs, tr, vp, ps, wh, E, R, hv⟩ := hP
  have heW := he.below E.below
  match i, hi, R, hv with
  | 0, _, R, hv =>
    obtain ⟨e0, e1⟩ := R
    subst e0 e1
    obtain rfl := hv (.inl rfl)
    refine (line_any s wTree (by omega) W heW.er (w.heap.size + 2) (w.heap.size + 3) (w.heap.size + 1) 0 _ (cell_of_blk' E.b2 rfl) (cell_of_blk' E.b3 rfl) (cell_of_blk' E.c rfl) (frozen_of_blk' E.c) (by omega) (by omega) (by omega)).mono ?_
    rintro e w' (⟨q, rfl, a, h1, h2⟩ | ⟨x, p, rfl, h1, h2, _⟩)
    · exact .inl ⟨q, rfl, by have := lineP_len h1; omega, a, _, _, _, E.turn h2.1 (by have := h2.2 _ _ E.c; simpa using this) (E.own.kept h2.1 (by omega)), ⟨h1, rfl⟩, fun _ => rfl⟩
    · refine .inr ⟨_, p, rfl, by unfold rawC; rw [h1], E.below.grown h2 E.below.size (fun k e => by cases e; omega), (h2.block _ (lt_heap E.r0) (fun e => by simp at e)).trans E.r0⟩
  | 1, _, R, hv =>
    obtain ⟨e0, e1⟩ := R
    subst e1
    obtain rfl := hv (.inr rfl)
    refine (lines_any s wParent (by omega) W (w.heap.size + 6) (w.heap.size + 5) (w.heap.size + 4) (w.heap.size + 1) 1 _ _ (cell_of_blk' E.b6 rfl) (cell_of_blk' E.b5 rfl) (cell_of_blk' E.b4 rfl) E.c rfl (by omega) (by omega) (by omega) (fun W' hg => he.below (E.below.grown hg E.below.size (fun k e => by cases e; omega)))).mono ?_
    rintro e w' (⟨q, rfl, l, v, h1, h2, h3, h4⟩ | ⟨x, p, rfl, h1, h2⟩)
    · exact .inl ⟨q, rfl, by have := linesP_len h1; omega, tr, v, l, wh, E.turn h2 (by simpa using h3) (h4.mono E.lt), ⟨s, e0, h1⟩, fun h => by omega⟩
    · refine .inr ⟨_, p, rfl, by unfold rawC; rw [e0]; simp only; rw [h1], E.below.grown h2 E.below.size (fun k e => by cases e; omega), (h2.block _ (lt_heap E.r0) (fun e => by simp at e)).trans E.r0⟩
  | 2, _, R, hv =>
    obtain ⟨r1, e0, e1⟩ := R
    refine (line_any s wWho (by omega) W heW.er (w.heap.size + 7) (w.heap.size + 8) (w.heap.size + 1) 2 _ (cell_of_blk' E.b7 rfl) (cell_of_blk' E.b8 rfl) (cell_of_blk' E.c rfl) (frozen_of_blk' E.c) (by omega) (by omega) (by omega)).mono ?_
    rintro e w' (⟨q, rfl, a, h1, h2⟩ | ⟨x, p, rfl, h1, h2, _⟩)
    · exact .inl ⟨q, rfl, by have := lineP_len h1; omega, _, _, _, a, E.turn h2.1 (by have := h2.2 _ _ E.c; simpa using this) (E.own.kept h2.1 (by omega)), ⟨r1, s, e0, e1, h1⟩, fun h => by omega⟩
    · refine .inr ⟨_, p, rfl, by unfold rawC; rw [e0]; simp only; rw [e1]; simp only; rw [h1], E.below.grown h2 E.below.size (fun k e => by cases e; omega), (h2.block _ (lt_heap E.r0) (fun e => by simp at e)).trans E.r0⟩
  | 3, _, R, hv =>
    obtain ⟨r1, r2, e0, e1, e2⟩ := R
    have er : rawC s0 = (tailP s).map fun x => ⟨tr, ps, wh, x⟩ := by unfold rawC; rw [e0]; simp only; rw [e1]; simp only; rw [e2]
    by_cases hp : ([10] : List UInt8).isPrefixOf s = true
    · refine (past_yes s [10] (w.heap.size + 9) W (cell_of_blk' E.b9 rfl) heW.er hp).mono ?_
      rintro e w' ⟨rfl, rfl⟩
      obtain ⟨q, hq⟩ := pre_iff.1 hp
      refine .inl ⟨q, by rw [hq]; rfl, by rw [hq] at hs; simp at hs; omega, tr, vp, ps, wh, E, ?_, fun h => by omega⟩
      show rawC s0 = _
      rw [er, hq]; rfl
    · obtain ⟨a, b, _, _, c3⟩ := heW.er.two
      refine (past_no s [10] (w.heap.size + 9) W (cell_of_blk' E.b9 rfl) _ c3 (Bool.eq_false_iff.2 hp)).mono ?_
      rintro e w' ⟨rfl, rfl⟩
      refine .inr ⟨_, _, rfl, ?_, E.below.trans ((below_new W _).mono E.below.size), ((below_new W _).block _ (lt_heap E.r0)).trans E.r0⟩
      rw [er]
      cases s with
      | nil => rfl
      | cons b s =>
        rw [tailP, if_neg]
        · rfl
        · intro h; subst h; exact hp (by simp)
end Go.Proofs.YtdkkeaaepebafaaGreatDoor
