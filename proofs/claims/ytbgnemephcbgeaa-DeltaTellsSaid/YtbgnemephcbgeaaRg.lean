/-
  A range over an iterator, out of its body.
-/
import Derived.Test.YtbgnemephcbgeaaSt
import Derived.RangeFuncNested
import Derived.RangeFuncLeaves
import Derived.Shelf.RegionOpen
import Derived.OwnWalkIn
import Derived.TacticsInMore
import Derived.LoopNIn
import Derived.LoopIn
namespace Go.Proofs.Ytbgnemephcbgeaa
open Go Go.RowKit Go.Shelf

/-- How a round's body may be left. -/
def bpost {σ : Type} (I : σ → (Nat → Prop) → World → Prop) (Ix : (Nat → Prop) → World → Prop) (s : σ) (C : Nat → Prop) (W : World) : Exit → Go.Act → World → Prop
  | .normal, _, W' => ∃ C', I s C' W' ∧ But C W W' ∧ ∀ k, C' k → C k ∨ W.heap.size ≤ k
  | .ret, _, W' => ∃ C', Ix C' W' ∧ But C W W' ∧ ∀ k, C' k → C k ∨ W.heap.size ≤ k
  | _, _, _ => False

/-- What the body of a loop over it does in a round. -/
structure Rnd {σ : Type} (Step : σ → Array Value → σ → World → Prop) (l B : Nat) (J : σ → (Nat → Prop) → World → Prop) (Jx : World → Prop) : Prop where
  st : ∀ s C w w', J s C w → But (fun k => B ≤ k ∧ ¬ C k) w w' → J s C w'
  lt : ∀ s C w, J s C w → ∀ k, C k → k < w.heap.size
  rd : ∀ s C vs s' W, J s C W → Step s vs s' W → YieldAt Fence.wide 5 Try.prog l vs W fun e W' =>
    (e = .returned (.bool true) ∧ ∃ C', J s' C' W' ∧ But C W W' ∧ ∀ k, C' k → C k ∨ W.heap.size ≤ k) ∨ (e = .returned (.bool false) ∧ Jx W')

/-- What an iterator does. -/
def Iter {σ : Type} (Step : σ → Array Value → σ → World → Prop) (End : σ → Prop) (s0 : σ) (f : FuncId) (caps : Array Value) (w : World) (C0 : Nat → Prop) : Prop :=
  ∀ (l : Nat) (W : World) (C1 : Nat → Prop) (J : σ → (Nat → Prop) → World → Prop) (Jx : World → Prop), Rnd Step l W.heap.size J Jx → Below w.heap.size w W → (∀ k, C1 k → C0 k ∨ w.heap.size ≤ k) → J s0 C1 W →
    Calls Try.prog f (#[.func (.yield l) #[] #[]] ++ caps) W fun e W' => (∃ v, e = .returned v) ∧ ((∃ s C, End s ∧ J s C W') ∨ Jx W')

/-- The range. -/
theorem range_gen {σ : Type} {Step : σ → Array Value → σ → World → Prop} {End : σ → Prop} {s0 : σ} {f : FuncId} {caps : Array Value} {w : World} {C0 : Nat → Prop} {g : Operand} {ps : Array Tmp} {assign body : Code} {Q : Exit → Go.Act → World → Prop} {a : Go.Act}
    (hg : a.eval g = .func (.func f) #[] caps) (ef : ∀ args w, (callFunc f args).run Try.prog w = .ok (.enter f args) w) (hps : ∀ s vs s' W, Step s vs s' W → vs.size = ps.size) (hit : Iter Step End s0 f caps w C0)
    (I : σ → (Nat → Prop) → World → Prop) (Ix : (Nat → Prop) → World → Prop)
    (hst : ∀ s C W W', I s C W → But (fun k => w.heap.size ≤ k ∧ ¬ C k) W W' → I s C W') (hstx : ∀ C W W' (l : Nat), w.heap.size ≤ l → Ix C W → (∃ r, W.heap[l]? = some (.loop r)) → But (fun k => k = l) W W' → Ix C W')
    (hlt : ∀ s C W, I s C W → ∀ k, C k → k < W.heap.size) (h0 : I s0 C0 w)
    (hround : ∀ (l : Nat) (s : σ) (C : Nat → Prop) (vs : Array Value) (s' : σ) (W : World), I s C W → Step s vs s' W → w.heap.size ≤ l → l < W.heap.size → ¬ C l → (∃ r, W.heap[l]? = some (.loop r)) →
      assign.wpIn (Fence.wide.inRound l) 5 Try.prog (Exit.then (fun a1 Wa => Below W.heap.size W Wa ∧ ∀ Wb, But (fun k => k = l) Wa Wb → body.wpIn (Fence.wide.inRound l) 5 Try.prog (bpost I Ix s' C Wb) a1 Wb) (fun _ _ _ => False)) { tmps := (ps.zip vs).foldl (fun tmps (t, a) => tmps.setIfInBounds t a) a.tmps, defers := [] } W)
    (hdone : ∀ (D : Nat) (s : σ) (C : Nat → Prop) (W : World), w.heap.size ≤ D → ¬ C D → End s → I s C W → W.heap[D]? = some (.deferred (some [])) → Q .normal { a with defers := { target := .collected D, args := #[] } :: a.defers } W)
    (hstop : ∀ (D : Nat) (C : Nat → Prop) (W : World), w.heap.size ≤ D → ¬ C D → Ix C W → W.heap[D]? = some (.deferred (some [])) → Code.ret.wp Try.prog Q { a with defers := { target := .collected D, args := #[] } :: a.defers } W) :
    (Code.rangeFunc g ps assign body).wp Try.prog Q a w := by
  refine (wpIn_wide (n := 7)).1 (wpIn_rangeFunc fun fn hfn => ?_)
  obtain ⟨rec, hrec⟩ : ∃ rec : LoopState → Option Code → Loop, rec = fun st pe => { state := st, pending := pe, fn, tmps := a.tmps, params := ps, assign, body, defers := w.heap.size } := ⟨_, rfl⟩
  obtain ⟨l, hl⟩ : ∃ l, l = w.heap.size + 1 := ⟨_, rfl⟩
  obtain ⟨W1, hW1⟩ : ∃ W1, W1 = (w.alloc (.deferred (some []))).alloc (.loop (rec .ready none)) := ⟨_, rfl⟩
  have hz1 : W1.heap.size = l + 1 := by rw [hW1, hl]; simp
  have hbW : Below w.heap.size w W1 := by rw [hW1]; exact (below_new w _).alloc (by simp) _
  have hL1 : W1.heap[l]? = some (.loop (rec .ready none)) := by
    rw [hW1, hl]; have := World.alloc_heap_new (w.alloc (.deferred (some []))) (.loop (rec .ready none)); rwa [World.size_alloc] at this
  have hD1 : W1.heap[w.heap.size]? = some (.deferred (some [])) := by
    rw [hW1]; exact (Below.heap_alloc _ _ _ (by simp)).trans (World.alloc_heap_new w _)
  have hC0 : ∀ k, C0 k → k < w.heap.size := fun k hk => hlt _ _ _ h0 k hk
  -- what the iterator is told of the loop
  refine ⟨l, [{ target := .collected w.heap.size, args := #[] }], W1, { target := .fn (.func f) caps, args := #[.func (.yield l) #[] #[]] }, W1, f, #[.func (.yield l) #[] #[]] ++ caps, W1, ?_, ?_, fun _ _ => trivial, ?_, fun _ => by omega, callsIn_wide.2 ?_⟩
  · rw [hW1, hrec, hl]; exact run_enterLoop_outer _ _ _ _ _
  · simp only [resolve, hg]
    simp [go_sem]
  · simp [invoke, go_sem, ef]
  have hrd : Rnd Step l W1.heap.size
      (fun pre C' W => ∃ C, (∀ k, C' k ↔ C k ∨ k = l) ∧ I pre C W ∧ W.heap[l]? = some (.loop (rec .ready none)) ∧ W.heap[w.heap.size]? = some (.deferred (some [])) ∧ ¬ C l ∧ ¬ C w.heap.size)
      (fun W => ∃ C, Ix C W ∧ W.heap[l]? = some (.loop (rec .done (some .ret))) ∧ W.heap[w.heap.size]? = some (.deferred (some [])) ∧ ¬ C l ∧ ¬ C w.heap.size) := by
    refine ⟨?_, ?_, ?_⟩
    · rintro pre C' W W' ⟨C, h1, h2, h3, h4, h5, h6⟩ hb
      have hlW := lt_heap h3
      have hDW := lt_heap h4
      refine ⟨C, h1, hst _ _ _ _ h2 (hb.mono fun k _ hk => ⟨by omega, fun hc => hk.2 ((h1 k).2 (.inl hc))⟩), (hb.block l hlW (fun hk => by omega)).trans h3, (hb.block _ hDW (fun hk => by omega)).trans h4, h5, h6⟩
    · rintro pre C' W ⟨C, h1, h2, h3, _⟩ k hk
      rcases (h1 k).1 hk with hk | rfl
      · exact hlt _ _ _ h2 k hk
      · exact lt_heap h3
    · rintro s C' vs s' W ⟨C, h1, h2, h3, h4, h5, h6⟩ hstep
      have hlW := lt_heap h3
      have hDW := lt_heap h4
      have hy : (Instr.yield l vs).run Try.prog W = .ok (.round l fn ((ps.zip vs).foldl (fun tmps (t, a) => tmps.setIfInBounds t a) a.tmps) assign body) W := by
        have := run_yield (P := Try.prog) (args := vs) h3 (by rw [hrec]; exact hps _ _ _ _ hstep)
        rw [hrec] at this
        exact this
      refine ⟨fn, _, assign, body, hy, roundIn_of_wpIn hfn ?_⟩
      refine wpIn_mono (hround l s C vs s' W h2 hstep (by rw [hl]; omega) hlW h5 ⟨_, h3⟩) ?_
      rintro e1 a1 Wa hp1
      cases e1 with
      | normal => ?_
      | ret => exact hp1.elim
      | exit id => exact hp1.elim
      | goto t => exact hp1.elim
      | panic ch => exact hp1.elim
      | outgrown => exact hp1.elim
      obtain ⟨hba, hbod⟩ := hp1
      have hla : Wa.heap[l]? = some (.loop (rec .ready none)) := (hba.block l hlW).trans h3
      have hDa : Wa.heap[w.heap.size]? = some (.deferred (some [])) := (hba.block _ hDW).trans h4
      have hbr := run_beginRound (P := Try.prog) hla (by rw [hrec])
      obtain ⟨Wb, hWb⟩ : ∃ Wb, Wb = Wa.putObj l (.loop { rec .ready none with state := .busy }) := ⟨_, rfl⟩
      refine ⟨Wb, by rw [hWb]; exact hbr, ?_⟩
      have hbb : But (fun k => k = l) Wa Wb := by rw [hWb]; exact but_putObj Wa l _ rfl
      have hbab : But (fun k => k = l) W Wb := (But.of_new hba).trans hbb
      have hlb : Wb.heap[l]? = some (.loop { rec .ready none with state := .busy }) := by rw [hWb]; exact World.putObj_heap_same (lt_heap hla)
      have hDb : Wb.heap[w.heap.size]? = some (.deferred (some [])) := (hbb.block _ (lt_heap hDa) (by omega)).trans hDa
      refine wpIn_mono (hbod Wb hbb) ?_
      have fin : ∀ (jump : Option Code) (W3 : World), But C Wb W3 →
          (Instr.endRound l jump).run Try.prog W3 = .ok (.bool jump.isNone) (W3.putObj l (.loop (rec (if jump.isNone then .ready else .done) jump))) ∧
          (W3.putObj l (.loop (rec (if jump.isNone then .ready else .done) jump))).heap[l]? = some (.loop (rec (if jump.isNone then .ready else .done) jump)) ∧
          (W3.putObj l (.loop (rec (if jump.isNone then .ready else .done) jump))).heap[w.heap.size]? = some (.deferred (some [])) := fun jump W3 h => by
        have hl3 := (h.block l (lt_heap hlb) h5).trans hlb
        have := run_endRound (P := Try.prog) jump hl3
        rw [hrec] at this ⊢
        exact ⟨this, World.putObj_heap_same (lt_heap hl3), (World.putObj_heap_other (by omega)).trans ((h.block _ (lt_heap hDb) h6).trans hDb)⟩
      rintro e a3 W3 hp
      cases e with
      | normal =>
        obtain ⟨C2, hi3, hb3, hc3⟩ := hp
        obtain ⟨hr, hl4, hk4⟩ := fin none W3 hb3
        have hn2 : ∀ k, k < Wb.heap.size → ¬ C k → ¬ C2 k := fun k hk hn hc => (hc3 k hc).elim hn (fun h => by omega)
        have hl5 := hn2 l (lt_heap hlb) h5
        have hD5 := hn2 _ (lt_heap hDb) h6
        have hbe : But (fun k => k = l) W3 (W3.putObj l (.loop (rec (if (none : Option Code).isNone then .ready else .done) none))) := but_putObj W3 l _ rfl
        refine ⟨_, _, hr, .inl ⟨rfl, fun k => C2 k ∨ k = l, ⟨C2, fun k => Iff.rfl, hst _ _ _ _ hi3 (hbe.mono fun k _ hk => ⟨by omega, by rw [hk]; exact hl5⟩), hl4, hk4, hl5, hD5⟩, ?_, ?_⟩⟩
        · exact ((hbab.mono fun k _ hk => (h1 k).2 (.inr hk)).trans (hb3.mono fun k _ hk => (h1 k).2 (.inl hk))).trans (hbe.mono fun k _ hk => (h1 k).2 (.inr hk))
        · rintro k (hk | hk)
          · rcases hc3 k hk with h | h
            · exact .inl ((h1 k).2 (.inl h))
            · exact .inr (Nat.le_trans hbab.size h)
          · exact .inl ((h1 k).2 (.inr hk))
      | ret =>
        obtain ⟨C2, hi3, hb3, hc3⟩ := hp
        obtain ⟨hr, hl4, hk4⟩ := fin (some .ret) W3 hb3
        have hn2 : ∀ k, k < Wb.heap.size → ¬ C k → ¬ C2 k := fun k hk hn hc => (hc3 k hc).elim hn (fun h => by omega)
        have hl5 := hn2 l (lt_heap hlb) h5
        have hbe : But (fun k => k = l) W3 (W3.putObj l (.loop (rec (if (some Code.ret).isNone then .ready else .done) (some .ret)))) := but_putObj W3 l _ rfl
        exact ⟨_, _, hr, .inr ⟨rfl, C2, hstx _ _ _ l (by omega) hi3 ⟨_, (hb3.block l (lt_heap hlb) h5).trans hlb⟩ hbe, hl4, hk4, hl5, hn2 _ (lt_heap hDb) h6⟩⟩
      | exit id => exact hp.elim
      | goto t => exact hp.elim
      | panic ch => exact hp.elim
      | outgrown => exact hp.elim
  refine (hit l W1 (fun k => C0 k ∨ k = l) _ _ hrd hbW (fun k hk => hk.elim .inl (fun e => .inr (by omega))) ⟨C0, fun k => Iff.rfl, hst _ _ _ _ h0 (But.of_new hbW), hL1, hD1, fun h => by have := hC0 _ h; omega, fun h => by have := hC0 _ h; omega⟩).mono ?_
  rintro e W2 ⟨⟨v, rfl⟩, ⟨s, C', hrow, C, h1, h2, h3, h4, h5, h6⟩ | ⟨C, h2, h3, h4, h5, h6⟩⟩
  · have hbe : But (fun k => k = l) W2 (W2.putObj l (.loop { rec .ready none with state := .exhausted })) := but_putObj W2 l _ rfl
    refine ⟨none, W2.putObj l (.loop { rec .ready none with state := .exhausted }), by have := run_endLoop (P := Try.prog) h3 (by rw [hrec]; simp); rw [hrec] at this ⊢; exact this, ?_⟩
    exact hdone w.heap.size s C _ (Nat.le_refl _) h6 hrow (hst _ _ _ _ h2 (hbe.mono fun k _ hk => ⟨by omega, by rw [hk]; exact h5⟩)) ((World.putObj_heap_other (by omega)).trans h4)
  · have hbe : But (fun k => k = l) W2 (W2.putObj l (.loop { rec .done (some .ret) with state := .exhausted })) := but_putObj W2 l _ rfl
    refine ⟨some .ret, W2.putObj l (.loop { rec .done (some .ret) with state := .exhausted }), by have := run_endLoop (P := Try.prog) h3 (by rw [hrec]; simp); rw [hrec] at this ⊢; exact this, ?_⟩
    exact wpIn_wide.2 (hstop w.heap.size C _ (Nat.le_refl _) h6 (hstx _ _ _ l (by omega) h2 ⟨_, h3⟩ hbe) ((World.putObj_heap_other (by omega)).trans h4))
end Go.Proofs.Ytbgnemephcbgeaa
