/-
  Plain: what the head's calls answer.
  A range over the names that are gone after: the loop, out of its body.
  Closure.
-/
import Derived.Test.YtialgldmogigfaaGreatDoorC10
import Derived.Test.YtialgldmogigfaaGreatDoorC21
import Derived.Test.YtialgldmogigfaaGreatDoorC22
import Derived.Test.YtialgldmogigfaaGreatDoorC04

namespace Go.Proofs.YtialgldmogigfaaGreatDoor
def hT : Hld := ⟨nT, 2, tdT⟩
def hB : Hld := ⟨nB, 1, [120]⟩
def L0 : List Hld := [hT, hB, hB]
theorem set_L0 : setL [(2, tdT), (1, [120]), (1, [120]), (9, [])] = L0 := by
  unfold setL
  simp only [List.flatMap_cons, List.flatMap_nil, id_T, id_B, id_9, if_neg nT_ne, if_neg nB_ne, if_true]
  rfl
theorem find_L0 (s : Bs) : findL L0 s = if s = nT then some hT else if s = nB then some hB else none := by
  unfold L0
  rw [findL_cons, findL_cons, findL_cons]
  by_cases e : s = nT
  · rw [if_pos e, e, if_pos (show hT.id = nT from rfl)]
  · rw [if_neg e, if_neg (show ¬ hT.id = s from fun h => e h.symm)]
    by_cases e2 : s = nB
    · rw [if_pos e2, e2, if_pos (show hB.id = nB from rfl)]
    · rw [if_neg e2, if_neg (show ¬ hB.id = s from fun h => e2 h.symm), if_neg (show ¬ hB.id = s from fun h => e2 h.symm)]; rfl
/-- A list that finds what L0 finds. -/
def TwoH (l : List Hld) : Prop := ∀ s, findL l s = if s = nT then some hT else if s = nB then some hB else none
theorem two_set {r : List Hld} (h : IsSet L0 r) : TwoH r := fun s => (h.find s).trans (find_L0 s)
theorem TwoH.ft {l : List Hld} (h : TwoH l) : findL l nT = some hT := by rw [h, if_pos rfl]
theorem TwoH.fb {l : List Hld} (h : TwoH l) : findL l nB = some hB := by rw [h, if_neg (fun e => ne_TB e.symm), if_pos rfl]
theorem TwoH.no {l : List Hld} (h : TwoH l) {s : Bs} (h1 : s ≠ nT) (h2 : s ≠ nB) : findL l s = none := by rw [h, if_neg h1, if_neg h2]
theorem TwoH.len {l r : List Hld} (h : TwoH l) (hs : IsSet l r) : r.length = 2 := by
  have hn : r.Nodup := List.Pairwise.imp (fun {a b} (hab : a.id < b.id) (e : a = b) => lt_irr b.id (by rw [e] at hab; exact hab)) hs.rise
  have h1 : r.length ≤ [hT, hB].length := nodup_len hn fun x hx => by
    have hf := (hs.mem x).1 hx
    by_cases e : x.id = nT
    · rw [e, h.ft] at hf; cases hf; simp
    · by_cases e2 : x.id = nB
      · rw [e2, h.fb] at hf; cases hf; simp
      · rw [h.no e e2] at hf; cases hf
  have h2 : [hT, hB].length ≤ r.length := nodup_len (by
    refine List.nodup_cons.2 ⟨fun hm => ?_, List.nodup_cons.2 ⟨by simp, List.nodup_nil⟩⟩
    rw [List.mem_singleton] at hm
    exact ne_TB (congrArg Hld.id hm)) fun x hx => by
    rcases List.mem_cons.1 hx with rfl | hx
    · exact (hs.mem hT).2 h.ft
    · rw [List.mem_singleton.1 hx]; exact (hs.mem hB).2 h.fb
  simp only [List.length_cons, List.length_nil] at h1 h2
  omega
theorem wantsB : wantsO 1 [120] = some [] := by decide
theorem TwoH.wt {l : List Hld} (h : TwoH l) : wfL l nT = [(nB, 1)] := by
  unfold wfL; rw [h.ft]; show (wantsO 2 tdT).getD [] = _; rw [wants_T]; rfl
theorem TwoH.wb {l : List Hld} (h : TwoH l) : wfL l nB = [] := by
  unfold wfL; rw [h.fb]; show (wantsO 1 [120]).getD [] = _; rw [wantsB]; rfl
theorem TwoH.tt {l : List Hld} (h : TwoH l) : thB l nT = true := by unfold thB; rw [h.ft]; rfl
theorem TwoH.tb {l : List Hld} (h : TwoH l) : thB l nB = true := by unfold thB; rw [h.fb]; rfl
theorem TwoH.reach {l : List Hld} (h : TwoH l) {tips : List Bs} (ht : ∀ x ∈ tips, x = nT ∨ x = nB) {x : Bs} (hx : Reach (wfL l) tips x) : x = nT ∨ x = nB := by
  induction hx with
  | tip hm => exact ht _ hm
  | want _ hw ih =>
    rcases ih with rfl | rfl
    · rw [h.wt] at hw
      cases List.mem_singleton.1 hw; exact .inr rfl
    · rw [h.wb] at hw; cases hw
theorem len_one {a : List Bs} {x : Bs} (hn : a.Nodup) (h : ∀ y, y ∈ a ↔ y = x) : a = [x] := by
  match a, hn, h with
  | [], _, h => exact absurd ((h x).2 rfl) (by simp)
  | [y], _, h => rw [(h y).1 (by simp)]
  | y :: z :: m, hn, h =>
    have h1 := (h y).1 (by simp)
    have h2 := (h z).1 (by simp)
    rw [h1, h2] at hn
    simp at hn
theorem TwoH.clo {l : List Hld} (h : TwoH l) {a b : List Bs} (hc : IsClo (wfL l) (thB l) [nT] a b) : a.length = 2 ∧ b = [] ∧ ∀ x ∈ a, x = nT ∨ x = nB := by
  have hr : ∀ x, Reach (wfL l) [nT] x → x = nT ∨ x = nB := fun x hx => h.reach (fun x hx => .inl (List.mem_singleton.1 hx)) hx
  have ha : ∀ x ∈ a, x = nT ∨ x = nB := fun x hx => hr x ((hc.ma x).1 hx).1
  have rT : Reach (wfL l) [nT] nT := .tip (by simp)
  have rB : Reach (wfL l) [nT] nB := .want rT (k := 1) (by rw [h.wt]; simp)
  have hb : b = [] := List.eq_nil_iff_forall_not_mem.2 fun x hx => by
    obtain ⟨h1, h2⟩ := (hc.mb x).1 hx
    rcases hr x h1 with rfl | rfl
    · rw [h.tt] at h2; cases h2
    · rw [h.tb] at h2; cases h2
  refine ⟨?_, hb, ha⟩
  have h1 : a.length ≤ [nT, nB].length := nodup_len hc.ra.nodup fun x hx => by rcases ha x hx with rfl | rfl <;> simp
  have h2 : [nT, nB].length ≤ a.length := nodup_len (by simp [ne_TB]) fun x hx => by
    rcases List.mem_cons.1 hx with rfl | hx
    · exact (hc.ma nT).2 ⟨rT, h.tt⟩
    · rw [List.mem_singleton.1 hx]; exact (hc.ma nB).2 ⟨rB, h.tb⟩
  simp only [List.length_cons, List.length_nil] at h1 h2
  omega
theorem TwoH.pick {l : List Hld} (h : TwoH l) {a b : List Bs} (hc : IsClo (wfL (pickL l [nT])) (thB (pickL l [nT])) [nT] a b) : a.length = 1 ∧ b = [nB] := by
  have hf : ∀ s, findL (pickL l [nT]) s = if s = nT then some hT else none := fun s => by
    unfold pickL
    rw [findL_filter _ (fun s => [nT].contains s) (fun _ => rfl)]
    by_cases e : s = nT
    · rw [e, if_pos (by simp), if_pos rfl, h.ft]
    · rw [if_neg (by simpa using e), if_neg e]
  have wT : wfL (pickL l [nT]) nT = [(nB, 1)] := by unfold wfL; rw [hf, if_pos rfl]; show (wantsO 2 tdT).getD [] = _; rw [wants_T]; rfl
  have wN : ∀ s, s ≠ nT → wfL (pickL l [nT]) s = [] := fun s hs => by unfold wfL; rw [hf, if_neg hs]
  have hr : ∀ x, Reach (wfL (pickL l [nT])) [nT] x → x = nT ∨ x = nB := fun x hx => by
    induction hx with
    | tip hm => exact .inl (List.mem_singleton.1 hm)
    | want _ hw ih =>
      rcases ih with rfl | rfl
      · rw [wT] at hw; cases List.mem_singleton.1 hw; exact .inr rfl
      · rw [wN nB (fun e => ne_TB e.symm)] at hw; cases hw
  have rT : Reach (wfL (pickL l [nT])) [nT] nT := .tip (by simp)
  have rB : Reach (wfL (pickL l [nT])) [nT] nB := .want rT (k := 1) (by rw [wT]; simp)
  have tT : thB (pickL l [nT]) nT = true := by unfold thB; rw [hf, if_pos rfl]; rfl
  have tB : thB (pickL l [nT]) nB = false := by unfold thB; rw [hf, if_neg (fun e => ne_TB e.symm)]; rfl
  have e1 : a = [nT] := by
    refine len_one hc.ra.nodup fun y => ⟨fun hy => ?_, fun e => by rw [e]; exact (hc.ma nT).2 ⟨rT, tT⟩⟩
    obtain ⟨h1, h2⟩ := (hc.ma y).1 hy
    rcases hr y h1 with e | e
    · exact e
    · rw [e, tB] at h2; cases h2
  have e2 : b = [nB] := by
    refine len_one hc.rb.nodup fun y => ⟨fun hy => ?_, fun e => by rw [e]; exact (hc.mb nB).2 ⟨rB, tB⟩⟩
    obtain ⟨h1, h2⟩ := (hc.mb y).1 hy
    rcases hr y h1 with e | e
    · rw [e, tT] at h2; cases h2
    · exact e
  exact ⟨by rw [e1]; rfl, e2⟩
theorem TwoH.sound {l : List Hld} (h : TwoH l) {tips : List Bs} (ht : ∀ x ∈ tips, x = nT ∨ x = nB) {r : Int} (hs : IsSound (wfL l) (thB l) (kindB l) tips r) : r = 0 := by
  rcases hs with ⟨_, x, hx, h2⟩ | ⟨_, ⟨_, x, y, k, h1, h2, h3⟩ | ⟨h, _⟩⟩
  · rcases h.reach ht hx with rfl | rfl
    · rw [h.tt] at h2; cases h2
    · rw [h.tb] at h2; cases h2
  · rcases h.reach ht h1 with rfl | rfl
    · rw [h.wt] at h2
      cases List.mem_singleton.1 h2
      exact absurd (by unfold kindB; rw [h.fb]; rfl) h3
    · rw [h.wb] at h2; cases h2
  · exact h
theorem sound_nil {tips : List Bs} (ht : 0 < tips.length) {r : Int} (hs : IsSound (wfL []) (thB []) (kindB []) tips r) : r = 51 := by
  obtain ⟨x, hx⟩ := List.exists_mem_of_length_pos ht
  rcases hs with ⟨h, _⟩ | ⟨hall, _⟩
  · exact h
  · have := hall x (.tip hx)
    cases this
theorem TwoH.twice {r : List Hld} (h : TwoH r) : TwoH (r ++ r) := fun s => by
  rw [findL_append]
  cases hf : findL r s with
  | none => rw [Option.none_or, ← h s, hf]
  | some u => rw [Option.some_or, ← h s, hf]
end Go.Proofs.YtialgldmogigfaaGreatDoor


namespace Go.Proofs.YtialgldmogigfaaGreatDoor
open Go Go.RowKit Go.Maps Go.Shelf
/-- How a round's body may be left. -/
def bpost (I : List Bs → (Nat → Prop) → World → Prop) (Ix : (Nat → Prop) → World → Prop) (pre : List Bs) (C : Nat → Prop) (W : World) : Exit → Go.Act → World → Prop
  | .normal, _, W' => ∃ C', I pre C' W' ∧ But C W W' ∧ ∀ k, C' k → C k ∨ W.heap.size ≤ k
  | .ret, _, W' => ∃ C', Ix C' W' ∧ But C W W' ∧ ∀ k, C' k → C k ∨ W.heap.size ≤ k
  | _, _, _ => False
/-- The range. -/
theorem range_after {L : List Hld} {tips : List Bs} {tb ob m nn : Nat} {A : Option Addr} {ct : Nat} {w w0 : World} {C0 : Nat → Prop} {g : Operand} {p : Tmp} {assign body : Code} {Q : Exit → Go.Act → World → Prop} {a : Go.Act}
    (hg : a.eval g = .func (.func 46) #[] #[.pointer (some ⟨tb, 0, none⟩), .pointer (some ⟨ob, 0, none⟩)])
    (he : Eb w0) (ht : Tb w0) (hf : Fix L tips tb ob m nn A ct w) (hC : ∀ k, Still tips tb ob m A k → ¬ C0 k)
    (hL : L.length ≤ 2000) (hT : tips.length ≤ 2000) (hd : ∀ x ∈ L, x.id.length ≤ 10000 ∧ x.data.length ≤ 10000) (hs : ∀ x ∈ tips, x.length ≤ 10000)
    (I : List Bs → (Nat → Prop) → World → Prop) (Ix : (Nat → Prop) → World → Prop)
    (hst : ∀ pre C W W', I pre C W → But (fun k => w.heap.size ≤ k ∧ ¬ C k) W W' → I pre C W') (hstx : ∀ C W W', Ix C W → But (fun k => w.heap.size ≤ k ∧ ¬ C k) W W' → Ix C W')
    (hlt : ∀ pre C W, I pre C W → ∀ k, C k → k < W.heap.size) (hbl : ∀ pre C W, I pre C W → Below w0.heap.size w0 W) (h0 : I [] C0 w)
    (fr : Value → Value → Go.Act)
    (hassign : ∀ (l : Nat) (x : Bs) (t : Bool) (B : Option Addr) (n c : Nat) (W : World) (K : Go.Act → World → Prop), K (fr (.agg #[.string ⟨x.toArray⟩, .bool t, .slice B n c]) (.pointer (some ⟨W.heap.size, 0, none⟩))) (W.alloc (.cells #[.string ⟨x.toArray⟩, .bool t, .slice B n c] 67)) →
      assign.wpIn (Fence.wide.inRound l) 5 Tryz.prog (Exit.then K (fun _ _ _ => False)) { tmps := a.tmps.setIfInBounds p (.agg #[.string ⟨x.toArray⟩, .bool t, .slice B n c]), defers := [] } W)
    (hbody : ∀ (l : Nat) (pre : List Bs) (x : Bs) (B : Option Addr) (c b : Nat) (C : Nat → Prop) (W : World), I pre C W → ¬ C b → Reach (wfL L) tips x → pre.length ≤ 1000000 → x.length ≤ 1000000 → W.heap[b]? = some (.cells #[.string ⟨x.toArray⟩, .bool (thB L x), .slice B (wfL L x).length c] 67 (0, 0)) → WantsR W (.slice B (wfL L x).length c) (wfL L x) →
      body.wpIn (Fence.wide.inRound l) 5 Tryz.prog (bpost I Ix (pre ++ [x]) C W) (fr (.agg #[.string ⟨x.toArray⟩, .bool (thB L x), .slice B (wfL L x).length c]) (.pointer (some ⟨b, 0, none⟩))) W)
    (hdone : ∀ (D : Nat) (row : List Bs) (C : Nat → Prop) (W : World), w.heap.size ≤ D → ¬ C D → RowI (wfL L) tips row row.length → I row C W → W.heap[D]? = some (.deferred (some [])) → Q .normal { a with defers := { target := .collected D, args := #[] } :: a.defers } W)
    (hstop : ∀ (D : Nat) (C : Nat → Prop) (W : World), w.heap.size ≤ D → ¬ C D → Ix C W → W.heap[D]? = some (.deferred (some [])) → Code.ret.wp Tryz.prog Q { a with defers := { target := .collected D, args := #[] } :: a.defers } W) :
    (Code.rangeFunc g #[p] assign body).wp Tryz.prog Q a w := by
  refine (wpIn_wide (n := 7)).1 (wpIn_rangeFunc fun fn hfn => ?_)
  obtain ⟨rec, hrec⟩ : ∃ rec : LoopState → Option Code → Loop, rec = fun st pe => { state := st, pending := pe, fn, tmps := a.tmps, params := #[p], assign, body, defers := w.heap.size } := ⟨_, rfl⟩
  obtain ⟨l, hl⟩ : ∃ l, l = w.heap.size + 1 := ⟨_, rfl⟩
  obtain ⟨W1, hW1⟩ : ∃ W1, W1 = (w.alloc (.deferred (some []))).alloc (.loop (rec .ready none)) := ⟨_, rfl⟩
  have hz1 : W1.heap.size = l + 1 := by rw [hW1, hl]; simp
  have hbW : Below w.heap.size w W1 := by rw [hW1]; exact (below_new w _).alloc (by simp) _
  have hL1 : W1.heap[l]? = some (.loop (rec .ready none)) := by
    rw [hW1, hl]; have := World.alloc_heap_new (w.alloc (.deferred (some []))) (.loop (rec .ready none)); rwa [World.size_alloc] at this
  have hD1 : W1.heap[w.heap.size]? = some (.deferred (some [])) := by
    rw [hW1]; exact (Below.heap_alloc _ _ _ (by simp)).trans (World.alloc_heap_new w _)
  have hC0 : ∀ k, C0 k → k < w.heap.size := fun k hk => hlt _ _ _ h0 k hk
  -- what the iterator is told of the loop
  refine ⟨l, [{ target := .collected w.heap.size, args := #[] }], W1, { target := .fn (.func 46) #[.pointer (some ⟨tb, 0, none⟩), .pointer (some ⟨ob, 0, none⟩)], args := #[.func (.yield l) #[] #[]] }, W1, 46,
    #[.func (.yield l) #[] #[], .pointer (some ⟨tb, 0, none⟩), .pointer (some ⟨ob, 0, none⟩)], W1, ?_, ?_, fun _ _ => trivial, ?_, fun _ => by omega, callsIn_wide.2 ?_⟩
  · rw [hW1, hrec, hl]; exact run_enterLoop_outer _ _ _ _ _
  · simp only [resolve, hg]
    simp [go_sem]
  · simp [invoke, go_sem]
  have hrd : Rnd L tips l w0 W1.heap.size
      (fun pre C' W => ∃ C, (∀ k, C' k ↔ C k ∨ k = l) ∧ I pre C W ∧ W.heap[l]? = some (.loop (rec .ready none)) ∧ W.heap[w.heap.size]? = some (.deferred (some [])) ∧ ¬ C l ∧ ¬ C w.heap.size)
      (fun W => ∃ C, Ix C W ∧ W.heap[l]? = some (.loop (rec .done (some .ret))) ∧ W.heap[w.heap.size]? = some (.deferred (some [])) ∧ ¬ C l ∧ ¬ C w.heap.size) := by
    refine ⟨?_, ?_, ?_, ?_⟩
    · rintro pre C' W W' ⟨C, h1, h2, h3, h4, h5, h6⟩ hb
      have hlW := lt_heap h3
      have hDW := lt_heap h4
      refine ⟨C, h1, hst _ _ _ _ h2 (hb.mono fun k _ hk => ⟨by omega, fun hc => hk.2 ((h1 k).2 (.inl hc))⟩), (hb.block l hlW (fun hk => by omega)).trans h3, (hb.block _ hDW (fun hk => by omega)).trans h4, h5, h6⟩
    · rintro pre C' W ⟨C, h1, h2, h3, _⟩ k hk
      rcases (h1 k).1 hk with hk | rfl
      · exact hlt _ _ _ h2 k hk
      · exact lt_heap h3
    · rintro pre C' W ⟨C, h1, h2, _⟩
      exact hbl _ _ _ h2
    · rintro pre x B c C' W ⟨C, h1, h2, h3, h4, h5, h6⟩ hre hpl hx hw
      have hlW := lt_heap h3
      have hDW := lt_heap h4
      have hy : (Instr.yield l #[metV L x (.slice B (wfL L x).length c)]).run Tryz.prog W = .ok (.round l fn (a.tmps.setIfInBounds p (metV L x (.slice B (wfL L x).length c))) assign body) W := by
        have := run_yield (P := Tryz.prog) (args := #[metV L x (.slice B (wfL L x).length c)]) h3 (by rw [hrec]; rfl)
        rw [hrec] at this
        simpa using this
      refine ⟨fn, _, assign, body, hy, roundIn_of_wpIn hfn ?_⟩
      refine hassign l x (thB L x) B _ c W _ ?_
      obtain ⟨Wa, hWa⟩ : ∃ Wa, Wa = W.alloc (.cells #[.string ⟨x.toArray⟩, .bool (thB L x), .slice B (wfL L x).length c] 67) := ⟨_, rfl⟩
      rw [← hWa]
      have hba : Below W.heap.size W Wa := by rw [hWa]; exact below_new W _
      have hka : Wa.heap[W.heap.size]? = some (.cells #[.string ⟨x.toArray⟩, .bool (thB L x), .slice B (wfL L x).length c] 67 (0, 0)) := by rw [hWa]; exact heap_alloc_new W _
      have hla : Wa.heap[l]? = some (.loop (rec .ready none)) := (hba.block l hlW).trans h3
      have hDa : Wa.heap[w.heap.size]? = some (.deferred (some [])) := (hba.block _ hDW).trans h4
      have hbr := run_beginRound (P := Tryz.prog) hla (by rw [hrec])
      obtain ⟨Wb, hWb⟩ : ∃ Wb, Wb = Wa.putObj l (.loop { rec .ready none with state := .busy }) := ⟨_, rfl⟩
      refine ⟨Wb, by rw [hWb]; exact hbr, ?_⟩
      have hbb : But (fun k => k = l) Wa Wb := by rw [hWb]; exact but_putObj Wa l _ rfl
      have hbab : But (fun k => k = l) W Wb := (But.of_new hba).trans hbb
      have hlb : Wb.heap[l]? = some (.loop { rec .ready none with state := .busy }) := by rw [hWb]; exact World.putObj_heap_same (lt_heap hla)
      have hDb : Wb.heap[w.heap.size]? = some (.deferred (some [])) := (hbb.block _ (lt_heap hDa) (by omega)).trans hDa
      have hkb : Wb.heap[W.heap.size]? = some (.cells #[.string ⟨x.toArray⟩, .bool (thB L x), .slice B (wfL L x).length c] 67 (0, 0)) := (hbb.block _ (lt_heap hka) (by omega)).trans hka
      have hIb : I pre C Wb := hst _ _ _ _ h2 (hbab.mono fun k _ hk => ⟨by omega, by rw [hk]; exact h5⟩)
      have hwb : WantsR Wb (.slice B (wfL L x).length c) (wfL L x) := by
        refine RdK.but2 (hw.below hba (Nat.le_refl _)) hbb fun h7 gg hgg e => ?_
        rcases hw with ⟨_, h8⟩ | ⟨g9, o9, c9, h8, _, hg9, hcell⟩
        · rw [h8] at h7; simp at h7
        · cases h8
          cases hgg
          have h10 := hcell 0 h7 _ (List.getElem?_eq_getElem h7) 0 (by omega)
          rw [show g9 = l from e] at h10
          simp [World.cell?, h3, wantV] at h10
      refine wpIn_mono (hbody l pre x B c W.heap.size C Wb hIb (fun hc => by have := hlt _ _ _ h2 _ hc; omega) hre hpl hx hkb hwb) ?_
      have fin : ∀ (jump : Option Code) (W3 : World), But C Wb W3 →
          (Instr.endRound l jump).run Tryz.prog W3 = .ok (.bool jump.isNone) (W3.putObj l (.loop (rec (if jump.isNone then .ready else .done) jump))) ∧
          (W3.putObj l (.loop (rec (if jump.isNone then .ready else .done) jump))).heap[l]? = some (.loop (rec (if jump.isNone then .ready else .done) jump)) ∧
          (W3.putObj l (.loop (rec (if jump.isNone then .ready else .done) jump))).heap[w.heap.size]? = some (.deferred (some [])) := fun jump W3 h => by
        have hl3 := (h.block l (lt_heap hlb) h5).trans hlb
        have := run_endRound (P := Tryz.prog) jump hl3
        rw [hrec] at this ⊢
        exact ⟨this, World.putObj_heap_same (lt_heap hl3), (World.putObj_heap_other (by omega)).trans ((h.block _ (lt_heap hDb) h6).trans hDb)⟩
      rintro e a3 W3 hp
      cases e with
      | normal =>
        obtain ⟨C2, hi3, hb3, hc3⟩ := hp
        obtain ⟨hr, hl4, hk4⟩ := fin none W3 hb3
        have hn2 : ∀ k, k < Wb.heap.size → ¬ C k → ¬ C2 k := fun k hk hn hc => (hc3 k hc).elim hn (fun h => by omega)
        have hl5 := hn2 l (lt_heap hlb) h5
        have hD5 := hn2 _ (lt_heap hDb) h6
        have hbe : But (fun k => k = l) W3 (W3.putObj l (.loop (rec (if (none : Option Code).isNone then .ready else .done) none))) := but_putObj W3 l _ rfl
        refine ⟨_, _, hr, .inl ⟨rfl, fun k => C2 k ∨ k = l, ⟨C2, fun k => Iff.rfl, hst _ _ _ _ hi3 (hbe.mono fun k _ hk => ⟨by omega, by rw [hk]; exact hl5⟩), hl4, hk4, hl5, hD5⟩, ?_, ?_⟩⟩
        · exact ((hbab.mono fun k _ hk => (h1 k).2 (.inr hk)).trans (hb3.mono fun k _ hk => (h1 k).2 (.inl hk))).trans (hbe.mono fun k _ hk => (h1 k).2 (.inr hk))
        · rintro k (hk | hk)
          · rcases hc3 k hk with h | h
            · exact .inl ((h1 k).2 (.inl h))
            · exact .inr (Nat.le_trans hbab.size h)
          · exact .inl ((h1 k).2 (.inr hk))
      | ret =>
        obtain ⟨C2, hi3, hb3, hc3⟩ := hp
        obtain ⟨hr, hl4, hk4⟩ := fin (some .ret) W3 hb3
        have hn2 : ∀ k, k < Wb.heap.size → ¬ C k → ¬ C2 k := fun k hk hn hc => (hc3 k hc).elim hn (fun h => by omega)
        have hl5 := hn2 l (lt_heap hlb) h5
        have hbe : But (fun k => k = l) W3 (W3.putObj l (.loop (rec (if (some Code.ret).isNone then .ready else .done) (some .ret)))) := but_putObj W3 l _ rfl
        exact ⟨_, _, hr, .inr ⟨rfl, C2, hstx _ _ _ hi3 (hbe.mono fun k _ hk => ⟨by omega, by rw [hk]; exact hl5⟩), hl4, hk4, hl5, hn2 _ (lt_heap hDb) h6⟩⟩
      | exit id => exact hp.elim
      | goto t => exact hp.elim
      | panic ch => exact hp.elim
      | outgrown => exact hp.elim
  refine (seq_any (C0 := fun k => C0 k ∨ k = l) hrd he ht (hf.but (But.of_new (S := fun _ => False) hbW) (fun _ _ h => h)) ⟨C0, fun k => Iff.rfl, hst _ _ _ _ h0 (But.of_new hbW), hL1, hD1, fun h => by have := hC0 _ h; omega, fun h => by have := hC0 _ h; omega⟩ (fun k hk hc => hc.elim (hC k hk) (fun e => by have := hf.lt k hk; omega)) hL hT hd hs).mono ?_
  rintro e W2 ⟨⟨v, rfl⟩, ⟨row, C', hrow, C, h1, h2, h3, h4, h5, h6⟩ | ⟨C, h2, h3, h4, h5, h6⟩⟩
  · have hbe : But (fun k => k = l) W2 (W2.putObj l (.loop { rec .ready none with state := .exhausted })) := but_putObj W2 l _ rfl
    refine ⟨none, W2.putObj l (.loop { rec .ready none with state := .exhausted }), by have := run_endLoop (P := Tryz.prog) h3 (by rw [hrec]; simp); rw [hrec] at this ⊢; exact this, ?_⟩
    exact hdone w.heap.size row C _ (Nat.le_refl _) h6 hrow (hst _ _ _ _ h2 (hbe.mono fun k _ hk => ⟨by omega, by rw [hk]; exact h5⟩)) ((World.putObj_heap_other (by omega)).trans h4)
  · have hbe : But (fun k => k = l) W2 (W2.putObj l (.loop { rec .done (some .ret) with state := .exhausted })) := but_putObj W2 l _ rfl
    refine ⟨some .ret, W2.putObj l (.loop { rec .done (some .ret) with state := .exhausted }), by have := run_endLoop (P := Tryz.prog) h3 (by rw [hrec]; simp); rw [hrec] at this ⊢; exact this, ?_⟩
    exact wpIn_wide.2 (hstop w.heap.size C _ (Nat.le_refl _) h6 (hstx _ _ _ h2 (hbe.mono fun k _ hk => ⟨by omega, by rw [hk]; exact h5⟩)) ((World.putObj_heap_other (by omega)).trans h4))
end Go.Proofs.YtialgldmogigfaaGreatDoor


namespace Go.Proofs.YtialgldmogigfaaGreatDoor
open Go Go.RowKit Go.Maps Go.Shelf Go.Sort
attribute [local go_sem] Oper.semAt_some
theorem flat_str (l : List Bs) : l.flatMap strC = l.map encStr := by
  induction l with
  | nil => rfl
  | cons x l ih => rw [List.flatMap_cons, ih, List.map_cons]; rfl
/-- The library's Sort at a slice of the call's own. -/
theorem sort_own {w : World} {B : Nat} {v : Value} {zs : List Bs} (h : OwK 9 1 strC w B v zs) (hl : zs.length ≤ 1000000) :
    Calls Tryz.prog 32 #[v] w fun e w' => e = .returned (.tuple #[]) ∧ OwK 9 1 strC w' B v (zs.mergeSort leB) ∧ But (fun k => v.ownBlock = some k) w w' := by
  unfold OwK at h ⊢
  rw [flat_str] at h
  have h1' := h
  obtain ⟨h0, ⟨rfl, hz⟩ | ⟨gb, cap, cur, rfl, hbase, hgb, r1, r2, r3, r4⟩⟩ := h
  · have hss : zs = [] := List.eq_nil_of_length_eq_zero hz
    subst hss
    refine (AnyM.slices_Sort_string_none Tryz.sortA none 0 w).mono ?_
    rintro e w2 ⟨rfl, rfl⟩
    exact ⟨rfl, by simpa using h1', But.refl _ _⟩
  · have hH : Holds encStr w gb 0 zs.toArray := holds_of_block hgb (by simpa using r4)
    refine (AnyM.slices_Sort_string Tryz.sortA gb 0 cap zs w hH (lt_heap hgb) (by omega)).mono ?_
    rintro e w2 ⟨rfl, k, os, rfl⟩
    refine ⟨rfl, ?_, But.of_grown (grownBy_sorted _)⟩
    have hlen : (zs.mergeSort leB).length = zs.length := List.length_mergeSort zs
    have := ownsRow_sorted (n := k) (os := os) (ss := zs) (ts := zs.mergeSort leB) hlen hbase hgb r1 r2 r3
    rw [flat_str, hlen]
    exact this
/-- Two rows of names, each in a box of its own. -/
structure TwoI (w0 : World) (hb kb : Nat) (vh vl : Value) (a b : List Bs) (C : Nat → Prop) (W : World) : Prop where
  bh : Boxed W hb 23 vh
  oh : OwK 9 1 strC W w0.heap.size vh a
  bk : Boxed W kb 23 vl
  ol : OwK 9 1 strC W w0.heap.size vl b
  c : ∀ k, C k ↔ k = hb ∨ k = kb ∨ vh.ownBlock = some k ∨ vl.ownBlock = some k
  ne : hb ≠ kb ∧ ∀ g, vh.ownBlock = some g → vl.ownBlock ≠ some g
  lo : w0.heap.size ≤ hb ∧ w0.heap.size ≤ kb
  bl : Below w0.heap.size w0 W
theorem TwoI.swap {w0 : World} {hb kb : Nat} {vh vl : Value} {a b : List Bs} {C : Nat → Prop} {W : World} (h : TwoI w0 hb kb vh vl a b C W) : TwoI w0 kb hb vl vh b a C W :=
  ⟨h.bk, h.ol, h.bh, h.oh, fun k => (h.c k).trans ⟨fun h => h.elim (fun h => .inr (.inl h)) (fun h => h.elim .inl (fun h => h.elim (fun h => .inr (.inr (.inr h))) (fun h => .inr (.inr (.inl h))))), fun h => h.elim (fun h => .inr (.inl h)) (fun h => h.elim .inl (fun h => h.elim (fun h => .inr (.inr (.inr h))) (fun h => .inr (.inr (.inl h)))))⟩,
    ⟨fun e => h.ne.1 e.symm, fun g h1 h2 => h.ne.2 g h2 h1⟩, ⟨h.lo.2, h.lo.1⟩, h.bl⟩
theorem TwoI.lt {w0 : World} {hb kb : Nat} {vh vl : Value} {a b : List Bs} {C : Nat → Prop} {W : World} (h : TwoI w0 hb kb vh vl a b C W) (k : Nat) (hk : C k) : w0.heap.size ≤ k ∧ k < W.heap.size := by
  rcases (h.c k).1 hk with rfl | rfl | hk | hk
  · exact ⟨h.lo.1, h.bh.lt⟩
  · exact ⟨h.lo.2, h.bk.lt⟩
  · obtain ⟨h1, h2, _⟩ := own_block h.oh hk; exact ⟨h1, h2⟩
  · obtain ⟨h1, h2, _⟩ := own_block h.ol hk; exact ⟨h1, h2⟩
theorem TwoI.but {w0 : World} {hb kb : Nat} {vh vl : Value} {a b : List Bs} {C : Nat → Prop} {W W' : World} {S : Nat → Prop} (h : TwoI w0 hb kb vh vl a b C W) (hw : But S W W') (hn : ∀ k, S k → w0.heap.size ≤ k ∧ ¬ C k) : TwoI w0 hb kb vh vl a b C W' :=
  ⟨boxed_but h.bh hw (fun hk => (hn _ hk).2 ((h.c _).2 (.inl rfl))), h.oh.but hw (fun _ hg hk => (hn _ hk).2 ((h.c _).2 (.inr (.inr (.inl hg))))), boxed_but h.bk hw (fun hk => (hn _ hk).2 ((h.c _).2 (.inr (.inl rfl)))), h.ol.but hw (fun _ hg hk => (hn _ hk).2 ((h.c _).2 (.inr (.inr (.inr hg))))), h.c, h.ne, h.lo,
    h.bl.trans (hw.below (fun k _ hk => (hn k hk).1) h.bl.size)⟩
/-- One more name in a box. -/
theorem box_app {W w1 : World} {hb base g cap : Nat} {vh : Value} {zs : List Bs} {x : Bs} (h : Boxed W hb 23 vh) (ho : OwK 9 1 strC W base vh zs)
    (hown : w1.ownsRow base 9 1 (.slice (some ⟨g, 0, none⟩) (zs.length + 1) cap) (zs.length + 1) (zs.flatMap strC ++ [.string ⟨x.toArray⟩]))
    (hgrow : (W.alloc (.cells #[.string ⟨x.toArray⟩] 9)).grownBy w1 vh.ownBlock) (hat : vh.ownBlock = some g ∨ g = (W.alloc (.cells #[.string ⟨x.toArray⟩] 9)).heap.size) :
    Boxed w1 hb 23 vh ∧ Boxed (w1.setCell ⟨hb, 0, none⟩ (.slice (some ⟨g, 0, none⟩) (zs.length + 1) cap)) hb 23 (.slice (some ⟨g, 0, none⟩) (zs.length + 1) cap) ∧
      OwK 9 1 strC (w1.setCell ⟨hb, 0, none⟩ (.slice (some ⟨g, 0, none⟩) (zs.length + 1) cap)) base (.slice (some ⟨g, 0, none⟩) (zs.length + 1) cap) (zs ++ [x]) ∧
      But (fun k => k = hb ∨ vh.ownBlock = some k) W (w1.setCell ⟨hb, 0, none⟩ (.slice (some ⟨g, 0, none⟩) (zs.length + 1) cap)) ∧ (vh.ownBlock = some g ∨ W.heap.size ≤ g) := by
  have hown' : OwK 9 1 strC w1 base (.slice (some ⟨g, 0, none⟩) (zs.length + 1) cap) (zs ++ [x]) := by
    unfold OwK; rw [List.length_append, List.flatMap_append]; exact hown
  have hb2 := (But.of_new (S := fun k => vh.ownBlock = some k) (below_new W (.cells #[.string ⟨x.toArray⟩] 9))).trans ((But.of_grown hgrow).mono fun _ _ e => e)
  have r2 := boxed_but h hb2 (fun e => row_ne_box ho h (by decide) e)
  have hne : hb ≠ g := fun e => row_ne_box hown' r2 (by decide) (by rw [e]; rfl)
  have hb3 : But (fun k => k = hb) w1 (w1.setCell ⟨hb, 0, none⟩ (.slice (some ⟨g, 0, none⟩) (zs.length + 1) cap)) := (But.refl (fun k => k = hb) w1).setCell (p := ⟨hb, 0, none⟩) rfl _
  refine ⟨r2, r2.set _, hown'.but hb3 (fun _ hg e => hne (by cases hg; exact e.symm)), (hb2.mono fun _ _ e => .inr e).trans (hb3.mono fun _ _ e => .inl e), hat.imp id fun e => ?_⟩
  rw [e]; simp
theorem TwoI.app {w0 W w1 : World} {hb kb g cap : Nat} {vh vl : Value} {a b : List Bs} {C : Nat → Prop} {x : Bs} (h : TwoI w0 hb kb vh vl a b C W)
    (hown : w1.ownsRow w0.heap.size 9 1 (.slice (some ⟨g, 0, none⟩) (a.length + 1) cap) (a.length + 1) (a.flatMap strC ++ [.string ⟨x.toArray⟩]))
    (hgrow : (W.alloc (.cells #[.string ⟨x.toArray⟩] 9)).grownBy w1 vh.ownBlock) (hat : vh.ownBlock = some g ∨ g = (W.alloc (.cells #[.string ⟨x.toArray⟩] 9)).heap.size) :
    Boxed w1 hb 23 vh ∧ ∃ C', TwoI w0 hb kb (.slice (some ⟨g, 0, none⟩) (a.length + 1) cap) vl (a ++ [x]) b C' (w1.setCell ⟨hb, 0, none⟩ (.slice (some ⟨g, 0, none⟩) (a.length + 1) cap)) ∧
      But C W (w1.setCell ⟨hb, 0, none⟩ (.slice (some ⟨g, 0, none⟩) (a.length + 1) cap)) ∧ ∀ k, C' k → C k ∨ W.heap.size ≤ k := by
  obtain ⟨b1, b2, o2, bt, hg⟩ := box_app h.bh h.oh hown hgrow hat
  have hC : ∀ k, k = hb ∨ vh.ownBlock = some k → C k := fun k hk => (h.c k).2 (hk.elim .inl (fun h => .inr (.inr (.inl h))))
  refine ⟨b1, fun k => k = hb ∨ k = kb ∨ g = k ∨ vl.ownBlock = some k, ⟨b2, o2, boxed_but h.bk bt ?_, h.ol.but bt ?_, fun k => ?_, ⟨h.ne.1, ?_⟩, h.lo, h.bl.trans (bt.below (fun k _ hk => (h.lt k (hC k hk)).1) h.bl.size)⟩, bt.mono fun k _ hk => hC k hk, ?_⟩
  · rintro (e | e)
    · exact h.ne.1 e.symm
    · exact row_ne_box h.oh h.bk (by decide) e
  · rintro k hk (e | e)
    · exact row_ne_box h.ol h.bh (by decide) (by rw [hk, e])
    · exact h.ne.2 k e hk
  · simp [Value.ownBlock]
  · intro k hk hl
    cases hk
    rcases hg with e | e
    · exact h.ne.2 _ e hl
    · have := (own_block h.ol hl).2.1; simp only at this; omega
  · rintro k (e | e | e | e)
    · exact .inl ((h.c k).2 (.inl e))
    · exact .inl ((h.c k).2 (.inr (.inl e)))
    · rcases hg with e2 | e2
      · exact .inl ((h.c k).2 (.inr (.inr (.inl (by rw [e2, e])))))
      · exact .inr (by omega)
    · exact .inl ((h.c k).2 (.inr (.inr (.inr e))))
theorem filter_snoc_yes {p : Bs → Bool} {pre : List Bs} {x : Bs} (h : p x = true) : (pre ++ [x]).filter p = pre.filter p ++ [x] := by
  rw [List.filter_append]; simp [h]
theorem filter_snoc_no {p : Bs → Bool} {pre : List Bs} {x : Bs} (h : p x = false) : (pre ++ [x]).filter p = pre.filter p := by
  rw [List.filter_append]; simp [h]
/-- What Closure answers. -/
def CloPost (l : List Hld) (tips : List Bs) (w : World) (e : Ending) (w' : World) : Prop :=
  ∃ va vb a b, e = .returned (.tuple #[va, vb]) ∧ StrsR w' va a ∧ StrsR w' vb b ∧ IsClo (wfL l) (thB l) tips a b ∧ a.length ≤ 600000 ∧ b.length ≤ 600000 ∧ Below w.heap.size w w'
set_option maxHeartbeats 8000000 in
set_option maxRecDepth 100000 in
theorem Closure_any {w : World} {v tv : Value} {L : List Hld} {tips : List Bs} (h : HldsR w v L) (ht : StrsR w tv tips) (he : Eb w) (htb : Tb w)
    (hL : L.length ≤ 2000) (hT : tips.length ≤ 2000) (hd : ∀ x ∈ L, x.id.length ≤ 10000 ∧ x.data.length ≤ 10000) (hs : ∀ x ∈ tips, x.length ≤ 10000) :
    Calls Tryz.prog 18 #[v, tv] w (CloPost L tips w) := by
  obtain ⟨A0, c0, rfl⟩ := h.shape
  obtain ⟨A, ct, rfl⟩ := ht.shape
  obtain ⟨w1, hw1⟩ : ∃ w1, w1 = (w.alloc (.cells #[.slice none 0 0] 23)).alloc (.cells #[.slice none 0 0] 23) := ⟨_, rfl⟩
  have hb1 : Below w.heap.size w w1 := by rw [hw1]; exact (below_new w _).alloc (by simp) _
  have HO := Lib.hid (objects_any (h.below hb1 (Nat.le_refl _)) (by omega) (fun x hx => by have := (hd x hx).1; omega))
  have HW1 := Lib.hid hw1; have HB1 := Lib.hid hb1; have HT := Lib.hid ht; have HE := Lib.hid (And.intro he htb); have HD := Lib.hid hd; have HS := Lib.hid hs
  clear h ht he htb hd hs hw1 hb1
  refine (callsIn_wide (n := 5)).1 (callsIn_of_wp_marks Tryz.func18 rfl trivial ?_ rfl)
  refine wpIn_wide.2 ?_
  simp only [Tryz.ntmps18, List.size_toArray, List.length_cons, List.length_nil, Nat.reduceAdd, Nat.reduceSub, Array.replicate_succ, Array.replicate_zero, List.push_toArray, List.append_toArray, List.nil_append, List.cons_append]
  go_wp2_with fail
  rw [← HW1.out]
  refine HO.out.mono ?_
  rintro e w2 ⟨rfl, hM, hb2⟩
  have HM := Lib.hid hM; have HB2 := Lib.hid (HB1.out.trans (hb2.mono HB1.out.size)); have HB12 := Lib.hid hb2
  obtain ⟨ob, hob⟩ : ∃ ob, ob = w2.heap.size := ⟨_, rfl⟩
  have HA := Lib.hid (after_any w1.heap.size A tips.length ct w2)
  rw [← hob] at HA
  have HOb := Lib.hid hob
  clear hM hb2 hob
  go_wp2_with fail
  refine HA.out.mono ?_
  rintro e w3 ⟨rfl, hw3⟩
  have hob := HOb.out
  have hz3 : w3.heap.size = ob + 1 + 1 := by rw [← hw3, hob]; simp
  have hb3 : Below w2.heap.size w2 w3 := by rw [← hw3]; exact (below_new w2 _).alloc (by simp) _
  have obx : Boxed w3 ob 63 (.map (some w1.heap.size)) := by rw [← hw3, hob]; exact (Boxed.new w2 _ _).alloc _
  have tbx : Boxed w3 (ob + 1) 23 (.slice A tips.length ct) := by
    have := Boxed.new (w2.alloc (.cells #[.map (some w1.heap.size)] 63)) 23 (.slice A tips.length ct)
    rw [hw3] at this
    rw [hob]; simpa using this
  have HB3 : Hid (Below w.heap.size w w3) := Lib.hid (HB2.out.trans (hb3.mono HB2.out.size))
  have hfix : Fix L tips (ob + 1) ob w1.heap.size L.length A ct w3 := ⟨tbx, obx, HT.out.below HB3.out (Nat.le_refl _), HM.out.below hb3 HM.out.lt⟩
  have hbx : ∀ W, Below w1.heap.size w1 W → Boxed W w.heap.size 23 (.slice none 0 0) ∧ Boxed W (w.heap.size + 1) 23 (.slice none 0 0) := fun W hW => by
    have k1 : Boxed w1 w.heap.size 23 (.slice none 0 0) := by rw [HW1.out]; exact (Boxed.new w _ _).alloc _
    have k2 : Boxed w1 (w.heap.size + 1) 23 (.slice none 0 0) := by
      have := Boxed.new (w.alloc (.cells #[.slice none 0 0] 23)) 23 (.slice none 0 0)
      rw [HW1.out]; simpa using this
    exact ⟨boxed_but k1 (But.of_below hW) (by have := k1.lt; omega), boxed_but k2 (But.of_below hW) (by have := k2.lt; omega)⟩
  obtain ⟨x1, x2⟩ := hbx w3 (HB12.out.trans (hb3.mono HB12.out.size))
  have h0 : TwoI w w.heap.size (w.heap.size + 1) (.slice none 0 0) (.slice none 0 0) [] [] (fun k => k = w.heap.size ∨ k = w.heap.size + 1) w3 :=
    ⟨x1, OwK.nil _ _ _ _ _, x2, OwK.nil _ _ _ _ _, fun k => by simp [Value.ownBlock], ⟨by omega, fun g hg => by cases hg⟩, ⟨Nat.le_refl _, Nat.le_succ _⟩, HB3.out⟩
  have hCS : ∀ k, Still tips (ob + 1) ob w1.heap.size A k → ¬ (k = w.heap.size ∨ k = w.heap.size + 1) := by
    have z1 : w1.heap.size = w.heap.size + 1 + 1 := by rw [HW1.out]; simp
    have z2 := HB12.out.size
    rintro k (rfl | rfl | rfl | ⟨hp, a, rfl, rfl⟩) (e | e)
    all_goals try omega
    all_goals
      obtain ⟨g, o, c, e2, _, hg⟩ := RdK.pos HT.out hp
      cases e2
      simp only at e
      omega
  have H0 := Lib.hid h0; have HF := Lib.hid hfix; have HCS := Lib.hid hCS
  have HZ3 : Hid (w.heap.size ≤ w3.heap.size) := Lib.hid HB3.out.size
  clear hw3 hz3 hob hb3 obx tbx hfix hbx x1 x2 h0 hCS
  go_wp2_with fail
  refine range_after (w0 := w) rfl HE.out.1 HE.out.2 HF.out HCS.out hL hT HD.out HS.out (fun pre C W => ∃ vh vl, TwoI w w.heap.size (w.heap.size + 1) vh vl (pre.filter fun x => thB L x) (pre.filter fun x => !thB L x) C W) (fun _ _ => False)
    (fun pre C W W' h hb => by obtain ⟨vh, vl, h⟩ := h; exact ⟨vh, vl, h.but hb fun k hk => ⟨Nat.le_trans HZ3.out hk.1, hk.2⟩⟩) (fun _ _ _ h _ => h) (fun pre C W h k hk => by obtain ⟨vh, vl, h⟩ := h; exact (h.lt k hk).2) (fun pre C W h => by obtain ⟨vh, vl, h⟩ := h; exact h.bl) ⟨_, _, H0.out⟩
    (fun mv bp => { tmps := #[.slice A0 L.length c0, .slice A tips.length ct, undef, undef, .slice none 0 0, .slice none 0 0, .pointer (some ⟨w.heap.size, 0, none⟩), .pointer (some ⟨w.heap.size + 1, 0, none⟩), bp, .slice A0 L.length c0, .map (some w1.heap.size), .slice A tips.length ct, .func (.func 46) #[] #[.pointer (some ⟨ob + 1, 0, none⟩), .pointer (some ⟨ob, 0, none⟩)], mv, undef, undef, undef, undef, undef, undef, undef, undef, undef, undef, undef, undef, undef, undef, undef, undef, undef, undef], defers := [] }) ?assign ?body ?done ?stop
  case assign =>
    intro l x t B n c W K hK
    gi_wp2
    exact hK
  case body =>
    rintro l pre x B c b C W ⟨vh, vl, hI⟩ hCb _ hpl hxl hk hw
    have q0 : W.cell? ⟨b, 0, none⟩ = some (.string ⟨x.toArray⟩) := (cell_of_row W _ 0 _ _ _ hk).trans rfl
    have q1 : W.cell? ⟨b, 1, none⟩ = some (.bool (thB L x)) := (cell_of_row W _ 1 _ _ _ hk).trans rfl
    have hfl : ∀ p : Bs → Bool, (pre.filter p).length ≤ 1000000 := fun p => Nat.le_trans (List.length_filter_le _ _) hpl
    have c1 := hI.bh.cell
    have c2 := hI.bk.cell
    have hbl := hI.bl.size
    obtain ⟨i0, hi0, hz0, hz1, hz2⟩ := info_parts infoW
    cases hth : thB L x with
    | true =>
      rw [hth] at q1
      have hl0 := hfl (fun x => thB L x)
      have HN : Hid (((pre ++ [x]).filter fun x => thB L x) = (pre.filter fun x => thB L x) ++ [x] ∧ ((pre ++ [x]).filter fun x => !thB L x) = (pre.filter fun x => !thB L x)) := Lib.hid ⟨filter_snoc_yes hth, filter_snoc_no (by rw [hth]; rfl)⟩
      obtain ⟨zs, hzs⟩ : ∃ zs, zs = pre.filter fun x => thB L x := ⟨_, rfl⟩
      rw [← hzs] at hI hl0 HN
      have HI := Lib.hid hI
      clear hfl hth hk hw hzs hI
      gi_wp2_with (gi_at_builtin; refine wpListIn_append_own_at _ rfl _ _ 23 rfl w.heap.size 9 i0 _ 1 16 Tryz.underlying23 hi0 hz0 hz1 hz2 rfl (by decide) _ zs.length _ rfl (World.ownsRow.alloc HI.out.oh _) ⟨W.heap.size, 0, none⟩ 1 1 [.string ⟨x.toArray⟩] rfl rfl (cell_one_new _ _ _) (by simp [Value.oneCell']) (by unfold maxLen; omega) (by omega) (by simp; omega) ?_; intro v' w9 hown' hgrow _ hat; obtain ⟨g, cap, rfl⟩ := ownsRow_succ hown'; obtain ⟨b9, C', hN, hbN, hcN⟩ := HI.out.app hown' hgrow (hat.imp (fun e => e.symm) (fun e => by cases e; rfl)); have c9 := b9.cell; have f9 := b9.frozen)
      have hN2 := hN
      rw [← HN.out.1, ← HN.out.2] at hN2
      exact ⟨C', ⟨_, _, hN2⟩, hbN, hcN⟩
    | false =>
      rw [hth] at q1
      have hl0 := hfl (fun x => !thB L x)
      have HN : Hid (((pre ++ [x]).filter fun x => thB L x) = (pre.filter fun x => thB L x) ∧ ((pre ++ [x]).filter fun x => !thB L x) = (pre.filter fun x => !thB L x) ++ [x]) := Lib.hid ⟨filter_snoc_no hth, filter_snoc_yes (by rw [hth]; rfl)⟩
      obtain ⟨zs, hzs⟩ : ∃ zs, zs = pre.filter fun x => !thB L x := ⟨_, rfl⟩
      rw [← hzs] at hI hl0 HN
      have HI := Lib.hid hI.swap
      clear hfl hth hk hw hzs hI
      gi_wp2_with (gi_at_builtin; refine wpListIn_append_own_at _ rfl _ _ 23 rfl w.heap.size 9 i0 _ 1 16 Tryz.underlying23 hi0 hz0 hz1 hz2 rfl (by decide) _ zs.length _ rfl (World.ownsRow.alloc HI.out.oh _) ⟨W.heap.size, 0, none⟩ 1 1 [.string ⟨x.toArray⟩] rfl rfl (cell_one_new _ _ _) (by simp [Value.oneCell']) (by unfold maxLen; omega) (by omega) (by simp; omega) ?_; intro v' w9 hown' hgrow _ hat; obtain ⟨g, cap, rfl⟩ := ownsRow_succ hown'; obtain ⟨b9, C', hN, hbN, hcN⟩ := HI.out.app hown' hgrow (hat.imp (fun e => e.symm) (fun e => by cases e; rfl)); have c9 := b9.cell; have f9 := b9.frozen)
      have hN2 := hN.swap
      rw [← HN.out.1, ← HN.out.2] at hN2
      exact ⟨C', ⟨_, _, hN2⟩, hbN, hcN⟩
  case done =>
    rintro D row C W hD hCD hrow ⟨vh, vl, hI⟩ hK
    have hlen : row.length ≤ 600000 := by have := rowI_len hrow; omega
    have hfl : ∀ p : Bs → Bool, (row.filter p).length ≤ 600000 := fun p => Nat.le_trans (List.length_filter_le _ _) hlen
    have hl1 := hfl (fun x => thB L x)
    have hl2 := hfl (fun x => !thB L x)
    have c1 := hI.bh.cell
    obtain ⟨Ah, ch, eh⟩ := own_slice hI.oh
    obtain ⟨Al, cl, el⟩ := own_slice hI.ol
    have HS1 := Lib.hid (sort_own hI.oh (by omega))
    have HI := Lib.hid hI; have HRow := Lib.hid hrow; have HKD := Lib.hid hK; have HCD := Lib.hid hCD
    have HL1 := Lib.hid hl1; have HL2 := Lib.hid hl2
    obtain ⟨za, hza⟩ : ∃ za, za = row.filter fun x => thB L x := ⟨_, rfl⟩
    obtain ⟨zb, hzb⟩ : ∃ zb, zb = row.filter fun x => !thB L x := ⟨_, rfl⟩
    have HZa := Lib.hid hza; have HZb := Lib.hid hzb
    rw [← hza] at HS1 HL1 eh
    rw [← hzb] at HL2 el
    rw [← hza, ← hzb] at HI
    clear hI hrow hK hCD hfl hl1 hl2 hlen hza hzb HO HB1 HM HB2 HB12 HA HB3 H0 HF HCS
    subst eh el
    go_wp2_with fail
    refine HS1.out.mono ?_
    rintro e W2 ⟨rfl, o1, b1⟩
    have k2 : Boxed W2 (w.heap.size + 1) 23 (.slice Al zb.length cl) := boxed_but HI.out.bk b1 (fun e => row_ne_box HI.out.oh HI.out.bk (by decide) e)
    have k1 : Boxed W2 w.heap.size 23 (.slice Ah za.length ch) := boxed_but HI.out.bh b1 (fun e => row_ne_box HI.out.oh HI.out.bh (by decide) e)
    have o2 : OwK 9 1 strC W2 w.heap.size (.slice Al zb.length cl) zb := HI.out.ol.but b1 (fun g hg e => HI.out.ne.2 g e hg)
    have HS2 := Lib.hid (sort_own o2 (by have := HL2.out; omega))
    have c2 := k2.cell
    have HO1 := Lib.hid o1; have HB1 := Lib.hid b1; have HK1 := Lib.hid k1; have HK2 := Lib.hid k2; have HO2 := Lib.hid o2
    clear o1 b1 k1 k2 o2 c1 HS1
    go_wp2_with fail
    refine HS2.out.mono ?_
    rintro e W3 ⟨rfl, o2, b2⟩
    have k1 : Boxed W3 w.heap.size 23 (.slice Ah za.length ch) := boxed_but HK1.out b2 (fun e => row_ne_box HO2.out HK1.out (by decide) e)
    have k2 : Boxed W3 (w.heap.size + 1) 23 (.slice Al zb.length cl) := boxed_but HK2.out b2 (fun e => row_ne_box HO2.out HK2.out (by decide) e)
    have o1 : OwK 9 1 strC W3 w.heap.size (.slice Ah za.length ch) (za.mergeSort leB) := HO1.out.but b2 (fun g hg e => HI.out.ne.2 g hg e)
    have hKD : W3.heap[D]? = some (.deferred (some [])) := by
      have hD2 : D < W.heap.size := lt_heap HKD.out
      have n1 : (Value.slice Ah za.length ch).ownBlock ≠ some D := fun e => by
        obtain ⟨_, _, cur, h⟩ := own_block HI.out.oh e
        rw [HKD.out] at h; cases h
      have n2 : (Value.slice Al zb.length cl).ownBlock ≠ some D := fun e => by
        obtain ⟨_, _, cur, h⟩ := own_block HI.out.ol e
        rw [HKD.out] at h; cases h
      rw [b2.block D (Nat.lt_of_lt_of_le hD2 HB1.out.size) n2, HB1.out.block D hD2 n1]; exact HKD.out
    have hBl : Below w.heap.size w W3 := (HI.out.bl.trans (HB1.out.below (fun k _ hk => (own_block HI.out.oh hk).1) HI.out.bl.size)).trans (b2.below (fun k _ hk => (own_block HO2.out hk).1) (Nat.le_trans HI.out.bl.size HB1.out.size))
    have c1 := k1.cell
    have c2 := k2.cell
    have HO1 := Lib.hid o1; have HO2 := Lib.hid o2; have HKD := Lib.hid hKD; have HBl := Lib.hid hBl
    clear o1 o2 k1 k2 b2 hKD hBl HS2
    go_wp2_with fail
    go_quiet (fail)
    go_wp2_with fail
    have hKd : (W3.drewN nq).heap[D]? = some (.deferred (some [])) := HKD.out
    refine ⟨by simp, .inl ⟨_, _, rfl, run_takeDeferred hKd, ?_⟩⟩
    have hbt : But (fun k => k = D) W3 ((W3.drewN nq).putObj D (.deferred none)) := ((But.refl (fun k => k = D) W3).drewN nq).trans (but_putObj _ D _ rfl)
    have hne : ∀ {v : Value} {zs : List Bs}, OwK 9 1 strC W3 w.heap.size v zs → ∀ g, v.ownBlock = some g → ¬ g = D := fun h g hg e => by
      obtain ⟨_, _, cur, h2⟩ := own_block h hg
      rw [e, HKD.out] at h2; cases h2
    have hR : IsClo (wfL L) (thB L) tips (za.mergeSort leB) (zb.mergeSort leB) := by
      have pa := List.mergeSort_perm za leB
      have pb := List.mergeSort_perm zb leB
      rw [HZa.out] at pa ⊢
      rw [HZb.out] at pb ⊢
      exact HRow.out.clo (Nat.le_refl _) (sorted_leB _) (sorted_leB _) pa pb
    refine ⟨.tuple #[.slice Ah za.length ch, .slice Al zb.length cl], by simp [results, Tryz.results18, go_sem], _, _, za.mergeSort leB, zb.mergeSort leB, rfl, ?_, ?_, hR, ?_, ?_, ?_⟩
    · exact (HO1.out.rd strC_len).but hbt (hne HO1.out)
    · exact (HO2.out.rd strC_len).but hbt (hne HO2.out)
    · rw [List.length_mergeSort]; exact HL1.out
    · rw [List.length_mergeSort]; exact HL2.out
    · exact HBl.out.trans (hbt.below (fun k _ e => by rw [e]; exact Nat.le_trans HZ3.out hD) HBl.out.size)
  case stop =>
    intro D C W _ _ h _
    exact h.elim
end Go.Proofs.YtialgldmogigfaaGreatDoor
