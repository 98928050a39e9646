/-
  readChange, GetChange, changeWants. readLabel, GetLabel, labelWants.
-/
import Derived.Test.YtgjddkeogboojaaGreatDoorT08
import Derived.Test.YtgjddkeogboojaaGreatDoorT09
namespace Go.Proofs.YtgjddkeogboojaaGreatDoor
open Go Go.RowKit Go.Shelf
/-- The blocks that readChange lays, from N on; what the commit holds may turn. -/
structure ChgEnv (w : World) (W : World) (tr : List UInt8) (vp : Value) (ps : List (List UInt8)) (wh : List UInt8) : Prop where
  below : Below w.heap.size w W
  own : OwK 9 1 strC W (w.heap.size + 11) vp ps
  r0 : W.heap[w.heap.size]? = some (.cells #[.string ⟨#[]⟩, .slice none 0 0, .string ⟨#[]⟩, .string ⟨#[]⟩] 96 (0, 0))
  c : W.heap[w.heap.size + 1]? = some (.cells #[SV tr, vp, SV wh, .string ⟨#[]⟩] 96 (0, 0))
  b2 : W.heap[w.heap.size + 2]? = some (.cells #[SV wTree] 9 (0, 0))
  b3 : W.heap[w.heap.size + 3]? = some (.cells #[.pointer (some ⟨w.heap.size + 1, 0, none⟩)] 285 (0, 0))
  b4 : W.heap[w.heap.size + 4]? = some (.cells #[SV wParent] 9 (0, 0))
  b5 : W.heap[w.heap.size + 5]? = some (.cells #[.int .i64 8] 3 (0, 0))
  b6 : W.heap[w.heap.size + 6]? = some (.cells #[.pointer (some ⟨w.heap.size + 1, 1, none⟩)] 287 (0, 0))
  b7 : W.heap[w.heap.size + 7]? = some (.cells #[SV wWho] 9 (0, 0))
  b8 : W.heap[w.heap.size + 8]? = some (.cells #[.pointer (some ⟨w.heap.size + 1, 2, none⟩)] 285 (0, 0))
  b9 : W.heap[w.heap.size + 9]? = some (.cells #[.string ⟨#[10]⟩] 9 (0, 0))
  b10 : W.heap[w.heap.size + 10]? = some (.cells #[.func (.func 191) #[] #[.pointer (some ⟨w.heap.size + 2, 0, none⟩), .pointer (some ⟨w.heap.size + 3, 0, none⟩)],
    .func (.func 192) #[] #[.pointer (some ⟨w.heap.size + 6, 0, none⟩), .pointer (some ⟨w.heap.size + 5, 0, none⟩), .pointer (some ⟨w.heap.size + 4, 0, none⟩)],
    .func (.func 191) #[] #[.pointer (some ⟨w.heap.size + 7, 0, none⟩), .pointer (some ⟨w.heap.size + 8, 0, none⟩)],
    .func (.func 193) #[] #[.pointer (some ⟨w.heap.size + 9, 0, none⟩)]] 283 (0, 0))
theorem OwK.kept {b tb : Nat} {w w' : World} {v : Value} {l : List (List UInt8)} (h : OwK 9 1 strC w b v l) (hg : w.grownBy w' (some tb)) (ht : tb < b) : OwK 9 1 strC w' b v l := by
  obtain ⟨h1, h2⟩ := h
  refine ⟨h1, ?_⟩
  rcases h2 with h2 | ⟨g, cap, cur, rfl, hbg, hg2, r⟩
  · exact .inl h2
  · exact .inr ⟨g, cap, cur, rfl, hbg, (hg.block g (lt_heap hg2) (fun e => by cases e; omega)).trans hg2, r⟩
section
variable {w W W' : World} {tr wh : List UInt8} {vp : Value} {ps : List (List UInt8)}
theorem ChgEnv.lt (h : ChgEnv w W tr vp ps wh) : w.heap.size + 11 ≤ W.heap.size := lt_heap h.b10
/-- The commit's block turned, and nothing else that lay there. -/
theorem ChgEnv.turn (h : ChgEnv w W tr vp ps wh) (hg : W.grownBy W' (some (w.heap.size + 1))) {tr' wh' : List UInt8} {vp' : Value} {ps' : List (List UInt8)} (hc : W'.heap[w.heap.size + 1]? = some (.cells #[SV tr', vp', SV wh', .string ⟨#[]⟩] 96 (0, 0))) (ho : OwK 9 1 strC W' (w.heap.size + 11) vp' ps') : ChgEnv w W' tr' vp' ps' wh' := by
  have k : ∀ j, j ≠ 1 → ∀ o, W.heap[w.heap.size + j]? = some o → W'.heap[w.heap.size + j]? = some o := fun j hj o ho => (hg.block _ (lt_heap ho) (fun e => hj (by simp at e; omega))).trans ho
  exact ⟨h.below.grown hg h.below.size (fun k e => by cases e; omega), ho, k 0 (by omega) _ h.r0, hc, k 2 (by omega) _ h.b2, k 3 (by omega) _ h.b3, k 4 (by omega) _ h.b4, k 5 (by omega) _ h.b5, k 6 (by omega) _ h.b6, k 7 (by omega) _ h.b7, k 8 (by omega) _ h.b8, k 9 (by omega) _ h.b9, k 10 (by omega) _ h.b10⟩
end
/-- How far the steps have come. -/
def chgRel (s0 : List UInt8) : Nat → List UInt8 → List UInt8 → List (List UInt8) → List UInt8 → Prop
  | 0, s, _, ps, _ => s = s0 ∧ ps = []
  | 1, s, tr, ps, _ => lineP wTree s0 = some (tr, s) ∧ ps = []
  | 2, s, tr, ps, _ => ∃ r1, lineP wTree s0 = some (tr, r1) ∧ linesP wParent 8 r1 = some (ps, s)
  | 3, s, tr, ps, wh => ∃ r1 r2, lineP wTree s0 = some (tr, r1) ∧ linesP wParent 8 r1 = some (ps, r2) ∧ lineP wWho r2 = some (wh, s)
  | _, s, tr, ps, wh => rawC s0 = some ⟨tr, ps, wh, s⟩
def chgP (w : World) (s0 : List UInt8) (i : Nat) (s : List UInt8) (W : World) : Prop := s.length ≤ 100000 ∧ ∃ tr vp ps wh, ChgEnv w W tr vp ps wh ∧ chgRel s0 i s tr ps wh ∧ (i = 0 ∨ i = 1 → vp = .slice none 0 0)
def chgF (w : World) (s0 : List UInt8) (_ : Value) (W : World) : Prop := rawC s0 = none ∧ Below w.heap.size w W ∧ W.heap[w.heap.size]? = some (.cells #[.string ⟨#[]⟩, .slice none 0 0, .string ⟨#[]⟩, .string ⟨#[]⟩] 96 (0, 0))
def chgG : Nat → FuncId
  | 0 => 191
  | 1 => 192
  | 2 => 191
  | _ => 193
def chgL (N : Nat) : Nat → Array Value
  | 0 => #[.pointer (some ⟨N + 2, 0, none⟩), .pointer (some ⟨N + 3, 0, none⟩)]
  | 1 => #[.pointer (some ⟨N + 6, 0, none⟩), .pointer (some ⟨N + 5, 0, none⟩), .pointer (some ⟨N + 4, 0, none⟩)]
  | 2 => #[.pointer (some ⟨N + 7, 0, none⟩), .pointer (some ⟨N + 8, 0, none⟩)]
  | _ => #[.pointer (some ⟨N + 9, 0, none⟩)]
theorem linesP_len {word : List UInt8} {n : Nat} {s r : List UInt8} {l : List (List UInt8)} (h : linesP word n s = some (l, r)) : r.length ≤ s.length := by
  rw [linesP_some h]; simp
theorem frozen_of_blk' {W : World} {b i : Nat} {cs : Array Value} {t : TypeId} (h : W.heap[b]? = some (.cells cs t (0, 0))) : W.frozen? ⟨b, i, none⟩ = false := by
  simp [World.frozen?, h]
theorem chg_step (w : World) (he : Eb w) (s0 : List UInt8) : ∀ i s W, i < 4 → chgP w s0 i s W → Calls Tryz.prog (chgG i) (#[.string ⟨s.toArray⟩] ++ chgL w.heap.size i) W (StepPost (chgP w s0 (i + 1)) (chgF w s0)) := by
  have hgl : 4 < w.heap.size := by
    obtain ⟨a, h⟩ := he.er.wrong; exact World.block_lt_of_cell? w _ h
  intro i s W hi hP
  obtain ⟨hs, tr, vp, ps, wh, E, R, hv⟩ := hP
  have heW := he.below E.below
  match i, hi, R, hv with
  | 0, _, R, hv =>
    obtain ⟨e0, e1⟩ := R
    subst e0 e1
    obtain rfl := hv (.inl rfl)
    refine (line_any s wTree (by omega) W heW.er (w.heap.size + 2) (w.heap.size + 3) (w.heap.size + 1) 0 _ (cell_of_blk' E.b2 rfl) (cell_of_blk' E.b3 rfl) (cell_of_blk' E.c rfl) (frozen_of_blk' E.c) (by omega) (by omega) (by omega)).mono ?_
    rintro e w' (⟨q, rfl, a, h1, h2⟩ | ⟨x, p, rfl, h1, h2, _⟩)
    · exact .inl ⟨q, rfl, by have := lineP_len h1; omega, a, _, _, _, E.turn h2.1 (by have := h2.2 _ _ E.c; simpa using this) (E.own.kept h2.1 (by omega)), ⟨h1, rfl⟩, fun _ => rfl⟩
    · refine .inr ⟨_, p, rfl, by unfold rawC; rw [h1], E.below.grown h2 E.below.size (fun k e => by cases e; omega), (h2.block _ (lt_heap E.r0) (fun e => by simp at e)).trans E.r0⟩
  | 1, _, R, hv =>
    obtain ⟨e0, e1⟩ := R
    subst e1
    obtain rfl := hv (.inr rfl)
    refine (lines_any s wParent (by omega) W (w.heap.size + 6) (w.heap.size + 5) (w.heap.size + 4) (w.heap.size + 1) 1 _ _ (cell_of_blk' E.b6 rfl) (cell_of_blk' E.b5 rfl) (cell_of_blk' E.b4 rfl) E.c rfl (by omega) (by omega) (by omega) (fun W' hg => he.below (E.below.grown hg E.below.size (fun k e => by cases e; omega)))).mono ?_
    rintro e w' (⟨q, rfl, l, v, h1, h2, h3, h4⟩ | ⟨x, p, rfl, h1, h2⟩)
    · exact .inl ⟨q, rfl, by have := linesP_len h1; omega, tr, v, l, wh, E.turn h2 (by simpa using h3) (h4.mono E.lt), ⟨s, e0, h1⟩, fun h => by omega⟩
    · refine .inr ⟨_, p, rfl, by unfold rawC; rw [e0]; simp only; rw [h1], E.below.grown h2 E.below.size (fun k e => by cases e; omega), (h2.block _ (lt_heap E.r0) (fun e => by simp at e)).trans E.r0⟩
  | 2, _, R, hv =>
    obtain ⟨r1, e0, e1⟩ := R
    refine (line_any s wWho (by omega) W heW.er (w.heap.size + 7) (w.heap.size + 8) (w.heap.size + 1) 2 _ (cell_of_blk' E.b7 rfl) (cell_of_blk' E.b8 rfl) (cell_of_blk' E.c rfl) (frozen_of_blk' E.c) (by omega) (by omega) (by omega)).mono ?_
    rintro e w' (⟨q, rfl, a, h1, h2⟩ | ⟨x, p, rfl, h1, h2, _⟩)
    · exact .inl ⟨q, rfl, by have := lineP_len h1; omega, _, _, _, a, E.turn h2.1 (by have := h2.2 _ _ E.c; simpa using this) (E.own.kept h2.1 (by omega)), ⟨r1, s, e0, e1, h1⟩, fun h => by omega⟩
    · refine .inr ⟨_, p, rfl, by unfold rawC; rw [e0]; simp only; rw [e1]; simp only; rw [h1], E.below.grown h2 E.below.size (fun k e => by cases e; omega), (h2.block _ (lt_heap E.r0) (fun e => by simp at e)).trans E.r0⟩
  | 3, _, R, hv =>
    obtain ⟨r1, r2, e0, e1, e2⟩ := R
    have er : rawC s0 = (tailP s).map fun x => ⟨tr, ps, wh, x⟩ := by unfold rawC; rw [e0]; simp only; rw [e1]; simp only; rw [e2]
    by_cases hp : ([10] : List UInt8).isPrefixOf s = true
    · refine (past_yes s [10] (w.heap.size + 9) W (cell_of_blk' E.b9 rfl) heW.er hp).mono ?_
      rintro e w' ⟨rfl, rfl⟩
      obtain ⟨q, hq⟩ := pre_iff.1 hp
      refine .inl ⟨q, by rw [hq]; rfl, by rw [hq] at hs; simp at hs; omega, tr, vp, ps, wh, E, ?_, fun h => by omega⟩
      show rawC s0 = _
      rw [er, hq]; rfl
    · obtain ⟨a, b, _, _, c3⟩ := heW.er.two
      refine (past_no s [10] (w.heap.size + 9) W (cell_of_blk' E.b9 rfl) _ c3 (Bool.eq_false_iff.2 hp)).mono ?_
      rintro e w' ⟨rfl, rfl⟩
      refine .inr ⟨_, _, rfl, ?_, E.below.trans ((below_new W _).mono E.below.size), ((below_new W _).block _ (lt_heap E.r0)).trans E.r0⟩
      rw [er]
      cases s with
      | nil => rfl
      | cons b s =>
        rw [tailP, if_neg]
        · rfl
        · intro h; subst h; exact hp (by simp)
end Go.Proofs.YtgjddkeogboojaaGreatDoor
namespace Go.Proofs.YtgjddkeogboojaaGreatDoor
open Go Go.RowKit Go.Shelf
def noChg : Chg := ⟨[], [], [], []⟩
/-- What readChange answers. -/
def RcPost (s : List UInt8) (w : World) (e : Ending) (w' : World) : Prop :=
  Below w.heap.size w w' ∧ ∃ c vp, OwK 9 1 strC w' w.heap.size vp c.parents ∧ c.parents.length ≤ 8 ∧ ((getC s = some c ∧ e = .returned (.tuple #[ChgV c vp, .nilIface])) ∨ (getC s = none ∧ ∃ p, e = .returned (.tuple #[ChgV c vp, .iface 232 (.pointer (some p))])))
theorem linesP_max {word : List UInt8} : ∀ {n : Nat} {s r : List UInt8} {l : List (List UInt8)}, linesP word n s = some (l, r) → l.length ≤ n
  | 0, s, r, l, h => by
    simp only [linesP, Option.some.injEq, Prod.mk.injEq] at h
    obtain ⟨rfl, _⟩ := h; simp
  | n + 1, s, r, l, h => by
    rw [linesP_one] at h
    by_cases hp : word.isPrefixOf s = true
    · rw [if_pos hp] at h
      cases hc : lineP word s with
      | none => rw [hc] at h; cases h
      | some p =>
        obtain ⟨a, q⟩ := p
        rw [hc] at h
        obtain ⟨⟨l', r'⟩, h1, h2⟩ := Option.map_eq_some_iff.1 h
        simp only [Prod.mk.injEq] at h2
        obtain ⟨rfl, rfl⟩ := h2
        have := linesP_max h1
        simpa using this
    · rw [if_neg hp] at h
      simp only [Option.some.injEq, Prod.mk.injEq] at h
      obtain ⟨rfl, _⟩ := h; simp
theorem parL_mem : ∀ {l : List (List UInt8)} {x : List UInt8}, x ∈ l → x.length ≤ (parL l).length
  | [], _, h => by simp at h
  | y :: l, x, h => by
    have e : parL (y :: l) = (wParent ++ (y ++ [10])) ++ parL l := rfl
    rw [e]
    rcases List.mem_cons.1 h with rfl | h
    · simp; omega
    · have := parL_mem h
      simp; omega
theorem rawC_small {s : List UInt8} {c : Chg} (hs : s.length ≤ 100000) (h : rawC s = some c) : SmallC c ∧ c.parents.length ≤ 8 := by
  have e := rawC_some h
  have hl : s.length = (putC c).length := by rw [← e]
  have h8 : c.parents.length ≤ 8 := by
    unfold rawC at h
    cases h1 : lineP wTree s with
    | none => rw [h1] at h; cases h
    | some p =>
      obtain ⟨t, r1⟩ := p
      rw [h1] at h; simp only at h
      cases h2 : linesP wParent 8 r1 with
      | none => rw [h2] at h; cases h
      | some p =>
        obtain ⟨ps, r2⟩ := p
        rw [h2] at h; simp only at h
        cases h3 : lineP wWho r2 with
        | none => rw [h3] at h; cases h
        | some p =>
          obtain ⟨w, r3⟩ := p
          rw [h3] at h; simp only at h
          obtain ⟨x, h4, rfl⟩ := Option.map_eq_some_iff.1 h
          exact linesP_max h2
  have e2 : (putC c).length = c.tree.length + c.who.length + c.text.length + (parL c.parents).length + 12 := by simp [putC, wTree, wWho]; omega
  refine ⟨⟨by omega, fun x hx => ?_, by omega, by omega⟩, h8⟩
  have := parL_mem hx
  omega
set_option maxRecDepth 100000 in
set_option maxHeartbeats 4000000 in
theorem readChange_any (s : List UInt8) (hs : s.length ≤ 100000) (w : World) (he : Eb w) : Calls Tryz.prog 169 #[.string ⟨s.toArray⟩] w (RcPost s w) := by
  have HST := Lib.hid (chg_step w he s)
  have HS := Lib.hid hs; have HE := Lib.hid he
  clear he hs
  go_enter Tryz.func169, Tryz.ntmps169
  go_wp2_with fail
  refine (line_mk _ _ _).mono ?_
  rintro e w1 ⟨rfl, rfl⟩
  go_wp2_with fail
  refine (lines_mk _ _ _ _).mono ?_
  rintro e w1 ⟨rfl, rfl⟩
  go_wp2_with fail
  refine (line_mk _ _ _).mono ?_
  rintro e w1 ⟨rfl, rfl⟩
  go_wp2_with fail
  refine (past_mk _ _).mono ?_
  rintro e w1 ⟨rfl, rfl⟩
  go_wp2_with fail
  refine (read_gen 4 4 (w.heap.size + 10) (by decide) chgG (chgL w.heap.size) (chgP w s) (chgF w s) ?c1 ?c2 HST.out s _ ?c3).mono ?_
  case c1 =>
    rintro i r W hi ⟨_, tr, vp, ps, wh, E, _⟩
    refine cell_of_blk' E.b10 ?_
    match i, hi with
    | 0, _ => rfl
    | 1, _ => rfl
    | 2, _ => rfl
    | 3, _ => rfl
  case c2 =>
    intro i hi
    match i, hi with
    | 0, _ => exact enters_of Tryz.func191 (by kernel_rfl) rfl
    | 1, _ => exact enters_of Tryz.func192 (by kernel_rfl) rfl
    | 2, _ => exact enters_of Tryz.func191 (by kernel_rfl) rfl
    | 3, _ => exact enters_of Tryz.func193 (by kernel_rfl) rfl
  case c3 =>
    refine ⟨HS.out, [], .slice none 0 0, [], [], ⟨?_, OwK.nil _ _ _ _ _, ?_, ?_, ?_, ?_, ?_, ?_, ?_, ?_, ?_, ?_, ?_⟩, ⟨rfl, rfl⟩, fun _ => rfl⟩
    · refine Below.alloc (Below.alloc (Below.alloc (Below.alloc (Below.alloc (Below.alloc (Below.alloc (Below.alloc (Below.alloc (Below.alloc (Below.alloc (Below.refl _ _) ?_ _) ?_ _) ?_ _) ?_ _) ?_ _) ?_ _) ?_ _) ?_ _) ?_ _) ?_ _) ?_ _ <;> first | omega | (simp only [World.size_alloc]; omega)
    all_goals (simp only [alloc_heapL, Array.getElem?_push, Array.size_push, Nat.add_assoc, Nat.reduceAdd]; simp [SV, wTree, wParent, wWho])
  rintro e W (⟨r, rfl, hr, tr, vp, ps, wh, E, R, _⟩ | ⟨r, p, rfl, hg, hb, h0⟩)
  · have R2 : rawC s = some ⟨tr, ps, wh, r⟩ := R
    obtain ⟨hsm, hpl⟩ := rawC_small HS.out R2
    have hgc : getC s = if rightC ⟨tr, ps, wh, r⟩ then some ⟨tr, ps, wh, r⟩ else none := by unfold getC; rw [R2]
    have HG := Lib.hid hgc
    have hp0 := E.own.rd strC_len
    obtain ⟨A, ca, rfl⟩ := hp0.shape
    have HB := Lib.hid E.below; have HPR := Lib.hid hp0; have HPL := Lib.hid hpl
    -- behind the text's store
    obtain ⟨W1, hW1⟩ : ∃ W1, W1 = W.setCell ⟨w.heap.size + 1, 3, none⟩ (.string ⟨r.toArray⟩) := ⟨_, rfl⟩
    have hc1 : W1.heap[w.heap.size + 1]? = some (.cells #[SV tr, .slice A ps.length ca, SV wh, SV r] 96 (0, 0)) := by
      rw [hW1]; simp [World.setCell, Array.getElem?_modify, E.c, SV]
    have hr1 : W1.heap[w.heap.size]? = some (.cells #[.string ⟨#[]⟩, .slice none 0 0, .string ⟨#[]⟩, .string ⟨#[]⟩] 96 (0, 0)) := by
      rw [hW1]; exact (Below.heap_setCell _ _ _ _ (fun e => by simp at e)).trans E.r0
    have hb1 : Below w.heap.size w W1 := by rw [hW1]; exact E.below.setCell (Nat.le_add_right _ 1) _
    have ho1 : OwK 9 1 strC W1 (w.heap.size + 11) (.slice A ps.length ca) ps := by
      rw [hW1]; exact own_set E.own (by omega) 3 _
    have hp1 : StrsR W1 (.slice A ps.length ca) ps := ho1.rd strC_len
    have HO1 := Lib.hid ho1
    have x3 : W.cell? ⟨w.heap.size + 1, 3, none⟩ = some (.string ⟨#[]⟩) := cell_of_blk' E.c rfl
    have z3 : W.frozen? ⟨w.heap.size + 1, 3, none⟩ = false := frozen_of_blk' E.c
    have HW1 := Lib.hid hW1
    have HC1 := Lib.hid hc1; have HR1 := Lib.hid hr1; have HB1 := Lib.hid hb1; have HP1 := Lib.hid hp1
    have hck := fun W' (hW' : Below W1.heap.size W1 W') => checkChange_any ⟨tr, ps, wh, r⟩ (.slice A ps.length ca) W' (hp1.below hW' (Nat.le_refl _)) hsm ((HE.out.below hb1).er.below hW')
    unfold ChgV at hck
    simp only at hck
    have HCK := Lib.hid hck
    clear E R R2 hsm hpl hgc hp0 hW1 hc1 hr1 hb1 hp1 ho1 hck hr
    have q0 : W1.cell? ⟨w.heap.size + 1, 0, none⟩ = some (.string ⟨tr.toArray⟩) := cell_of_blk' HC1.out rfl
    have q1 : W1.cell? ⟨w.heap.size + 1, 1, none⟩ = some (.slice A ps.length ca) := cell_of_blk' HC1.out rfl
    have q2 : W1.cell? ⟨w.heap.size + 1, 2, none⟩ = some (.string ⟨wh.toArray⟩) := cell_of_blk' HC1.out rfl
    have q3 : W1.cell? ⟨w.heap.size + 1, 3, none⟩ = some (.string ⟨r.toArray⟩) := cell_of_blk' HC1.out rfl
    have hS0 := And.intro q0 (And.intro q1 (And.intro q2 q3))
    have hk : ∀ W', Below W1.heap.size W1 W' → (W'.cell? ⟨w.heap.size + 1, 0, none⟩ = some (.string ⟨tr.toArray⟩) ∧ W'.cell? ⟨w.heap.size + 1, 1, none⟩ = some (.slice A ps.length ca) ∧ W'.cell? ⟨w.heap.size + 1, 2, none⟩ = some (.string ⟨wh.toArray⟩) ∧ W'.cell? ⟨w.heap.size + 1, 3, none⟩ = some (.string ⟨r.toArray⟩)) ∧
        (W'.cell? ⟨w.heap.size, 0, none⟩ = some (.string ⟨#[]⟩) ∧ W'.cell? ⟨w.heap.size, 1, none⟩ = some (.slice none 0 0) ∧ W'.cell? ⟨w.heap.size, 2, none⟩ = some (.string ⟨#[]⟩) ∧ W'.cell? ⟨w.heap.size, 3, none⟩ = some (.string ⟨#[]⟩)) ∧
        (W'.frozen? ⟨w.heap.size, 0, none⟩ = false ∧ W'.frozen? ⟨w.heap.size, 1, none⟩ = false ∧ W'.frozen? ⟨w.heap.size, 2, none⟩ = false ∧ W'.frozen? ⟨w.heap.size, 3, none⟩ = false) := fun W' hW' => by
      have hc := (hW'.block _ (lt_heap HC1.out)).trans HC1.out
      have hr := (hW'.block _ (lt_heap HR1.out)).trans HR1.out
      exact ⟨⟨cell_of_blk' hc rfl, cell_of_blk' hc rfl, cell_of_blk' hc rfl, cell_of_blk' hc rfl⟩, ⟨cell_of_blk' hr rfl, cell_of_blk' hr rfl, cell_of_blk' hr rfl, cell_of_blk' hr rfl⟩, ⟨frozen_of_blk' hr, frozen_of_blk' hr, frozen_of_blk' hr, frozen_of_blk' hr⟩⟩
    have HK := Lib.hid hk
    clear hk
    unfold SV
    go_wp2_with fail
    rw [← HW1.out]
    go_wp2_with fail
    go_region_held3 (fun W' => W'.cell? ⟨w.heap.size + 1, 0, none⟩ = some (.string ⟨tr.toArray⟩) ∧ W'.cell? ⟨w.heap.size + 1, 1, none⟩ = some (.slice A ps.length ca) ∧ W'.cell? ⟨w.heap.size + 1, 2, none⟩ = some (.string ⟨wh.toArray⟩) ∧ W'.cell? ⟨w.heap.size + 1, 3, none⟩ = some (.string ⟨r.toArray⟩))
      (first | exact hS0 | assumption | go_keep)
      (first
        | (go_at_call 182; refine (HCK.out W1.drew (Below.refl _ _).drew).mono ?_; intro e w5 h5; have H5 := Lib.hid h5; obtain ⟨ev, rfl⟩ := h5.ret; obtain ⟨hS5, ⟨y0, y1, y2, y3⟩, ⟨z0, z1, z2, z3⟩⟩ := HK.out w5 (bdr h5.2); clear h5)
        | show False)
    obtain ⟨f0, f1, f2, f3⟩ := cells4 w5 w.heap.size (.string ⟨tr.toArray⟩) (.slice A ps.length ca) (.string ⟨wh.toArray⟩) (.string ⟨r.toArray⟩) y0 y1 y2 y3
    go_wp2_with fail
    refine bodyPost_ret (v := .tuple #[ChgV ⟨tr, ps, wh, r⟩ (.slice A ps.length ca), ev]) (by simp [results, Tryz.results169, go_sem, f0, f1, f2, f3, ChgV]) rfl ?_
    have hb5 := bdr H5.out.2
    have hbw := HB1.out.trans (hb5.mono HB1.out.size)
    refine ⟨below_set4 hbw (Nat.le_refl _) _ _ _ _, ⟨tr, ps, wh, r⟩, .slice A ps.length ca, ?_, HPL.out, ?_⟩
    · exact (own_set (own_set (own_set (own_set (HO1.out.below hb5 (Nat.le_refl _)) (by omega) 0 _) (by omega) 1 _) (by omega) 2 _) (by omega) 3 _).mono (by omega)
    · rcases H5.out.1 with ⟨h1, h2⟩ | ⟨h1, p, h2⟩
      · cases h2; exact .inl ⟨by rw [HG.out, h1]; rfl, rfl⟩
      · cases h2; exact .inr ⟨by rw [HG.out, h1]; rfl, p, rfl⟩
  · obtain ⟨pb, po, psx⟩ := p
    have hgc : getC s = none := by unfold getC; rw [hg]
    have HG := Lib.hid hgc
    have HB := Lib.hid hb
    have y0 : W.cell? ⟨w.heap.size, 0, none⟩ = some (.string ⟨#[]⟩) := cell_of_blk' h0 rfl
    have y1 : W.cell? ⟨w.heap.size, 1, none⟩ = some (.slice none 0 0) := cell_of_blk' h0 rfl
    have y2 : W.cell? ⟨w.heap.size, 2, none⟩ = some (.string ⟨#[]⟩) := cell_of_blk' h0 rfl
    have y3 : W.cell? ⟨w.heap.size, 3, none⟩ = some (.string ⟨#[]⟩) := cell_of_blk' h0 rfl
    have z0 : W.frozen? ⟨w.heap.size, 0, none⟩ = false := frozen_of_blk' h0
    have z1 : W.frozen? ⟨w.heap.size, 1, none⟩ = false := frozen_of_blk' h0
    have z2 : W.frozen? ⟨w.heap.size, 2, none⟩ = false := frozen_of_blk' h0
    have z3 : W.frozen? ⟨w.heap.size, 3, none⟩ = false := frozen_of_blk' h0
    obtain ⟨f0, f1, f2, f3⟩ := cells4 W w.heap.size (.string ⟨#[]⟩) (.slice none 0 0) (.string ⟨#[]⟩) (.string ⟨#[]⟩) y0 y1 y2 y3
    clear hg hgc hb h0
    go_wp2_with fail
    refine bodyPost_ret (v := .tuple #[ChgV noChg (.slice none 0 0), .iface 232 (.pointer (some ⟨pb, po, psx⟩))]) (by simp [results, Tryz.results169, go_sem, f0, f1, f2, f3, ChgV, noChg]) rfl ?_
    exact ⟨below_set4 HB.out (Nat.le_refl _) _ _ _ _, noChg, .slice none 0 0, OwK.nil _ _ _ _ _, by simp [noChg], .inr ⟨HG.out, _, rfl⟩⟩
end Go.Proofs.YtgjddkeogboojaaGreatDoor
namespace Go.Proofs.YtgjddkeogboojaaGreatDoor
open Go Go.RowKit Go.Shelf
def CwRel (c : Chg) (w1 : World) (k : Nat) (v : Value) (wr : World) : Prop :=
  OwK 266 2 wantV wr w1.heap.size v ((c.tree, 2) :: (c.parents.take k).map fun p => (p, (3 : Int))) ∧ Below w1.heap.size w1 wr
theorem CwRel.step {c : Chg} {w1 w2 w3 : World} {k : Nat} {v' : Value} {x : List UInt8} {ns : List (List UInt8 × Int)} (hns : ns = (c.tree, 2) :: (c.parents.take k).map fun p => (p, (3 : Int))) (hk : k < c.parents.length) (hx : x = c.parents.getD k [])
    (ho : OwK 266 2 wantV w3 w1.heap.size v' (ns ++ [(x, 3)])) (h1 : Below w1.heap.size w1 w2) (h2 : Below w1.heap.size w2 w3) : CwRel c w1 (k + 1) v' w3 := by
  refine ⟨?_, h1.trans h2⟩
  rw [take_getD c.parents [] k hk, List.map_append, ← List.cons_append, ← hns, ← hx]
  exact ho
theorem own_lit (w : World) (x : List UInt8 × Int) (b : Nat) (hb : b ≤ w.heap.size) : OwK 266 2 wantV (w.alloc (.cells #[SV x.1, .int .i64 x.2] 266)) b (.slice (some ⟨w.heap.size, 0, none⟩) 1 1) [x] := by
  refine ⟨by simp [wantV], .inr ⟨w.heap.size, 1, #[SV x.1, .int .i64 x.2], rfl, hb, heap_alloc_new _ _, Nat.le_refl _, ?_, ?_, ?_⟩⟩
  · decide
  · rfl
  · simp [wantV]
theorem wantC_eq (c : Chg) : ((c.tree, (2 : Int)) :: (c.parents.take c.parents.length).map fun p => (p, (3 : Int))) = wantC c := by rw [List.take_length]; rfl
set_option maxRecDepth 100000 in
set_option maxHeartbeats 4000000 in
theorem changeWants_any (s : List UInt8) (hs : s.length ≤ 100000) (w : World) (he : Eb w) :
    Calls Tryz.prog 156 #[.string ⟨s.toArray⟩] w (WtPost ((getC s).map wantC) w) := by
  have HT := Lib.hid (readChange_any s hs w he)
  clear he hs
  go_enter Tryz.func156, Tryz.ntmps156
  go_wp2_with fail
  refine HT.out.mono ?_
  rintro e w1 ⟨l1, c, vp, ho, hl, h⟩
  obtain ⟨A, ca, rfl⟩ := (ho.rd strC_len).shape
  have hfin : ∃ ev, e = .returned (.tuple #[ChgV c (.slice A c.parents.length ca), ev]) ∧ ∀ v w2, WantsR w2 v (wantC c) → Fr w.heap.size v → Below w.heap.size w w2 → WtPost ((getC s).map wantC) w (.returned (.tuple #[v, ev])) w2 := by
    rcases h with ⟨h1, rfl⟩ | ⟨h1, p, rfl⟩
    · exact ⟨_, rfl, fun v w2 h2 hf h3 => ⟨.inl ⟨v, _, by rw [h1]; rfl, rfl, h2, by simp [wantC]; omega, hf⟩, h3⟩⟩
    · refine ⟨_, rfl, fun v w2 h2 _ h3 => ⟨.inr ⟨by rw [h1]; rfl, ?_⟩, h3⟩⟩
      obtain ⟨A2, c2, rfl⟩ := h2.shape
      exact ⟨_, _, _, p, rfl⟩
  obtain ⟨ev, rfl, hout⟩ := hfin
  have HO := Lib.hid hout; have HR := Lib.hid (ho.rd strC_len); have L1 := Lib.hid l1; have HL := Lib.hid hl
  have hst := own_lit (w1.alloc (.cells #[.string ⟨c.tree.toArray⟩, .slice A c.parents.length ca, .string ⟨c.who.toArray⟩, .string ⟨c.text.toArray⟩] 96)) (c.tree, 2) w1.heap.size (by simp)
  have hbs := ((below_new w1 (.cells #[.string ⟨c.tree.toArray⟩, .slice A c.parents.length ca, .string ⟨c.who.toArray⟩, .string ⟨c.text.toArray⟩] 96))).alloc (by simp) (.cells #[SV c.tree, .int .i64 2] 266)
  have H0 : Hid (CwRel c w1 0 _ _) := Lib.hid ⟨hst, hbs⟩
  have HQ := Lib.hid (wantC_eq c)
  have HCr := Lib.hid (fun k => @CwRel.step c w1 · · k)
  clear h ho hl l1 hout hst hbs
  obtain ⟨tr, ps, wh, tx⟩ := c
  unfold ChgV
  simp only at HR HL H0 HO HQ ⊢
  unfold SV at H0
  clear HCr
  go_wp2_with fail
  go_loopw [6, 21] (fun vl vi wr => ∃ k : Nat, k ≤ ps.length ∧ vi = .int .i64 k ∧ Hid (CwRel ⟨tr, ps, wh, tx⟩ w1 k vl wr)) (fun _ vi _ => ps.length - (intOf vi).toNat)
  case atStart => exact ⟨0, Nat.zero_le _, rfl, Lib.hid (by have := H0.out; simpa using this)⟩
  case round =>
    obtain ⟨k, hk, rfl, hrel⟩ := hrel
    have hL := HL.out
    by_cases hlt : k < ps.length
    · obtain ⟨g, o, c', e, _, hg⟩ := HR.out.pos (by omega)
      cases e
      have c0 := StrsR.cell (HR.out.below hrel.out.2 (Nat.le_refl _)) k hlt
      obtain ⟨x, hx⟩ : ∃ x, x = ps.getD k [] := ⟨_, rfl⟩
      rw [← hx] at c0
      unfold SV at c0
      have HX := Lib.hid hx
      obtain ⟨ns, hns⟩ : ∃ ns, ns = ((tr, (2 : Int)) :: (ps.take k).map fun p => (p, (3 : Int))) := ⟨_, rfl⟩
      have hown := hrel.out.1
      simp only at hown
      rw [← hns] at hown
      have HN := Lib.hid hns; have HOw := Lib.hid hown; have HB := Lib.hid hrel.out.2
      have hnl : ns.length ≤ 9 := by rw [hns, List.length_cons, List.length_map, List.length_take]; omega
      have HNL := Lib.hid hnl
      have eL : IntKind.i64.wrap ((k : Int) + 1) = ((k + 1 : Nat) : Int) := by rw [IntWalk.i64_in _ (by omega)]; omega
      clear hx hns hown hnl hrel
      go_wp2_with (at_builtin; refine wpList_one wantK rfl _ _ rfl w1.heap.size u6 ns (x, 3) _ rfl rfl (by simp [go_sem]) HOw.out ?c1 (by decide) ?c2 ?_)
      case c1 => have := HNL.out; omega
      case c2 => exact HB.out.size
      intro v' w2 ho2 hb2
      have HR2 := Lib.hid (@CwRel.step ⟨tr, ps, wh, tx⟩ w1 _ _ k v' x ns HN.out hlt HX.out ho2 HB.out hb2)
      clear ho2 hb2
      go_wp2_with fail
      go_roundw
      case rel => exact ⟨k + 1, by omega, by go_num, HR2⟩
      case measure => simp [intOf]; omega
    · obtain rfl : k = ps.length := by omega
      have h0 := hrel.out
      have h1 := h0.1.rd wantV_len
      rw [HQ.out] at h1
      have HF := Lib.hid (HO.out _ wr h1 (h0.1.fr L1.out.size) (L1.out.trans (h0.2.mono L1.out.size)))
      clear h0 h1
      go_wp2_with fail
      go_ret2
      exact HF.out
end Go.Proofs.YtgjddkeogboojaaGreatDoor
namespace Go.Proofs.YtgjddkeogboojaaGreatDoor
open Go Go.RowKit Go.Shelf
/-- The blocks that readLabel lays, from N on; what the tag and its kind's word hold may turn. -/
structure LblEnv (w : World) (W : World) (di kd nm : List UInt8) : Prop where
  below : Below w.heap.size w W
  r0 : W.heap[w.heap.size]? = some (.cells #[.string ⟨#[]⟩, .int .i64 0, .string ⟨#[]⟩, .string ⟨#[]⟩] 100 (0, 0))
  l : W.heap[w.heap.size + 1]? = some (.cells #[SV di, .int .i64 0, SV nm, .string ⟨#[]⟩] 100 (0, 0))
  k : W.heap[w.heap.size + 2]? = some (.cells #[SV kd] 9 (0, 0))
  b3 : W.heap[w.heap.size + 3]? = some (.cells #[SV wObject] 9 (0, 0))
  b4 : W.heap[w.heap.size + 4]? = some (.cells #[.pointer (some ⟨w.heap.size + 1, 0, none⟩)] 285 (0, 0))
  b5 : W.heap[w.heap.size + 5]? = some (.cells #[SV wKind] 9 (0, 0))
  b6 : W.heap[w.heap.size + 6]? = some (.cells #[.pointer (some ⟨w.heap.size + 2, 0, none⟩)] 285 (0, 0))
  b7 : W.heap[w.heap.size + 7]? = some (.cells #[SV wName] 9 (0, 0))
  b8 : W.heap[w.heap.size + 8]? = some (.cells #[.pointer (some ⟨w.heap.size + 1, 2, none⟩)] 285 (0, 0))
  b9 : W.heap[w.heap.size + 9]? = some (.cells #[.string ⟨#[10]⟩] 9 (0, 0))
  b10 : W.heap[w.heap.size + 10]? = some (.cells #[.func (.func 191) #[] #[.pointer (some ⟨w.heap.size + 3, 0, none⟩), .pointer (some ⟨w.heap.size + 4, 0, none⟩)],
    .func (.func 191) #[] #[.pointer (some ⟨w.heap.size + 5, 0, none⟩), .pointer (some ⟨w.heap.size + 6, 0, none⟩)],
    .func (.func 191) #[] #[.pointer (some ⟨w.heap.size + 7, 0, none⟩), .pointer (some ⟨w.heap.size + 8, 0, none⟩)],
    .func (.func 193) #[] #[.pointer (some ⟨w.heap.size + 9, 0, none⟩)]] 283 (0, 0))
section
variable {w W W' : World} {di kd nm : List UInt8}
theorem LblEnv.turnL (h : LblEnv w W di kd nm) (hg : W.grownBy W' (some (w.heap.size + 1))) {di' nm' : List UInt8} (hc : W'.heap[w.heap.size + 1]? = some (.cells #[SV di', .int .i64 0, SV nm', .string ⟨#[]⟩] 100 (0, 0))) : LblEnv w W' di' kd nm' := by
  have k : ∀ j, j ≠ 1 → ∀ o, W.heap[w.heap.size + j]? = some o → W'.heap[w.heap.size + j]? = some o := fun j hj o ho => (hg.block _ (lt_heap ho) (fun e => hj (by simp at e; omega))).trans ho
  exact ⟨h.below.grown hg h.below.size (fun k e => by cases e; omega), k 0 (by omega) _ h.r0, hc, k 2 (by omega) _ h.k, k 3 (by omega) _ h.b3, k 4 (by omega) _ h.b4, k 5 (by omega) _ h.b5, k 6 (by omega) _ h.b6, k 7 (by omega) _ h.b7, k 8 (by omega) _ h.b8, k 9 (by omega) _ h.b9, k 10 (by omega) _ h.b10⟩
theorem LblEnv.turnK (h : LblEnv w W di kd nm) (hg : W.grownBy W' (some (w.heap.size + 2))) {kd' : List UInt8} (hc : W'.heap[w.heap.size + 2]? = some (.cells #[SV kd'] 9 (0, 0))) : LblEnv w W' di kd' nm := by
  have k : ∀ j, j ≠ 2 → ∀ o, W.heap[w.heap.size + j]? = some o → W'.heap[w.heap.size + j]? = some o := fun j hj o ho => (hg.block _ (lt_heap ho) (fun e => hj (by simp at e; omega))).trans ho
  exact ⟨h.below.grown hg h.below.size (fun k e => by cases e; omega), k 0 (by omega) _ h.r0, k 1 (by omega) _ h.l, hc, k 3 (by omega) _ h.b3, k 4 (by omega) _ h.b4, k 5 (by omega) _ h.b5, k 6 (by omega) _ h.b6, k 7 (by omega) _ h.b7, k 8 (by omega) _ h.b8, k 9 (by omega) _ h.b9, k 10 (by omega) _ h.b10⟩
end
def lblRel (s0 : List UInt8) : Nat → List UInt8 → List UInt8 → List UInt8 → List UInt8 → Prop
  | 0, s, _, _, _ => s = s0
  | 1, s, di, _, _ => lineP wObject s0 = some (di, s)
  | 2, s, di, kd, _ => ∃ r1, lineP wObject s0 = some (di, r1) ∧ lineP wKind r1 = some (kd, s)
  | 3, s, di, kd, nm => ∃ r1 r2, lineP wObject s0 = some (di, r1) ∧ lineP wKind r1 = some (kd, r2) ∧ lineP wName r2 = some (nm, s)
  | _, s, di, kd, nm => rawL s0 = some ⟨di, kindOfW kd, nm, s⟩
def lblP (w : World) (s0 : List UInt8) (i : Nat) (s : List UInt8) (W : World) : Prop := s.length ≤ 100000 ∧ ∃ di kd nm, LblEnv w W di kd nm ∧ lblRel s0 i s di kd nm
def lblF (w : World) (s0 : List UInt8) (_ : Value) (W : World) : Prop := rawL s0 = none ∧ Below w.heap.size w W ∧ W.heap[w.heap.size]? = some (.cells #[.string ⟨#[]⟩, .int .i64 0, .string ⟨#[]⟩, .string ⟨#[]⟩] 100 (0, 0))
def lblG : Nat → FuncId
  | 0 => 191
  | 1 => 191
  | 2 => 191
  | _ => 193
def lblL (N : Nat) : Nat → Array Value
  | 0 => #[.pointer (some ⟨N + 3, 0, none⟩), .pointer (some ⟨N + 4, 0, none⟩)]
  | 1 => #[.pointer (some ⟨N + 5, 0, none⟩), .pointer (some ⟨N + 6, 0, none⟩)]
  | 2 => #[.pointer (some ⟨N + 7, 0, none⟩), .pointer (some ⟨N + 8, 0, none⟩)]
  | _ => #[.pointer (some ⟨N + 9, 0, none⟩)]
theorem lbl_step (w : World) (he : Er w) (s0 : List UInt8) : ∀ i s W, i < 4 → lblP w s0 i s W → Calls Tryz.prog (lblG i) (#[.string ⟨s.toArray⟩] ++ lblL w.heap.size i) W (StepPost (lblP w s0 (i + 1)) (lblF w s0)) := by
  have hgl : 4 < w.heap.size := by
    obtain ⟨a, h⟩ := he.wrong; exact World.block_lt_of_cell? w _ h
  intro i s W hi hP
  obtain ⟨hs, di, kd, nm, E, R⟩ := hP
  have heW := he.below E.below
  match i, hi, R with
  | 0, _, R =>
    have e0 : s = s0 := R
    subst e0
    refine (line_any s wObject (by omega) W heW (w.heap.size + 3) (w.heap.size + 4) (w.heap.size + 1) 0 _ (cell_of_blk' E.b3 rfl) (cell_of_blk' E.b4 rfl) (cell_of_blk' E.l rfl) (frozen_of_blk' E.l) (by omega) (by omega) (by omega)).mono ?_
    rintro e w' (⟨q, rfl, a, h1, h2⟩ | ⟨x, p, rfl, h1, h2, _⟩)
    · exact .inl ⟨q, rfl, by have := lineP_len h1; omega, a, _, _, E.turnL h2.1 (by have := h2.2 _ _ E.l; simpa using this), h1⟩
    · refine .inr ⟨_, p, rfl, by unfold rawL; rw [h1], E.below.grown h2 E.below.size (fun k e => by cases e; omega), (h2.block _ (lt_heap E.r0) (fun e => by simp at e)).trans E.r0⟩
  | 1, _, R =>
    have e0 : lineP wObject s0 = some (di, s) := R
    refine (line_any s wKind (by omega) W heW (w.heap.size + 5) (w.heap.size + 6) (w.heap.size + 2) 0 _ (cell_of_blk' E.b5 rfl) (cell_of_blk' E.b6 rfl) (cell_of_blk' E.k rfl) (frozen_of_blk' E.k) (by omega) (by omega) (by omega)).mono ?_
    rintro e w' (⟨q, rfl, a, h1, h2⟩ | ⟨x, p, rfl, h1, h2, _⟩)
    · exact .inl ⟨q, rfl, by have := lineP_len h1; omega, _, a, _, E.turnK h2.1 (by have := h2.2 _ _ E.k; simpa using this), s, e0, h1⟩
    · refine .inr ⟨_, p, rfl, by unfold rawL; rw [e0]; simp only; rw [h1], E.below.grown h2 E.below.size (fun k e => by cases e; omega), (h2.block _ (lt_heap E.r0) (fun e => by simp at e)).trans E.r0⟩
  | 2, _, R =>
    obtain ⟨r1, e0, e1⟩ := R
    refine (line_any s wName (by omega) W heW (w.heap.size + 7) (w.heap.size + 8) (w.heap.size + 1) 2 _ (cell_of_blk' E.b7 rfl) (cell_of_blk' E.b8 rfl) (cell_of_blk' E.l rfl) (frozen_of_blk' E.l) (by omega) (by omega) (by omega)).mono ?_
    rintro e w' (⟨q, rfl, a, h1, h2⟩ | ⟨x, p, rfl, h1, h2, _⟩)
    · exact .inl ⟨q, rfl, by have := lineP_len h1; omega, _, _, a, E.turnL h2.1 (by have := h2.2 _ _ E.l; simpa using this), r1, s, e0, e1, h1⟩
    · refine .inr ⟨_, p, rfl, by unfold rawL; rw [e0]; simp only; rw [e1]; simp only; rw [h1], E.below.grown h2 E.below.size (fun k e => by cases e; omega), (h2.block _ (lt_heap E.r0) (fun e => by simp at e)).trans E.r0⟩
  | 3, _, R =>
    obtain ⟨r1, r2, e0, e1, e2⟩ := R
    have er : rawL s0 = (tailP s).map fun x => ⟨di, kindOfW kd, nm, x⟩ := by unfold rawL; rw [e0]; simp only; rw [e1]; simp only; rw [e2]
    by_cases hp : ([10] : List UInt8).isPrefixOf s = true
    · refine (past_yes s [10] (w.heap.size + 9) W (cell_of_blk' E.b9 rfl) heW hp).mono ?_
      rintro e w' ⟨rfl, rfl⟩
      obtain ⟨q, hq⟩ := pre_iff.1 hp
      refine .inl ⟨q, by rw [hq]; rfl, by rw [hq] at hs; simp at hs; omega, di, kd, nm, E, ?_⟩
      show rawL s0 = _
      rw [er, hq]; rfl
    · obtain ⟨a, b, _, _, c3⟩ := heW.two
      refine (past_no s [10] (w.heap.size + 9) W (cell_of_blk' E.b9 rfl) _ c3 (Bool.eq_false_iff.2 hp)).mono ?_
      rintro e w' ⟨rfl, rfl⟩
      refine .inr ⟨_, _, rfl, ?_, E.below.trans ((below_new W _).mono E.below.size), ((below_new W _).block _ (lt_heap E.r0)).trans E.r0⟩
      rw [er]
      cases s with
      | nil => rfl
      | cons b s =>
        rw [tailP, if_neg]
        · rfl
        · intro h; subst h; exact hp (by simp)
end Go.Proofs.YtgjddkeogboojaaGreatDoor
namespace Go.Proofs.YtgjddkeogboojaaGreatDoor
open Go Go.RowKit Go.Shelf
def noLbl : Lbl := ⟨[], 0, [], []⟩
/-- What readLabel answers. -/
def RlPost (s : List UInt8) (w : World) (e : Ending) (w' : World) : Prop :=
  Below w.heap.size w w' ∧ ∃ l, (getL4 s = some l ∧ e = .returned (.tuple #[LblV l, .nilIface])) ∨ (getL4 s = none ∧ ∃ p, e = .returned (.tuple #[LblV l, .iface 232 (.pointer (some p))]))
theorem rawL_parts {s : List UInt8} {l : Lbl} (h : rawL s = some l) : l.id.length ≤ s.length ∧ l.name.length ≤ s.length ∧ l.text.length ≤ s.length := by
  unfold rawL at h
  cases h1 : lineP wObject s with
  | none => rw [h1] at h; cases h
  | some p =>
    obtain ⟨i, r1⟩ := p
    rw [h1] at h; simp only at h
    cases h2 : lineP wKind r1 with
    | none => rw [h2] at h; cases h
    | some p =>
      obtain ⟨k, r2⟩ := p
      rw [h2] at h; simp only at h
      cases h3 : lineP wName r2 with
      | none => rw [h3] at h; cases h
      | some p =>
        obtain ⟨n, r3⟩ := p
        rw [h3] at h; simp only at h
        obtain ⟨x, h4, rfl⟩ := Option.map_eq_some_iff.1 h
        have e1 := (lineP_some h1).1
        have e2 := (lineP_some h2).1
        have e3 := (lineP_some h3).1
        have e4 := tailP_some h4
        simp only
        rw [e1, e2, e3, e4]
        simp
        omega
set_option maxRecDepth 100000 in
set_option maxHeartbeats 4000000 in
theorem readLabel_any (s : List UInt8) (hs : s.length ≤ 100000) (w : World) (he : Er w) : Calls Tryz.prog 170 #[.string ⟨s.toArray⟩] w (RlPost s w) := by
  have HST := Lib.hid (lbl_step w he s)
  have HS := Lib.hid hs; have HE := Lib.hid he
  clear he hs
  go_enter Tryz.func170, Tryz.ntmps170
  go_wp2_with fail
  refine (line_mk _ _ _).mono ?_
  rintro e w1 ⟨rfl, rfl⟩
  go_wp2_with fail
  refine (line_mk _ _ _).mono ?_
  rintro e w1 ⟨rfl, rfl⟩
  go_wp2_with fail
  refine (line_mk _ _ _).mono ?_
  rintro e w1 ⟨rfl, rfl⟩
  go_wp2_with fail
  refine (past_mk _ _).mono ?_
  rintro e w1 ⟨rfl, rfl⟩
  go_wp2_with fail
  refine (read_gen 4 4 (w.heap.size + 10) (by decide) lblG (lblL w.heap.size) (lblP w s) (lblF w s) ?c1 ?c2 HST.out s _ ?c3).mono ?_
  case c1 =>
    rintro i r W hi ⟨_, di, kd, nm, E, _⟩
    refine cell_of_blk' E.b10 ?_
    match i, hi with
    | 0, _ => rfl
    | 1, _ => rfl
    | 2, _ => rfl
    | 3, _ => rfl
  case c2 =>
    intro i hi
    match i, hi with
    | 0, _ => exact enters_of Tryz.func191 (by kernel_rfl) rfl
    | 1, _ => exact enters_of Tryz.func191 (by kernel_rfl) rfl
    | 2, _ => exact enters_of Tryz.func191 (by kernel_rfl) rfl
    | 3, _ => exact enters_of Tryz.func193 (by kernel_rfl) rfl
  case c3 =>
    refine ⟨HS.out, [], [], [], ⟨?_, ?_, ?_, ?_, ?_, ?_, ?_, ?_, ?_, ?_, ?_, ?_⟩, rfl⟩
    · refine Below.alloc (Below.alloc (Below.alloc (Below.alloc (Below.alloc (Below.alloc (Below.alloc (Below.alloc (Below.alloc (Below.alloc (Below.alloc (Below.refl _ _) ?_ _) ?_ _) ?_ _) ?_ _) ?_ _) ?_ _) ?_ _) ?_ _) ?_ _) ?_ _) ?_ _ <;> first | omega | (simp only [World.size_alloc]; omega)
    all_goals (simp only [alloc_heapL, Array.getElem?_push, Array.size_push, Nat.add_assoc, Nat.reduceAdd]; simp [SV, wObject, wKind, wName])
  rintro e W (⟨r, rfl, hr, di, kd, nm, E, R⟩ | ⟨r, p, rfl, hg, hb, h0⟩)
  · have R2 : rawL s = some ⟨di, kindOfW kd, nm, r⟩ := R
    obtain ⟨p1, p2, p3⟩ := rawL_parts R2
    simp only at p1 p2 p3
    have hss := HS.out
    have hgc : getL4 s = if rightL ⟨di, kindOfW kd, nm, r⟩ then some ⟨di, kindOfW kd, nm, r⟩ else none := by unfold getL4; rw [R2]
    have HG := Lib.hid hgc
    have HKi := Lib.hid (kindOf_any kd W)
    obtain ⟨kv, hkv⟩ : ∃ kv, kv = kindOfW kd := ⟨_, rfl⟩
    rw [← hkv] at HG HKi
    obtain ⟨W1, hW1⟩ : ∃ W1, W1 = (W.setCell ⟨w.heap.size + 1, 1, none⟩ (.int .i64 kv)).setCell ⟨w.heap.size + 1, 3, none⟩ (.string ⟨r.toArray⟩) := ⟨_, rfl⟩
    have hc1 : W1.heap[w.heap.size + 1]? = some (.cells #[SV di, .int .i64 kv, SV nm, SV r] 100 (0, 0)) := by
      rw [hW1]; simp [World.setCell, Array.getElem?_modify, E.l, SV]
    have hr1 : W1.heap[w.heap.size]? = some (.cells #[.string ⟨#[]⟩, .int .i64 0, .string ⟨#[]⟩, .string ⟨#[]⟩] 100 (0, 0)) := by
      rw [hW1]; exact (Below.heap_setCell _ _ _ _ (fun e => by simp at e)).trans ((Below.heap_setCell _ _ _ _ (fun e => by simp at e)).trans E.r0)
    have hb1 : Below w.heap.size w W1 := by rw [hW1]; exact (E.below.setCell (Nat.le_add_right _ 1) _).setCell (Nat.le_add_right _ 1) _
    have xk : W.cell? ⟨w.heap.size + 2, 0, none⟩ = some (.string ⟨kd.toArray⟩) := cell_of_blk' E.k rfl
    have x1 : W.cell? ⟨w.heap.size + 1, 1, none⟩ = some (.int .i64 0) := cell_of_blk' E.l rfl
    have x3 : W.cell? ⟨w.heap.size + 1, 3, none⟩ = some (.string ⟨#[]⟩) := cell_of_blk' E.l rfl
    have z1 : W.frozen? ⟨w.heap.size + 1, 1, none⟩ = false := frozen_of_blk' E.l
    have z3 : W.frozen? ⟨w.heap.size + 1, 3, none⟩ = false := frozen_of_blk' E.l
    have HW1 := Lib.hid hW1
    have HC1 := Lib.hid hc1; have HR1 := Lib.hid hr1; have HB1 := Lib.hid hb1
    have hck := fun W' (hW' : Below W1.heap.size W1 W') => checkLabel_any ⟨di, kv, nm, r⟩ W' ⟨by simp only; omega, by simp only; omega, by simp only; omega⟩ ((HE.out.below hb1).below hW')
    unfold LblV at hck
    simp only at hck
    have HCK := Lib.hid hck
    clear E R R2 hgc hW1 hc1 hr1 hb1 hck hr p1 p2 p3 hss hkv
    have q0 : W1.cell? ⟨w.heap.size + 1, 0, none⟩ = some (.string ⟨di.toArray⟩) := cell_of_blk' HC1.out rfl
    have q1 : W1.cell? ⟨w.heap.size + 1, 1, none⟩ = some (.int .i64 kv) := cell_of_blk' HC1.out rfl
    have q2 : W1.cell? ⟨w.heap.size + 1, 2, none⟩ = some (.string ⟨nm.toArray⟩) := cell_of_blk' HC1.out rfl
    have q3 : W1.cell? ⟨w.heap.size + 1, 3, none⟩ = some (.string ⟨r.toArray⟩) := cell_of_blk' HC1.out rfl
    have hS0 := And.intro q0 (And.intro q1 (And.intro q2 q3))
    have hk : ∀ W', Below W1.heap.size W1 W' → (W'.cell? ⟨w.heap.size + 1, 0, none⟩ = some (.string ⟨di.toArray⟩) ∧ W'.cell? ⟨w.heap.size + 1, 1, none⟩ = some (.int .i64 kv) ∧ W'.cell? ⟨w.heap.size + 1, 2, none⟩ = some (.string ⟨nm.toArray⟩) ∧ W'.cell? ⟨w.heap.size + 1, 3, none⟩ = some (.string ⟨r.toArray⟩)) ∧
        (W'.cell? ⟨w.heap.size, 0, none⟩ = some (.string ⟨#[]⟩) ∧ W'.cell? ⟨w.heap.size, 1, none⟩ = some (.int .i64 0) ∧ W'.cell? ⟨w.heap.size, 2, none⟩ = some (.string ⟨#[]⟩) ∧ W'.cell? ⟨w.heap.size, 3, none⟩ = some (.string ⟨#[]⟩)) ∧
        (W'.frozen? ⟨w.heap.size, 0, none⟩ = false ∧ W'.frozen? ⟨w.heap.size, 1, none⟩ = false ∧ W'.frozen? ⟨w.heap.size, 2, none⟩ = false ∧ W'.frozen? ⟨w.heap.size, 3, none⟩ = false) := fun W' hW' => by
      have hc := (hW'.block _ (lt_heap HC1.out)).trans HC1.out
      have hr := (hW'.block _ (lt_heap HR1.out)).trans HR1.out
      exact ⟨⟨cell_of_blk' hc rfl, cell_of_blk' hc rfl, cell_of_blk' hc rfl, cell_of_blk' hc rfl⟩, ⟨cell_of_blk' hr rfl, cell_of_blk' hr rfl, cell_of_blk' hr rfl, cell_of_blk' hr rfl⟩, ⟨frozen_of_blk' hr, frozen_of_blk' hr, frozen_of_blk' hr, frozen_of_blk' hr⟩⟩
    have HK := Lib.hid hk
    clear hk
    unfold SV at HKi ⊢
    go_wp2_with fail
    refine HKi.out.mono ?_
    rintro e w1 ⟨rfl, rfl⟩
    go_wp2_with fail
    rw [← HW1.out]
    go_wp2_with fail
    go_region_held3 (fun W' => W'.cell? ⟨w.heap.size + 1, 0, none⟩ = some (.string ⟨di.toArray⟩) ∧ W'.cell? ⟨w.heap.size + 1, 1, none⟩ = some (.int .i64 kv) ∧ W'.cell? ⟨w.heap.size + 1, 2, none⟩ = some (.string ⟨nm.toArray⟩) ∧ W'.cell? ⟨w.heap.size + 1, 3, none⟩ = some (.string ⟨r.toArray⟩))
      (first | exact hS0 | assumption | go_keep)
      (first
        | (go_at_call 184; refine (HCK.out W1.drew (Below.refl _ _).drew).mono ?_; intro e w5 h5; have H5 := Lib.hid h5; obtain ⟨ev, rfl⟩ := h5.ret; obtain ⟨hS5, ⟨y0, y1, y2, y3⟩, ⟨z0, z1, z2, z3⟩⟩ := HK.out w5 (bdr h5.2); clear h5)
        | show False)
    obtain ⟨f0, f1, f2, f3⟩ := cells4 w5 w.heap.size (.string ⟨di.toArray⟩) (.int .i64 kv) (.string ⟨nm.toArray⟩) (.string ⟨r.toArray⟩) y0 y1 y2 y3
    go_wp2_with fail
    refine bodyPost_ret (v := .tuple #[LblV ⟨di, kv, nm, r⟩, ev]) (by simp [results, Tryz.results170, go_sem, f0, f1, f2, f3, LblV]) rfl ?_
    have hb5 := bdr H5.out.2
    have hbw := HB1.out.trans (hb5.mono HB1.out.size)
    refine ⟨below_set4 hbw (Nat.le_refl _) _ _ _ _, ⟨di, kv, nm, r⟩, ?_⟩
    rcases H5.out.1 with ⟨h1, h2⟩ | ⟨h1, p, h2⟩
    · cases h2; exact .inl ⟨by rw [HG.out, h1]; rfl, rfl⟩
    · cases h2; exact .inr ⟨by rw [HG.out, h1]; rfl, p, rfl⟩
  · obtain ⟨pb, po, psx⟩ := p
    have hgc : getL4 s = none := by unfold getL4; rw [hg]
    have HG := Lib.hid hgc
    have HB := Lib.hid hb
    have y0 : W.cell? ⟨w.heap.size, 0, none⟩ = some (.string ⟨#[]⟩) := cell_of_blk' h0 rfl
    have y1 : W.cell? ⟨w.heap.size, 1, none⟩ = some (.int .i64 0) := cell_of_blk' h0 rfl
    have y2 : W.cell? ⟨w.heap.size, 2, none⟩ = some (.string ⟨#[]⟩) := cell_of_blk' h0 rfl
    have y3 : W.cell? ⟨w.heap.size, 3, none⟩ = some (.string ⟨#[]⟩) := cell_of_blk' h0 rfl
    have z0 : W.frozen? ⟨w.heap.size, 0, none⟩ = false := frozen_of_blk' h0
    have z1 : W.frozen? ⟨w.heap.size, 1, none⟩ = false := frozen_of_blk' h0
    have z2 : W.frozen? ⟨w.heap.size, 2, none⟩ = false := frozen_of_blk' h0
    have z3 : W.frozen? ⟨w.heap.size, 3, none⟩ = false := frozen_of_blk' h0
    obtain ⟨f0, f1, f2, f3⟩ := cells4 W w.heap.size (.string ⟨#[]⟩) (.int .i64 0) (.string ⟨#[]⟩) (.string ⟨#[]⟩) y0 y1 y2 y3
    clear hg hgc hb h0
    go_wp2_with fail
    refine bodyPost_ret (v := .tuple #[LblV noLbl, .iface 232 (.pointer (some ⟨pb, po, psx⟩))]) (by simp [results, Tryz.results170, go_sem, f0, f1, f2, f3, LblV, noLbl]) rfl ?_
    exact ⟨below_set4 HB.out (Nat.le_refl _) _ _ _ _, noLbl, .inr ⟨HG.out, _, rfl⟩⟩
end Go.Proofs.YtgjddkeogboojaaGreatDoor
namespace Go.Proofs.YtgjddkeogboojaaGreatDoor
open Go Go.RowKit Go.Shelf
set_option maxRecDepth 100000 in
set_option maxHeartbeats 2000000 in
theorem labelWants_any (s : List UInt8) (hs : s.length ≤ 100000) (w : World) (he : Er w) :
    Calls Tryz.prog 157 #[.string ⟨s.toArray⟩] w (WtPost ((getL4 s).map wantL) w) := by
  have HT := Lib.hid (readLabel_any s hs w he)
  clear he hs
  go_enter Tryz.func157, Tryz.ntmps157
  go_wp2_with fail
  refine HT.out.mono ?_
  rintro e w1 ⟨l1, l, h⟩
  have hfin : ∃ ev, e = .returned (.tuple #[LblV l, ev]) ∧ ∀ A n c w2, WantsR w2 (.slice A n c) (wantL l) → Fr w.heap.size (.slice A n c) → Below w.heap.size w w2 → WtPost ((getL4 s).map wantL) w (.returned (.tuple #[.slice A n c, ev])) w2 := by
    rcases h with ⟨h1, rfl⟩ | ⟨h1, p, rfl⟩
    · exact ⟨_, rfl, fun A n c w2 h2 hf h3 => ⟨.inl ⟨_, _, by rw [h1]; rfl, rfl, h2, by simp [wantL], hf⟩, h3⟩⟩
    · exact ⟨_, rfl, fun A n c w2 h2 _ h3 => ⟨.inr ⟨by rw [h1]; rfl, A, n, c, p, rfl⟩, h3⟩⟩
  obtain ⟨ev, rfl, hout⟩ := hfin
  obtain ⟨di, kv, nm, tx⟩ := l
  have hst := own_lit (w1.alloc (.cells #[.string ⟨di.toArray⟩, .int .i64 kv, .string ⟨nm.toArray⟩, .string ⟨tx.toArray⟩] 100)) (di, kv) w1.heap.size (by simp)
  have hbs := ((below_new w1 (.cells #[.string ⟨di.toArray⟩, .int .i64 kv, .string ⟨nm.toArray⟩, .string ⟨tx.toArray⟩] 100))).alloc (by simp) (.cells #[SV di, .int .i64 kv] 266)
  have hf := hout _ _ _ _ (hst.rd wantV_len) (hst.fr l1.size) (l1.trans (hbs.mono l1.size))
  have hz : (w1.alloc (.cells #[.string ⟨di.toArray⟩, .int .i64 kv, .string ⟨nm.toArray⟩, .string ⟨tx.toArray⟩] 100)).heap.size = w1.heap.size + 1 := by simp
  rw [hz] at hf
  have HF := Lib.hid hf
  unfold LblV
  simp only
  clear h l1 hout hst hbs hz hf
  go_wp2_with fail
  go_ret2
  exact HF.out
/-- What an object may be that is no blob. -/
def formO (k : Int) (d : List UInt8) : Option (List (List UInt8 × Int)) :=
  if k = 2 then (getT d).map fun l => l.map wantI else if k = 3 then (getC d).map wantC else (getL4 d).map wantL
def ObjV (k : Int) (d : List UInt8) : Value := .agg #[.int .i64 k, .string ⟨d.toArray⟩]
set_option maxRecDepth 100000 in
set_option maxHeartbeats 2000000 in
theorem formWants_any (k : Int) (d : List UInt8) (hs : d.length ≤ 100000) (w : World) (he : Eb w) (ht : Tb w) :
    Calls Tryz.prog 139 #[ObjV k d] w (WtPost (formO k d) w) := by
  have B0 := below_new w (.cells #[.int .i64 k, .string ⟨d.toArray⟩] 37)
  have hw : ∀ o e w', WtPost o (w.alloc (.cells #[.int .i64 k, .string ⟨d.toArray⟩] 37)) e w' → (∃ a b, e = .returned (.tuple #[a, b])) ∧ WtPost o w e w' := by
    rintro o e w' ⟨h1, h2⟩
    refine ⟨?_, ?_, B0.trans (h2.mono B0.size)⟩
    · rcases h1 with ⟨v, l, _, rfl, _⟩ | ⟨_, A, n, c, p, rfl⟩ <;> exact ⟨_, _, rfl⟩
    · rcases h1 with ⟨v, l, a1, a2, a3, a4, a5⟩ | h1
      · exact .inl ⟨v, l, a1, a2, a3, a4, a5.mono B0.size⟩
      · exact .inr h1
  have HW := Lib.hid hw
  have H2 := Lib.hid (treeWants_any d (by omega) _ (he.below B0).er (ht.below B0))
  have H3 := Lib.hid (changeWants_any d hs _ (he.below B0))
  have H4 := Lib.hid (labelWants_any d hs _ (he.below B0).er)
  unfold ObjV
  clear he ht hs B0 hw
  by_cases h2 : k = 2
  · subst h2
    have HQ : Hid (formO 2 d = (getT d).map fun l => l.map wantI) := Lib.hid rfl
    go_enter Tryz.func139, Tryz.ntmps139
    go_wp2_with fail
    refine H2.out.mono ?_
    intro e w1 h
    obtain ⟨⟨a, b, rfl⟩, h1⟩ := HW.out _ _ _ h
    have H1 := Lib.hid h1
    clear h h1
    go_wp2_with fail
    go_ret2
    rw [HQ.out]; exact H1.out
  by_cases h3 : k = 3
  · subst h3
    have HQ : Hid (formO 3 d = (getC d).map wantC) := Lib.hid rfl
    clear h2
    go_enter Tryz.func139, Tryz.ntmps139
    go_wp2_with fail
    refine H3.out.mono ?_
    intro e w1 h
    obtain ⟨⟨a, b, rfl⟩, h1⟩ := HW.out _ _ _ h
    have H1 := Lib.hid h1
    clear h h1
    go_wp2_with fail
    go_ret2
    rw [HQ.out]; exact H1.out
  · have HQ : Hid (formO k d = (getL4 d).map wantL) := Lib.hid (by unfold formO; rw [if_neg h2, if_neg h3])
    go_enter Tryz.func139, Tryz.ntmps139
    go_wp2_with fail
    refine H4.out.mono ?_
    intro e w1 h
    obtain ⟨⟨a, b, rfl⟩, h1⟩ := HW.out _ _ _ h
    have H1 := Lib.hid h1
    clear h h1
    go_wp2_with fail
    go_ret2
    rw [HQ.out]; exact H1.out
end Go.Proofs.YtgjddkeogboojaaGreatDoor
