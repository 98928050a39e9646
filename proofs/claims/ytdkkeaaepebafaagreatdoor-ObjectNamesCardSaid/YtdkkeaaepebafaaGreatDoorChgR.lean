/-
  readChange, GetChange.
-/
import Derived.Test.YtdkkeaaepebafaaGreatDoorChgE
import Derived.Test.YtdkkeaaepebafaaGreatDoorLabel
namespace Go.Proofs.YtdkkeaaepebafaaGreatDoor
open Go Go.RowKit Go.Shelf

def noChg : Chg := ⟨[], [], [], []⟩
/-- What readChange answers. -/
def RcPost (s : List UInt8) (w : World) (e : Ending) (w' : World) : Prop :=
  Below w.heap.size w w' ∧ ∃ c vp, OwK 9 1 strC w' w.heap.size vp c.parents ∧ c.parents.length ≤ 8 ∧ ((getC s = some c ∧ e = .returned (.tuple #[ChgV c vp, .nilIface])) ∨ (getC s = none ∧ ∃ p, e = .returned (.tuple #[ChgV c vp, .iface 92 (.pointer (some p))])))
theorem linesP_max {word : List UInt8} : ∀ {n : Nat} {s r : List UInt8} {l : List (List UInt8)}, linesP word n s = some (l, r) → l.length ≤ n
  | 0, s, r, l, h => by
    simp only [linesP, Option.some.injEq, Prod.mk.injEq] at h
    obtain ⟨rfl, _⟩ := h; simp
  | n + 1, s, r, l, h => by
    rw [linesP_one] at h
    by_cases hp : word.isPrefixOf s = true
    · rw [if_pos hp] at h
      cases hc : lineP word s with
      | none => rw [hc] at h; cases h
      | some p =>
        obtain ⟨a, q⟩ := p
        rw [hc] at h
        obtain ⟨⟨l', r'⟩, h1, h2⟩ := Option.map_eq_some_iff.1 h
        simp only [Prod.mk.injEq] at h2
        obtain ⟨rfl, rfl⟩ := h2
        have := linesP_max h1
        simpa using this
    · rw [if_neg hp] at h
      simp only [Option.some.injEq, Prod.mk.injEq] at h
      obtain ⟨rfl, _⟩ := h; simp
theorem parL_mem : ∀ {l : List (List UInt8)} {x : List UInt8}, x ∈ l → x.length ≤ (parL l).length
  | [], _, h => by simp at h
  | y :: l, x, h => by
    have e : parL (y :: l) = (wParent ++ (y ++ [10])) ++ parL l := rfl
    rw [e]
    rcases List.mem_cons.1 h with rfl | h
    · simp; omega
    · have := parL_mem h
      simp; omega
theorem rawC_small {s : List UInt8} {c : Chg} (hs : s.length ≤ 100000) (h : rawC s = some c) : SmallC c ∧ c.parents.length ≤ 8 := by
  have e := rawC_some h
  have hl : s.length = (putC c).length := by rw [← e]
  have h8 : c.parents.length ≤ 8 := by
    unfold rawC at h
    cases h1 : lineP wTree s with
    | none => rw [h1] at h; cases h
    | some p =>
      obtain ⟨t, r1⟩ := p
      rw [h1] at h; simp only at h
      cases h2 : linesP wParent 8 r1 with
      | none => rw [h2] at h; cases h
      | some p =>
        obtain ⟨ps, r2⟩ := p
        rw [h2] at h; simp only at h
        cases h3 : lineP wWho r2 with
        | none => rw [h3] at h; cases h
        | some p =>
          obtain ⟨w, r3⟩ := p
          rw [h3] at h; simp only at h
          obtain ⟨x, h4, rfl⟩ := Option.map_eq_some_iff.1 h
          exact linesP_max h2
  have e2 : (putC c).length = c.tree.length + c.who.length + c.text.length + (parL c.parents).length + 12 := by simp [putC, wTree, wWho]; omega
  refine ⟨⟨by omega, fun x hx => ?_, by omega, by omega⟩, h8⟩
  have := parL_mem hx
  omega

set_option maxRecDepth 100000 in
set_option maxHeartbeats 4000000 in
theorem readChange_any (s : List UInt8) (hs : s.length ≤ 100000) (w : World) (he : Eb w) : Calls Tryz.prog 51 #[.string ⟨s.toArray⟩] w (RcPost s w) := by
  have HST := Lib.hid (chg_step w he s)
  have HS := Lib.hid hs; have HE := Lib.hid he
  clear he hs
  go_enter Tryz.func51, Tryz.ntmps51
  go_wp2_with fail
  refine (line_mk _ _ _).mono ?_
  rintro e w1 ⟨rfl, rfl⟩
  go_wp2_with fail
  refine (lines_mk _ _ _ _).mono ?_
  rintro e w1 ⟨rfl, rfl⟩
  go_wp2_with fail
  refine (line_mk _ _ _).mono ?_
  rintro e w1 ⟨rfl, rfl⟩
  go_wp2_with fail
  refine (past_mk _ _).mono ?_
  rintro e w1 ⟨rfl, rfl⟩
  go_wp2_with fail
  refine (read_gen 4 4 (w.heap.size + 10) (by decide) chgG (chgL w.heap.size) (chgP w s) (chgF w s) ?c1 ?c2 HST.out s _ ?c3).mono ?_
  case c1 =>
    rintro i r W hi ⟨_, tr, vp, ps, wh, E, _⟩
    refine cell_of_blk' E.b10 ?_
    match i, hi with
    | 0, _ => rfl
    | 1, _ => rfl
    | 2, _ => rfl
    | 3, _ => rfl
  case c2 =>
    intro i hi
    match i, hi with
    | 0, _ => exact enters_of Tryz.func99 (by kernel_rfl) rfl
    | 1, _ => exact enters_of Tryz.func100 (by kernel_rfl) rfl
    | 2, _ => exact enters_of Tryz.func99 (by kernel_rfl) rfl
    | 3, _ => exact enters_of Tryz.func102 (by kernel_rfl) rfl
  case c3 =>
    refine ⟨HS.out, [], .slice none 0 0, [], [], ⟨?_, OwK.nil _ _ _ _ _, ?_, ?_, ?_, ?_, ?_, ?_, ?_, ?_, ?_, ?_, ?_⟩, ⟨rfl, rfl⟩, fun _ => rfl⟩
    · refine Below.alloc (Below.alloc (Below.alloc (Below.alloc (Below.alloc (Below.alloc (Below.alloc (Below.alloc (Below.alloc (Below.alloc (Below.alloc (Below.refl _ _) ?_ _) ?_ _) ?_ _) ?_ _) ?_ _) ?_ _) ?_ _) ?_ _) ?_ _) ?_ _) ?_ _ <;> first | omega | (simp only [World.size_alloc]; omega)
    all_goals (simp only [alloc_heapL, Array.getElem?_push, Array.size_push, Nat.add_assoc, Nat.reduceAdd]; simp [SV, wTree, wParent, wWho])
  rintro e W (⟨r, rfl, hr, tr, vp, ps, wh, E, R, _⟩ | ⟨r, p, rfl, hg, hb, h0⟩)
  · have R2 : rawC s = some ⟨tr, ps, wh, r⟩ := R
    obtain ⟨hsm, hpl⟩ := rawC_small HS.out R2
    have hgc : getC s = if rightC ⟨tr, ps, wh, r⟩ then some ⟨tr, ps, wh, r⟩ else none := by unfold getC; rw [R2]
    have HG := Lib.hid hgc
    have hp0 := E.own.rd strC_len
    obtain ⟨A, ca, rfl⟩ := hp0.shape
    have HB := Lib.hid E.below; have HPR := Lib.hid hp0; have HPL := Lib.hid hpl
    -- behind the text's store
    obtain ⟨W1, hW1⟩ : ∃ W1, W1 = W.setCell ⟨w.heap.size + 1, 3, none⟩ (.string ⟨r.toArray⟩) := ⟨_, rfl⟩
    have hc1 : W1.heap[w.heap.size + 1]? = some (.cells #[SV tr, .slice A ps.length ca, SV wh, SV r] 40 (0, 0)) := by
      rw [hW1]; simp [World.setCell, Array.getElem?_modify, E.c, SV]
    have hr1 : W1.heap[w.heap.size]? = some (.cells #[.string ⟨#[]⟩, .slice none 0 0, .string ⟨#[]⟩, .string ⟨#[]⟩] 40 (0, 0)) := by
      rw [hW1]; exact (Below.heap_setCell _ _ _ _ (fun e => by simp at e)).trans E.r0
    have hb1 : Below w.heap.size w W1 := by rw [hW1]; exact E.below.setCell (Nat.le_add_right _ 1) _
    have ho1 : OwK 9 1 strC W1 (w.heap.size + 11) (.slice A ps.length ca) ps := by
      rw [hW1]; exact own_set E.own (by omega) 3 _
    have hp1 : StrsR W1 (.slice A ps.length ca) ps := ho1.rd strC_len
    have HO1 := Lib.hid ho1
    have x3 : W.cell? ⟨w.heap.size + 1, 3, none⟩ = some (.string ⟨#[]⟩) := cell_of_blk' E.c rfl
    have z3 : W.frozen? ⟨w.heap.size + 1, 3, none⟩ = false := frozen_of_blk' E.c
    have HW1 := Lib.hid hW1
    have HC1 := Lib.hid hc1; have HR1 := Lib.hid hr1; have HB1 := Lib.hid hb1; have HP1 := Lib.hid hp1
    have hck := fun W' (hW' : Below W1.heap.size W1 W') => checkChange_any ⟨tr, ps, wh, r⟩ (.slice A ps.length ca) W' (hp1.below hW' (Nat.le_refl _)) hsm ((HE.out.below hb1).er.below hW')
    unfold ChgV at hck
    simp only at hck
    have HCK := Lib.hid hck
    clear E R R2 hsm hpl hgc hp0 hW1 hc1 hr1 hb1 hp1 ho1 hck hr
    have q0 : W1.cell? ⟨w.heap.size + 1, 0, none⟩ = some (.string ⟨tr.toArray⟩) := cell_of_blk' HC1.out rfl
    have q1 : W1.cell? ⟨w.heap.size + 1, 1, none⟩ = some (.slice A ps.length ca) := cell_of_blk' HC1.out rfl
    have q2 : W1.cell? ⟨w.heap.size + 1, 2, none⟩ = some (.string ⟨wh.toArray⟩) := cell_of_blk' HC1.out rfl
    have q3 : W1.cell? ⟨w.heap.size + 1, 3, none⟩ = some (.string ⟨r.toArray⟩) := cell_of_blk' HC1.out rfl
    have hS0 := And.intro q0 (And.intro q1 (And.intro q2 q3))
    have hk : ∀ W', Below W1.heap.size W1 W' → (W'.cell? ⟨w.heap.size + 1, 0, none⟩ = some (.string ⟨tr.toArray⟩) ∧ W'.cell? ⟨w.heap.size + 1, 1, none⟩ = some (.slice A ps.length ca) ∧ W'.cell? ⟨w.heap.size + 1, 2, none⟩ = some (.string ⟨wh.toArray⟩) ∧ W'.cell? ⟨w.heap.size + 1, 3, none⟩ = some (.string ⟨r.toArray⟩)) ∧
        (W'.cell? ⟨w.heap.size, 0, none⟩ = some (.string ⟨#[]⟩) ∧ W'.cell? ⟨w.heap.size, 1, none⟩ = some (.slice none 0 0) ∧ W'.cell? ⟨w.heap.size, 2, none⟩ = some (.string ⟨#[]⟩) ∧ W'.cell? ⟨w.heap.size, 3, none⟩ = some (.string ⟨#[]⟩)) ∧
        (W'.frozen? ⟨w.heap.size, 0, none⟩ = false ∧ W'.frozen? ⟨w.heap.size, 1, none⟩ = false ∧ W'.frozen? ⟨w.heap.size, 2, none⟩ = false ∧ W'.frozen? ⟨w.heap.size, 3, none⟩ = false) := fun W' hW' => by
      have hc := (hW'.block _ (lt_heap HC1.out)).trans HC1.out
      have hr := (hW'.block _ (lt_heap HR1.out)).trans HR1.out
      exact ⟨⟨cell_of_blk' hc rfl, cell_of_blk' hc rfl, cell_of_blk' hc rfl, cell_of_blk' hc rfl⟩, ⟨cell_of_blk' hr rfl, cell_of_blk' hr rfl, cell_of_blk' hr rfl, cell_of_blk' hr rfl⟩, ⟨frozen_of_blk' hr, frozen_of_blk' hr, frozen_of_blk' hr, frozen_of_blk' hr⟩⟩
    have HK := Lib.hid hk
    clear hk
    unfold SV
    go_wp2_with fail
    rw [← HW1.out]
    go_wp2_with fail
    go_region_held3 (fun W' => W'.cell? ⟨w.heap.size + 1, 0, none⟩ = some (.string ⟨tr.toArray⟩) ∧ W'.cell? ⟨w.heap.size + 1, 1, none⟩ = some (.slice A ps.length ca) ∧ W'.cell? ⟨w.heap.size + 1, 2, none⟩ = some (.string ⟨wh.toArray⟩) ∧ W'.cell? ⟨w.heap.size + 1, 3, none⟩ = some (.string ⟨r.toArray⟩))
      (first | exact hS0 | assumption | go_keep)
      (first
        | (go_at_call 72; refine (HCK.out W1.drew (Below.refl _ _).drew).mono ?_; intro e w5 h5; have H5 := Lib.hid h5; obtain ⟨ev, rfl⟩ := h5.ret; obtain ⟨hS5, ⟨y0, y1, y2, y3⟩, ⟨z0, z1, z2, z3⟩⟩ := HK.out w5 (bdr h5.2); clear h5)
        | show False)
    obtain ⟨f0, f1, f2, f3⟩ := cells4 w5 w.heap.size (.string ⟨tr.toArray⟩) (.slice A ps.length ca) (.string ⟨wh.toArray⟩) (.string ⟨r.toArray⟩) y0 y1 y2 y3
    go_wp2_with fail
    refine bodyPost_ret (v := .tuple #[ChgV ⟨tr, ps, wh, r⟩ (.slice A ps.length ca), ev]) (by simp [results, Tryz.results51, go_sem, f0, f1, f2, f3, ChgV]) rfl ?_
    have hb5 := bdr H5.out.2
    have hbw := HB1.out.trans (hb5.mono HB1.out.size)
    refine ⟨below_set4 hbw (Nat.le_refl _) _ _ _ _, ⟨tr, ps, wh, r⟩, .slice A ps.length ca, ?_, HPL.out, ?_⟩
    · exact (own_set (own_set (own_set (own_set (HO1.out.below hb5 (Nat.le_refl _)) (by omega) 0 _) (by omega) 1 _) (by omega) 2 _) (by omega) 3 _).mono (by omega)
    · rcases H5.out.1 with ⟨h1, h2⟩ | ⟨h1, p, h2⟩
      · cases h2; exact .inl ⟨by rw [HG.out, h1]; rfl, rfl⟩
      · cases h2; exact .inr ⟨by rw [HG.out, h1]; rfl, p, rfl⟩
  · obtain ⟨pb, po, psx⟩ := p
    have hgc : getC s = none := by unfold getC; rw [hg]
    have HG := Lib.hid hgc
    have HB := Lib.hid hb
    have y0 : W.cell? ⟨w.heap.size, 0, none⟩ = some (.string ⟨#[]⟩) := cell_of_blk' h0 rfl
    have y1 : W.cell? ⟨w.heap.size, 1, none⟩ = some (.slice none 0 0) := cell_of_blk' h0 rfl
    have y2 : W.cell? ⟨w.heap.size, 2, none⟩ = some (.string ⟨#[]⟩) := cell_of_blk' h0 rfl
    have y3 : W.cell? ⟨w.heap.size, 3, none⟩ = some (.string ⟨#[]⟩) := cell_of_blk' h0 rfl
    have z0 : W.frozen? ⟨w.heap.size, 0, none⟩ = false := frozen_of_blk' h0
    have z1 : W.frozen? ⟨w.heap.size, 1, none⟩ = false := frozen_of_blk' h0
    have z2 : W.frozen? ⟨w.heap.size, 2, none⟩ = false := frozen_of_blk' h0
    have z3 : W.frozen? ⟨w.heap.size, 3, none⟩ = false := frozen_of_blk' h0
    obtain ⟨f0, f1, f2, f3⟩ := cells4 W w.heap.size (.string ⟨#[]⟩) (.slice none 0 0) (.string ⟨#[]⟩) (.string ⟨#[]⟩) y0 y1 y2 y3
    clear hg hgc hb h0
    go_wp2_with fail
    refine bodyPost_ret (v := .tuple #[ChgV noChg (.slice none 0 0), .iface 92 (.pointer (some ⟨pb, po, psx⟩))]) (by simp [results, Tryz.results51, go_sem, f0, f1, f2, f3, ChgV, noChg]) rfl ?_
    exact ⟨below_set4 HB.out (Nat.le_refl _) _ _ _ _, noChg, .slice none 0 0, OwK.nil _ _ _ _ _, by simp [noChg], .inr ⟨HG.out, _, rfl⟩⟩
end Go.Proofs.YtdkkeaaepebafaaGreatDoor
