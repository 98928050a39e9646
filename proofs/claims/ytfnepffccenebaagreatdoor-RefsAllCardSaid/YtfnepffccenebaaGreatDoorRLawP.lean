/-
  The laws of refs, plain: what updates that are done make, and what they make turned about.
-/
import Derived.Test.YtfnepffccenebaaGreatDoorRAppl2
namespace Go.Proofs.YtfnepffccenebaaGreatDoor.Rf
open Go.Proofs.YtfnepffccenebaaGreatDoor

theorem errL_zero_iff {l : List Ref} {u : List Upd} (h : (errL l u).1 = 0) : (∀ j, j < u.length → badI u j = false) ∧ (∀ j, j < u.length → staleI l u j = false) ∧ (∀ j, j < u.length → clashI (outL l u) u j = false) ∧ (outL l u).length ≤ 64 := by
  rcases firstN_is (p := badI u) (n := u.length) with ⟨k, h1, h2, h3, _⟩ | ⟨h0, _⟩
  · rw [errL_bad h1 h2 h3] at h; cases h
  · rcases firstN_is (p := staleI l u) (n := u.length) with ⟨k, h1, h2, h3, _⟩ | ⟨hs, _⟩
    · rw [errL_stale h0 h1 h2 h3] at h; cases h
    · rcases firstN_is (p := clashI (outL l u) u) (n := u.length) with ⟨k, h1, h2, h3, _⟩ | ⟨hc, _⟩
      · rw [errL_clash h0 hs h1 h2 h3] at h; cases h
      · rw [errL_end h0 hs hc] at h
        refine ⟨h0, hs, hc, ?_⟩
        by_cases h64 : 64 < (outL l u).length
        · rw [if_pos h64] at h; cases h
        · omega
theorem IsApply.ok {l a : List Ref} {u : List Upd} {i : Nat} (h : IsApply l u (a, 0, i)) : Asked l u ∧ (errL l u).1 = 0 ∧ a = outL l u := by
  rcases h with ⟨h1, h2⟩ | ⟨_, h2⟩
  · rw [applyL_err] at h2
    by_cases h0 : (errL l u).1 = 0
    · rw [if_pos h0] at h2
      injection h2 with h3
      exact ⟨h1, h0, h3⟩
    · rw [if_neg h0] at h2
      injection h2 with _ h4
      injection h4 with h5
      exact absurd h5.symm h0
  · injection h2 with _ h4
    injection h4 with h5
    cases h5
theorem IsApply.err {l a : List Ref} {u : List Upd} {e i : Nat} (h : IsApply l u (a, e, i)) (he : e ≠ 0) : (a = [] ∨ a = l) ∧ i ≤ u.length := by
  rcases h with ⟨_, h2⟩ | ⟨_, h2⟩
  · rw [applyL_err] at h2
    by_cases h0 : (errL l u).1 = 0
    · rw [if_pos h0] at h2
      injection h2 with _ h4
      injection h4 with h5
      exact absurd h5 he
    · rw [if_neg h0] at h2
      injection h2 with h3 h4
      injection h4 with h5 h6
      refine ⟨.inr h3, ?_⟩
      rw [h6]
      rcases firstN_is (p := badI u) (n := u.length) with ⟨k, k1, k2, k3, _⟩ | ⟨k0, _⟩
      · rw [errL_bad k1 k2 k3]; exact Nat.le_of_lt k1
      · rcases firstN_is (p := staleI l u) (n := u.length) with ⟨k, k1, k2, k3, _⟩ | ⟨ks, _⟩
        · rw [errL_stale k0 k1 k2 k3]; exact Nat.le_of_lt k1
        · rcases firstN_is (p := clashI (outL l u) u) (n := u.length) with ⟨k, k1, k2, k3, _⟩ | ⟨kc, _⟩
          · rw [errL_clash k0 ks k1 k2 k3]; exact Nat.le_of_lt k1
          · rw [errL_end k0 ks kc]; split <;> exact Nat.zero_le _
  · injection h2 with h3 h4
    injection h4 with h5 h6
    exact ⟨.inl h3, by rw [h6]; exact Nat.zero_le _⟩
/-- What is known of updates none of which may not be. -/
theorem bad_all {u : List Upd} (h : ∀ j, j < u.length → badI u j = false) : (∀ x ∈ u, mayB x = true) ∧ u.Pairwise fun a b => a.name ≠ b.name := by
  have hx : ∀ j (hj : j < u.length), mayB u[j] = true ∧ ∀ i (hi : i < j), u[i].name ≠ u[j].name := fun j hj => by
    have h1 := h j hj
    rw [bad_eq (List.getElem?_eq_getElem hj), Bool.or_eq_false_iff] at h1
    refine ⟨by simpa using h1.1, fun i hi e => ?_⟩
    have h2 := List.any_eq_false.1 h1.2 u[i] (List.mem_take_iff_getElem.2 ⟨i, by omega, rfl⟩)
    simp at h2
    exact h2 e
  refine ⟨fun x hm => ?_, List.pairwise_iff_getElem.2 fun i j hi hj hij => (hx j hj).2 i hij⟩
  obtain ⟨j, hj, rfl⟩ := List.mem_iff_getElem.1 hm
  exact (hx j hj).1
theorem bad_none {u : List Upd} (h1 : ∀ x ∈ u, mayB x = true) (h2 : u.Pairwise fun a b => a.name ≠ b.name) : ∀ j, j < u.length → badI u j = false := fun j hj => by
  rw [bad_eq (List.getElem?_eq_getElem hj), h1 _ (List.getElem_mem hj)]
  refine List.any_eq_false.2 fun y hy => ?_
  obtain ⟨i, hi, rfl⟩ := List.mem_take_iff_getElem.1 hy
  simpa using List.pairwise_iff_getElem.1 h2 i j (by omega) hj (by omega)
theorem stale_all {l : List Ref} {u : List Upd} (h : ∀ j, j < u.length → staleI l u j = false) : ∀ x ∈ u, findL l x.name = x.old := fun x hm => by
  obtain ⟨j, hj, rfl⟩ := List.mem_iff_getElem.1 hm
  have h1 := h j hj
  rw [stale_eq (List.getElem?_eq_getElem hj)] at h1
  simpa using h1
theorem stale_none {l : List Ref} {u : List Upd} (h : ∀ x ∈ u, findL l x.name = x.old) : ∀ j, j < u.length → staleI l u j = false := fun j hj => by
  rw [stale_eq (List.getElem?_eq_getElem hj), h _ (List.getElem_mem hj)]; simp
theorem clash_all {l : List Ref} {u : List Upd} (h : ∀ j, j < u.length → clashI l u j = false) : ∀ x ∈ u, x.new ≠ [] → ∀ r ∈ l, aboveB x.name r.name = false ∧ aboveB r.name x.name = false := fun x hm hn r hr => by
  obtain ⟨j, hj, rfl⟩ := List.mem_iff_getElem.1 hm
  have h1 := h j hj
  rw [clash_eq (List.getElem?_eq_getElem hj)] at h1
  have h2 : fitB l u[j].name = false := by
    cases hf : fitB l u[j].name with
    | false => rfl
    | true => rw [hf] at h1; simp at h1; exact absurd h1 hn
  have h3 := List.any_eq_false.1 h2 r hr
  simpa using h3
theorem clash_none {l : List Ref} {u : List Upd} (h : ∀ x ∈ u, x.new ≠ [] → ∀ r ∈ l, aboveB x.name r.name = false ∧ aboveB r.name x.name = false) : ∀ j, j < u.length → clashI l u j = false := fun j hj => by
  rw [clash_eq (List.getElem?_eq_getElem hj)]
  by_cases hn : u[j].new = []
  · rw [hn]; rfl
  · have h2 : fitB l u[j].name = false := by
      unfold fitB
      rw [List.any_eq_false]
      intro r hr
      obtain ⟨a, b⟩ := h _ (List.getElem_mem hj) hn r hr
      simp [a, b]
    rw [h2, Bool.and_false]
/-- All updates done. -/
structure Done (l a : List Ref) (u : List Upd) : Prop where
  out : a = outL l u
  may : ∀ x ∈ u, mayB x = true
  once : u.Pairwise fun x y => x.name ≠ y.name
  old : ∀ x ∈ u, findL l x.name = x.old
  right : Right l
  right' : Right a
  mem : ∀ r, r ∈ a ↔ (∃ x ∈ u, x.new ≠ [] ∧ r = ⟨x.name, x.new⟩) ∨ (r ∈ l ∧ ∀ x ∈ u, r.name ≠ x.name)
  new : ∀ x ∈ u, findL a x.name = x.new
  rest : ∀ n, (∀ x ∈ u, x.name ≠ n) → findL a n = findL l n
theorem may_parts {x : Upd} (h : mayB x = true) : nameB x.name = true ∧ idB x.old = true ∧ idB x.new = true ∧ ¬ (x.old = [] ∧ x.new = []) := by
  unfold mayB at h
  simp only [Bool.and_eq_true] at h
  obtain ⟨⟨⟨h1, h2⟩, h3⟩, h4⟩ := h
  refine ⟨h1, h2, h3, fun ⟨e1, e2⟩ => ?_⟩
  rw [e1, e2] at h4; revert h4; decide
theorem idB_named {a : Bs} (h : idB a = true) (hn : a ≠ []) : namedB a = true := by rw [← idB_ne hn]; exact h
theorem once_inj {u : List Upd} (h : u.Pairwise fun x y => x.name ≠ y.name) {x y : Upd} (hx : x ∈ u) (hy : y ∈ u) (e : x.name = y.name) : x = y := by
  obtain ⟨i, hi, rfl⟩ := List.mem_iff_getElem.1 hx
  obtain ⟨j, hj, rfl⟩ := List.mem_iff_getElem.1 hy
  rcases Nat.lt_trichotomy i j with h1 | h1 | h1
  · exact absurd e (List.pairwise_iff_getElem.1 h i j hi hj h1)
  · subst h1; rfl
  · exact absurd e.symm (List.pairwise_iff_getElem.1 h j i hj hi h1)
theorem IsApply.done {l a : List Ref} {u : List Upd} {i : Nat} (h : IsApply l u (a, 0, i)) : Done l a u := by
  obtain ⟨⟨hr, _, _⟩, h0, rfl⟩ := h.ok
  obtain ⟨hb, hs, hc, h64⟩ := errL_zero_iff h0
  obtain ⟨m1, m2⟩ := bad_all hb
  have m3 := stale_all hs
  have m4 := clash_all hc
  have hrise := rise_outL (u := u) hr.rise
  have hmem : ∀ r, r ∈ outL l u ↔ (∃ x ∈ u, x.new ≠ [] ∧ r = ⟨x.name, x.new⟩) ∨ (r ∈ l ∧ ∀ x ∈ u, r.name ≠ x.name) := fun r => mem_outL hr.rise m2
  have hR : Right (outL l u) := by
    refine ⟨h64, fun r hm => ?_, fun r hm => ?_, hrise, fun x hx y hy => ?_⟩
    · rcases (hmem r).1 hm with ⟨x, hx, _, rfl⟩ | ⟨hl, _⟩
      · exact (may_parts (m1 x hx)).1
      · exact hr.name r hl
    · rcases (hmem r).1 hm with ⟨x, hx, hn, rfl⟩ | ⟨hl, _⟩
      · exact idB_named (may_parts (m1 x hx)).2.2.1 hn
      · exact hr.id r hl
    · rcases (hmem x).1 hx with ⟨z, hz, hn, rfl⟩ | ⟨hxl, _⟩
      · exact (m4 z hz hn y hy).1
      · rcases (hmem y).1 hy with ⟨z, hz, hn, rfl⟩ | ⟨hyl, _⟩
        · exact (m4 z hz hn x hx).2
        · exact hr.above x hxl y hyl
  refine ⟨rfl, m1, m2, m3, hr, hR, hmem, fun x hx => ?_, fun n hn => ?_⟩
  · by_cases hne : x.new = []
    · rw [hne]
      refine findL_none fun r hm e => ?_
      rcases (hmem r).1 hm with ⟨y, hy, hyn, rfl⟩ | ⟨_, h2⟩
      · have := once_inj m2 hy hx e
        rw [this] at hyn; exact hyn hne
      · exact h2 x hx e
    · exact findL_of_mem (r := ⟨x.name, x.new⟩) hrise ((hmem _).2 (.inl ⟨x, hx, hne, rfl⟩))
  · by_cases hz : findL l n = []
    · rw [hz]
      refine findL_none fun r hm e => ?_
      rcases (hmem r).1 hm with ⟨y, hy, _, rfl⟩ | ⟨h1, _⟩
      · exact hn y hy e
      · have := findL_of_mem hr.rise h1
        rw [e, hz] at this
        exact named_ne (hr.id r h1) this.symm
    · have h1 := findL_mem hz
      exact findL_of_mem (r := ⟨n, findL l n⟩) hrise ((hmem _).2 (.inr ⟨h1, fun x hx e => hn x hx e.symm⟩))
/-! ### Turned about -/
def turn (x : Upd) : Upd := ⟨x.name, x.new, x.old⟩
theorem turn_may {x : Upd} (h : mayB x = true) : mayB (turn x) = true := by
  obtain ⟨h1, h2, h3, h4⟩ := may_parts h
  have h5 : (x.new == [] && x.old == []) = false := by
    cases e : (x.new == [] && x.old == []) with
    | false => rfl
    | true => simp at e; exact absurd ⟨e.2, e.1⟩ h4
  unfold mayB turn
  simp only [h1, h2, h3, h5]; rfl
theorem Done.back {l a : List Ref} {u : List Upd} (h : Done l a u) (h1 : 1 ≤ u.length) (h16 : u.length ≤ 16) : IsApply a (u.map turn) (l, 0, 0) := by
  have honce : (u.map turn).Pairwise fun x y => x.name ≠ y.name := List.pairwise_map.2 h.once
  have hmay : ∀ x ∈ u.map turn, mayB x = true := fun x hx => by
    obtain ⟨y, hy, rfl⟩ := List.mem_map.1 hx; exact turn_may (h.may y hy)
  have hold : ∀ x ∈ u.map turn, findL a x.name = x.old := fun x hx => by
    obtain ⟨y, hy, rfl⟩ := List.mem_map.1 hx; exact h.new y hy
  have hout : outL a (u.map turn) = l := by
    refine key_ext (·.name) (rise_outL h.right'.rise) h.right.rise fun r => ?_
    rw [mem_outL h.right'.rise honce]
    constructor
    · rintro (⟨x, hx, hn, rfl⟩ | ⟨ha, hn⟩)
      · obtain ⟨y, hy, rfl⟩ := List.mem_map.1 hx
        have := h.old y hy
        exact (findL_iff h.right hn).1 this
      · rcases (h.mem r).1 ha with ⟨x, hx, _, rfl⟩ | ⟨hl, _⟩
        · exact absurd rfl (hn (turn x) (List.mem_map.2 ⟨x, hx, rfl⟩))
        · exact hl
    · intro hl
      by_cases hu : ∃ x ∈ u, x.name = r.name
      · obtain ⟨x, hx, e⟩ := hu
        have h2 := h.old x hx
        rw [e, findL_of_mem h.right.rise hl] at h2
        refine .inl ⟨turn x, List.mem_map.2 ⟨x, hx, rfl⟩, ?_, Ref.ext' e.symm h2⟩
        show x.old ≠ []
        rw [← h2]; exact named_ne (h.right.id r hl)
      · have hn : ∀ x ∈ u, r.name ≠ x.name := fun x hx e => hu ⟨x, hx, e.symm⟩
        exact .inr ⟨(h.mem r).2 (.inr ⟨hl, hn⟩), fun x hx => by
          obtain ⟨y, hy, rfl⟩ := List.mem_map.1 hx; exact hn y hy⟩
  have hE : errL a (u.map turn) = (0, 0) := by
    have e := errL_end (bad_none hmay honce) (stale_none hold) (clash_none (l := outL a (u.map turn)) (u := u.map turn) fun x hx hn r hr => by
      rw [hout] at hr
      obtain ⟨y, hy, rfl⟩ := List.mem_map.1 hx
      have hy2 : ⟨y.name, y.old⟩ ∈ l := (findL_iff h.right hn).1 (h.old y hy)
      exact ⟨h.right.above _ hy2 r hr, h.right.above r hr _ hy2⟩)
    rw [e, hout, if_neg (by have := h.right.len; omega)]
  have := isApply_ok (l := a) (u := u.map turn) ⟨h.right', by simpa using h1, by simpa using h16⟩ (by rw [hE])
  rw [hout] at this; exact this
/-- Done once more. -/
theorem Done.again {l a : List Ref} {u : List Upd} (h : Done l a u) (h1 : 1 ≤ u.length) (h16 : u.length ≤ 16) {r : List Ref} {e i : Nat} (hr : IsApply a u (r, e, i)) : e = 92 ↔ ∃ x ∈ u, x.old ≠ x.new := by
  have hA : Asked a u := ⟨h.right', h1, h16⟩
  rcases hr with ⟨_, h2⟩ | ⟨hn, _⟩
  case inr => exact absurd hA hn
  have hb := bad_none h.may h.once
  rw [applyL_err] at h2
  constructor
  · intro he
    refine Classical.byContradiction fun hno => ?_
    have hold : ∀ x ∈ u, findL a x.name = x.old := fun x hx => by
      rw [h.new x hx]
      exact Classical.byContradiction fun hne => hno ⟨x, hx, fun e => hne e.symm⟩
    have hs := stale_none hold
    have hE : (errL a u).1 ≠ 92 := by
      rcases firstN_is (p := clashI (outL a u) u) (n := u.length) with ⟨k, k1, k2, k3, _⟩ | ⟨kc, _⟩
      · rw [errL_clash hb hs k1 k2 k3]; exact (by decide : (91 : Nat) ≠ 92)
      · rw [errL_end hb hs kc]; split <;> decide
    by_cases h0 : (errL a u).1 = 0
    · rw [if_pos h0] at h2
      injection h2 with _ h4
      injection h4 with h5
      rw [he] at h5; cases h5
    · rw [if_neg h0] at h2
      injection h2 with _ h4
      injection h4 with h5
      rw [he] at h5; exact hE h5.symm
  · rintro ⟨x, hx, hne⟩
    rcases firstN_is (p := staleI a u) (n := u.length) with ⟨k, k1, k2, k3, _⟩ | ⟨ks, _⟩
    · rw [errL_stale hb k1 k2 k3, if_neg (show ¬ (92 : Nat) = 0 by decide)] at h2
      injection h2 with _ h4
      injection h4 with h5
    · have := stale_all ks x hx
      rw [h.new x hx] at this
      exact absurd this.symm hne
end Go.Proofs.YtfnepffccenebaaGreatDoor.Rf
