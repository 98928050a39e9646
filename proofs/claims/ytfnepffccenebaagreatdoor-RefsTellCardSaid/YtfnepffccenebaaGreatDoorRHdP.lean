/-
  The live question of the laws of refs, plain: what is answered.
-/
import Derived.Test.YtfnepffccenebaaGreatDoorRApply
import Derived.Test.YtfnepffccenebaaGreatDoorRGetP
namespace Go.Proofs.YtfnepffccenebaaGreatDoor.Rf
open Go.Proofs.YtfnepffccenebaaGreatDoor

def ha : Bs := [104, 101, 97, 100, 115, 47, 97]
def hb : Bs := [104, 101, 97, 100, 115, 47, 98]
def hab : Bs := [104, 101, 97, 100, 115, 47, 97, 47, 98]
theorem n_ha : nameB ha = true := by decide +kernel
theorem n_hb : nameB hb = true := by decide +kernel
theorem n_hab : nameB hab = true := by decide +kernel
theorem n_tag : nameB [116, 97, 103, 115, 47, 118, 49] = true := by decide +kernel
theorem n_tags : nameB [116, 97, 103, 115] = false := by decide +kernel
theorem idB_nil : idB [] = true := rfl
theorem idB_of {a : Bs} (h : namedB a = true) : idB a = true := by unfold idB; rw [h, Bool.or_true]
theorem may_new {n a : Bs} (hn : nameB n = true) (h : namedB a = true) : mayB ⟨n, [], a⟩ = true := by
  rw [mayB_eq, hn, idB_nil, idB_of h]
  have : (a == []) = false := by simpa using named_ne h
  rw [this]; rfl
theorem may_del {n a : Bs} (hn : nameB n = true) (h : namedB a = true) : mayB ⟨n, a, []⟩ = true := by
  rw [mayB_eq, hn, idB_nil, idB_of h]
  have : (a == []) = false := by simpa using named_ne h
  rw [this]; rfl
theorem right_one {n a : Bs} (hn : nameB n = true) (h : namedB a = true) : Right [⟨n, a⟩] where
  len := by simp
  name := fun r hr => by rw [List.mem_singleton.1 hr]; exact hn
  id := fun r hr => by rw [List.mem_singleton.1 hr]; exact h
  rise := List.pairwise_singleton _ _
  above := fun x hx y hy => by rw [List.mem_singleton.1 hx, List.mem_singleton.1 hy]; exact above_short _ _ (Nat.le_refl _)
theorem not_right_zero : ¬ Right [⟨[], []⟩] := fun h => by have := h.name ⟨[], []⟩ (by simp); revert this; decide
theorem find_one {n a : Bs} : findL [⟨n, a⟩] n = a := by simp [findL]
theorem find_other {n m a : Bs} (h : n ≠ m) : findL [⟨n, a⟩] m = [] := findL_none fun r hr => by rw [List.mem_singleton.1 hr]; exact h
theorem find_nil {m : Bs} : findL [] m = [] := rfl
theorem tips_one {n a : Bs} {t : List Bs} (h : Tips [⟨n, a⟩] t) : t.length = 1 := by
  have h2 : Tips [⟨n, a⟩] [a] := ⟨List.pairwise_singleton _ _, fun x => by simp [eq_comm]⟩
  rw [h.unique h2]; rfl
theorem stale_at {l : List Ref} {u : List Upd} {i : Nat} {x : Upd} (hx : u[i]? = some x) (h : findL l x.name = x.old) : staleI l u i = false := by rw [stale_eq hx, h]; simp
theorem lt_one {j : Nat} (h : j < 1) : j = 0 := by omega
theorem lt_two {j : Nat} (h : j < 2) : j = 0 ∨ j = 1 := by omega
theorem bad0 {n a : Bs} {m : List Upd} (hn : nameB n = true) (h : namedB a = true) : badI (⟨n, [], a⟩ :: m) 0 = false := by
  rw [bad_eq (x := ⟨n, [], a⟩) rfl, may_new hn h]; rfl
theorem bad0' {n a : Bs} {m : List Upd} (hn : nameB n = true) (h : namedB a = true) : badI (⟨n, a, []⟩ :: m) 0 = false := by
  rw [bad_eq (x := ⟨n, a, []⟩) rfl, may_del hn h]; rfl
theorem bad1 {n a : Bs} {x : Upd} (hn : nameB n = true) (h : namedB a = true) (he : (x.name == n) = false) : badI [x, ⟨n, [], a⟩] 1 = false := by
  rw [bad_eq (x := ⟨n, [], a⟩) rfl, may_new hn h]
  show (false || ((x.name == n) || false)) = false
  rw [he]; rfl
/-- One from nothing. -/
theorem ap0 {a : Bs} (h : namedB a = true) : IsApply [] [⟨ha, [], a⟩] ([⟨ha, a⟩], 0, 0) := by
  refine .inl ⟨⟨Right.nil, by simp, by simp⟩, ?_⟩
  have e : outL [] [⟨ha, [], a⟩] = [⟨ha, a⟩] := by show putR [] ⟨ha, a⟩ = _; unfold putR; rw [if_neg (named_ne h)]; rfl
  have e0 : errL [] [⟨ha, [], a⟩] = (0, 0) := by
    rw [errL_end (fun j hj => by rw [lt_one hj]; exact bad0 n_ha h) (fun j hj => by rw [lt_one hj]; exact stale_at (x := ⟨ha, [], a⟩) rfl rfl) (fun j hj => by
      rw [lt_one hj, e, clash_eq (x := ⟨ha, [], a⟩) rfl]
      have : fitB [⟨ha, a⟩] ha = false := by show (aboveB ha ha || aboveB ha ha || false) = false; decide
      rw [this, Bool.and_false]), e]
    rfl
  rw [applyL_err, e0, e]; rfl
/-- Two, of which the latter is under one that is there. -/
theorem ap1 {a : Bs} (h : namedB a = true) : IsApply [⟨ha, a⟩] [⟨hb, [], a⟩, ⟨hab, [], a⟩] ([⟨ha, a⟩], 91, 1) := by
  refine .inl ⟨⟨right_one n_ha h, by simp, by simp⟩, ?_⟩
  have e : outL [⟨ha, a⟩] [⟨hb, [], a⟩, ⟨hab, [], a⟩] = [⟨ha, a⟩, ⟨hab, a⟩, ⟨hb, a⟩] := by
    show putR (putR [⟨ha, a⟩] ⟨hb, a⟩) ⟨hab, a⟩ = _
    have k1 : ¬ hb < ha := by decide
    have k2 : ¬ ha = hb := by decide
    have k3 : ¬ hab < ha := by decide
    have k4 : ¬ ha = hab := by decide
    have k5 : hab < hb := by decide
    unfold putR
    simp only [if_neg (named_ne h), putW, if_neg k1, if_neg k2, if_neg k3, if_neg k4, if_pos k5]
  have e0 : errL [⟨ha, a⟩] [⟨hb, [], a⟩, ⟨hab, [], a⟩] = (91, 1) := by
    refine errL_clash (fun j hj => ?_) (fun j hj => ?_) (by simp) ?_ (fun j hj => ?_)
    · rcases lt_two hj with rfl | rfl
      · exact bad0 n_hb h
      · exact bad1 n_hab h (show (hb == hab) = false by decide)
    · rcases lt_two hj with rfl | rfl
      · exact stale_at (x := ⟨hb, [], a⟩) rfl (find_other (n := ha) (m := hb) (by decide))
      · exact stale_at (x := ⟨hab, [], a⟩) rfl (find_other (n := ha) (m := hab) (by decide))
    · rw [e, clash_eq (x := ⟨hab, [], a⟩) rfl]
      have h1 : (a == []) = false := by simpa using named_ne h
      have h2 : fitB [⟨ha, a⟩, ⟨hab, a⟩, ⟨hb, a⟩] hab = true := by
        show ((aboveB hab ha || aboveB ha hab) || ((aboveB hab hab || aboveB hab hab) || ((aboveB hab hb || aboveB hb hab) || false))) = true
        decide
      show (!(a == []) && fitB [⟨ha, a⟩, ⟨hab, a⟩, ⟨hb, a⟩] hab) = true
      rw [h2, h1]; rfl
    · rw [lt_one hj, e, clash_eq (x := ⟨hb, [], a⟩) rfl]
      have h2 : fitB [⟨ha, a⟩, ⟨hab, a⟩, ⟨hb, a⟩] hb = false := by
        show ((aboveB hb ha || aboveB ha hb) || ((aboveB hb hab || aboveB hab hb) || ((aboveB hb hb || aboveB hb hb) || false))) = false
        decide
      show (!(a == []) && fitB [⟨ha, a⟩, ⟨hab, a⟩, ⟨hb, a⟩] hb) = false
      rw [h2, Bool.and_false]
  rw [applyL_err, e0]; rfl
/-- One that was there already. -/
theorem ap2 {a : Bs} (h : namedB a = true) : IsApply [⟨ha, a⟩] [⟨ha, [], a⟩] ([⟨ha, a⟩], 92, 0) := by
  refine .inl ⟨⟨right_one n_ha h, by simp, by simp⟩, ?_⟩
  have e0 : errL [⟨ha, a⟩] [⟨ha, [], a⟩] = (92, 0) := by
    refine errL_stale (fun j hj => by rw [lt_one hj]; exact bad0 n_ha h) (by simp) ?_ (fun j hj => absurd hj (Nat.not_lt_zero _))
    rw [stale_eq (x := ⟨ha, [], a⟩) rfl]
    show (!(findL [⟨ha, a⟩] ha == [])) = true
    rw [find_one]
    simpa using named_ne h
  rw [applyL_err, e0]; rfl
/-- One gone, and one under it come. -/
theorem ap3 {a : Bs} (h : namedB a = true) : IsApply [⟨ha, a⟩] [⟨ha, a, []⟩, ⟨hab, [], a⟩] ([⟨hab, a⟩], 0, 0) := by
  refine .inl ⟨⟨right_one n_ha h, by simp, by simp⟩, ?_⟩
  have e : outL [⟨ha, a⟩] [⟨ha, a, []⟩, ⟨hab, [], a⟩] = [⟨hab, a⟩] := by
    show putR (putR [⟨ha, a⟩] ⟨ha, []⟩) ⟨hab, a⟩ = _
    unfold putR
    simp only [if_neg (named_ne h), if_true]
    rfl
  have e0 : errL [⟨ha, a⟩] [⟨ha, a, []⟩, ⟨hab, [], a⟩] = (0, 0) := by
    refine (errL_end (fun j hj => ?_) (fun j hj => ?_) (fun j hj => ?_)).trans (by rw [e]; rfl)
    · rcases lt_two hj with rfl | rfl
      · exact bad0' n_ha h
      · exact bad1 n_hab h (show (ha == hab) = false by decide)
    · rcases lt_two hj with rfl | rfl
      · exact stale_at (x := ⟨ha, a, []⟩) rfl find_one
      · exact stale_at (x := ⟨hab, [], a⟩) rfl (find_other (n := ha) (m := hab) (by decide))
    · rcases lt_two hj with rfl | rfl
      · rw [clash_eq (x := ⟨ha, a, []⟩) rfl]; rfl
      · rw [e, clash_eq (x := ⟨hab, [], a⟩) rfl]
        have h2 : fitB [⟨hab, a⟩] hab = false := by show ((aboveB hab hab || aboveB hab hab) || false) = false; decide
        show (!(a == []) && fitB [⟨hab, a⟩] hab) = false
        rw [h2, Bool.and_false]
  rw [applyL_err, e0, e]; rfl
end Go.Proofs.YtfnepffccenebaaGreatDoor.Rf
