/-
  The plain side of layer 4's laws.
-/
import Derived.Test.YtdkkeaaepebafaaGreatDoorBase
import Derived.WideAt
import Derived.WideShapes
namespace Go.Proofs.YtdkkeaaepebafaaGreatDoor
open Go Go.RowKit

theorem getD_elem {α : Type} (l : List α) (d : α) (k : Nat) (hk : k < l.length) : l.getD k d = l[k] := by
  rw [List.getD_eq_getElem?_getD, List.getElem?_eq_getElem hk]; rfl
theorem rise_one {l : List Itm} (h : rightT l = true) {i : Nat} (hi : i + 1 < l.length) : bytesBefore (keyL (l.getD i noItm)) (keyL (l.getD (i + 1) noItm)) = true := by
  have h2 := (rightT_parts.1 h).2.1 (i + 1) hi
  unfold goodI at h2
  rw [Bool.and_eq_true, Bool.or_eq_true] at h2
  rcases h2.2 with h3 | h3
  · simp at h3
  · exact h3
theorem rise_all {l : List Itm} (h : rightT l = true) (i : Nat) : ∀ j, i < j → j < l.length → bytesBefore (keyL (l.getD i noItm)) (keyL (l.getD j noItm)) = true
  | 0, h1, _ => by omega
  | j + 1, h1, h2 => by
    by_cases he : i = j
    · subst he; exact rise_one h h2
    · exact WideShapes.bytes_trans _ _ _ (rise_all h i j (by omega) (by omega)) (rise_one h h2)
theorem rightT_iff {l : List Itm} : rightT l = true ↔ l.length ≤ 256 ∧ (∀ x ∈ l, itemB x = true) ∧ l.Pairwise (fun x y => bytesBefore (keyL x) (keyL y) = true) ∧ (l.map Itm.name).Nodup := by
  constructor
  · intro h
    refine ⟨(rightT_parts.1 h).1, rightT_items h, ?_, (rightT_parts.1 h).2.2⟩
    rw [List.pairwise_iff_getElem]
    intro i j hi hj hij
    have := rise_all h i j hij hj
    rwa [getD_elem _ _ _ hi, getD_elem _ _ _ hj] at this
  · rintro ⟨h1, h2, h3, h4⟩
    refine rightT_parts.2 ⟨h1, fun i hi => ?_, h4⟩
    unfold goodI
    rw [Bool.and_eq_true, Bool.or_eq_true]
    refine ⟨h2 _ (getD_mem _ _ _ hi), ?_⟩
    by_cases h0 : i = 0
    · exact .inl (by simp [h0])
    · right
      rw [getD_elem _ _ _ hi, getD_elem _ _ _ (show i - 1 < l.length by omega)]
      exact List.pairwise_iff_getElem.1 h3 (i - 1) i (by omega) hi (by omega)
theorem rightT_sub {l m : List Itm} (h : rightT l = true) (hs : m.Sublist l) : rightT m = true := by
  obtain ⟨h1, h2, h3, h4⟩ := rightT_iff.1 h
  exact rightT_iff.2 ⟨Nat.le_trans hs.length_le h1, fun x hx => h2 x (hs.subset hx), h3.sublist hs, h4.sublist (hs.map _)⟩
theorem rightT_less {l : List Itm} (h : rightT l = true) (k : Nat) : rightT (l.take k ++ l.drop (k + 1)) = true := by
  rw [← List.eraseIdx_eq_take_drop_succ]
  exact rightT_sub h (List.eraseIdx_sublist _ _)
theorem rightT_twice {l : List Itm} {k : Nat} (hk : k < l.length) : rightT (l ++ [l.getD k noItm]) = false := by
  cases h : rightT (l ++ [l.getD k noItm])
  · rfl
  · exfalso
    have h4 := (rightT_iff.1 h).2.2.2
    rw [List.map_append, List.nodup_append] at h4
    exact h4.2.2 _ (List.mem_map.2 ⟨_, getD_mem _ _ _ hk, rfl⟩) _ (List.mem_singleton.2 rfl) rfl
theorem name_two {l : List Itm} (h : rightT l = true) {i : Nat} (hi : i + 1 < l.length) : ((l.getD i noItm).name == (l.getD (i + 1) noItm).name) = false := by
  have h4 := (rightT_iff.1 h).2.2.2
  rw [List.Nodup, List.pairwise_iff_getElem] at h4
  have h5 := h4 i (i + 1) (by rw [List.length_map]; omega) (by rw [List.length_map]; omega) (by omega)
  rw [List.getElem_map, List.getElem_map] at h5
  rw [getD_elem _ _ _ (show i < l.length by omega), getD_elem _ _ _ hi]
  simpa using h5

/-! ### Three forms, no two alike -/
theorem getT_first {s : List UInt8} {l : List Itm} (h : getT s = some l) : s = [] ∨ ∃ c r, s = c :: r ∧ c.toNat ≤ 51 := by
  obtain ⟨h1, rfl⟩ := getT_iff.1 h
  match l with
  | [] => exact .inl rfl
  | x :: l =>
    obtain ⟨h2, h3, _, _⟩ := itemB_parts (rightT_items h1 x (by simp))
    refine .inr ⟨UInt8.ofNat (48 + x.mode.toNat), _, rfl, ?_⟩
    rw [UInt8.toNat_ofNat']
    omega
theorem getC_first {s : List UInt8} {c : Chg} (h : getC s = some c) : ∃ r, s = 116 :: r := by
  obtain ⟨_, rfl⟩ := getC_iff.1 h
  exact ⟨_, rfl⟩
theorem getL_first {s : List UInt8} {l : Lbl} (h : getL4 s = some l) : ∃ r, s = 111 :: r := by
  obtain ⟨_, rfl⟩ := getL4_iff.1 h
  exact ⟨_, rfl⟩
theorem not_tree {s r : List UInt8} {b : UInt8} (h : s = b :: r) (hb : 51 < b.toNat) : getT s = none := by
  cases hg : getT s with
  | none => rfl
  | some l =>
    rcases getT_first hg with h1 | ⟨c, q, h1, h2⟩
    · rw [h1] at h; cases h
    · rw [h1] at h
      simp only [List.cons.injEq] at h
      rw [h.1] at h2
      omega
theorem apart_C {s : List UInt8} {c : Chg} (h : getC s = some c) : getT s = none ∧ getL4 s = none := by
  obtain ⟨r, hr⟩ := getC_first h
  refine ⟨not_tree hr (by decide), ?_⟩
  cases hg : getL4 s with
  | none => rfl
  | some l =>
    obtain ⟨q, hq⟩ := getL_first hg
    rw [hr] at hq
    simp at hq
theorem apart_L {s : List UInt8} {l : Lbl} (h : getL4 s = some l) : getT s = none ∧ getC s = none := by
  obtain ⟨r, hr⟩ := getL_first h
  refine ⟨not_tree hr (by decide), ?_⟩
  cases hg : getC s with
  | none => rfl
  | some l =>
    obtain ⟨q, hq⟩ := getC_first hg
    rw [hr] at hq
    simp at hq

/-! ### What is put names what it should -/
theorem part_len {s : List UInt8} (h : partB s = true) : s.length ≤ 70 := by
  unfold partB at h
  simp only [Bool.and_eq_true, decide_eq_true_eq] at h
  exact h.1.1.2.2
theorem putI_len137 {x : Itm} (h : itemB x = true) : (putI x).length ≤ 137 := by
  obtain ⟨_, _, h3, h4⟩ := itemB_parts h
  have := named_len64 h4
  have := part_len h3
  unfold putI
  simp only [List.length_cons, List.length_append]
  omega
theorem putT_len137 : ∀ {l : List Itm}, (∀ x ∈ l, itemB x = true) → (putT l).length ≤ 137 * l.length
  | [], _ => by simp [putT]
  | x :: l, h => by
    have h1 := putI_len137 (h x (by simp))
    have h2 := putT_len137 (fun y hy => h y (List.mem_cons_of_mem _ hy))
    have e : putT (x :: l) = putI x ++ putT l := rfl
    rw [e, List.length_append, List.length_cons]
    omega
theorem wants_putT {l : List Itm} (h : rightT l = true) : wantsO 2 (putT l) = some (l.map wantI) := by
  have h1 := putT_len137 (rightT_items h)
  have h2 := (rightT_parts.1 h).1
  have h3 : getT (putT l) = some l := getT_iff.2 ⟨h, rfl⟩
  unfold wantsO
  rw [if_neg (by omega), if_neg (by decide), if_pos rfl, h3]; rfl
theorem wants_putC {c : Chg} (h : rightC c = true) (hl : (putC c).length ≤ 65536) : wantsO 3 (putC c) = some (wantC c) := by
  have h3 : getC (putC c) = some c := getC_iff.2 ⟨h, rfl⟩
  unfold wantsO
  rw [if_neg (by omega), if_neg (by decide), if_neg (by decide), if_pos rfl, h3]; rfl
theorem wants_putL {l : Lbl} (h : rightL l = true) (hl : (putL4 l).length ≤ 65536) : wantsO 4 (putL4 l) = some (wantL l) := by
  have h3 : getL4 (putL4 l) = some l := getL4_iff.2 ⟨h, rfl⟩
  unfold wantsO
  rw [if_neg (by omega), if_neg (by decide), if_neg (by decide), if_neg (by decide), if_pos rfl, h3]; rfl
theorem parL_len72 : ∀ {l : List (List UInt8)}, (∀ p ∈ l, namedB p = true) → (parL l).length = 72 * l.length
  | [], _ => rfl
  | p :: l, h => by
    have h1 := named_len64 (h p (by simp))
    have h2 := parL_len72 (fun y hy => h y (List.mem_cons_of_mem _ hy))
    have e : parL (p :: l) = (wParent ++ (p ++ [10])) ++ parL l := rfl
    rw [e, List.length_append, List.length_cons]
    simp only [List.length_append, List.length_cons, List.length_nil, wParent]
    omega
theorem putC_len {c : Chg} (h : rightC c = true) : (putC c).length ≤ 1000 + c.text.length := by
  obtain ⟨h1, h2, h3, _, h5⟩ := rightC_parts.1 h
  have e1 := named_len64 h1
  have e2 := parL_len72 h3
  have e3 : c.who.length ≤ 100 := by
    unfold whoB at h5
    simp only [Bool.and_eq_true, decide_eq_true_eq] at h5
    exact h5.2
  unfold putC
  simp only [List.length_append, List.length_cons, wTree, wWho, List.length_nil]
  omega
theorem kindW_len (k : Int) : (kindW k).length ≤ 6 := by
  by_cases h : 1 ≤ k ∧ k ≤ 4
  · rcases kind_cases h.1 h.2 with rfl | rfl | rfl | rfl <;> decide
  · rw [word_ne_nil.2 h]; simp
theorem putL_len4 {l : Lbl} (h : rightL l = true) : (putL4 l).length ≤ 1000 + l.text.length := by
  obtain ⟨h1, _, h3⟩ := rightL_parts.1 h
  have e1 := named_len64 h1
  have e2 := part_len h3
  have e3 := kindW_len l.kind
  unfold putL4
  simp only [List.length_append, List.length_cons, wObject, wKind, wName, List.length_nil]
  omega

/-! ### What an object names -/
theorem wantsO_each {k : Int} {d : List UInt8} {l : List (List UInt8 × Int)} (h : wantsO k d = some l) : ∀ x ∈ l, namedB x.1 = true ∧ 1 ≤ x.2 ∧ x.2 ≤ 4 := by
  unfold wantsO at h
  by_cases h0 : 65536 < d.length
  · rw [if_pos h0] at h; cases h
  rw [if_neg h0] at h
  by_cases h1 : k = 1
  · rw [if_pos h1] at h; cases h; intro x hx; cases hx
  rw [if_neg h1] at h
  by_cases h2 : k = 2
  · rw [if_pos h2] at h
    obtain ⟨m, hm, rfl⟩ := Option.map_eq_some_iff.1 h
    intro x hx
    obtain ⟨y, hy, rfl⟩ := List.mem_map.1 hx
    obtain ⟨_, _, _, h4⟩ := itemB_parts (rightT_items (getT_iff.1 hm).1 y hy)
    refine ⟨h4, ?_⟩
    unfold wantI
    by_cases h3 : y.mode = 3
    · rw [if_pos h3]; omega
    · rw [if_neg h3]; omega
  rw [if_neg h2] at h
  by_cases h3 : k = 3
  · rw [if_pos h3] at h
    obtain ⟨c, hc, rfl⟩ := Option.map_eq_some_iff.1 h
    obtain ⟨g1, _, g3, _, _⟩ := rightC_parts.1 (getC_iff.1 hc).1
    intro x hx
    unfold wantC at hx
    rcases List.mem_cons.1 hx with rfl | hx
    · exact ⟨g1, show (1 : Int) ≤ 2 by decide, show (2 : Int) ≤ 4 by decide⟩
    · obtain ⟨p, hp, rfl⟩ := List.mem_map.1 hx
      exact ⟨g3 p hp, show (1 : Int) ≤ 3 by decide, show (3 : Int) ≤ 4 by decide⟩
  rw [if_neg h3] at h
  by_cases h4 : k = 4
  · rw [if_pos h4] at h
    obtain ⟨c, hc, rfl⟩ := Option.map_eq_some_iff.1 h
    obtain ⟨g1, g2, _⟩ := rightL_parts.1 (getL4_iff.1 hc).1
    intro x hx
    obtain rfl := List.mem_singleton.1 hx
    exact ⟨g1, g2⟩
  · rw [if_neg h4] at h; cases h
theorem wantsO_blob {d : List UInt8} {l : List (List UInt8 × Int)} (h : wantsO 1 d = some l) : l = [] := by
  unfold wantsO at h
  by_cases h0 : 65536 < d.length
  · rw [if_pos h0] at h; cases h
  · rw [if_neg h0, if_pos rfl] at h; cases h; rfl
theorem wantsO_commit {d : List UInt8} {l : List (List UInt8 × Int)} (h : wantsO 3 d = some l) : 0 < l.length := by
  unfold wantsO at h
  by_cases h0 : 65536 < d.length
  · rw [if_pos h0] at h; cases h
  · rw [if_neg h0, if_neg (by decide), if_neg (by decide), if_pos rfl] at h
    obtain ⟨c, _, rfl⟩ := Option.map_eq_some_iff.1 h
    simp [wantC]
end Go.Proofs.YtdkkeaaepebafaaGreatDoor
