/-
  The laws of roots, plainly: what is cut, what is changed, one more and one less, how many lines.
-/
import Derived.Test.YtnboagmibhllpaaGreatDoorOFindP
import Derived.Test.YtnboagmibhllpaaGreatDoorC20
namespace Go.Proofs.YtnboagmibhllpaaGreatDoor.Ro
open Go.Proofs.YtnboagmibhllpaaGreatDoor
open Go.Proofs.YtnboagmibhllpaaGreatDoor.Rf (Ref linesL lineL)
open Go Go.RowKit

theorem RtOk.fit {r : Rt} (h : RtOk r) : FitR r := by
  refine ⟨fun x hx => ?_, by have := h.pool.len; omega, fun f hf => ?_, by have := h.len; omega, by have := h.lo; omega, by have := h.hi; omega⟩
  · have := Rf.named_len64 (h.pool.id x hx); unfold maxLen; omega
  · have hk := h.forks.each f hf
    refine ⟨by have := fork_len hk.name; unfold maxLen; omega, by have := head_len hk.head; unfold maxLen; omega, fun x hx => ?_, by have := hk.refs.len; omega, fun x hx => ?_, by have := hk.packs.len; omega⟩
    · have h1 := Rf.nameB_len (hk.refs.name x hx); have h2 := Rf.named_len64 (hk.refs.id x hx)
      unfold maxLen; omega
    · have := Rf.named_len64 (hk.packs.id x hx); unfold maxLen; omega
theorem rootL_len {r : Rt} (h : RtOk r) : (rootL r).length ≤ 800000 := by
  have h1 := numL_len (word := bNet) (by decide) (n := r.count.toNat) (by have := h.hi; omega)
  have h2 := numL_len (word := bPool) (by decide) (n := r.pool.length) (by have := h.pool.len; omega)
  have h3 := numL_len (word := bForks) (by decide) (n := r.forks.length) (by have := h.len; omega)
  have h4 := packsL_le h.pool
  have h5 := forksL_len h.forks.each
  have h6 := h.len
  unfold rootL
  simp only [List.length_append]
  omega
theorem rootL_inj {r s : Rt} (h : RtOk r) (k : RtOk s) : rootL r = rootL s ↔ r = s := ⟨fun e => IsRoot.unique ⟨h, rfl⟩ ⟨k, e.symm⟩, fun e => by rw [e]⟩
theorem getO_cut {r : Rt} (h : RtOk r) {k : Nat} (hk : k < (rootL r).length) : getO ((rootL r).take k) = none := by
  cases hg : getO ((rootL r).take k) with
  | none => rfl
  | some s =>
    obtain ⟨h1, h2⟩ := getO_iff.1 hg
    have e : rootL s ++ (rootL r).drop k = rootL r := by rw [h2, List.take_append_drop]
    have h3 := congrArg List.length (rootL_pre h h1 e).2
    rw [List.length_drop, List.length_nil] at h3
    omega
theorem getO_more {r : Rt} (h : RtOk r) (c : UInt8) : getO (rootL r ++ [c]) = none := by
  cases hg : getO (rootL r ++ [c]) with
  | none => rfl
  | some s =>
    obtain ⟨h1, h2⟩ := getO_iff.1 hg
    have := (rootL_pre h1 h h2.symm).2
    cases this
theorem getO_self {r : Rt} (h : RtOk r) : getO (rootL r) = some r := getO_iff.2 ⟨h, rfl⟩
theorem set_same {r s : Rt} (h : RtOk r) {k : Nat} (hk : k < (rootL r).length) {c : UInt8} (hs : getO ((rootL r).set k c) = some s) : s = r ↔ c = (rootL r)[k] := by
  obtain ⟨h1, h2⟩ := getO_iff.1 hs
  constructor
  · intro e
    subst e
    have h3 : ((rootL s).set k c)[k]? = some c := by rw [List.getElem?_set_self hk]
    rw [← h2] at h3
    rw [List.getElem?_eq_getElem hk] at h3
    exact (Option.some.inj h3).symm
  · intro e
    rw [e, List.set_getElem_self] at h2
    exact (rootL_inj h1 h).1 h2

/-! ### Lines -/
theorem numL_count {word : Bs} (hw : (10 : UInt8) ∉ word) (n : Nat) : (numL word n).count 10 = 1 := by
  have h1 : word.count 10 = 0 := List.count_eq_zero.2 hw
  have h2 : (dd n).count 10 = 0 := List.count_eq_zero.2 fun hm => (dd_char n hm).1 rfl
  unfold numL
  rw [List.count_append, h1, List.count_cons, List.count_append, h2]
  simp
theorem packsL_cons' (x : Bs) (l : List Bs) : packsL (x :: l) = (x ++ [10]) ++ packsL l := rfl
theorem packsL_count {l : List Bs} (h : ∀ x ∈ l, namedB x = true) : (packsL l).count 10 = l.length := by
  induction l with
  | nil => rfl
  | cons x l ih =>
    have h1 : x.count 10 = 0 := List.count_eq_zero.2 fun hm => (Rf.named_char (h x List.mem_cons_self) hm).1 rfl
    rw [packsL_cons', List.count_append, List.count_append, h1, ih fun y hy => h y (List.mem_cons_of_mem _ hy)]
    simp
    omega
theorem forkL_count {f : Fk} (h : FkOk f) : (forkL f).count 10 = 1 + f.refs.length + f.packs.length := by
  have h1 : (openB f.op).count 10 = 0 := List.count_eq_zero.2 fun hm => open_char h hm rfl
  unfold forkL
  rw [List.count_append, h1, List.count_cons, List.count_append, linesL_count h.refs.each, packsL_count h.packs.id]
  simp
  omega
def oneF (f : Fk) : Nat := 1 + f.refs.length + f.packs.length
def wantF (l : List Fk) : Nat := (l.map oneF).sum
theorem wantF_snoc {l : List Fk} {k : Nat} {f : Fk} (hf : l[k]? = some f) : wantF (l.take (k + 1)) = wantF (l.take k) + oneF f := by
  unfold wantF
  rw [List.take_add_one, hf, Option.toList_some, List.map_append, List.sum_append]; simp
theorem forksL_count {l : List Fk} (h : ∀ f ∈ l, FkOk f) : (forksL l).count 10 = wantF l := by
  induction l with
  | nil => rfl
  | cons f l ih =>
    rw [forksL_cons, List.count_append, forkL_count (h f List.mem_cons_self), ih fun y hy => h y (List.mem_cons_of_mem _ hy)]
    rfl
theorem rootL_count {r : Rt} (h : RtOk r) : (rootL r).count 10 = 3 + r.pool.length + wantF r.forks := by
  unfold rootL
  rw [List.count_append, List.count_append, List.count_append, List.count_append, numL_count (by decide), numL_count (by decide), numL_count (by decide), packsL_count h.pool.id, forksL_count h.forks.each]
  omega
def Ends (l : Bs) : Prop := ∃ t, l = t ++ [10]
theorem ends_app {a b : Bs} (h : Ends a) (k : b = [] ∨ Ends b) : Ends (a ++ b) := by
  rcases k with rfl | ⟨t, rfl⟩
  · rw [List.append_nil]; exact h
  · exact ⟨a ++ t, by rw [List.append_assoc]⟩
theorem ends_opt {a b : Bs} (h : a = [] ∨ Ends a) (k : b = [] ∨ Ends b) : a ++ b = [] ∨ Ends (a ++ b) := by
  rcases h with rfl | h
  · rw [List.nil_append]; exact k
  · exact .inr (ends_app h k)
theorem packsL_ends : ∀ (l : List Bs), packsL l = [] ∨ Ends (packsL l)
  | [] => .inl rfl
  | x :: l => .inr (ends_app ⟨x, rfl⟩ (packsL_ends l))
theorem linesL_ends : ∀ (l : List Ref), linesL l = [] ∨ Ends (linesL l)
  | [] => .inl rfl
  | x :: l => by
    rw [Rf.linesL_cons]
    exact .inr (ends_app ⟨x.id ++ 32 :: x.name, by unfold lineL; simp⟩ (linesL_ends l))
theorem forksL_ends : ∀ (l : List Fk), forksL l = [] ∨ Ends (forksL l)
  | [] => .inl rfl
  | f :: l => by
    refine .inr (ends_app ?_ (forksL_ends l))
    have e : forkL f = (openB f.op ++ [10]) ++ (linesL f.refs ++ packsL f.packs) := by unfold forkL; simp
    rw [e]
    exact ends_app ⟨_, rfl⟩ (ends_opt (linesL_ends _) (packsL_ends _))
theorem numL_ends (word : Bs) (n : Nat) : Ends (numL word n) := ⟨word ++ 32 :: dd n, by unfold numL; simp⟩
theorem rootL_ends (r : Rt) : Ends (rootL r) := by
  unfold rootL
  exact ends_app (numL_ends _ _) (.inr (ends_app (numL_ends _ _) (ends_opt (packsL_ends _) (.inr (ends_app (numL_ends _ _) (forksL_ends _))))))
theorem rootL_last {r : Rt} {k : Nat} (hk : k + 1 = (rootL r).length) : (rootL r)[k]? = some 10 := by
  obtain ⟨t, e⟩ := rootL_ends r
  rw [e, List.length_append, List.length_singleton] at hk
  rw [e, show k = t.length by omega]
  simp

/-! ### One less, one more -/
theorem less_ok {r : Rt} (h : RtOk r) (k : Nat) : RtOk { r with forks := r.forks.take k ++ r.forks.drop (k + 1) } := by
  have hs : (r.forks.take k ++ r.forks.drop (k + 1)).Sublist r.forks := by
    rw [← List.eraseIdx_eq_take_drop_succ]; exact List.eraseIdx_sublist _ _
  exact ⟨h.lo, h.hi, h.pool, Nat.le_trans hs.length_le h.len, ⟨fun f hf => h.forks.each f (hs.subset hf), h.forks.rise.sublist hs⟩⟩
theorem twice_no {r : Rt} {k : Nat} {f : Fk} (hf : r.forks[k]? = some f) : ¬ RtOk { r with forks := r.forks ++ [f] } := fun h => by
  have h1 := (List.pairwise_append.1 h.forks.rise).2.2 f (List.mem_of_getElem? hf) f (by simp)
  exact lt_irr _ h1
theorem less_find {r : Rt} (h : RtOk r) {k : Nat} {f : Fk} (hf : r.forks[k]? = some f) : findF (r.forks.take k ++ r.forks.drop (k + 1)) f.name = -1 := by
  have hk := (List.getElem?_eq_some_iff.1 hf).1
  have e : r.forks = r.forks.take k ++ (f :: r.forks.drop (k + 1)) := by
    have e2 : r.forks[k] = f := by rw [List.getElem?_eq_getElem hk] at hf; exact Option.some.inj hf
    rw [← e2, ← List.drop_eq_getElem_cons hk, List.take_append_drop]
  have hr := h.forks.rise
  rw [e] at hr
  obtain ⟨h1, h2, h3⟩ := List.pairwise_append.1 hr
  refine findF_none fun j hj => ?_
  obtain ⟨g, hg⟩ : ∃ g, (r.forks.take k ++ r.forks.drop (k + 1))[j]? = some g := ⟨_, List.getElem?_eq_getElem hj⟩
  rw [name_at hg, decide_eq_false_iff_not]
  intro en
  rcases List.mem_append.1 (List.mem_of_getElem? hg) with hm | hm
  · have := h3 g hm f (by simp)
    rw [en] at this
    exact lt_irr _ this
  · have := (List.pairwise_cons.1 h2).1 g hm
    rw [en] at this
    exact lt_irr _ this
theorem pool_more {r : Rt} (h : RtOk r) {id : Bs} (hid : namedB id = true) : RtOk { r with pool := r.pool ++ [id] } ↔ id ∉ r.pool ∧ r.pool.length < 24 := by
  constructor
  · intro k
    have h1 := k.pool.len
    have h2 := (List.nodup_append.1 k.pool.once).2.2
    simp only [List.length_append, List.length_singleton] at h1
    exact ⟨fun hm => h2 id hm id (by simp) rfl, by omega⟩
  · rintro ⟨h1, h2⟩
    refine ⟨h.lo, h.hi, ⟨by simp only [List.length_append, List.length_singleton]; omega, fun x hx => ?_, ?_⟩, h.len, h.forks⟩
    · rcases List.mem_append.1 hx with hx | hx
      · exact h.pool.id x hx
      · rw [List.mem_singleton.1 hx]; exact hid
    · refine List.nodup_append.2 ⟨h.pool.once, by simp, fun a ha b hb => ?_⟩
      rw [List.mem_singleton.1 hb]
      intro e
      rw [e] at ha
      exact h1 ha
theorem pool_moreB {r : Rt} (h : RtOk r) {id : Bs} (hid : namedB id = true) : rtB { r with pool := r.pool ++ [id] } = (!decide (id ∈ r.pool) && decide (r.pool.length < 24)) := by
  rw [Bool.eq_iff_iff, rtB_iff, pool_more h hid]
  simp
end Go.Proofs.YtnboagmibhllpaaGreatDoor.Ro
