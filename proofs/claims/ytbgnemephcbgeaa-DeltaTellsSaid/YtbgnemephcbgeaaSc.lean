/-
  The graph of a text with a byte more, step by step.
-/
import Derived.Test.YtbgnemephcbgeaaSb
namespace Go.Proofs.Ytbgnemephcbgeaa
def Au.put (A : Au) (w : Bs) (f : Nat) (l : Option Nat) : Au :=
  { n := A.n + 1
    W := fun u => if u = A.n then w else A.W u
    fin := fun u => if u = A.n then f else A.fin u
    link := fun u => if u = A.n then l else A.link u
    δ := fun u d => if u = A.n then none else A.δ u d }
def Au.edge (A : Au) (v : Nat) (c : UInt8) (t : Nat) : Au := { A with δ := fun u d => if u = v ∧ d = c then some t else A.δ u d }
def Au.wide (A : Au) (v : Nat) (l : Option Nat) : Au := { A with link := fun u => if u = v then l else A.link u }

theorem Rep.put {C : Cg} {A : Au} {own : Nat → Nat} (R : Rep C A own) {s : St} {w : Bs} {f : Nat} {l : Option Nat} (h1 : s.longest = w.length) (h2 : s.fin = f) (h3 : s.wider = lnkI l) (h4 : s.edge = 0) : Rep (C.put s) (A.put w f l) own := by
  refine ⟨R.toWf.put h4, by rw [show (C.put s).st.length = C.st.length + 1 by unfold Cg.put; simp, R.n]; rfl, fun v hv => ?_, fun v c r hv he => ?_⟩
  · have hv' : v < A.n ∨ v = A.n := by unfold Au.put at hv; simp only at hv; omega
    unfold Au.put
    simp only
    rcases hv' with hv' | rfl
    · rw [if_neg (by omega), if_neg (by omega), if_neg (by omega), s_put (by rw [R.n]; exact hv')]; exact R.s v hv'
    · rw [if_pos rfl, if_pos rfl, if_pos rfl, ← R.n, s_put_new]; exact ⟨h1, h2, h3⟩
  · have hv' : v < A.n ∨ v = A.n := by unfold Au.put at hv; simp only at hv; omega
    unfold Au.put
    simp only
    rcases hv' with hv' | rfl
    · rw [if_neg (by omega)]; exact R.δ v c r hv' ((edgeAt_put (by rw [R.n]; exact hv')).1 he)
    · rw [if_pos rfl]
      unfold EdgeAt at he
      have h0 : A.n ≠ 0 := by have := R.pos; have := R.n; omega
      rw [if_neg h0, ← R.n, s_put_new, h4] at he
      rw [he.zero, if_pos rfl]
/-- Whether there is an edge. -/
theorem Rep.none_iff {C : Cg} {A : Au} {own : Nat → Nat} (R : Rep C A own) {v : Nat} {c : UInt8} (hv : v < A.n) : A.δ v c = none ↔ EdgeAt C v c 0 := by
  obtain ⟨r, h1, h2⟩ := R.edgeAt (by rw [R.n]; exact hv) c
  have := R.δ v c r hv h1
  constructor
  · intro h
    rw [h] at this
    by_cases h0 : r = 0
    · subst h0; exact h1
    · rw [if_neg h0] at this; cases this
  · intro h
    rw [h1.uniq h, if_pos rfl] at this
    exact this
theorem Rep.join {C : Cg} {A : Au} {own : Nat → Nat} (R : Rep C A own) {v t : Nat} {c : UInt8} (hv : v < A.n) (ht : t < A.n) (h : A.δ v c = none) : Rep (C.join v c t) (A.edge v c t) (ownJ C own v) := by
  have hv' : v < C.st.length := by rw [R.n]; exact hv
  have hW := R.toWf.join (t := t) hv' (by rw [R.n]; exact ht) ((R.none_iff hv).1 h)
  refine ⟨hW, by rw [join_len, R.n]; rfl, fun u hu => ?_, fun u d r hu he => ?_⟩
  · have hs := R.s u hu
    show _ = (A.W u).length ∧ _ = A.fin u ∧ _ = lnkI (A.link u)
    by_cases huv : u ≠ v ∨ v = 0
    · rw [s_join huv]; exact hs
    · obtain ⟨rfl, h0⟩ : u = v ∧ v ≠ 0 := by refine ⟨Decidable.byContradiction fun h => huv (.inl h), fun h => huv (.inr h)⟩
      rw [s_join_self hv' h0]; exact hs
  · have hu' : u < C.st.length := by rw [R.n]; exact hu
    show (if u = v ∧ d = c then some t else A.δ u d) = _
    by_cases hc : u = v ∧ d = c
    · obtain ⟨rfl, rfl⟩ := hc
      rw [if_pos ⟨rfl, rfl⟩, he.uniq (R.toWf.edgeAt_join_new hv'), if_neg (by have := R.ed; omega), e_join_new]
    · obtain ⟨r', h1, h2⟩ := R.edgeAt hu' d
      rw [if_neg hc, he.uniq (R.toWf.edgeAt_join hv' hu' h1 hc), R.δ u d r' hu h1, e_join h2]
theorem Rep.turn {C : Cg} {A : Au} {own : Nat → Nat} (R : Rep C A own) {v t e : Nat} {c : UInt8} (hv : v < A.n) (ht : t < A.n) (he : EdgeAt C v c e) (h0 : e ≠ 0) : Rep (C.turn e t) (A.edge v c t) own := by
  have hv' : v < C.st.length := by rw [R.n]; exact hv
  have hel := R.toWf.edgeAt_lt hv' he
  refine ⟨R.toWf.turn (by rw [R.n]; exact ht), R.n, R.s, fun u d r hu k => ?_⟩
  have k' := edgeAt_turn.1 k
  have hu' : u < C.st.length := by rw [R.n]; exact hu
  rw [(e_turn (C := C)).2.2]
  show (if u = v ∧ d = c then some t else A.δ u d) = _
  by_cases hc : u = v ∧ d = c
  · obtain ⟨rfl, rfl⟩ := hc
    rw [if_pos ⟨rfl, rfl⟩, k'.uniq he, if_neg h0, if_pos ⟨rfl, hel⟩]
  · rw [if_neg hc, R.δ u d r hu k']
    by_cases hr : r = 0
    · rw [if_pos hr, if_pos hr]
    · rw [if_neg hr, if_neg hr, if_neg]
      rintro ⟨rfl, _⟩
      have a := R.toWf.edgeAt_own hv' he h0
      have b := R.toWf.edgeAt_own hu' k' h0
      exact hc ⟨b.1.symm.trans a.1, b.2.symm.trans a.2⟩
theorem Rep.wide {C : Cg} {A : Au} {own : Nat → Nat} (R : Rep C A own) {v : Nat} (hv : v < A.n) (l : Option Nat) : Rep (C.wide v (lnkI l)) (A.wide v l) own := by
  refine ⟨R.toWf.wide, by rw [wide_len]; exact R.n, fun u hu => ?_, fun u d r hu k => R.δ u d r hu (edgeAt_wide.1 k)⟩
  obtain ⟨h1, h2, h3, h4, h5⟩ := s_wide (C := C) (v := v) (u := lnkI l) u
  obtain ⟨k1, k2, k3⟩ := R.s u hu
  show _ = (A.W u).length ∧ _ = A.fin u ∧ _ = lnkI (if u = v then l else A.link u)
  refine ⟨h1.trans k1, h2.trans k2, ?_⟩
  by_cases hc : u = v
  · rw [if_pos hc]; exact h5 hc (by rw [R.n]; exact hv)
  · rw [if_neg hc, h4 hc]; exact k3

/-! ### The way along what is wider -/
structure Mid (p : Bs) (A : Au) (c : UInt8) (at_ : Option Nat) (B : Au) : Prop where
  n : B.n = A.n + 1
  W : ∀ u, u < A.n → B.W u = A.W u
  Wn : B.W A.n = p ++ [c]
  fin : ∀ u, u < A.n → B.fin u = A.fin u
  finn : B.fin A.n = p.length + 1
  link : ∀ u, u < A.n → B.link u = A.link u
  linkn : B.link A.n = some 0
  vis : ∀ u, u < A.n → A.W u <:+ p → (∀ v, at_ = some v → (A.W v).length < (A.W u).length) → B.δ u c = some A.n
  old : ∀ u d, u < A.n → ¬ (d = c ∧ A.W u <:+ p ∧ ∀ v, at_ = some v → (A.W v).length < (A.W u).length) → B.δ u d = A.δ u d
  δn : ∀ d, B.δ A.n d = none

section
variable {p : Bs} {A B : Au} {c : UInt8}
theorem Mid.start {last : Nat} (hw : A.W last = p) : Mid p A c (some last) (A.put (p ++ [c]) (p.length + 1) (some 0)) := by
  unfold Au.put
  refine ⟨rfl, fun u hu => if_neg (by omega), if_pos rfl, fun u hu => if_neg (by omega), if_pos rfl, fun u hu => if_neg (by omega), if_pos rfl, fun u hu h1 h2 => ?_, fun u d hu _ => if_neg (by omega), fun d => if_pos rfl⟩
  have := h2 last rfl
  rw [hw] at this
  have := h1.length_le
  omega
theorem Mid.free {v : Nat} (M : Mid p A c (some v) B) (hv : v < A.n) : B.δ v c = A.δ v c := M.old v c hv fun h => by have := h.2.2 v rfl; omega
theorem Mid.next {v : Nat} (M : Mid p A c (some v) B) (G : Good p A) (K : Goes p A c (some v)) : Mid p A c (A.link v) (B.edge v c A.n) := by
  obtain ⟨hv, hs⟩ := K.lt v rfl
  -- who is seen now: all that were, and v
  have key : ∀ u, u < A.n → A.W u <:+ p → ((∀ x, A.link v = some x → (A.W x).length < (A.W u).length) ↔ (u = v ∨ (A.W v).length < (A.W u).length)) := by
    intro u hu hus
    constructor
    · intro h
      by_cases hl : (A.W v).length < (A.W u).length
      · exact .inr hl
      · left
        cases hx : A.link v with
        | none =>
          obtain rfl := G.none_zero hv hx
          rw [G.w0] at hl
          exact G.nil_zero hu (List.length_eq_zero_iff.1 (by simpa using hl))
        | some x =>
          obtain ⟨_, _, _, h4⟩ := G.chain hv hs hx
          exact G.of_uniq (Good.of_self hu) (h4 _ hus (by omega) (h x hx))
    · rintro h x hx
      obtain ⟨_, h2, _, _⟩ := G.chain hv hs hx
      rcases h with rfl | h
      · exact h2
      · omega
  unfold Au.edge
  refine ⟨M.n, M.W, M.Wn, M.fin, M.finn, M.link, M.linkn, fun u hu h1 h2 => ?_, fun u d hu hn => ?_, fun d => ?_⟩
  · show (if u = v ∧ c = c then some A.n else B.δ u c) = _
    rcases (key u hu h1).1 h2 with rfl | h3
    · rw [if_pos ⟨rfl, rfl⟩]
    · rw [M.vis u hu h1 (fun x e => by cases e; exact h3)]; split <;> rfl
  · show (if u = v ∧ d = c then some A.n else B.δ u d) = _
    by_cases hc : u = v ∧ d = c
    · obtain ⟨rfl, rfl⟩ := hc
      exact absurd ⟨rfl, hs, (key u hu hs).2 (.inl rfl)⟩ hn
    · rw [if_neg hc]
      exact M.old u d hu fun h => hn ⟨h.1, h.2.1, (key u hu h.2.1).2 (.inr (h.2.2 v rfl))⟩
  · show (if A.n = v ∧ d = c then some A.n else B.δ A.n d) = _
    rw [if_neg (by omega)]; exact M.δn d
theorem Mid.all (M : Mid p A c none B) : Plain p A c [] 0 B :=
  ⟨M.n, M.W, M.Wn, M.fin, M.finn, M.link, M.linkn, fun u hu h1 _ => M.vis u hu h1 fun v e => (by cases e), fun u d hu hn => M.old u d hu fun h => hn ⟨h.1, h.2.1, Nat.zero_le _⟩, M.δn⟩
theorem Mid.whole {v q : Nat} (M : Mid p A c (some v) B) : Plain p A c (A.W v ++ [c]) q (B.wide A.n (some q)) := by
  unfold Au.wide
  refine ⟨M.n, M.W, M.Wn, M.fin, M.finn, fun u hu => ?_, if_pos rfl, fun u hu h1 h2 => M.vis u hu h1 fun x e => ?_, fun u d hu hn => M.old u d hu fun h => hn ⟨h.1, h.2.1, ?_⟩, M.δn⟩
  · show (if u = A.n then some q else B.link u) = _
    rw [if_neg (by omega)]; exact M.link u hu
  · cases e; simp at h2; omega
  · have := h.2.2 v rfl; simp; omega

/-! ### A state that is split -/
structure Red (p : Bs) (A : Au) (c : UInt8) (s : Bs) (q : Nat) (at_ : Option Nat) (B : Au) : Prop where
  n : B.n = A.n + 1 + 1
  W : ∀ u, u < A.n → B.W u = A.W u
  Wn : B.W A.n = p ++ [c]
  Ws : B.W (A.n + 1) = s
  fin : ∀ u, u < A.n → B.fin u = A.fin u
  finn : B.fin A.n = p.length + 1
  fins : B.fin (A.n + 1) = A.fin q
  link : ∀ u, u < A.n → u ≠ q → B.link u = A.link u
  linkq : B.link q = some (A.n + 1)
  linkn : B.link A.n = some 0
  links : B.link (A.n + 1) = A.link q
  vis : ∀ u, u < A.n → A.W u <:+ p → s.length ≤ (A.W u).length → B.δ u c = some A.n
  turned : ∀ u, u < A.n → A.W u <:+ p → (A.W u).length < s.length → (∀ y, at_ = some y → (A.W y).length < (A.W u).length) → A.δ u c = some q ∧ B.δ u c = some (A.n + 1)
  yet : ∀ u y, u < A.n → A.W u <:+ p → (A.W u).length < s.length → at_ = some y → (A.W u).length ≤ (A.W y).length → B.δ u c = A.δ u c
  old : ∀ u d, u < A.n → ¬ (d = c ∧ A.W u <:+ p) → B.δ u d = A.δ u d
  δn : ∀ d, B.δ A.n d = none
  δs : ∀ d, B.δ (A.n + 1) d = B.δ q d
  on : ∀ y, at_ = some y → y < A.n ∧ A.W y <:+ p ∧ (A.W y).length < s.length

theorem Red.next {s : Bs} {q y : Nat} (M : Red p A c s q (some y) B) (G : Good p A) (hs : s.length < (A.W q).length) (hd : A.δ y c = some q) : Red p A c s q (A.link y) (B.edge y c (A.n + 1)) := by
  obtain ⟨hy, hys, hyl⟩ := M.on y rfl
  have hqy : q ≠ y := by rintro rfl; omega
  have hlk : ∀ x, A.link y = some x → x < A.n ∧ (A.W x).length < (A.W y).length ∧ A.W x <:+ p ∧ ∀ w, w <:+ p → w.length ≤ (A.W y).length → (A.W x).length < w.length → Of p A w y := fun x hx => G.chain hy hys hx
  unfold Au.edge
  refine ⟨M.n, M.W, M.Wn, M.Ws, M.fin, M.finn, M.fins, M.link, M.linkq, M.linkn, M.links, fun u hu h1 h2 => ?_, fun u hu h1 h2 h3 => ?_, fun u x hu h1 h2 h3 h4 => ?_, fun u d hu hn => ?_, fun d => ?_, fun d => ?_, fun x hx => ?_⟩
  · show (if u = y ∧ c = c then some (A.n + 1) else B.δ u c) = _
    rw [if_neg (by rintro ⟨rfl, _⟩; omega)]; exact M.vis u hu h1 h2
  · show _ ∧ (if u = y ∧ c = c then some (A.n + 1) else B.δ u c) = _
    by_cases huy : u = y
    · subst huy; rw [if_pos ⟨rfl, rfl⟩]; exact ⟨hd, rfl⟩
    · rw [if_neg (fun h => huy h.1)]
      refine M.turned u hu h1 h2 fun x e => ?_
      cases e
      refine Nat.lt_of_not_le fun hle => huy ?_
      cases hx : A.link y with
      | none =>
        obtain rfl := G.none_zero hy hx
        rw [G.w0] at hle
        exact G.nil_zero hu (List.length_eq_zero_iff.1 (by simpa using hle))
      | some x => exact G.of_uniq (Good.of_self hu) ((hlk x hx).2.2.2 _ h1 hle (h3 x hx))
  · obtain ⟨_, h5, _, _⟩ := hlk x h3
    show (if u = y ∧ c = c then some (A.n + 1) else B.δ u c) = _
    rw [if_neg (by rintro ⟨rfl, _⟩; omega)]
    exact M.yet u y hu h1 h2 rfl (by omega)
  · show (if u = y ∧ d = c then some (A.n + 1) else B.δ u d) = _
    rw [if_neg (by rintro ⟨rfl, rfl⟩; exact hn ⟨rfl, hys⟩)]; exact M.old u d hu hn
  · show (if A.n = y ∧ d = c then some (A.n + 1) else B.δ A.n d) = _
    rw [if_neg (by omega)]; exact M.δn d
  · show (if A.n + 1 = y ∧ d = c then some (A.n + 1) else B.δ (A.n + 1) d) = if q = y ∧ d = c then some (A.n + 1) else B.δ q d
    rw [if_neg (by omega), if_neg (fun h => hqy h.1)]; exact M.δs d
  · obtain ⟨h1, h2, h3, _⟩ := hlk x hx
    exact ⟨h1, h3, by omega⟩
theorem Red.wide {s : Bs} {q : Nat} {at_ : Option Nat} (M : Red p A c s q at_ B) (hq : q < A.n) (hk : ∀ u y, u < A.n → A.W u <:+ p → (A.W u).length < s.length → at_ = some y → (A.W u).length ≤ (A.W y).length → A.δ u c ≠ some q) : Split p A c s q (B.wide A.n (some (A.n + 1))) := by
  have dec : ∀ u, (∀ y, at_ = some y → (A.W y).length < (A.W u).length) ∨ ∃ y, at_ = some y ∧ (A.W u).length ≤ (A.W y).length := by
    intro u
    cases at_ with
    | none => exact .inl fun y e => by cases e
    | some y =>
      rcases Nat.lt_or_ge (A.W y).length (A.W u).length with h | h
      · exact .inl fun x e => by cases e; exact h
      · exact .inr ⟨y, rfl, h⟩
  have hl : ∀ u, u ≠ A.n → (B.wide A.n (some (A.n + 1))).link u = B.link u := fun u hu => by unfold Au.wide; exact if_neg hu
  refine ⟨M.n, M.W, M.Wn, M.Ws, M.fin, M.finn, M.fins, fun u hu h1 => by rw [hl u (by omega)]; exact M.link u hu h1, by rw [hl q (by omega)]; exact M.linkq, by unfold Au.wide; exact if_pos rfl, by rw [hl _ (by omega)]; exact M.links, M.vis, fun u hu h1 h2 h3 => ?_, fun u hu h1 h2 h3 => ?_, M.old, M.δn, M.δs⟩
  · rcases dec u with h | ⟨y, h, h'⟩
    · exact (M.turned u hu h1 h2 h).2
    · exact absurd h3 (hk u y hu h1 h2 h h')
  · rcases dec u with h | ⟨y, h, h'⟩
    · exact absurd (M.turned u hu h1 h2 h).1 h3
    · exact M.yet u y hu h1 h2 h h'
theorem Red.done {s : Bs} {q : Nat} (M : Red p A c s q none B) (hq : q < A.n) : Split p A c s q (B.wide A.n (some (A.n + 1))) :=
  M.wide hq fun _ _ _ _ _ e => by cases e
theorem Red.stop {s : Bs} {q y : Nat} (M : Red p A c s q (some y) B) (G : Good p A) (L : Long p c s) (hq : Of p A s q) (hd : A.δ y c ≠ some q) : Split p A c s q (B.wide A.n (some (A.n + 1))) := by
  refine M.wide hq.1 fun u x hu h1 h2 e h4 k => hd ?_
  cases e
  obtain ⟨hy, hys, hyl⟩ := M.on y rfl
  have hyo := L.below hys hyl
  have huq := G.step (Good.of_self hu) k
  have huy : A.W u ++ [c] <:+ A.W y ++ [c] := suffix_snoc.2 ⟨List.suffix_of_suffix_length_le h1 hys h4, rfl⟩
  obtain ⟨t, ht⟩ := G.all y c hy (L.occ.suffix hyo)
  have ha : Alike p (A.W y ++ [c]) (A.W q) := fun e => ⟨fun h => (huq.2.2 e).1 (h.suffix huy), fun h => ((hq.2.2 e).2 h).suffix hyo⟩
  rw [ht, G.of_uniq (G.step (Good.of_self hy) ht) (G.of_alike hq.1 ha)]

/-- While the edges are copied. -/
structure Cop (p : Bs) (A : Au) (c : UInt8) (s : Bs) (v q : Nat) (B : Au) : Prop where
  n : B.n = A.n + 1 + 1
  W : ∀ u, u < A.n → B.W u = A.W u
  Wn : B.W A.n = p ++ [c]
  Ws : B.W (A.n + 1) = s
  fin : ∀ u, u < A.n → B.fin u = A.fin u
  finn : B.fin A.n = p.length + 1
  fins : B.fin (A.n + 1) = A.fin q
  link : ∀ u, u < A.n → B.link u = A.link u
  linkn : B.link A.n = some 0
  links : B.link (A.n + 1) = A.link q
  vis : ∀ u, u < A.n → A.W u <:+ p → (A.W v).length < (A.W u).length → B.δ u c = some A.n
  old : ∀ u d, u < A.n → ¬ (d = c ∧ A.W u <:+ p ∧ (A.W v).length < (A.W u).length) → B.δ u d = A.δ u d
  δn : ∀ d, B.δ A.n d = none
theorem Mid.cop {v q : Nat} (M : Mid p A c (some v) B) (s : Bs) : Cop p A c s v q (B.put s (A.fin q) (A.link q)) := by
  unfold Au.put
  have hn := M.n
  have h1 : ∀ {α : Type} {a b : α} {u : Nat}, u < A.n + 1 → (if u = B.n then a else b) = b := fun h => if_neg (by omega)
  have h2 : ∀ {α : Type} {a b : α}, (if A.n + 1 = B.n then a else b) = a := if_pos hn.symm
  refine ⟨by simp only; omega, fun u hu => (h1 (by omega)).trans (M.W u hu), (h1 (by omega)).trans M.Wn, h2, fun u hu => (h1 (by omega)).trans (M.fin u hu), (h1 (by omega)).trans M.finn, h2, fun u hu => (h1 (by omega)).trans (M.link u hu), (h1 (by omega)).trans M.linkn, h2, fun u hu k1 k2 => (h1 (by omega)).trans (M.vis u hu k1 fun x e => by cases e; exact k2), fun u d hu k => (h1 (by omega)).trans (M.old u d hu fun h => k ⟨h.1, h.2.1, h.2.2 v rfl⟩), fun d => (h1 (by omega)).trans (M.δn d)⟩
theorem Cop.edge {s : Bs} {v q t : Nat} {d : UInt8} (M : Cop p A c s v q B) : Cop p A c s v q (B.edge (A.n + 1) d t) := by
  unfold Au.edge
  have h1 : ∀ {a b : Option Nat} {u : Nat} {e : UInt8}, u < A.n + 1 → (if u = A.n + 1 ∧ e = d then a else b) = b := fun h => if_neg (by omega)
  exact ⟨M.n, M.W, M.Wn, M.Ws, M.fin, M.finn, M.fins, M.link, M.linkn, M.links, fun u hu k1 k2 => (h1 (by omega)).trans (M.vis u hu k1 k2), fun u e hu k => (h1 (by omega)).trans (M.old u e hu k), fun e => (h1 (by omega)).trans (M.δn e)⟩
theorem Cop.red {s : Bs} {v q : Nat} (M : Cop p A c s v q B) (hs : s = A.W v ++ [c]) (hv : v < A.n) (hvs : A.W v <:+ p) (hq : q < A.n) (hd : ∀ d, B.δ (A.n + 1) d = B.δ q d) : Red p A c s q (some v) (B.wide q (some (A.n + 1))) := by
  have hl : s.length = (A.W v).length + 1 := by rw [hs]; simp
  have hk : ∀ u, u ≠ q → (B.wide q (some (A.n + 1))).link u = B.link u := fun u hu => by unfold Au.wide; exact if_neg hu
  refine ⟨M.n, M.W, M.Wn, M.Ws, M.fin, M.finn, M.fins, fun u hu h => by rw [hk u h]; exact M.link u hu, by unfold Au.wide; exact if_pos rfl, by rw [hk _ (by omega)]; exact M.linkn, by rw [hk _ (by omega)]; exact M.links, fun u hu h1 h2 => M.vis u hu h1 (by omega), fun u hu h1 h2 h3 => ?_, fun u y hu h1 h2 h3 h4 => ?_, fun u d hu h => M.old u d hu fun k => h ⟨k.1, k.2.1⟩, M.δn, hd, fun y e => ?_⟩
  · have := h3 v rfl; omega
  · exact M.old u c hu fun k => by omega
  · cases e; exact ⟨hv, hvs, by omega⟩
end

/-- What is copied so far: of each byte, e being looked at. -/
def Copied (C : Cg) (B : Au) (S q e : Nat) : Prop := ∀ d r, EdgeAt C q d r → (r = 0 ∧ B.δ S d = none) ∨ (e < r ∧ B.δ S d = some (C.e r).to) ∨ (r ≠ 0 ∧ B.δ S d = none ∧ Leads C d e r)
theorem Copied.start {C : Cg} {B : Au} {S q : Nat} (hq0 : q ≠ 0) (hn : ∀ d, B.δ S d = none) : Copied C B S q (C.s q).edge := by
  intro d r h
  by_cases h0 : r = 0
  · exact .inl ⟨h0, hn d⟩
  · unfold EdgeAt at h
    rw [if_neg hq0] at h
    exact .inr (.inr ⟨h0, hn d, h⟩)
theorem Copied.done {C : Cg} {B : Au} {own : Nat → Nat} {S q : Nat} (R : Rep C B own) (hq : q < B.n) (K : Copied C B S q 0) (d : UInt8) : B.δ S d = B.δ q d := by
  obtain ⟨r, h1, h2⟩ := R.edgeAt (by rw [R.n]; exact hq) d
  rw [R.δ q d r hq h1]
  rcases K d r h1 with ⟨h3, h4⟩ | ⟨h3, h4⟩ | ⟨h3, h4, h5⟩
  · rw [if_pos h3]; exact h4
  · rw [if_neg (by omega)]; exact h4
  · exact absurd h5.zero h3
/-- An edge of q that is looked at: it is of q, by its byte; and S has none such yet. -/
theorem Copied.at_ {C : Cg} {B : Au} {own : Nat → Nat} {S q e : Nat} (R : Rep C B own) (K : Copied C B S q e) (he : e < C.ed.length) (h0 : e ≠ 0) (ho : own e = q) : EdgeAt C q (C.e e).by_ e ∧ B.δ S (C.e e).by_ = none := by
  have h3 := (R.o3 e (by omega) he).2
  rw [ho] at h3
  refine ⟨h3, ?_⟩
  rcases K _ _ h3 with ⟨h, _⟩ | ⟨h, _⟩ | ⟨_, h, _⟩
  · exact absurd h h0
  · omega
  · exact h
theorem Copied.next {C : Cg} {B : Au} {own : Nat → Nat} {S q e : Nat} (R : Rep C B own) (K : Copied C B S q e) (hq : q < B.n) (hS : S < B.n) (hSq : S ≠ q) (he : e < C.ed.length) (h0 : e ≠ 0) (ho : own e = q) :
    Copied (C.join S (C.e e).by_ (C.e e).to) (B.edge S (C.e e).by_ (C.e e).to) S q (C.e e).other := by
  obtain ⟨h3, h4⟩ := K.at_ R he h0 ho
  have hq' : q < C.st.length := by rw [R.n]; exact hq
  have hS' : S < C.st.length := by rw [R.n]; exact hS
  have hoth := (R.other e (by omega) he).1
  intro d r h
  obtain ⟨r', k1, k2⟩ := R.edgeAt hq' d
  have k3 := R.toWf.edgeAt_join (t := (C.e e).to) (c := (C.e e).by_) hS' hq' k1 fun h => hSq h.1.symm
  have hrr : r = r' := h.uniq k3
  subst hrr
  have hδ : (B.edge S (C.e e).by_ (C.e e).to).δ S d = if d = (C.e e).by_ then some (C.e e).to else B.δ S d := by
    unfold Au.edge
    simp
  rw [hδ, e_join k2]
  by_cases hd : d = (C.e e).by_
  · subst hd
    obtain rfl := k1.uniq h3
    rw [if_pos rfl]
    exact .inr (.inl ⟨hoth, rfl⟩)
  · rw [if_neg hd]
    rcases K d r k1 with ⟨a, b⟩ | ⟨a, b⟩ | ⟨a, b, x⟩
    · exact .inl ⟨a, b⟩
    · exact .inr (.inl ⟨by omega, b⟩)
    · exact .inr (.inr ⟨a, b, R.toWf.leads_join (x.miss h0 fun h => hd h.symm) (by omega)⟩)

/-! ### There are few edges -/
theorem nodup_len {α : Type} [DecidableEq α] : ∀ {l m : List α}, l.Nodup → (∀ x ∈ l, x ∈ m) → l.length ≤ m.length
  | [], _, _, _ => Nat.zero_le _
  | x :: l, m, hn, hs => by
    have hx := hs x (List.mem_cons_self ..)
    have := nodup_len (l := l) (m := m.erase x) (List.nodup_cons.1 hn).2 fun y hy => (List.mem_erase_of_ne (fun e => (List.nodup_cons.1 hn).1 (by rw [← e]; exact hy))).2 (hs y (List.mem_cons_of_mem _ hy))
    rw [List.length_erase_of_mem hx] at this
    have := List.length_pos_of_mem hx
    simp only [List.length_cons]
    omega
theorem Wf.few {C : Cg} {own : Nat → Nat} (R : Wf C own) : C.ed.length ≤ 256 * C.st.length + 1 := by
  have h := nodup_len (l := (List.range (C.ed.length - 1)).map fun i => own (i + 1) * 256 + (C.e (i + 1)).by_.toNat) (m := List.range (256 * C.st.length)) ?_ ?_
  · simp only [List.length_map, List.length_range] at h; omega
  · rw [List.Nodup, List.pairwise_map]
    refine List.Pairwise.imp_of_mem ?_ List.nodup_range
    intro a b ha hb hne he
    rw [List.mem_range] at ha hb
    have h1 := UInt8.toNat_lt (C.e (a + 1)).by_
    have h2 := UInt8.toNat_lt (C.e (b + 1)).by_
    have e1 : own (a + 1) = own (b + 1) := by omega
    have e2 : (C.e (a + 1)).by_ = (C.e (b + 1)).by_ := UInt8.toNat_inj.1 (by omega)
    have k1 := (R.o3 (a + 1) (by omega) (by omega)).2
    have k2 := (R.o3 (b + 1) (by omega) (by omega)).2
    rw [e1, e2] at k1
    have := k1.uniq k2
    omega
  · intro x hx
    obtain ⟨i, hi, rfl⟩ := List.mem_map.1 hx
    rw [List.mem_range] at hi ⊢
    have h1 := UInt8.toNat_lt (C.e (i + 1)).by_
    have := (R.o3 (i + 1) (by omega) (by omega)).1
    omega

/-! ### The first state alone -/
def au0 : Au := { n := 1, W := fun _ => [], fin := fun _ => 0, link := fun _ => none, δ := fun _ _ => none }
theorem good0 : Good [] au0 := by
  have hocc : ∀ {w : Bs}, Occ [] w → w = [] := fun ⟨e, h⟩ => by have a := h.len; have b := h.1; rw [List.length_nil] at b; exact List.length_eq_zero_iff.1 (by omega)
  refine ⟨by decide, rfl, rfl, fun v _ => ⟨ends_nil _ (Nat.le_refl _), fun e _ => Nat.zero_le _⟩, fun u v hu hv _ => ?_, fun w hw => ?_, fun v hv h0 => ?_, fun v c t _ h => ?_, fun v c _ h => ?_⟩
  · have : au0.n = 1 := rfl
    omega
  · obtain rfl := hocc hw
    exact ⟨0, by decide, Nat.le_refl _, .refl _ _⟩
  · have : au0.n = 1 := rfl
    omega
  · cases h
  · have := hocc h
    simp at this
def cg0 : Cg := { st := [⟨0, 0, -1, 0⟩], ed := [⟨0, 0, 0⟩], first := fun _ => 0 }
theorem rep0 : Rep cg0 au0 fun _ => 0 := by
  have hn : au0.n = 1 := rfl
  have hs : cg0.s 0 = ⟨0, 0, -1, 0⟩ := rfl
  have hl : cg0.st.length = 1 := rfl
  have he : cg0.ed.length = 1 := rfl
  refine ⟨⟨by decide, by decide, rfl, fun v h => ?_, fun e h0 h1 => by omega, fun x => by show 0 < _; rw [he]; decide, fun v h h0 => by omega, fun e h0 h1 => by omega, fun e h0 h1 => by omega, fun c h => absurd rfl h⟩, rfl, fun v h => ?_, fun v c r h k => ?_⟩
  · obtain rfl : v = 0 := by omega
    rw [hs, he]; decide
  · obtain rfl : v = 0 := by omega
    rw [hs]; exact ⟨rfl, rfl, rfl⟩
  · obtain rfl : v = 0 := by omega
    unfold EdgeAt at k
    rw [if_pos rfl] at k
    subst k
    rfl
end Go.Proofs.Ytbgnemephcbgeaa
