/-
  The graph as it lies in two rows and a table, and what becomes of it.
-/
import Derived.Test.YtbgnemephcbgeaaSa
namespace Go.Proofs.Ytbgnemephcbgeaa
structure St where
  longest : Nat
  fin : Nat
  wider : Int
  edge : Nat
structure Ed where
  by_ : UInt8
  to : Nat
  other : Nat
structure Cg where
  st : List St
  ed : List Ed
  first : Nat → Nat
def noSt : St := ⟨0, 0, 0, 0⟩
def noEd : Ed := ⟨0, 0, 0⟩
def Cg.s (C : Cg) (v : Nat) : St := C.st.getD v noSt
def Cg.e (C : Cg) (e : Nat) : Ed := C.ed.getD e noEd

/-- What is found along a row of edges. -/
inductive Leads (C : Cg) (c : UInt8) : Nat → Nat → Prop
  | none : Leads C c 0 0
  | here (e : Nat) : e ≠ 0 → (C.e e).by_ = c → Leads C c e e
  | next (e r : Nat) : e ≠ 0 → (C.e e).by_ ≠ c → Leads C c (C.e e).other r → Leads C c e r

theorem Leads.zero {C : Cg} {c : UInt8} {r : Nat} (h : Leads C c 0 r) : r = 0 := by
  cases h with
  | none => rfl
  | here _ h => exact absurd rfl h
  | next _ h => exact absurd rfl (by assumption)
theorem Leads.hit {C : Cg} {c : UInt8} {e r : Nat} (h : Leads C c e r) (h0 : e ≠ 0) (hc : (C.e e).by_ = c) : r = e := by
  cases h with
  | none => exact absurd rfl h0
  | here => rfl
  | next _ _ _ h1 => exact absurd hc h1
theorem Leads.miss {C : Cg} {c : UInt8} {e r : Nat} (h : Leads C c e r) (h0 : e ≠ 0) (hc : (C.e e).by_ ≠ c) : Leads C c (C.e e).other r := by
  cases h with
  | none => exact absurd rfl h0
  | here _ _ h1 => exact absurd h1 hc
  | next _ _ _ _ h1 => exact h1
theorem Leads.uniq {C : Cg} {c : UInt8} {e r r' : Nat} (h : Leads C c e r) (k : Leads C c e r') : r = r' := by
  induction h with
  | none => exact k.zero.symm
  | here e h0 hc => exact (k.hit h0 hc).symm
  | next e r h0 hc _ ih => exact ih (k.miss h0 hc)
theorem Leads.by_eq {C : Cg} {c : UInt8} {e r : Nat} (h : Leads C c e r) (h0 : r ≠ 0) : (C.e r).by_ = c := by
  induction h with
  | none => exact absurd rfl h0
  | here _ _ hc => exact hc
  | next _ _ _ _ _ ih => exact ih h0

def EdgeAt (C : Cg) (v : Nat) (c : UInt8) (r : Nat) : Prop := if v = 0 then C.first c.toNat = r else Leads C c (C.s v).edge r
theorem EdgeAt.uniq {C : Cg} {v : Nat} {c : UInt8} {r r' : Nat} (h : EdgeAt C v c r) (k : EdgeAt C v c r') : r = r' := by
  unfold EdgeAt at h k
  split at h
  · rename_i h0; rw [if_pos h0] at k; exact h.symm.trans k
  · rename_i h0; rw [if_neg h0] at k; exact h.uniq k

def lnkI : Option Nat → Int
  | none => -1
  | some u => u

/-- The rows are in order. -/
structure Wf (C : Cg) (own : Nat → Nat) : Prop where
  pos : 0 < C.st.length
  ed : 0 < C.ed.length
  start : (C.s 0).edge = 0
  edge : ∀ v, v < C.st.length → (C.s v).edge < C.ed.length
  other : ∀ e, 0 < e → e < C.ed.length → (C.e e).other < e ∧ (C.e e).to < C.st.length
  first : ∀ x, C.first x < C.ed.length
  o1 : ∀ v, v < C.st.length → v ≠ 0 → (C.s v).edge ≠ 0 → own (C.s v).edge = v
  o2 : ∀ e, 0 < e → e < C.ed.length → (C.e e).other ≠ 0 → own (C.e e).other = own e
  o3 : ∀ e, 0 < e → e < C.ed.length → own e < C.st.length ∧ EdgeAt C (own e) (C.e e).by_ e
  o4 : ∀ c : UInt8, C.first c.toNat ≠ 0 → (C.e (C.first c.toNat)).by_ = c ∧ own (C.first c.toNat) = 0

/-- It is the graph of A. -/
structure Rep (C : Cg) (A : Au) (own : Nat → Nat) : Prop extends Wf C own where
  n : C.st.length = A.n
  s : ∀ v, v < A.n → (C.s v).longest = (A.W v).length ∧ (C.s v).fin = A.fin v ∧ (C.s v).wider = lnkI (A.link v)
  δ : ∀ v c r, v < A.n → EdgeAt C v c r → A.δ v c = if r = 0 then none else some (C.e r).to

namespace Wf
variable {C : Cg} {own : Nat → Nat} (R : Wf C own)
include R

theorem leads (c : UInt8) : ∀ (k e : Nat), e ≤ k → e < C.ed.length → ∃ r, Leads C c e r ∧ r ≤ e := by
  intro k
  induction k with
  | zero =>
    intro e h _
    obtain rfl : e = 0 := by omega
    exact ⟨0, .none, Nat.le_refl _⟩
  | succ k ih =>
    intro e h he
    by_cases h0 : e = 0
    · subst h0; exact ⟨0, .none, Nat.le_refl _⟩
    · by_cases hc : (C.e e).by_ = c
      · exact ⟨e, .here e h0 hc, Nat.le_refl _⟩
      · have := (R.other e (by omega) he).1
        obtain ⟨r, h1, h2⟩ := ih (C.e e).other (by omega) (by omega)
        exact ⟨r, .next e r h0 hc h1, by omega⟩
theorem edgeAt {v : Nat} (h : v < C.st.length) (c : UInt8) : ∃ r, EdgeAt C v c r ∧ r < C.ed.length := by
  unfold EdgeAt
  split
  · exact ⟨_, rfl, R.first _⟩
  · have := R.edge v h
    obtain ⟨r, h1, h2⟩ := R.leads c _ _ (Nat.le_refl _) this
    exact ⟨r, h1, by omega⟩
theorem leads_own {c : UInt8} {e r : Nat} (h : Leads C c e r) : e < C.ed.length → r ≠ 0 → own r = own e := by
  induction h with
  | none => intro _ h; exact absurd rfl h
  | here => intro _ _; rfl
  | next e r h0 hc hl ih =>
    intro he hr
    have h1 := R.other e (by omega) he
    have h2 : (C.e e).other ≠ 0 := fun h => hr (by rw [h] at hl; exact hl.zero)
    rw [ih (by omega) hr, R.o2 e (by omega) he h2]
theorem leads_le {c : UInt8} {e r : Nat} (h : Leads C c e r) : e < C.ed.length → r ≤ e := by
  induction h with
  | none => intro _; exact Nat.le_refl _
  | here => intro _; exact Nat.le_refl _
  | next e r h0 hc hl ih =>
    intro he
    have h1 := R.other e (by omega) he
    have := ih (by omega)
    omega
theorem edgeAt_lt {v r : Nat} {c : UInt8} (h : v < C.st.length) (k : EdgeAt C v c r) : r < C.ed.length := by
  obtain ⟨r', h1, h2⟩ := R.edgeAt h c
  rw [k.uniq h1]; exact h2
theorem edgeAt_own {v r : Nat} {c : UInt8} (h : v < C.st.length) (k : EdgeAt C v c r) (h0 : r ≠ 0) : own r = v ∧ (C.e r).by_ = c := by
  unfold EdgeAt at k
  split at k
  · rename_i hv
    subst hv
    subst k
    exact ⟨(R.o4 c h0).2, (R.o4 c h0).1⟩
  · rename_i hv
    have he : (C.s v).edge ≠ 0 := fun e => h0 (by rw [e] at k; exact k.zero)
    exact ⟨by rw [R.leads_own k (R.edge v h) h0]; exact R.o1 v h hv he, k.by_eq h0⟩
end Wf

/-- put -/
def Cg.put (C : Cg) (s : St) : Cg := { C with st := C.st ++ [s] }
/-- join -/
def Cg.join (C : Cg) (v : Nat) (c : UInt8) (t : Nat) : Cg :=
  { st := if v = 0 then C.st else C.st.set v { C.s v with edge := C.ed.length }
    ed := C.ed ++ [⟨c, t, (C.s v).edge⟩]
    first := if v = 0 then fun x => if x = c.toNat then C.ed.length else C.first x else C.first }
/-- an edge is turned -/
def Cg.turn (C : Cg) (e t : Nat) : Cg := { C with ed := C.ed.set e { C.e e with to := t } }
/-- what is wider is laid -/
def Cg.wide (C : Cg) (v : Nat) (u : Int) : Cg := { C with st := C.st.set v { C.s v with wider := u } }

theorem s_put {C : Cg} {s : St} {v : Nat} (h : v < C.st.length) : (C.put s).s v = C.s v := by
  unfold Cg.s Cg.put; simp only; rw [List.getD_eq_getElem?_getD, List.getD_eq_getElem?_getD, List.getElem?_append_left h]
theorem s_put_new {C : Cg} {s : St} : (C.put s).s C.st.length = s := by
  unfold Cg.s Cg.put; simp
theorem e_put {C : Cg} {s : St} (e : Nat) : (C.put s).e e = C.e e := rfl
theorem leads_same {C C' : Cg} {c : UInt8} (h : ∀ e, (C'.e e).by_ = (C.e e).by_ ∧ (C'.e e).other = (C.e e).other) {e r : Nat} : Leads C c e r → Leads C' c e r := by
  intro k
  induction k with
  | none => exact .none
  | here e h0 hc => exact .here e h0 (by rw [(h e).1]; exact hc)
  | next e r h0 hc _ ih => exact .next e r h0 (by rw [(h e).1]; exact hc) (by rw [(h e).2]; exact ih)
theorem leads_iff {C C' : Cg} {c : UInt8} (h : ∀ e, (C'.e e).by_ = (C.e e).by_ ∧ (C'.e e).other = (C.e e).other) {e r : Nat} : Leads C' c e r ↔ Leads C c e r :=
  ⟨leads_same fun e => ⟨(h e).1.symm, (h e).2.symm⟩, leads_same h⟩
theorem edgeAt_put {C : Cg} {s : St} {v r : Nat} {c : UInt8} (h : v < C.st.length) : EdgeAt (C.put s) v c r ↔ EdgeAt C v c r := by
  unfold EdgeAt
  rw [s_put h]
  split
  · exact Iff.rfl
  · exact leads_iff (C := C) (C' := C.put s) fun _ => ⟨rfl, rfl⟩
theorem Wf.put {C : Cg} {own : Nat → Nat} (R : Wf C own) {s : St} (hs : s.edge = 0) : Wf (C.put s) own := by
  have hlen : (C.put s).st.length = C.st.length + 1 := by unfold Cg.put; simp
  have hed : (C.put s).ed = C.ed := rfl
  have cas : ∀ v, v < (C.put s).st.length → v < C.st.length ∨ v = C.st.length := fun v h => by omega
  refine ⟨by omega, R.ed, by rw [s_put R.pos]; exact R.start, fun v h => ?_, fun e h0 h1 => ?_, R.first, fun v h h0 he => ?_, fun e h0 h1 h2 => R.o2 e h0 h1 h2, fun e h0 h1 => ?_, fun c h0 => R.o4 c h0⟩
  · rcases cas v h with h | rfl
    · rw [s_put h]; exact R.edge v h
    · rw [s_put_new, hs]; exact R.ed
  · have := R.other e h0 h1
    exact ⟨this.1, by rw [hlen]; have := this.2; show (C.e e).to < _; omega⟩
  · rcases cas v h with h | rfl
    · rw [s_put h] at he ⊢; exact R.o1 v h h0 he
    · rw [s_put_new, hs] at he; exact absurd rfl he
  · obtain ⟨h2, h3⟩ := R.o3 e h0 h1
    exact ⟨by omega, (edgeAt_put h2).2 h3⟩

theorem e_join {C : Cg} {v t : Nat} {c : UInt8} {e : Nat} (h : e < C.ed.length) : (C.join v c t).e e = C.e e := by
  unfold Cg.e Cg.join; simp only; rw [List.getD_eq_getElem?_getD, List.getD_eq_getElem?_getD, List.getElem?_append_left h]
theorem e_join_new {C : Cg} {v t : Nat} {c : UInt8} : (C.join v c t).e C.ed.length = ⟨c, t, (C.s v).edge⟩ := by
  unfold Cg.e Cg.join; simp
theorem s_join {C : Cg} {v t u : Nat} {c : UInt8} (h : u ≠ v ∨ v = 0) : (C.join v c t).s u = C.s u := by
  unfold Cg.s Cg.join; simp only
  split
  · rfl
  · rename_i h0
    rw [List.getD_eq_getElem?_getD, List.getD_eq_getElem?_getD, List.getElem?_set_ne (fun e => by rcases h with h | h; exact h e.symm; exact h0 h)]
theorem s_join_self {C : Cg} {v t : Nat} {c : UInt8} (h : v < C.st.length) (h0 : v ≠ 0) : (C.join v c t).s v = { C.s v with edge := C.ed.length } := by
  unfold Cg.s Cg.join; simp only
  rw [if_neg h0, List.getD_eq_getElem?_getD, List.getElem?_set_self h]; rfl
theorem join_len {C : Cg} {v t : Nat} {c : UInt8} : (C.join v c t).st.length = C.st.length := by
  unfold Cg.join; simp only; split
  · rfl
  · simp
theorem join_ed {C : Cg} {v t : Nat} {c : UInt8} : (C.join v c t).ed.length = C.ed.length + 1 := by
  unfold Cg.join; simp
theorem Wf.leads_join {C : Cg} {own : Nat → Nat} (R : Wf C own) {v t : Nat} {c d : UInt8} {e r : Nat} (h : Leads C d e r) : e < C.ed.length → Leads (C.join v c t) d e r := by
  induction h with
  | none => intro _; exact .none
  | here e h0 hc => intro he; exact .here e h0 (by rw [e_join he]; exact hc)
  | next e r h0 hc _ ih =>
    intro he
    have := (R.other e (by omega) he).1
    exact .next e r h0 (by rw [e_join he]; exact hc) (by rw [e_join he]; exact ih (by omega))
/-- The edges behind it: the new one; all others as they were. -/
theorem Wf.edgeAt_join {C : Cg} {own : Nat → Nat} (R : Wf C own) {v t : Nat} {c : UInt8} (hv : v < C.st.length) {u r : Nat} {d : UInt8} (hu : u < C.st.length) (h : EdgeAt C u d r) (hne : ¬ (u = v ∧ d = c)) : EdgeAt (C.join v c t) u d r := by
  unfold EdgeAt at h ⊢
  by_cases h0 : u = 0
  · rw [if_pos h0] at h ⊢
    subst h0
    unfold Cg.join
    simp only
    split
    · rename_i hv0
      subst hv0
      have : d.toNat ≠ c.toNat := fun e => hne ⟨rfl, UInt8.toNat_inj.1 e⟩
      show (if d.toNat = c.toNat then _ else _) = r
      rw [if_neg this]; exact h
    · exact h
  · rw [if_neg h0] at h ⊢
    by_cases huv : u = v
    · subst huv
      rw [s_join_self hu h0]
      have hdc : d ≠ c := fun e => hne ⟨rfl, e⟩
      refine .next _ _ (by have := R.ed; simp only; omega) ?_ ?_
      · simp only; rw [e_join_new]; exact fun e => hdc e.symm
      · simp only; rw [e_join_new]; exact R.leads_join h (R.edge u hu)
    · rw [s_join (.inl huv)]
      exact R.leads_join h (R.edge u hu)
theorem Wf.edgeAt_join_new {C : Cg} {own : Nat → Nat} (R : Wf C own) {v t : Nat} {c : UInt8} (hv : v < C.st.length) : EdgeAt (C.join v c t) v c C.ed.length := by
  unfold EdgeAt
  by_cases h0 : v = 0
  · rw [if_pos h0]; subst h0; unfold Cg.join; simp
  · rw [if_neg h0, s_join_self hv h0]
    exact .here _ (by have := R.ed; simp only; omega) (by simp only; rw [e_join_new])
def ownJ (C : Cg) (own : Nat → Nat) (v : Nat) : Nat → Nat := fun e => if e = C.ed.length then v else own e
theorem Wf.join {C : Cg} {own : Nat → Nat} (R : Wf C own) {v t : Nat} {c : UInt8} (hv : v < C.st.length) (ht : t < C.st.length) (h : EdgeAt C v c 0) : Wf (C.join v c t) (ownJ C own v) := by
  have hpos := R.ed
  have own_old : ∀ e, e < C.ed.length → ownJ C own v e = own e := fun e he => by unfold ownJ; rw [if_neg (by omega)]
  have own_new : ownJ C own v C.ed.length = v := by unfold ownJ; rw [if_pos rfl]
  have cas : ∀ e, e < (C.join v c t).ed.length → e < C.ed.length ∨ e = C.ed.length := fun e he => by rw [join_ed] at he; omega
  have hstart : ((C.join v c t).s 0).edge = 0 := by
    by_cases h0 : v = 0
    · rw [s_join (.inr h0)]; exact R.start
    · rw [s_join (.inl (fun e => h0 e.symm))]; exact R.start
  refine ⟨by rw [join_len]; exact R.pos, by rw [join_ed]; omega, hstart, fun u hu => ?_, fun e h0 h1 => ?_, fun x => ?_, fun u hu h0 he => ?_, fun e h0 h1 h2 => ?_, fun e h0 h1 => ?_, fun d hd => ?_⟩
  · rw [join_len] at hu
    rw [join_ed]
    by_cases huv : u ≠ v ∨ v = 0
    · rw [s_join huv]; have := R.edge u hu; omega
    · obtain ⟨rfl, h0⟩ : u = v ∧ v ≠ 0 := by refine ⟨Decidable.byContradiction fun h => huv (.inl h), fun h => huv (.inr h)⟩
      rw [s_join_self hu h0]; simp only; omega
  · rw [join_len]
    rcases cas e h1 with h2 | rfl
    · rw [e_join h2]; exact R.other e h0 h2
    · rw [e_join_new]; exact ⟨R.edge v hv, ht⟩
  · rw [join_ed]
    unfold Cg.join
    simp only
    have := R.first x
    split
    · simp only; split <;> omega
    · omega
  · rw [join_len] at hu
    by_cases huv : u = v
    · subst huv
      rw [s_join_self hu h0]; exact own_new
    · rw [s_join (.inl huv)] at he ⊢
      rw [own_old _ (R.edge u hu)]; exact R.o1 u hu h0 he
  · rcases cas e h1 with h3 | rfl
    · rw [e_join h3] at h2 ⊢
      rw [own_old e h3, own_old _ (by have := R.other e h0 h3; omega)]
      exact R.o2 e h0 h3 h2
    · rw [e_join_new] at h2 ⊢
      simp only at h2 ⊢
      rw [own_new, own_old _ (R.edge v hv)]
      by_cases hv0 : v = 0
      · subst hv0; rw [R.start] at h2; exact absurd rfl h2
      · exact R.o1 v hv hv0 h2
  · rw [join_len]
    rcases cas e h1 with h3 | rfl
    · rw [own_old e h3, e_join h3]
      obtain ⟨h4, h5⟩ := R.o3 e h0 h3
      refine ⟨h4, R.edgeAt_join hv h4 h5 fun hh => ?_⟩
      rw [hh.1, hh.2] at h5
      have := h5.uniq h
      omega
    · rw [own_new, e_join_new]
      exact ⟨hv, R.edgeAt_join_new hv⟩
  · have hx : (C.join v c t).first d.toNat = if v = 0 ∧ d = c then C.ed.length else C.first d.toNat := by
      unfold Cg.join
      simp only
      by_cases h0 : v = 0
      · by_cases hdc : d = c
        · subst hdc; simp [h0]
        · have : d.toNat ≠ c.toNat := fun e => hdc (UInt8.toNat_inj.1 e)
          simp [h0, hdc, this]
      · simp [h0]
    rw [hx] at hd ⊢
    by_cases hc : v = 0 ∧ d = c
    · rw [if_pos hc, e_join_new, own_new]; exact ⟨hc.2.symm, hc.1⟩
    · rw [if_neg hc] at hd ⊢
      rw [e_join (R.first _), own_old _ (R.first _)]
      exact R.o4 d hd

theorem e_turn {C : Cg} {e t x : Nat} : ((C.turn e t).e x).by_ = (C.e x).by_ ∧ ((C.turn e t).e x).other = (C.e x).other ∧ ((C.turn e t).e x).to = if x = e ∧ e < C.ed.length then t else (C.e x).to := by
  unfold Cg.e Cg.turn
  simp only
  by_cases hx : x = e
  · subst hx
    by_cases hl : x < C.ed.length
    · rw [List.getD_eq_getElem?_getD, List.getElem?_set_self hl, if_pos ⟨rfl, hl⟩]; exact ⟨rfl, rfl, rfl⟩
    · rw [if_neg (fun h => hl h.2), List.getD_eq_getElem?_getD, List.getElem?_eq_none (by rw [List.length_set]; omega), List.getD_eq_getElem?_getD, List.getElem?_eq_none (by omega)]; exact ⟨rfl, rfl, rfl⟩
  · rw [if_neg (fun h => hx h.1), List.getD_eq_getElem?_getD, List.getD_eq_getElem?_getD, List.getElem?_set_ne (fun e => hx e.symm)]; exact ⟨rfl, rfl, rfl⟩
theorem edgeAt_turn {C : Cg} {e t v r : Nat} {c : UInt8} : EdgeAt (C.turn e t) v c r ↔ EdgeAt C v c r := by
  unfold EdgeAt
  split
  · exact Iff.rfl
  · exact leads_iff fun x => ⟨(e_turn (C := C)).1, (e_turn (C := C)).2.1⟩
theorem turn_ed {C : Cg} {e t : Nat} : (C.turn e t).ed.length = C.ed.length := by unfold Cg.turn; simp
theorem Wf.turn {C : Cg} {own : Nat → Nat} (R : Wf C own) {e t : Nat} (ht : t < C.st.length) : Wf (C.turn e t) own := by
  have hb : ∀ x, ((C.turn e t).e x).by_ = (C.e x).by_ := fun x => (e_turn (C := C)).1
  have ho : ∀ x, ((C.turn e t).e x).other = (C.e x).other := fun x => (e_turn (C := C)).2.1
  refine ⟨R.pos, by rw [turn_ed]; exact R.ed, R.start, fun v h => by rw [turn_ed]; exact R.edge v h, fun x h0 h1 => ?_, fun x => by rw [turn_ed]; exact R.first x, R.o1, fun x h0 h1 h2 => ?_, fun x h0 h1 => ?_, fun c h0 => ?_⟩
  · rw [turn_ed] at h1
    have := R.other x h0 h1
    rw [ho, (e_turn (C := C)).2.2]
    refine ⟨this.1, ?_⟩
    split
    · exact ht
    · exact this.2
  · rw [turn_ed] at h1
    rw [ho] at h2 ⊢
    exact R.o2 x h0 h1 h2
  · rw [turn_ed] at h1
    rw [hb, edgeAt_turn]
    exact R.o3 x h0 h1
  · rw [hb]; exact R.o4 c h0

theorem wide_len {C : Cg} {v : Nat} {u : Int} : (C.wide v u).st.length = C.st.length := by unfold Cg.wide; simp
theorem s_wide {C : Cg} {v : Nat} {u : Int} (x : Nat) : ((C.wide v u).s x).longest = (C.s x).longest ∧ ((C.wide v u).s x).fin = (C.s x).fin ∧ ((C.wide v u).s x).edge = (C.s x).edge ∧ (x ≠ v → ((C.wide v u).s x).wider = (C.s x).wider) ∧ (x = v → v < C.st.length → ((C.wide v u).s x).wider = u) := by
  unfold Cg.s Cg.wide
  simp only
  by_cases hx : x = v
  · subst hx
    by_cases hl : x < C.st.length
    · rw [List.getD_eq_getElem?_getD, List.getElem?_set_self hl]; exact ⟨rfl, rfl, rfl, fun h => absurd rfl h, fun _ _ => rfl⟩
    · rw [List.getD_eq_getElem?_getD, List.getElem?_eq_none (by rw [List.length_set]; omega), List.getD_eq_getElem?_getD, List.getElem?_eq_none (by omega)]; exact ⟨rfl, rfl, rfl, fun h => absurd rfl h, fun _ h => absurd h hl⟩
  · rw [List.getD_eq_getElem?_getD, List.getD_eq_getElem?_getD, List.getElem?_set_ne (fun e => hx e.symm)]; exact ⟨rfl, rfl, rfl, fun _ => rfl, fun h => absurd h hx⟩
theorem edgeAt_wide {C : Cg} {v x r : Nat} {u : Int} {c : UInt8} : EdgeAt (C.wide v u) x c r ↔ EdgeAt C x c r := by
  unfold EdgeAt
  rw [(s_wide x).2.2.1]
  split
  · exact Iff.rfl
  · exact leads_iff (C := C) (C' := C.wide v u) fun x => ⟨rfl, rfl⟩
theorem Wf.wide {C : Cg} {own : Nat → Nat} (R : Wf C own) {v : Nat} {u : Int} : Wf (C.wide v u) own := by
  have he : ∀ x, ((C.wide v u).s x).edge = (C.s x).edge := fun x => (s_wide x).2.2.1
  refine ⟨by rw [wide_len]; exact R.pos, R.ed, by rw [he]; exact R.start, fun x h => by rw [wide_len] at h; rw [he]; exact R.edge x h, fun e h0 h1 => by rw [wide_len]; exact R.other e h0 h1, R.first, fun x h h0 k => by rw [wide_len] at h; rw [he] at k ⊢; exact R.o1 x h h0 k, R.o2, fun e h0 h1 => ?_, R.o4⟩
  obtain ⟨h2, h3⟩ := R.o3 e h0 h1
  exact ⟨by rw [wide_len]; exact h2, edgeAt_wide.2 h3⟩
end Go.Proofs.Ytbgnemephcbgeaa
