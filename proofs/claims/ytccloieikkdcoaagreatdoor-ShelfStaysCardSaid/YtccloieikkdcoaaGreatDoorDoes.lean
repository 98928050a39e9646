/-
  does: one of the acts; how great a shelf may be behind it.
-/
import Derived.Test.YtccloieikkdcoaaGreatDoorGreat
import Derived.Test.YtccloieikkdcoaaGreatDoorRemove
namespace Go.Proofs.YtccloieikkdcoaaGreatDoor
open Go Go.RowKit Go.Maps Go.Shelf Go.Deep

theorem mem_tins' {x q : By × By} : ∀ {t : Tb}, q ∈ tins x t → q = x ∨ q ∈ t
  | [], h => by simp [tins] at h; exact .inl h
  | z :: r, h => by
    unfold tins at h
    split at h
    · rcases List.mem_cons.1 h with h | h
      · exact .inl h
      · exact .inr h
    · rcases List.mem_cons.1 h with h | h
      · exact .inr (by simp [h])
      · rcases mem_tins' h with h | h
        · exact .inl h
        · exact .inr (List.mem_cons_of_mem _ h)
theorem mem_tdel' {p : By} {q : By × By} {t : Tb} (h : q ∈ tdel p t) : q ∈ t := (List.mem_filter.1 h).1
theorem mem_tput' {p b : By} {q : By × By} {t : Tb} (h : q ∈ tput p b t) : q = (p, b) ∨ q ∈ t := by
  rcases mem_tins' h with h | h
  · exact .inl h
  · exact .inr (mem_tdel' h)
theorem tget_mem' {p b : By} {t : Tb} (h : tget p t = some b) : (p, b) ∈ t := by
  unfold tget at h
  obtain ⟨q, h1, h2⟩ := Option.map_eq_some_iff.1 h
  have h3 := List.find?_some h1
  have h4 := List.mem_of_find?_eq_some h1
  have e : q.1 = p := by simpa using h3
  rw [← e, ← h2]; exact h4

def SmallT (t : Tb) : Prop := ∀ q ∈ t, q.2.length ≤ 262144
def SmallA (a : Act) : Prop := ∀ p b, a = .write p b → b.length ≤ 262144
theorem small_play {a : Act} {t : Tb} (ht : SmallT t) (ha : SmallA a) : SmallT (a.play t) := by
  cases a with
  | write p b =>
    intro q hq
    rcases mem_tput' hq with rfl | hq
    · exact ha p b rfl
    · exact ht q hq
  | rename p q =>
    show SmallT (match tget p t with | none => t | some b => tput q b (tdel p t))
    cases h : tget p t with
    | none => exact ht
    | some b =>
      intro x hx
      rcases mem_tput' hx with rfl | hx
      · exact ht (p, b) (tget_mem' h)
      · exact ht x (mem_tdel' hx)
  | remove p => exact fun q hq => ht q (mem_tdel' hq)
theorem small_syncT {d : By} : ∀ {l : List (By × Act)} {t : Tb}, SmallT t → (∀ a ∈ l, SmallA a.2) → SmallT (syncT d l t)
  | [], _, h, _ => h
  | a :: l, t, h, hl => by
    unfold syncT
    rw [List.foldl_cons]
    refine small_syncT (l := l) ?_ fun x hx => hl x (List.mem_cons_of_mem _ hx)
    split
    · exact small_play h (hl a (by simp))
    · exact h

theorem Bd.bump {st : St} {k : Nat} (h : Bd st k) : Bd (bump st) k := ⟨h.files, h.both, h.small, h.smallS, h.smallL, h.fits, h.lim⟩
theorem Bd.downed {st : St} {k : Nat} (h : Bd st k) (b : Bool) : Bd { st with down := b } k := ⟨h.files, h.both, h.small, h.smallS, h.smallL, h.fits, h.lim⟩
theorem Bd.mono {st : St} {k n : Nat} (h : Bd st k) (hn : k ≤ n) (hl : n ≤ 1000000) : Bd st n := ⟨Nat.le_trans h.files hn, Nat.le_trans h.both hn, h.small, h.smallS, h.smallL, h.fits, hl⟩
theorem Bd.acted {st : St} {k : Nat} (h : Bd st k) (hk : k + 1 ≤ 1000000) {a : Act} (d : By) (hf : a.fits) (hs : SmallA a) : Bd { st with files := a.play st.files, loose := st.loose ++ [(d, a)] } (k + 1) := by
  refine ⟨?_, ?_, small_play h.small hs, h.smallS, fun x hx p b e => ?_, fun x hx => ?_, hk⟩
  · have := play_len a st.files; have := h.files
    show (a.play st.files).length ≤ k + 1
    omega
  · have := h.both
    show st.synced.length + (st.loose ++ [(d, a)]).length ≤ k + 1
    simp; omega
  · rcases List.mem_append.1 hx with hx | hx
    · exact h.smallL x hx p b e
    · simp at hx; subst hx; exact hs p b e
  · rcases List.mem_append.1 hx with hx | hx
    · exact h.fits x hx
    · simp at hx; subst hx; exact hf
theorem Bd.synced {st : St} {k : Nat} (h : Bd st k) (d : By) : Bd (syncedSt d st) k := by
  refine ⟨h.files, ?_, h.small, small_syncT h.smallS (fun a ha => h.smallL a ha), fun x hx => h.smallL x (List.mem_filter.1 hx).1, fun x hx => h.fits x (List.mem_filter.1 hx).1, h.lim⟩
  have := syncT_len d st.loose st.synced; have := h.both
  show (syncT d st.loose st.synced).length + (syncL d st.loose).length ≤ k
  omega
theorem small_crashK {l : List (By × Act)} {ks : List Bool} {t : Tb} (ht : SmallT t) (hl : ∀ a ∈ l, SmallA a.2) : ∀ k, SmallT (crashK l ks t k)
  | 0 => ht
  | k + 1 => by
    have ih := small_crashK (ks := ks) ht hl k
    rw [crashK]
    split
    · rename_i a ha
      split
      · exact small_play ih (hl a (List.mem_of_getElem? ha))
      · exact ih
    · exact ih
theorem Bd.crash {st : St} {k : Nat} (h : Bd st k) (ks : List Bool) : Bd (crashSt ks st) k := by
  have h1 := crashK_len st.loose ks st.synced st.loose.length
  have h2 := h.both
  have h3 := small_crashK (ks := ks) (l := st.loose) h.smallS (fun a ha => h.smallL a ha) st.loose.length
  exact ⟨Nat.le_trans h1 h2, by show (crashK st.loose ks st.synced st.loose.length).length + 0 ≤ k; omega, h3, h3, fun x hx => by simp [crashSt] at hx, fun x hx => by simp [crashSt] at hx, h.lim⟩

/-- What one of the acts answers, and what it makes of a shelf. -/
def doesN (o : OpR) (st : St) : Int :=
  if o.what = 0 ∨ o.what = 1 then doN st (writeErr o.path o.b.length st)
  else if o.what = 2 then doN st (renameErr o.path o.to st.files)
  else if o.what = 3 then doN st (thereErr o.path st.files)
  else if o.what = 4 then doN st (syncErr o.path) else 0
def doesSt (o : OpR) (st : St) : St :=
  if o.what = 0 ∨ o.what = 1 then doSt st (writeErr o.path o.b.length st) (wrote o.path o.b st)
  else if o.what = 2 then doSt st (renameErr o.path o.to st.files) (renamed o.path o.to st)
  else if o.what = 3 then doSt st (thereErr o.path st.files) (removed o.path st)
  else if o.what = 4 then doSt st (syncErr o.path) (syncedSt o.path st) else st

theorem bd_do {st st1 : St} {k : Nat} {er : Int} (h : Bd st k) (h1 : er = 0 → Bd st1 k) : Bd (doSt st er st1) k := by
  unfold doSt
  split
  · split
    · exact (h1 (by assumption)).bump
    · exact h
  · exact h.downed true

theorem writeErr_small {p : By} {n : Int} {st : St} (h : writeErr p n st = 0) : n ≤ 262144 := by
  unfold writeErr at h
  split at h
  · cases h
  · split at h
    · cases h
    · rename_i h2; omega

theorem Bd.does {st : St} {k : Nat} (h : Bd st k) (hk : k + 1 ≤ 1000000) (o : OpR) (hp : o.path.length ≤ maxLen) (ht : o.to.length ≤ maxLen) : Bd (doesSt o st) (k + 1) := by
  have h' := h.mono (Nat.le_succ k) hk
  unfold doesSt
  split
  · exact bd_do h' fun e => h.acted hk (dirOf o.path) (a := .write o.path o.b) hp (fun p b e2 => by cases e2; have := writeErr_small e; omega)
  · split
    · exact bd_do h' fun _ => h.acted hk (dirOf o.path) (a := .rename o.path o.to) ⟨hp, ht⟩ (fun p b e2 => by cases e2)
    · split
      · exact bd_do h' fun _ => h.acted hk (dirOf o.path) (a := .remove o.path) hp (fun p b e2 => by cases e2)
      · split
        · exact bd_do h' fun _ => h'.synced o.path
        · exact h'
end Go.Proofs.YtccloieikkdcoaaGreatDoor
