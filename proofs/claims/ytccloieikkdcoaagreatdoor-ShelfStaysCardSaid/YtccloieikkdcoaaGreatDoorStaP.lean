/-
  The plain side of ShelfStays: what a directory had when it was synced is there behind a crash.
-/
import Derived.Test.YtccloieikkdcoaaGreatDoorOwn
namespace Go.Proofs.YtccloieikkdcoaaGreatDoor
open Go Go.RowKit Go.Maps Go.Shelf Go.Deep

/-! ### Right paths, synced and loose -/
def GoodA (a : Act) : Prop := match a with | .write p _ => pathB p = true | .rename _ q => pathB q = true | .remove _ => True
structure PaB (st : St) : Prop where
  syn : ∀ x ∈ st.synced, pathB x.1 = true
  acts : ∀ x ∈ st.loose, GoodA x.2
theorem syncT_paths (d : By) : ∀ {l : List (By × Act)} {t : Tb}, (∀ x ∈ l, GoodA x.2) → (∀ x ∈ t, pathB x.1 = true) → ∀ x ∈ syncT d l t, pathB x.1 = true
  | [], _, _, h => h
  | a :: l, t, hl, h => by
    rw [syncT_cons]
    refine syncT_paths d (fun x hx => hl x (List.mem_cons_of_mem _ hx)) ?_
    split
    · exact play_paths h (hl a (by simp))
    · exact h
theorem crashK_paths {l : List (By × Act)} {ks : List Bool} {t : Tb} (hl : ∀ x ∈ l, GoodA x.2) (h : ∀ x ∈ t, pathB x.1 = true) : ∀ k, ∀ x ∈ crashK l ks t k, pathB x.1 = true
  | 0 => h
  | k + 1 => by
    rw [crashK]
    cases ha : l[k]? with
    | none => exact crashK_paths hl h k
    | some a =>
      show ∀ x ∈ (if ks.getD k false = true then a.2.play (crashK l ks t k) else crashK l ks t k), _
      split
      · exact play_paths (crashK_paths hl h k) (hl a (List.mem_of_getElem? ha))
      · exact crashK_paths hl h k
theorem PaB.start {r : Int} {t : Tb} (h : ∀ x ∈ t, pathB x.1 = true) : PaB (newSt r t) := ⟨h, fun x hx => by simp [newSt] at hx⟩
theorem PaB.acted {st : St} (h : PaB st) {d : By} {a : Act} (ha : GoodA a) : PaB { st with files := a.play st.files, loose := st.loose ++ [(d, a)] } :=
  ⟨h.syn, fun x hx => by
    rcases List.mem_append.1 hx with hx | hx
    · exact h.acts x hx
    · simp at hx; subst hx; exact ha⟩
theorem PaB.sync {st : St} (h : PaB st) (d : By) : PaB (syncedSt d st) := ⟨syncT_paths d h.acts h.syn, fun x hx => h.acts x (List.mem_filter.1 hx).1⟩
theorem pa_do {st st1 : St} {er : Int} (h : PaB st) (h1 : er = 0 → PaB st1) : PaB (doSt st er st1) := by
  unfold doSt
  split
  · split
    · exact ⟨(h1 (by assumption)).syn, (h1 (by assumption)).acts⟩
    · exact h
  · exact ⟨h.syn, h.acts⟩
theorem PaB.does {st : St} (h : PaB st) (o : OpR) : PaB (doesSt o st) := by
  unfold doesSt
  split
  · exact pa_do h fun e => h.acted (d := dirOf o.path) (a := .write o.path o.b) (write_zero e)
  · split
    · exact pa_do h fun e => h.acted (d := dirOf o.path) (a := .rename o.path o.to) (rename_dirs e).1
    · split
      · exact pa_do h fun _ => h.acted (d := dirOf o.path) (a := .remove o.path) trivial
      · split
        · exact pa_do h fun _ => h.sync o.path
        · exact h

/-! ### Nothing of a directory is loose -/
structure SyD (S : Tb) (dir : By) (st : St) : Prop where
  synced : st.synced = S
  dirs : Dirs st.loose
  far : ∀ x ∈ st.loose, x.1 ≠ dir
theorem SyD.acted {S : Tb} {dir : By} {st : St} (h : SyD S dir st) {d : By} {a : Act} (ha : InDir d a) (hd : d ≠ dir) : SyD S dir { st with files := a.play st.files, loose := st.loose ++ [(d, a)] } :=
  ⟨h.synced, fun x hx => by
    rcases List.mem_append.1 hx with hx | hx
    · exact h.dirs x hx
    · simp at hx; subst hx; exact ha, fun x hx => by
    rcases List.mem_append.1 hx with hx | hx
    · exact h.far x hx
    · simp at hx; subst hx; exact hd⟩
theorem sy_do {S : Tb} {dir : By} {st st1 : St} {er : Int} (h : SyD S dir st) (h1 : er = 0 → SyD S dir st1) : SyD S dir (doSt st er st1) := by
  unfold doSt
  split
  · split
    · have := h1 (by assumption); exact ⟨this.synced, this.dirs, this.far⟩
    · exact h
  · exact ⟨h.synced, h.dirs, h.far⟩
theorem SyD.does {S : Tb} {dir : By} {st : St} (h : SyD S dir st) (o : OpR) (h4 : o.what ≠ 4) (hp : refDir o.path ≠ dir) : SyD S dir (doesSt o st) := by
  have key : pathB o.path = true → dirOf o.path ≠ dir := fun hb => by rw [← refDir_path hb]; exact hp
  unfold doesSt
  split
  · exact sy_do h fun e => h.acted (d := dirOf o.path) (a := .write o.path o.b) rfl (key (write_zero e))
  · split
    · exact sy_do h fun e => h.acted (d := dirOf o.path) (a := .rename o.path o.to) ⟨rfl, (rename_dirs e).2.symm⟩ (key (rename_path e))
    · split
      · exact sy_do h fun e => h.acted (d := dirOf o.path) (a := .remove o.path) rfl (key (there_path e))
      · first | exact h | (rw [if_neg h4]; exact h)
theorem SyD.sync {st : St} (h : InvO st) (dir : By) : SyD (syncedSt dir st).synced dir (syncedSt dir st) := ⟨rfl, dirs_syncL h.dirs, not_syncL⟩
theorem play_far {dir r : By} : ∀ {l : List (By × Act)} {t : Tb}, Dirs l → (∀ x ∈ l, x.1 ≠ dir) → dirOf r = dir → tget r (playL l t) = tget r t
  | [], _, _, _, _ => rfl
  | a :: l, t, hd, hf, hr => by
    have ih := play_far (t := a.2.play t) (fun x hx => hd x (List.mem_cons_of_mem _ hx)) (fun x hx => hf x (List.mem_cons_of_mem _ hx)) hr
    show tget r (playL l (a.2.play t)) = tget r t
    rw [ih]
    exact act_out (hd a (by simp)) (by rw [hr]; exact fun e => hf a (by simp) e.symm)
theorem crash_far {dir r : By} {l : List (By × Act)} {ks : List Bool} {t : Tb} (hd : Dirs l) (hf : ∀ x ∈ l, x.1 ≠ dir) (hr : dirOf r = dir) : ∀ k, tget r (crashK l ks t k) = tget r t
  | 0 => rfl
  | k + 1 => by
    rw [crashK]
    cases ha : l[k]? with
    | none => exact crash_far hd hf hr k
    | some a =>
      show tget r (if ks.getD k false = true then a.2.play (crashK l ks t k) else crashK l ks t k) = tget r t
      have hm := List.mem_of_getElem? ha
      split
      · rw [act_out (hd a hm) (by rw [hr]; exact fun e => hf a hm e.symm)]; exact crash_far hd hf hr k
      · exact crash_far hd hf hr k
theorem crash_rises {l : List (By × Act)} {ks : List Bool} {t : Tb} (h : Rises t) : ∀ k, Rises (crashK l ks t k)
  | 0 => h
  | k + 1 => by
    rw [crashK]
    cases ha : l[k]? with
    | none => exact crash_rises h k
    | some a =>
      show Rises (if ks.getD k false = true then a.2.play (crashK l ks t k) else crashK l ks t k)
      split
      · exact Act.play_rises (crash_rises h k)
      · exact crash_rises h k
theorem tget_own {dir r : By} : ∀ {t : Tb}, tget r (ownT dir t) = if refDir r = dir then tget r t else none
  | [] => by unfold tget ownT; simp
  | q :: t => by
    have ih := @tget_own dir r t
    unfold tget ownT at ih ⊢
    rw [List.filter_cons]
    by_cases hq : refDir q.1 = dir
    · rw [if_pos (by rw [hq]; simp), List.find?_cons, List.find?_cons]
      by_cases hr : q.1 = r
      · have e : (q.1 == r) = true := by simpa using hr
        rw [e, if_pos (by rw [← hr]; exact hq)]
      · have e : (q.1 == r) = false := by simpa using hr
        rw [e]; exact ih
    · rw [if_neg (by simpa using hq), ih, List.find?_cons]
      by_cases hr : q.1 = r
      · rw [if_neg (by rw [← hr]; exact hq), if_neg (by rw [← hr]; exact hq)]
      · have e : (q.1 == r) = false := by simpa using hr
        rw [e]
theorem own_rises {dir : By} {t : Tb} (h : Rises t) : Rises (ownT dir t) := List.Pairwise.sublist List.filter_sublist h
theorem refDir_dir {dir r : By} (hd : dir ≠ []) (h : refDir r = dir) : dirOf r = dir := by
  unfold refDir at h
  split at h
  · exact h
  · exact absurd h.symm hd
theorem own_eq {dir : By} {t u : Tb} (hd : dir ≠ []) (ht : Rises t) (hu : Rises u) (h : ∀ r, dirOf r = dir → tget r t = tget r u) : ownT dir t = ownT dir u := by
  refine rises_ext (own_rises ht) (own_rises hu) fun r => ?_
  rw [tget_own, tget_own]
  by_cases hr : refDir r = dir
  · rw [if_pos hr, if_pos hr]; exact h r (refDir_dir hd hr)
  · rw [if_neg hr, if_neg hr]
/-- What the directory had is there. -/
theorem stays {dir : By} {st1 st2 : St} {ks : List Bool} (hd : dir ≠ []) (hi : InvO st1) (h1 : SyD st1.synced dir st1) (h2 : SyD st1.synced dir st2) : ownT dir (crashSt ks st2).files = ownT dir st1.files := by
  show ownT dir (crashK st2.loose ks st2.synced st2.loose.length) = _
  refine own_eq hd (crash_rises (by rw [h2.synced]; exact hi.rises) _) (by rw [hi.files]; exact playL_rises _ hi.rises) fun r hr => ?_
  rw [crash_far h2.dirs h2.far hr, h2.synced, hi.files, play_far h1.dirs h1.far hr]
end Go.Proofs.YtccloieikkdcoaaGreatDoor
