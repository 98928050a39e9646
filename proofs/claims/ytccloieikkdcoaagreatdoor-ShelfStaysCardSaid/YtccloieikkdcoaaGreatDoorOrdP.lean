/-
  The plain side of ShelfOrder: acts of unlike directories do not meet.
-/
import Derived.Test.YtccloieikkdcoaaGreatDoorRefusedP
namespace Go.Proofs.YtccloieikkdcoaaGreatDoor
open Go Go.RowKit Go.Maps Go.Shelf Go.Deep

/-- An act that touches nothing but a directory. -/
def InDir (d : By) : Act → Prop
  | .write p _ => dirOf p = d
  | .rename p q => dirOf p = d ∧ dirOf q = d
  | .remove p => dirOf p = d

theorem get_write {p b r : By} {t : Tb} : tget r ((Act.write p b).play t) = if r = p then some b else tget r t := by
  show tget r (tput p b t) = _
  by_cases h : r = p
  · rw [if_pos h, h]; exact tget_tput_same
  · rw [if_neg h]; exact tget_tput_other h
theorem get_remove {p r : By} {t : Tb} : tget r ((Act.remove p).play t) = if r = p then none else tget r t := by
  show tget r (tdel p t) = _
  by_cases h : r = p
  · rw [if_pos h, h]; exact tget_tdel_same
  · rw [if_neg h]; exact tget_tdel_other h
theorem get_rename {p q r : By} {t : Tb} : tget r ((Act.rename p q).play t) = match tget p t with | none => tget r t | some b => if r = q then some b else if r = p then none else tget r t := by
  show tget r (match tget p t with | none => t | some b => tput q b (tdel p t)) = _
  cases hp : tget p t with
  | none => rfl
  | some b =>
    show tget r (tput q b (tdel p t)) = if r = q then some b else if r = p then none else tget r t
    by_cases h : r = q
    · rw [if_pos h, h]; exact tget_tput_same
    · rw [if_neg h, tget_tput_other h]
      by_cases h2 : r = p
      · rw [if_pos h2, h2]; exact tget_tdel_same
      · rw [if_neg h2]; exact tget_tdel_other h2

theorem act_out {d r : By} {a : Act} {t : Tb} (ha : InDir d a) (hr : dirOf r ≠ d) : tget r (a.play t) = tget r t := by
  cases a with
  | write p b => rw [get_write, if_neg]; rintro rfl; exact hr ha
  | remove p => rw [get_remove, if_neg]; rintro rfl; exact hr ha
  | rename p q =>
    rw [get_rename]
    cases tget p t with
    | none => rfl
    | some b =>
      show (if r = q then some b else if r = p then none else tget r t) = tget r t
      rw [if_neg (by rintro rfl; exact hr ha.2), if_neg (by rintro rfl; exact hr ha.1)]
theorem act_in {d : By} {a : Act} {t u : Tb} (ha : InDir d a) (h : ∀ r, dirOf r = d → tget r t = tget r u) : ∀ r, dirOf r = d → tget r (a.play t) = tget r (a.play u) := by
  intro r hr
  cases a with
  | write p b => rw [get_write, get_write, h r hr]
  | remove p => rw [get_remove, get_remove, h r hr]
  | rename p q => rw [get_rename, get_rename, h r hr, h p ha.1]

def playL (l : List (By × Act)) (t : Tb) : Tb := l.foldl (fun t a => a.2.play t) t
theorem playL_snoc (l : List (By × Act)) (a : By × Act) (t : Tb) : playL (l ++ [a]) t = a.2.play (playL l t) := by
  unfold playL; rw [List.foldl_append]; rfl
theorem playL_rises : ∀ (l : List (By × Act)) {t : Tb}, Rises t → Rises (playL l t)
  | [], _, h => h
  | a :: l, t, h => playL_rises l (t := a.2.play t) (Act.play_rises h)

def Dirs (l : List (By × Act)) : Prop := ∀ x ∈ l, InDir x.1 x.2

theorem beq_of_ne {a d : By} (h : a ≠ d) : ¬ (a == d) = true := by simpa using h
theorem play_sync {d : By} : ∀ {l : List (By × Act)} {t u : Tb}, Dirs l → (∀ r, dirOf r = d → tget r t = tget r u) → ∀ r, dirOf r = d → tget r (playL l t) = tget r (syncT d l u)
  | [], _, _, _, h, r, hr => h r hr
  | a :: l, t, u, hl, h, r, hr => by
    have ha := hl a (by simp)
    have hl' : Dirs l := fun x hx => hl x (List.mem_cons_of_mem _ hx)
    rw [syncT_cons]
    by_cases hd : a.1 = d
    · rw [if_pos (by rw [hd]; simp)]
      exact play_sync (t := a.2.play t) hl' (act_in (hd ▸ ha) h) r hr
    · rw [if_neg (beq_of_ne hd)]
      exact play_sync (t := a.2.play t) hl' (fun r hr => by rw [act_out ha (by rw [hr]; exact fun e => hd e.symm)]; exact h r hr) r hr
theorem sync_out {d : By} : ∀ {l : List (By × Act)} {t : Tb}, Dirs l → ∀ r, dirOf r ≠ d → tget r (syncT d l t) = tget r t
  | [], _, _, _, _ => rfl
  | a :: l, t, hl, r, hr => by
    have ha := hl a (by simp)
    have hl' : Dirs l := fun x hx => hl x (List.mem_cons_of_mem _ hx)
    rw [syncT_cons, sync_out hl' r hr]
    by_cases hd : a.1 = d
    · rw [if_pos (by rw [hd]; simp)]; exact act_out (hd ▸ ha) hr
    · rw [if_neg (beq_of_ne hd)]
theorem sync_congr {e : By} : ∀ {l : List (By × Act)} {t u : Tb}, Dirs l → (∀ r, dirOf r = e → tget r t = tget r u) → ∀ r, dirOf r = e → tget r (syncT e l t) = tget r (syncT e l u)
  | [], _, _, _, h, r, hr => h r hr
  | a :: l, t, u, hl, h, r, hr => by
    have ha := hl a (by simp)
    have hl' : Dirs l := fun x hx => hl x (List.mem_cons_of_mem _ hx)
    rw [syncT_cons, syncT_cons]
    by_cases hd : a.1 = e
    · rw [if_pos (by rw [hd]; simp), if_pos (by rw [hd]; simp)]
      exact sync_congr hl' (act_in (hd ▸ ha) h) r hr
    · rw [if_neg (beq_of_ne hd), if_neg (beq_of_ne hd)]
      exact sync_congr hl' h r hr
theorem sync_other {d e : By} (hne : e ≠ d) : ∀ {l : List (By × Act)} {t : Tb}, syncT e (syncL d l) t = syncT e l t
  | [], _ => rfl
  | a :: l, t => by
    rw [syncL_cons]
    by_cases hd : a.1 = d
    · rw [if_pos (by rw [hd]; simp), sync_other hne, syncT_cons, if_neg (beq_of_ne (by rw [hd]; exact fun e => hne e.symm))]
    · rw [if_neg (beq_of_ne hd), syncT_cons, syncT_cons, sync_other hne]
theorem dirs_syncL {d : By} {l : List (By × Act)} (h : Dirs l) : Dirs (syncL d l) := fun x hx => h x (List.mem_filter.1 hx).1
theorem not_syncL {d : By} {l : List (By × Act)} : ∀ x ∈ syncL d l, x.1 ≠ d := fun x hx e => by
  have := (List.mem_filter.1 hx).2
  rw [e] at this
  simp at this

/-- What is synced of a directory is not played again. -/
theorem sync_rest {d : By} {l : List (By × Act)} {t : Tb} (hl : Dirs l) (ht : Rises t) : playL (syncL d l) (syncT d l t) = playL l t := by
  refine rises_ext (playL_rises _ (syncT_rises d l ht)) (playL_rises _ ht) fun r => ?_
  rw [play_sync (d := dirOf r) (dirs_syncL hl) (fun _ _ => rfl) r rfl, play_sync (d := dirOf r) hl (fun _ _ => rfl) r rfl]
  by_cases hd : dirOf r = d
  · rw [hd]
    have h0 : ∀ {m : List (By × Act)} {u : Tb}, (∀ x ∈ m, x.1 ≠ d) → syncT d m u = u := by
      intro m
      induction m with
      | nil => intro u _; rfl
      | cons a m ih =>
        intro u h
        rw [syncT_cons, if_neg (beq_of_ne (h a (by simp))), ih fun x hx => h x (List.mem_cons_of_mem _ hx)]
    rw [h0 not_syncL]
  · rw [sync_other hd]
    exact sync_congr hl (fun r' hr' => sync_out hl r' (by rw [hr']; exact hd)) r rfl

/-- What holds of a shelf that began with all synced. -/
structure InvO (st : St) : Prop where
  files : st.files = playL st.loose st.synced
  dirs : Dirs st.loose
  rises : Rises st.synced
  paths : ∀ x ∈ st.files, pathB x.1 = true
theorem InvO.start {r : Int} {t : Tb} (hr : Rises t) (hp : ∀ x ∈ t, pathB x.1 = true) : InvO (newSt r t) := ⟨rfl, fun x hx => by simp [newSt] at hx, hr, hp⟩
theorem InvO.same {st st1 : St} (h : InvO st) (h1 : st1.files = st.files) (h2 : st1.loose = st.loose) (h3 : st1.synced = st.synced) : InvO st1 :=
  ⟨by rw [h1, h2, h3]; exact h.files, by rw [h2]; exact h.dirs, by rw [h3]; exact h.rises, by rw [h1]; exact h.paths⟩
theorem InvO.acted {st : St} (h : InvO st) {d : By} {a : Act} (ha : InDir d a) (hp : ∀ x ∈ a.play st.files, pathB x.1 = true) : InvO { st with files := a.play st.files, loose := st.loose ++ [(d, a)] } := by
  refine ⟨?_, fun x hx => ?_, h.rises, hp⟩
  · show a.play st.files = playL (st.loose ++ [(d, a)]) st.synced
    rw [playL_snoc, h.files]
  · rcases List.mem_append.1 hx with hx | hx
    · exact h.dirs x hx
    · simp at hx; subst hx; exact ha
theorem InvO.sync {st : St} (h : InvO st) (d : By) : InvO (syncedSt d st) :=
  ⟨by show st.files = playL (syncL d st.loose) (syncT d st.loose st.synced); rw [sync_rest h.dirs h.rises, h.files], dirs_syncL h.dirs, syncT_rises d _ h.rises, h.paths⟩
theorem invO_do {st st1 : St} {er : Int} (h : InvO st) (h1 : er = 0 → InvO st1) : InvO (doSt st er st1) := by
  unfold doSt
  split
  · split
    · exact (h1 (by assumption)).same rfl rfl rfl
    · exact h
  · exact h.same rfl rfl rfl

theorem write_zero {p : By} {n : Int} {st : St} (h : writeErr p n st = 0) : pathB p = true := by
  cases hp : pathB p with
  | true => rfl
  | false => rw [writeErr_1 hp] at h; cases h
theorem rename_dirs {p q : By} {t : Tb} (h : renameErr p q t = 0) : pathB q = true ∧ dirOf p = dirOf q := by
  unfold renameErr at h
  split at h
  · cases h
  · rename_i hq
    split at h
    · cases h
    · split at h
      · cases h
      · rename_i hd
        exact ⟨by simpa using hq, by simpa using hd⟩
theorem play_paths {a : Act} {t : Tb} (ht : ∀ x ∈ t, pathB x.1 = true) (ha : match a with | .write p _ => pathB p = true | .rename _ q => pathB q = true | .remove _ => True) : ∀ x ∈ a.play t, pathB x.1 = true := by
  cases a with
  | write p b =>
    intro x hx
    rcases mem_tput' hx with rfl | hx
    · exact ha
    · exact ht x hx
  | rename p q =>
    show ∀ x ∈ (match tget p t with | none => t | some b => tput q b (tdel p t)), pathB x.1 = true
    cases tget p t with
    | none => exact ht
    | some b =>
      intro x hx
      rcases mem_tput' hx with rfl | hx
      · exact ha
      · exact ht x (mem_tdel' hx)
  | remove p => exact fun x hx => ht x (mem_tdel' hx)

theorem InvO.does {st : St} (h : InvO st) (o : OpR) : InvO (doesSt o st) := by
  unfold doesSt
  split
  · exact invO_do h fun e => h.acted (d := dirOf o.path) (a := .write o.path o.b) rfl (play_paths h.paths (write_zero e))
  · split
    · exact invO_do h fun e => h.acted (d := dirOf o.path) (a := .rename o.path o.to) ⟨rfl, (rename_dirs e).2.symm⟩ (play_paths h.paths (rename_dirs e).1)
    · split
      · exact invO_do h fun e => h.acted (d := dirOf o.path) (a := .remove o.path) rfl (play_paths h.paths trivial)
      · split
        · exact invO_do h fun _ => h.sync o.path
        · exact h

/-- Whence the loose acts come: of the paths of these calls. -/
def From (ps : List By) (st : St) : Prop := ∀ x ∈ st.loose, ∃ p ∈ ps, pathB p = true ∧ x.1 = dirOf p
theorem From.mono {ps qs : List By} {st : St} (h : From ps st) (hs : ∀ p ∈ ps, p ∈ qs) : From qs st := fun x hx =>
  let ⟨p, hp, h2⟩ := h x hx; ⟨p, hs p hp, h2⟩
theorem from_do {ps : List By} {st st1 : St} {er : Int} (h : From ps st) (h1 : er = 0 → From ps st1) : From ps (doSt st er st1) := by
  unfold doSt
  split
  · split
    · exact h1 (by assumption)
    · exact h
  · exact h
theorem rename_path {p q : By} {t : Tb} (h : renameErr p q t = 0) : pathB p = true := by
  unfold renameErr at h
  split at h
  · cases h
  · split at h
    · cases h
    · rename_i hp; simpa using hp
theorem there_path {p : By} {t : Tb} (h : thereErr p t = 0) : pathB p = true := by
  unfold thereErr at h
  split at h
  · cases h
  · rename_i hp; simpa using hp
theorem From.does {ps : List By} {st : St} (h : From ps st) (o : OpR) : From (ps ++ [o.path]) (doesSt o st) := by
  have h' : From (ps ++ [o.path]) st := h.mono fun p hp => List.mem_append_left _ hp
  have key : ∀ (a : Act), pathB o.path = true → ∀ x ∈ st.loose ++ [(dirOf o.path, a)], ∃ p ∈ ps ++ [o.path], pathB p = true ∧ x.1 = dirOf p := fun a hp x hx => by
    rcases List.mem_append.1 hx with hx | hx
    · exact h' x hx
    · simp at hx; subst hx; exact ⟨o.path, by simp, hp, rfl⟩
  unfold doesSt
  split
  · exact from_do h' fun e => key _ (write_zero e)
  · split
    · exact from_do h' fun e => key _ (rename_path e)
    · split
      · exact from_do h' fun e => key _ (there_path e)
      · split
        · exact from_do h' fun _ x hx => h' x (List.mem_filter.1 hx).1
        · exact h'
end Go.Proofs.YtccloieikkdcoaaGreatDoor
