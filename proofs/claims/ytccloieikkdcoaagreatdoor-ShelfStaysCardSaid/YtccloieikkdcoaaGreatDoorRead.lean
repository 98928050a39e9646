/-
  Read; the document's Find.
-/
import Derived.Test.YtccloieikkdcoaaGreatDoorRefDir
import Derived.Test.YtccloieikkdcoaaGreatDoorDoesM
import Derived.Laws.IdiomStrings
namespace Go.Proofs.YtccloieikkdcoaaGreatDoor
open Go Go.RowKit Go.Maps Go.Shelf Go.Deep

/-- 'm[p]'. -/
theorem TabIn.get {w : World} {base m : Nat} {t : Tb} (h : TabIn w base m t) {p b : By} (hp : p.length ≤ maxLen) (hb : tget p t = some b) :
    ∃ a c, RowIn w base (.slice a b.length c) b ∧ (Instr.lookup 60 (.map (some m)) (.string ⟨p.toArray⟩) false).run Tryz.prog w = .ok (.slice a b.length c) w := by
  obtain ⟨_, hr, es, hown, he⟩ := h
  obtain ⟨v, ps, hrun, hv⟩ := hown.lookup law9 Tryz.underlying60 (zeroBytes w) (zd := .held (.slice none 0 0)) (zp := []) rfl (keyOf_S hp)
  rcases tab_at he p (.held (.slice none 0 0)) with ⟨h1, _, _⟩ | ⟨b', v', h1, h2, h3, h4⟩
  · rw [hb] at h1; cases h1
  · rw [hb] at h1
    cases h1
    rw [h3] at hv
    obtain ⟨⟨a, n, c, rfl⟩, e⟩ := heldR_inv hv
    cases e
    obtain ⟨a', c', e⟩ := h4.shape
    cases e
    exact ⟨_, _, h4, hrun⟩

def readErr (p : By) (st : St) : Int := if st.down = true then 13 else thereErr p st.files
def ReadPost (p : By) (st : St) (w : World) (e : Ending) (w' : World) : Prop :=
  Below w.heap.size w w' ∧ ((∃ b a c, tget p st.files = some b ∧ readErr p st = 0 ∧ e = .returned (.tuple #[.slice a b.length c, .int .i64 0]) ∧ RowIn w' w.heap.size (.slice a b.length c) b) ∨
    (readErr p st ≠ 0 ∧ e = .returned (.tuple #[.slice none 0 0, .int .i64 (readErr p st)])))

set_option maxHeartbeats 2000000 in
set_option maxRecDepth 100000 in
theorem Read_any {w : World} {base s f y k0 : Nat} {lv : Value} {st : St} (h : Ok w base s f y lv st) (hbd : Bd st k0) (het : Et w) (hg : 0 < base) {p : By} (hp : p.length ≤ maxLen) :
    Calls Tryz.prog 19 #[.pointer (some ⟨s, 0, none⟩), S p] w (ReadPost p st w) := by
  have c6 := h.c6
  cases hd : st.down with
  | true =>
    have he : readErr p st = 13 := by unfold readErr; rw [hd]; rfl
    rw [hd] at c6
    have He := Lib.hid he
    clear hd he h
    unfold S
    go_enter Tryz.func19, Tryz.ntmps19
    go_wp2
    go_ret2
    exact ⟨Below.refl _ _, .inr ⟨by rw [He.out]; decide, by rw [He.out]; rfl⟩⟩
  | false =>
    have he : readErr p st = thereErr p st.files := by unfold readErr; rw [hd]; rfl
    rw [hd] at c6
    have He := Lib.hid he
    have Ht := Lib.hid (there_any h p hp)
    have Hk := Lib.hid h
    have Het := Lib.hid het
    have hbs := h.base_le
    clear hd he h het
    unfold S at Ht
    unfold S
    go_enter Tryz.func19, Tryz.ntmps19
    go_wp2_with fail
    refine Ht.out.mono ?_
    rintro e w1 ⟨hB, ⟨h0, rfl⟩ | ⟨h0, ev, rfl, hf⟩⟩
    · obtain ⟨b, hb⟩ : ∃ b, tget p st.files = some b := by
        unfold thereErr at h0
        split at h0
        · cases h0
        · split at h0
          · cases h0
          · rename_i h; exact Option.ne_none_iff_exists'.1 h
      have hk1 := Hk.out.keep hB
      obtain ⟨a, c, hrow, hlook⟩ := hk1.files.get hp hb
      have c0 := hk1.c0
      have hbl : b.length ≤ 262144 := hbd.small (p, b) (tget_mem' hb)
      have Hcl := Lib.hid (clone_any hrow.bytes (by omega))
      have HB := Lib.hid hB; have Hb := Lib.hid hb; have H0 := Lib.hid h0
      clear hB hb h0 hk1 hrow c6
      go_wp2_with fail
      refine Hcl.out.mono ?_
      rintro e w2 ⟨v2, rfl, hr2, hB2⟩
      obtain ⟨a2, c2, rfl⟩ := hr2.shape
      have Hr2 := Lib.hid hr2; have HB2 := Lib.hid hB2
      clear hr2 hB2 hlook c0
      go_wp2
      go_ret2
      exact ⟨below_two HB.out HB2.out, .inl ⟨b, a2, c2, Hb.out, by rw [He.out]; exact H0.out, rfl, Hr2.out.mono HB.out.size⟩⟩
    · have Hto := Lib.hid (told_fault ev _ w1 hf (Het.out.keep (K.of_new hB hbs) hg))
      obtain ⟨a, x, rfl, _⟩ := hf
      have HB := Lib.hid hB; have H0 := Lib.hid h0
      clear hB h0 c6
      go_wp2_with fail
      refine Hto.out.mono ?_
      rintro e w2 ⟨rfl, hB2⟩
      have HB2 := Lib.hid hB2
      clear hB2
      go_wp2
      go_ret2
      exact ⟨below_two HB.out HB2.out, .inr ⟨by rw [He.out]; exact H0.out, by rw [He.out]; rfl⟩⟩

/-- A file's place; -1: it is not there. -/
def findI (t : Tb) (p : By) : Int := match t.findIdx? (fun q => q.1 == p) with | some i => (i : Int) | none => -1
theorem findI_at {t : Tb} {p : By} {k : Nat} {q : By × By} (h0 : ∀ i x, i < k → t[i]? = some x → (x.1 == p) = false) (hk : t[k]? = some q) (hq : (q.1 == p) = true) : findI t p = (k : Int) := by
  unfold findI
  have hlt : k < t.length := (List.getElem?_eq_some_iff.1 hk).1
  have : t.findIdx? (fun q => q.1 == p) = some k := by
    rw [List.findIdx?_eq_some_iff_getElem]
    have e : t[k] = q := (List.getElem?_eq_some_iff.1 hk).2
    exact ⟨hlt, by rw [e]; exact hq, fun j hj => by rw [h0 j _ hj (List.getElem?_eq_getElem (by omega))]; decide⟩
  rw [this]
theorem findI_none {t : Tb} {p : By} (h0 : ∀ i x, i < t.length → t[i]? = some x → (x.1 == p) = false) : findI t p = -1 := by
  unfold findI
  have : t.findIdx? (fun q => q.1 == p) = none := by
    rw [List.findIdx?_eq_none_iff]
    intro x hx
    obtain ⟨i, hi, e⟩ := List.getElem_of_mem hx
    exact h0 i x hi (by rw [List.getElem?_eq_getElem hi, e])
  rw [this]
/-- A path that is there has its place. -/
theorem findI_get {t : Tb} {p b : By} (h : tget p t = some b) : ∃ k : Nat, findI t p = (k : Int) ∧ t[k]? = some (p, b) := by
  unfold tget at h
  obtain ⟨q, h1, h2⟩ := Option.map_eq_some_iff.1 h
  unfold findI
  rw [List.find?_eq_some_iff_getElem] at h1
  obtain ⟨hq, i, hi, e, hj⟩ := h1
  have hf : t.findIdx? (fun q => q.1 == p) = some i := by
    rw [List.findIdx?_eq_some_iff_getElem]
    exact ⟨hi, by rw [e]; exact hq, fun j hj' => by simpa using hj j hj'⟩
  rw [hf]
  refine ⟨i, rfl, ?_⟩
  rw [List.getElem?_eq_getElem hi, e]
  have : q.1 = p := by simpa using hq
  rw [← this, ← h2]

set_option maxHeartbeats 2000000 in
set_option maxRecDepth 100000 in
theorem Find_any {w : World} {v : Value} {t : Tb} (h : FilesV w v t) (hl : t.length ≤ 1000000) (p : By) : Calls Tryz.prog 41 #[v, S p] w fun e w' => e = .returned (.int .i64 (findI t p)) ∧ w = w' := by
  obtain ⟨x, c, rfl, hx⟩ := h
  have Hx := Lib.hid hx
  clear hx
  unfold S
  go_enter Tryz.func41, Tryz.ntmps41
  go_wp2_with fail
  go_loop [5] (fun i => ∃ k : Nat, k ≤ t.length ∧ i = .int .i64 k ∧ Hid (∀ i x, i < k → t[i]? = some x → (x.1 == p) = false)) (fun i => t.length - (intOf i).toNat)
  case atStart => exact ⟨0, Nat.zero_le _, rfl, Lib.hid fun i x h => absurd h (Nat.not_lt_zero _)⟩
  case round =>
    obtain ⟨k, hk, rfl, hno⟩ := hrel
    by_cases hlt : k < t.length
    · obtain ⟨q, hq⟩ : ∃ q, t[k]? = some q := ⟨_, List.getElem?_eq_getElem hlt⟩
      obtain ⟨b, off, rfl, bvv, h0, _, _⟩ := Hx.out k q hq
      unfold S at h0
      have Hq := Lib.hid hq
      clear hq
      cases he : (q.1 == p) with
      | true =>
        have F := Lib.hid (findI_at hno.out Hq.out he)
        clear hno
        go_wp2
        go_ret
        exact ⟨by rw [F.out]; rfl, rfl⟩
      | false =>
        have hno2 : Hid (∀ i x, i < k + 1 → t[i]? = some x → (x.1 == p) = false) := Lib.hid fun i x hi hix => by
          rcases Nat.lt_or_ge i k with h | h
          · exact hno.out i x h hix
          · obtain rfl : i = k := by omega
            rw [Hq.out] at hix
            cases hix
            exact he
        clear hno
        go_wp2
        go_round
        case rel => exact ⟨k + 1, by omega, by go_num, hno2⟩
        case measure => simp [intOf]; omega
    · have F := Lib.hid (findI_none (t := t) (p := p) fun i x hi hix => hno.out i x (by omega) hix)
      clear hno
      go_wp2
      go_ret
      exact ⟨by rw [F.out]; rfl, rfl⟩
end Go.Proofs.YtccloieikkdcoaaGreatDoor
