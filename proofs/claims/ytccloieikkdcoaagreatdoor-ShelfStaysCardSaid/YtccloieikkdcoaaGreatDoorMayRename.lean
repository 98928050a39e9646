/-
  mayRename: the directory of two paths, or an error.
-/
import Derived.Test.YtccloieikkdcoaaGreatDoorMay
namespace Go.Proofs.YtccloieikkdcoaaGreatDoor
open Go Go.RowKit Go.Maps

def renameErr (p q : By) (t : Tb) : Int :=
  if pathB q = false then 1 else if pathB p = false then 1 else if (dirOf p == dirOf q) = false then 1 else if tget p t = none then 12 else 0

theorem below_two {w w' w'' : World} (h : Below w.heap.size w w') (k : Below w'.heap.size w' w'') : Below w.heap.size w w'' := h.trans (k.mono h.size)

set_option maxHeartbeats 4000000 in
set_option maxRecDepth 100000 in
theorem mayRename_any {w : World} {base s f y : Nat} {lv : Value} {st : St} (h : Ok w base s f y lv st) (p q : By) (hp : p.length ≤ maxLen) (hq : q.length ≤ maxLen) :
    Calls Tryz.prog 51 #[.pointer (some ⟨s, 0, none⟩), S p, S q] w (MayPost p (renameErr p q st.files) w) := by
  cases hqb : pathB q
  · have hd := dir_no w hq hqb
    have He : Hid (renameErr p q st.files = 1) := by show renameErr p q st.files = 1; unfold renameErr; rw [if_pos hqb]
    clear hqb h
    have Hd := Lib.hid hd; clear hd
    unfold S at Hd
    unfold S
    go_enter Tryz.func51, Tryz.ntmps51
    go_wp2_with fail
    refine Hd.out.mono ?_
    rintro e w' ⟨a, rfl, hf, hB⟩
    have Hf := Lib.hid hf; clear hf
    go_wp2_with fail
    go_ret2
    exact ⟨hB, .inr ⟨by rw [He.out]; decide, _, rfl, by rw [He.out]; exact Hf.out⟩⟩
  · cases hpb : pathB p
    · have hd := dir_yes w hq hqb
      have hd2 := fun w => dir_no (p := p) w hp hpb
      have He : Hid (renameErr p q st.files = 1) := by show renameErr p q st.files = 1; unfold renameErr; rw [if_neg (by rw [hqb]; simp), if_pos hpb]
      clear hqb hpb h
      have Hd := Lib.hid hd; have Hd2 := Lib.hid hd2; clear hd hd2
      unfold S at Hd Hd2
      unfold S
      go_enter Tryz.func51, Tryz.ntmps51
      go_wp2_with fail
      refine Hd.out.mono ?_
      rintro e w' ⟨rfl, hB⟩
      go_wp2_with fail
      refine (Hd2.out _).mono ?_
      rintro e w'' ⟨a, rfl, hf, hB2⟩
      have Hf := Lib.hid hf; clear hf
      go_wp2_with fail
      go_ret2
      exact ⟨below_two hB hB2, .inr ⟨by rw [He.out]; decide, _, rfl, by rw [He.out]; exact Hf.out⟩⟩
    · have hd := dir_yes w hq hqb
      have hd2 := fun w => dir_yes (p := p) w hp hpb
      cases he : (dirOf p == dirOf q)
      · have He : Hid (renameErr p q st.files = 1) := by show renameErr p q st.files = 1; unfold renameErr; rw [if_neg (by rw [hqb]; simp), if_neg (by rw [hpb]; simp), if_pos he]
        have hne : (dirOf p != dirOf q) = true := by simpa using he
        clear hqb hpb h
        have Hd := Lib.hid hd; have Hd2 := Lib.hid hd2; clear hd hd2
        unfold S at Hd Hd2
        unfold S
        go_enter Tryz.func51, Tryz.ntmps51
        go_wp2_with fail
        refine Hd.out.mono ?_
        rintro e w' ⟨rfl, hB⟩
        go_wp2_with fail
        refine (Hd2.out _).mono ?_
        rintro e w'' ⟨rfl, hB2⟩
        go_wp2_with fail
        go_ret2
        exact ⟨(below_two hB hB2).trans ((below_alloc _ _).mono (below_two hB hB2).size), .inr ⟨by rw [He.out]; decide, _, rfl, by rw [He.out]; exact ⟨_, _, rfl, heap_alloc_new _ _⟩⟩⟩
      · have hne : (dirOf p != dirOf q) = false := by simpa using he
        have hth := fun (w1 : World) (k : Below w.heap.size w w1) => there_any (h.keep k) p hp
        have He : Hid (renameErr p q st.files = thereErr p st.files) := by
          show renameErr p q st.files = thereErr p st.files
          unfold renameErr thereErr; simp only [hqb, hpb, he]; rfl
        clear hqb hpb h
        have Hd := Lib.hid hd; have Hd2 := Lib.hid hd2; have Ht := Lib.hid hth; clear hd hd2 hth
        unfold S at Hd Hd2 Ht
        unfold S
        go_enter Tryz.func51, Tryz.ntmps51
        go_wp2_with fail
        refine Hd.out.mono ?_
        rintro e w' ⟨rfl, hB⟩
        go_wp2_with fail
        refine (Hd2.out _).mono ?_
        rintro e w'' ⟨rfl, hB2⟩
        go_wp2_with fail
        refine (Ht.out _ (below_two hB hB2)).mono ?_
        rintro e w3 ⟨hB3, ⟨h0, rfl⟩ | ⟨h0, ev, rfl, hf⟩⟩
        · have H0 := Lib.hid h0; clear h0
          go_wp2_with fail
          go_ret2
          exact ⟨below_two (below_two hB hB2) hB3, .inl ⟨by rw [He.out]; exact H0.out, rfl⟩⟩
        · have H0 := Lib.hid h0; clear h0
          have Hf := Lib.hid hf; clear hf
          go_wp2_with fail
          go_ret2
          exact ⟨below_two (below_two hB hB2) hB3, .inr ⟨by rw [He.out]; exact H0.out, _, rfl, by rw [He.out]; exact Hf.out⟩⟩
end Go.Proofs.YtccloieikkdcoaaGreatDoor
