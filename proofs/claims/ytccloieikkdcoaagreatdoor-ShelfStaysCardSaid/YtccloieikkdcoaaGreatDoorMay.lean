/-
  mayWrite, there: whether a path may be written, whether it is there.
-/
import Derived.Test.YtccloieikkdcoaaGreatDoorSize
import Derived.Deep.RegionHeld3
namespace Go.Proofs.YtccloieikkdcoaaGreatDoor
open Go Go.RowKit Go.Maps

theorem zeroBytes (w : World) : (zeroValue 31).run Tryz.prog w = .ok (.slice none 0 0) w := by kernel_rfl

/-- 'v, ok := m[p]'. -/
theorem TabIn.look {w : World} {base m : Nat} {t : Tb} (h : TabIn w base m t) (p : By) (hp : p.length ≤ maxLen) :
    (tget p t = none ∧ (Instr.lookup 60 (.map (some m)) (.string ⟨p.toArray⟩) true).run Tryz.prog w = .ok (.tuple #[.slice none 0 0, .bool false]) w) ∨
    (∃ b a c, tget p t = some b ∧ RowIn w base (.slice a b.length c) b ∧ (Instr.lookup 60 (.map (some m)) (.string ⟨p.toArray⟩) true).run Tryz.prog w = .ok (.tuple #[.slice a b.length c, .bool true]) w) := by
  obtain ⟨_, hr, es, hown, he⟩ := h
  obtain ⟨v, ps, hrun, hv⟩ := hown.look_ok law9 Tryz.underlying60 (zeroBytes w) (zd := .held (.slice none 0 0)) (zp := []) rfl (keyOf_S hp)
  rcases tab_at he p (.held (.slice none 0 0)) with ⟨h1, h2, h3⟩ | ⟨b, v', h1, h2, h3, h4⟩
  · refine .inl ⟨h1, ?_⟩
    rw [h2] at hrun
    rw [h3] at hv
    obtain ⟨⟨a, n, c, rfl⟩, e⟩ := heldR_inv hv
    cases e
    exact hrun
  · rw [h2] at hrun
    rw [h3] at hv
    obtain ⟨⟨a, n, c, rfl⟩, e⟩ := heldR_inv hv
    cases e
    obtain ⟨a', c', e⟩ := h4.shape
    cases e
    exact .inr ⟨b, _, _, h1, h4, hrun⟩

theorem TabIn.len {w : World} {base m : Nat} {t : Tb} (h : TabIn w base m t) (ty : TypeId) : (Builtin.len_ #[60] ty #[.map (some m)]).run Tryz.prog w = .ok (.int .i64 (t.length : Int)) w := by
  obtain ⟨_, hr, es, hown, he⟩ := h
  have := hown.len Tryz.underlying60 ty
  rw [this, ← he.length]; rfl

/-- What tells whether an act may be done: its directory, or an error. -/
def MayPost (p : By) (er : Int) (w : World) (e : Ending) (w' : World) : Prop :=
  Below w.heap.size w w' ∧ ((er = 0 ∧ e = .returned (.tuple #[S (dirOf p), .nilIface])) ∨ (er ≠ 0 ∧ ∃ ev, e = .returned (.tuple #[S [], ev]) ∧ FaultIn w' ev er))

/-- A directory that is told, or an error, as two contracts. -/
theorem dir_yes {p : By} (w : World) (hp : p.length ≤ maxLen) (h : pathB p = true) : Calls Tryz.prog 36 #[S p] w fun e w' => e = .returned (.tuple #[S (dirOf p), .nilIface]) ∧ Below w.heap.size w w' :=
  (directory_any p w hp).mono fun e w' hd => by
    obtain ⟨h1, h2 | h2⟩ := hd
    · exact ⟨h2.2, h1⟩
    · rw [h] at h2; cases h2.1
theorem dir_no {p : By} (w : World) (hp : p.length ≤ maxLen) (h : pathB p = false) : Calls Tryz.prog 36 #[S p] w fun e w' => ∃ a, e = .returned (.tuple #[S [], .iface 89 (.pointer (some ⟨a, 0, none⟩))]) ∧ FaultIn w' (.iface 89 (.pointer (some ⟨a, 0, none⟩))) 1 ∧ Below w.heap.size w w' :=
  (directory_any p w hp).mono fun e w' hd => by
    obtain ⟨h1, h2 | h2⟩ := hd
    · rw [h] at h2; cases h2.1
    · obtain ⟨_, ev, h3, a, x, rfl, h4⟩ := h2
      exact ⟨a, h3, ⟨a, x, rfl, h4⟩, h1⟩

def thereErr (p : By) (t : Tb) : Int := if pathB p = false then 1 else if tget p t = none then 12 else 0

set_option maxHeartbeats 2000000 in
set_option maxRecDepth 100000 in
theorem there_any {w : World} {base s f y : Nat} {lv : Value} {st : St} (h : Ok w base s f y lv st) (p : By) (hp : p.length ≤ maxLen) :
    Calls Tryz.prog 54 #[.pointer (some ⟨s, 0, none⟩), S p] w (MayPost p (thereErr p st.files) w) := by
  cases hb : pathB p
  · have hd := dir_no w hp hb
    have he : thereErr p st.files = 1 := by unfold thereErr; rw [if_pos hb]
    have He := Lib.hid he
    clear hb he h
    have Hd := Lib.hid hd; clear hd
    unfold S at Hd
    unfold S
    go_enter Tryz.func54, Tryz.ntmps54
    go_wp2_with fail
    refine Hd.out.mono ?_
    rintro e w' ⟨a, rfl, hf, hB⟩
    have Hf := Lib.hid hf; clear hf
    go_wp2_with fail
    go_ret2
    exact ⟨hB, .inr ⟨by rw [He.out]; decide, _, rfl, by rw [He.out]; exact Hf.out⟩⟩
  · have hd := dir_yes w hp hb
    have he : thereErr p st.files = if tget p st.files = none then 12 else 0 := by unfold thereErr; rw [if_neg (by rw [hb]; simp)]
    have He := Lib.hid he
    clear hb he
    have Hd := Lib.hid hd; clear hd
    have Hk := Lib.hid h; clear h
    unfold S at Hd
    unfold S
    go_enter Tryz.func54, Tryz.ntmps54
    go_wp2_with fail
    refine Hd.out.mono ?_
    rintro e w' ⟨rfl, hB⟩
    have hk := Hk.out.keep hB
    have c0 := hk.c0
    rcases hk.files.look p hp with ⟨h1, hlook⟩ | ⟨b, a, c, h1, h2, hlook⟩
    · have H1 := Lib.hid h1; clear h1 hk
      go_wp2_with fail
      go_ret2
      refine ⟨?_, .inr ⟨by rw [He.out, if_pos H1.out]; decide, _, rfl, ?_⟩⟩
      · exact hB.trans ((below_alloc w' _).mono hB.size)
      · rw [He.out, if_pos H1.out]; exact ⟨_, _, rfl, heap_alloc_new w' _⟩
    · have H1 := Lib.hid h1; clear h1 hk h2
      go_wp2_with fail
      go_ret2
      exact ⟨hB, .inl ⟨by rw [He.out, if_neg (by rw [H1.out]; simp)], rfl⟩⟩
end Go.Proofs.YtccloieikkdcoaaGreatDoor
