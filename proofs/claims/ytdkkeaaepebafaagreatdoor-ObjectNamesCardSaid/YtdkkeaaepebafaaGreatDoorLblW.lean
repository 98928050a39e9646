/-
  labelWants, formWants, wants: what an object names.
-/
import Derived.Test.YtdkkeaaepebafaaGreatDoorLblR
import Derived.Test.YtdkkeaaepebafaaGreatDoorChgW
namespace Go.Proofs.YtdkkeaaepebafaaGreatDoor
open Go Go.RowKit Go.Shelf

set_option maxRecDepth 100000 in
set_option maxHeartbeats 2000000 in
theorem labelWants_any (s : List UInt8) (hs : s.length ≤ 100000) (w : World) (he : Er w) :
    Calls Tryz.prog 86 #[.string ⟨s.toArray⟩] w (WtPost ((getL4 s).map wantL) w) := by
  have HT := Lib.hid (readLabel_any s hs w he)
  clear he hs
  go_enter Tryz.func86, Tryz.ntmps86
  go_wp2_with fail
  refine HT.out.mono ?_
  rintro e w1 ⟨l1, l, h⟩
  have hfin : ∃ ev, e = .returned (.tuple #[LblV l, ev]) ∧ ∀ A n c w2, WantsR w2 (.slice A n c) (wantL l) → Below w.heap.size w w2 → WtPost ((getL4 s).map wantL) w (.returned (.tuple #[.slice A n c, ev])) w2 := by
    rcases h with ⟨h1, rfl⟩ | ⟨h1, p, rfl⟩
    · exact ⟨_, rfl, fun A n c w2 h2 h3 => ⟨.inl ⟨_, _, by rw [h1]; rfl, rfl, h2, by simp [wantL]⟩, h3⟩⟩
    · exact ⟨_, rfl, fun A n c w2 h2 h3 => ⟨.inr ⟨by rw [h1]; rfl, A, n, c, p, rfl⟩, h3⟩⟩
  obtain ⟨ev, rfl, hout⟩ := hfin
  obtain ⟨di, kv, nm, tx⟩ := l
  have hst := own_lit (w1.alloc (.cells #[.string ⟨di.toArray⟩, .int .i64 kv, .string ⟨nm.toArray⟩, .string ⟨tx.toArray⟩] 42)) (di, kv) w1.heap.size (by simp)
  have hbs := ((below_new w1 (.cells #[.string ⟨di.toArray⟩, .int .i64 kv, .string ⟨nm.toArray⟩, .string ⟨tx.toArray⟩] 42))).alloc (by simp) (.cells #[SV di, .int .i64 kv] 58)
  have hf := hout _ _ _ _ (hst.rd wantV_len) (l1.trans (hbs.mono l1.size))
  have hz : (w1.alloc (.cells #[.string ⟨di.toArray⟩, .int .i64 kv, .string ⟨nm.toArray⟩, .string ⟨tx.toArray⟩] 42)).heap.size = w1.heap.size + 1 := by simp
  rw [hz] at hf
  have HF := Lib.hid hf
  unfold LblV
  simp only
  clear h l1 hout hst hbs hz hf
  go_wp2_with fail
  go_ret2
  exact HF.out

/-- What an object may be that is no blob. -/
def formO (k : Int) (d : List UInt8) : Option (List (List UInt8 × Int)) :=
  if k = 2 then (getT d).map fun l => l.map wantI else if k = 3 then (getC d).map wantC else (getL4 d).map wantL
def ObjV (k : Int) (d : List UInt8) : Value := .agg #[.int .i64 k, .string ⟨d.toArray⟩]
set_option maxRecDepth 100000 in
set_option maxHeartbeats 2000000 in
theorem formWants_any (k : Int) (d : List UInt8) (hs : d.length ≤ 100000) (w : World) (he : Eb w) (ht : Tb w) :
    Calls Tryz.prog 59 #[ObjV k d] w (WtPost (formO k d) w) := by
  have B0 := below_new w (.cells #[.int .i64 k, .string ⟨d.toArray⟩] 23)
  have hw : ∀ o e w', WtPost o (w.alloc (.cells #[.int .i64 k, .string ⟨d.toArray⟩] 23)) e w' → (∃ a b, e = .returned (.tuple #[a, b])) ∧ WtPost o w e w' := by
    rintro o e w' ⟨h1, h2⟩
    refine ⟨?_, h1, B0.trans (h2.mono B0.size)⟩
    rcases h1 with ⟨v, l, _, rfl, _⟩ | ⟨_, A, n, c, p, rfl⟩ <;> exact ⟨_, _, rfl⟩
  have HW := Lib.hid hw
  have H2 := Lib.hid (treeWants_any d (by omega) _ (he.below B0).er (ht.below B0))
  have H3 := Lib.hid (changeWants_any d hs _ (he.below B0))
  have H4 := Lib.hid (labelWants_any d hs _ (he.below B0).er)
  unfold ObjV
  clear he ht hs B0 hw
  by_cases h2 : k = 2
  · subst h2
    have HQ : Hid (formO 2 d = (getT d).map fun l => l.map wantI) := Lib.hid rfl
    go_enter Tryz.func59, Tryz.ntmps59
    go_wp2_with fail
    refine H2.out.mono ?_
    intro e w1 h
    obtain ⟨⟨a, b, rfl⟩, h1⟩ := HW.out _ _ _ h
    have H1 := Lib.hid h1
    clear h h1
    go_wp2_with fail
    go_ret2
    rw [HQ.out]; exact H1.out
  by_cases h3 : k = 3
  · subst h3
    have HQ : Hid (formO 3 d = (getC d).map wantC) := Lib.hid rfl
    clear h2
    go_enter Tryz.func59, Tryz.ntmps59
    go_wp2_with fail
    refine H3.out.mono ?_
    intro e w1 h
    obtain ⟨⟨a, b, rfl⟩, h1⟩ := HW.out _ _ _ h
    have H1 := Lib.hid h1
    clear h h1
    go_wp2_with fail
    go_ret2
    rw [HQ.out]; exact H1.out
  · have HQ : Hid (formO k d = (getL4 d).map wantL) := Lib.hid (by unfold formO; rw [if_neg h2, if_neg h3])
    go_enter Tryz.func59, Tryz.ntmps59
    go_wp2_with fail
    refine H4.out.mono ?_
    intro e w1 h
    obtain ⟨⟨a, b, rfl⟩, h1⟩ := HW.out _ _ _ h
    have H1 := Lib.hid h1
    clear h h1
    go_wp2_with fail
    go_ret2
    rw [HQ.out]; exact H1.out
end Go.Proofs.YtdkkeaaepebafaaGreatDoor
