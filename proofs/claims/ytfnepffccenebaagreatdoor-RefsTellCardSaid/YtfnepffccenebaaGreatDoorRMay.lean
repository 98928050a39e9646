/-
  mayBe: may an update be one, whatever there is?
-/
import Derived.Test.YtfnepffccenebaaGreatDoorRMem
namespace Go.Proofs.YtfnepffccenebaaGreatDoor.Rf
open Go.Proofs.YtfnepffccenebaaGreatDoor
open Go Go.RowKit

theorem idB_ne {s : Bs} (h : s ≠ []) : idB s = namedB s := by unfold idB; simp [h]
set_option maxHeartbeats 400000 in
theorem isId_p (s : Bs) (w : World) (hl : s.length ≤ maxLen) : Calls Tryz.prog 72 #[.string ⟨s.toArray⟩] w fun e w' => e = .returned (.bool (idB s)) ∧ w = w' := by
  by_cases h : s = []
  · subst h
    go_enter Tryz.func72, Tryz.ntmps72
    go_wp2_with fail
    go_ret
    exact ⟨rfl, rfl⟩
  · have HN := Lib.hid (Named_any s w hl)
    have HI := Lib.hid (idB_ne h)
    unfold SV at HN
    have h2 : s.isEmpty = false := by cases s with | nil => exact absurd rfl h | cons _ _ => rfl
    go_enter Tryz.func72, Tryz.ntmps72
    go_wp2_with fail
    refine HN.out.mono ?_
    rintro e w' ⟨rfl, rfl⟩
    go_wp2_with fail
    go_ret
    exact ⟨ret_bool HI.out.symm, rfl⟩
theorem mayB_eq (a b c : Bs) : mayB ⟨a, b, c⟩ = (nameB a && idB b && idB c && !(b == [] && c == [])) := rfl
set_option maxRecDepth 100000 in
set_option maxHeartbeats 1000000 in
theorem mayBe_p (x : Upd) (w : World) (h1 : x.name.length ≤ maxLen) (h2 : x.old.length ≤ maxLen) (h3 : x.new.length ≤ maxLen) :
    Calls Tryz.prog 55 #[.agg #[.string ⟨x.name.toArray⟩, .string ⟨x.old.toArray⟩, .string ⟨x.new.toArray⟩]] w (BoolB (mayB x) w) := by
  obtain ⟨a, b, c⟩ := x
  simp only at h1 h2 h3 ⊢
  obtain ⟨r, hr⟩ : ∃ r, r = mayB ⟨a, b, c⟩ := ⟨_, rfl⟩
  rw [← hr]
  rw [mayB_eq] at hr
  have hb1 := below_new w (.cells #[.string ⟨a.toArray⟩, .string ⟨b.toArray⟩, .string ⟨c.toArray⟩] 43)
  have HA := fun W => Lib.hid (Named_p a W h1)
  have HB := fun W => Lib.hid (isId_p b W h2)
  have HC := fun W => Lib.hid (isId_p c W h3)
  unfold SV at HA
  have HB1 := Lib.hid hb1
  clear hb1 h1 h2 h3
  cases e1 : nameB a with
  | false =>
    rw [e1] at HA
    have HR : Hid (r = false) := Lib.hid (by rw [hr, e1]; rfl)
    clear hr e1
    go_enter Tryz.func55, Tryz.ntmps55
    go_wp2_with fail
    refine (HA _).out.mono ?_
    rintro e w2 ⟨rfl, hb⟩
    have HB2 := Lib.hid hb
    clear hb
    go_wp2_with fail
    go_ret
    exact ⟨ret_bool HR.out.symm, HB1.out.trans (HB2.out.mono HB1.out.size)⟩
  | true =>
  rw [e1] at HA
  cases e2 : idB b with
  | false =>
    rw [e2] at HB
    have HR : Hid (r = false) := Lib.hid (by rw [hr, e1, e2]; rfl)
    clear hr e1 e2
    go_enter Tryz.func55, Tryz.ntmps55
    go_wp2_with fail
    refine (HA _).out.mono ?_
    rintro e w2 ⟨rfl, hb⟩
    have d1 : w2.cell? ⟨w.heap.size, 1, none⟩ = some (.string ⟨b.toArray⟩) := (hb.cell (p := ⟨w.heap.size, 1, none⟩) (by simp)).trans (by simp)
    have HB2 := Lib.hid hb
    clear hb
    go_wp2_with fail
    refine (HB _).out.mono ?_
    rintro e w3 ⟨rfl, rfl⟩
    go_wp2_with fail
    go_ret
    exact ⟨ret_bool HR.out.symm, HB1.out.trans (HB2.out.mono HB1.out.size)⟩
  | true =>
  rw [e2] at HB
  cases e3 : idB c with
  | false =>
    rw [e3] at HC
    have HR : Hid (r = false) := Lib.hid (by rw [hr, e1, e2, e3]; rfl)
    clear hr e1 e2 e3
    go_enter Tryz.func55, Tryz.ntmps55
    go_wp2_with fail
    refine (HA _).out.mono ?_
    rintro e w2 ⟨rfl, hb⟩
    have d1 : w2.cell? ⟨w.heap.size, 1, none⟩ = some (.string ⟨b.toArray⟩) := (hb.cell (p := ⟨w.heap.size, 1, none⟩) (by simp)).trans (by simp)
    have d2 : w2.cell? ⟨w.heap.size, 2, none⟩ = some (.string ⟨c.toArray⟩) := (hb.cell (p := ⟨w.heap.size, 2, none⟩) (by simp)).trans (by simp)
    have HB2 := Lib.hid hb
    clear hb
    go_wp2_with fail
    refine (HB _).out.mono ?_
    rintro e w3 ⟨rfl, rfl⟩
    go_wp2_with fail
    refine (HC _).out.mono ?_
    rintro e w3 ⟨rfl, rfl⟩
    go_wp2_with fail
    go_ret
    exact ⟨ret_bool HR.out.symm, HB1.out.trans (HB2.out.mono HB1.out.size)⟩
  | true =>
  rw [e3] at HC
  have HR : Hid (r = !(b == [] && c == [])) := Lib.hid (by rw [hr, e1, e2, e3]; rfl)
  clear hr e1 e2 e3
  go_enter Tryz.func55, Tryz.ntmps55
  go_wp2_with fail
  refine (HA _).out.mono ?_
  rintro e w2 ⟨rfl, hb⟩
  have d1 : w2.cell? ⟨w.heap.size, 1, none⟩ = some (.string ⟨b.toArray⟩) := (hb.cell (p := ⟨w.heap.size, 1, none⟩) (by simp)).trans (by simp)
  have d2 : w2.cell? ⟨w.heap.size, 2, none⟩ = some (.string ⟨c.toArray⟩) := (hb.cell (p := ⟨w.heap.size, 2, none⟩) (by simp)).trans (by simp)
  have HB2 := Lib.hid hb
  clear hb
  go_wp2_with fail
  refine (HB _).out.mono ?_
  rintro e w3 ⟨rfl, rfl⟩
  go_wp2_with fail
  refine (HC _).out.mono ?_
  rintro e w3 ⟨rfl, rfl⟩
  have hx : Below w.heap.size w w2 := HB1.out.trans (HB2.out.mono HB1.out.size)
  have HX := Lib.hid hx
  clear hx
  cases b with
  | nil =>
    cases c with
    | nil =>
      go_wp2_with fail
      go_ret
      exact ⟨ret_bool HR.out.symm, HX.out⟩
    | cons c0 c1 =>
      go_wp2_with fail
      go_ret
      exact ⟨ret_bool HR.out.symm, HX.out⟩
  | cons b0 b1 =>
    go_wp2_with fail
    go_ret
    exact ⟨ret_bool HR.out.symm, HX.out⟩
end Go.Proofs.YtfnepffccenebaaGreatDoor.Rf
