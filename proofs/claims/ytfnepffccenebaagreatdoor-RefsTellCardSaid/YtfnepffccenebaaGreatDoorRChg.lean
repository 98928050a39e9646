/-
  change: all updates done in a map, or the error and the place of the update that has it.
-/
import Derived.Test.YtfnepffccenebaaGreatDoorRSrt
import Derived.Test.YtfnepffccenebaaGreatDoorRMay
namespace Go.Proofs.YtfnepffccenebaaGreatDoor.Rf
open Go.Proofs.YtfnepffccenebaaGreatDoor
open Go Go.RowKit Go.Maps

/-! ### How often a name came -/
def cntF (u : List Upd) (k : Nat) (x : Bs) : Option Value := if (u.take k).any (fun y => y.name == x) then some (.int .i64 (((u.take k).countP fun y => y.name == x : Nat) : Int)) else none
theorem cnt_get (u : List Upd) (k : Nat) (x : Bs) : (cntF u k x).getD (.int .i64 0) = .int .i64 (((u.take k).countP fun y => y.name == x : Nat) : Int) := by
  unfold cntF
  cases h : (u.take k).any (fun y => y.name == x) with
  | true => rw [if_pos rfl]; rfl
  | false =>
    rw [if_neg (by simp)]
    have : (u.take k).countP (fun y => y.name == x) = 0 := List.countP_eq_zero.2 fun y hy => by
      have := List.any_eq_false.1 h y hy; simpa using this
    rw [this]; rfl
theorem cnt_put {u : List Upd} {k : Nat} {x : Upd} (hx : u[k]? = some x) : updF (cntF u k) x.name (.int .i64 ((((u.take k).countP fun y => y.name == x.name) + 1 : Nat) : Int)) = cntF u (k + 1) := by
  funext z
  unfold updF cntF
  rw [List.take_add_one, hx, Option.toList_some, List.any_append, List.countP_append]
  by_cases e : z = x.name
  · subst e
    simp
  · have e2 : (x.name == z) = false := by simpa using fun h => e h.symm
    simp [e, e2]
theorem cnt_two (u : List Upd) (k : Nat) (x : Bs) : decide (0 < (u.take k).countP fun y => y.name == x) = (u.take k).any fun y => y.name == x := by
  rw [Bool.eq_iff_iff, decide_eq_true_eq, List.countP_pos_iff, List.any_eq_true]
theorem bad_eq {u : List Upd} {k : Nat} {x : Upd} (hx : u[k]? = some x) : badI u k = (!mayB x || (u.take k).any fun y => y.name == x.name) := by
  have e : u.getD k noU = x := by rw [List.getD_eq_getElem?_getD, hx]; rfl
  unfold badI; rw [e]
theorem stale_eq {l : List Ref} {u : List Upd} {k : Nat} {x : Upd} (hx : u[k]? = some x) : staleI l u k = !(findL l x.name == x.old) := by
  have e : u.getD k noU = x := by rw [List.getD_eq_getElem?_getD, hx]; rfl
  unfold staleI; rw [e]
theorem clash_eq {l : List Ref} {u : List Upd} {k : Nat} {x : Upd} (hx : u[k]? = some x) : clashI l u k = (!(x.new == []) && fitB l x.name) := by
  have e : u.getD k noU = x := by rw [List.getD_eq_getElem?_getD, hx]; rfl
  unfold clashI; rw [e]; rfl
theorem mapTyI : Tryz.prog.underlying 79 = some (.map 9 3) := Tryz.underlying79
theorem intZ : ∀ w, (zeroValue 3).run Tryz.prog w = .ok (.int .i64 0) w := Tryz.zeroValue3
theorem refZ : ∀ w, (zeroValue 45).run Tryz.prog w = .ok (.agg #[.string ⟨#[]⟩, .string ⟨#[]⟩]) w := Tryz.zeroValue45
/-! ### The closures -/
def Chg1P (u : List Upd) (k : Nat) (tb mb n B : Nat) (w : World) (e : Ending) (w' : World) : Prop :=
  e = .returned (.bool (badI u k)) ∧ MapS w' mb (n + 1) (cntF u (k + 1)) ∧ w'.cell? ⟨tb, 0, none⟩ = some (.map (some mb)) ∧ Below B w w'
set_option maxRecDepth 100000 in
set_option maxHeartbeats 4000000 in
theorem Chg1_p (u : List Upd) (k : Nat) (x : Upd) (hx : u[k]? = some x) (hk : k ≤ 20) (tb mb n B : Nat) (w : World) (h1 : x.name.length ≤ maxLen) (h2 : x.old.length ≤ maxLen) (h3 : x.new.length ≤ maxLen) (hn : n ≤ 100)
    (ht : w.cell? ⟨tb, 0, none⟩ = some (.map (some mb))) (hM : MapS w mb n (cntF u k)) (hB : B ≤ mb) (htm : tb ≠ mb) (hBw : B ≤ w.heap.size) :
    Calls Tryz.prog 54 #[.agg #[.string ⟨x.name.toArray⟩, .string ⟨x.old.toArray⟩, .string ⟨x.new.toArray⟩], .pointer (some ⟨tb, 0, none⟩)] w (Chg1P u k tb mb n B w) := by
  have hb1 := below_al w (.cells #[.string ⟨x.name.toArray⟩, .string ⟨x.old.toArray⟩, .string ⟨x.new.toArray⟩] 43)
  have hM1 := hM.below hb1 hM.lt
  have ht1 := cell_al ht (.cells #[.string ⟨x.name.toArray⟩, .string ⟨x.old.toArray⟩, .string ⟨x.new.toArray⟩] 43)
  obtain ⟨c, hc⟩ : ∃ c, c = (u.take k).countP fun y => y.name == x.name := ⟨_, rfl⟩
  have hc20 : c ≤ 20 := by rw [hc]; exact Nat.le_trans (List.countP_le_length) (by rw [List.length_take]; omega)
  have hlook := hM1.look mapTyI (intZ _) h1
  rw [cnt_get, ← hc] at hlook
  have hput := hM1.put mapTyI (by unfold maxLen; omega) h1 (.int .i64 ((c + 1 : Nat) : Int))
  rw [hc, cnt_put hx, ← hc] at hput
  obtain ⟨w2, hrun, hM2, hg2⟩ := hput
  have hmlt := hM.lt
  have hbad := bad_eq hx
  have htwo := cnt_two u k x.name
  rw [← hc] at htwo
  obtain ⟨nm, od, nw⟩ := x
  simp only at h1 h2 h3 hlook hrun hb1 hM1 ht1 htwo hg2
  have hlook2 := hM2.look mapTyI (intZ _) h1
  have hcnt2 : (cntF u (k + 1) nm).getD (.int .i64 0) = .int .i64 ((c + 1 : Nat) : Int) := by
    rw [cnt_get, List.take_add_one, hx, Option.toList_some, List.countP_append, ← hc]; simp
  rw [hcnt2] at hlook2
  have htlt := World.block_lt_of_cell? _ _ ht1
  have htlt0 : tb < w.heap.size := World.block_lt_of_cell? _ _ ht
  have hkeep : ∀ b o, b < w.heap.size + 1 → b ≠ mb → w2.cell? ⟨b, o, none⟩ = (w.alloc (.cells #[.string ⟨nm.toArray⟩, .string ⟨od.toArray⟩, .string ⟨nw.toArray⟩] 43)).cell? ⟨b, o, none⟩ := fun b o hb hne =>
    World.cell?_of_block (w := w.alloc _) (hg2.block b (by simpa using hb) (fun e => hne (by cases e; rfl)))
  have t2 : w2.cell? ⟨tb, 0, none⟩ = some (.map (some mb)) := (hkeep tb 0 (by omega) htm).trans ht1
  have d0 : w2.cell? ⟨w.heap.size, 0, none⟩ = some (.string ⟨nm.toArray⟩) := (hkeep _ 0 (by omega) (by omega)).trans (by simp)
  have d1 : w2.cell? ⟨w.heap.size, 1, none⟩ = some (.string ⟨od.toArray⟩) := (hkeep _ 1 (by omega) (by omega)).trans (by simp)
  have d2 : w2.cell? ⟨w.heap.size, 2, none⟩ = some (.string ⟨nw.toArray⟩) := (hkeep _ 2 (by omega) (by omega)).trans (by simp)
  have l2 : Below B w w2 := (hb1.mono hBw).trans (grown_below' hg2 hB (by simp; omega))
  have HMay := Lib.hid (mayBe_p ⟨nm, od, nw⟩ w2 h1 h2 h3)
  have L2 := Lib.hid l2; have M2 := Lib.hid hM2; have T2 := Lib.hid t2
  obtain ⟨c1, hc1⟩ : ∃ c1, c1 = c + 1 := ⟨_, rfl⟩
  rw [← hc1] at hrun hlook2
  have hw1 : (c : Int) + 1 = (c1 : Int) := by omega
  have hc1b : c1 ≤ 100 := by omega
  have HC1 := Lib.hid hc1
  clear hc1
  obtain ⟨r, hr⟩ : ∃ r, r = badI u k := ⟨_, rfl⟩
  have HR : Hid (r = (!mayB ⟨nm, od, nw⟩ || decide (0 < c))) := Lib.hid (by rw [hr, hbad, htwo])
  have HP : Hid (∀ e w', e = .returned (.bool r) → Below w2.heap.size w2 w' → Chg1P u k tb mb n B w e w') := Lib.hid fun e w' he hb => by
    refine ⟨by rw [← hr]; exact he, M2.out.below hb M2.out.lt, ?_, L2.out.trans (hb.mono (Nat.le_trans hBw L2.out.size))⟩
    rw [hb.cell (p := ⟨tb, 0, none⟩) (World.block_lt_of_cell? _ _ T2.out)]; exact T2.out
  clear l2 hM2 hM1 hM hg2 hb1 hkeep hcnt2 htwo hbad hx ht hmlt htlt htlt0 hc hr h1 h2 h3
  by_cases hc0 : 0 < c
  · have hI : (1 : Int) < (c1 : Int) := by have := HC1.out; omega
    have hR : Hid (r = true) := Lib.hid (by rw [HR.out, decide_eq_true hc0]; simp)
    clear hc0
    go_enter Tryz.func54, Tryz.ntmps54
    go_wp2_with fail
    go_ret
    exact HP.out _ _ (ret_bool hR.out.symm) (Below.refl _ _)
  · have hI : ¬ (1 : Int) < (c1 : Int) := by have := HC1.out; omega
    have hR : Hid (r = !mayB ⟨nm, od, nw⟩) := Lib.hid (by rw [HR.out, decide_eq_false hc0]; simp)
    clear hc0
    go_enter Tryz.func54, Tryz.ntmps54
    go_wp2_with fail
    refine HMay.out.mono ?_
    rintro e w3 ⟨rfl, hb3⟩
    have HB3 := Lib.hid hb3
    clear hb3
    go_wp2_with fail
    go_ret
    exact HP.out _ _ (ret_bool hR.out.symm) HB3.out
theorem look_ref {l : List Ref} (hl : l.Pairwise fun a b => a.name < b.name) (x : Bs) : ∃ nm : Bs, (fOf l x).getD (.agg #[.string ⟨#[]⟩, .string ⟨#[]⟩]) = .agg #[.string ⟨nm.toArray⟩, .string ⟨(findL l x).toArray⟩] := by
  cases h : fOf l x with
  | none =>
    rw [findL_none (fOf_none.1 h)]
    exact ⟨[], rfl⟩
  | some v =>
    obtain ⟨r, hr, rfl, rfl⟩ := (fOf_some hl).1 h
    rw [findL_of_mem hl hr]
    exact ⟨r.name, rfl⟩
theorem fld_id (a b : Bs) (W : World) : (Instr.field 45 (.agg #[.string ⟨a.toArray⟩, .string ⟨b.toArray⟩]) 1).run Tryz.prog W = .ok (.string ⟨b.toArray⟩) W := by kernel_rfl
set_option maxRecDepth 100000 in
set_option maxHeartbeats 4000000 in
theorem Chg2_p (l : List Ref) (u : List Upd) (k : Nat) (x : Upd) (hx : u[k]? = some x) (cb b n : Nat) (w : World) (h1 : x.name.length ≤ maxLen) (hl : l.Pairwise fun a b => a.name < b.name)
    (ht : w.cell? ⟨cb, 0, none⟩ = some (.map (some b))) (hM : MapL w b n l) :
    Calls Tryz.prog 56 #[.agg #[.string ⟨x.name.toArray⟩, .string ⟨x.old.toArray⟩, .string ⟨x.new.toArray⟩], .pointer (some ⟨cb, 0, none⟩)] w (BoolB (staleI l u k) w) := by
  have hb1 := below_al w (.cells #[.string ⟨x.name.toArray⟩, .string ⟨x.old.toArray⟩, .string ⟨x.new.toArray⟩] 43)
  have hM1 := hM.below hb1 hM.lt
  have ht1 := cell_al ht (.cells #[.string ⟨x.name.toArray⟩, .string ⟨x.old.toArray⟩, .string ⟨x.new.toArray⟩] 43)
  have hlook := MapS.look hM1 mapTy (refZ _) h1
  obtain ⟨n1, hn1⟩ := look_ref hl x.name
  rw [hn1] at hlook
  have hst := stale_eq (l := l) hx
  have hfld := fun a b W => fld_id a b W
  obtain ⟨f, hf⟩ : ∃ f, f = findL l x.name := ⟨_, rfl⟩
  rw [← hf] at hlook hst
  obtain ⟨nm, od, nw⟩ := x
  simp only at hlook ht1 hst
  obtain ⟨r, hr⟩ : ∃ r, r = staleI l u k := ⟨_, rfl⟩
  rw [← hr] at hst ⊢
  have HB1 := Lib.hid hb1
  clear hb1 hM1 ht hM hn1 hf hr hx h1
  by_cases e : od = f
  · subst e
    have HR : Hid (r = false) := Lib.hid (by rw [hst]; simp)
    clear hst
    go_enter Tryz.func56, Tryz.ntmps56
    go_wp2_with fail
    go_ret
    exact ⟨ret_bool (by rw [HR.out]), HB1.out⟩
  · have HR : Hid (r = true) := Lib.hid (by rw [hst]; simpa using fun h => e h.symm)
    have hne : (od == f) = false := by simpa using e
    clear hst e
    go_enter Tryz.func56, Tryz.ntmps56
    go_wp2_with fail
    go_ret
    exact ⟨ret_bool (by rw [HR.out]), HB1.out⟩
set_option maxRecDepth 100000 in
set_option maxHeartbeats 4000000 in
theorem Chg3_p (l : List Ref) (u : List Upd) (k : Nat) (x : Upd) (hx : u[k]? = some x) (cb b n : Nat) (w : World) (hl : l.Pairwise fun a b => a.name < b.name)
    (ht : w.cell? ⟨cb, 0, none⟩ = some (.map (some b))) (hM : MapL w b n l) :
    Calls Tryz.prog 57 #[.agg #[.string ⟨x.name.toArray⟩, .string ⟨x.old.toArray⟩, .string ⟨x.new.toArray⟩], .pointer (some ⟨cb, 0, none⟩)] w (BoolB (clashI l u k) w) := by
  have hb1 := below_al w (.cells #[.string ⟨x.name.toArray⟩, .string ⟨x.old.toArray⟩, .string ⟨x.new.toArray⟩] 43)
  have hM1 := hM.below hb1 hM.lt
  have ht1 := cell_al ht (.cells #[.string ⟨x.name.toArray⟩, .string ⟨x.old.toArray⟩, .string ⟨x.new.toArray⟩] 43)
  have HF := fun W hW => Lib.hid (fits_p l x.name b n W hl hW)
  have hst := clash_eq (l := l) hx
  obtain ⟨nm, od, nw⟩ := x
  simp only at ht1 hst HF
  obtain ⟨r, hr⟩ : ∃ r, r = clashI l u k := ⟨_, rfl⟩
  rw [← hr] at hst ⊢
  have HB1 := Lib.hid hb1; have HM1 := Lib.hid hM1
  clear hb1 hM1 ht hM hr hx hl
  by_cases e : nw = []
  · subst e
    have HR : Hid (r = false) := Lib.hid (by rw [hst]; rfl)
    clear hst HF
    go_enter Tryz.func57, Tryz.ntmps57
    go_wp2_with fail
    go_ret
    exact ⟨ret_bool HR.out.symm, HB1.out⟩
  · have HR : Hid (r = fitB l nm) := Lib.hid (by rw [hst]; simp [e])
    have hne : nw.isEmpty = false := by cases nw with | nil => exact absurd rfl e | cons _ _ => rfl
    have HF1 := HF _ HM1.out
    clear hst HF e
    go_enter Tryz.func57, Tryz.ntmps57
    go_wp2_with fail
    refine HF1.out.mono ?_
    rintro e w3 ⟨rfl, hb3⟩
    have HB3 := Lib.hid (HB1.out.trans (hb3.mono HB1.out.size))
    clear hb3
    go_wp2_with fail
    go_ret
    exact ⟨ret_bool (by rw [HR.out]), HB3.out⟩
end Go.Proofs.YtfnepffccenebaaGreatDoor.Rf
