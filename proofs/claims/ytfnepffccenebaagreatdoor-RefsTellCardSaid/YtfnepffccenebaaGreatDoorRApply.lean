/-
  Apply: refs with all updates.
-/
import Derived.Test.YtfnepffccenebaaGreatDoorRChg
import Derived.Test.YtfnepffccenebaaGreatDoorRIdx
import Derived.Test.YtfnepffccenebaaGreatDoorRRight
namespace Go.Proofs.YtfnepffccenebaaGreatDoor.Rf
open Go.Proofs.YtfnepffccenebaaGreatDoor
open Go Go.RowKit Go.Maps

/-! ### change -/
/-- Which error, and where. -/
def errL (l : List Ref) (u : List Upd) : Nat × Nat :=
  match firstN (badI u) u.length with
  | some i => (1, i)
  | none => match firstN (staleI l u) u.length with
    | some i => (92, i)
    | none => match firstN (clashI (outL l u) u) u.length with
      | some i => (91, i)
      | none => if 64 < (outL l u).length then (2, 0) else (0, 0)
theorem errL_bad {l : List Ref} {u : List Upd} {k : Nat} (hk : k < u.length) (hp : badI u k = true) (h : ∀ j, j < k → badI u j = false) : errL l u = (1, k) := by
  unfold errL; rw [firstN_some hk hp h]
theorem errL_stale {l : List Ref} {u : List Upd} {k : Nat} (h0 : ∀ j, j < u.length → badI u j = false) (hk : k < u.length) (hp : staleI l u k = true) (h : ∀ j, j < k → staleI l u j = false) : errL l u = (92, k) := by
  unfold errL; rw [firstN_none h0, firstN_some hk hp h]
theorem errL_clash {l : List Ref} {u : List Upd} {k : Nat} (h0 : ∀ j, j < u.length → badI u j = false) (h1 : ∀ j, j < u.length → staleI l u j = false) (hk : k < u.length) (hp : clashI (outL l u) u k = true) (h : ∀ j, j < k → clashI (outL l u) u j = false) : errL l u = (91, k) := by
  unfold errL; rw [firstN_none h0, firstN_none h1, firstN_some hk hp h]
theorem errL_end {l : List Ref} {u : List Upd} (h0 : ∀ j, j < u.length → badI u j = false) (h1 : ∀ j, j < u.length → staleI l u j = false) (h2 : ∀ j, j < u.length → clashI (outL l u) u j = false) : errL l u = if 64 < (outL l u).length then (2, 0) else (0, 0) := by
  unfold errL; rw [firstN_none h0, firstN_none h1, firstN_none h2]
theorem applyL_err (l : List Ref) (u : List Upd) : applyL l u = if (errL l u).1 = 0 then (outL l u, 0, 0) else (l, (errL l u).1, (errL l u).2) := by
  unfold applyL errL
  cases h1 : firstN (badI u) u.length with
  | some i => rfl
  | none =>
    cases h2 : firstN (staleI l u) u.length with
    | some i => rfl
    | none =>
      cases h3 : firstN (clashI (outL l u) u) u.length with
      | some i => rfl
      | none =>
        by_cases h : 64 < (outL l u).length
        · simp only [if_pos h]; rfl
        · simp only [if_neg h]; rfl
theorem outL_len {l : List Ref} (hl : l.Pairwise fun a b => a.name < b.name) : ∀ (u : List Upd), (outL l u).length ≤ l.length + u.length := by
  intro u
  induction u generalizing l with
  | nil => simp [outL]
  | cons x u ih =>
    rw [outL_cons]
    have h1 := ih (l := putR l ⟨x.name, x.new⟩) (rise_putR hl)
    have h2 : (putR l ⟨x.name, x.new⟩).length ≤ l.length + 1 := by
      unfold putR
      split
      · exact Nat.le_succ_of_le (List.length_filter_le _ _)
      · have : ∀ m : List Ref, (putW ⟨x.name, x.new⟩ m).length ≤ m.length + 1 := by
          intro m
          induction m with
          | nil => simp [putW]
          | cons y m ih => unfold putW; split <;> (try split) <;> simp <;> omega
        exact this l
    simp; omega
/-- What change answers: an error, and where; without one the map holds what is there then. -/
def ChangeP (l : List Ref) (u : List Upd) (b B : Nat) (w : World) (e : Ending) (w' : World) : Prop :=
  e = .returned (.tuple #[.int .i64 ((errL l u).1 : Int), .int .i64 ((errL l u).2 : Int)]) ∧ Below B w w' ∧ ((errL l u).1 = 0 → ∃ n, MapL w' b n (outL l u))
set_option maxRecDepth 100000 in
set_option maxHeartbeats 8000000 in
theorem change_p (l : List Ref) (u : List Upd) (uv : Value) (b n : Nat) (w0 w : World) (hv : UpdsR w0 uv u) (hf : FitU u) (h16 : u.length ≤ 16) (hn : n ≤ 64) (hl : l.Pairwise fun a b => a.name < b.name) (hl64 : l.length ≤ 64)
    (hb : Below w0.heap.size w0 w) (hbb : w0.heap.size ≤ b) (hM : MapL w b n l) :
    Calls Tryz.prog 32 #[.map (some b), uv] w (ChangeP l u b w0.heap.size w) := by
  obtain ⟨A, c, rfl⟩ := hv.shape
  obtain ⟨N, hN⟩ : ∃ N, N = u.length := ⟨_, rfl⟩
  rw [← hN] at hv h16 ⊢
  -- the worlds on the way
  obtain ⟨w1, hw1⟩ : ∃ w1, w1 = ((w.alloc (.cells #[.map (some b)] 52)).alloc (.map #[] 0)).alloc (.cells #[.map (some (w.heap.size + 1))] 79) := ⟨_, rfl⟩
  have hl1 : Below w.heap.size w w1 := by rw [hw1]; exact (((Below.refl _ w).alloc (Nat.le_refl _) _).alloc (by simp) _).alloc (by simp; omega) _
  have l1 : Below w0.heap.size w0 w1 := hb.trans (hl1.mono hb.size)
  have k0 : w1.cell? ⟨w.heap.size, 0, none⟩ = some (.map (some b)) := by
    rw [hw1]; exact cell_al (cell_al (by simp) _) _
  have k1 : MapS w1 (w.heap.size + 1) 0 (cntF u 0) := by
    have h := MapS.made (w.alloc (.cells #[.map (some b)] 52))
    have e : (fun _ => none : Bs → Option Value) = cntF u 0 := by funext x; simp [cntF]
    rw [e] at h
    have h2 := h.below (below_al _ (.cells #[.map (some (w.heap.size + 1))] 79)) h.lt
    rw [hw1]; simpa using h2
  have k2 : w1.cell? ⟨w.heap.size + 2, 0, none⟩ = some (.map (some (w.heap.size + 1))) := by
    rw [hw1]
    have h := heap_alloc_new ((w.alloc (.cells #[.map (some b)] 52)).alloc (.map #[] 0)) (.cells #[.map (some (w.heap.size + 1))] 79)
    have e : ((w.alloc (.cells #[.map (some b)] 52)).alloc (.map #[] 0)).heap.size = w.heap.size + 2 := by simp
    rw [e] at h
    rw [cell_of_row _ _ 0 _ _ _ h]; rfl
  have hMl := hM.lt
  have M1 : MapL w1 b n l := hM.below hl1 hMl
  have hsz : w.heap.size + 3 = w1.heap.size := by rw [hw1]; simp
  -- the three searches
  have J1 := idxU (l := u) (A := A) (c := c) hN (by omega) 54 (enters_of Tryz.func54 (by kernel_rfl) rfl) #[.pointer (some ⟨w.heap.size + 2, 0, none⟩)] (badI u)
    (fun k W => k ≤ N ∧ Below w.heap.size w W ∧ W.cell? ⟨w.heap.size, 0, none⟩ = some (.map (some b)) ∧ (∃ m, m ≤ k ∧ MapS W (w.heap.size + 1) m (cntF u k)) ∧ W.cell? ⟨w.heap.size + 2, 0, none⟩ = some (.map (some (w.heap.size + 1))) ∧ MapL W b n l)
    (fun k W => Below w.heap.size w W) w1
    ⟨Nat.zero_le _, hl1, k0, ⟨0, Nat.le_refl _, k1⟩, k2, M1⟩
    (fun k W hW => RdK.below hv (hb.trans (hW.2.1.mono hb.size)) (Nat.le_refl _))
    (fun k x W hx hW => by
      obtain ⟨h1, h2, h3, ⟨m, hm, h4⟩, h5, h6⟩ := hW
      have hfx := hf x (List.mem_of_getElem? hx)
      have hkN : k < N := by rw [hN]; exact (List.getElem?_eq_some_iff.1 hx).1
      have hlt5 := World.block_lt_of_cell? _ _ h5
      refine (Chg1_p u k x hx (by omega) (w.heap.size + 2) (w.heap.size + 1) m (w.heap.size + 1) W hfx.1 hfx.2.1 hfx.2.2 (by omega) h5 h4 (Nat.le_refl _) (by omega) (by simp at hlt5; omega)).mono ?_
      rintro e w' ⟨he, hm2, hc2, hb2⟩
      have hbb2 : Below w.heap.size w w' := h2.trans (hb2.mono (Nat.le_succ _))
      refine ⟨he, fun _ => hbb2, fun _ => ⟨by omega, hbb2, ?_, ⟨m + 1, by omega, hm2⟩, hc2, h6.below hb2 (by omega)⟩⟩
      rw [hb2.cell (p := ⟨w.heap.size, 0, none⟩) (Nat.lt_succ_self _)]; exact h3)
  have J2 := fun W1 (hW1 : Below w.heap.size w W1) (c1 : W1.cell? ⟨w.heap.size, 0, none⟩ = some (.map (some b))) (m1 : MapL W1 b n l) => idxU (l := u) (A := A) (c := c) hN (by omega) 56 (enters_of Tryz.func56 (by kernel_rfl) rfl) #[.pointer (some ⟨w.heap.size, 0, none⟩)] (staleI l u)
    (fun _ W => Below w.heap.size w W ∧ W.cell? ⟨w.heap.size, 0, none⟩ = some (.map (some b)) ∧ MapL W b n l)
    (fun _ W => Below w.heap.size w W) W1 ⟨hW1, c1, m1⟩
    (fun k W hW => RdK.below hv (hb.trans (hW.1.mono hb.size)) (Nat.le_refl _))
    (fun k x W hx hW => by
      obtain ⟨h2, h3, h6⟩ := hW
      have hfx := hf x (List.mem_of_getElem? hx)
      refine (Chg2_p l u k x hx w.heap.size b n W hfx.1 hl h3 h6).mono ?_
      rintro e w' ⟨he, hb2⟩
      have hbb2 : Below w.heap.size w w' := h2.trans (hb2.mono h2.size)
      refine ⟨he, fun _ => hbb2, fun _ => ⟨hbb2, ?_, h6.below hb2 h6.lt⟩⟩
      rw [hb2.cell (p := ⟨w.heap.size, 0, none⟩) (World.block_lt_of_cell? _ _ h3)]; exact h3)
  have hro : (outL l u).Pairwise fun a b => a.name < b.name := rise_outL hl
  have J3 := fun W1 m (hW1 : Below w0.heap.size w W1) (c1 : W1.cell? ⟨w.heap.size, 0, none⟩ = some (.map (some b))) (m1 : MapL W1 b m (outL l u)) => idxU (l := u) (A := A) (c := c) hN (by omega) 57 (enters_of Tryz.func57 (by kernel_rfl) rfl) #[.pointer (some ⟨w.heap.size, 0, none⟩)] (clashI (outL l u) u)
    (fun _ W => Below w0.heap.size w W ∧ W.cell? ⟨w.heap.size, 0, none⟩ = some (.map (some b)) ∧ MapL W b m (outL l u))
    (fun _ W => Below w0.heap.size w W) W1 ⟨hW1, c1, m1⟩
    (fun k W hW => RdK.below hv (hb.trans hW.1) (Nat.le_refl _))
    (fun k x W hx hW => by
      obtain ⟨h2, h3, h6⟩ := hW
      refine (Chg3_p (outL l u) u k x hx w.heap.size b m W hro h3 h6).mono ?_
      rintro e w' ⟨he, hb2⟩
      have hbb2 : Below w0.heap.size w w' := h2.trans (hb2.mono (Nat.le_trans hb.size h2.size))
      refine ⟨he, fun _ => hbb2, fun _ => ⟨hbb2, ?_, h6.below hb2 h6.lt⟩⟩
      rw [hb2.cell (p := ⟨w.heap.size, 0, none⟩) (World.block_lt_of_cell? _ _ h3)]; exact h3)
  have JS := fun W1 (hW1 : Below w.heap.size w W1) (m1 : MapL W1 b n l) => set_p l u (.slice A N c) b n w0 W1 hv hf (by omega) hn hl (hb.trans (hW1.mono hb.size)) hbb m1
  have HJ1 := Lib.hid J1; have HJ2 := Lib.hid J2; have HJ3 := Lib.hid J3; have HJS := Lib.hid JS; have HW1 := Lib.hid hw1; have HN := Lib.hid hN; have Hro := Lib.hid hro
  have hmm := @run_makeMap Tryz.prog
  have HB0 := Lib.hid hb.size; have Hbb := Lib.hid hbb; have HMl := Lib.hid hMl
  have HL := Lib.hid (outL_len hl u)
  obtain ⟨E, hE⟩ : ∃ E, E = errL l u := ⟨_, rfl⟩
  have HE := Lib.hid hE
  have Hsz := Lib.hid hsz
  unfold ChangeP
  rw [← hE]
  clear hv hf hb hbb hM hl1 l1 k0 k1 k2 M1 J1 J2 J3 JS hw1 hN hro hE hMl hl hsz
  go_enter Tryz.func32, Tryz.ntmps32
  go_wp2_with (rw [← HW1.out])
  refine HJ1.out.mono ?_
  rintro e w2 (⟨k, hk, hp, hno, rfl, hE2⟩ | ⟨hno, rfl, hJ⟩)
  · have HR : Hid (E = (1, k)) := Lib.hid (by rw [HE.out]; exact errL_bad (by rw [← HN.out]; exact hk) hp hno)
    have H2 := Lib.hid hE2
    have hk0 : (0 : Int) ≤ (k : Int) := by omega
    clear hp hno hE2 HJ1 HJ2 HJ3 HJS hk
    go_wp2_with fail
    go_ret2
    exact ⟨by rw [HR.out]; rfl, H2.out.mono HB0.out, fun h => by rw [HR.out] at h; cases h⟩
  have H0 : Hid (∀ j, j < u.length → badI u j = false) := Lib.hid (by rw [← HN.out]; exact hno)
  obtain ⟨_, j1, j2, _, _, j5⟩ := hJ
  have HS2 := Lib.hid (HJ2.out w2 j1 j2 j5)
  have hlt : ¬ (0 : Int) ≤ -1 := by omega
  clear hno j1 j2 j5 HJ1 HJ2
  go_wp2_with fail
  refine HS2.out.mono ?_
  rintro e w3 (⟨k, hk, hp, hno, rfl, hE2⟩ | ⟨hno, rfl, hJ⟩)
  · have HR : Hid (E = (92, k)) := Lib.hid (by rw [HE.out]; exact errL_stale H0.out (by rw [← HN.out]; exact hk) hp hno)
    have H2 := Lib.hid hE2
    have hk0 : (0 : Int) ≤ (k : Int) := by omega
    clear hp hno hE2 HJ3 HJS HS2 hk
    go_wp2_with fail
    go_ret2
    exact ⟨by rw [HR.out]; rfl, H2.out.mono HB0.out, fun h => by rw [HR.out] at h; cases h⟩
  have H1 : Hid (∀ j, j < u.length → staleI l u j = false) := Lib.hid (by rw [← HN.out]; exact hno)
  obtain ⟨j1, j2, j5⟩ := hJ
  have HSS := Lib.hid (HJS.out w3 j1 j5)
  have HJ1' := Lib.hid j1
  have HJ2' := Lib.hid j2
  have hcl := World.block_lt_of_cell? _ _ j2
  have HCl := Lib.hid hcl
  clear hno j1 j5 HS2 HJS hcl
  go_wp2_with fail
  refine HSS.out.mono ?_
  rintro e w4 ⟨m, hm, rfl, hM4, hb4⟩
  have l4 : Below w0.heap.size w w4 := (HJ1'.out.mono HB0.out).trans (hb4.below (fun k _ hk => by rw [hk]; exact Hbb.out) (Nat.le_trans HB0.out HJ1'.out.size))
  have c4 : w4.cell? ⟨w.heap.size, 0, none⟩ = some (.map (some b)) := (hb4.cell (p := ⟨w.heap.size, 0, none⟩) HCl.out (fun e => by have := HMl.out; simp only at e; omega)).trans HJ2'.out
  have HS4 := Lib.hid (HJ3.out w4 m l4 c4 hM4)
  clear l4 c4 hM4 hb4 HJ3 HSS
  go_wp2_with fail
  refine HS4.out.mono ?_
  rintro e w5 (⟨k, hk, hp, hno, rfl, hE2⟩ | ⟨hno, rfl, hJ⟩)
  · have HR : Hid (E = (91, k)) := Lib.hid (by rw [HE.out]; exact errL_clash H0.out H1.out (by rw [← HN.out]; exact hk) hp hno)
    have H2 := Lib.hid hE2
    have hk0 : (0 : Int) ≤ (k : Int) := by omega
    clear hp hno hE2 HS4 hk
    go_wp2_with fail
    go_ret2
    exact ⟨by rw [HR.out]; rfl, H2.out, fun h => by rw [HR.out] at h; cases h⟩
  have H3 : Hid (E = if 64 < (outL l u).length then (2, 0) else (0, 0)) := Lib.hid (by rw [HE.out]; exact errL_end H0.out H1.out (by rw [← HN.out]; exact hno))
  obtain ⟨j1, j2, j5⟩ := hJ
  have hlen := fun ty => j5.len Hro.out ty
  obtain ⟨M, hM⟩ : ∃ M, M = (outL l u).length := ⟨_, rfl⟩
  rw [← hM] at hlen H3
  have HMM := Lib.hid hM
  have hMb : M ≤ 100 := by have := HL.out; rw [← hM] at this; have := HN.out; omega
  have J1' := Lib.hid j1
  have J5' := Lib.hid j5
  clear hno j1 j5 HS4 hM
  by_cases h64 : 64 < M
  · have hI : (64 : Int) < (M : Int) := by omega
    have HR : Hid (E = (2, 0)) := Lib.hid (by rw [H3.out, if_pos h64])
    clear h64
    go_wp2_with fail
    go_ret2
    exact ⟨by rw [HR.out]; rfl, J1'.out, fun h => by rw [HR.out] at h; cases h⟩
  · have hI : ¬ (64 : Int) < (M : Int) := by omega
    have HR : Hid (E = (0, 0)) := Lib.hid (by rw [H3.out, if_neg h64])
    clear h64
    go_wp2_with fail
    go_ret2
    exact ⟨by rw [HR.out]; rfl, J1'.out, fun _ => ⟨_, J5'.out⟩⟩
end Go.Proofs.YtfnepffccenebaaGreatDoor.Rf
