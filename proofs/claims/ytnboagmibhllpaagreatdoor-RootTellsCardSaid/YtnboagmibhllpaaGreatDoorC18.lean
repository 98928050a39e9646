/-
  areForks: may these be all forks of a net?
  Right.
-/
import Derived.Test.YtnboagmibhllpaaGreatDoorC15

namespace Go.Proofs.YtnboagmibhllpaaGreatDoor.Ro
open Go.Proofs.YtnboagmibhllpaaGreatDoor
open Go.Proofs.YtnboagmibhllpaaGreatDoor.Rf (BoolB Ref nameB linesL lineL RefsR OwR OwS Fit rightB rightB_yes rightB_no)
open Go Go.RowKit

open Classical in
noncomputable def fksB (l : List Fk) : Bool := decide (l.length ≤ 16 ∧ FksOk l)
theorem fksB_yes {l : List Fk} (h : l.length ≤ 16) (k : FksOk l) : fksB l = true := by unfold fksB; simp [h, k]
theorem fksB_long {l : List Fk} (h : ¬ l.length ≤ 16) : fksB l = false := by unfold fksB; simp [h]
theorem fksB_no {l : List Fk} (h : ¬ FksOk l) : fksB l = false := by unfold fksB; simp [h]
theorem fks_at {l : List Fk} {k : Nat} {f : Fk} (h : FksOk l) (hf : l[k]? = some f) : follows (l.take k) f.name f.head ∧ FkOk f := by
  obtain ⟨hk, rfl⟩ := List.getElem?_eq_some_iff.1 hf
  have e : l = l.take k ++ l[k] :: l.drop (k + 1) := by rw [← List.drop_eq_getElem_cons hk, List.take_append_drop]
  rw [e] at h
  exact ⟨follows_of h, h.each _ (by simp)⟩
theorem right_eq {l : List Ref} : rightB l = true ↔ Rf.Right l := ⟨fun h => Classical.byContradiction fun hn => (by rw [rightB_no hn] at h; cases h), rightB_yes⟩
set_option maxRecDepth 100000 in
set_option maxHeartbeats 8000000 in
theorem areForks_p (l : List Fk) (v : Value) (w : World) (hv : FksR w v l) (hf : ∀ f ∈ l, FitF f) (hl : l.length ≤ 1000000) : Calls Tryz.prog 35 #[v] w (BoolB (fksB l) w) := by
  obtain ⟨A, c, rfl⟩ := hv.shape
  obtain ⟨N, hN⟩ : ∃ N, N = l.length := ⟨_, rfl⟩
  have HV : Hid (FksR w (.slice A N c) l) := Lib.hid (by rw [hN]; exact hv)
  have HF := Lib.hid hf
  obtain ⟨b, hb⟩ : ∃ b, b = fksB l := ⟨_, rfl⟩
  have HNo : Hid (¬ FksOk l → b = false) := Lib.hid fun h => by rw [hb]; exact fksB_no h
  have HYes : Hid (l.length ≤ 16 → FksOk l → b = true) := Lib.hid fun h k => by rw [hb]; exact fksB_yes h k
  have HLo : Hid (¬ l.length ≤ 16 → b = false) := Lib.hid fun h => by rw [hb]; exact fksB_long h
  rw [← hN, ← hb]
  have HN := Lib.hid hN
  rw [← hN] at hl
  clear hv hf hb hN
  by_cases h16 : N ≤ 16
  case neg =>
    have hI : 16 < (N : Int) := by omega
    have HB := Lib.hid (HLo.out (by rw [← HN.out]; exact h16))
    clear h16
    go_enter Tryz.func35, Tryz.ntmps35
    go_wp2
    go_ret
    exact ⟨ret_bool HB.out.symm, Below.refl _ _⟩
  have hI : ¬ 16 < (N : Int) := by omega
  have H16 := Lib.hid h16
  clear h16 HLo
  go_enter Tryz.func35, Tryz.ntmps35
  go_wp2
  go_loopw [10] (fun i wr => ∃ k : Nat, k ≤ N ∧ i = .int .i64 k ∧ Hid (Below w.heap.size w wr) ∧ Hid (FksOk (l.take k))) (fun i _ => N - (intOf i).toNat)
  case atStart => exact ⟨0, Nat.zero_le _, rfl, Lib.hid (Below.refl _ _), Lib.hid (by rw [List.take_zero]; exact FksOk.nil)⟩
  case round =>
    obtain ⟨wo, hwo⟩ : ∃ wo, wo = wr := ⟨_, rfl⟩
    subst hwo
    obtain ⟨k, hk, rfl, hB, hok⟩ := hrel
    by_cases hlt : k < N
    case neg =>
      have hkN : k = N := by omega
      have HB := Lib.hid (HYes.out (by rw [← HN.out]; exact H16.out) (by have h := hok.out; rw [hkN, HN.out, List.take_length] at h; exact h))
      clear hkN hok
      go_wp2_with fail
      go_ret
      exact ⟨ret_bool HB.out.symm, hB.out⟩
    obtain ⟨g, o, c', e, hNc, hg⟩ := HV.out.pos (by have := HN.out; omega)
    obtain rfl : A = some ⟨g, o, none⟩ := by rw [← HN.out] at e; cases e; rfl
    have hkc : k ≤ c := by have : c = c' := by (rw [← HN.out] at e; cases e; rfl)
                           have := HN.out; omega
    clear e hNc
    obtain ⟨f, hfx⟩ : ∃ f, l[k]? = some f := ⟨_, List.getElem?_eq_getElem (by have := HN.out; omega)⟩
    have hV := HV.out.below hB.out (Nat.le_refl _)
    obtain ⟨x, hx, d0, d1, d2, d3, d4⟩ := hV.at hfx
    have hft := HF.out f (List.mem_of_getElem? hfx)
    obtain ⟨wB, hwB⟩ : ∃ z, z = wo.alloc (.cells (fkC x).toArray 42) := ⟨_, rfl⟩
    have lB : Below wo.heap.size wo wB := by rw [hwB]; exact below_new _ _
    have sB : wo.heap.size < wB.heap.size := by rw [hwB]; simp
    have hxB := hx.below lB (Nat.le_refl _)
    have HM : Hid (∀ W, Below wB.heap.size wB W → Calls Tryz.prog 62 #[.slice (some ⟨g, o, none⟩) k c, fkV x] W (BoolB (mayB (l.take k) x.name x.head) W)) := Lib.hid fun W hW =>
      mayFollow_p _ _ x W (((hV.below lB (Nat.le_refl _)).below hW (Nat.le_refl _)).take HN.out hk) (by rw [List.length_take]; omega) (by rw [hx.name]; exact hft.name) (by rw [hx.head]; exact hft.head) (by obtain ⟨A, c, e⟩ := RdK.shape hx.refs; exact ⟨A, _, c, e⟩) (by obtain ⟨A, c, e⟩ := RdK.shape hx.packs; exact ⟨A, _, c, e⟩)
    have HRf : Hid (∀ W, Below wB.heap.size wB W → Calls Tryz.prog 63 #[x.rv] W (BoolB (rightB f.refs) W)) := Lib.hid fun W hW =>
      Rf.Right_p f.refs _ W (RdK.below hxB.refs hW (Nat.le_refl _)) hft.refs hft.rlen
    have HPk : Hid (∀ W, Below wB.heap.size wB W → Calls Tryz.prog 34 #[x.pv] W (BoolB (packsB f.packs) W)) := Lib.hid fun W hW =>
      arePacks_p f.packs _ W (RdK.below hxB.packs hW (Nat.le_refl _)) hft.packs hft.plen
    have dl := fun (i : Nat) (u : Value) (hi : (fkC x)[i]? = some u) => (show Hid (∀ W, Below wB.heap.size wB W → W.cell? ⟨wo.heap.size, i, none⟩ = some u) from Lib.hid fun W h => (h.cell (p := ⟨wo.heap.size, i, none⟩) sB).trans (by rw [hwB, cell_of_row _ _ _ _ _ _ (heap_alloc_new wo _)]; simpa using hi))
    have D0 := dl 0 _ rfl; have D1 := dl 1 _ rfl; have D2 := dl 2 _ rfl; have D3 := dl 3 _ rfl; have D4 := dl 4 _ rfl
    have HSt : Hid (mayB (l.take k) x.name x.head = true → rightB f.refs = true → packsB f.packs = true → FksOk (l.take (k + 1))) := Lib.hid fun h1 h2 h3 => by
      have h1 := mayB_iff.1 h1
      rw [hx.name, hx.head] at h1
      rw [List.take_add_one, hfx, Option.toList_some]
      exact hok.out.snoc ⟨h1.2.1, h1.2.2, right_eq.1 h2, packsB_iff.1 h3⟩ h1
    have HBad : Hid (mayB (l.take k) x.name x.head = false ∨ rightB f.refs = false ∨ packsB f.packs = false → b = false) := Lib.hid fun h => HNo.out fun hok => by
      obtain ⟨h1, h2⟩ := fks_at hok hfx
      rw [← hx.name, ← hx.head] at h1
      rcases h with h | h | h
      · rw [mayB_iff.2 h1] at h; cases h
      · rw [right_eq.2 h2.refs] at h; cases h
      · rw [packsB_iff.2 h2.packs] at h; cases h
    obtain ⟨m, hm⟩ : ∃ m, m = mayB (l.take k) x.name x.head := ⟨_, rfl⟩
    obtain ⟨r, hr⟩ : ∃ r, r = rightB f.refs := ⟨_, rfl⟩
    obtain ⟨p, hp⟩ : ∃ p, p = packsB f.packs := ⟨_, rfl⟩
    rw [← hm] at HM HSt HBad
    rw [← hr] at HRf HSt HBad
    rw [← hp] at HPk HSt HBad
    obtain ⟨Ar, cr, er⟩ := RdK.shape hx.refs
    obtain ⟨Ap, cp, ep⟩ := RdK.shape hx.packs
    obtain ⟨nr, hnr⟩ : ∃ n, n = f.refs.length := ⟨_, rfl⟩
    obtain ⟨np, hnp⟩ : ∃ n, n = f.packs.length := ⟨_, rfl⟩
    rw [← hnr] at er
    rw [← hnp] at ep
    have L2 : Hid (Below w.heap.size w wB) := Lib.hid (hB.out.trans (lB.mono hB.out.size))
    have HWB := Lib.hid hwB
    clear hfx hV hx hft hwB lB sB hxB dl hm hr hp hnr hnp hg
    obtain ⟨nm, lk, hd, rv, pv⟩ := x
    simp only at er ep
    subst er
    subst ep
    unfold fkC at HWB
    unfold fkV fkC at HM
    simp only [SV, List.toArray] at d0 d1 d2 d3 d4 HM HRf HPk HWB D0 D1 D2 D3 D4
    go_upto_region 6 with fail
    try rw [← HWB.out]
    have LD : Hid (Below wB.heap.size wB wB.drew) := Lib.hid (bdr (Below.refl _ _) 1)
    clear d0 d1 d2 d3 d4 hB
    cases m with
    | false =>
      refine AnyB.start (by kernel_rfl) ?_
      refine AnyB.take 0 (.slice (some ⟨g, o, none⟩) N c) rfl (by kernel_rfl) (by kernel_rfl) (by kernel_rfl) (fun _ _ _ h => h) (by kernel_rfl) (fun W hW => by kernel_rfl) ?_
      refine AnyB.take 1 (.int .i64 (k : Int)) rfl (by kernel_rfl) (by kernel_rfl) (by kernel_rfl) (fun _ _ _ h => h) (by kernel_rfl) (fun W hW => by kernel_rfl) ?_
      refine AnyB.take 2 (.slice (some ⟨g, o, none⟩) k c) rfl (by kernel_rfl) (by kernel_rfl) (by kernel_rfl) (fun _ _ _ h => h) (by kernel_rfl) (fun W hW => y_slice (xv := .slice (some ⟨g, o, none⟩) N c) (lv := none) (hv := some (.int .i64 (k : Int))) (mv := none) rfl (by kernel_rfl) rfl (by kernel_rfl) rfl (fcut_lo W (some ⟨g, o, none⟩) N c k hkc)) ?_
      refine AnyB.take 3 (.agg #[.string ⟨nm.toArray⟩, .bool lk, .string ⟨hd.toArray⟩, .slice Ar nr cr, .slice Ap np cp]) rfl (by kernel_rfl) (by kernel_rfl) (by kernel_rfl) (fun _ _ _ h => h) (by kernel_rfl) (fun W hW => y_load (sv := .pointer (some ⟨wo.heap.size, 0, none⟩)) rfl (by kernel_rfl) (l_Fk W wo.heap.size 0 _ _ _ _ _ (D0.out W (LD.out.trans (hW.mono LD.out.size))) (D1.out W (LD.out.trans (hW.mono LD.out.size))) (D2.out W (LD.out.trans (hW.mono LD.out.size))) (D3.out W (LD.out.trans (hW.mono LD.out.size))) (D4.out W (LD.out.trans (hW.mono LD.out.size))))) ?_
      refine AnyB.call 4 62 #[.slice (some ⟨g, o, none⟩) k c, .agg #[.string ⟨nm.toArray⟩, .bool lk, .string ⟨hd.toArray⟩, .slice Ar nr cr, .slice Ap np cp]] (by kernel_rfl) rfl (by kernel_rfl) (by kernel_rfl) ?_
      refine (HM.out _ LD.out).mono ?_
      rintro e w7 ⟨rfl, hb7⟩
      have LD1 := Lib.hid (LD.out.trans (hb7.mono LD.out.size))
      refine ⟨_, rfl, hb7, ?_⟩
      refine AnyB.take 5 (.bool true) rfl (by kernel_rfl) (by kernel_rfl) (by kernel_rfl) (fun _ _ _ h => h) (by kernel_rfl) (fun W hW => by kernel_rfl) ?_
      refine AnyB.take 6 (.bool true) rfl (by kernel_rfl) (by kernel_rfl) (by kernel_rfl) (fun _ _ _ h => h) (by kernel_rfl) (fun W hW => by kernel_rfl) ?_
      refine AnyB.skip 7 rfl (by kernel_rfl) (by kernel_rfl) (by kernel_rfl) (fun _ _ _ h => h) (by kernel_rfl) ?_
      refine AnyB.skip 8 rfl (by kernel_rfl) (by kernel_rfl) (by kernel_rfl) (fun _ _ _ h => h) (by kernel_rfl) ?_
      refine AnyB.skip 9 rfl (by kernel_rfl) (by kernel_rfl) (by kernel_rfl) (fun _ _ _ h => h) (by kernel_rfl) ?_
      refine AnyB.skip 10 rfl (by kernel_rfl) (by kernel_rfl) (by kernel_rfl) (fun _ _ _ h => h) (by kernel_rfl) ?_
      refine AnyB.take 11 (.bool true) rfl (by kernel_rfl) (by kernel_rfl) (by kernel_rfl) (fun _ _ _ h => h) (by kernel_rfl) (fun W hW => by kernel_rfl) ?_
      refine AnyB.take 12 (.bool true) rfl (by kernel_rfl) (by kernel_rfl) (by kernel_rfl) (fun _ _ _ h => h) (by kernel_rfl) (fun W hW => by kernel_rfl) ?_
      refine AnyB.skip 13 rfl (by kernel_rfl) (by kernel_rfl) (by kernel_rfl) (fun _ _ _ h => h) (by kernel_rfl) ?_
      refine AnyB.skip 14 rfl (by kernel_rfl) (by kernel_rfl) (by kernel_rfl) (fun _ _ _ h => h) (by kernel_rfl) ?_
      refine AnyB.skip 15 rfl (by kernel_rfl) (by kernel_rfl) (by kernel_rfl) (fun _ _ _ h => h) (by kernel_rfl) ?_
      refine AnyB.skip 16 rfl (by kernel_rfl) (by kernel_rfl) (by kernel_rfl) (fun _ _ _ h => h) (by kernel_rfl) ?_
      refine AnyB.take 17 (.bool true) rfl (by kernel_rfl) (by kernel_rfl) (by kernel_rfl) (fun _ _ _ h => h) (by kernel_rfl) (fun W hW => by kernel_rfl) ?_
      refine AnyB.done _ (by kernel_rfl) ?_
      go_simp
      have L9 := Lib.hid (L2.out.trans (LD1.out.mono L2.out.size))
      have HB := Lib.hid (HBad.out (by simp))
      clear HM HRf HPk HSt HBad D0 D1 D2 D3 D4 L2 HWB hok
      go_wp2_with fail
      go_ret
      exact ⟨ret_bool HB.out.symm, L9.out⟩
    | true =>
    cases r with
    | false =>
      refine AnyB.start (by kernel_rfl) ?_
      refine AnyB.take 0 (.slice (some ⟨g, o, none⟩) N c) rfl (by kernel_rfl) (by kernel_rfl) (by kernel_rfl) (fun _ _ _ h => h) (by kernel_rfl) (fun W hW => by kernel_rfl) ?_
      refine AnyB.take 1 (.int .i64 (k : Int)) rfl (by kernel_rfl) (by kernel_rfl) (by kernel_rfl) (fun _ _ _ h => h) (by kernel_rfl) (fun W hW => by kernel_rfl) ?_
      refine AnyB.take 2 (.slice (some ⟨g, o, none⟩) k c) rfl (by kernel_rfl) (by kernel_rfl) (by kernel_rfl) (fun _ _ _ h => h) (by kernel_rfl) (fun W hW => y_slice (xv := .slice (some ⟨g, o, none⟩) N c) (lv := none) (hv := some (.int .i64 (k : Int))) (mv := none) rfl (by kernel_rfl) rfl (by kernel_rfl) rfl (fcut_lo W (some ⟨g, o, none⟩) N c k hkc)) ?_
      refine AnyB.take 3 (.agg #[.string ⟨nm.toArray⟩, .bool lk, .string ⟨hd.toArray⟩, .slice Ar nr cr, .slice Ap np cp]) rfl (by kernel_rfl) (by kernel_rfl) (by kernel_rfl) (fun _ _ _ h => h) (by kernel_rfl) (fun W hW => y_load (sv := .pointer (some ⟨wo.heap.size, 0, none⟩)) rfl (by kernel_rfl) (l_Fk W wo.heap.size 0 _ _ _ _ _ (D0.out W (LD.out.trans (hW.mono LD.out.size))) (D1.out W (LD.out.trans (hW.mono LD.out.size))) (D2.out W (LD.out.trans (hW.mono LD.out.size))) (D3.out W (LD.out.trans (hW.mono LD.out.size))) (D4.out W (LD.out.trans (hW.mono LD.out.size))))) ?_
      refine AnyB.call 4 62 #[.slice (some ⟨g, o, none⟩) k c, .agg #[.string ⟨nm.toArray⟩, .bool lk, .string ⟨hd.toArray⟩, .slice Ar nr cr, .slice Ap np cp]] (by kernel_rfl) rfl (by kernel_rfl) (by kernel_rfl) ?_
      refine (HM.out _ LD.out).mono ?_
      rintro e w7 ⟨rfl, hb7⟩
      have LD1 := Lib.hid (LD.out.trans (hb7.mono LD.out.size))
      refine ⟨_, rfl, hb7, ?_⟩
      refine AnyB.take 5 (.bool false) rfl (by kernel_rfl) (by kernel_rfl) (by kernel_rfl) (fun _ _ _ h => h) (by kernel_rfl) (fun W hW => by kernel_rfl) ?_
      refine AnyB.take 6 (.bool false) rfl (by kernel_rfl) (by kernel_rfl) (by kernel_rfl) (fun _ _ _ h => h) (by kernel_rfl) (fun W hW => by kernel_rfl) ?_
      refine AnyB.take 7 (.pointer (some ⟨wo.heap.size, 3, none⟩)) rfl (by kernel_rfl) (by kernel_rfl) (by kernel_rfl) (fun _ _ _ h => h) (by kernel_rfl) (fun W hW => y_field (sv := .pointer (some ⟨wo.heap.size, 0, none⟩)) rfl (by kernel_rfl) (f_f3z W wo.heap.size)) ?_
      refine AnyB.take 8 (.slice Ar nr cr) rfl (by kernel_rfl) (by kernel_rfl) (by kernel_rfl) (fun _ _ _ h => h) (by kernel_rfl) (fun W hW => y_load (sv := .pointer (some ⟨wo.heap.size, 3, none⟩)) rfl (by kernel_rfl) (l_Rl W wo.heap.size 3 Ar nr cr (D3.out W (LD1.out.trans (hW.mono LD1.out.size))))) ?_
      refine AnyB.call 9 63 #[.slice Ar nr cr] (by kernel_rfl) rfl (by kernel_rfl) (by kernel_rfl) ?_
      refine (HRf.out _ LD1.out).mono ?_
      rintro e w7 ⟨rfl, hb7⟩
      have LD12 := Lib.hid (LD1.out.trans (hb7.mono LD1.out.size))
      refine ⟨_, rfl, hb7, ?_⟩
      refine AnyB.take 10 (.bool true) rfl (by kernel_rfl) (by kernel_rfl) (by kernel_rfl) (fun _ _ _ h => h) (by kernel_rfl) (fun W hW => by kernel_rfl) ?_
      refine AnyB.take 11 (.bool true) rfl (by kernel_rfl) (by kernel_rfl) (by kernel_rfl) (fun _ _ _ h => h) (by kernel_rfl) (fun W hW => by kernel_rfl) ?_
      refine AnyB.take 12 (.bool true) rfl (by kernel_rfl) (by kernel_rfl) (by kernel_rfl) (fun _ _ _ h => h) (by kernel_rfl) (fun W hW => by kernel_rfl) ?_
      refine AnyB.skip 13 rfl (by kernel_rfl) (by kernel_rfl) (by kernel_rfl) (fun _ _ _ h => h) (by kernel_rfl) ?_
      refine AnyB.skip 14 rfl (by kernel_rfl) (by kernel_rfl) (by kernel_rfl) (fun _ _ _ h => h) (by kernel_rfl) ?_
      refine AnyB.skip 15 rfl (by kernel_rfl) (by kernel_rfl) (by kernel_rfl) (fun _ _ _ h => h) (by kernel_rfl) ?_
      refine AnyB.skip 16 rfl (by kernel_rfl) (by kernel_rfl) (by kernel_rfl) (fun _ _ _ h => h) (by kernel_rfl) ?_
      refine AnyB.take 17 (.bool true) rfl (by kernel_rfl) (by kernel_rfl) (by kernel_rfl) (fun _ _ _ h => h) (by kernel_rfl) (fun W hW => by kernel_rfl) ?_
      refine AnyB.done _ (by kernel_rfl) ?_
      go_simp
      have L9 := Lib.hid (L2.out.trans (LD12.out.mono L2.out.size))
      have HB := Lib.hid (HBad.out (by simp))
      clear HM HRf HPk HSt HBad D0 D1 D2 D3 D4 L2 HWB hok
      go_wp2_with fail
      go_ret
      exact ⟨ret_bool HB.out.symm, L9.out⟩
    | true =>
    cases p with
    | false =>
      refine AnyB.start (by kernel_rfl) ?_
      refine AnyB.take 0 (.slice (some ⟨g, o, none⟩) N c) rfl (by kernel_rfl) (by kernel_rfl) (by kernel_rfl) (fun _ _ _ h => h) (by kernel_rfl) (fun W hW => by kernel_rfl) ?_
      refine AnyB.take 1 (.int .i64 (k : Int)) rfl (by kernel_rfl) (by kernel_rfl) (by kernel_rfl) (fun _ _ _ h => h) (by kernel_rfl) (fun W hW => by kernel_rfl) ?_
      refine AnyB.take 2 (.slice (some ⟨g, o, none⟩) k c) rfl (by kernel_rfl) (by kernel_rfl) (by kernel_rfl) (fun _ _ _ h => h) (by kernel_rfl) (fun W hW => y_slice (xv := .slice (some ⟨g, o, none⟩) N c) (lv := none) (hv := some (.int .i64 (k : Int))) (mv := none) rfl (by kernel_rfl) rfl (by kernel_rfl) rfl (fcut_lo W (some ⟨g, o, none⟩) N c k hkc)) ?_
      refine AnyB.take 3 (.agg #[.string ⟨nm.toArray⟩, .bool lk, .string ⟨hd.toArray⟩, .slice Ar nr cr, .slice Ap np cp]) rfl (by kernel_rfl) (by kernel_rfl) (by kernel_rfl) (fun _ _ _ h => h) (by kernel_rfl) (fun W hW => y_load (sv := .pointer (some ⟨wo.heap.size, 0, none⟩)) rfl (by kernel_rfl) (l_Fk W wo.heap.size 0 _ _ _ _ _ (D0.out W (LD.out.trans (hW.mono LD.out.size))) (D1.out W (LD.out.trans (hW.mono LD.out.size))) (D2.out W (LD.out.trans (hW.mono LD.out.size))) (D3.out W (LD.out.trans (hW.mono LD.out.size))) (D4.out W (LD.out.trans (hW.mono LD.out.size))))) ?_
      refine AnyB.call 4 62 #[.slice (some ⟨g, o, none⟩) k c, .agg #[.string ⟨nm.toArray⟩, .bool lk, .string ⟨hd.toArray⟩, .slice Ar nr cr, .slice Ap np cp]] (by kernel_rfl) rfl (by kernel_rfl) (by kernel_rfl) ?_
      refine (HM.out _ LD.out).mono ?_
      rintro e w7 ⟨rfl, hb7⟩
      have LD1 := Lib.hid (LD.out.trans (hb7.mono LD.out.size))
      refine ⟨_, rfl, hb7, ?_⟩
      refine AnyB.take 5 (.bool false) rfl (by kernel_rfl) (by kernel_rfl) (by kernel_rfl) (fun _ _ _ h => h) (by kernel_rfl) (fun W hW => by kernel_rfl) ?_
      refine AnyB.take 6 (.bool false) rfl (by kernel_rfl) (by kernel_rfl) (by kernel_rfl) (fun _ _ _ h => h) (by kernel_rfl) (fun W hW => by kernel_rfl) ?_
      refine AnyB.take 7 (.pointer (some ⟨wo.heap.size, 3, none⟩)) rfl (by kernel_rfl) (by kernel_rfl) (by kernel_rfl) (fun _ _ _ h => h) (by kernel_rfl) (fun W hW => y_field (sv := .pointer (some ⟨wo.heap.size, 0, none⟩)) rfl (by kernel_rfl) (f_f3z W wo.heap.size)) ?_
      refine AnyB.take 8 (.slice Ar nr cr) rfl (by kernel_rfl) (by kernel_rfl) (by kernel_rfl) (fun _ _ _ h => h) (by kernel_rfl) (fun W hW => y_load (sv := .pointer (some ⟨wo.heap.size, 3, none⟩)) rfl (by kernel_rfl) (l_Rl W wo.heap.size 3 Ar nr cr (D3.out W (LD1.out.trans (hW.mono LD1.out.size))))) ?_
      refine AnyB.call 9 63 #[.slice Ar nr cr] (by kernel_rfl) rfl (by kernel_rfl) (by kernel_rfl) ?_
      refine (HRf.out _ LD1.out).mono ?_
      rintro e w7 ⟨rfl, hb7⟩
      have LD12 := Lib.hid (LD1.out.trans (hb7.mono LD1.out.size))
      refine ⟨_, rfl, hb7, ?_⟩
      refine AnyB.take 10 (.bool false) rfl (by kernel_rfl) (by kernel_rfl) (by kernel_rfl) (fun _ _ _ h => h) (by kernel_rfl) (fun W hW => by kernel_rfl) ?_
      refine AnyB.take 11 (.bool false) rfl (by kernel_rfl) (by kernel_rfl) (by kernel_rfl) (fun _ _ _ h => h) (by kernel_rfl) (fun W hW => by kernel_rfl) ?_
      refine AnyB.take 12 (.bool false) rfl (by kernel_rfl) (by kernel_rfl) (by kernel_rfl) (fun _ _ _ h => h) (by kernel_rfl) (fun W hW => by kernel_rfl) ?_
      refine AnyB.take 13 (.pointer (some ⟨wo.heap.size, 4, none⟩)) rfl (by kernel_rfl) (by kernel_rfl) (by kernel_rfl) (fun _ _ _ h => h) (by kernel_rfl) (fun W hW => y_field (sv := .pointer (some ⟨wo.heap.size, 0, none⟩)) rfl (by kernel_rfl) (f_f4z W wo.heap.size)) ?_
      refine AnyB.take 14 (.slice Ap np cp) rfl (by kernel_rfl) (by kernel_rfl) (by kernel_rfl) (fun _ _ _ h => h) (by kernel_rfl) (fun W hW => y_load (sv := .pointer (some ⟨wo.heap.size, 4, none⟩)) rfl (by kernel_rfl) (l_Sl W wo.heap.size 4 Ap np cp (D4.out W (LD12.out.trans (hW.mono LD12.out.size))))) ?_
      refine AnyB.call 15 34 #[.slice Ap np cp] (by kernel_rfl) rfl (by kernel_rfl) (by kernel_rfl) ?_
      refine (HPk.out _ LD12.out).mono ?_
      rintro e w7 ⟨rfl, hb7⟩
      have LD123 := Lib.hid (LD12.out.trans (hb7.mono LD12.out.size))
      refine ⟨_, rfl, hb7, ?_⟩
      refine AnyB.take 16 (.bool true) rfl (by kernel_rfl) (by kernel_rfl) (by kernel_rfl) (fun _ _ _ h => h) (by kernel_rfl) (fun W hW => by kernel_rfl) ?_
      refine AnyB.take 17 (.bool true) rfl (by kernel_rfl) (by kernel_rfl) (by kernel_rfl) (fun _ _ _ h => h) (by kernel_rfl) (fun W hW => by kernel_rfl) ?_
      refine AnyB.done _ (by kernel_rfl) ?_
      go_simp
      have L9 := Lib.hid (L2.out.trans (LD123.out.mono L2.out.size))
      have HB := Lib.hid (HBad.out (by simp))
      clear HM HRf HPk HSt HBad D0 D1 D2 D3 D4 L2 HWB hok
      go_wp2_with fail
      go_ret
      exact ⟨ret_bool HB.out.symm, L9.out⟩
    | true =>
      refine AnyB.start (by kernel_rfl) ?_
      refine AnyB.take 0 (.slice (some ⟨g, o, none⟩) N c) rfl (by kernel_rfl) (by kernel_rfl) (by kernel_rfl) (fun _ _ _ h => h) (by kernel_rfl) (fun W hW => by kernel_rfl) ?_
      refine AnyB.take 1 (.int .i64 (k : Int)) rfl (by kernel_rfl) (by kernel_rfl) (by kernel_rfl) (fun _ _ _ h => h) (by kernel_rfl) (fun W hW => by kernel_rfl) ?_
      refine AnyB.take 2 (.slice (some ⟨g, o, none⟩) k c) rfl (by kernel_rfl) (by kernel_rfl) (by kernel_rfl) (fun _ _ _ h => h) (by kernel_rfl) (fun W hW => y_slice (xv := .slice (some ⟨g, o, none⟩) N c) (lv := none) (hv := some (.int .i64 (k : Int))) (mv := none) rfl (by kernel_rfl) rfl (by kernel_rfl) rfl (fcut_lo W (some ⟨g, o, none⟩) N c k hkc)) ?_
      refine AnyB.take 3 (.agg #[.string ⟨nm.toArray⟩, .bool lk, .string ⟨hd.toArray⟩, .slice Ar nr cr, .slice Ap np cp]) rfl (by kernel_rfl) (by kernel_rfl) (by kernel_rfl) (fun _ _ _ h => h) (by kernel_rfl) (fun W hW => y_load (sv := .pointer (some ⟨wo.heap.size, 0, none⟩)) rfl (by kernel_rfl) (l_Fk W wo.heap.size 0 _ _ _ _ _ (D0.out W (LD.out.trans (hW.mono LD.out.size))) (D1.out W (LD.out.trans (hW.mono LD.out.size))) (D2.out W (LD.out.trans (hW.mono LD.out.size))) (D3.out W (LD.out.trans (hW.mono LD.out.size))) (D4.out W (LD.out.trans (hW.mono LD.out.size))))) ?_
      refine AnyB.call 4 62 #[.slice (some ⟨g, o, none⟩) k c, .agg #[.string ⟨nm.toArray⟩, .bool lk, .string ⟨hd.toArray⟩, .slice Ar nr cr, .slice Ap np cp]] (by kernel_rfl) rfl (by kernel_rfl) (by kernel_rfl) ?_
      refine (HM.out _ LD.out).mono ?_
      rintro e w7 ⟨rfl, hb7⟩
      have LD1 := Lib.hid (LD.out.trans (hb7.mono LD.out.size))
      refine ⟨_, rfl, hb7, ?_⟩
      refine AnyB.take 5 (.bool false) rfl (by kernel_rfl) (by kernel_rfl) (by kernel_rfl) (fun _ _ _ h => h) (by kernel_rfl) (fun W hW => by kernel_rfl) ?_
      refine AnyB.take 6 (.bool false) rfl (by kernel_rfl) (by kernel_rfl) (by kernel_rfl) (fun _ _ _ h => h) (by kernel_rfl) (fun W hW => by kernel_rfl) ?_
      refine AnyB.take 7 (.pointer (some ⟨wo.heap.size, 3, none⟩)) rfl (by kernel_rfl) (by kernel_rfl) (by kernel_rfl) (fun _ _ _ h => h) (by kernel_rfl) (fun W hW => y_field (sv := .pointer (some ⟨wo.heap.size, 0, none⟩)) rfl (by kernel_rfl) (f_f3z W wo.heap.size)) ?_
      refine AnyB.take 8 (.slice Ar nr cr) rfl (by kernel_rfl) (by kernel_rfl) (by kernel_rfl) (fun _ _ _ h => h) (by kernel_rfl) (fun W hW => y_load (sv := .pointer (some ⟨wo.heap.size, 3, none⟩)) rfl (by kernel_rfl) (l_Rl W wo.heap.size 3 Ar nr cr (D3.out W (LD1.out.trans (hW.mono LD1.out.size))))) ?_
      refine AnyB.call 9 63 #[.slice Ar nr cr] (by kernel_rfl) rfl (by kernel_rfl) (by kernel_rfl) ?_
      refine (HRf.out _ LD1.out).mono ?_
      rintro e w7 ⟨rfl, hb7⟩
      have LD12 := Lib.hid (LD1.out.trans (hb7.mono LD1.out.size))
      refine ⟨_, rfl, hb7, ?_⟩
      refine AnyB.take 10 (.bool false) rfl (by kernel_rfl) (by kernel_rfl) (by kernel_rfl) (fun _ _ _ h => h) (by kernel_rfl) (fun W hW => by kernel_rfl) ?_
      refine AnyB.take 11 (.bool false) rfl (by kernel_rfl) (by kernel_rfl) (by kernel_rfl) (fun _ _ _ h => h) (by kernel_rfl) (fun W hW => by kernel_rfl) ?_
      refine AnyB.take 12 (.bool false) rfl (by kernel_rfl) (by kernel_rfl) (by kernel_rfl) (fun _ _ _ h => h) (by kernel_rfl) (fun W hW => by kernel_rfl) ?_
      refine AnyB.take 13 (.pointer (some ⟨wo.heap.size, 4, none⟩)) rfl (by kernel_rfl) (by kernel_rfl) (by kernel_rfl) (fun _ _ _ h => h) (by kernel_rfl) (fun W hW => y_field (sv := .pointer (some ⟨wo.heap.size, 0, none⟩)) rfl (by kernel_rfl) (f_f4z W wo.heap.size)) ?_
      refine AnyB.take 14 (.slice Ap np cp) rfl (by kernel_rfl) (by kernel_rfl) (by kernel_rfl) (fun _ _ _ h => h) (by kernel_rfl) (fun W hW => y_load (sv := .pointer (some ⟨wo.heap.size, 4, none⟩)) rfl (by kernel_rfl) (l_Sl W wo.heap.size 4 Ap np cp (D4.out W (LD12.out.trans (hW.mono LD12.out.size))))) ?_
      refine AnyB.call 15 34 #[.slice Ap np cp] (by kernel_rfl) rfl (by kernel_rfl) (by kernel_rfl) ?_
      refine (HPk.out _ LD12.out).mono ?_
      rintro e w7 ⟨rfl, hb7⟩
      have LD123 := Lib.hid (LD12.out.trans (hb7.mono LD12.out.size))
      refine ⟨_, rfl, hb7, ?_⟩
      refine AnyB.take 16 (.bool false) rfl (by kernel_rfl) (by kernel_rfl) (by kernel_rfl) (fun _ _ _ h => h) (by kernel_rfl) (fun W hW => by kernel_rfl) ?_
      refine AnyB.take 17 (.bool false) rfl (by kernel_rfl) (by kernel_rfl) (by kernel_rfl) (fun _ _ _ h => h) (by kernel_rfl) (fun W hW => by kernel_rfl) ?_
      refine AnyB.done _ (by kernel_rfl) ?_
      go_simp
      have L9 := Lib.hid (L2.out.trans (LD123.out.mono L2.out.size))
      have HS := Lib.hid (HSt.out rfl rfl rfl)
      clear LD LD1 LD12 LD123 HM HRf HPk HSt HBad D0 D1 D2 D3 D4 L2 HWB hok
      go_wp2_with fail
      go_roundw
      case rel => exact ⟨k + 1, by omega, by go_num, L9, HS⟩
      case measure => simp [intOf]; omega
end Go.Proofs.YtnboagmibhllpaaGreatDoor.Ro


namespace Go.Proofs.YtnboagmibhllpaaGreatDoor.Ro
open Go.Proofs.YtnboagmibhllpaaGreatDoor
open Go.Proofs.YtnboagmibhllpaaGreatDoor.Rf (BoolB Ref nameB linesL lineL RefsR OwR OwS Fit rightB rightB_yes rightB_no)
open Go Go.RowKit

theorem fksB_iff {l : List Fk} : fksB l = true ↔ l.length ≤ 16 ∧ FksOk l := by unfold fksB; simp
theorem rt_of {r : Rt} : RtOk r ↔ (0 ≤ r.count ∧ r.count ≤ 1099511627776) ∧ packsB r.pool = true ∧ fksB r.forks = true := by
  rw [packsB_iff, fksB_iff]
  exact ⟨fun h => ⟨⟨h.lo, h.hi⟩, h.pool, h.len, h.forks⟩, fun h => ⟨h.1.1, h.1.2, h.2.1, h.2.2.1, h.2.2.2⟩⟩
set_option maxRecDepth 100000 in
set_option maxHeartbeats 4000000 in
theorem Right_p (r : Rt) (v : Value) (w : World) (hv : RtR w v r) (hf : FitR r) : Calls Tryz.prog 16 #[v] w (BoolB (rtB r) w) := by
  obtain ⟨A, c, B, d, rfl, hp, hk⟩ := hv.parts
  obtain ⟨n, hn⟩ : ∃ n, n = r.pool.length := ⟨_, rfl⟩
  obtain ⟨m, hm⟩ : ∃ m, m = r.forks.length := ⟨_, rfl⟩
  obtain ⟨z, hz⟩ : ∃ z, z = r.count := ⟨_, rfl⟩
  rw [← hn] at hp
  rw [← hm] at hk
  rw [← hn, ← hm, ← hz]
  obtain ⟨b, hb⟩ : ∃ b, b = rtB r := ⟨_, rfl⟩
  rw [← hb]
  obtain ⟨wB, hwB⟩ : ∃ y, y = w.alloc (.cells #[.int .i64 z, .slice A n c, .slice B m d] 25) := ⟨_, rfl⟩
  have lB : Below w.heap.size w wB := by rw [hwB]; exact below_new _ _
  have sB : w.heap.size < wB.heap.size := by rw [hwB]; simp
  have HP : Hid (∀ W, Below wB.heap.size wB W → Calls Tryz.prog 34 #[.slice A n c] W (BoolB (packsB r.pool) W)) := Lib.hid fun W hW => arePacks_p r.pool _ W (RdK.below (RdK.below hp lB (Nat.le_refl _)) hW (Nat.le_refl _)) hf.pool hf.plen
  have HK : Hid (∀ W, Below wB.heap.size wB W → Calls Tryz.prog 35 #[.slice B m d] W (BoolB (fksB r.forks) W)) := Lib.hid fun W hW => areForks_p r.forks _ W ((hk.below lB (Nat.le_refl _)).below hW (Nat.le_refl _)) hf.forks hf.flen
  have c1 : wB.cell? ⟨w.heap.size, 1, none⟩ = some (.slice A n c) := by rw [hwB]; simp
  have c2 : wB.cell? ⟨w.heap.size, 2, none⟩ = some (.slice B m d) := by rw [hwB]; simp
  have c0 : wB.cell? ⟨w.heap.size, 0, none⟩ = some (.int .i64 z) := by rw [hwB]; simp
  have C2 : Hid (∀ W, Below wB.heap.size wB W → W.cell? ⟨w.heap.size, 2, none⟩ = some (.slice B m d)) := Lib.hid fun W h => (h.cell (p := ⟨w.heap.size, 2, none⟩) sB).trans c2
  have LB := Lib.hid lB; have HWB := Lib.hid hwB
  obtain ⟨p, hp2⟩ : ∃ p, p = packsB r.pool := ⟨_, rfl⟩
  obtain ⟨k, hk2⟩ : ∃ k, k = fksB r.forks := ⟨_, rfl⟩
  rw [← hp2] at HP
  rw [← hk2] at HK
  have HYes : Hid (0 ≤ z → z ≤ 1099511627776 → p = true → k = true → b = true) := Lib.hid fun h1 h2 h3 h4 => by
    rw [hb]; exact rtB_iff.2 (rt_of.2 ⟨⟨by rw [← hz]; exact h1, by rw [← hz]; exact h2⟩, by rw [← hp2]; exact h3, by rw [← hk2]; exact h4⟩)
  have HNo : Hid ((¬ 0 ≤ z ∨ ¬ z ≤ 1099511627776 ∨ p = false ∨ k = false) → b = false) := Lib.hid fun h => by
    rw [hb]
    refine rtB_no fun hr => ?_
    obtain ⟨⟨h1, h2⟩, h3, h4⟩ := rt_of.1 hr
    rw [← hz] at h1 h2
    rw [← hp2] at h3
    rw [← hk2] at h4
    rcases h with h | h | h | h
    · exact h h1
    · exact h h2
    · rw [h3] at h; cases h
    · rw [h4] at h; cases h
  clear hp hk hf hn hm hz hb hwB lB sB hp2 hk2 c2
  go_enter Tryz.func16, Tryz.ntmps16
  go_upto_region 1 with fail
  try rw [← HWB.out]
  by_cases h0 : 0 ≤ z
  case neg =>
    have HB := Lib.hid (HNo.out (.inl h0))
    clear HNo HYes HP HK
    go_wp2_with fail
    go_ret
    exact ⟨ret_bool HB.out.symm, LB.out⟩
  by_cases h1 : z ≤ 1099511627776
  case neg =>
    have HB := Lib.hid (HNo.out (.inr (.inl h1)))
    clear HNo HYes HP HK
    go_wp2_with fail
    go_ret
    exact ⟨ret_bool HB.out.symm, LB.out⟩
  cases p with
  | false =>
    have HB := Lib.hid (HNo.out (.inr (.inr (.inl rfl))))
    clear HNo HYes HK
    go_wp2_with fail
    refine (HP.out wB (Below.refl _ _)).mono ?_
    rintro e w1 ⟨rfl, l1⟩
    have L1 := Lib.hid l1
    clear l1
    go_wp2_with fail
    go_ret
    exact ⟨ret_bool HB.out.symm, LB.out.trans (L1.out.mono LB.out.size)⟩
  | true =>
  have HB : Hid (b = k) := Lib.hid (by
    cases k with
    | false => exact HNo.out (.inr (.inr (.inr rfl)))
    | true => exact HYes.out h0 h1 rfl rfl)
  clear HNo HYes
  go_wp2_with fail
  refine (HP.out wB (Below.refl _ _)).mono ?_
  rintro e w1 ⟨rfl, l1⟩
  have c2 := C2.out w1 l1
  have L1 := Lib.hid l1
  clear l1 c0 c1
  go_wp2_with fail
  refine (HK.out w1 L1.out).mono ?_
  rintro e w2 ⟨rfl, l2⟩
  have L2 := Lib.hid (L1.out.trans (l2.mono L1.out.size))
  clear l2 c2
  go_wp2_with fail
  go_ret
  exact ⟨ret_bool HB.out.symm, LB.out.trans (L2.out.mono LB.out.size)⟩
end Go.Proofs.YtnboagmibhllpaaGreatDoor.Ro
