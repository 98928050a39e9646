/-
  The document's root: Right.
-/
import Derived.Test.YtnboagmibhllpaaGreatDoorC20
import Derived.Test.YtnboagmibhllpaaGreatDoorRDocR
import Derived.Test.YtnboagmibhllpaaGreatDoorODocB
import Derived.Test.YtnboagmibhllpaaGreatDoorODocC
namespace Go.Proofs.YtnboagmibhllpaaGreatDoor.Ro
open Go.Proofs.YtnboagmibhllpaaGreatDoor
open Go.Proofs.YtnboagmibhllpaaGreatDoor.Rf (BoolB Ref RefsR nameB)
open Go.Proofs.YtnboagmibhllpaaGreatDoor.Rf (nameB rightB)
open Go Go.RowKit

theorem geS9 (W : World) (x y : Bs) (b : Bool) (h : decide (x < y) = !b) : (binOp .geq 9 (.string ⟨x.toArray⟩) (.string ⟨y.toArray⟩)).run Tryz.prog W = .ok (.bool b) W := by
  show (Op.stringOp .geq _ _).run _ _ = _
  have e := Go.Proofs.bytesLess_eq x y
  rw [h] at e
  simp [go_sem, Op.stringOp, e]
theorem f_r29 (W : World) (b : Nat) : (Instr.fieldAt 25 (.pointer (some ⟨b, 0, none⟩)) 2).run Tryz.prog W = .ok (.pointer (some ⟨b, 2, none⟩)) W := by simp [go_sem]
theorem l_Fs9 (W : World) (b o : Nat) (A : Option Addr) (n c : Nat) (h : W.cell? ⟨b, o, none⟩ = some (.slice A n c)) : (Instr.loadAt 23 (.pointer (some ⟨b, o, none⟩))).run Tryz.prog W = .ok (.slice A n c) W := by simp [go_sem, h]
theorem gtr9 (W : World) (k : Nat) (b : Bool) (h : decide (0 < k) = b) : (binOp .gtr 3 (.int .i64 (k : Int)) (.int .i64 0)).run Tryz.prog W = .ok (.bool b) W := by
  cases b with
  | true =>
    have h1 : (0 : Int) < (k : Int) := by have := of_decide_eq_true h; omega
    simp [go_sem]; omega
  | false =>
    have h1 : ¬ (0 : Int) < (k : Int) := by have := of_decide_eq_false h; omega
    simp [go_sem]; omega
theorem sub9 (W : World) (k : Nat) (h1 : 1 ≤ k) (h : k ≤ 1000000 := by omega) : (binOp .sub 3 (.int .i64 (k : Int)) (.int .i64 1)).run Tryz.prog W = .ok (.int .i64 ((k - 1 : Nat) : Int)) W := by
  have h : IntKind.i64.wrap ((k : Int) - 1) = ((k - 1 : Nat) : Int) := by
    rw [show (k : Int) - 1 = ((k - 1 : Nat) : Int) by omega]
    exact IntWalk.i64_in _ (by omega)
  simp [go_sem, h]
theorem rises_at {l : List Fk} {k : Nat} {f : Fk} {nm : Bs} (h : 1 ≤ k) (hf : l[k - 1]? = some f) : risesB (l.take k) nm = decide (f.name < nm) := by
  unfold risesB
  have : (l.take k).getLast? = some f := by
    rw [List.getLast?_eq_getElem?, List.length_take, List.getElem?_take]
    have hl := (List.getElem?_eq_some_iff.1 hf).1
    rw [Nat.min_eq_left (by omega), if_pos (by omega), hf]
  rw [this]
theorem parts_two : ∀ {s p q : Bs} {R : List Bs}, Rf.parts s = p :: q :: R → ∃ t, s = p ++ 47 :: t
  | [], p, q, R, h => by rw [Rf.parts] at h; cases h
  | c :: s, p, q, R, h => by
    by_cases hc : c = 47
    · subst hc
      rw [Rf.parts_slash] at h
      obtain ⟨rfl, _⟩ := List.cons.inj h
      exact ⟨s, rfl⟩
    · cases hp : Rf.parts s with
      | nil => exact absurd hp (Rf.parts_ne s)
      | cons p' r =>
        rw [Rf.parts_cons c hc s p' r hp] at h
        obtain ⟨rfl, rfl⟩ := List.cons.inj h
        obtain ⟨t, ht⟩ := parts_two hp
        exact ⟨t, by rw [ht]; rfl⟩
theorem hd_no {s : Bs} (h : nameB s = false) : headB s = false := by unfold headB; rw [h]; rfl
theorem hd_first {s : Bs} (h : nameB s = true) : ∃ y, s[0]? = some y ∧ headB s = decide (y = 104) := by
  have h' := h
  unfold nameB at h'
  simp only [Bool.and_eq_true, decide_eq_true_eq] at h'
  obtain ⟨⟨⟨_, h2, _⟩, h3⟩, _⟩ := h'
  cases hp : Rf.parts s with
  | nil => exact absurd hp (Rf.parts_ne s)
  | cons p r =>
    cases r with
    | nil => rw [hp] at h2; simp at h2
    | cons q R =>
      obtain ⟨t, rfl⟩ := parts_two hp
      rw [hp] at h3
      unfold Rf.firstB at h3
      simp only [List.headD_cons, Bool.or_eq_true, beq_iff_eq] at h3
      unfold headB
      rw [h, Bool.true_and]
      rcases h3 with rfl | rfl
      · exact ⟨104, rfl, by simp [wHd, Rf.wHeads, List.isPrefixOf]⟩
      · exact ⟨116, rfl, by simp [wHd, Rf.wTags, List.isPrefixOf]⟩
set_option maxRecDepth 100000 in
set_option maxHeartbeats 16000000 in
theorem RRight10 (r0 : Rt) (v : Value) (w : World) (hv : RtR w v r0) (hf : FitR r0) : Calls Tryz.prog 17 #[v] w (BoolB (rtB r0) w) := by
  obtain ⟨A, c, B, d, rfl, hp, hk⟩ := hv.parts
  obtain ⟨l, hl⟩ : ∃ l, l = r0.forks := ⟨_, rfl⟩
  obtain ⟨n, hn⟩ : ∃ n, n = r0.pool.length := ⟨_, rfl⟩
  obtain ⟨m, hm⟩ : ∃ m, m = r0.forks.length := ⟨_, rfl⟩
  obtain ⟨z, hz⟩ : ∃ z, z = r0.count := ⟨_, rfl⟩
  rw [← hn] at hp
  rw [← hm] at hk
  rw [← hn, ← hm, ← hz]
  obtain ⟨b, hb⟩ : ∃ b, b = rtB r0 := ⟨_, rfl⟩
  rw [← hb]
  obtain ⟨wA, hwA⟩ : ∃ y, y = w.alloc (.cells #[.int .i64 z, .slice A n c, .slice B m d] 25) := ⟨_, rfl⟩
  have lA : Below w.heap.size w wA := by rw [hwA]; exact below_new _ _
  have sA : w.heap.size < wA.heap.size := by rw [hwA]; simp
  have HP : Hid (∀ W, Below wA.heap.size wA W → Calls Tryz.prog 36 #[.slice A n c] W (BoolB (packsB r0.pool) W)) := Lib.hid fun W hW => Rpacks10 r0.pool _ W (RdK.below (RdK.below hp lA (Nat.le_refl _)) hW (Nat.le_refl _)) hf.pool hf.plen
  have HV : Hid (∀ W, Below wA.heap.size wA W → FksR W (.slice B m d) l) := Lib.hid fun W hW => by rw [hl]; exact (hk.below lA (Nat.le_refl _)).below hW (Nat.le_refl _)
  have c1 : wA.cell? ⟨w.heap.size, 1, none⟩ = some (.slice A n c) := by rw [hwA]; simp
  have c2 : wA.cell? ⟨w.heap.size, 2, none⟩ = some (.slice B m d) := by rw [hwA]; simp
  have c0 : wA.cell? ⟨w.heap.size, 0, none⟩ = some (.int .i64 z) := by rw [hwA]; simp
  have CC2 : Hid (∀ W, Below wA.heap.size wA W → W.cell? ⟨w.heap.size, 2, none⟩ = some (.slice B m d)) := Lib.hid fun W h => (h.cell (p := ⟨w.heap.size, 2, none⟩) sA).trans c2
  have LB := Lib.hid lA; have HWA := Lib.hid hwA
  obtain ⟨q, hq2⟩ : ∃ p, p = packsB r0.pool := ⟨_, rfl⟩
  rw [← hq2] at HP
  have HN : Hid (m = l.length) := Lib.hid (by rw [hl]; exact hm)
  have HF : Hid (∀ f ∈ l, FitF f) := Lib.hid (by rw [hl]; exact hf.forks)
  have HYes : Hid (0 ≤ z → z ≤ 1099511627776 → q = true → m ≤ 16 → FksOk l → b = true) := Lib.hid fun h1 h2 h3 h4 h5 => by
    rw [hb]; exact rtB_iff.2 ⟨by rw [← hz]; exact h1, by rw [← hz]; exact h2, packsB_iff.1 (by rw [← hq2]; exact h3), by rw [← hm]; exact h4, by rw [← hl]; exact h5⟩
  have HNo : Hid ((¬ 0 ≤ z ∨ ¬ z ≤ 1099511627776 ∨ q = false ∨ ¬ m ≤ 16 ∨ ¬ FksOk l) → b = false) := Lib.hid fun h => by
    rw [hb]
    refine rtB_no fun hr => ?_
    rcases h with h | h | h | h | h
    · exact h (by rw [hz]; exact hr.lo)
    · exact h (by rw [hz]; exact hr.hi)
    · rw [hq2, packsB_iff.2 hr.pool] at h; cases h
    · exact h (by rw [hm]; exact hr.len)
    · exact h (by rw [hl]; exact hr.forks)
  have hml : m ≤ 1000000 := by rw [hm]; exact hf.flen
  clear hp hk hf hn hm hz hb hwA lA sA hq2 hl hv
  go_enter Tryz.func17, Tryz.ntmps17
  go_upto_region 1 with fail
  try rw [← HWA.out]
  by_cases h0 : 0 ≤ z
  case neg =>
    have h0' : z < 0 := by omega
    have HB := Lib.hid (HNo.out (.inl h0))
    clear HNo HYes HP HV HF
    go_wp2_with fail
    go_ret
    exact ⟨ret_bool HB.out.symm, LB.out⟩
  have h0' : ¬ z < 0 := by omega
  by_cases h1 : z ≤ 1099511627776
  case neg =>
    have h1' : 1099511627776 < z := by omega
    have HB := Lib.hid (HNo.out (.inr (.inl h1)))
    clear HNo HYes HP HV HF
    go_wp2_with fail
    go_ret
    exact ⟨ret_bool HB.out.symm, LB.out⟩
  have h1' : ¬ 1099511627776 < z := by omega
  cases q with
  | false =>
    have HB := Lib.hid (HNo.out (.inr (.inr (.inl rfl))))
    clear HNo HYes HV HF
    go_wp2_with fail
    refine (HP.out wA (Below.refl _ _)).mono ?_
    rintro e w1 ⟨rfl, l1⟩
    have L1 := Lib.hid l1
    clear l1
    go_wp2_with fail
    go_ret
    exact ⟨ret_bool HB.out.symm, LB.out.trans (L1.out.mono LB.out.size)⟩
  | true =>
  go_wp2_with fail
  refine (HP.out wA (Below.refl _ _)).mono ?_
  rintro e w1 ⟨rfl, l1⟩
  have c2 := CC2.out w1 l1
  have L1 := Lib.hid l1
  clear l1 c0 c1 HP
  by_cases h16 : m ≤ 16
  case neg =>
    have h16' : 16 < (m : Int) := by omega
    have HB := Lib.hid (HNo.out (.inr (.inr (.inr (.inl h16)))))
    clear HNo HYes HV HF
    go_wp2_with fail
    go_ret
    exact ⟨ret_bool HB.out.symm, LB.out.trans (L1.out.mono LB.out.size)⟩
  have h16' : ¬ 16 < (m : Int) := by omega
  have HY : Hid (FksOk l → b = true) := Lib.hid (HYes.out h0 h1 (by simp) h16)
  have HNf : Hid (¬ FksOk l → b = false) := Lib.hid fun h => HNo.out (.inr (.inr (.inr (.inr h))))
  clear HNo HYes h0 h1 h0' h1' HWA
  go_wp2_with fail
  go_loopw [3, 4] (fun i _ wr => ∃ k : Nat, k ≤ m ∧ i = .int .i64 k ∧ Hid (Below wA.heap.size wA wr) ∧ Hid (FksOk (l.take k))) (fun i _ _ => m - (intOf i).toNat)
  case atStart => exact ⟨0, Nat.zero_le _, rfl, L1, Lib.hid (by rw [List.take_zero]; exact FksOk.nil)⟩
  case round =>
    clear c2 L1
    obtain ⟨wo, hwo⟩ : ∃ wo, wo = wr := ⟨_, rfl⟩
    subst hwo
    obtain ⟨k, hk, rfl, hB, hok⟩ := hrel
    have c2 := CC2.out wo hB.out
    by_cases hlt : k < m
    case neg =>
      have hkN : k = m := by omega
      have hkI : ¬ (k : Int) < (m : Int) := by omega
      have HB := Lib.hid (HY.out (by have h := hok.out; rw [hkN, HN.out, List.take_length] at h; exact h))
      have L9 := Lib.hid hB.out
      clear hkN hok HV HF HY HNf CC2 hB
      go_wp2_with fail
      go_ret
      exact ⟨ret_bool HB.out.symm, LB.out.trans (L9.out.mono LB.out.size)⟩
    have hkI : (k : Int) < (m : Int) := by omega
    obtain ⟨g, o, c', e, hNc, hg⟩ := (HV.out wo hB.out).pos (by have := HN.out; omega)
    obtain rfl : B = some ⟨g, o, none⟩ := by rw [← HN.out] at e; cases e; rfl
    clear e hNc
    obtain ⟨f, hfx⟩ : ∃ f, l[k]? = some f := ⟨_, List.getElem?_eq_getElem (by have := HN.out; omega)⟩
    have hV := HV.out wo hB.out
    obtain ⟨x, hx, d0, d1, d2, d3, d4⟩ := hV.at hfx
    have hft := HF.out f (List.mem_of_getElem? hfx)
    obtain ⟨wB, hwB⟩ : ∃ z, z = wo.alloc (.cells (fkC x).toArray 42) := ⟨_, rfl⟩
    have lB : Below wo.heap.size wo wB := by rw [hwB]; exact below_new _ _
    have sB : wo.heap.size < wB.heap.size := by rw [hwB]; simp
    have hxB := hx.below lB (Nat.le_refl _)
    have HV2 : Hid (FksR wB (.slice (some ⟨g, o, none⟩) m d) l) := Lib.hid (hV.below lB (Nat.le_refl _))
    have Hgs : Hid (g < wB.heap.size) := Lib.hid (Nat.lt_of_lt_of_le hg lB.size)
    have HNm : Hid (∀ W, Below wB.heap.size wB W → Calls Tryz.prog 20 #[SV x.name] W (BoolB (forkB x.name) W)) := Lib.hid fun W hW =>
      (RNamed10 x.name W (by rw [hx.name]; exact hft.name)).mono fun e w' h => ⟨h.1, by rw [← h.2]; exact Below.refl _ _⟩
    have HHd : Hid (∀ W t, nameB x.head = t → Calls Tryz.prog 38 #[SV x.head] W fun e w' => e = .returned (.bool t) ∧ W = w') := Lib.hid fun W t h => by
      rw [← h]; exact Rf.RNmd_any x.head W (by rw [hx.head]; exact hft.head)
    have HRf : Hid (∀ W, Below wB.heap.size wB W → Calls Tryz.prog 37 #[x.rv] W (BoolB (rightB f.refs) W)) := Lib.hid fun W hW =>
      Rf.RRight_any f.refs _ W (RdK.below hxB.refs hW (Nat.le_refl _)) hft.refs hft.rlen
    have HPk : Hid (∀ W, Below wB.heap.size wB W → Calls Tryz.prog 36 #[x.pv] W (BoolB (packsB f.packs) W)) := Lib.hid fun W hW =>
      Rpacks10 f.packs _ W (RdK.below hxB.packs hW (Nat.le_refl _)) hft.packs hft.plen
    have dl := fun (i : Nat) (u : Value) (hi : (fkC x)[i]? = some u) => (show Hid (∀ W, Below wB.heap.size wB W → W.cell? ⟨wo.heap.size, i, none⟩ = some u) from Lib.hid fun W h => (h.cell (p := ⟨wo.heap.size, i, none⟩) sB).trans (by rw [hwB, cell_of_row _ _ _ _ _ _ (heap_alloc_new wo _)]; simpa using hi))
    have D0 := dl 0 _ rfl; have D1 := dl 1 _ rfl; have D2 := dl 2 _ rfl; have D3 := dl 3 _ rfl; have D4 := dl 4 _ rfl
    have L2 : Hid (Below wA.heap.size wA wB) := Lib.hid (hB.out.trans (lB.mono hB.out.size))
    have C2 : Hid (∀ W, Below wB.heap.size wB W → W.cell? ⟨w.heap.size, 2, none⟩ = some (.slice (some ⟨g, o, none⟩) m d)) := Lib.hid fun W h => CC2.out W (L2.out.trans (h.mono L2.out.size))
    have HSt : Hid (forkB x.name = true → risesB (l.take k) x.name = true → packsB f.packs = true → rightB f.refs = true → headB x.head = true → FksOk (l.take (k + 1))) := Lib.hid fun h1 h2 h3 h4 h5 => by
      have h6 := mayB_iff.1 (show mayB (l.take k) x.name x.head = true by unfold mayB; rw [h1, h2, h5]; rfl)
      rw [hx.name, hx.head] at h6
      rw [List.take_add_one, hfx, Option.toList_some]
      exact hok.out.snoc ⟨h6.2.1, h6.2.2, right_eq.1 h4, packsB_iff.1 h3⟩ h6
    have HBad : Hid (forkB x.name = false ∨ risesB (l.take k) x.name = false ∨ packsB f.packs = false ∨ rightB f.refs = false ∨ headB x.head = false → b = false) := Lib.hid fun h => HNf.out fun hok => by
      obtain ⟨h1, h2⟩ := fks_at hok hfx
      rw [← hx.name, ← hx.head] at h1
      have h3 := mayB_iff.2 h1
      unfold mayB at h3
      simp only [Bool.and_eq_true] at h3
      rcases h with h | h | h | h | h
      · rw [h3.2.1] at h; cases h
      · rw [h3.1] at h; cases h
      · rw [packsB_iff.2 h2.packs] at h; cases h
      · rw [right_eq.2 h2.refs] at h; cases h
      · rw [h3.2.2] at h; cases h
    obtain ⟨nb, hnb⟩ : ∃ m, m = forkB x.name := ⟨_, rfl⟩
    obtain ⟨r, hr⟩ : ∃ r, r = rightB f.refs := ⟨_, rfl⟩
    obtain ⟨p, hp⟩ : ∃ p, p = packsB f.packs := ⟨_, rfl⟩
    rw [← hnb] at HNm HSt HBad
    rw [← hr] at HRf HSt HBad
    rw [← hp] at HPk HSt HBad
    obtain ⟨Ar, cr, er⟩ := RdK.shape hx.refs
    obtain ⟨Ap, cp, ep⟩ := RdK.shape hx.packs
    obtain ⟨nr, hnr⟩ : ∃ n, n = f.refs.length := ⟨_, rfl⟩
    obtain ⟨np, hnp⟩ : ∃ n, n = f.packs.length := ⟨_, rfl⟩
    rw [← hnr] at er
    rw [← hnp] at ep
    have HWB := Lib.hid hwB
    clear hfx hV hx hft hwB lB sB hxB dl hnb hr hp hnr hnp hg
    obtain ⟨nm, lk, hd, rv, pv⟩ := x
    simp only at er ep
    subst er
    subst ep
    unfold fkC at HWB
    simp only [SV, List.toArray] at d0 d1 d2 d3 d4 HNm HRf HPk HWB D0 D1 D2 D3 D4 HHd HSt HBad
    go_upto_region 7 with fail
    try rw [← HWB.out]
    have LD : Hid (Below wB.heap.size wB wB.drew) := Lib.hid (bdr (Below.refl _ _) 1)
    clear d0 d1 d2 d3 d4 hB c2 HV HF HY HNf CC2
    cases nb with
    | false =>
      refine AnyB.start (by kernel_rfl) ?_
      refine AnyB.take 0 (.pointer (some ⟨wo.heap.size, 0, none⟩)) rfl (by kernel_rfl) (by kernel_rfl) (by kernel_rfl) (fun _ _ _ h => h) (by kernel_rfl) (fun W hW => y_field (sv := .pointer (some ⟨wo.heap.size, 0, none⟩)) rfl (by kernel_rfl) (f_f0z W wo.heap.size)) ?_
      refine AnyB.take 1 (.string ⟨nm.toArray⟩) rfl (by kernel_rfl) (by kernel_rfl) (by kernel_rfl) (fun _ _ _ h => h) (by kernel_rfl) (fun W hW => y_load (sv := .pointer (some ⟨wo.heap.size, 0, none⟩)) rfl (by kernel_rfl) (l_S W wo.heap.size 0 nm (D0.out W (LD.out.trans (hW.mono LD.out.size))))) ?_
      refine AnyB.call 2 20 #[.string ⟨nm.toArray⟩] (by kernel_rfl) rfl (by kernel_rfl) (by kernel_rfl) ?_
      refine (HNm.out _ LD.out).mono ?_
      rintro e w7 ⟨rfl, hb7⟩
      have LD1 := Lib.hid (LD.out.trans (hb7.mono LD.out.size))
      refine ⟨_, rfl, hb7, ?_⟩
      refine AnyB.take 3 (.bool true) rfl (by kernel_rfl) (by kernel_rfl) (by kernel_rfl) (fun _ _ _ h => h) (by kernel_rfl) (fun W hW => by kernel_rfl) ?_
      refine AnyB.take 4 (.bool true) rfl (by kernel_rfl) (by kernel_rfl) (by kernel_rfl) (fun _ _ _ h => h) (by kernel_rfl) (fun W hW => by kernel_rfl) ?_
      refine AnyB.skip 5 rfl (by kernel_rfl) (by kernel_rfl) (by kernel_rfl) (fun _ _ _ h => h) (by kernel_rfl) ?_
      refine AnyB.skip 6 rfl (by kernel_rfl) (by kernel_rfl) (by kernel_rfl) (fun _ _ _ h => h) (by kernel_rfl) ?_
      refine AnyB.skip 7 rfl (by kernel_rfl) (by kernel_rfl) (by kernel_rfl) (fun _ _ _ h => h) (by kernel_rfl) ?_
      refine AnyB.skip 8 rfl (by kernel_rfl) (by kernel_rfl) (by kernel_rfl) (fun _ _ _ h => h) (by kernel_rfl) ?_
      refine AnyB.skip 9 rfl (by kernel_rfl) (by kernel_rfl) (by kernel_rfl) (fun _ _ _ h => h) (by kernel_rfl) ?_
      refine AnyB.skip 10 rfl (by kernel_rfl) (by kernel_rfl) (by kernel_rfl) (fun _ _ _ h => h) (by kernel_rfl) ?_
      refine AnyB.skip 11 rfl (by kernel_rfl) (by kernel_rfl) (by kernel_rfl) (fun _ _ _ h => h) (by kernel_rfl) ?_
      refine AnyB.skip 12 rfl (by kernel_rfl) (by kernel_rfl) (by kernel_rfl) (fun _ _ _ h => h) (by kernel_rfl) ?_
      refine AnyB.skip 13 rfl (by kernel_rfl) (by kernel_rfl) (by kernel_rfl) (fun _ _ _ h => h) (by kernel_rfl) ?_
      refine AnyB.skip 14 rfl (by kernel_rfl) (by kernel_rfl) (by kernel_rfl) (fun _ _ _ h => h) (by kernel_rfl) ?_
      refine AnyB.skip 15 rfl (by kernel_rfl) (by kernel_rfl) (by kernel_rfl) (fun _ _ _ h => h) (by kernel_rfl) ?_
      refine AnyB.skip 16 rfl (by kernel_rfl) (by kernel_rfl) (by kernel_rfl) (fun _ _ _ h => h) (by kernel_rfl) ?_
      refine AnyB.skip 17 rfl (by kernel_rfl) (by kernel_rfl) (by kernel_rfl) (fun _ _ _ h => h) (by kernel_rfl) ?_
      refine AnyB.skip 18 rfl (by kernel_rfl) (by kernel_rfl) (by kernel_rfl) (fun _ _ _ h => h) (by kernel_rfl) ?_
      refine AnyB.take 19 (.bool true) rfl (by kernel_rfl) (by kernel_rfl) (by kernel_rfl) (fun _ _ _ h => h) (by kernel_rfl) (fun W hW => by kernel_rfl) ?_
      refine AnyB.take 20 (.bool true) rfl (by kernel_rfl) (by kernel_rfl) (by kernel_rfl) (fun _ _ _ h => h) (by kernel_rfl) (fun W hW => by kernel_rfl) ?_
      refine AnyB.skip 21 rfl (by kernel_rfl) (by kernel_rfl) (by kernel_rfl) (fun _ _ _ h => h) (by kernel_rfl) ?_
      refine AnyB.skip 22 rfl (by kernel_rfl) (by kernel_rfl) (by kernel_rfl) (fun _ _ _ h => h) (by kernel_rfl) ?_
      refine AnyB.skip 23 rfl (by kernel_rfl) (by kernel_rfl) (by kernel_rfl) (fun _ _ _ h => h) (by kernel_rfl) ?_
      refine AnyB.skip 24 rfl (by kernel_rfl) (by kernel_rfl) (by kernel_rfl) (fun _ _ _ h => h) (by kernel_rfl) ?_
      refine AnyB.take 25 (.bool true) rfl (by kernel_rfl) (by kernel_rfl) (by kernel_rfl) (fun _ _ _ h => h) (by kernel_rfl) (fun W hW => by kernel_rfl) ?_
      refine AnyB.take 26 (.bool true) rfl (by kernel_rfl) (by kernel_rfl) (by kernel_rfl) (fun _ _ _ h => h) (by kernel_rfl) (fun W hW => by kernel_rfl) ?_
      refine AnyB.skip 27 rfl (by kernel_rfl) (by kernel_rfl) (by kernel_rfl) (fun _ _ _ h => h) (by kernel_rfl) ?_
      refine AnyB.skip 28 rfl (by kernel_rfl) (by kernel_rfl) (by kernel_rfl) (fun _ _ _ h => h) (by kernel_rfl) ?_
      refine AnyB.skip 29 rfl (by kernel_rfl) (by kernel_rfl) (by kernel_rfl) (fun _ _ _ h => h) (by kernel_rfl) ?_
      refine AnyB.skip 30 rfl (by kernel_rfl) (by kernel_rfl) (by kernel_rfl) (fun _ _ _ h => h) (by kernel_rfl) ?_
      refine AnyB.take 31 (.bool true) rfl (by kernel_rfl) (by kernel_rfl) (by kernel_rfl) (fun _ _ _ h => h) (by kernel_rfl) (fun W hW => by kernel_rfl) ?_
      refine AnyB.done _ (by kernel_rfl) ?_
      go_simp
      have L9 := Lib.hid (L2.out.trans (LD1.out.mono L2.out.size))
      have HB := Lib.hid (HBad.out (by simp))
      clear HNm HRf HPk HSt HBad D0 D1 D3 D4 L2 HWB hok HHd D2
      go_wp2_with fail
      go_ret
      exact ⟨ret_bool HB.out.symm, LB.out.trans (L9.out.mono LB.out.size)⟩
    | true =>
    by_cases hk00 : k = 0
    · have hk0 : decide (0 < k) = false := decide_eq_false (by omega)
      have HQ0 : Hid (risesB (l.take k) nm = true) := Lib.hid (by rw [hk00]; rfl)
      cases p with
      | false =>
        refine AnyB.start (by kernel_rfl) ?_
        refine AnyB.take 0 (.pointer (some ⟨wo.heap.size, 0, none⟩)) rfl (by kernel_rfl) (by kernel_rfl) (by kernel_rfl) (fun _ _ _ h => h) (by kernel_rfl) (fun W hW => y_field (sv := .pointer (some ⟨wo.heap.size, 0, none⟩)) rfl (by kernel_rfl) (f_f0z W wo.heap.size)) ?_
        refine AnyB.take 1 (.string ⟨nm.toArray⟩) rfl (by kernel_rfl) (by kernel_rfl) (by kernel_rfl) (fun _ _ _ h => h) (by kernel_rfl) (fun W hW => y_load (sv := .pointer (some ⟨wo.heap.size, 0, none⟩)) rfl (by kernel_rfl) (l_S W wo.heap.size 0 nm (D0.out W (LD.out.trans (hW.mono LD.out.size))))) ?_
        refine AnyB.call 2 20 #[.string ⟨nm.toArray⟩] (by kernel_rfl) rfl (by kernel_rfl) (by kernel_rfl) ?_
        refine (HNm.out _ LD.out).mono ?_
        rintro e w7 ⟨rfl, hb7⟩
        have LD1 := Lib.hid (LD.out.trans (hb7.mono LD.out.size))
        refine ⟨_, rfl, hb7, ?_⟩
        refine AnyB.take 3 (.bool false) rfl (by kernel_rfl) (by kernel_rfl) (by kernel_rfl) (fun _ _ _ h => h) (by kernel_rfl) (fun W hW => by kernel_rfl) ?_
        refine AnyB.take 4 (.bool false) rfl (by kernel_rfl) (by kernel_rfl) (by kernel_rfl) (fun _ _ _ h => h) (by kernel_rfl) (fun W hW => by kernel_rfl) ?_
        refine AnyB.take 5 (.int .i64 (k : Int)) rfl (by kernel_rfl) (by kernel_rfl) (by kernel_rfl) (fun _ _ _ h => h) (by kernel_rfl) (fun W hW => by kernel_rfl) ?_
        refine AnyB.take 6 (.bool false) rfl (by kernel_rfl) (by kernel_rfl) (by kernel_rfl) (fun _ _ _ h => h) (by kernel_rfl) (fun W hW => y_bin (x := .int .i64 (k : Int)) (y := .int .i64 (0 : Int)) rfl (by kernel_rfl) (by kernel_rfl) rfl (gtr9 W k _ hk0)) ?_
        refine AnyB.take 7 (.bool false) rfl (by kernel_rfl) (by kernel_rfl) (by kernel_rfl) (fun _ _ _ h => h) (by kernel_rfl) (fun W hW => by kernel_rfl) ?_
        refine AnyB.skip 8 rfl (by kernel_rfl) (by kernel_rfl) (by kernel_rfl) (fun _ _ _ h => h) (by kernel_rfl) ?_
        refine AnyB.skip 9 rfl (by kernel_rfl) (by kernel_rfl) (by kernel_rfl) (fun _ _ _ h => h) (by kernel_rfl) ?_
        refine AnyB.skip 10 rfl (by kernel_rfl) (by kernel_rfl) (by kernel_rfl) (fun _ _ _ h => h) (by kernel_rfl) ?_
        refine AnyB.skip 11 rfl (by kernel_rfl) (by kernel_rfl) (by kernel_rfl) (fun _ _ _ h => h) (by kernel_rfl) ?_
        refine AnyB.skip 12 rfl (by kernel_rfl) (by kernel_rfl) (by kernel_rfl) (fun _ _ _ h => h) (by kernel_rfl) ?_
        refine AnyB.skip 13 rfl (by kernel_rfl) (by kernel_rfl) (by kernel_rfl) (fun _ _ _ h => h) (by kernel_rfl) ?_
        refine AnyB.skip 14 rfl (by kernel_rfl) (by kernel_rfl) (by kernel_rfl) (fun _ _ _ h => h) (by kernel_rfl) ?_
        refine AnyB.skip 15 rfl (by kernel_rfl) (by kernel_rfl) (by kernel_rfl) (fun _ _ _ h => h) (by kernel_rfl) ?_
        refine AnyB.skip 16 rfl (by kernel_rfl) (by kernel_rfl) (by kernel_rfl) (fun _ _ _ h => h) (by kernel_rfl) ?_
        refine AnyB.skip 17 rfl (by kernel_rfl) (by kernel_rfl) (by kernel_rfl) (fun _ _ _ h => h) (by kernel_rfl) ?_
        refine AnyB.take 18 (.bool false) rfl (by kernel_rfl) (by kernel_rfl) (by kernel_rfl) (fun _ _ _ h => h) (by kernel_rfl) (fun W hW => by kernel_rfl) ?_
        refine AnyB.take 19 (.bool false) rfl (by kernel_rfl) (by kernel_rfl) (by kernel_rfl) (fun _ _ _ h => h) (by kernel_rfl) (fun W hW => by kernel_rfl) ?_
        refine AnyB.take 20 (.bool false) rfl (by kernel_rfl) (by kernel_rfl) (by kernel_rfl) (fun _ _ _ h => h) (by kernel_rfl) (fun W hW => by kernel_rfl) ?_
        refine AnyB.take 21 (.pointer (some ⟨wo.heap.size, 4, none⟩)) rfl (by kernel_rfl) (by kernel_rfl) (by kernel_rfl) (fun _ _ _ h => h) (by kernel_rfl) (fun W hW => y_field (sv := .pointer (some ⟨wo.heap.size, 0, none⟩)) rfl (by kernel_rfl) (f_f4z W wo.heap.size)) ?_
        refine AnyB.take 22 (.slice Ap np cp) rfl (by kernel_rfl) (by kernel_rfl) (by kernel_rfl) (fun _ _ _ h => h) (by kernel_rfl) (fun W hW => y_load (sv := .pointer (some ⟨wo.heap.size, 4, none⟩)) rfl (by kernel_rfl) (l_Sl W wo.heap.size 4 Ap np cp (D4.out W (LD1.out.trans (hW.mono LD1.out.size))))) ?_
        refine AnyB.call 23 36 #[.slice Ap np cp] (by kernel_rfl) rfl (by kernel_rfl) (by kernel_rfl) ?_
        refine (HPk.out _ LD1.out).mono ?_
        rintro e w7 ⟨rfl, hb7⟩
        have LD12 := Lib.hid (LD1.out.trans (hb7.mono LD1.out.size))
        refine ⟨_, rfl, hb7, ?_⟩
        refine AnyB.take 24 (.bool true) rfl (by kernel_rfl) (by kernel_rfl) (by kernel_rfl) (fun _ _ _ h => h) (by kernel_rfl) (fun W hW => by kernel_rfl) ?_
        refine AnyB.take 25 (.bool true) rfl (by kernel_rfl) (by kernel_rfl) (by kernel_rfl) (fun _ _ _ h => h) (by kernel_rfl) (fun W hW => by kernel_rfl) ?_
        refine AnyB.take 26 (.bool true) rfl (by kernel_rfl) (by kernel_rfl) (by kernel_rfl) (fun _ _ _ h => h) (by kernel_rfl) (fun W hW => by kernel_rfl) ?_
        refine AnyB.skip 27 rfl (by kernel_rfl) (by kernel_rfl) (by kernel_rfl) (fun _ _ _ h => h) (by kernel_rfl) ?_
        refine AnyB.skip 28 rfl (by kernel_rfl) (by kernel_rfl) (by kernel_rfl) (fun _ _ _ h => h) (by kernel_rfl) ?_
        refine AnyB.skip 29 rfl (by kernel_rfl) (by kernel_rfl) (by kernel_rfl) (fun _ _ _ h => h) (by kernel_rfl) ?_
        refine AnyB.skip 30 rfl (by kernel_rfl) (by kernel_rfl) (by kernel_rfl) (fun _ _ _ h => h) (by kernel_rfl) ?_
        refine AnyB.take 31 (.bool true) rfl (by kernel_rfl) (by kernel_rfl) (by kernel_rfl) (fun _ _ _ h => h) (by kernel_rfl) (fun W hW => by kernel_rfl) ?_
        refine AnyB.done _ (by kernel_rfl) ?_
        go_simp
        have L9 := Lib.hid (L2.out.trans (LD12.out.mono L2.out.size))
        have HB := Lib.hid (HBad.out (by simp))
        clear HNm HRf HPk HSt HBad D0 D1 D3 D4 L2 HWB hok HHd D2
        go_wp2_with fail
        go_ret
        exact ⟨ret_bool HB.out.symm, LB.out.trans (L9.out.mono LB.out.size)⟩
      | true =>
      cases r with
      | false =>
        refine AnyB.start (by kernel_rfl) ?_
        refine AnyB.take 0 (.pointer (some ⟨wo.heap.size, 0, none⟩)) rfl (by kernel_rfl) (by kernel_rfl) (by kernel_rfl) (fun _ _ _ h => h) (by kernel_rfl) (fun W hW => y_field (sv := .pointer (some ⟨wo.heap.size, 0, none⟩)) rfl (by kernel_rfl) (f_f0z W wo.heap.size)) ?_
        refine AnyB.take 1 (.string ⟨nm.toArray⟩) rfl (by kernel_rfl) (by kernel_rfl) (by kernel_rfl) (fun _ _ _ h => h) (by kernel_rfl) (fun W hW => y_load (sv := .pointer (some ⟨wo.heap.size, 0, none⟩)) rfl (by kernel_rfl) (l_S W wo.heap.size 0 nm (D0.out W (LD.out.trans (hW.mono LD.out.size))))) ?_
        refine AnyB.call 2 20 #[.string ⟨nm.toArray⟩] (by kernel_rfl) rfl (by kernel_rfl) (by kernel_rfl) ?_
        refine (HNm.out _ LD.out).mono ?_
        rintro e w7 ⟨rfl, hb7⟩
        have LD1 := Lib.hid (LD.out.trans (hb7.mono LD.out.size))
        refine ⟨_, rfl, hb7, ?_⟩
        refine AnyB.take 3 (.bool false) rfl (by kernel_rfl) (by kernel_rfl) (by kernel_rfl) (fun _ _ _ h => h) (by kernel_rfl) (fun W hW => by kernel_rfl) ?_
        refine AnyB.take 4 (.bool false) rfl (by kernel_rfl) (by kernel_rfl) (by kernel_rfl) (fun _ _ _ h => h) (by kernel_rfl) (fun W hW => by kernel_rfl) ?_
        refine AnyB.take 5 (.int .i64 (k : Int)) rfl (by kernel_rfl) (by kernel_rfl) (by kernel_rfl) (fun _ _ _ h => h) (by kernel_rfl) (fun W hW => by kernel_rfl) ?_
        refine AnyB.take 6 (.bool false) rfl (by kernel_rfl) (by kernel_rfl) (by kernel_rfl) (fun _ _ _ h => h) (by kernel_rfl) (fun W hW => y_bin (x := .int .i64 (k : Int)) (y := .int .i64 (0 : Int)) rfl (by kernel_rfl) (by kernel_rfl) rfl (gtr9 W k _ hk0)) ?_
        refine AnyB.take 7 (.bool false) rfl (by kernel_rfl) (by kernel_rfl) (by kernel_rfl) (fun _ _ _ h => h) (by kernel_rfl) (fun W hW => by kernel_rfl) ?_
        refine AnyB.skip 8 rfl (by kernel_rfl) (by kernel_rfl) (by kernel_rfl) (fun _ _ _ h => h) (by kernel_rfl) ?_
        refine AnyB.skip 9 rfl (by kernel_rfl) (by kernel_rfl) (by kernel_rfl) (fun _ _ _ h => h) (by kernel_rfl) ?_
        refine AnyB.skip 10 rfl (by kernel_rfl) (by kernel_rfl) (by kernel_rfl) (fun _ _ _ h => h) (by kernel_rfl) ?_
        refine AnyB.skip 11 rfl (by kernel_rfl) (by kernel_rfl) (by kernel_rfl) (fun _ _ _ h => h) (by kernel_rfl) ?_
        refine AnyB.skip 12 rfl (by kernel_rfl) (by kernel_rfl) (by kernel_rfl) (fun _ _ _ h => h) (by kernel_rfl) ?_
        refine AnyB.skip 13 rfl (by kernel_rfl) (by kernel_rfl) (by kernel_rfl) (fun _ _ _ h => h) (by kernel_rfl) ?_
        refine AnyB.skip 14 rfl (by kernel_rfl) (by kernel_rfl) (by kernel_rfl) (fun _ _ _ h => h) (by kernel_rfl) ?_
        refine AnyB.skip 15 rfl (by kernel_rfl) (by kernel_rfl) (by kernel_rfl) (fun _ _ _ h => h) (by kernel_rfl) ?_
        refine AnyB.skip 16 rfl (by kernel_rfl) (by kernel_rfl) (by kernel_rfl) (fun _ _ _ h => h) (by kernel_rfl) ?_
        refine AnyB.skip 17 rfl (by kernel_rfl) (by kernel_rfl) (by kernel_rfl) (fun _ _ _ h => h) (by kernel_rfl) ?_
        refine AnyB.take 18 (.bool false) rfl (by kernel_rfl) (by kernel_rfl) (by kernel_rfl) (fun _ _ _ h => h) (by kernel_rfl) (fun W hW => by kernel_rfl) ?_
        refine AnyB.take 19 (.bool false) rfl (by kernel_rfl) (by kernel_rfl) (by kernel_rfl) (fun _ _ _ h => h) (by kernel_rfl) (fun W hW => by kernel_rfl) ?_
        refine AnyB.take 20 (.bool false) rfl (by kernel_rfl) (by kernel_rfl) (by kernel_rfl) (fun _ _ _ h => h) (by kernel_rfl) (fun W hW => by kernel_rfl) ?_
        refine AnyB.take 21 (.pointer (some ⟨wo.heap.size, 4, none⟩)) rfl (by kernel_rfl) (by kernel_rfl) (by kernel_rfl) (fun _ _ _ h => h) (by kernel_rfl) (fun W hW => y_field (sv := .pointer (some ⟨wo.heap.size, 0, none⟩)) rfl (by kernel_rfl) (f_f4z W wo.heap.size)) ?_
        refine AnyB.take 22 (.slice Ap np cp) rfl (by kernel_rfl) (by kernel_rfl) (by kernel_rfl) (fun _ _ _ h => h) (by kernel_rfl) (fun W hW => y_load (sv := .pointer (some ⟨wo.heap.size, 4, none⟩)) rfl (by kernel_rfl) (l_Sl W wo.heap.size 4 Ap np cp (D4.out W (LD1.out.trans (hW.mono LD1.out.size))))) ?_
        refine AnyB.call 23 36 #[.slice Ap np cp] (by kernel_rfl) rfl (by kernel_rfl) (by kernel_rfl) ?_
        refine (HPk.out _ LD1.out).mono ?_
        rintro e w7 ⟨rfl, hb7⟩
        have LD12 := Lib.hid (LD1.out.trans (hb7.mono LD1.out.size))
        refine ⟨_, rfl, hb7, ?_⟩
        refine AnyB.take 24 (.bool false) rfl (by kernel_rfl) (by kernel_rfl) (by kernel_rfl) (fun _ _ _ h => h) (by kernel_rfl) (fun W hW => by kernel_rfl) ?_
        refine AnyB.take 25 (.bool false) rfl (by kernel_rfl) (by kernel_rfl) (by kernel_rfl) (fun _ _ _ h => h) (by kernel_rfl) (fun W hW => by kernel_rfl) ?_
        refine AnyB.take 26 (.bool false) rfl (by kernel_rfl) (by kernel_rfl) (by kernel_rfl) (fun _ _ _ h => h) (by kernel_rfl) (fun W hW => by kernel_rfl) ?_
        refine AnyB.take 27 (.pointer (some ⟨wo.heap.size, 3, none⟩)) rfl (by kernel_rfl) (by kernel_rfl) (by kernel_rfl) (fun _ _ _ h => h) (by kernel_rfl) (fun W hW => y_field (sv := .pointer (some ⟨wo.heap.size, 0, none⟩)) rfl (by kernel_rfl) (f_f3z W wo.heap.size)) ?_
        refine AnyB.take 28 (.slice Ar nr cr) rfl (by kernel_rfl) (by kernel_rfl) (by kernel_rfl) (fun _ _ _ h => h) (by kernel_rfl) (fun W hW => y_load (sv := .pointer (some ⟨wo.heap.size, 3, none⟩)) rfl (by kernel_rfl) (l_Rl W wo.heap.size 3 Ar nr cr (D3.out W (LD12.out.trans (hW.mono LD12.out.size))))) ?_
        refine AnyB.call 29 37 #[.slice Ar nr cr] (by kernel_rfl) rfl (by kernel_rfl) (by kernel_rfl) ?_
        refine (HRf.out _ LD12.out).mono ?_
        rintro e w7 ⟨rfl, hb7⟩
        have LD123 := Lib.hid (LD12.out.trans (hb7.mono LD12.out.size))
        refine ⟨_, rfl, hb7, ?_⟩
        refine AnyB.take 30 (.bool true) rfl (by kernel_rfl) (by kernel_rfl) (by kernel_rfl) (fun _ _ _ h => h) (by kernel_rfl) (fun W hW => by kernel_rfl) ?_
        refine AnyB.take 31 (.bool true) rfl (by kernel_rfl) (by kernel_rfl) (by kernel_rfl) (fun _ _ _ h => h) (by kernel_rfl) (fun W hW => by kernel_rfl) ?_
        refine AnyB.done _ (by kernel_rfl) ?_
        go_simp
        have L9 := Lib.hid (L2.out.trans (LD123.out.mono L2.out.size))
        have HB := Lib.hid (HBad.out (by simp))
        clear HNm HRf HPk HSt HBad D0 D1 D3 D4 L2 HWB hok HHd D2
        go_wp2_with fail
        go_ret
        exact ⟨ret_bool HB.out.symm, LB.out.trans (L9.out.mono LB.out.size)⟩
      | true =>
        refine AnyB.start (by kernel_rfl) ?_
        refine AnyB.take 0 (.pointer (some ⟨wo.heap.size, 0, none⟩)) rfl (by kernel_rfl) (by kernel_rfl) (by kernel_rfl) (fun _ _ _ h => h) (by kernel_rfl) (fun W hW => y_field (sv := .pointer (some ⟨wo.heap.size, 0, none⟩)) rfl (by kernel_rfl) (f_f0z W wo.heap.size)) ?_
        refine AnyB.take 1 (.string ⟨nm.toArray⟩) rfl (by kernel_rfl) (by kernel_rfl) (by kernel_rfl) (fun _ _ _ h => h) (by kernel_rfl) (fun W hW => y_load (sv := .pointer (some ⟨wo.heap.size, 0, none⟩)) rfl (by kernel_rfl) (l_S W wo.heap.size 0 nm (D0.out W (LD.out.trans (hW.mono LD.out.size))))) ?_
        refine AnyB.call 2 20 #[.string ⟨nm.toArray⟩] (by kernel_rfl) rfl (by kernel_rfl) (by kernel_rfl) ?_
        refine (HNm.out _ LD.out).mono ?_
        rintro e w7 ⟨rfl, hb7⟩
        have LD1 := Lib.hid (LD.out.trans (hb7.mono LD.out.size))
        refine ⟨_, rfl, hb7, ?_⟩
        refine AnyB.take 3 (.bool false) rfl (by kernel_rfl) (by kernel_rfl) (by kernel_rfl) (fun _ _ _ h => h) (by kernel_rfl) (fun W hW => by kernel_rfl) ?_
        refine AnyB.take 4 (.bool false) rfl (by kernel_rfl) (by kernel_rfl) (by kernel_rfl) (fun _ _ _ h => h) (by kernel_rfl) (fun W hW => by kernel_rfl) ?_
        refine AnyB.take 5 (.int .i64 (k : Int)) rfl (by kernel_rfl) (by kernel_rfl) (by kernel_rfl) (fun _ _ _ h => h) (by kernel_rfl) (fun W hW => by kernel_rfl) ?_
        refine AnyB.take 6 (.bool false) rfl (by kernel_rfl) (by kernel_rfl) (by kernel_rfl) (fun _ _ _ h => h) (by kernel_rfl) (fun W hW => y_bin (x := .int .i64 (k : Int)) (y := .int .i64 (0 : Int)) rfl (by kernel_rfl) (by kernel_rfl) rfl (gtr9 W k _ hk0)) ?_
        refine AnyB.take 7 (.bool false) rfl (by kernel_rfl) (by kernel_rfl) (by kernel_rfl) (fun _ _ _ h => h) (by kernel_rfl) (fun W hW => by kernel_rfl) ?_
        refine AnyB.skip 8 rfl (by kernel_rfl) (by kernel_rfl) (by kernel_rfl) (fun _ _ _ h => h) (by kernel_rfl) ?_
        refine AnyB.skip 9 rfl (by kernel_rfl) (by kernel_rfl) (by kernel_rfl) (fun _ _ _ h => h) (by kernel_rfl) ?_
        refine AnyB.skip 10 rfl (by kernel_rfl) (by kernel_rfl) (by kernel_rfl) (fun _ _ _ h => h) (by kernel_rfl) ?_
        refine AnyB.skip 11 rfl (by kernel_rfl) (by kernel_rfl) (by kernel_rfl) (fun _ _ _ h => h) (by kernel_rfl) ?_
        refine AnyB.skip 12 rfl (by kernel_rfl) (by kernel_rfl) (by kernel_rfl) (fun _ _ _ h => h) (by kernel_rfl) ?_
        refine AnyB.skip 13 rfl (by kernel_rfl) (by kernel_rfl) (by kernel_rfl) (fun _ _ _ h => h) (by kernel_rfl) ?_
        refine AnyB.skip 14 rfl (by kernel_rfl) (by kernel_rfl) (by kernel_rfl) (fun _ _ _ h => h) (by kernel_rfl) ?_
        refine AnyB.skip 15 rfl (by kernel_rfl) (by kernel_rfl) (by kernel_rfl) (fun _ _ _ h => h) (by kernel_rfl) ?_
        refine AnyB.skip 16 rfl (by kernel_rfl) (by kernel_rfl) (by kernel_rfl) (fun _ _ _ h => h) (by kernel_rfl) ?_
        refine AnyB.skip 17 rfl (by kernel_rfl) (by kernel_rfl) (by kernel_rfl) (fun _ _ _ h => h) (by kernel_rfl) ?_
        refine AnyB.take 18 (.bool false) rfl (by kernel_rfl) (by kernel_rfl) (by kernel_rfl) (fun _ _ _ h => h) (by kernel_rfl) (fun W hW => by kernel_rfl) ?_
        refine AnyB.take 19 (.bool false) rfl (by kernel_rfl) (by kernel_rfl) (by kernel_rfl) (fun _ _ _ h => h) (by kernel_rfl) (fun W hW => by kernel_rfl) ?_
        refine AnyB.take 20 (.bool false) rfl (by kernel_rfl) (by kernel_rfl) (by kernel_rfl) (fun _ _ _ h => h) (by kernel_rfl) (fun W hW => by kernel_rfl) ?_
        refine AnyB.take 21 (.pointer (some ⟨wo.heap.size, 4, none⟩)) rfl (by kernel_rfl) (by kernel_rfl) (by kernel_rfl) (fun _ _ _ h => h) (by kernel_rfl) (fun W hW => y_field (sv := .pointer (some ⟨wo.heap.size, 0, none⟩)) rfl (by kernel_rfl) (f_f4z W wo.heap.size)) ?_
        refine AnyB.take 22 (.slice Ap np cp) rfl (by kernel_rfl) (by kernel_rfl) (by kernel_rfl) (fun _ _ _ h => h) (by kernel_rfl) (fun W hW => y_load (sv := .pointer (some ⟨wo.heap.size, 4, none⟩)) rfl (by kernel_rfl) (l_Sl W wo.heap.size 4 Ap np cp (D4.out W (LD1.out.trans (hW.mono LD1.out.size))))) ?_
        refine AnyB.call 23 36 #[.slice Ap np cp] (by kernel_rfl) rfl (by kernel_rfl) (by kernel_rfl) ?_
        refine (HPk.out _ LD1.out).mono ?_
        rintro e w7 ⟨rfl, hb7⟩
        have LD12 := Lib.hid (LD1.out.trans (hb7.mono LD1.out.size))
        refine ⟨_, rfl, hb7, ?_⟩
        refine AnyB.take 24 (.bool false) rfl (by kernel_rfl) (by kernel_rfl) (by kernel_rfl) (fun _ _ _ h => h) (by kernel_rfl) (fun W hW => by kernel_rfl) ?_
        refine AnyB.take 25 (.bool false) rfl (by kernel_rfl) (by kernel_rfl) (by kernel_rfl) (fun _ _ _ h => h) (by kernel_rfl) (fun W hW => by kernel_rfl) ?_
        refine AnyB.take 26 (.bool false) rfl (by kernel_rfl) (by kernel_rfl) (by kernel_rfl) (fun _ _ _ h => h) (by kernel_rfl) (fun W hW => by kernel_rfl) ?_
        refine AnyB.take 27 (.pointer (some ⟨wo.heap.size, 3, none⟩)) rfl (by kernel_rfl) (by kernel_rfl) (by kernel_rfl) (fun _ _ _ h => h) (by kernel_rfl) (fun W hW => y_field (sv := .pointer (some ⟨wo.heap.size, 0, none⟩)) rfl (by kernel_rfl) (f_f3z W wo.heap.size)) ?_
        refine AnyB.take 28 (.slice Ar nr cr) rfl (by kernel_rfl) (by kernel_rfl) (by kernel_rfl) (fun _ _ _ h => h) (by kernel_rfl) (fun W hW => y_load (sv := .pointer (some ⟨wo.heap.size, 3, none⟩)) rfl (by kernel_rfl) (l_Rl W wo.heap.size 3 Ar nr cr (D3.out W (LD12.out.trans (hW.mono LD12.out.size))))) ?_
        refine AnyB.call 29 37 #[.slice Ar nr cr] (by kernel_rfl) rfl (by kernel_rfl) (by kernel_rfl) ?_
        refine (HRf.out _ LD12.out).mono ?_
        rintro e w7 ⟨rfl, hb7⟩
        have LD123 := Lib.hid (LD12.out.trans (hb7.mono LD12.out.size))
        refine ⟨_, rfl, hb7, ?_⟩
        refine AnyB.take 30 (.bool false) rfl (by kernel_rfl) (by kernel_rfl) (by kernel_rfl) (fun _ _ _ h => h) (by kernel_rfl) (fun W hW => by kernel_rfl) ?_
        refine AnyB.take 31 (.bool false) rfl (by kernel_rfl) (by kernel_rfl) (by kernel_rfl) (fun _ _ _ h => h) (by kernel_rfl) (fun W hW => by kernel_rfl) ?_
        refine AnyB.done _ (by kernel_rfl) ?_
        go_simp
        have L9 := Lib.hid (LD123.out)
        have L9w := Lib.hid (L2.out.trans (L9.out.mono L2.out.size))
        have d2 := D2.out _ L9.out
        cases hv : nameB hd with
        | false =>
          have HB := Lib.hid (HBad.out (by rw [hd_no hv]; simp))
          have HC := Lib.hid (fun W => HHd.out W _ hv)
          clear HNm HRf HPk HSt HBad D0 D1 D3 D4 L2 HWB hok HHd D2 hv L9 LD LD1 LD12 LD123
          go_wp2_with fail
          refine (HC.out _).mono ?_
          rintro e w8 ⟨rfl, rfl⟩
          go_wp2_with fail
          go_ret
          exact ⟨ret_bool HB.out.symm, LB.out.trans (L9w.out.mono LB.out.size)⟩
        | true =>
          obtain ⟨y, hy, hyb⟩ := hd_first hv
          have HC := Lib.hid (fun W => HHd.out W _ hv)
          have hsz : (⟨hd.toArray⟩ : ByteArray).size = hd.length := by show hd.toArray.size = _; simp
          obtain ⟨hl, hhl⟩ : ∃ z, z = hd.length := ⟨_, rfl⟩
          have hl0 : 0 < hl := by rw [hhl]; exact (List.getElem?_eq_some_iff.1 hy).1
          have hl0I : (0 : Int) < (hl : Int) := by omega
          have hyi : ∀ hh, (⟨hd.toArray⟩ : ByteArray)[0]'hh = y := fun hh => by
            have := (List.getElem?_eq_some_iff.1 hy).2
            show hd.toArray[0] = _; simpa using this
          rw [← hhl] at hsz
          cases hz : decide (y = 104) with
          | false =>
            have hyI : ((y.toNat : Int) != 104) = true := by
              have h5 : ((y.toNat : Int) == 104) = decide (y = 104) := u8_eqR y 104
              show (!((y.toNat : Int) == 104)) = true
              rw [h5, hz]; rfl
            have HB := Lib.hid (HBad.out (by rw [hyb, hz]; simp))
            clear HNm HRf HPk HSt HBad D0 D1 D3 D4 L2 HWB hok HHd D2 hv L9 LD LD1 LD12 LD123 hz hyb hy hhl
            go_wp2_with fail
            refine (HC.out _).mono ?_
            rintro e w8 ⟨rfl, rfl⟩
            go_wp2_with fail
            go_ret
            exact ⟨ret_bool HB.out.symm, LB.out.trans (L9w.out.mono LB.out.size)⟩
          | true =>
            have hyI : ((y.toNat : Int) != 104) = false := by
              have h5 : ((y.toNat : Int) == 104) = decide (y = 104) := u8_eqR y 104
              show (!((y.toNat : Int) == 104)) = false
              rw [h5, hz]; rfl
            have HS := Lib.hid (HSt.out rfl HQ0.out rfl rfl (by rw [hyb, hz]))
            clear HNm HRf HPk HSt HBad D0 D1 D3 D4 L2 HWB hok HHd D2 hv L9 LD LD1 LD12 LD123 hz hyb hy hhl
            go_wp2_with fail
            refine (HC.out _).mono ?_
            rintro e w8 ⟨rfl, rfl⟩
            go_wp2_with fail
            go_roundw
            case rel => exact ⟨k + 1, by omega, by go_num, L9w, HS⟩
            case measure => simp [intOf]; omega
    · have hk0 : decide (0 < k) = true := decide_eq_true (by omega)
      have hk1 : 1 ≤ k := by omega
      obtain ⟨f', hf'⟩ : ∃ f', l[k - 1]? = some f' := ⟨_, List.getElem?_eq_getElem (by have := HN.out; omega)⟩
      obtain ⟨x', hx', e0, _⟩ := HV2.out.at hf'
      have DL := Lib.hid (fun W (h : Below wB.heap.size wB W) => (h.cell (p := ⟨g, o + (k - 1) * 5, none⟩) Hgs.out).trans e0)
      obtain ⟨ln, hln⟩ : ∃ z, z = x'.name := ⟨_, rfl⟩
      have HRs : Hid (risesB (l.take k) nm = decide (ln < nm)) := Lib.hid (by rw [hln, hx'.name]; exact rises_at hk1 hf')
      unfold SV at DL
      rw [← hln] at DL
      clear hx' hf' e0 hln
      cases hq : decide (ln < nm) with
      | false =>
        refine AnyB.start (by kernel_rfl) ?_
        refine AnyB.take 0 (.pointer (some ⟨wo.heap.size, 0, none⟩)) rfl (by kernel_rfl) (by kernel_rfl) (by kernel_rfl) (fun _ _ _ h => h) (by kernel_rfl) (fun W hW => y_field (sv := .pointer (some ⟨wo.heap.size, 0, none⟩)) rfl (by kernel_rfl) (f_f0z W wo.heap.size)) ?_
        refine AnyB.take 1 (.string ⟨nm.toArray⟩) rfl (by kernel_rfl) (by kernel_rfl) (by kernel_rfl) (fun _ _ _ h => h) (by kernel_rfl) (fun W hW => y_load (sv := .pointer (some ⟨wo.heap.size, 0, none⟩)) rfl (by kernel_rfl) (l_S W wo.heap.size 0 nm (D0.out W (LD.out.trans (hW.mono LD.out.size))))) ?_
        refine AnyB.call 2 20 #[.string ⟨nm.toArray⟩] (by kernel_rfl) rfl (by kernel_rfl) (by kernel_rfl) ?_
        refine (HNm.out _ LD.out).mono ?_
        rintro e w7 ⟨rfl, hb7⟩
        have LD1 := Lib.hid (LD.out.trans (hb7.mono LD.out.size))
        refine ⟨_, rfl, hb7, ?_⟩
        refine AnyB.take 3 (.bool false) rfl (by kernel_rfl) (by kernel_rfl) (by kernel_rfl) (fun _ _ _ h => h) (by kernel_rfl) (fun W hW => by kernel_rfl) ?_
        refine AnyB.take 4 (.bool false) rfl (by kernel_rfl) (by kernel_rfl) (by kernel_rfl) (fun _ _ _ h => h) (by kernel_rfl) (fun W hW => by kernel_rfl) ?_
        refine AnyB.take 5 (.int .i64 (k : Int)) rfl (by kernel_rfl) (by kernel_rfl) (by kernel_rfl) (fun _ _ _ h => h) (by kernel_rfl) (fun W hW => by kernel_rfl) ?_
        refine AnyB.take 6 (.bool true) rfl (by kernel_rfl) (by kernel_rfl) (by kernel_rfl) (fun _ _ _ h => h) (by kernel_rfl) (fun W hW => y_bin (x := .int .i64 (k : Int)) (y := .int .i64 (0 : Int)) rfl (by kernel_rfl) (by kernel_rfl) rfl (gtr9 W k _ hk0)) ?_
        refine AnyB.take 7 (.bool true) rfl (by kernel_rfl) (by kernel_rfl) (by kernel_rfl) (fun _ _ _ h => h) (by kernel_rfl) (fun W hW => by kernel_rfl) ?_
        refine AnyB.take 8 (.pointer (some ⟨w.heap.size, 2, none⟩)) rfl (by kernel_rfl) (by kernel_rfl) (by kernel_rfl) (fun _ _ _ h => h) (by kernel_rfl) (fun W hW => y_field (sv := .pointer (some ⟨w.heap.size, 0, none⟩)) rfl (by kernel_rfl) (f_r29 W w.heap.size)) ?_
        refine AnyB.take 9 (.slice (some ⟨g, o, none⟩) m d) rfl (by kernel_rfl) (by kernel_rfl) (by kernel_rfl) (fun _ _ _ h => h) (by kernel_rfl) (fun W hW => y_load (sv := .pointer (some ⟨w.heap.size, 2, none⟩)) rfl (by kernel_rfl) (l_Fs9 W w.heap.size 2 _ m d (C2.out W (LD1.out.trans (hW.mono LD1.out.size))))) ?_
        refine AnyB.take 10 (.int .i64 (k : Int)) rfl (by kernel_rfl) (by kernel_rfl) (by kernel_rfl) (fun _ _ _ h => h) (by kernel_rfl) (fun W hW => by kernel_rfl) ?_
        refine AnyB.take 11 (.int .i64 ((k - 1 : Nat) : Int)) rfl (by kernel_rfl) (by kernel_rfl) (by kernel_rfl) (fun _ _ _ h => h) (by kernel_rfl) (fun W hW => y_bin (x := .int .i64 (k : Int)) (y := .int .i64 (1 : Int)) rfl (by kernel_rfl) (by kernel_rfl) rfl (sub9 W k hk1)) ?_
        refine AnyB.take 12 (.pointer (some ⟨g, o + (k - 1) * 5, none⟩)) rfl (by kernel_rfl) (by kernel_rfl) (by kernel_rfl) (fun _ _ _ h => h) (by kernel_rfl) (fun W hW => y_index (sv := .slice (some ⟨g, o, none⟩) m d) (iv := .int .i64 ((k - 1 : Nat) : Int)) rfl (by kernel_rfl) (by kernel_rfl) (at_f W g o m d (k - 1) (by omega))) ?_
        refine AnyB.take 13 (.pointer (some ⟨g, o + (k - 1) * 5, none⟩)) rfl (by kernel_rfl) (by kernel_rfl) (by kernel_rfl) (fun _ _ _ h => h) (by kernel_rfl) (fun W hW => y_field (sv := .pointer (some ⟨g, o + (k - 1) * 5, none⟩)) rfl (by kernel_rfl) (f_f0 W g (o + (k - 1) * 5))) ?_
        refine AnyB.take 14 (.string ⟨ln.toArray⟩) rfl (by kernel_rfl) (by kernel_rfl) (by kernel_rfl) (fun _ _ _ h => h) (by kernel_rfl) (fun W hW => y_load (sv := .pointer (some ⟨g, o + (k - 1) * 5, none⟩)) rfl (by kernel_rfl) (l_S W g (o + (k - 1) * 5) ln (DL.out W (LD1.out.trans (hW.mono LD1.out.size))))) ?_
        refine AnyB.take 15 (.pointer (some ⟨wo.heap.size, 0, none⟩)) rfl (by kernel_rfl) (by kernel_rfl) (by kernel_rfl) (fun _ _ _ h => h) (by kernel_rfl) (fun W hW => y_field (sv := .pointer (some ⟨wo.heap.size, 0, none⟩)) rfl (by kernel_rfl) (f_f0z W wo.heap.size)) ?_
        refine AnyB.take 16 (.string ⟨nm.toArray⟩) rfl (by kernel_rfl) (by kernel_rfl) (by kernel_rfl) (fun _ _ _ h => h) (by kernel_rfl) (fun W hW => y_load (sv := .pointer (some ⟨wo.heap.size, 0, none⟩)) rfl (by kernel_rfl) (l_S W wo.heap.size 0 nm (D0.out W (LD1.out.trans (hW.mono LD1.out.size))))) ?_
        refine AnyB.take 17 (.bool true) rfl (by kernel_rfl) (by kernel_rfl) (by kernel_rfl) (fun _ _ _ h => h) (by kernel_rfl) (fun W hW => y_bin (x := .string ⟨ln.toArray⟩) (y := .string ⟨nm.toArray⟩) rfl (by kernel_rfl) (by kernel_rfl) rfl (geS9 W ln nm _ (by rw [hq]; rfl))) ?_
        refine AnyB.take 18 (.bool true) rfl (by kernel_rfl) (by kernel_rfl) (by kernel_rfl) (fun _ _ _ h => h) (by kernel_rfl) (fun W hW => by kernel_rfl) ?_
        refine AnyB.take 19 (.bool true) rfl (by kernel_rfl) (by kernel_rfl) (by kernel_rfl) (fun _ _ _ h => h) (by kernel_rfl) (fun W hW => by kernel_rfl) ?_
        refine AnyB.take 20 (.bool true) rfl (by kernel_rfl) (by kernel_rfl) (by kernel_rfl) (fun _ _ _ h => h) (by kernel_rfl) (fun W hW => by kernel_rfl) ?_
        refine AnyB.skip 21 rfl (by kernel_rfl) (by kernel_rfl) (by kernel_rfl) (fun _ _ _ h => h) (by kernel_rfl) ?_
        refine AnyB.skip 22 rfl (by kernel_rfl) (by kernel_rfl) (by kernel_rfl) (fun _ _ _ h => h) (by kernel_rfl) ?_
        refine AnyB.skip 23 rfl (by kernel_rfl) (by kernel_rfl) (by kernel_rfl) (fun _ _ _ h => h) (by kernel_rfl) ?_
        refine AnyB.skip 24 rfl (by kernel_rfl) (by kernel_rfl) (by kernel_rfl) (fun _ _ _ h => h) (by kernel_rfl) ?_
        refine AnyB.take 25 (.bool true) rfl (by kernel_rfl) (by kernel_rfl) (by kernel_rfl) (fun _ _ _ h => h) (by kernel_rfl) (fun W hW => by kernel_rfl) ?_
        refine AnyB.take 26 (.bool true) rfl (by kernel_rfl) (by kernel_rfl) (by kernel_rfl) (fun _ _ _ h => h) (by kernel_rfl) (fun W hW => by kernel_rfl) ?_
        refine AnyB.skip 27 rfl (by kernel_rfl) (by kernel_rfl) (by kernel_rfl) (fun _ _ _ h => h) (by kernel_rfl) ?_
        refine AnyB.skip 28 rfl (by kernel_rfl) (by kernel_rfl) (by kernel_rfl) (fun _ _ _ h => h) (by kernel_rfl) ?_
        refine AnyB.skip 29 rfl (by kernel_rfl) (by kernel_rfl) (by kernel_rfl) (fun _ _ _ h => h) (by kernel_rfl) ?_
        refine AnyB.skip 30 rfl (by kernel_rfl) (by kernel_rfl) (by kernel_rfl) (fun _ _ _ h => h) (by kernel_rfl) ?_
        refine AnyB.take 31 (.bool true) rfl (by kernel_rfl) (by kernel_rfl) (by kernel_rfl) (fun _ _ _ h => h) (by kernel_rfl) (fun W hW => by kernel_rfl) ?_
        refine AnyB.done _ (by kernel_rfl) ?_
        go_simp
        have L9 := Lib.hid (L2.out.trans (LD1.out.mono L2.out.size))
        have HB := Lib.hid (HBad.out (by rw [HRs.out, hq]; simp))
        clear HNm HRf HPk HSt HBad D0 D1 D3 D4 L2 HWB hok HHd D2 DL
        go_wp2_with fail
        go_ret
        exact ⟨ret_bool HB.out.symm, LB.out.trans (L9.out.mono LB.out.size)⟩
      | true =>
        cases p with
        | false =>
          refine AnyB.start (by kernel_rfl) ?_
          refine AnyB.take 0 (.pointer (some ⟨wo.heap.size, 0, none⟩)) rfl (by kernel_rfl) (by kernel_rfl) (by kernel_rfl) (fun _ _ _ h => h) (by kernel_rfl) (fun W hW => y_field (sv := .pointer (some ⟨wo.heap.size, 0, none⟩)) rfl (by kernel_rfl) (f_f0z W wo.heap.size)) ?_
          refine AnyB.take 1 (.string ⟨nm.toArray⟩) rfl (by kernel_rfl) (by kernel_rfl) (by kernel_rfl) (fun _ _ _ h => h) (by kernel_rfl) (fun W hW => y_load (sv := .pointer (some ⟨wo.heap.size, 0, none⟩)) rfl (by kernel_rfl) (l_S W wo.heap.size 0 nm (D0.out W (LD.out.trans (hW.mono LD.out.size))))) ?_
          refine AnyB.call 2 20 #[.string ⟨nm.toArray⟩] (by kernel_rfl) rfl (by kernel_rfl) (by kernel_rfl) ?_
          refine (HNm.out _ LD.out).mono ?_
          rintro e w7 ⟨rfl, hb7⟩
          have LD1 := Lib.hid (LD.out.trans (hb7.mono LD.out.size))
          refine ⟨_, rfl, hb7, ?_⟩
          refine AnyB.take 3 (.bool false) rfl (by kernel_rfl) (by kernel_rfl) (by kernel_rfl) (fun _ _ _ h => h) (by kernel_rfl) (fun W hW => by kernel_rfl) ?_
          refine AnyB.take 4 (.bool false) rfl (by kernel_rfl) (by kernel_rfl) (by kernel_rfl) (fun _ _ _ h => h) (by kernel_rfl) (fun W hW => by kernel_rfl) ?_
          refine AnyB.take 5 (.int .i64 (k : Int)) rfl (by kernel_rfl) (by kernel_rfl) (by kernel_rfl) (fun _ _ _ h => h) (by kernel_rfl) (fun W hW => by kernel_rfl) ?_
          refine AnyB.take 6 (.bool true) rfl (by kernel_rfl) (by kernel_rfl) (by kernel_rfl) (fun _ _ _ h => h) (by kernel_rfl) (fun W hW => y_bin (x := .int .i64 (k : Int)) (y := .int .i64 (0 : Int)) rfl (by kernel_rfl) (by kernel_rfl) rfl (gtr9 W k _ hk0)) ?_
          refine AnyB.take 7 (.bool true) rfl (by kernel_rfl) (by kernel_rfl) (by kernel_rfl) (fun _ _ _ h => h) (by kernel_rfl) (fun W hW => by kernel_rfl) ?_
          refine AnyB.take 8 (.pointer (some ⟨w.heap.size, 2, none⟩)) rfl (by kernel_rfl) (by kernel_rfl) (by kernel_rfl) (fun _ _ _ h => h) (by kernel_rfl) (fun W hW => y_field (sv := .pointer (some ⟨w.heap.size, 0, none⟩)) rfl (by kernel_rfl) (f_r29 W w.heap.size)) ?_
          refine AnyB.take 9 (.slice (some ⟨g, o, none⟩) m d) rfl (by kernel_rfl) (by kernel_rfl) (by kernel_rfl) (fun _ _ _ h => h) (by kernel_rfl) (fun W hW => y_load (sv := .pointer (some ⟨w.heap.size, 2, none⟩)) rfl (by kernel_rfl) (l_Fs9 W w.heap.size 2 _ m d (C2.out W (LD1.out.trans (hW.mono LD1.out.size))))) ?_
          refine AnyB.take 10 (.int .i64 (k : Int)) rfl (by kernel_rfl) (by kernel_rfl) (by kernel_rfl) (fun _ _ _ h => h) (by kernel_rfl) (fun W hW => by kernel_rfl) ?_
          refine AnyB.take 11 (.int .i64 ((k - 1 : Nat) : Int)) rfl (by kernel_rfl) (by kernel_rfl) (by kernel_rfl) (fun _ _ _ h => h) (by kernel_rfl) (fun W hW => y_bin (x := .int .i64 (k : Int)) (y := .int .i64 (1 : Int)) rfl (by kernel_rfl) (by kernel_rfl) rfl (sub9 W k hk1)) ?_
          refine AnyB.take 12 (.pointer (some ⟨g, o + (k - 1) * 5, none⟩)) rfl (by kernel_rfl) (by kernel_rfl) (by kernel_rfl) (fun _ _ _ h => h) (by kernel_rfl) (fun W hW => y_index (sv := .slice (some ⟨g, o, none⟩) m d) (iv := .int .i64 ((k - 1 : Nat) : Int)) rfl (by kernel_rfl) (by kernel_rfl) (at_f W g o m d (k - 1) (by omega))) ?_
          refine AnyB.take 13 (.pointer (some ⟨g, o + (k - 1) * 5, none⟩)) rfl (by kernel_rfl) (by kernel_rfl) (by kernel_rfl) (fun _ _ _ h => h) (by kernel_rfl) (fun W hW => y_field (sv := .pointer (some ⟨g, o + (k - 1) * 5, none⟩)) rfl (by kernel_rfl) (f_f0 W g (o + (k - 1) * 5))) ?_
          refine AnyB.take 14 (.string ⟨ln.toArray⟩) rfl (by kernel_rfl) (by kernel_rfl) (by kernel_rfl) (fun _ _ _ h => h) (by kernel_rfl) (fun W hW => y_load (sv := .pointer (some ⟨g, o + (k - 1) * 5, none⟩)) rfl (by kernel_rfl) (l_S W g (o + (k - 1) * 5) ln (DL.out W (LD1.out.trans (hW.mono LD1.out.size))))) ?_
          refine AnyB.take 15 (.pointer (some ⟨wo.heap.size, 0, none⟩)) rfl (by kernel_rfl) (by kernel_rfl) (by kernel_rfl) (fun _ _ _ h => h) (by kernel_rfl) (fun W hW => y_field (sv := .pointer (some ⟨wo.heap.size, 0, none⟩)) rfl (by kernel_rfl) (f_f0z W wo.heap.size)) ?_
          refine AnyB.take 16 (.string ⟨nm.toArray⟩) rfl (by kernel_rfl) (by kernel_rfl) (by kernel_rfl) (fun _ _ _ h => h) (by kernel_rfl) (fun W hW => y_load (sv := .pointer (some ⟨wo.heap.size, 0, none⟩)) rfl (by kernel_rfl) (l_S W wo.heap.size 0 nm (D0.out W (LD1.out.trans (hW.mono LD1.out.size))))) ?_
          refine AnyB.take 17 (.bool false) rfl (by kernel_rfl) (by kernel_rfl) (by kernel_rfl) (fun _ _ _ h => h) (by kernel_rfl) (fun W hW => y_bin (x := .string ⟨ln.toArray⟩) (y := .string ⟨nm.toArray⟩) rfl (by kernel_rfl) (by kernel_rfl) rfl (geS9 W ln nm _ (by rw [hq]; rfl))) ?_
          refine AnyB.take 18 (.bool false) rfl (by kernel_rfl) (by kernel_rfl) (by kernel_rfl) (fun _ _ _ h => h) (by kernel_rfl) (fun W hW => by kernel_rfl) ?_
          refine AnyB.take 19 (.bool false) rfl (by kernel_rfl) (by kernel_rfl) (by kernel_rfl) (fun _ _ _ h => h) (by kernel_rfl) (fun W hW => by kernel_rfl) ?_
          refine AnyB.take 20 (.bool false) rfl (by kernel_rfl) (by kernel_rfl) (by kernel_rfl) (fun _ _ _ h => h) (by kernel_rfl) (fun W hW => by kernel_rfl) ?_
          refine AnyB.take 21 (.pointer (some ⟨wo.heap.size, 4, none⟩)) rfl (by kernel_rfl) (by kernel_rfl) (by kernel_rfl) (fun _ _ _ h => h) (by kernel_rfl) (fun W hW => y_field (sv := .pointer (some ⟨wo.heap.size, 0, none⟩)) rfl (by kernel_rfl) (f_f4z W wo.heap.size)) ?_
          refine AnyB.take 22 (.slice Ap np cp) rfl (by kernel_rfl) (by kernel_rfl) (by kernel_rfl) (fun _ _ _ h => h) (by kernel_rfl) (fun W hW => y_load (sv := .pointer (some ⟨wo.heap.size, 4, none⟩)) rfl (by kernel_rfl) (l_Sl W wo.heap.size 4 Ap np cp (D4.out W (LD1.out.trans (hW.mono LD1.out.size))))) ?_
          refine AnyB.call 23 36 #[.slice Ap np cp] (by kernel_rfl) rfl (by kernel_rfl) (by kernel_rfl) ?_
          refine (HPk.out _ LD1.out).mono ?_
          rintro e w7 ⟨rfl, hb7⟩
          have LD12 := Lib.hid (LD1.out.trans (hb7.mono LD1.out.size))
          refine ⟨_, rfl, hb7, ?_⟩
          refine AnyB.take 24 (.bool true) rfl (by kernel_rfl) (by kernel_rfl) (by kernel_rfl) (fun _ _ _ h => h) (by kernel_rfl) (fun W hW => by kernel_rfl) ?_
          refine AnyB.take 25 (.bool true) rfl (by kernel_rfl) (by kernel_rfl) (by kernel_rfl) (fun _ _ _ h => h) (by kernel_rfl) (fun W hW => by kernel_rfl) ?_
          refine AnyB.take 26 (.bool true) rfl (by kernel_rfl) (by kernel_rfl) (by kernel_rfl) (fun _ _ _ h => h) (by kernel_rfl) (fun W hW => by kernel_rfl) ?_
          refine AnyB.skip 27 rfl (by kernel_rfl) (by kernel_rfl) (by kernel_rfl) (fun _ _ _ h => h) (by kernel_rfl) ?_
          refine AnyB.skip 28 rfl (by kernel_rfl) (by kernel_rfl) (by kernel_rfl) (fun _ _ _ h => h) (by kernel_rfl) ?_
          refine AnyB.skip 29 rfl (by kernel_rfl) (by kernel_rfl) (by kernel_rfl) (fun _ _ _ h => h) (by kernel_rfl) ?_
          refine AnyB.skip 30 rfl (by kernel_rfl) (by kernel_rfl) (by kernel_rfl) (fun _ _ _ h => h) (by kernel_rfl) ?_
          refine AnyB.take 31 (.bool true) rfl (by kernel_rfl) (by kernel_rfl) (by kernel_rfl) (fun _ _ _ h => h) (by kernel_rfl) (fun W hW => by kernel_rfl) ?_
          refine AnyB.done _ (by kernel_rfl) ?_
          go_simp
          have L9 := Lib.hid (L2.out.trans (LD12.out.mono L2.out.size))
          have HB := Lib.hid (HBad.out (by simp))
          clear HNm HRf HPk HSt HBad D0 D1 D3 D4 L2 HWB hok HHd D2
          go_wp2_with fail
          go_ret
          exact ⟨ret_bool HB.out.symm, LB.out.trans (L9.out.mono LB.out.size)⟩
        | true =>
        cases r with
        | false =>
          refine AnyB.start (by kernel_rfl) ?_
          refine AnyB.take 0 (.pointer (some ⟨wo.heap.size, 0, none⟩)) rfl (by kernel_rfl) (by kernel_rfl) (by kernel_rfl) (fun _ _ _ h => h) (by kernel_rfl) (fun W hW => y_field (sv := .pointer (some ⟨wo.heap.size, 0, none⟩)) rfl (by kernel_rfl) (f_f0z W wo.heap.size)) ?_
          refine AnyB.take 1 (.string ⟨nm.toArray⟩) rfl (by kernel_rfl) (by kernel_rfl) (by kernel_rfl) (fun _ _ _ h => h) (by kernel_rfl) (fun W hW => y_load (sv := .pointer (some ⟨wo.heap.size, 0, none⟩)) rfl (by kernel_rfl) (l_S W wo.heap.size 0 nm (D0.out W (LD.out.trans (hW.mono LD.out.size))))) ?_
          refine AnyB.call 2 20 #[.string ⟨nm.toArray⟩] (by kernel_rfl) rfl (by kernel_rfl) (by kernel_rfl) ?_
          refine (HNm.out _ LD.out).mono ?_
          rintro e w7 ⟨rfl, hb7⟩
          have LD1 := Lib.hid (LD.out.trans (hb7.mono LD.out.size))
          refine ⟨_, rfl, hb7, ?_⟩
          refine AnyB.take 3 (.bool false) rfl (by kernel_rfl) (by kernel_rfl) (by kernel_rfl) (fun _ _ _ h => h) (by kernel_rfl) (fun W hW => by kernel_rfl) ?_
          refine AnyB.take 4 (.bool false) rfl (by kernel_rfl) (by kernel_rfl) (by kernel_rfl) (fun _ _ _ h => h) (by kernel_rfl) (fun W hW => by kernel_rfl) ?_
          refine AnyB.take 5 (.int .i64 (k : Int)) rfl (by kernel_rfl) (by kernel_rfl) (by kernel_rfl) (fun _ _ _ h => h) (by kernel_rfl) (fun W hW => by kernel_rfl) ?_
          refine AnyB.take 6 (.bool true) rfl (by kernel_rfl) (by kernel_rfl) (by kernel_rfl) (fun _ _ _ h => h) (by kernel_rfl) (fun W hW => y_bin (x := .int .i64 (k : Int)) (y := .int .i64 (0 : Int)) rfl (by kernel_rfl) (by kernel_rfl) rfl (gtr9 W k _ hk0)) ?_
          refine AnyB.take 7 (.bool true) rfl (by kernel_rfl) (by kernel_rfl) (by kernel_rfl) (fun _ _ _ h => h) (by kernel_rfl) (fun W hW => by kernel_rfl) ?_
          refine AnyB.take 8 (.pointer (some ⟨w.heap.size, 2, none⟩)) rfl (by kernel_rfl) (by kernel_rfl) (by kernel_rfl) (fun _ _ _ h => h) (by kernel_rfl) (fun W hW => y_field (sv := .pointer (some ⟨w.heap.size, 0, none⟩)) rfl (by kernel_rfl) (f_r29 W w.heap.size)) ?_
          refine AnyB.take 9 (.slice (some ⟨g, o, none⟩) m d) rfl (by kernel_rfl) (by kernel_rfl) (by kernel_rfl) (fun _ _ _ h => h) (by kernel_rfl) (fun W hW => y_load (sv := .pointer (some ⟨w.heap.size, 2, none⟩)) rfl (by kernel_rfl) (l_Fs9 W w.heap.size 2 _ m d (C2.out W (LD1.out.trans (hW.mono LD1.out.size))))) ?_
          refine AnyB.take 10 (.int .i64 (k : Int)) rfl (by kernel_rfl) (by kernel_rfl) (by kernel_rfl) (fun _ _ _ h => h) (by kernel_rfl) (fun W hW => by kernel_rfl) ?_
          refine AnyB.take 11 (.int .i64 ((k - 1 : Nat) : Int)) rfl (by kernel_rfl) (by kernel_rfl) (by kernel_rfl) (fun _ _ _ h => h) (by kernel_rfl) (fun W hW => y_bin (x := .int .i64 (k : Int)) (y := .int .i64 (1 : Int)) rfl (by kernel_rfl) (by kernel_rfl) rfl (sub9 W k hk1)) ?_
          refine AnyB.take 12 (.pointer (some ⟨g, o + (k - 1) * 5, none⟩)) rfl (by kernel_rfl) (by kernel_rfl) (by kernel_rfl) (fun _ _ _ h => h) (by kernel_rfl) (fun W hW => y_index (sv := .slice (some ⟨g, o, none⟩) m d) (iv := .int .i64 ((k - 1 : Nat) : Int)) rfl (by kernel_rfl) (by kernel_rfl) (at_f W g o m d (k - 1) (by omega))) ?_
          refine AnyB.take 13 (.pointer (some ⟨g, o + (k - 1) * 5, none⟩)) rfl (by kernel_rfl) (by kernel_rfl) (by kernel_rfl) (fun _ _ _ h => h) (by kernel_rfl) (fun W hW => y_field (sv := .pointer (some ⟨g, o + (k - 1) * 5, none⟩)) rfl (by kernel_rfl) (f_f0 W g (o + (k - 1) * 5))) ?_
          refine AnyB.take 14 (.string ⟨ln.toArray⟩) rfl (by kernel_rfl) (by kernel_rfl) (by kernel_rfl) (fun _ _ _ h => h) (by kernel_rfl) (fun W hW => y_load (sv := .pointer (some ⟨g, o + (k - 1) * 5, none⟩)) rfl (by kernel_rfl) (l_S W g (o + (k - 1) * 5) ln (DL.out W (LD1.out.trans (hW.mono LD1.out.size))))) ?_
          refine AnyB.take 15 (.pointer (some ⟨wo.heap.size, 0, none⟩)) rfl (by kernel_rfl) (by kernel_rfl) (by kernel_rfl) (fun _ _ _ h => h) (by kernel_rfl) (fun W hW => y_field (sv := .pointer (some ⟨wo.heap.size, 0, none⟩)) rfl (by kernel_rfl) (f_f0z W wo.heap.size)) ?_
          refine AnyB.take 16 (.string ⟨nm.toArray⟩) rfl (by kernel_rfl) (by kernel_rfl) (by kernel_rfl) (fun _ _ _ h => h) (by kernel_rfl) (fun W hW => y_load (sv := .pointer (some ⟨wo.heap.size, 0, none⟩)) rfl (by kernel_rfl) (l_S W wo.heap.size 0 nm (D0.out W (LD1.out.trans (hW.mono LD1.out.size))))) ?_
          refine AnyB.take 17 (.bool false) rfl (by kernel_rfl) (by kernel_rfl) (by kernel_rfl) (fun _ _ _ h => h) (by kernel_rfl) (fun W hW => y_bin (x := .string ⟨ln.toArray⟩) (y := .string ⟨nm.toArray⟩) rfl (by kernel_rfl) (by kernel_rfl) rfl (geS9 W ln nm _ (by rw [hq]; rfl))) ?_
          refine AnyB.take 18 (.bool false) rfl (by kernel_rfl) (by kernel_rfl) (by kernel_rfl) (fun _ _ _ h => h) (by kernel_rfl) (fun W hW => by kernel_rfl) ?_
          refine AnyB.take 19 (.bool false) rfl (by kernel_rfl) (by kernel_rfl) (by kernel_rfl) (fun _ _ _ h => h) (by kernel_rfl) (fun W hW => by kernel_rfl) ?_
          refine AnyB.take 20 (.bool false) rfl (by kernel_rfl) (by kernel_rfl) (by kernel_rfl) (fun _ _ _ h => h) (by kernel_rfl) (fun W hW => by kernel_rfl) ?_
          refine AnyB.take 21 (.pointer (some ⟨wo.heap.size, 4, none⟩)) rfl (by kernel_rfl) (by kernel_rfl) (by kernel_rfl) (fun _ _ _ h => h) (by kernel_rfl) (fun W hW => y_field (sv := .pointer (some ⟨wo.heap.size, 0, none⟩)) rfl (by kernel_rfl) (f_f4z W wo.heap.size)) ?_
          refine AnyB.take 22 (.slice Ap np cp) rfl (by kernel_rfl) (by kernel_rfl) (by kernel_rfl) (fun _ _ _ h => h) (by kernel_rfl) (fun W hW => y_load (sv := .pointer (some ⟨wo.heap.size, 4, none⟩)) rfl (by kernel_rfl) (l_Sl W wo.heap.size 4 Ap np cp (D4.out W (LD1.out.trans (hW.mono LD1.out.size))))) ?_
          refine AnyB.call 23 36 #[.slice Ap np cp] (by kernel_rfl) rfl (by kernel_rfl) (by kernel_rfl) ?_
          refine (HPk.out _ LD1.out).mono ?_
          rintro e w7 ⟨rfl, hb7⟩
          have LD12 := Lib.hid (LD1.out.trans (hb7.mono LD1.out.size))
          refine ⟨_, rfl, hb7, ?_⟩
          refine AnyB.take 24 (.bool false) rfl (by kernel_rfl) (by kernel_rfl) (by kernel_rfl) (fun _ _ _ h => h) (by kernel_rfl) (fun W hW => by kernel_rfl) ?_
          refine AnyB.take 25 (.bool false) rfl (by kernel_rfl) (by kernel_rfl) (by kernel_rfl) (fun _ _ _ h => h) (by kernel_rfl) (fun W hW => by kernel_rfl) ?_
          refine AnyB.take 26 (.bool false) rfl (by kernel_rfl) (by kernel_rfl) (by kernel_rfl) (fun _ _ _ h => h) (by kernel_rfl) (fun W hW => by kernel_rfl) ?_
          refine AnyB.take 27 (.pointer (some ⟨wo.heap.size, 3, none⟩)) rfl (by kernel_rfl) (by kernel_rfl) (by kernel_rfl) (fun _ _ _ h => h) (by kernel_rfl) (fun W hW => y_field (sv := .pointer (some ⟨wo.heap.size, 0, none⟩)) rfl (by kernel_rfl) (f_f3z W wo.heap.size)) ?_
          refine AnyB.take 28 (.slice Ar nr cr) rfl (by kernel_rfl) (by kernel_rfl) (by kernel_rfl) (fun _ _ _ h => h) (by kernel_rfl) (fun W hW => y_load (sv := .pointer (some ⟨wo.heap.size, 3, none⟩)) rfl (by kernel_rfl) (l_Rl W wo.heap.size 3 Ar nr cr (D3.out W (LD12.out.trans (hW.mono LD12.out.size))))) ?_
          refine AnyB.call 29 37 #[.slice Ar nr cr] (by kernel_rfl) rfl (by kernel_rfl) (by kernel_rfl) ?_
          refine (HRf.out _ LD12.out).mono ?_
          rintro e w7 ⟨rfl, hb7⟩
          have LD123 := Lib.hid (LD12.out.trans (hb7.mono LD12.out.size))
          refine ⟨_, rfl, hb7, ?_⟩
          refine AnyB.take 30 (.bool true) rfl (by kernel_rfl) (by kernel_rfl) (by kernel_rfl) (fun _ _ _ h => h) (by kernel_rfl) (fun W hW => by kernel_rfl) ?_
          refine AnyB.take 31 (.bool true) rfl (by kernel_rfl) (by kernel_rfl) (by kernel_rfl) (fun _ _ _ h => h) (by kernel_rfl) (fun W hW => by kernel_rfl) ?_
          refine AnyB.done _ (by kernel_rfl) ?_
          go_simp
          have L9 := Lib.hid (L2.out.trans (LD123.out.mono L2.out.size))
          have HB := Lib.hid (HBad.out (by simp))
          clear HNm HRf HPk HSt HBad D0 D1 D3 D4 L2 HWB hok HHd D2
          go_wp2_with fail
          go_ret
          exact ⟨ret_bool HB.out.symm, LB.out.trans (L9.out.mono LB.out.size)⟩
        | true =>
          refine AnyB.start (by kernel_rfl) ?_
          refine AnyB.take 0 (.pointer (some ⟨wo.heap.size, 0, none⟩)) rfl (by kernel_rfl) (by kernel_rfl) (by kernel_rfl) (fun _ _ _ h => h) (by kernel_rfl) (fun W hW => y_field (sv := .pointer (some ⟨wo.heap.size, 0, none⟩)) rfl (by kernel_rfl) (f_f0z W wo.heap.size)) ?_
          refine AnyB.take 1 (.string ⟨nm.toArray⟩) rfl (by kernel_rfl) (by kernel_rfl) (by kernel_rfl) (fun _ _ _ h => h) (by kernel_rfl) (fun W hW => y_load (sv := .pointer (some ⟨wo.heap.size, 0, none⟩)) rfl (by kernel_rfl) (l_S W wo.heap.size 0 nm (D0.out W (LD.out.trans (hW.mono LD.out.size))))) ?_
          refine AnyB.call 2 20 #[.string ⟨nm.toArray⟩] (by kernel_rfl) rfl (by kernel_rfl) (by kernel_rfl) ?_
          refine (HNm.out _ LD.out).mono ?_
          rintro e w7 ⟨rfl, hb7⟩
          have LD1 := Lib.hid (LD.out.trans (hb7.mono LD.out.size))
          refine ⟨_, rfl, hb7, ?_⟩
          refine AnyB.take 3 (.bool false) rfl (by kernel_rfl) (by kernel_rfl) (by kernel_rfl) (fun _ _ _ h => h) (by kernel_rfl) (fun W hW => by kernel_rfl) ?_
          refine AnyB.take 4 (.bool false) rfl (by kernel_rfl) (by kernel_rfl) (by kernel_rfl) (fun _ _ _ h => h) (by kernel_rfl) (fun W hW => by kernel_rfl) ?_
          refine AnyB.take 5 (.int .i64 (k : Int)) rfl (by kernel_rfl) (by kernel_rfl) (by kernel_rfl) (fun _ _ _ h => h) (by kernel_rfl) (fun W hW => by kernel_rfl) ?_
          refine AnyB.take 6 (.bool true) rfl (by kernel_rfl) (by kernel_rfl) (by kernel_rfl) (fun _ _ _ h => h) (by kernel_rfl) (fun W hW => y_bin (x := .int .i64 (k : Int)) (y := .int .i64 (0 : Int)) rfl (by kernel_rfl) (by kernel_rfl) rfl (gtr9 W k _ hk0)) ?_
          refine AnyB.take 7 (.bool true) rfl (by kernel_rfl) (by kernel_rfl) (by kernel_rfl) (fun _ _ _ h => h) (by kernel_rfl) (fun W hW => by kernel_rfl) ?_
          refine AnyB.take 8 (.pointer (some ⟨w.heap.size, 2, none⟩)) rfl (by kernel_rfl) (by kernel_rfl) (by kernel_rfl) (fun _ _ _ h => h) (by kernel_rfl) (fun W hW => y_field (sv := .pointer (some ⟨w.heap.size, 0, none⟩)) rfl (by kernel_rfl) (f_r29 W w.heap.size)) ?_
          refine AnyB.take 9 (.slice (some ⟨g, o, none⟩) m d) rfl (by kernel_rfl) (by kernel_rfl) (by kernel_rfl) (fun _ _ _ h => h) (by kernel_rfl) (fun W hW => y_load (sv := .pointer (some ⟨w.heap.size, 2, none⟩)) rfl (by kernel_rfl) (l_Fs9 W w.heap.size 2 _ m d (C2.out W (LD1.out.trans (hW.mono LD1.out.size))))) ?_
          refine AnyB.take 10 (.int .i64 (k : Int)) rfl (by kernel_rfl) (by kernel_rfl) (by kernel_rfl) (fun _ _ _ h => h) (by kernel_rfl) (fun W hW => by kernel_rfl) ?_
          refine AnyB.take 11 (.int .i64 ((k - 1 : Nat) : Int)) rfl (by kernel_rfl) (by kernel_rfl) (by kernel_rfl) (fun _ _ _ h => h) (by kernel_rfl) (fun W hW => y_bin (x := .int .i64 (k : Int)) (y := .int .i64 (1 : Int)) rfl (by kernel_rfl) (by kernel_rfl) rfl (sub9 W k hk1)) ?_
          refine AnyB.take 12 (.pointer (some ⟨g, o + (k - 1) * 5, none⟩)) rfl (by kernel_rfl) (by kernel_rfl) (by kernel_rfl) (fun _ _ _ h => h) (by kernel_rfl) (fun W hW => y_index (sv := .slice (some ⟨g, o, none⟩) m d) (iv := .int .i64 ((k - 1 : Nat) : Int)) rfl (by kernel_rfl) (by kernel_rfl) (at_f W g o m d (k - 1) (by omega))) ?_
          refine AnyB.take 13 (.pointer (some ⟨g, o + (k - 1) * 5, none⟩)) rfl (by kernel_rfl) (by kernel_rfl) (by kernel_rfl) (fun _ _ _ h => h) (by kernel_rfl) (fun W hW => y_field (sv := .pointer (some ⟨g, o + (k - 1) * 5, none⟩)) rfl (by kernel_rfl) (f_f0 W g (o + (k - 1) * 5))) ?_
          refine AnyB.take 14 (.string ⟨ln.toArray⟩) rfl (by kernel_rfl) (by kernel_rfl) (by kernel_rfl) (fun _ _ _ h => h) (by kernel_rfl) (fun W hW => y_load (sv := .pointer (some ⟨g, o + (k - 1) * 5, none⟩)) rfl (by kernel_rfl) (l_S W g (o + (k - 1) * 5) ln (DL.out W (LD1.out.trans (hW.mono LD1.out.size))))) ?_
          refine AnyB.take 15 (.pointer (some ⟨wo.heap.size, 0, none⟩)) rfl (by kernel_rfl) (by kernel_rfl) (by kernel_rfl) (fun _ _ _ h => h) (by kernel_rfl) (fun W hW => y_field (sv := .pointer (some ⟨wo.heap.size, 0, none⟩)) rfl (by kernel_rfl) (f_f0z W wo.heap.size)) ?_
          refine AnyB.take 16 (.string ⟨nm.toArray⟩) rfl (by kernel_rfl) (by kernel_rfl) (by kernel_rfl) (fun _ _ _ h => h) (by kernel_rfl) (fun W hW => y_load (sv := .pointer (some ⟨wo.heap.size, 0, none⟩)) rfl (by kernel_rfl) (l_S W wo.heap.size 0 nm (D0.out W (LD1.out.trans (hW.mono LD1.out.size))))) ?_
          refine AnyB.take 17 (.bool false) rfl (by kernel_rfl) (by kernel_rfl) (by kernel_rfl) (fun _ _ _ h => h) (by kernel_rfl) (fun W hW => y_bin (x := .string ⟨ln.toArray⟩) (y := .string ⟨nm.toArray⟩) rfl (by kernel_rfl) (by kernel_rfl) rfl (geS9 W ln nm _ (by rw [hq]; rfl))) ?_
          refine AnyB.take 18 (.bool false) rfl (by kernel_rfl) (by kernel_rfl) (by kernel_rfl) (fun _ _ _ h => h) (by kernel_rfl) (fun W hW => by kernel_rfl) ?_
          refine AnyB.take 19 (.bool false) rfl (by kernel_rfl) (by kernel_rfl) (by kernel_rfl) (fun _ _ _ h => h) (by kernel_rfl) (fun W hW => by kernel_rfl) ?_
          refine AnyB.take 20 (.bool false) rfl (by kernel_rfl) (by kernel_rfl) (by kernel_rfl) (fun _ _ _ h => h) (by kernel_rfl) (fun W hW => by kernel_rfl) ?_
          refine AnyB.take 21 (.pointer (some ⟨wo.heap.size, 4, none⟩)) rfl (by kernel_rfl) (by kernel_rfl) (by kernel_rfl) (fun _ _ _ h => h) (by kernel_rfl) (fun W hW => y_field (sv := .pointer (some ⟨wo.heap.size, 0, none⟩)) rfl (by kernel_rfl) (f_f4z W wo.heap.size)) ?_
          refine AnyB.take 22 (.slice Ap np cp) rfl (by kernel_rfl) (by kernel_rfl) (by kernel_rfl) (fun _ _ _ h => h) (by kernel_rfl) (fun W hW => y_load (sv := .pointer (some ⟨wo.heap.size, 4, none⟩)) rfl (by kernel_rfl) (l_Sl W wo.heap.size 4 Ap np cp (D4.out W (LD1.out.trans (hW.mono LD1.out.size))))) ?_
          refine AnyB.call 23 36 #[.slice Ap np cp] (by kernel_rfl) rfl (by kernel_rfl) (by kernel_rfl) ?_
          refine (HPk.out _ LD1.out).mono ?_
          rintro e w7 ⟨rfl, hb7⟩
          have LD12 := Lib.hid (LD1.out.trans (hb7.mono LD1.out.size))
          refine ⟨_, rfl, hb7, ?_⟩
          refine AnyB.take 24 (.bool false) rfl (by kernel_rfl) (by kernel_rfl) (by kernel_rfl) (fun _ _ _ h => h) (by kernel_rfl) (fun W hW => by kernel_rfl) ?_
          refine AnyB.take 25 (.bool false) rfl (by kernel_rfl) (by kernel_rfl) (by kernel_rfl) (fun _ _ _ h => h) (by kernel_rfl) (fun W hW => by kernel_rfl) ?_
          refine AnyB.take 26 (.bool false) rfl (by kernel_rfl) (by kernel_rfl) (by kernel_rfl) (fun _ _ _ h => h) (by kernel_rfl) (fun W hW => by kernel_rfl) ?_
          refine AnyB.take 27 (.pointer (some ⟨wo.heap.size, 3, none⟩)) rfl (by kernel_rfl) (by kernel_rfl) (by kernel_rfl) (fun _ _ _ h => h) (by kernel_rfl) (fun W hW => y_field (sv := .pointer (some ⟨wo.heap.size, 0, none⟩)) rfl (by kernel_rfl) (f_f3z W wo.heap.size)) ?_
          refine AnyB.take 28 (.slice Ar nr cr) rfl (by kernel_rfl) (by kernel_rfl) (by kernel_rfl) (fun _ _ _ h => h) (by kernel_rfl) (fun W hW => y_load (sv := .pointer (some ⟨wo.heap.size, 3, none⟩)) rfl (by kernel_rfl) (l_Rl W wo.heap.size 3 Ar nr cr (D3.out W (LD12.out.trans (hW.mono LD12.out.size))))) ?_
          refine AnyB.call 29 37 #[.slice Ar nr cr] (by kernel_rfl) rfl (by kernel_rfl) (by kernel_rfl) ?_
          refine (HRf.out _ LD12.out).mono ?_
          rintro e w7 ⟨rfl, hb7⟩
          have LD123 := Lib.hid (LD12.out.trans (hb7.mono LD12.out.size))
          refine ⟨_, rfl, hb7, ?_⟩
          refine AnyB.take 30 (.bool false) rfl (by kernel_rfl) (by kernel_rfl) (by kernel_rfl) (fun _ _ _ h => h) (by kernel_rfl) (fun W hW => by kernel_rfl) ?_
          refine AnyB.take 31 (.bool false) rfl (by kernel_rfl) (by kernel_rfl) (by kernel_rfl) (fun _ _ _ h => h) (by kernel_rfl) (fun W hW => by kernel_rfl) ?_
          refine AnyB.done _ (by kernel_rfl) ?_
          go_simp
          have L9 := Lib.hid (LD123.out)
          have L9w := Lib.hid (L2.out.trans (L9.out.mono L2.out.size))
          have d2 := D2.out _ L9.out
          cases hv : nameB hd with
          | false =>
            have HB := Lib.hid (HBad.out (by rw [hd_no hv]; simp))
            have HC := Lib.hid (fun W => HHd.out W _ hv)
            clear HNm HRf HPk HSt HBad D0 D1 D3 D4 L2 HWB hok HHd D2 hv L9 LD LD1 LD12 LD123
            go_wp2_with fail
            refine (HC.out _).mono ?_
            rintro e w8 ⟨rfl, rfl⟩
            go_wp2_with fail
            go_ret
            exact ⟨ret_bool HB.out.symm, LB.out.trans (L9w.out.mono LB.out.size)⟩
          | true =>
            obtain ⟨y, hy, hyb⟩ := hd_first hv
            have HC := Lib.hid (fun W => HHd.out W _ hv)
            have hsz : (⟨hd.toArray⟩ : ByteArray).size = hd.length := by show hd.toArray.size = _; simp
            obtain ⟨hl, hhl⟩ : ∃ z, z = hd.length := ⟨_, rfl⟩
            have hl0 : 0 < hl := by rw [hhl]; exact (List.getElem?_eq_some_iff.1 hy).1
            have hl0I : (0 : Int) < (hl : Int) := by omega
            have hyi : ∀ hh, (⟨hd.toArray⟩ : ByteArray)[0]'hh = y := fun hh => by
              have := (List.getElem?_eq_some_iff.1 hy).2
              show hd.toArray[0] = _; simpa using this
            rw [← hhl] at hsz
            cases hz : decide (y = 104) with
            | false =>
              have hyI : ((y.toNat : Int) != 104) = true := by
                have h5 : ((y.toNat : Int) == 104) = decide (y = 104) := u8_eqR y 104
                show (!((y.toNat : Int) == 104)) = true
                rw [h5, hz]; rfl
              have HB := Lib.hid (HBad.out (by rw [hyb, hz]; simp))
              clear HNm HRf HPk HSt HBad D0 D1 D3 D4 L2 HWB hok HHd D2 hv L9 LD LD1 LD12 LD123 hz hyb hy hhl
              go_wp2_with fail
              refine (HC.out _).mono ?_
              rintro e w8 ⟨rfl, rfl⟩
              go_wp2_with fail
              go_ret
              exact ⟨ret_bool HB.out.symm, LB.out.trans (L9w.out.mono LB.out.size)⟩
            | true =>
              have hyI : ((y.toNat : Int) != 104) = false := by
                have h5 : ((y.toNat : Int) == 104) = decide (y = 104) := u8_eqR y 104
                show (!((y.toNat : Int) == 104)) = false
                rw [h5, hz]; rfl
              have HS := Lib.hid (HSt.out rfl (by rw [HRs.out, hq]) rfl rfl (by rw [hyb, hz]))
              clear HNm HRf HPk HSt HBad D0 D1 D3 D4 L2 HWB hok HHd D2 hv L9 LD LD1 LD12 LD123 hz hyb hy hhl
              go_wp2_with fail
              refine (HC.out _).mono ?_
              rintro e w8 ⟨rfl, rfl⟩
              go_wp2_with fail
              go_roundw
              case rel => exact ⟨k + 1, by omega, by go_num, L9w, HS⟩
              case measure => simp [intOf]; omega
end Go.Proofs.YtnboagmibhllpaaGreatDoor.Ro
