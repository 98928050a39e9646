/-
  The document's Same of roots.
-/
import Derived.Test.YtnboagmibhllpaaGreatDoorC20
namespace Go.Proofs.YtnboagmibhllpaaGreatDoor.Ro
open Go.Proofs.YtnboagmibhllpaaGreatDoor
open Go.Proofs.YtnboagmibhllpaaGreatDoor.Rf (BoolB Ref RefsR)
open Go Go.RowKit

open Classical in
noncomputable def eqF (a b : Fk) : Bool := decide (a = b)
open Classical in
noncomputable def eqR (a b : Rt) : Bool := decide (a = b)
theorem eqR_iff {a b : Rt} : eqR a b = true ↔ a = b := by unfold eqR; simp
theorem eqR_no {a b : Rt} (h : a ≠ b) : eqR a b = false := by
  cases he : eqR a b with
  | false => rfl
  | true => exact absurd (eqR_iff.1 he) h
theorem eqR_yes {a b : Rt} (h : a = b) : eqR a b = true := eqR_iff.2 h
theorem SameTexts_b {w : World} {va vb : Value} {l m : List Bs} (ha : StrsR w va l) (hb : StrsR w vb m) (hl : l.length ≤ 1000000) : Calls Tryz.prog 39 #[va, vb] w (BoolB (decide (l = m)) w) :=
  (SameTexts_any ha hb hl).mono fun _ _ h => ⟨h.1, h.2⟩
theorem fR (W : World) (b : Nat) : ((Instr.fieldAt 25 (.pointer (some ⟨b, 0, none⟩)) 0).run Tryz.prog W = .ok (.pointer (some ⟨b, 0, none⟩)) W) ∧ ((Instr.fieldAt 25 (.pointer (some ⟨b, 0, none⟩)) 1).run Tryz.prog W = .ok (.pointer (some ⟨b, 1, none⟩)) W) ∧ ((Instr.fieldAt 25 (.pointer (some ⟨b, 0, none⟩)) 2).run Tryz.prog W = .ok (.pointer (some ⟨b, 2, none⟩)) W) := by
  refine ⟨?_, ?_, ?_⟩ <;> simp [go_sem]
theorem f_f1z (W : World) (b : Nat) : (Instr.fieldAt 42 (.pointer (some ⟨b, 0, none⟩)) 1).run Tryz.prog W = .ok (.pointer (some ⟨b, 1, none⟩)) W := by simp [go_sem]
theorem f_f2z (W : World) (b : Nat) : (Instr.fieldAt 42 (.pointer (some ⟨b, 0, none⟩)) 2).run Tryz.prog W = .ok (.pointer (some ⟨b, 2, none⟩)) W := by simp [go_sem]
theorem neqI (W : World) (x y : Int) (b : Bool) (h : (x != y) = b) : (binOp .neq 3 (.int .i64 x) (.int .i64 y)).run Tryz.prog W = .ok (.bool b) W := by
  subst h; simp [go_sem, bne]
theorem neqB (W : World) (x y b : Bool) (h : (x != y) = b) : (binOp .neq 4 (.bool x) (.bool y)).run Tryz.prog W = .ok (.bool b) W := by
  subst h; cases x <;> cases y <;> simp [go_sem, bne]
theorem neqS (W : World) (x y : Bs) (b : Bool) (h : decide (x = y) = !b) : (binOp .neq 9 (.string ⟨x.toArray⟩) (.string ⟨y.toArray⟩)).run Tryz.prog W = .ok (.bool b) W := by
  show (Op.stringOp .neq _ _).run _ _ = _
  cases b with
  | true =>
    have h1 : ¬ x = y := of_decide_eq_false h
    simp [go_sem, Op.stringOp, h1]
  | false =>
    have h1 : x = y := of_decide_eq_true h
    simp [go_sem, Op.stringOp, h1]
theorem cells_new {w wB : World} {cs : Array Value} {t : TypeId} (hwB : wB = w.alloc (.cells cs t)) (i : Nat) (u : Value) (hi : cs[i]? = some u) : ∀ W, Below wB.heap.size wB W → W.cell? ⟨w.heap.size, i, none⟩ = some u := fun W h =>
  (h.cell (p := ⟨w.heap.size, i, none⟩) (by rw [hwB]; simp)).trans (by rw [hwB, cell_of_row _ _ _ _ _ _ (heap_alloc_new w _)]; exact hi)
theorem Fk.ext' {a b : Fk} (h1 : a.name = b.name) (h2 : a.linked = b.linked) (h3 : a.head = b.head) (h4 : a.refs = b.refs) (h5 : a.packs = b.packs) : a = b := by
  cases a; cases b; simp only at h1 h2 h3 h4 h5; subst h1; subst h2; subst h3; subst h4; subst h5; rfl
theorem Rt.ext' {a b : Rt} (h1 : a.count = b.count) (h2 : a.pool = b.pool) (h3 : a.forks = b.forks) : a = b := by
  cases a; cases b; simp only at h1 h2 h3; subst h1; subst h2; subst h3; rfl
set_option maxHeartbeats 8000000 in
set_option maxRecDepth 100000 in
theorem OSame_p {w : World} {va vb : Value} {r s : Rt} (ha : RtR w va r) (hb : RtR w vb s) (hr : FitR r) : Calls Tryz.prog 18 #[va, vb] w (BoolB (eqR r s) w) := by
  obtain ⟨A, c, B, d, rfl, hp, hk⟩ := ha.parts
  obtain ⟨A', c', B', d', rfl, hp', hk'⟩ := hb.parts
  obtain ⟨n, hn⟩ : ∃ n, n = r.pool.length := ⟨_, rfl⟩
  obtain ⟨m, hm⟩ : ∃ m, m = r.forks.length := ⟨_, rfl⟩
  obtain ⟨z, hz⟩ : ∃ z, z = r.count := ⟨_, rfl⟩
  obtain ⟨n', hn'⟩ : ∃ n, n = s.pool.length := ⟨_, rfl⟩
  obtain ⟨m', hm'⟩ : ∃ m, m = s.forks.length := ⟨_, rfl⟩
  obtain ⟨z', hz'⟩ : ∃ z, z = s.count := ⟨_, rfl⟩
  rw [← hn] at hp
  rw [← hm] at hk
  rw [← hn'] at hp'
  rw [← hm'] at hk'
  rw [← hn, ← hm, ← hz, ← hn', ← hm', ← hz']
  obtain ⟨wa, hwa⟩ : ∃ y, y = w.alloc (.cells #[.int .i64 z, .slice A n c, .slice B m d] 25) := ⟨_, rfl⟩
  have la : Below w.heap.size w wa := by rw [hwa]; exact below_new _ _
  obtain ⟨wb, hwb⟩ : ∃ y, y = wa.alloc (.cells #[.int .i64 z', .slice A' n' c', .slice B' m' d'] 25) := ⟨_, rfl⟩
  have lb : Below wa.heap.size wa wb := by rw [hwb]; exact below_new _ _
  have hsz : wa.heap.size = w.heap.size + 1 := by rw [hwa]; simp
  have L : Below w.heap.size w wb := la.trans (lb.mono la.size)
  have cA := fun (i : Nat) (u : Value) (hi : (#[.int .i64 z, .slice A n c, .slice B m d] : Array Value)[i]? = some u) => (show Hid (∀ W, Below wb.heap.size wb W → W.cell? ⟨w.heap.size, i, none⟩ = some u) from Lib.hid fun W h => (h.cell (p := ⟨w.heap.size, i, none⟩) (by have := lb.size; show w.heap.size < wb.heap.size; omega)).trans ((lb.cell (p := ⟨w.heap.size, i, none⟩) (by show w.heap.size < wa.heap.size; omega)).trans (cells_new hwa i u hi wa (Below.refl _ _))))
  have cB := fun (i : Nat) (u : Value) (hi : (#[.int .i64 z', .slice A' n' c', .slice B' m' d'] : Array Value)[i]? = some u) => (show Hid (∀ W, Below wb.heap.size wb W → W.cell? ⟨w.heap.size + 1, i, none⟩ = some u) from Lib.hid fun W h => by rw [← hsz]; exact cells_new hwb i u hi W h)
  have C0 := cA 0 _ rfl; have C1 := cA 1 _ rfl; have C2 := cA 2 _ rfl
  have E0 := cB 0 _ rfl; have E1 := cB 1 _ rfl; have E2 := cB 2 _ rfl
  have hpb := RdK.below hp L (Nat.le_refl _); have hpb' := RdK.below hp' L (Nat.le_refl _)
  have HST : Hid (∀ W, Below wb.heap.size wb W → Calls Tryz.prog 39 #[.slice A n c, .slice A' n' c'] W (BoolB (decide (r.pool = s.pool)) W)) := Lib.hid fun W h => SameTexts_b (RdK.below hpb h (Nat.le_refl _)) (RdK.below hpb' h (Nat.le_refl _)) hr.plen
  have HK := Lib.hid (hk.below L (Nat.le_refl _)); have HK' := Lib.hid (hk'.below L (Nat.le_refl _))
  have HL := Lib.hid L
  have HWb : Hid (wb = (w.alloc (.cells #[.int .i64 z, .slice A n c, .slice B m d] 25)).alloc (.cells #[.int .i64 z', .slice A' n' c', .slice B' m' d'] 25)) := Lib.hid (by rw [hwb, hwa])
  have hm6 : m ≤ 1000000 := by rw [hm]; exact hr.flen
  have HM := Lib.hid hm; have HM' := Lib.hid hm'; have HR := Lib.hid hr
  obtain ⟨q, hq⟩ : ∃ q, q = eqR r s := ⟨_, rfl⟩
  rw [← hq]
  have Hno : Hid (z ≠ z' ∨ r.pool ≠ s.pool ∨ m ≠ m' → q = false) := Lib.hid fun h => by
    rw [hq]
    refine eqR_no fun e => ?_
    subst e
    rcases h with h | h | h
    · exact h (by rw [hz, hz'])
    · exact h rfl
    · exact h (by rw [hm, hm'])
  have Hyes : Hid (z = z' → r.pool = s.pool → r.forks = s.forks → q = true) := Lib.hid fun h1 h2 h3 => by
    rw [hq]; exact eqR_yes (Rt.ext' (by rw [← hz, ← hz', h1]) h2 h3)
  have Hnof : Hid (r.forks ≠ s.forks → q = false) := Lib.hid fun h => by rw [hq]; exact eqR_no fun e => h (by rw [e])
  obtain ⟨p, hpp⟩ : ∃ p, p = decide (r.pool = s.pool) := ⟨_, rfl⟩
  rw [← hpp] at HST
  have HPt : Hid (p = true → r.pool = s.pool) := Lib.hid fun h => of_decide_eq_true (by rw [← hpp]; exact h)
  have HPf : Hid (p = false → r.pool ≠ s.pool) := Lib.hid fun h => of_decide_eq_false (by rw [← hpp]; exact h)
  clear hp hk hp' hk' hn hn' hm hm' hz hz' hwa hwb la lb hsz L cA cB hpb hpb' hr hq hpp ha hb
  go_enter Tryz.func18, Tryz.ntmps18
  go_upto_region 1 with fail
  rw [← HWb.out]
  clear HWb
  have c0 := C0.out wb (Below.refl _ _); have c1 := C1.out wb (Below.refl _ _)
  have e0 := E0.out wb (Below.refl _ _); have e1 := E1.out wb (Below.refl _ _)
  by_cases hz : z = z'
  case neg =>
    have hzz : (z != z') = true := by simpa using hz
    have HQ := Lib.hid (Hno.out (.inl hz))
    clear hz
    go_wp2_with fail
    go_ret
    exact ⟨ret_bool HQ.out.symm, HL.out⟩
  have hzz : (z != z') = false := by simpa using hz
  have HZ := Lib.hid hz
  clear hz
  go_wp2_with fail
  refine (HST.out _ (Below.refl _ _)).mono ?_
  rintro e w7 ⟨rfl, hb7⟩
  have L7 := Lib.hid hb7
  have f2 := C2.out w7 hb7; have g2 := E2.out w7 hb7
  clear hb7 c0 c1 e0 e1
  cases p with
  | false =>
    have HQ := Lib.hid (Hno.out (.inr (.inl (HPf.out (by simp)))))
    go_wp2_with fail
    go_ret
    exact ⟨ret_bool HQ.out.symm, HL.out.trans (L7.out.mono HL.out.size)⟩
  | true =>
  by_cases hm : m = m'
  case neg =>
    have hmm : ((m : Int) != (m' : Int)) = true := by simp; omega
    have HQ := Lib.hid (Hno.out (.inr (.inr hm)))
    clear hm
    go_wp2_with fail
    go_ret
    exact ⟨ret_bool HQ.out.symm, HL.out.trans (L7.out.mono HL.out.size)⟩
  have hmm : ((m : Int) != (m' : Int)) = false := by simp; omega
  have HMM := Lib.hid hm
  clear hm
  have HK7 := Lib.hid (HK.out.below L7.out (Nat.le_refl _)); have HK7' := Lib.hid (HK'.out.below L7.out (Nat.le_refl _))
  have LW := Lib.hid (HL.out.trans (L7.out.mono HL.out.size))
  have ms : w.heap.size < w7.heap.size ∧ w.heap.size + 1 < w7.heap.size := ⟨World.block_lt_of_cell? _ _ f2, World.block_lt_of_cell? _ _ g2⟩
  have F2 : Hid (∀ W, Below w7.heap.size w7 W → W.cell? ⟨w.heap.size, 2, none⟩ = some (.slice B m d)) := Lib.hid fun W h => (h.cell (p := ⟨w.heap.size, 2, none⟩) ms.1).trans f2
  have G2 : Hid (∀ W, Below w7.heap.size w7 W → W.cell? ⟨w.heap.size + 1, 2, none⟩ = some (.slice B' m' d')) := Lib.hid fun W h => (h.cell (p := ⟨w.heap.size + 1, 2, none⟩) ms.2).trans g2
  clear ms C0 C1 C2 E0 E1 E2 HST HK HK' L7
  go_wp2_with fail
  go_loopw [5] (fun i wr => ∃ k : Nat, k ≤ m ∧ i = .int .i64 k ∧ Hid (Below w7.heap.size w7 wr) ∧ Hid (r.forks.take k = s.forks.take k)) (fun i _ => m - (intOf i).toNat)
  case atStart => exact ⟨0, Nat.zero_le _, rfl, Lib.hid (Below.refl _ _), Lib.hid (by rw [List.take_zero, List.take_zero])⟩
  case round =>
    obtain ⟨wo, hwo⟩ : ∃ wo, wo = wr := ⟨_, rfl⟩
    subst hwo
    obtain ⟨k, hk, rfl, hB, heq⟩ := hrel
    have x2 := F2.out wo hB.out
    have y2 := G2.out wo hB.out
    by_cases hlt : k < m
    case neg =>
      have hkm : k = m := by omega
      have HQ : Hid (q = true) := Lib.hid (Hyes.out HZ.out (HPt.out (by simp)) (by
        have h := heq.out
        rw [hkm] at h
        rw [HM.out, List.take_length] at h
        rw [h, ← HM.out, HMM.out, HM'.out, List.take_length]))
      clear hkm heq y2
      go_wp2_with fail
      go_ret
      exact ⟨ret_bool HQ.out.symm, LW.out.trans (hB.out.mono LW.out.size)⟩
    have hlt' : k < m' := by have := HMM.out; omega
    obtain ⟨g, o, c', e, _, hg⟩ := HK7.out.pos (by have := HM.out; omega)
    obtain rfl : B = some ⟨g, o, none⟩ := by rw [← HM.out] at e; cases e; rfl
    clear e
    obtain ⟨g', o', c'', e, _, hg'⟩ := HK7'.out.pos (by have := HM'.out; omega)
    obtain rfl : B' = some ⟨g', o', none⟩ := by rw [← HM'.out] at e; cases e; rfl
    clear e
    obtain ⟨f, hf⟩ : ∃ f, r.forks[k]? = some f := ⟨_, List.getElem?_eq_getElem (by have := HM.out; omega)⟩
    obtain ⟨f', hf'⟩ : ∃ f, s.forks[k]? = some f := ⟨_, List.getElem?_eq_getElem (by have := HM'.out; omega)⟩
    obtain ⟨x, hx, d0, d1, d2, d3, d4⟩ := (HK7.out.below hB.out (Nat.le_refl _)).at hf
    obtain ⟨y, hy, e0, e1, e2, e3, e4⟩ := (HK7'.out.below hB.out (Nat.le_refl _)).at hf'
    have hft := HR.out.forks f (List.mem_of_getElem? hf)
    obtain ⟨wA, hwA⟩ : ∃ v, v = wo.alloc (.cells (fkC x).toArray 42) := ⟨_, rfl⟩
    have lA : Below wo.heap.size wo wA := by rw [hwA]; exact below_new _ _
    have sA : wA.heap.size = wo.heap.size + 1 := by rw [hwA]; simp
    obtain ⟨wB, hwB⟩ : ∃ v, v = wA.alloc (.cells (fkC y).toArray 42) := ⟨_, rfl⟩
    have lB : Below wA.heap.size wA wB := by rw [hwB]; exact below_new _ _
    have lAB : Below wo.heap.size wo wB := lA.trans (lB.mono lA.size)
    have yA2 : wA.cell? ⟨w.heap.size + 1, 2, none⟩ = some (.slice (some ⟨g', o', none⟩) m' d') := (lA.cell (p := ⟨w.heap.size + 1, 2, none⟩) (World.block_lt_of_cell? _ _ y2)).trans y2
    have yA := fun (i : Nat) (u : Value) (h : wo.cell? ⟨g', o' + k * 5 + i, none⟩ = some u) => (lA.cell (p := ⟨g', o' + k * 5 + i, none⟩) (World.block_lt_of_cell? _ _ h)).trans h
    have a0 : wA.cell? ⟨g', o' + k * 5, none⟩ = some (SV y.name) := yA 0 _ e0
    have a1 : wA.cell? ⟨g', o' + k * 5 + 1, none⟩ = some (.bool y.linked) := yA 1 _ e1
    have a2 : wA.cell? ⟨g', o' + k * 5 + 2, none⟩ = some (SV y.head) := yA 2 _ e2
    have a3 : wA.cell? ⟨g', o' + k * 5 + 3, none⟩ = some y.rv := yA 3 _ e3
    have a4 : wA.cell? ⟨g', o' + k * 5 + 4, none⟩ = some y.pv := yA 4 _ e4
    have dl := fun (i : Nat) (u : Value) (hi : (fkC x)[i]? = some u) => (show Hid (∀ W, Below wB.heap.size wB W → W.cell? ⟨wo.heap.size, i, none⟩ = some u) from Lib.hid fun W h => (h.cell (p := ⟨wo.heap.size, i, none⟩) (by have := lB.size; show wo.heap.size < wB.heap.size; omega)).trans ((lB.cell (p := ⟨wo.heap.size, i, none⟩) (by show wo.heap.size < wA.heap.size; omega)).trans (cells_new hwA i u (by simpa using hi) wA (Below.refl _ _))))
    have el := fun (i : Nat) (u : Value) (hi : (fkC y)[i]? = some u) => (show Hid (∀ W, Below wB.heap.size wB W → W.cell? ⟨wo.heap.size + 1, i, none⟩ = some u) from Lib.hid fun W h => by rw [← sA]; exact cells_new hwB i u (by simpa using hi) W h)
    have D0 := dl 0 _ rfl; have D1 := dl 1 _ rfl; have D2 := dl 2 _ rfl; have D3 := dl 3 _ rfl; have D4 := dl 4 _ rfl
    have E0 := el 0 _ rfl; have E1 := el 1 _ rfl; have E2 := el 2 _ rfl; have E3 := el 3 _ rfl; have E4 := el 4 _ rfl
    have hxB := hx.below lAB (Nat.le_refl _); have hyB := hy.below lAB (Nat.le_refl _)
    have HRf : Hid (∀ W, Below wB.heap.size wB W → Calls Tryz.prog 40 #[x.rv, y.rv] W (BoolB (decide (f.refs = f'.refs)) W)) := Lib.hid fun W hW =>
      Rf.Same_p (RdK.below hxB.refs hW (Nat.le_refl _)) (RdK.below hyB.refs hW (Nat.le_refl _)) hft.rlen
    have HPk : Hid (∀ W, Below wB.heap.size wB W → Calls Tryz.prog 39 #[x.pv, y.pv] W (BoolB (decide (f.packs = f'.packs)) W)) := Lib.hid fun W hW =>
      SameTexts_b (RdK.below hxB.packs hW (Nat.le_refl _)) (RdK.below hyB.packs hW (Nat.le_refl _)) hft.plen
    have HSt : Hid (x.name = y.name → x.linked = y.linked → x.head = y.head → f.refs = f'.refs → f.packs = f'.packs → r.forks.take (k + 1) = s.forks.take (k + 1)) := Lib.hid fun h1 h2 h3 h4 h5 => by
      rw [List.take_add_one, List.take_add_one, hf, hf', heq.out, Fk.ext' (by rw [← hx.name, ← hy.name, h1]) (by rw [← hx.linked, ← hy.linked, h2]) (by rw [← hx.head, ← hy.head, h3]) h4 h5]
    have HBad : Hid (x.name ≠ y.name ∨ x.linked ≠ y.linked ∨ x.head ≠ y.head ∨ f.refs ≠ f'.refs ∨ f.packs ≠ f'.packs → q = false) := Lib.hid fun h => Hnof.out fun e => by
      rw [e, hf'] at hf
      cases hf
      rcases h with h | h | h | h | h
      · exact h (by rw [hx.name, hy.name])
      · exact h (by rw [hx.linked, hy.linked])
      · exact h (by rw [hx.head, hy.head])
      · exact h rfl
      · exact h rfl
    obtain ⟨pr, hpr⟩ : ∃ v, v = decide (f.refs = f'.refs) := ⟨_, rfl⟩
    obtain ⟨pp, hpp⟩ : ∃ v, v = decide (f.packs = f'.packs) := ⟨_, rfl⟩
    rw [← hpr] at HRf
    rw [← hpp] at HPk
    have HPr : Hid ((pr = true → f.refs = f'.refs) ∧ (pr = false → f.refs ≠ f'.refs)) := Lib.hid ⟨fun h => of_decide_eq_true (by rw [← hpr]; exact h), fun h => of_decide_eq_false (by rw [← hpr]; exact h)⟩
    have HPp : Hid ((pp = true → f.packs = f'.packs) ∧ (pp = false → f.packs ≠ f'.packs)) := Lib.hid ⟨fun h => of_decide_eq_true (by rw [← hpp]; exact h), fun h => of_decide_eq_false (by rw [← hpp]; exact h)⟩
    obtain ⟨Ar, cr, er⟩ := RdK.shape hx.refs
    obtain ⟨Ap, cp, ep⟩ := RdK.shape hx.packs
    obtain ⟨Ar', cr', er'⟩ := RdK.shape hy.refs
    obtain ⟨Ap', cp', ep'⟩ := RdK.shape hy.packs
    obtain ⟨nr, hnr⟩ : ∃ n, n = f.refs.length := ⟨_, rfl⟩
    obtain ⟨np, hnp⟩ : ∃ n, n = f.packs.length := ⟨_, rfl⟩
    obtain ⟨nr', hnr'⟩ : ∃ n, n = f'.refs.length := ⟨_, rfl⟩
    obtain ⟨np', hnp'⟩ : ∃ n, n = f'.packs.length := ⟨_, rfl⟩
    rw [← hnr] at er
    rw [← hnp] at ep
    rw [← hnr'] at er'
    rw [← hnp'] at ep'
    have L2 : Hid (Below w7.heap.size w7 wB) := Lib.hid (hB.out.trans (lAB.mono hB.out.size))
    have HWA := Lib.hid hwA; have HWB := Lib.hid hwB; have SA := Lib.hid sA
    clear hf hf' hx hy hft hwA hwB lA lB lAB sA hxB hyB dl el yA e0 e1 e2 e3 e4 hpr hpp hnr hnp hnr' hnp' hg hg' heq hB
    obtain ⟨nm, lk, hd, rv, pv⟩ := x
    obtain ⟨nm', lk', hd', rv', pv'⟩ := y
    simp only at er ep er' ep'
    subst er; subst ep; subst er'; subst ep'
    unfold fkC at HWA HWB
    simp only [SV, List.toArray] at d0 d1 d2 d3 d4 a0 a1 a2 a3 a4 HRf HPk HWA HWB D0 D1 D2 D3 D4 E0 E1 E2 E3 E4
    simp only at HSt HBad
    go_upto_region 7 with fail
    rw [← HWA.out]
    go_upto_region 8 with fail
    rw [← HWB.out, SA.out]
    have p0 := D0.out wB (Below.refl _ _); have p1 := D1.out wB (Below.refl _ _); have p2 := D2.out wB (Below.refl _ _); have p3 := D3.out wB (Below.refl _ _)
    have q0 := E0.out wB (Below.refl _ _); have q1 := E1.out wB (Below.refl _ _); have q2 := E2.out wB (Below.refl _ _); have q3 := E3.out wB (Below.refl _ _)
    clear d0 d1 d2 d3 d4 a0 a1 a2 a3 a4 x2 y2 yA2 HWA HWB
    by_cases n1 : nm = nm'
    case neg =>
      have HQ := Lib.hid (HBad.out (.inl n1))
      have h1 : (nm == nm') = false := by simpa using n1
      go_wp2_with fail
      go_ret
      exact ⟨ret_bool HQ.out.symm, LW.out.trans (L2.out.mono LW.out.size)⟩
    subst n1
    by_cases n2 : lk = lk'
    case neg =>
      have HQ := Lib.hid (HBad.out (.inr (.inl n2)))
      cases lk <;> cases lk' <;> first
        | exact absurd rfl n2
        | (clear n2; go_wp2_with fail; go_ret; exact ⟨ret_bool HQ.out.symm, LW.out.trans (L2.out.mono LW.out.size)⟩)
    subst n2
    by_cases n3 : hd = hd'
    case neg =>
      have HQ := Lib.hid (HBad.out (.inr (.inr (.inl n3))))
      have h3 : (hd == hd') = false := by simpa using n3
      go_wp2_with fail
      go_ret
      exact ⟨ret_bool HQ.out.symm, LW.out.trans (L2.out.mono LW.out.size)⟩
    subst n3
    go_wp2_with fail
    refine (HRf.out _ (Below.refl _ _)).mono ?_
    rintro e w8 ⟨rfl, hb8⟩
    have L8 := Lib.hid hb8
    have p4 := D4.out w8 hb8; have q4 := E4.out w8 hb8
    clear hb8 p0 p1 p2 p3 q0 q1 q2 q3
    cases pr with
    | false =>
      have HQ := Lib.hid (HBad.out (.inr (.inr (.inr (.inl (HPr.out.2 (by simp)))))))
      go_wp2_with fail
      go_ret
      exact ⟨ret_bool HQ.out.symm, LW.out.trans ((L2.out.trans (L8.out.mono L2.out.size)).mono LW.out.size)⟩
    | true =>
    go_wp2_with fail
    refine (HPk.out _ L8.out).mono ?_
    rintro e w9 ⟨rfl, hb9⟩
    have L9 := Lib.hid (L8.out.trans (hb9.mono L8.out.size))
    clear hb9 p4 q4
    cases pp with
    | false =>
      have HQ := Lib.hid (HBad.out (.inr (.inr (.inr (.inr (HPp.out.2 (by simp)))))))
      go_wp2_with fail
      go_ret
      exact ⟨ret_bool HQ.out.symm, LW.out.trans ((L2.out.trans (L9.out.mono L2.out.size)).mono LW.out.size)⟩
    | true =>
    have HS2 := Lib.hid (HSt.out (by simp) (by simp) (by simp) (HPr.out.1 (by simp)) (HPp.out.1 (by simp)))
    go_wp2_with fail
    go_roundw
    case rel => exact ⟨k + 1, hlt, by go_num, Lib.hid (L2.out.trans (L9.out.mono L2.out.size)), HS2⟩
    case measure => simp [intOf]; omega
end Go.Proofs.YtnboagmibhllpaaGreatDoor.Ro
