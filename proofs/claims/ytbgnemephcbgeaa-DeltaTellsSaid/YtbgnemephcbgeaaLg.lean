/-
  long.
-/
import Derived.Test.YtbgnemephcbgeaaHd
namespace Go.Proofs.Ytbgnemephcbgeaa
open Go Go.RowKit Go.Shelf
attribute [local go_sem] Oper.semAt_some

structure LgI (base b0 : Bs) (w0 : World) (R D : Nat) (s : Option Bs) (C : Nat → Prop) (W : World) : Prop where
  st : ∃ b t0, s = some b ∧ stepsL base b0 = (stepsL base b).map (t0 ++ ·) ∧ t0.length ≤ (b0.length - b.length) * 10000 ∧ b.length ≤ b0.length ∧ W.heap[D]? = some (.cells #[.int .i64 (t0.length : Int)] 3 (0, 0))
  r : W.heap[R]? = some (.cells #[.nilIface] 35 (0, 0))
  c : ∀ k, C k ↔ k = R ∨ k = D
  bl : Below w0.heap.size w0 W
structure LgX (base b0 : Bs) (w0 : World) (R : Nat) (W : World) : Prop where
  st : stepsL base b0 = none
  r : ∃ ev, W.heap[R]? = some (.cells #[ev] 35 (0, 0)) ∧ FaultIn W ev 3
  bl : Below w0.heap.size w0 W
theorem piece_len {base b p r : Bs} (h : stepL base b = some (p, r)) (hb : base.length ≤ 10000) : p.length ≤ 10000 := by
  cases b with
  | nil => cases h
  | cons c b =>
    rw [stepL] at h
    split at h
    · split at h
      · cases h
      · split at h
        · cases h
        · split at h
          · cases h
          · simp only [Option.some.injEq, Prod.mk.injEq] at h
            rw [← h.1, List.length_take, List.length_drop]; omega
    · split at h
      · cases h
      · rename_i hc
        simp only [Option.some.injEq, Prod.mk.injEq] at h
        have := c.toNat_lt
        rw [← h.1, List.length_take]; omega
theorem iface_at {w : World} {a : Nat} {v : Value} (h : w.heap[a]? = some (.cells #[v] 35 (0, 0))) : w.cell? ⟨a, 0, none⟩ = some v := (cell_of_row w a 0 _ _ _ h).trans rfl
def LongP (base b0 : Bs) (len : Nat) (w : World) (e : Ending) (w' : World) : Prop := Below w.heap.size w w' ∧ ((e = .returned .nilIface ∧ ∃ t, stepsL base b0 = some t ∧ t.length = len) ∨ (∃ ev, e = .returned ev ∧ FaultIn w' ev 3 ∧ ∀ t, stepsL base b0 = some t → t.length ≠ len))

set_option maxHeartbeats 8000000 in
set_option maxRecDepth 100000 in
theorem long_any {w : World} {A : Option Addr} {N c : Nat} {base b0 : Bs} (hr : Rb w (.slice A N c) b0) (hN : N = b0.length) (hl : b0.length ≤ 10000) (hb : base.length ≤ 10000) (len : Nat) :
    Calls Try.prog 27 #[.string ⟨base.toArray⟩, .slice A N c, .int .i64 (len : Int)] w (LongP base b0 len w) := by
  obtain ⟨wa, hwa⟩ : ∃ z, z = w.alloc (.cells #[.nilIface] 35) := ⟨_, rfl⟩
  obtain ⟨w1, hw1⟩ : ∃ z, z = wa.alloc (.cells #[.int .i64 0] 3) := ⟨_, rfl⟩
  have sa := heap_alloc_sz hwa rfl
  have s1 := heap_alloc_sz hw1 rfl
  have ba : Below w.heap.size w wa := by rw [hwa]; exact below_new _ _
  have b1 : Below wa.heap.size wa w1 := by rw [hw1]; exact below_new _ _
  have kR : w1.heap[w.heap.size]? = some (.cells #[.nilIface] 35 (0, 0)) := (b1.block _ (by omega)).trans (heap_alloc_at hwa rfl)
  have kD : w1.heap[w.heap.size + 1]? = some (.cells #[.int .i64 0] 3 (0, 0)) := by rw [← sa]; exact heap_alloc_at hw1 rfl
  have bw1 : Below w.heap.size w w1 := ba.trans (b1.mono (by omega))
  have HM := Lib.hid (parts_any base A N c w1)
  have H0 : Hid (∀ w3, (w1.alloc (.cells #[.string ⟨base.toArray⟩] 9)).alloc (.cells #[.slice A N c] 29) = w3 → w3.heap.size = w.heap.size + 4 ∧ w3.cell? ⟨w.heap.size + 2, 0, none⟩ = some (.string ⟨base.toArray⟩) ∧ w3.cell? ⟨w.heap.size + 3, 0, none⟩ = some (.slice A N c) ∧ Rb w3 (.slice A N c) b0 ∧ LgI base b0 w (w.heap.size) (w.heap.size + 1) (some b0) (fun k => k = w.heap.size ∨ k = w.heap.size + 1) w3) := Lib.hid (by
    intro w3 hw3
    obtain ⟨wb, hwb⟩ : ∃ z, z = w1.alloc (.cells #[.string ⟨base.toArray⟩] 9) := ⟨_, rfl⟩
    rw [← hwb] at hw3
    have sb := heap_alloc_sz hwb rfl
    have s3 := heap_alloc_sz hw3.symm rfl
    have bb : Below w1.heap.size w1 wb := by rw [hwb]; exact below_new _ _
    have b3 : Below wb.heap.size wb w3 := by rw [← hw3]; exact below_new _ _
    have b13 : Below w1.heap.size w1 w3 := bb.trans (b3.mono bb.size)
    have kb : wb.heap[w1.heap.size]? = some _ := heap_alloc_at hwb rfl
    have ks : w3.heap[wb.heap.size]? = some _ := heap_alloc_at hw3.symm rfl
    refine ⟨by omega, ?_, ?_, hr.below (bw1.trans (b13.mono bw1.size)) (Nat.le_refl _), ⟨⟨b0, [], rfl, by simp, by simp, Nat.le_refl _, (b13.block _ (by omega)).trans kD⟩, (b13.block _ (by omega)).trans kR, fun k => Iff.rfl, bw1.trans (b13.mono bw1.size)⟩⟩
    · rw [show w.heap.size + 2 = w1.heap.size by omega]
      exact (cell_of_row _ _ 0 _ _ _ ((b3.block _ (by omega)).trans kb)).trans rfl
    · rw [show w.heap.size + 3 = wb.heap.size by omega]
      exact (cell_of_row _ _ 0 _ _ _ ks).trans rfl)
  have HO : Hid (b0 ≠ [] → ∀ g, (Value.slice A N c).ownBlock = some g → g < w.heap.size) := Lib.hid hr.own_lt
  have HNe := Lib.hid hN
  have HW1 : Hid (w1 = (w.alloc (.cells #[.nilIface] 35)).alloc (.cells #[.int .i64 0] 3)) := Lib.hid (by rw [hw1, hwa])
  have HSz : Hid (w1.heap.size = w.heap.size + 2) := Lib.hid (by omega)
  clear hr hN sa s1 ba b1 kR kD bw1 hw1 hwa wa
  refine (callsIn_wide (n := 5)).1 (callsIn_of_wp_marks Try.func27 rfl trivial ?_ rfl)
  refine wpIn_wide.2 ?_
  simp only [Try.ntmps27, List.size_toArray, List.length_cons, List.length_nil, Nat.reduceAdd, Nat.reduceSub, Array.replicate_succ, Array.replicate_zero, List.push_toArray, List.append_toArray, List.nil_append, List.cons_append]
  go_upto_region 2 with fail
  change Code.wp Try.prog _ _ _ ((w.alloc (.cells #[.nilIface] 35)).alloc (.cells #[.int .i64 0] 3))
  rw [← HW1.out]
  clear HW1
  go_wp2_with fail
  refine HM.out.mono ?_
  intro e w3 hh
  rw [hh.1, HSz.out]
  have HF := Lib.hid (H0.out w3 hh.2)
  clear hh e HM H0
  go_wp2_with fail
  refine range_gen (Step := PStep base) (End := PEnd) (s0 := some b0) (C0 := fun k => k = w.heap.size ∨ k = w.heap.size + 1) rfl (enters_of Try.func43 (by kernel_rfl) rfl) ?hps ?hit (fun s C W => LgI base b0 w w.heap.size (w.heap.size + 1) s C W) (fun _ W => LgX base b0 w w.heap.size W) ?hst ?hstx ?hlt HF.out.2.2.2.2 ?round ?done ?stop
  case hps =>
    rintro s vs s' W ⟨b, _, ⟨p, r, _, rfl, _⟩ | ⟨ev, _, _, rfl, _⟩⟩
    · rfl
    · rfl
  case hit =>
    obtain ⟨f1, f2, f3, f4, f5⟩ := HF.out
    exact parts_iter (by omega) (by omega) f2 f3 f4 HNe.out (by omega) (fun h => by omega) (fun h0 g hg => by have := HO.out h0 g hg; exact ⟨by omega, fun h => by omega⟩)
  case hst =>
    rintro s C W W' ⟨⟨b, t0, h1, h2, h3, h4, h5⟩, h6, h7, h8⟩ hbt
    have f1 := HF.out.1
    have n1 : ∀ k, C k → ¬ (w3.heap.size ≤ k ∧ ¬ C k) := fun k hk h => h.2 hk
    refine ⟨⟨b, t0, h1, h2, h3, h4, (hbt.block _ (lt_heap h5) (n1 _ ((h7 _).2 (.inr rfl)))).trans h5⟩, (hbt.block _ (lt_heap h6) (n1 _ ((h7 _).2 (.inl rfl)))).trans h6, h7, h8.trans (hbt.below (fun k _ hk => by omega) h8.size)⟩
  case hstx =>
    rintro C W W' l hwl ⟨h1, ⟨ev, h2, h3⟩, h4⟩ ⟨lr, hlr⟩ hbt
    have f1 := HF.out.1
    have nl : ∀ {k : Nat} {cs : Array Value} {t : TypeId} {fr : Nat × Nat}, W.heap[k]? = some (.cells cs t fr) → k ≠ l := fun h e => by rw [e, hlr] at h; cases h
    obtain ⟨a, x, rfl, ha⟩ := h3
    have hb0 : Below w.heap.size w W' := h4.trans ⟨hbt.os, hbt.tape, hbt.output, hbt.size, fun k hk => by
      have hkW := h4.size
      exact hbt.block k (by omega) (by omega)⟩
    exact ⟨h1, ⟨_, (hbt.block _ (lt_heap h2) (nl h2)).trans h2, a, x, rfl, (hbt.block _ (lt_heap ha) (nl ha)).trans ha⟩, hb0⟩
  case hlt =>
    rintro s C W ⟨⟨b, t0, _, _, _, _, h5⟩, h6, h7, _⟩ k hk
    rcases (h7 k).1 hk with rfl | rfl
    · exact lt_heap h6
    · exact lt_heap h5
  case round =>
    rintro l s C vs s' W ⟨⟨b, t0, h1, h2, h3, h4, h5⟩, h6, h7, h8⟩ ⟨b2, rfl, hcase⟩ hl1 hl2 hCl ⟨lr, hlr⟩
    obtain rfl : b2 = b := Option.some.inj h1
    clear h1
    have f1 := HF.out.1
    obtain ⟨D, hD⟩ : ∃ D, D = w.heap.size + 1 := ⟨_, rfl⟩
    obtain ⟨R, hR⟩ : ∃ R, R = w.heap.size := ⟨_, rfl⟩
    rw [← hD] at h5 h7
    rw [← hR] at h6 h7
    have hnD : D ≠ R := by omega
    have lD : D ≠ l := fun e => hCl (by rw [← e]; exact (h7 D).2 (.inr rfl))
    have lR : R ≠ l := fun e => hCl (by rw [← e]; exact (h7 R).2 (.inl rfl))
    have hlb : t0.length ≤ 100000000 := by
      have h9 : (b0.length - b2.length) * 10000 ≤ 10000 * 10000 := Nat.mul_le_mul_right _ (by omega)
      omega
    rcases hcase with ⟨p, r, hst, rfl, rfl⟩ | ⟨ev, hst, hne, rfl, hf, rfl⟩
    · have hpl := piece_len hst hb
      have hrl := stepL_less hst
      have hfin : Hid (∀ Wb, But (fun k => k = l) W Wb → (Wb.cell? ⟨D, 0, none⟩ = some (.int .i64 (t0.length : Int)) ∧ Wb.frozen? ⟨D, 0, none⟩ = false) ∧ ∀ (a : Go.Act) (W'), W' = Wb.setCell ⟨D, 0, none⟩ (.int .i64 ((t0.length : Int) + (p.length : Int))) → bpost (fun s C W => LgI base b0 w R D s C W) (fun _ W => LgX base b0 w R W) (some r) C Wb .normal a W') := Lib.hid fun Wb hbb => by
        have kD := (hbb.block D (lt_heap h5) lD).trans h5
        have kR := (hbb.block R (lt_heap h6) lR).trans h6
        refine ⟨⟨(cell_of_row Wb _ 0 _ _ _ kD).trans rfl, frozen_of kD⟩, fun a W' hW' => ?_⟩
        have bt2 : But (fun k => k = D) Wb W' := by rw [hW']; exact but_setCell _ _ _ _
        refine ⟨C, ⟨⟨r, t0 ++ p, rfl, ?_, ?_, by omega, ?_⟩, ?_, h7, ?_⟩, bt2.mono fun k _ hk => by rw [hk]; exact (h7 D).2 (.inr rfl), fun k hk => .inl hk⟩
        · rw [h2, stepsL_some hst, Option.map_map]
          congr 1; funext x; simp
        · rw [List.length_append]
          have h9 : (b0.length - r.length) * 10000 ≥ (b0.length - b2.length + 1) * 10000 := Nat.mul_le_mul_right _ (by omega)
          omega
        · rw [hW', blk_setCell kD, List.length_append, Int.natCast_add]; rfl
        · exact (bt2.block R (lt_heap kR) (fun e => hnD e.symm)).trans kR
        · refine (h8.trans (hbb.below (fun k _ hk => by omega) h8.size)).trans ?_
          rw [hW']
          exact below_set (Below.refl _ _) (by omega)
      rw [← hD]
      rw [← hR]
      clear hst hrl h2 h3 h4 h5 h6 h7 h8 hnD lD lR hlr hCl hD hR hl1 hl2 f1
      gi_wp2
      refine ⟨Below.refl _ _, fun Wb hbb => ?_⟩
      obtain ⟨⟨cD, fD⟩, hpost⟩ := hfin.out Wb hbb
      have HP := Lib.hid hpost
      clear hbb hfin hpost
      gi_wp2
      exact HP.out _ _ rfl
    · obtain ⟨a, x, rfl, ha⟩ := hf
      have q1 := neqFN
      have hfin : Hid (∀ Wb, But (fun k => k = l) W Wb → (Wb.cell? ⟨R, 0, none⟩ = some .nilIface ∧ Wb.frozen? ⟨R, 0, none⟩ = false) ∧ ∀ (ac : Go.Act) (W'), W' = Wb.setCell ⟨R, 0, none⟩ (.iface 95 (.pointer (some ⟨a, 0, none⟩))) → bpost (fun s C W => LgI base b0 w R D s C W) (fun _ W => LgX base b0 w R W) none C Wb .ret ac W') := Lib.hid fun Wb hbb => by
        have kR := (hbb.block R (lt_heap h6) lR).trans h6
        have na : a ≠ l := fun e => by rw [e, hlr] at ha; cases ha
        have nR : a ≠ R := fun e => by rw [e, h6] at ha; cases ha
        have ka := (hbb.block a (lt_heap ha) na).trans ha
        refine ⟨⟨(cell_of_row Wb _ 0 _ _ _ kR).trans rfl, frozen_of kR⟩, fun ac W' hW' => ?_⟩
        have bt2 : But (fun k => k = R) Wb W' := by rw [hW']; exact but_setCell _ _ _ _
        refine ⟨C, ⟨by rw [h2, stepsL_none hne hst]; rfl, ⟨_, by rw [hW', blk_setCell kR]; rfl, a, x, rfl, (bt2.block a (lt_heap ka) nR).trans ka⟩, ?_⟩, bt2.mono fun k _ hk => by rw [hk]; exact (h7 R).2 (.inl rfl), fun k hk => .inl hk⟩
        refine (h8.trans (hbb.below (fun k _ hk => by omega) h8.size)).trans ?_
        rw [hW']
        exact below_set (Below.refl _ _) (by omega)
      rw [← hD]
      rw [← hR]
      clear hst h2 h3 h4 h5 h6 h7 h8 hnD lD lR hlr hCl hD hR ha hne hl1 hl2 f1
      gi_wp2
      refine ⟨Below.refl _ _, fun Wb hbb => ?_⟩
      obtain ⟨⟨cD, fD⟩, hpost⟩ := hfin.out Wb hbb
      have HP := Lib.hid hpost
      clear hbb hfin hpost
      gi_wp2
      exact HP.out _ _ rfl
  case stop =>
    rintro De C W hDe hCD ⟨h1, ⟨ev, h2, a, x, rfl, ha⟩, h4⟩ hK
    have f1 := HF.out.1
    have nR : w.heap.size ≠ De := by omega
    have na : a ≠ De := fun e => by rw [e, hK] at ha; cases ha
    have hb1 : But (fun k => k = De) W (W.putObj De (.deferred none)) := but_putObj (S := fun k => k = De) _ De _ rfl
    have c5 : (W.putObj De (.deferred none)).cell? ⟨w.heap.size, 0, none⟩ = some (.iface 95 (.pointer (some ⟨a, 0, none⟩))) := (cell_of_row _ _ 0 _ _ _ ((hb1.block _ (lt_heap h2) nR).trans h2)).trans rfl
    have HP : Hid (LongP base b0 len w (.returned (.iface 95 (.pointer (some ⟨a, 0, none⟩)))) (W.putObj De (.deferred none))) := Lib.hid ⟨h4.trans (hb1.below (fun k _ hk => by omega) h4.size), .inr ⟨_, rfl, ⟨a, x, rfl, (hb1.block _ (lt_heap ha) na).trans ha⟩, fun t ht => by rw [h1] at ht; cases ht⟩⟩
    have HK := Lib.hid hK; have HC5 := Lib.hid c5
    clear h1 h2 h4 ha hK c5 hb1 nR na hCD hDe f1
    go_wp2_with fail
    refine ⟨by simp, .inl ⟨_, _, rfl, run_takeDeferred HK.out, ?_⟩⟩
    have c5 := HC5.out
    exact ⟨.iface 95 (.pointer (some ⟨a, 0, none⟩)), by simp [results, Try.results27, go_sem, c5], HP.out⟩
  case done =>
    rintro De s C W hDe hCD hend ⟨⟨b, t0, rfl, h2, h3, h4, h5⟩, h6, h7, h8⟩ hK
    obtain rfl : b = [] := by
      rcases hend with h | h
      · exact Option.some.inj h
      · cases h
    have f1 := HF.out.1
    rw [stepsL_nil] at h2
    have hst : stepsL base b0 = some t0 := by rw [h2]; simp
    obtain ⟨D, hD⟩ : ∃ D, D = w.heap.size + 1 := ⟨_, rfl⟩
    obtain ⟨R, hR⟩ : ∃ R, R = w.heap.size := ⟨_, rfl⟩
    rw [← hD] at h5
    rw [← hR] at h6
    rw [← hD]
    rw [← hR]
    have nR : R ≠ De := by omega
    have hRs : R < W.heap.size := lt_heap h6
    have c5 : W.cell? ⟨D, 0, none⟩ = some (.int .i64 (t0.length : Int)) := (cell_of_row _ _ 0 _ _ _ h5).trans rfl
    have c6 : W.cell? ⟨R, 0, none⟩ = some .nilIface := (cell_of_row _ _ 0 _ _ _ h6).trans rfl
    have f6 := frozen_of (i := 0) h6
    have HW := Lib.hid (wrong_any [116, 101, 120, 116] W)
    have hall : ∀ (v : Value) (W2 : World), Below W.heap.size W W2 → ∀ W4, W4 = (W2.setCell ⟨R, 0, none⟩ v).putObj De (.deferred none) → W4.cell? ⟨R, 0, none⟩ = some v ∧ Below w.heap.size w W4 ∧ (W2.setCell ⟨R, 0, none⟩ v).heap[De]? = some (.deferred (some [])) ∧ But (fun k => k = R ∨ k = De) W2 W4 := fun v W2 hb2 W4 hW4 => by
      have k2 := (hb2.block R hRs).trans h6
      have k3 : (W2.setCell ⟨R, 0, none⟩ v).heap[R]? = some (.cells #[v] 35 (0, 0)) := blk_setCell k2 v
      have kd : (W2.setCell ⟨R, 0, none⟩ v).heap[De]? = some (.deferred (some [])) := by
        rw [setCell_other _ _ _ _ _ (fun e => nR e.symm)]
        exact (hb2.block De (lt_heap hK)).trans hK
      have hp : But (fun k => k = De) (W2.setCell ⟨R, 0, none⟩ v) W4 := by rw [hW4]; exact but_putObj (S := fun k => k = De) _ De _ rfl
      have hall : But (fun k => k = R ∨ k = De) W2 W4 := ((but_setCell W2 R 0 v).mono fun k _ h => .inl h).trans (hp.mono fun k _ h => .inr h)
      refine ⟨(cell_of_row _ _ 0 _ _ _ ((hp.block R (lt_heap k3) nR).trans k3)).trans rfl, ?_, kd, hall⟩
      exact (h8.trans (hb2.mono (by omega))).trans (hall.below (fun k _ hk => by omega) (by have := hb2.size; omega))
    have HA := Lib.hid hall
    have Hst := Lib.hid hst
    have HnRD : Hid (R < De) := Lib.hid (by omega)
    have HRl : Hid (R < W.heap.size) := Lib.hid hRs
    have HDl : Hid (De < W.heap.size) := Lib.hid (lt_heap hK)
    have HKK := Lib.hid h6
    have HK6 := Lib.hid hK
    have hlb : t0.length ≤ 100000000 := by
      have h9 : (b0.length - ([] : Bs).length) * 10000 ≤ 10000 * 10000 := Nat.mul_le_mul_right _ (by simp; omega)
      omega
    clear hall hst h2 h3 h4 h5 h6 h7 h8 hK hend hCD hDe hD hR f1 nR hRs
    by_cases hq : t0.length = len
    · have b1 : ((t0.length : Int) != (len : Int)) = false := by simp only [bne_eq_false_iff_eq]; omega
      have HP : Hid (∀ W4, Below w.heap.size w W4 → LongP base b0 len w (.returned .nilIface) W4) := Lib.hid fun W4 h => ⟨h, .inl ⟨rfl, t0, Hst.out, hq⟩⟩
      clear hq
      go_wp2_with fail
      obtain ⟨a1, a2, a3, a4⟩ := HA.out .nilIface W (Below.refl _ _) _ rfl
      refine ⟨by simp, .inl ⟨_, _, rfl, run_takeDeferred a3, ?_⟩⟩
      exact ⟨.nilIface, by simp [results, Try.results27, go_sem, a1], HP.out _ a2⟩
    · have b1 : ((t0.length : Int) != (len : Int)) = true := by simp only [bne_iff_ne, ne_eq]; omega
      have HQ := Lib.hid hq
      clear hq
      go_wp2_with fail
      refine HW.out.mono ?_
      rintro e W2 ⟨ev, rfl, ⟨a, x, rfl, ha⟩, hb2⟩
      have c7 : W2.cell? ⟨R, 0, none⟩ = some .nilIface := cell_to c6 hb2
      have f7 : W2.frozen? ⟨R, 0, none⟩ = false := frozen_of (i := 0) ((hb2.block R HRl.out).trans HKK.out)
      have HP : Hid (∀ W4, Below w.heap.size w W4 → But (fun k => k = R ∨ k = De) W2 W4 → LongP base b0 len w (.returned (.iface 95 (.pointer (some ⟨a, 0, none⟩)))) W4) := Lib.hid fun W4 h hbt => by
        have nR : a ≠ R := fun e => by
          have := (hb2.block R HRl.out).trans HKK.out
          rw [e, this] at ha; cases ha
        have nD : a ≠ De := fun e => by
          have := (hb2.block De HDl.out).trans HK6.out
          rw [e, this] at ha; cases ha
        exact ⟨h, .inr ⟨_, rfl, ⟨a, x, rfl, (hbt.block a (lt_heap ha) (fun h => h.elim nR nD)).trans ha⟩, fun t ht => by rw [Hst.out] at ht; cases ht; exact HQ.out⟩⟩
      have HB2 := Lib.hid hb2
      clear ha hb2 HW c5 c6 f6
      go_wp2_with fail
      obtain ⟨a1, a2, a3, a4⟩ := HA.out (.iface 95 (.pointer (some ⟨a, 0, none⟩))) W2 HB2.out _ rfl
      refine ⟨by simp, .inl ⟨_, _, rfl, run_takeDeferred a3, ?_⟩⟩
      exact ⟨.iface 95 (.pointer (some ⟨a, 0, none⟩)), by simp [results, Try.results27, go_sem, a1], HP.out _ a2 a4⟩
end Go.Proofs.Ytbgnemephcbgeaa
