/-
  long. strings.Builder in this program. made, Apply. applied.
  resolved.
-/
import Derived.Test.YtgjddkeogboojaaGreatDoorY15
import Derived.Shelf.Strings.Builder2
import Derived.Shelf.Strings.BuilderK
import Derived.Test.YtgjddkeogboojaaGreatDoorY16
import Derived.Test.YtgjddkeogboojaaGreatDoorY11
set_option maxHeartbeats 16000000
set_option maxRecDepth 100000
namespace Go.Proofs.YtgjddkeogboojaaGreatDoor.Dl
open Go Go.RowKit Go.Shelf
attribute [local go_sem] Oper.semAt_some
structure LgI (base b0 : Bs) (w0 : World) (R D : Nat) (s : Option Bs) (C : Nat → Prop) (W : World) : Prop where
 st : ∃ b t0, s = some b ∧ z1j base b0 = (z1j base b).map (t0 ++ ·) ∧ t0.length ≤ (b0.length - b.length) * 70000 ∧ b.length ≤ b0.length ∧ W.heap[D]? = some (.cells #[.int .i64 (t0.length : Int)] 3 (0, 0))
 r : W.heap[R]? = some (.cells #[.nilIface] 64 (0, 0))
 c : ∀ k, C k ↔ k = R ∨ k = D
 bl : Below w0.heap.size w0 W
structure LgX (base b0 : Bs) (w0 : World) (R : Nat) (W : World) : Prop where
 st : z1j base b0 = none
 r : ∃ ev, W.heap[R]? = some (.cells #[ev] 64 (0, 0)) ∧ FaultIn W ev 3
 bl : Below w0.heap.size w0 W
theorem zmm {base b p r : Bs} (h : z2n base b = some (p, r)) (hb : base.length ≤ 70000) : p.length ≤ 70000 := by
 cases b with
 | nil => cases h
 | cons c b =>
   rw [z2n] at h;split at h
   · split at h
     · cases h
     · split at h
       · cases h
       · split at h
         · cases h
         · simp only [Option.some.injEq, Prod.mk.injEq] at h;rw [← h.1, List.length_take, List.length_drop]; omega
   · split at h
     · cases h
     · rename_i hc;simp only [Option.some.injEq, Prod.mk.injEq] at h;have := c.toNat_lt;rw [← h.1, List.length_take]; omega
def LongP (base b0 : Bs) (len : Nat) (w : World) (e : Ending) (w' : World) : Prop := Below w.heap.size w w' ∧ ((e = .returned .nilIface ∧ ∃ t, z1j base b0 = some t ∧ t.length = len) ∨ (∃ ev, e = .returned ev ∧ FaultIn w' ev 3 ∧ ∀ t, z1j base b0 = some t → t.length ≠ len))
theorem long_any {w : World} {A : Option Addr} {N c : Nat} {base b0 : Bs} (hr : Rb w (.slice A N c) b0) (hN : N = b0.length) (hl : b0.length ≤ 10000) (hb : base.length ≤ 70000) (len : Nat) :
 Calls Tryz.prog 149 #[.string ⟨base.toArray⟩, .slice A N c, .int .i64 (len : Int)] w (LongP base b0 len w) := by
 obtain ⟨wa, hwa⟩ := zx (w.alloc (.cells #[.nilIface] 64));obtain ⟨w1, hw1⟩ := zx (wa.alloc (.cells #[.int .i64 0] 3));have sa := z1r hwa rfl;have s1 := z1r hw1 rfl;have ba : Below w.heap.size w wa := by rw [hwa]; exact below_new _ _
 have b1 : Below wa.heap.size wa w1 := by rw [hw1]; exact below_new _ _
 have kR : w1.heap[w.heap.size]? = some (.cells #[.nilIface] 64 (0, 0)) := (b1.block _ (by omega)).trans (z14 hwa rfl);have kD : w1.heap[w.heap.size + 1]? = some (.cells #[.int .i64 0] 3 (0, 0)) := by rw [← sa]; exact z14 hw1 rfl
 have bw1 : Below w.heap.size w w1 := ba.trans (b1.mono (by omega));have HM := zh (zdl base A N c w1)
 have H0 : Hid (∀ w3, (w1.alloc (.cells #[.string ⟨base.toArray⟩] 9)).alloc (.cells #[.slice A N c] 23) = w3 → w3.heap.size = w.heap.size + 4 ∧ w3.cell? ⟨w.heap.size + 2, 0, none⟩ = some (.string ⟨base.toArray⟩) ∧ w3.cell? ⟨w.heap.size + 3, 0, none⟩ = some (.slice A N c) ∧ Rb w3 (.slice A N c) b0 ∧ LgI base b0 w (w.heap.size) (w.heap.size + 1) (some b0) (fun k => k = w.heap.size ∨ k = w.heap.size + 1) w3) := zh (by
  intro w3 hw3;obtain ⟨wb, hwb⟩ := zx (w1.alloc (.cells #[.string ⟨base.toArray⟩] 9));rw [← hwb] at hw3;have sb := z1r hwb rfl;have s3 := z1r hw3.symm rfl;have bb : Below w1.heap.size w1 wb := by rw [hwb]; exact below_new _ _
  have b3 : Below wb.heap.size wb w3 := by rw [← hw3]; exact below_new _ _
  have b13 : Below w1.heap.size w1 w3 := bb.trans (b3.mono bb.size);have kb : wb.heap[w1.heap.size]? = some _ := z14 hwb rfl;have ks : w3.heap[wb.heap.size]? = some _ := z14 hw3.symm rfl;refine ⟨by omega, ?_, ?_, hr.below (bw1.trans (b13.mono bw1.size)) zl, ⟨⟨b0, [], rfl, by simp, by simp, Nat.le_refl _, (b13.block _ (by omega)).trans kD⟩, (b13.block _ (by omega)).trans kR, fun k => Iff.rfl, bw1.trans (b13.mono bw1.size)⟩⟩
  · rw [show w.heap.size + 2 = w1.heap.size by omega];exact (cell_of_row _ _ 0 _ _ _ ((b3.block _ (by omega)).trans kb)).trans rfl
  · rw [show w.heap.size + 3 = wb.heap.size by omega];exact (cell_of_row _ _ 0 _ _ _ ks).trans rfl)
 have HO : Hid (b0 ≠ [] → ∀ g, (Value.slice A N c).ownBlock = some g → g < w.heap.size) := zh hr.own_lt;have HNe := zh hN;have HW1 : Hid (w1 = (w.alloc (.cells #[.nilIface] 64)).alloc (.cells #[.int .i64 0] 3)) := zh (by rw [hw1, hwa]);have HSz : Hid (w1.heap.size = w.heap.size + 2) := zh (by omega);clear hr hN sa s1 ba b1 kR kD bw1 hw1 hwa wa;refine (callsIn_wide (n := 5)).1 (callsIn_of_wp_marks Tryz.func149 rfl trivial ?_ rfl);refine wpIn_wide.2 ?_;simp only [Tryz.ntmps149, List.size_toArray, List.length_cons, List.length_nil, Nat.reduceAdd, Nat.reduceSub, Array.replicate_succ, Array.replicate_zero, List.push_toArray, List.append_toArray, List.nil_append, List.cons_append]
 go_upto_region 2 with fail
 change Code.wp Tryz.prog _ _ _ ((w.alloc (.cells #[.nilIface] 64)).alloc (.cells #[.int .i64 0] 3));rw [← HW1.out];clear HW1
 go_wp2_with fail
 refine HM.out.mono ?_;intro e w3 hh;rw [hh.1, HSz.out];have HF := zh (H0.out w3 hh.2);clear hh e HM H0
 go_wp2_with fail
 refine zdh (Step := PStep base) (End := PEnd) (s0 := some b0) (C0 := fun k => k = w.heap.size ∨ k = w.heap.size + 1) rfl (enters_of Tryz.func165 (by kernel_rfl) rfl) ?hps ?hit (fun s C W => LgI base b0 w w.heap.size (w.heap.size + 1) s C W) (fun _ W => LgX base b0 w w.heap.size W) ?hst ?hstx ?hlt HF.out.2.2.2.2 ?round ?done ?stop
 case hps =>
  rintro s vs s' W ⟨b, _, ⟨p, r, _, rfl, _⟩ | ⟨ev, _, _, rfl, _⟩⟩
  · rfl
  · rfl
 case hit =>
  obtain ⟨f1, f2, f3, f4, f5⟩ := HF.out;exact zau (by omega) (by omega) f2 f3 f4 HNe.out (by omega) (fun h => by omega) (fun h0 g hg => by have := HO.out h0 g hg; exact ⟨by omega, fun h => by omega⟩)
 case hst =>
  rintro s C W W' ⟨⟨b, t0, h1, h2, h3, h4, h5⟩, h6, h7, h8⟩ hbt;have f1 := HF.out.1;have n1 : ∀ k, C k → ¬ (w3.heap.size ≤ k ∧ ¬ C k) := fun k hk h => h.2 hk;refine ⟨⟨b, t0, h1, h2, h3, h4, (hbt.block _ (lt_heap h5) (n1 _ ((h7 _).2 (.inr rfl)))).trans h5⟩, (hbt.block _ (lt_heap h6) (n1 _ ((h7 _).2 (.inl rfl)))).trans h6, h7, h8.trans (hbt.below (fun k _ hk => by omega) h8.size)⟩
 case hstx =>
  rintro C W W' l hwl ⟨h1, ⟨ev, h2, h3⟩, h4⟩ ⟨lr, hlr⟩ hbt;have f1 := HF.out.1;have nl : ∀ {k : Nat} {cs : Array Value} {t : TypeId} {fr : Nat × Nat}, W.heap[k]? = some (.cells cs t fr) → k ≠ l := fun h e => by rw [e, hlr] at h; cases h
  obtain ⟨a, x, rfl, ha⟩ := h3
  have hb0 : Below w.heap.size w W' := h4.trans ⟨hbt.os, hbt.tape, hbt.output, hbt.size, fun k hk => by
   have hkW := h4.size;exact hbt.block k (by omega) (by omega)⟩
  exact ⟨h1, ⟨_, (hbt.block _ (lt_heap h2) (nl h2)).trans h2, a, x, rfl, (hbt.block _ (lt_heap ha) (nl ha)).trans ha⟩, hb0⟩
 case hlt =>
  rintro s C W ⟨⟨b, t0, _, _, _, _, h5⟩, h6, h7, _⟩ k hk;rcases (h7 k).1 hk with rfl | rfl
  · exact lt_heap h6
  · exact lt_heap h5
 case round =>
  rintro l s C vs s' W ⟨⟨b, t0, h1, h2, h3, h4, h5⟩, h6, h7, h8⟩ ⟨b2, rfl, hcase⟩ hl1 hl2 hCl ⟨lr, hlr⟩;obtain rfl : b2 = b := Option.some.inj h1;clear h1;have f1 := HF.out.1;obtain ⟨D, hD⟩ := zx (w.heap.size + 1);obtain ⟨R, hR⟩ := zx w.heap.size;rw [← hD] at h5 h7;rw [← hR] at h6 h7;have hnD : D ≠ R := by omega
  have lD : D ≠ l := fun e => hCl (by rw [← e]; exact (h7 D).2 (.inr rfl));have lR : R ≠ l := fun e => hCl (by rw [← e]; exact (h7 R).2 (.inl rfl))
  have hlb : t0.length ≤ 700000000 := by
   have h9 : (b0.length - b2.length) * 70000 ≤ 10000 * 70000 := Nat.mul_le_mul_right _ (by omega);omega
  rcases hcase with ⟨p, r, hst, rfl, rfl⟩ | ⟨ev, hst, hne, rfl, hf, rfl⟩
  · have hpl := zmm hst hb;have hrl := z71 hst
    have hfin : Hid (∀ Wb, But (fun k => k = l) W Wb → (Wb.cell? ⟨D, 0, none⟩ = some (.int .i64 (t0.length : Int)) ∧ Wb.frozen? ⟨D, 0, none⟩ = false) ∧ ∀ (a : Go.Act) (W'), W' = Wb.setCell ⟨D, 0, none⟩ (.int .i64 ((t0.length : Int) + (p.length : Int))) → bpost (fun s C W => LgI base b0 w R D s C W) (fun _ W => LgX base b0 w R W) (some r) C Wb .normal a W') := zh fun Wb hbb => by
     have kD := (hbb.block D (lt_heap h5) lD).trans h5;have kR := (hbb.block R (lt_heap h6) lR).trans h6;refine ⟨⟨(cell_of_row Wb _ 0 _ _ _ kD).trans rfl, frozen_of kD⟩, fun a W' hW' => ?_⟩;have bt2 : But (fun k => k = D) Wb W' := by rw [hW']; exact but_setCell _ _ _ _
     refine ⟨C, ⟨⟨r, t0 ++ p, rfl, ?_, ?_, by omega, ?_⟩, ?_, h7, ?_⟩, bt2.mono fun k _ hk => by rw [hk]; exact (h7 D).2 (.inr rfl), fun k hk => .inl hk⟩
     · rw [h2, z3c hst, Option.map_map]
       congr 1; funext x; simp
     · rw [List.length_append];have h9 : (b0.length - r.length) * 70000 ≥ (b0.length - b2.length + 1) * 70000 := Nat.mul_le_mul_right _ (by omega);omega
     · rw [hW', blk_setCell kD, List.length_append, Int.natCast_add]; rfl
     · exact (bt2.block R (lt_heap kR) (fun e => hnD e.symm)).trans kR
     · refine (h8.trans (hbb.below (fun k _ hk => by omega) h8.size)).trans ?_;rw [hW'];exact zdi (Below.refl _ _) (by omega)
    rw [← hD];rw [← hR];clear hst hrl h2 h3 h4 h5 h6 h7 h8 hnD lD lR hlr hCl hD hR hl1 hl2 f1
    gi_wp2
    refine ⟨Below.refl _ _, fun Wb hbb => ?_⟩;obtain ⟨⟨cD, fD⟩, hpost⟩ := hfin.out Wb hbb;have HP := zh hpost;clear hbb hfin hpost
    gi_wp2
    exact HP.out _ _ rfl
  · obtain ⟨a, x, rfl, ha⟩ := hf;have q1 := neqFN
    have hfin : Hid (∀ Wb, But (fun k => k = l) W Wb → (Wb.cell? ⟨R, 0, none⟩ = some .nilIface ∧ Wb.frozen? ⟨R, 0, none⟩ = false) ∧ ∀ (ac : Go.Act) (W'), W' = Wb.setCell ⟨R, 0, none⟩ (.iface 271 (.pointer (some ⟨a, 0, none⟩))) → bpost (fun s C W => LgI base b0 w R D s C W) (fun _ W => LgX base b0 w R W) none C Wb .ret ac W') := zh fun Wb hbb => by
     have kR := (hbb.block R (lt_heap h6) lR).trans h6;have na : a ≠ l := fun e => by rw [e, hlr] at ha; cases ha
     have nR : a ≠ R := fun e => by rw [e, h6] at ha; cases ha
     have ka := (hbb.block a (lt_heap ha) na).trans ha;refine ⟨⟨(cell_of_row Wb _ 0 _ _ _ kR).trans rfl, frozen_of kR⟩, fun ac W' hW' => ?_⟩;have bt2 : But (fun k => k = R) Wb W' := by rw [hW']; exact but_setCell _ _ _ _
     refine ⟨C, ⟨by rw [h2, z8p hne hst]; rfl, ⟨_, by rw [hW', blk_setCell kR]; rfl, a, x, rfl, (bt2.block a (lt_heap ka) nR).trans ka⟩, ?_⟩, bt2.mono fun k _ hk => by rw [hk]; exact (h7 R).2 (.inl rfl), fun k hk => .inl hk⟩;refine (h8.trans (hbb.below (fun k _ hk => by omega) h8.size)).trans ?_;rw [hW'];exact zdi (Below.refl _ _) (by omega)
    rw [← hD];rw [← hR];clear hst h2 h3 h4 h5 h6 h7 h8 hnD lD lR hlr hCl hD hR ha hne hl1 hl2 f1
    gi_wp2
    refine ⟨Below.refl _ _, fun Wb hbb => ?_⟩;obtain ⟨⟨cD, fD⟩, hpost⟩ := hfin.out Wb hbb;have HP := zh hpost;clear hbb hfin hpost
    gi_wp2
    exact HP.out _ _ rfl
 case stop =>
  rintro De C W hDe hCD ⟨h1, ⟨ev, h2, a, x, rfl, ha⟩, h4⟩ hK;have f1 := HF.out.1;have nR : w.heap.size ≠ De := by omega
  have na : a ≠ De := fun e => by rw [e, hK] at ha; cases ha
  have hb1 : But (fun k => k = De) W (W.putObj De (.deferred none)) := z2h (S := fun k => k = De) _ De _ rfl;have c5 : (W.putObj De (.deferred none)).cell? ⟨w.heap.size, 0, none⟩ = some (.iface 271 (.pointer (some ⟨a, 0, none⟩))) := (cell_of_row _ _ 0 _ _ _ ((hb1.block _ (lt_heap h2) nR).trans h2)).trans rfl;have HP : Hid (LongP base b0 len w (.returned (.iface 271 (.pointer (some ⟨a, 0, none⟩)))) (W.putObj De (.deferred none))) := zh ⟨h4.trans (hb1.below (fun k _ hk => by omega) h4.size), .inr ⟨_, rfl, ⟨a, x, rfl, (hb1.block _ (lt_heap ha) na).trans ha⟩, fun t ht => by rw [h1] at ht; cases ht⟩⟩;have HK := zh hK; have HC5 := zh c5;clear h1 h2 h4 ha hK c5 hb1 nR na hCD hDe f1
  go_wp2_with fail
  refine ⟨by simp, .inl ⟨_, _, rfl, run_takeDeferred HK.out, ?_⟩⟩;have c5 := HC5.out;exact ⟨.iface 271 (.pointer (some ⟨a, 0, none⟩)), by simp [results, Tryz.results149, go_sem, c5], HP.out⟩
 case done =>
  rintro De s C W hDe hCD hend ⟨⟨b, t0, rfl, h2, h3, h4, h5⟩, h6, h7, h8⟩ hK
  obtain rfl : b = [] := by
   rcases hend with h | h
   · exact Option.some.inj h
   · cases h
  have f1 := HF.out.1;rw [z73] at h2;have hst : z1j base b0 = some t0 := by rw [h2]; simp
  obtain ⟨D, hD⟩ := zx (w.heap.size + 1);obtain ⟨R, hR⟩ := zx w.heap.size;rw [← hD] at h5;rw [← hR] at h6;rw [← hD];rw [← hR];have nR : R ≠ De := by omega
  have hRs : R < W.heap.size := lt_heap h6;have c5 : W.cell? ⟨D, 0, none⟩ = some (.int .i64 (t0.length : Int)) := (cell_of_row _ _ 0 _ _ _ h5).trans rfl;have c6 : W.cell? ⟨R, 0, none⟩ = some .nilIface := (cell_of_row _ _ 0 _ _ _ h6).trans rfl;have f6 := frozen_of (i := 0) h6;have HW := zh (z58 [116, 101, 120, 116] W)
  have hall : ∀ (v : Value) (W2 : World), Below W.heap.size W W2 → ∀ W4, W4 = (W2.setCell ⟨R, 0, none⟩ v).putObj De (.deferred none) → W4.cell? ⟨R, 0, none⟩ = some v ∧ Below w.heap.size w W4 ∧ (W2.setCell ⟨R, 0, none⟩ v).heap[De]? = some (.deferred (some [])) ∧ But (fun k => k = R ∨ k = De) W2 W4 := fun v W2 hb2 W4 hW4 => by
   have k2 := (hb2.block R hRs).trans h6;have k3 : (W2.setCell ⟨R, 0, none⟩ v).heap[R]? = some (.cells #[v] 64 (0, 0)) := blk_setCell k2 v
   have kd : (W2.setCell ⟨R, 0, none⟩ v).heap[De]? = some (.deferred (some [])) := by
    rw [setCell_other _ _ _ _ _ (fun e => nR e.symm)];exact (hb2.block De (lt_heap hK)).trans hK
   have hp : But (fun k => k = De) (W2.setCell ⟨R, 0, none⟩ v) W4 := by rw [hW4]; exact z2h (S := fun k => k = De) _ De _ rfl
   have hall : But (fun k => k = R ∨ k = De) W2 W4 := ((but_setCell W2 R 0 v).mono fun k _ h => .inl h).trans (hp.mono fun k _ h => .inr h);refine ⟨(cell_of_row _ _ 0 _ _ _ ((hp.block R (lt_heap k3) nR).trans k3)).trans rfl, ?_, kd, hall⟩;exact (h8.trans (hb2.mono (by omega))).trans (hall.below (fun k _ hk => by omega) (by have := hb2.size; omega))
  have HA := zh hall;have Hst := zh hst;have HnRD : Hid (R < De) := zh (by omega);have HRl : Hid (R < W.heap.size) := zh hRs;have HDl : Hid (De < W.heap.size) := zh (lt_heap hK);have HKK := zh h6;have HK6 := zh hK
  have hlb : t0.length ≤ 700000000 := by
   have h9 : (b0.length - ([] : Bs).length) * 70000 ≤ 10000 * 70000 := Nat.mul_le_mul_right _ (by simp; omega);omega
  clear hall hst h2 h3 h4 h5 h6 h7 h8 hK hend hCD hDe hD hR f1 nR hRs;by_cases hq : t0.length = len
  · have b1 : ((t0.length : Int) != (len : Int)) = false := by simp only [bne_eq_false_iff_eq]; omega
    have HP : Hid (∀ W4, Below w.heap.size w W4 → LongP base b0 len w (.returned .nilIface) W4) := zh fun W4 h => ⟨h, .inl ⟨rfl, t0, Hst.out, hq⟩⟩
    clear hq
    go_wp2_with fail
    obtain ⟨a1, a2, a3, a4⟩ := HA.out .nilIface W (Below.refl _ _) _ rfl;refine ⟨by simp, .inl ⟨_, _, rfl, run_takeDeferred a3, ?_⟩⟩;exact ⟨.nilIface, by simp [results, Tryz.results149, go_sem, a1], HP.out _ a2⟩
  · have b1 : ((t0.length : Int) != (len : Int)) = true := by simp only [bne_iff_ne, ne_eq]; omega
    have HQ := zh hq;clear hq
    go_wp2_with fail
    refine HW.out.mono ?_;rintro e W2 ⟨ev, rfl, ⟨a, x, rfl, ha⟩, hb2⟩;have c7 : W2.cell? ⟨R, 0, none⟩ = some .nilIface := cell_to c6 hb2;have f7 : W2.frozen? ⟨R, 0, none⟩ = false := frozen_of (i := 0) ((hb2.block R HRl.out).trans HKK.out)
    have HP : Hid (∀ W4, Below w.heap.size w W4 → But (fun k => k = R ∨ k = De) W2 W4 → LongP base b0 len w (.returned (.iface 271 (.pointer (some ⟨a, 0, none⟩)))) W4) := zh fun W4 h hbt => by
     have nR : a ≠ R := fun e => by
      have := (hb2.block R HRl.out).trans HKK.out;rw [e, this] at ha; cases ha
     have nD : a ≠ De := fun e => by
      have := (hb2.block De HDl.out).trans HK6.out;rw [e, this] at ha; cases ha
     exact ⟨h, .inr ⟨_, rfl, ⟨a, x, rfl, (hbt.block a (lt_heap ha) (fun h => h.elim nR nD)).trans ha⟩, fun t ht => by rw [Hst.out] at ht; cases ht; exact HQ.out⟩⟩
    have HB2 := zh hb2;clear ha hb2 HW c5 c6 f6
    go_wp2_with fail
    obtain ⟨a1, a2, a3, a4⟩ := HA.out (.iface 271 (.pointer (some ⟨a, 0, none⟩))) W2 HB2.out _ rfl;refine ⟨by simp, .inl ⟨_, _, rfl, run_takeDeferred a3, ?_⟩⟩;exact ⟨.iface 271 (.pointer (some ⟨a, 0, none⟩)), by simp [results, Tryz.results149, go_sem, a1], HP.out _ a2 a4⟩
end Go.Proofs.YtgjddkeogboojaaGreatDoor.Dl
namespace Go.Proofs.YtgjddkeogboojaaGreatDoor.Dl
open Go Go.RowKit Go.Shelf
def zmn : Go.Shelf.Ren := ⟨fun | 165 => 150 | 169 => 153 | 240 => 163 | 241 => 164 | 276 => 172 | 277 => 173 | n => n, fun | 0 => 0 | 3 => 3 | 4 => 4 | 9 => 9 | 20 => 20 | 37 => 23 | 70 => 243 | 72 => 245 | 127 => 261 | 164 => 133 | 5 => 5 | n => n, fun | n => n⟩
theorem bgrA : Go.Proofs.Lays.n165 Tryz.prog zmn := {
 mixed := by kernel_rfl
 f165 := Tryz.func150.trans (congrArg some (by kernel_rfl))
 f240 := Tryz.func163.trans (congrArg some (by kernel_rfl))
 f241 := Tryz.func164.trans (congrArg some (by kernel_rfl))
 f276 := Tryz.func172.trans (congrArg some (by kernel_rfl))
 f277 := Tryz.func173.trans (congrArg some (by kernel_rfl))
 t0 := Tryz.underlying0
 a0 := Tryz.isAgg0
 z0 := Tryz.sizeOf0
 v0 := Tryz.zeroValue0
 t3 := Tryz.underlying3
 a3 := Tryz.isAgg3
 z3 := Tryz.sizeOf3
 v3 := Tryz.zeroValue3
 t4 := Tryz.underlying4
 a4 := Tryz.isAgg4
 z4 := Tryz.sizeOf4
 v4 := Tryz.zeroValue4
 t9 := Tryz.underlying9
 a9 := Tryz.isAgg9
 z9 := Tryz.sizeOf9
 v9 := Tryz.zeroValue9
 t20 := Tryz.underlying20
 a20 := Tryz.isAgg20
 z20 := Tryz.sizeOf20
 v20 := Tryz.zeroValue20
 t37 := Tryz.underlying23
 a37 := Tryz.isAgg23
 z37 := Tryz.sizeOf23
 v37 := Tryz.zeroValue23
 t70 := Tryz.underlying243
 a70 := Tryz.isAgg243
 z70 := Tryz.sizeOf243
 v70 := Tryz.zeroValue243
 t72 := Tryz.underlying245
 a72 := Tryz.isAgg245
 z72 := Tryz.sizeOf245
 v72 := Tryz.zeroValue245
 t164 := Tryz.underlying133
 a164 := Tryz.isAgg133
 z164 := Tryz.sizeOf133
 v164 := Tryz.zeroValue133 }
theorem bstrA : Go.Proofs.Lays.n169 Tryz.prog zmn := {
 mixed := by kernel_rfl
 f169 := Tryz.func153.trans (congrArg some (by kernel_rfl))
 t0 := Tryz.underlying0
 a0 := Tryz.isAgg0
 z0 := Tryz.sizeOf0
 v0 := Tryz.zeroValue0
 t3 := Tryz.underlying3
 a3 := Tryz.isAgg3
 z3 := Tryz.sizeOf3
 v3 := Tryz.zeroValue3
 t9 := Tryz.underlying9
 a9 := Tryz.isAgg9
 z9 := Tryz.sizeOf9
 v9 := Tryz.zeroValue9
 t37 := Tryz.underlying23
 a37 := Tryz.isAgg23
 z37 := Tryz.sizeOf23
 v37 := Tryz.zeroValue23
 t70 := Tryz.underlying243
 a70 := Tryz.isAgg243
 z70 := Tryz.sizeOf243
 v70 := Tryz.zeroValue243
 t72 := Tryz.underlying245
 a72 := Tryz.isAgg245
 z72 := Tryz.sizeOf245
 v72 := Tryz.zeroValue245
 t127 := Tryz.underlying261
 a127 := Tryz.isAgg261
 z127 := Tryz.sizeOf261
 v127 := Tryz.zeroValue261 }
theorem bX : Go.Proofs.Builder.Extra Tryz.prog zmn := {
 sizeBuilder := by kernel_rfl
 liesBuilder := by kernel_rfl
 t5 := Tryz.underlying5
 a5 := Tryz.isAgg5
 z5 := Tryz.sizeOf5
 v5 := Tryz.zeroValue5
 infoByte := by kernel_rfl
 cellsByte := by kernel_rfl
 sizeByte := by kernel_rfl
 neB5 := by decide }
def Bd (w : World) (B b : Nat) (l : Bs) : Prop := B ≤ b ∧ ∃ v, w.heap[b]? = some (.cells #[.pointer (some ⟨b, 0, none⟩), v] 245 (0, 0)) ∧ Ow w B v l ∧ v.ownBlock ≠ some b
theorem zmo (n b : Nat) (w : World) (hk : w.heap[b]? = some (.cells #[.pointer none, .slice none 0 0] 245 (0, 0))) (hn : n ≤ 281474976710656) :
 Calls Tryz.prog 150 #[.pointer (some ⟨b, 0, none⟩), .int .i64 (n : Int)] w fun e w' => e = .returned (.tuple #[]) ∧ Bd w' b b [] ∧ Below b w w' := by
 refine (Any.Builder_Grow_fresh bgrA bX b b n w zl hk (Nat.le_of_lt (lt_heap hk)) hn).mono ?_;rintro e w' ⟨rfl, ⟨h1, v, h2, h3, h4⟩, h5⟩;exact ⟨rfl, ⟨h1, v, h2, h3, h4⟩, h5⟩
theorem zfo (b B : Nat) (l : Bs) (w : World) (h : Bd w B b l) (hB : B ≤ w.heap.size) : Calls Tryz.prog 153 #[.pointer (some ⟨b, 0, none⟩)] w fun e w' => e = .returned (.string ⟨l.toArray⟩) ∧ Below B w w' ∧ Lib.OthersKept 5 (some b) w w' := by
 obtain ⟨h1, v, h2, h3, h4⟩ := h;have hbc : Lib.byteCells l = l.map bv := rfl;refine (Any.Builder_String_any_k bstrA bX B b l w (Lib.IsBuilderF.of (.inr ⟨h1, v, h2, ?_, h4⟩)) hB).mono ?_
 · rw [hbc, List.length_map];exact h3
 · rintro e w' ⟨h1, _, h2, h3⟩;exact ⟨h1, h2, h3⟩
theorem zbz (b : Nat) (w : World) (h0 : w.cell? ⟨b, 0, none⟩ = some (.pointer (some ⟨b, 0, none⟩))) : Calls Tryz.prog 163 #[.pointer (some ⟨b, 0, none⟩)] w fun e w' => e = .returned (.tuple #[]) ∧ w = w' :=
 (Any.Builder_copyCheck_used { bgrA with } bX.toX72 b w h0).mono fun _ _ h => ⟨h.1, h.2.symm⟩
theorem zmp (b B : Nat) (l s : Bs) (w : World) (h : Bd w B b l) (hl : l.length + s.length ≤ 140737488355328) :
 Calls Tryz.prog 152 #[.pointer (some ⟨b, 0, none⟩), .string ⟨s.toArray⟩] w fun e w' => (∃ v, e = .returned v) ∧ Bd w' B b (l ++ s) ∧ ∀ v, w.heap[b]? = some (.cells #[.pointer (some ⟨b, 0, none⟩), v] 245 (0, 0)) →
  But (fun k => k = b ∨ v.ownBlock = some k) w w' ∧ ∀ v', w'.heap[b]? = some (.cells #[.pointer (some ⟨b, 0, none⟩), v'] 245 (0, 0)) → ∀ k, v'.ownBlock = some k → v.ownBlock = some k ∨ w.heap.size ≤ k := by
 obtain ⟨h1, v, h2, h3, h4⟩ := h;obtain ⟨Av, cv, rfl, _⟩ := h3.rb.shape;obtain ⟨v2, w2, hr, ho, hf⟩ := run_apps' h3 s hl (by have := lt_heap h2; omega) 23;obtain ⟨A2, c2, rfl, _⟩ := ho.rb.shape;have k2 := (hf.1.block b (lt_heap h2) h4).trans h2;have c0 : w.cell? ⟨b, 0, none⟩ = some (.pointer (some ⟨b, 0, none⟩)) := (cell_of_row _ _ 0 _ _ _ h2).trans rfl;have c1 : w.cell? ⟨b, 1, none⟩ = some (.slice Av l.length cv) := (cell_of_row _ _ 1 _ _ _ h2).trans rfl;have d1 : w2.cell? ⟨b, 1, none⟩ = some (.slice Av l.length cv) := (cell_of_row _ _ 1 _ _ _ k2).trans rfl;have f1 := frozen_of (i := 1) k2
 have hn2 : ∀ k, (Value.slice A2 (l ++ s).length c2).ownBlock = some k → k ≠ b := fun k hk e => by
  rcases hf.2 k hk with h | h
  · rw [e] at h; exact h4 h
  · have := lt_heap h2; omega
 have HC := zh (zbz b w c0);have HR := zh hr
 have HF : Hid (Bd (w2.setCell ⟨b, 1, none⟩ (.slice A2 (l ++ s).length c2)) B b (l ++ s) ∧ ∀ v, w.heap[b]? = some (.cells #[.pointer (some ⟨b, 0, none⟩), v] 245 (0, 0)) →
  But (fun k => k = b ∨ v.ownBlock = some k) w (w2.setCell ⟨b, 1, none⟩ (.slice A2 (l ++ s).length c2)) ∧ ∀ v', (w2.setCell ⟨b, 1, none⟩ (.slice A2 (l ++ s).length c2)).heap[b]? = some (.cells #[.pointer (some ⟨b, 0, none⟩), v'] 245 (0, 0)) → ∀ k, v'.ownBlock = some k → v.ownBlock = some k ∨ w.heap.size ≤ k) := zh (by
  have k3 := blk_setCell (i := 1) k2 (.slice A2 (l ++ s).length c2);have e3 : (#[Value.pointer (some ⟨b, 0, none⟩), .slice Av l.length cv] : Array Value).setIfInBounds 1 (.slice A2 (l ++ s).length c2) = #[.pointer (some ⟨b, 0, none⟩), .slice A2 (l ++ s).length c2] := rfl;rw [e3] at k3;refine ⟨⟨h1, _, k3, zf4 ho (but_setCell w2 b 1 _) hn2, fun h => hn2 b h rfl⟩, fun v hv => ?_⟩;rw [h2] at hv;injection hv with hv; injection hv with hv; injection hv with hv; injection hv with _ hv; injection hv with hv _
  subst hv;refine ⟨(hf.1.mono fun k _ hk => .inr hk).trans ((but_setCell w2 b 1 _).mono fun k _ hk => .inl hk), fun v' hv' => ?_⟩;rw [k3] at hv';injection hv' with hv; injection hv with hv; injection hv with hv; injection hv with _ hv; injection hv with hv _
  subst hv;exact hf.2)
 obtain ⟨N2, hN2⟩ := zx ((l ++ s).length);rw [← hN2] at HF HR;clear hr ho hf k2 hn2 h1 h2 h3 h4 hN2
 go_enter Tryz.func152, Tryz.ntmps152
 go_wp2_with fail
 refine HC.out.mono ?_;intro e w' hh;rw [hh.1, ← hh.2];clear hh e w' HC
 go_wp2_with (at_builtin; refine Lib.wpList_append_run _ rfl _ _ _ _ rfl _ _ rfl rfl _ _ HR.out ?_)
 go_wp2
 go_ret2
 exact ⟨⟨_, rfl⟩, HF.out⟩
end Go.Proofs.YtgjddkeogboojaaGreatDoor.Dl
namespace Go.Proofs.YtgjddkeogboojaaGreatDoor.Dl
open Go Go.RowKit Go.Shelf
attribute [local go_sem] Oper.semAt_some
theorem conv_bytes (W : World) (l : zB) : ∃ A c W', (convert 9 23 (.string ⟨l.toArray⟩)).run Tryz.prog W = .ok (.slice A l.length c) W' ∧ Rb W' (.slice A l.length c) l ∧ Below W.heap.size W W' := by
 have hge := grownCap_ge W (⟨l.toArray⟩ : ByteArray).size 0 5;have hsz : (⟨l.toArray⟩ : ByteArray).size = l.length := rfl;refine ⟨_, _, _, run_bytes_of_string W _ _ 5 _ Tryz.underlying9 Tryz.underlying23 Tryz.underlying5, ?_, ?_⟩
 · refine .inr ⟨W.heap.size, 0, _, rfl, by rw [← hsz]; exact hge, by simp, fun j hj => ?_⟩;rw [Nat.zero_add];have h1 := bytesRow_at ⟨l.toArray⟩ (grownCap W (⟨l.toArray⟩ : ByteArray).size 0 5) j (by simpa using hj);have h2 := cell_of_row (W.drew.alloc (.cells (bytesRow ⟨l.toArray⟩ (grownCap W (⟨l.toArray⟩ : ByteArray).size 0 5)) 5 ((bytesRow ⟨l.toArray⟩ (grownCap W (⟨l.toArray⟩ : ByteArray).size 0 5)).size, (bytesRow ⟨l.toArray⟩ (grownCap W (⟨l.toArray⟩ : ByteArray).size 0 5)).size + 1))) W.heap.size j _ _ _ (heap_alloc_new W.drew _);rw [h2, h1, zg, zj hj];simp
 · exact (Below.refl _ _).drew.alloc zl _
theorem wpList_conv {ops : Array Oper} {rest : List Oper} {o : Oper} {a : Act} {w : World} {Q : Exit → Act → World → Prop} (hgd : o.guard = none) (s : Operand)
 (ho : o.op = .convert 9 23 s) (l : Bs) (hs : a.eval s = .string ⟨l.toArray⟩)
 (k : ∀ A c w', Rb w' (.slice A l.length c) l → Below w.heap.size w w' → wpList Tryz.prog ops Q rest (a.put o.dst (.slice A l.length c)) w') : wpList Tryz.prog ops Q (o :: rest) a w := by
 refine wpList_plain hgd fun K hK => ?_;obtain ⟨A, c, w', h1, h2, h3⟩ := conv_bytes w l;unfold Oper.wp;simp only [execOp, ho, hs];simp [h1, Result.andThen];exact hK _ _ (k A c w' h2 h3)
structure BdI (base r : Bs) (w0 : World) (β : Nat) (s : Option Bs) (C : Nat → Prop) (W : World) : Prop where
 st : ∃ b t0 v, s = some b ∧ z1j base r = (z1j base b).map (t0 ++ ·) ∧ W.heap[β]? = some (.cells #[.pointer (some ⟨β, 0, none⟩), v] 245 (0, 0)) ∧ Ow W β v t0 ∧ v.ownBlock ≠ some β ∧ ∀ k, C k ↔ k = β ∨ v.ownBlock = some k
 bl : Below w0.heap.size w0 W
def MadeP (base d : Bs) (w : World) (e : Ending) (w' : World) : Prop := Below w.heap.size w w' ∧ ((applyL base d = none ∧ ∃ ev, e = .returned (.tuple #[.string ⟨#[]⟩, ev]) ∧ FaultIn w' ev 3) ∨
 (∃ t, applyL base d = some t ∧ e = .returned (.tuple #[.string ⟨t.toArray⟩, .nilIface])))
theorem made_any (base d : Bs) (hd : d.length ≤ 10000) (hb : base.length ≤ 70000) (w : World) :
 Calls Tryz.prog 137 #[.string ⟨base.toArray⟩, .string ⟨d.toArray⟩] w (MadeP base d w) := by
 have q1 := neqFN;refine (callsIn_wide (n := 5)).1 (callsIn_of_wp_marks Tryz.func137 rfl trivial ?_ rfl);refine wpIn_wide.2 ?_;simp only [Tryz.ntmps137, List.size_toArray, List.length_cons, List.length_nil, Nat.reduceAdd, Nat.reduceSub, Array.replicate_succ, Array.replicate_zero, List.push_toArray, List.append_toArray, List.nil_append, List.cons_append]
 go_wp2_with (refine wpList_conv (o := ⟨some 15, _, _, _, _, _⟩) rfl _ rfl d rfl ?_)
 intro A0 c0 w1 hr1 hb1;have H1 := zh (zmh (base := base) hr1 (by omega));have HB1 := zh hb1; have HR1 := zh hr1;clear hr1 hb1
 go_wp2_with fail
 refine H1.out.mono ?_;clear H1;rintro e w2 ⟨b2, ⟨hn, ev, rfl, hf⟩ | ⟨len, r, A, N, c, hn, hN, rfl, hr, ho⟩⟩
 · have hf' := hf;obtain ⟨a, x, rfl, -⟩ := hf';have HF : Hid (MadeP base d w (.returned (.tuple #[.string ⟨#[]⟩, .iface 271 (.pointer (some ⟨a, 0, none⟩))])) w2) := zh ⟨HB1.out.trans (b2.mono HB1.out.size), .inl ⟨by rw [zdm, hn], _, rfl, hf⟩⟩;clear b2 hn hf
   go_wp2_with fail
   exact ⟨.tuple #[.string ⟨#[]⟩, .iface 271 (.pointer (some ⟨a, 0, none⟩))], by simp [results, Tryz.results137, go_sem], HF.out⟩
 · have hrl : r.length ≤ 10000 := by
    unfold headL at hn;split at hn
    · cases hn
    · split at hn
      · cases hn
      · split at hn
        · cases hn
        · simp only [Option.some.injEq, Prod.mk.injEq] at hn;rw [← hn.2]; simp; omega
   have hlen : len ≤ 1099511627776 := by
    unfold headL at hn;split at hn
    · cases hn
    · split at hn
      · cases hn
      · split at hn
        · cases hn
        · rename_i hg;simp only [Option.some.injEq, Prod.mk.injEq] at hn;rw [← hn.1]; exact (getL_some hg).1
   have HAp : Hid (applyL base d = match z1j base r with | none => none | some t => if t.length = len then some t else none) := zh (by rw [zdm, hn]; rfl);have H2 := zh (long_any hr hN hrl hb len);have HB2 : Hid (Below w.heap.size w w2) := zh (HB1.out.trans (b2.mono HB1.out.size));have HR2 := zh (And.intro hr hN);clear b2 hn hN hr ho
   go_wp2_with fail
   refine H2.out.mono ?_;clear H2;rintro e w3 ⟨b3, ⟨rfl, t, hst, htl⟩ | ⟨ev, rfl, hf, hno⟩⟩
   · have HT := zh (And.intro hst htl);have HB3 : Hid (Below w.heap.size w w3) := zh (HB2.out.trans (b3.mono HB2.out.size));have HR3 := zh (HR2.out.1.below b3 zl);clear b3 hst htl
     go_upto_region 8 with fail
     obtain ⟨β, hβ⟩ := zx w3.heap.size;obtain ⟨w4, hw4⟩ := zx (w3.alloc (.cells #[.pointer none, .slice none 0 0] 245));rw [← hw4];rw [← hβ];have k4 : w4.heap[β]? = some (.cells #[.pointer none, .slice none 0 0] 245 (0, 0)) := z14 hw4 hβ.symm;have b34 : Below w3.heap.size w3 w4 := by rw [hw4]; exact below_new _ _
     have HGr := zh (zmo len β w4 k4 (by omega));have HB4 : Hid (Below w.heap.size w w4) := zh (HB3.out.trans (b34.mono HB3.out.size));have HR4 : Hid (Rb w4 (.slice A N c) r) := zh (HR3.out.below b34 zl);have HOl : Hid (r ≠ [] → ∀ g, (Value.slice A N c).ownBlock = some g → g < β) := zh (fun h0 g hg => by rw [hβ]; exact HR3.out.own_lt h0 g hg);have Hβw : Hid (w.heap.size ≤ β) := zh (by rw [hβ]; exact HB3.out.size);have Hβ4 : Hid (β < w4.heap.size) := zh (lt_heap k4);clear hw4 hβ k4 b34
     go_wp2_with fail
     refine HGr.out.mono ?_;rintro e w5 ⟨rfl, hbd, hb5⟩;have HB5 : Hid (Below w.heap.size w w5) := zh (HB4.out.trans (hb5.mono Hβw.out));have HN5 := zh HR2.out.2
     have HR5 : Hid (Rb w5 (.slice A N c) r) := zh (by
      rcases Nat.eq_zero_or_pos r.length with h0 | h0
      · obtain rfl := List.length_eq_zero_iff.1 h0;have := HN5.out;rcases HR4.out with h | ⟨g, o, c', e, _⟩
        · exact .inl h
        · cases e;have hr4 := HR4.out;rcases hr4 with ⟨⟨A', e⟩, _⟩ | ⟨g', o', c'', e, hc, hg, hcell⟩
          · cases e; exact .inl ⟨⟨_, rfl⟩, rfl⟩
          · cases e; exact .inr ⟨g, o, c, rfl, by simp, Nat.lt_of_lt_of_le hg hb5.size, fun j hj => by simp at hj⟩
      · have hne : r ≠ [] := fun h => by rw [h] at h0; simp at h0
        exact HR4.out.but (S := fun k => β ≤ k) (But.of_below hb5) (fun g hg h => by have := HOl.out hne g hg; omega))
     obtain ⟨_, v5, kb5, ow5, ne5⟩ := hbd;have Hβ5 : Hid (β < w5.heap.size) := zh (lt_heap kb5);have HM := zh (zdl base A N c w5)
     have H0 : Hid (∀ w6, (w5.alloc (.cells #[.string ⟨base.toArray⟩] 9)).alloc (.cells #[.slice A N c] 23) = w6 → w6.heap.size = w5.heap.size + 2 ∧ w6.cell? ⟨w5.heap.size, 0, none⟩ = some (.string ⟨base.toArray⟩) ∧ w6.cell? ⟨w5.heap.size + 1, 0, none⟩ = some (.slice A N c) ∧ Rb w6 (.slice A N c) r ∧ BdI base r w β (some r) (fun k => k = β ∨ v5.ownBlock = some k) w6) := zh (by
      intro w6 hw6;obtain ⟨wb, hwb⟩ := zx (w5.alloc (.cells #[.string ⟨base.toArray⟩] 9));rw [← hwb] at hw6;have sb := z1r hwb rfl;have s3 := z1r hw6.symm rfl;have bb : Below w5.heap.size w5 wb := by rw [hwb]; exact below_new _ _
      have b3 : Below wb.heap.size wb w6 := by rw [← hw6]; exact below_new _ _
      have b13 : Below w5.heap.size w5 w6 := bb.trans (b3.mono bb.size);have kb : wb.heap[w5.heap.size]? = some _ := z14 hwb rfl;have ks : w6.heap[wb.heap.size]? = some _ := z14 hw6.symm rfl;refine ⟨by omega, (cell_of_row _ _ 0 _ _ _ ((b3.block _ (by omega)).trans kb)).trans rfl, ?_, HR5.out.below b13 zl, ⟨⟨r, [], v5, rfl, by simp, (b13.block _ (lt_heap kb5)).trans kb5, ow5.below b13 zl, ne5, fun k => Iff.rfl⟩, HB5.out.trans (b13.mono HB5.out.size)⟩⟩;rw [← sb];exact (cell_of_row _ _ 0 _ _ _ ks).trans rfl)
     have Hown : Hid (∀ g, v5.ownBlock = some g → β ≤ g ∧ g < w5.heap.size) := zh fun g hg => ow5.lt g hg;clear hb5 HGr kb5 ow5 ne5
     go_wp2_with fail
     refine HM.out.mono ?_;intro e w6 hh;rw [hh.1];have HF := zh (H0.out w6 hh.2);clear hh e HM H0
     go_wp2_with fail
     refine zdh (Step := PStep base) (End := PEnd) (s0 := some r) (C0 := fun k => k = β ∨ v5.ownBlock = some k) rfl (enters_of Tryz.func165 (by kernel_rfl) rfl) ?hps ?hit (fun s C W => BdI base r w β s C W) (fun _ _ => False) ?hst (fun _ _ _ _ _ h _ _ => h) ?hlt HF.out.2.2.2.2 ?round ?done (fun _ _ _ _ _ h _ => h.elim)
     case hps =>
      rintro s vs s' W ⟨b, _, ⟨p, r, _, rfl, _⟩ | ⟨ev, _, _, rfl, _⟩⟩
      · rfl
      · rfl
     case hit =>
      obtain ⟨f1, f2, f3, f4, f5⟩ := HF.out;have hβ5 := Hβ5.out
      exact zau (by omega) (by omega) f2 f3 f4 HN5.out (by omega) (fun h => h.elim (fun h => by omega) (fun h => by have := (Hown.out _ h).2; omega)) (fun h0 g hg => by
       have h1 := HOl.out h0 g hg;exact ⟨by omega, fun h => h.elim (fun h => by omega) (fun h => by have := (Hown.out _ h).1; omega)⟩)
     case hst =>
      rintro s C W W' ⟨⟨b, t0, v, h1, h2, h3, h4, h5, h6⟩, h7⟩ hbt;have n1 : ∀ k, C k → ¬ (w6.heap.size ≤ k ∧ ¬ C k) := fun k hk h => h.2 hk;have hw6 := HF.out.2.2.2.2.bl.size;exact ⟨⟨b, t0, v, h1, h2, (hbt.block _ (lt_heap h3) (n1 _ ((h6 _).2 (.inl rfl)))).trans h3, zf4 h4 hbt (fun g hg => n1 g ((h6 g).2 (.inr hg))), h5, h6⟩, h7.trans (hbt.below (fun k _ hk => by have := hk.1; omega) h7.size)⟩
     case hlt =>
      rintro s C W ⟨⟨b, t0, v, h1, h2, h3, h4, h5, h6⟩, h7⟩ k hk;rcases (h6 k).1 hk with rfl | hk
      · exact lt_heap h3
      · exact (h4.lt k hk).2
     case round =>
      rintro l s C vs s' W ⟨⟨b, t0, v, h1, h2, h3, h4, h5, h6⟩, h7⟩ ⟨b2, rfl, hcase⟩ hl1 hl2 hCl ⟨lr, hlr⟩;obtain rfl : b2 = b := Option.some.inj h1;clear h1;rcases hcase with ⟨p, r2, hst, rfl, rfl⟩ | ⟨ev, hst, hne, rfl, hf, rfl⟩
      · have hlen2 : t0.length + p.length ≤ 1099511627776 := by
         have e1 := HT.out.1;rw [h2, z3c hst] at e1;cases hx : z1j base r2 with
         | none => rw [hx] at e1; cases e1
         | some y =>
           rw [hx] at e1;have e2 := congrArg List.length (Option.some.inj e1);have e3 := HT.out.2;simp only [List.length_append] at e2;omega
        have hfin : Hid (∀ Wb, But (fun k => k = l) W Wb → Calls Tryz.prog 152 #[.pointer (some ⟨β, 0, none⟩), .string ⟨p.toArray⟩] Wb fun e W' => (∃ v, e = .returned v) ∧ ∀ ac : Go.Act, bpost (fun s C W => BdI base r w β s C W) (fun _ _ => False) (some r2) C Wb .normal ac W') := zh fun Wb hbb => by
         have nl : ∀ k, C k → k ≠ l := fun k hk e => hCl (by rw [← e]; exact hk);have k3 := (hbb.block β (lt_heap h3) (nl β ((h6 β).2 (.inl rfl)))).trans h3;have o3 : Ow Wb β v t0 := zf4 h4 hbb (fun g hg => nl g ((h6 g).2 (.inr hg)));refine (zmp β β t0 p Wb ⟨Nat.le_refl _, v, k3, o3, h5⟩ (by omega)).mono ?_;rintro e W' ⟨he, ⟨_, v', k4, o4, n4⟩, hfr⟩;obtain ⟨f1, f2⟩ := hfr v k3;refine ⟨he, fun ac => ⟨fun k => k = β ∨ v'.ownBlock = some k, ⟨⟨r2, t0 ++ p, v', rfl, ?_, k4, o4, n4, fun k => Iff.rfl⟩, ?_⟩, f1.mono fun k _ hk => (h6 k).2 hk, ?_⟩⟩
         · rw [h2, z3c hst, Option.map_map]
           congr 1; funext x; simp
         · have hw6 := HF.out.2.2.2.2.bl.size;refine (h7.trans (hbb.below (fun k _ hk => by omega) h7.size)).trans (f1.below (fun k _ hk => ?_) (by have := h7.size; have := hbb.size; omega));rcases hk with rfl | hk
           · exact Hβw.out
           · have := (o3.lt k hk).1; have := Hβw.out; omega
         · rintro k (rfl | hk)
           · exact .inl ((h6 _).2 (.inl rfl))
           · exact (f2 v' k4 k hk).imp (fun h => (h6 k).2 (.inr h)) id
        clear h2 h3 h4 h5 h6 h7 hst hlr hCl hlen2 hl1 hl2
        gi_wp2
        refine ⟨Below.refl _ _, fun Wb hbb => ?_⟩;have HP := zh (hfin.out Wb hbb);have hn1 : 1 ≤ 5 := by omega
        clear hbb hfin
        gi_wp2_with fail
        refine ⟨trivial, (CallsIn.inRound l (callsIn_wide.2 HP.out)).mono ?_⟩;rintro e W2 ⟨⟨rv, rfl⟩, hpost⟩;have HQ := zh hpost;clear hpost HP
        gi_wp2
        exact HQ.out _
      · exfalso;have e1 := HT.out.1;rw [h2, z8p hne hst] at e1;cases e1
     case done =>
      rintro De s C W hDe hCD hend ⟨⟨b, t0, v, rfl, h2, h3, h4, h5, h6⟩, h7⟩ hK
      obtain rfl : b = [] := by
       rcases hend with h | h
       · exact Option.some.inj h
       · cases h
      rw [z73] at h2
      have ht : t0 = t := by
       have e1 := HT.out.1;rw [h2] at e1;simpa using e1
      subst ht;have hw6 := HF.out.2.2.2.2.bl.size;have HS := zh (zfo β β t0 W ⟨Nat.le_refl _, v, h3, h4, h5⟩ (Nat.le_of_lt (lt_heap h3)));have HK : Hid (∀ W2, Below β W W2 → Lib.OthersKept 5 (some β) W W2 → W2.heap[De]? = some (.deferred (some [])) ∧ Below w.heap.size w (W2.putObj De (.deferred none))) := zh fun W2 hb2 hok => ⟨hok De _ hK (fun e => by injection e with e; have := Hβ5.out; have := HF.out.1; omega) (fun c fz e => by cases e), (h7.trans (hb2.mono Hβw.out)).trans ⟨rfl, rfl, rfl, by simp, fun k hk => World.putObj_heap_other (by omega)⟩⟩
      have HA : Hid (applyL base d = some t0) := zh (by rw [HAp.out, HT.out.1]; simp only; rw [if_pos HT.out.2]);clear h2 h3 h4 h5 h6 h7 hend
      go_wp2_with fail
      refine HS.out.mono ?_;rintro e W2 ⟨rfl, hb2, hok⟩;obtain ⟨k1, k2⟩ := HK.out W2 hb2 hok;have HK1 := zh k1; have HK2 := zh k2;clear hb2 hok k1 k2 HK HS
      go_wp2_with fail
      refine ⟨by simp, .inl ⟨_, _, rfl, run_takeDeferred HK1.out, ?_⟩⟩;exact ⟨.tuple #[.string ⟨t0.toArray⟩, .nilIface], by simp [results, Tryz.results137, go_sem], HK2.out, .inr ⟨t0, HA.out, rfl⟩⟩
   · have hf' := hf;obtain ⟨a, x, rfl, -⟩ := hf'
     have HF : Hid (MadeP base d w (.returned (.tuple #[.string ⟨#[]⟩, .iface 271 (.pointer (some ⟨a, 0, none⟩))])) w3) := zh ⟨HB2.out.trans (b3.mono HB2.out.size), .inl ⟨by
      rw [HAp.out];cases hs : z1j base r with
      | none => rfl
      | some t => simp only; rw [if_neg (hno t hs)], _, rfl, hf⟩⟩
     clear b3 hno hf
     go_wp2_with fail
     exact ⟨.tuple #[.string ⟨#[]⟩, .iface 271 (.pointer (some ⟨a, 0, none⟩))], by simp [results, Tryz.results137, go_sem], HF.out⟩
def applyR (base d : Bs) : Value := match applyL base d with
 | none => .tuple #[.string ⟨#[]⟩, .int .i64 3]
 | some t => .tuple #[.string ⟨t.toArray⟩, .int .i64 0]
theorem Apply_any (base d : Bs) (hd : d.length ≤ 10000) (hb : base.length ≤ 70000) (w : World) :
 Calls Tryz.prog 125 #[.string ⟨base.toArray⟩, .string ⟨d.toArray⟩] w fun e w' => e = .returned (applyR base d) ∧ Below w.heap.size w w' := by
 have HM := zh (made_any base d hd hb w)
 go_enter Tryz.func125, Tryz.ntmps125
 go_wp2_with fail
 refine HM.out.mono ?_;clear HM;rintro e w1 ⟨b1, ⟨hn, ev, rfl, hf⟩ | ⟨t, hn, rfl⟩⟩
 · have HT := zh (zip hf);have HE : Hid (applyR base d = .tuple #[.string ⟨#[]⟩, .int .i64 3]) := zh (by unfold applyR; rw [hn]);have HB := zh b1;clear hn hf b1
   go_wp2_with fail
   refine HT.out.mono ?_;intro e w' hh;rw [hh.1, ← hh.2];clear hh e w' HT
   go_wp2
   go_ret2
   exact ⟨by rw [HE.out]; rfl, HB.out⟩
 · have HT := zh (told_nil w1);have HE : Hid (applyR base d = .tuple #[.string ⟨t.toArray⟩, .int .i64 0]) := zh (by unfold applyR; rw [hn]);have HB := zh b1;clear hn b1
   go_wp2_with fail
   refine HT.out.mono ?_;intro e w' hh;rw [hh.1, ← hh.2];clear hh e w' HT
   go_wp2
   go_ret2
   exact ⟨by rw [HE.out]; rfl, HB.out⟩
end Go.Proofs.YtgjddkeogboojaaGreatDoor.Dl
namespace Go.Proofs.YtgjddkeogboojaaGreatDoor.Pk
open Go.Proofs.YtgjddkeogboojaaGreatDoor
open Go Go.RowKit
theorem zax {base d t : Bs} (h : Dl.applyL base d = some t) : ∃ f k n j, Dl.getL d = some (f, k) ∧ Dl.getL (d.drop k) = some (n, j) ∧ t.length = n := by
 unfold Dl.applyL at h;cases hg : Dl.getL d with
 | none => rw [hg] at h; cases h
 | some p =>
   obtain ⟨f, k⟩ := p;rw [hg] at h;simp only at h;split at h
   · cases h
   · cases hg2 : Dl.getL (d.drop k) with
     | none => rw [hg2] at h; cases h
     | some q =>
       obtain ⟨n, j⟩ := q;rw [hg2] at h;simp only at h;refine ⟨f, k, n, j, rfl, hg2, ?_⟩;split at h
       · cases h
       · split at h
         · rename_i hl;cases h;exact hl
         · cases h
def ApV (base d : Bs) : Value := match zab base d with
 | none => .tuple #[.string ⟨#[]⟩, .iface 26 (.int .i64 3)]
 | some t => .tuple #[.string ⟨t.toArray⟩, .nilIface]
def zis (d : Bs) : Nat := match Dl.getL (d.drop ((Dl.getL d).elim 0 Prod.snd)) with
 | none => 0
 | some p => p.1
theorem zit {base d : Bs} (h : 65536 < zis d) : zab base d = none := by
 unfold zab;cases ha : Dl.applyL base d with
 | none => rfl
 | some t =>
   obtain ⟨f, k, n, j, h1, h2, h3⟩ := zax ha;unfold zis at h;rw [h1] at h;simp only [Option.elim] at h;rw [h2] at h;simp only at h ⊢;rw [if_neg (by omega)]
theorem textA_in {base d : Bs} (h : zis d ≤ 65536) : zab base d = Dl.applyL base d := by
 unfold zab;cases ha : Dl.applyL base d with
 | none => rfl
 | some t =>
   obtain ⟨f, k, n, j, h1, h2, h3⟩ := zax ha;unfold zis at h;rw [h1] at h;simp only [Option.elim] at h;rw [h2] at h;simp only at h ⊢;rw [if_pos (by omega)]
theorem zhc (l : Bs) : ∃ (n k : Nat) (b : Bool), Dl.gotV (Dl.getL l) = .tuple #[.int .i64 (n : Int), .int .i64 (k : Int), .bool b] ∧ k = (Dl.getL l).elim 0 Prod.snd ∧ n = (Dl.getL l).elim 0 Prod.fst ∧ k ≤ l.length ∧ n ≤ 1099511627776 := by
 cases h : Dl.getL l with
 | none => exact ⟨0, 0, false, by rw [Dl.gotV_none]; rfl, rfl, rfl, Nat.zero_le _, Nat.zero_le _⟩
 | some p =>
   obtain ⟨n, k⟩ := p;have := Dl.getL_some h;exact ⟨n, k, true, by rw [Dl.gotV_some], rfl, rfl, this.2.2.1, this.1⟩
theorem zfp (base d : Bs) (hd : d.length ≤ 10000) (hb : base.length ≤ 70000) (w : World) : Calls Tryz.prog 118 #[.string ⟨base.toArray⟩, .string ⟨d.toArray⟩] w (z06 (ApV base d) w) := by
 have HAp := zh (fun W => Dl.Apply_any base d hd hb W);have HD := zh hd;obtain ⟨n1, k1, g1, hg1, hk1, -, hkl, -⟩ := zhc d;obtain ⟨n2, k2, g2, hg2, -, hn2, -, hn2l⟩ := zhc (d.drop k1)
 have hsaid : zis d = n2 := by
  unfold zis;rw [← hk1, hn2];cases Dl.getL (d.drop k1) <;> rfl
 have HG1 := zh hg1; have HG2 := zh hg2; have HSd := zh hsaid; have HKl := zh hkl;clear hg1 hg2 hk1 hn2 hsaid hkl
 go_enter Tryz.func118, Tryz.ntmps118
 go_upto_region 2 with (refine Dl.wpList_conv (o := ⟨some 16, _, _, _, _, _⟩) rfl _ rfl d rfl ?_; intro A c w1 r1 b1)
 obtain ⟨N, hN⟩ := zx d.length;have hrl : d.length ≤ maxLen := by have := HD.out; unfold maxLen; omega
 have hG := Dl.Get_any w1 _ d hrl r1;rw [HG1.out] at hG;have hkN : k1 ≤ N := by have := HKl.out; omega
 obtain ⟨A2, N2, c2, hs2, hr2⟩ : ∃ A2 N2 c2, (∀ W, (Instr.sliceAt 23 (.slice A N c) (some (.int .i64 (k1 : Int))) none none).run Tryz.prog W = .ok (.slice A2 N2 c2) W) ∧ Dl.Rb w1 (.slice A2 N2 c2) (d.drop k1) := by
  refine ⟨_, _, _, fun W => Dl.run_cut1 W A N c k1 hkN, ?_⟩;have h1 := r1.from' k1 HKl.out;rw [← hN] at h1;exact h1
 have hG2 := Dl.Get_any w1 _ (d.drop k1) (by rw [List.length_drop]; omega) hr2;rw [HG2.out] at hG2;rw [← hN] at hG ⊢;have HGa := zh hG; have HGb := zh hG2; have HB1 := zh b1;clear hG hG2 r1 b1 hr2 hrl hN
 go_wp2_with fail
 refine HGa.out.mono ?_;intro e w' hh;rw [hh.1, ← hh.2];clear hh e w' HGa
 go_wp2_with fail
 refine HGb.out.mono ?_;intro e w' hh;rw [hh.1, ← hh.2];clear hh e w' HGb hs2;by_cases hn : 65536 < n2
 · have hnI : (65536 : Int) < (n2 : Int) := by omega
   have HF : Hid (ApV base d = .tuple #[.string ⟨#[]⟩, .iface 26 (.int .i64 3)]) := zh (by unfold ApV; rw [zit (by rw [HSd.out]; exact hn)]);clear hn
   go_wp2_with fail
   go_ret2
   exact ⟨by rw [HF.out]; rfl, HB1.out⟩
 · have hnI : ¬ (65536 : Int) < (n2 : Int) := by omega
   have hA := textA_in (base := base) (d := d) (by rw [HSd.out]; omega);have HA := zh hA;clear hn hA
   go_wp2_with fail
   refine (HAp.out _).mono ?_;rintro e w2 ⟨rfl, b2⟩;have HB2 := zh (HB1.out.trans (b2.mono HB1.out.size));unfold Dl.applyR;cases ha : Dl.applyL base d with
   | none =>
     have HF : Hid (ApV base d = .tuple #[.string ⟨#[]⟩, .iface 26 (.int .i64 3)]) := zh (by unfold ApV; rw [HA.out, ha]);clear ha b2
     go_wp2_with fail
     go_ret2
     exact ⟨by rw [HF.out]; rfl, HB2.out⟩
   | some t =>
     have HF : Hid (ApV base d = .tuple #[.string ⟨t.toArray⟩, .nilIface]) := zh (by unfold ApV; rw [HA.out, ha]);clear ha b2
     go_wp2_with fail
     go_ret2
     exact ⟨by rw [HF.out]; rfl, HB2.out⟩
def mdC (m : Md) : List Value := [.bool m.th, .int .i64 m.kd, SV m.dt, .int .i64 (m.dp : Int)]
def mdV (m : Md) : Value := .agg #[.bool m.th, .int .i64 m.kd, .string ⟨m.dt.toArray⟩, .int .i64 (m.dp : Int)]
def mdO (m : Md) : Obj := .cells #[.bool m.th, .int .i64 m.kd, .string ⟨m.dt.toArray⟩, .int .i64 (m.dp : Int)] 82
theorem set4 {w : World} {b : Nat} {x0 x1 x2 x3 : Value} {t : TypeId} {fr : Nat × Nat} (h : w.heap[b]? = some (.cells #[x0, x1, x2, x3] t fr)) (y0 y1 y2 y3 : Value) :
 ((((w.setCell ⟨b, 0, none⟩ y0).setCell ⟨b, 1, none⟩ y1).setCell ⟨b, 2, none⟩ y2).setCell ⟨b, 3, none⟩ y3).heap[b]? = some (.cells #[y0, y1, y2, y3] t fr) := (blk_setCell (blk_setCell (blk_setCell (blk_setCell h _) _) _) _).trans rfl
theorem z4q {w W : World} {B b : Nat} (h : Below B w W) (hb : B ≤ b) (y0 y1 y2 y3 : Value) : Below B w ((((W.setCell ⟨b, 0, none⟩ y0).setCell ⟨b, 1, none⟩ y1).setCell ⟨b, 2, none⟩ y2).setCell ⟨b, 3, none⟩ y3) :=
 (((h.setCell (p := ⟨b, 0, none⟩) hb _).setCell (p := ⟨b, 1, none⟩) hb _).setCell (p := ⟨b, 2, none⟩) hb _).setCell (p := ⟨b, 3, none⟩) hb _
theorem other4 {w : World} {b c : Nat} (h : c ≠ b) (y0 y1 y2 y3 : Value) : ((((w.setCell ⟨b, 0, none⟩ y0).setCell ⟨b, 1, none⟩ y1).setCell ⟨b, 2, none⟩ y2).setCell ⟨b, 3, none⟩ y3).heap[c]? = w.heap[c]? := by
 rw [Dl.setCell_other _ _ _ _ _ h, Dl.setCell_other _ _ _ _ _ h, Dl.setCell_other _ _ _ _ _ h, Dl.setCell_other _ _ _ _ _ h]
def ResV : Except Int Md → Value
 | .error n => .tuple #[mdV noMd, .iface 26 (.int .i64 n)]
 | .ok m => .tuple #[mdV m, .nilIface]
def baseF (bw ba : Nat) : Value := .func (.func 104) #[] #[.pointer (some ⟨bw, 0, none⟩), .pointer (some ⟨ba, 0, none⟩)]
theorem zdr {w : World} {e : Ent} {b : Md} {bw ba : Nat} (hd : e.data.length ≤ 10000) (hb : b.dt.length ≤ 70000) (hdp : b.dp ≤ 1000) (he : Eb w) (ht : Tb w)
 (hbase : e.kind = 6 ∨ e.kind = 7 → ∀ W, Below w.heap.size w W → Calls Tryz.prog 104 #[.pointer (some ⟨bw, 0, none⟩), .pointer (some ⟨ba, 0, none⟩)] W (z06 (mdV b) W)) :
 Calls Tryz.prog 103 #[entV e, baseF bw ba] w (z06 (ResV (resE e b)) w) := by
 obtain ⟨kd, bk, bs, dt⟩ := e;simp only at hd hbase;obtain ⟨R, hR⟩ := zx (resE ⟨kd, bk, bs, dt⟩ b);rw [← hR];obtain ⟨wa, hwa⟩ := zx (w.alloc (.cells #[.int .i64 kd, .int .i64 bk, .string ⟨bs.toArray⟩, .string ⟨dt.toArray⟩] 51));obtain ⟨wb, hwb⟩ := zx (wa.alloc (.cells #[.bool false, .int .i64 0, .string ⟨#[]⟩, .int .i64 0] 82));obtain ⟨wc, hwc⟩ := zx (wb.alloc (.cells #[.bool true, .int .i64 kd, .string ⟨dt.toArray⟩, .int .i64 0] 82));have ba1 : Below w.heap.size w wa := by rw [hwa]; exact below_new w _
 have bb1 : Below wa.heap.size wa wb := by rw [hwb]; exact below_new wa _
 have bc1 : Below wb.heap.size wb wc := by rw [hwc]; exact below_new wb _
 have sa : wa.heap.size = w.heap.size + 1 := by rw [hwa]; simp
 have sb : wb.heap.size = w.heap.size + 2 := by rw [hwb]; simp [sa]
 have kE0 : wb.heap[w.heap.size]? = some (.cells #[.int .i64 kd, .int .i64 bk, .string ⟨bs.toArray⟩, .string ⟨dt.toArray⟩] 51 (0, 0)) := (bb1.block _ (by omega)).trans (by rw [hwa]; exact heap_alloc_new w _);have kE : wc.heap[w.heap.size]? = some (.cells #[.int .i64 kd, .int .i64 bk, .string ⟨bs.toArray⟩, .string ⟨dt.toArray⟩] 51 (0, 0)) := (bc1.block _ (by omega)).trans kE0;have k1 : wc.heap[wa.heap.size]? = some (.cells #[.bool false, .int .i64 0, .string ⟨#[]⟩, .int .i64 0] 82 (0, 0)) := (bc1.block _ (by omega)).trans (by rw [hwb]; exact heap_alloc_new wa _);have k2 : wc.heap[wb.heap.size]? = some (.cells #[.bool true, .int .i64 kd, .string ⟨dt.toArray⟩, .int .i64 0] 82 (0, 0)) := by rw [hwc]; exact heap_alloc_new wb _
 have bwc : Below w.heap.size w wc := (ba1.trans (bb1.mono ba1.size)).trans (bc1.mono (by omega));obtain ⟨e0, e1, e2, e3⟩ := cells4 kE0;obtain ⟨B1, hB1⟩ := zx wa.heap.size;obtain ⟨B2, hB2⟩ := zx wb.heap.size;obtain ⟨B0, hB0⟩ := zx w.heap.size;rw [← hB1] at k1;rw [← hB2] at k2;rw [← hB0] at kE e0 e1 e2 e3;have HWa := zh hwa; have HWb := zh hwb; have HWc := zh hwc; have HRR := zh hR;have HKE := zh kE; have K1 := zh k1; have K2 := zh k2; have HB := zh bwc;have HB1 : Hid (w.heap.size ≤ B1) := zh (by omega);have HB2 : Hid (w.heap.size ≤ B2 ∧ B1 ≠ B2 ∧ B0 ≠ B1 ∧ B0 ≠ B2) := zh (by omega);have HS1 : Hid (w.heap.size + 1 = B1) := zh (by omega);have HS2 : Hid (wb.heap.size = B2) := zh hB2.symm;have HS0 : Hid (w.heap.size = B0) := zh hB0.symm;have HEb := zh he; have HTb := zh ht; have Hd := zh hd; have Hb := zh (And.intro hb hdp); have HBase := zh hbase;clear hwa hwb hwc kE kE0 k1 k2 bwc ba1 bb1 bc1 sa sb he ht hd hb hdp hbase hR hB1 hB2 hB0;unfold entV baseF;simp only
 go_enter Tryz.func103, Tryz.ntmps103
 go_upto_region 1 with fail
 change Code.wp Tryz.prog _ _ _ ((w.alloc (.cells #[.int .i64 kd, .int .i64 bk, .string ⟨bs.toArray⟩, .string ⟨dt.toArray⟩] 51)).alloc (.cells #[.bool false, .int .i64 0, .string ⟨#[]⟩, .int .i64 0] 82));rw [← HWa.out, ← HWb.out];rw [HS1.out, HS0.out];clear HWa HWb;by_cases hk : kd = 6 ∨ kd = 7
 · have hre := HRR.out;unfold resE at hre;simp only at hre;rw [if_pos hk] at hre;have HRe0 := zh hre;have HBs := zh (HBase.out hk);clear hre HBase HRR;have fin : Hid True := zh trivial
   have hk6 : ((kd == 6) = true) ∨ ((kd == 6) = false ∧ (kd == 7) = true) := by
    rcases hk with rfl | rfl
    · exact .inl rfl
    · exact .inr ⟨rfl, rfl⟩
   clear fin hk
   go_upto_region 2 with fail
   rw [← HWc.out, HS2.out];clear HWc e0 e1 e2 e3;obtain ⟨e0, e1, e2, e3⟩ := cells4 HKE.out;have goal5 : True := trivial;clear goal5;rcases hk6 with h6 | ⟨h6, h7⟩
   all_goals
    go_upto_region 5 with fail
    go_wp2_with fail
    refine (HBs.out _ HB.out).mono ?_;rintro e w4 ⟨rfl, b4⟩;have HB4 := zh (HB.out.trans (b4.mono HB.out.size));have HKE4 := zh ((b4.block _ (lt_heap HKE.out)).trans HKE.out);have K14 := zh ((b4.block _ (lt_heap K1.out)).trans K1.out);have K24 := zh ((b4.block _ (lt_heap K2.out)).trans K2.out);obtain ⟨bth, bkd, bdt, bdp⟩ := b;unfold mdV;simp only;obtain ⟨w5, hw5⟩ := zx (w4.alloc (.cells #[.bool bth, .int .i64 bkd, .string ⟨bdt.toArray⟩, .int .i64 (bdp : Int)] 82));have b5 : Below w4.heap.size w4 w5 := by rw [hw5]; exact below_new w4 _
    have k5 : w5.heap[w4.heap.size]? = some (.cells #[.bool bth, .int .i64 bkd, .string ⟨bdt.toArray⟩, .int .i64 (bdp : Int)] 82 (0, 0)) := by rw [hw5]; exact heap_alloc_new w4 _
    have HB := zh (HB4.out.trans (b5.mono HB4.out.size));have HKE := zh ((b5.block _ (lt_heap HKE4.out)).trans HKE4.out);have K1 := zh ((b5.block _ (lt_heap K14.out)).trans K14.out);have K2 := zh ((b5.block _ (lt_heap K24.out)).trans K24.out);have HW5 := zh hw5; have K5 := zh k5;clear b4 hw5 b5 k5 HB4 HKE4 K14 K24 HBs e0 e1 e2 e3
    go_upto_region 6 with fail
    rw [← HW5.out];clear HW5;obtain ⟨b0, b1, b2, b3⟩ := cells4 K5.out;have hre := HRe0.out;have hbb := Hb.out;simp only at hre hbb;cases bth with
    | false =>
      simp only [if_true] at hre;have HRe := zh hre;clear hre hbb K2 K5 HRe0;obtain ⟨z0, z1, z2, z3⟩ := cells4 K1.out;have g0 := z07 K1.out 0; have g1 := z07 K1.out 1; have g2 := z07 K1.out 2; have g3 := z07 K1.out 3;have HfF := zh (cells4 (set4 K1.out (.bool false) (.int .i64 0) (.string ⟨#[]⟩) (.int .i64 0)));have HFB := zh (z4q HB.out HB1.out (.bool false) (.int .i64 0) (.string ⟨#[]⟩) (.int .i64 0));clear K1 HB
      go_wp2
      obtain ⟨f0, f1, f2, f3⟩ := HfF.out;refine bodyPost_ret (v := .tuple #[.agg #[.bool false, .int .i64 0, .string ⟨#[]⟩, .int .i64 0], .nilIface]) (by simp [results, Tryz.results103, go_sem, f0, f1, f2, f3]) rfl ⟨?_, HFB.out⟩;rw [HRe.out];rfl
    | true =>
      simp only [Bool.true_eq_false, if_false] at hre;obtain ⟨e0, e1, e2, e3⟩ := cells4 HKE.out;have HAp := zh (zfp bdt dt Hd.out hbb.1 w5);have HRe1 := zh hre;clear hre
      go_wp2_with fail
      refine HAp.out.mono ?_;rintro e w6 ⟨rfl, b6⟩;unfold ApV;have HB6 := zh (HB.out.trans (b6.mono HB.out.size));have K16 := zh ((b6.block _ (lt_heap K1.out)).trans K1.out);have K26 := zh ((b6.block _ (lt_heap K2.out)).trans K2.out);have K56 := zh ((b6.block _ (lt_heap K5.out)).trans K5.out);clear b6 HAp HB K1 K2 K5 b0 b1 b2 b3 e0 e1 e2 e3;have HB := zh HB6.out; have K1 := zh K16.out; have K2 := zh K26.out;clear HB6 K16 K26;have hre := HRe1.out;clear HRe1;cases hta : zab bdt dt with
      | none =>
        rw [hta] at hre;have HRe := zh hre;clear hre hta K2 hbb HRe0 K56;have q2 : ∀ (v : Value) (W : World), (binOp .neq 64 (.iface 26 v) .nilIface).run Tryz.prog W = .ok (.bool true) W := fun v W => by go_simp
        obtain ⟨z0, z1, z2, z3⟩ := cells4 K1.out;have g0 := z07 K1.out 0; have g1 := z07 K1.out 1; have g2 := z07 K1.out 2; have g3 := z07 K1.out 3;have HfF := zh (cells4 (set4 K1.out (.bool false) (.int .i64 0) (.string ⟨#[]⟩) (.int .i64 0)));have HFB := zh (z4q HB.out HB1.out (.bool false) (.int .i64 0) (.string ⟨#[]⟩) (.int .i64 0));clear K1 HB
        go_wp2
        obtain ⟨f0, f1, f2, f3⟩ := HfF.out;refine bodyPost_ret (v := .tuple #[.agg #[.bool false, .int .i64 0, .string ⟨#[]⟩, .int .i64 0], .iface 26 (.int .i64 3)]) (by simp [results, Tryz.results103, go_sem, f0, f1, f2, f3]) rfl ⟨?_, HFB.out⟩;rw [HRe.out];rfl
      | some t =>
        rw [hta] at hre;simp only at hre;have HOk := zh hre
        have HTl : Hid (t.length ≤ 65536) := zh (by
         unfold zab at hta;cases ha : Dl.applyL bdt dt with
         | none => rw [ha] at hta; cases hta
         | some u =>
           rw [ha] at hta;simp only at hta;split at hta
           · cases hta; assumption
           · cases hta)
        obtain ⟨b0, b1, b2, b3⟩ := cells4 K56.out;obtain ⟨p0, p1, p2, p3⟩ := cells4 K2.out;have g0 := z07 K2.out 0; have g1 := z07 K2.out 1; have g2 := z07 K2.out 2; have g3 := z07 K2.out 3;obtain ⟨dp1, hdp1⟩ := zx (bdp + 1);have hwr : (bdp : Int) + 1 = (dp1 : Int) := by omega
        have hbdp : bdp ≤ 1000 := hbb.2;obtain ⟨W, hW⟩ := zx ((((w6.setCell ⟨B2, 0, none⟩ (.bool true)).setCell ⟨B2, 1, none⟩ (.int .i64 bkd)).setCell ⟨B2, 2, none⟩ (.string ⟨t.toArray⟩)).setCell ⟨B2, 3, none⟩ (.int .i64 ((bdp : Int) + 1)));have HBW : Hid (Below w.heap.size w W) := zh (by rw [hW]; exact z4q HB.out HB2.out.1 _ _ _ _);have K1W : Hid (W.heap[B1]? = some (.cells #[.bool false, .int .i64 0, .string ⟨#[]⟩, .int .i64 0] 82 (0, 0))) := zh (by rw [hW, other4 HB2.out.2.1]; exact K1.out);have K2W : Hid (W.heap[B2]? = some (.cells #[.bool true, .int .i64 bkd, .string ⟨t.toArray⟩, .int .i64 (dp1 : Int)] 82 (0, 0))) := zh (by rw [hW, ← hwr]; exact set4 K2.out _ _ _ _);have HW := zh hW; have Hdp := zh hdp1; have Hwr := zh hwr;clear hta hre hbb hW hdp1 hwr HB K1 K2 HRe0 K56
        go_upto_region 12 with fail
        rw [← HW.out];clear b0 b1 b2 b3 p0 p1 p2 p3 g0 g1 g2 g3 HW hbdp;rw [← Hdp.out] at HOk;have HB := zh HBW.out; have K1 := zh K1W.out; have K2 := zh K2W.out;clear HBW K1W K2W;have HRi := zh (zd5 bkd t (by have := HTl.out; omega) W (HEb.out.below HB.out) (HTb.out.below HB.out));obtain ⟨p0, p1, p2, p3⟩ := cells4 K2.out;unfold ObjV at HRi
        go_wp2_with fail
        refine HRi.out.mono ?_;rintro e W2 ⟨rfl, b2⟩;have K1 : Hid (W2.heap[B1]? = _) := zh ((b2.block _ (lt_heap K1.out)).trans K1.out);have K2 : Hid (W2.heap[B2]? = _) := zh ((b2.block _ (lt_heap K2.out)).trans K2.out);have HB := zh (HB.out.trans (b2.mono HB.out.size));obtain ⟨p0, p1, p2, p3⟩ := cells4 K2.out;have hok := HOk.out;clear b2 HRi HTl;cases hwt : (z0g bkd t).isSome with
        | false =>
          rw [hwt] at hok;have HRe := zh hok;clear hwt hok;obtain ⟨z0, z1, z2, z3⟩ := cells4 K1.out;have g0 := z07 K1.out 0; have g1 := z07 K1.out 1; have g2 := z07 K1.out 2; have g3 := z07 K1.out 3;have HfF := zh (cells4 (set4 K1.out (.bool false) (.int .i64 0) (.string ⟨#[]⟩) (.int .i64 0)));have HFB := zh (z4q HB.out HB1.out (.bool false) (.int .i64 0) (.string ⟨#[]⟩) (.int .i64 0));clear K1 HB
          go_wp2
          obtain ⟨f0, f1, f2, f3⟩ := HfF.out;refine bodyPost_ret (v := .tuple #[.agg #[.bool false, .int .i64 0, .string ⟨#[]⟩, .int .i64 0], .iface 26 (.int .i64 3)]) (by simp [results, Tryz.results103, go_sem, f0, f1, f2, f3]) rfl ⟨?_, HFB.out⟩;rw [HRe.out];rfl
        | true =>
          rw [hwt] at hok;by_cases h16 : 16 < dp1
          · have h16I : (16 : Int) < (dp1 : Int) := by omega
            rw [if_pos rfl, if_pos h16] at hok;have HRe := zh hok;clear hwt hok h16;obtain ⟨z0, z1, z2, z3⟩ := cells4 K1.out;have g0 := z07 K1.out 0; have g1 := z07 K1.out 1; have g2 := z07 K1.out 2; have g3 := z07 K1.out 3;have HfF := zh (cells4 (set4 K1.out (.bool false) (.int .i64 0) (.string ⟨#[]⟩) (.int .i64 0)));have HFB := zh (z4q HB.out HB1.out (.bool false) (.int .i64 0) (.string ⟨#[]⟩) (.int .i64 0));clear K1 HB
            go_wp2
            obtain ⟨f0, f1, f2, f3⟩ := HfF.out;refine bodyPost_ret (v := .tuple #[.agg #[.bool false, .int .i64 0, .string ⟨#[]⟩, .int .i64 0], .iface 26 (.int .i64 2)]) (by simp [results, Tryz.results103, go_sem, f0, f1, f2, f3]) rfl ⟨?_, HFB.out⟩;rw [HRe.out];rfl
          · have h16I : ¬ (16 : Int) < (dp1 : Int) := by omega
            rw [if_pos rfl, if_neg h16] at hok;have HRe := zh hok;clear hwt hok h16;obtain ⟨z0, z1, z2, z3⟩ := cells4 K1.out;have g0 := z07 K1.out 0; have g1 := z07 K1.out 1; have g2 := z07 K1.out 2; have g3 := z07 K1.out 3;have HfF := zh (cells4 (set4 K1.out (.bool true) (.int .i64 bkd) (.string ⟨t.toArray⟩) (.int .i64 (dp1 : Int))));have HFB := zh (z4q HB.out HB1.out (.bool true) (.int .i64 bkd) (.string ⟨t.toArray⟩) (.int .i64 (dp1 : Int)));clear K1 HB
            go_wp2
            obtain ⟨f0, f1, f2, f3⟩ := HfF.out;refine bodyPost_ret (v := .tuple #[.agg #[.bool true, .int .i64 bkd, .string ⟨t.toArray⟩, .int .i64 (dp1 : Int)], .nilIface]) (by simp [results, Tryz.results103, go_sem, f0, f1, f2, f3]) rfl ⟨?_, HFB.out⟩;rw [HRe.out];rfl
 · have hre := HRR.out;unfold resE at hre;simp only at hre;rw [if_neg hk] at hre;have HOk := zh hre;have h6 : (kd == 6) = false := by rw [beq_eq_false_iff_ne]; omega
   have h7 : (kd == 7) = false := by rw [beq_eq_false_iff_ne]; omega
   have HTl : Hid (dt.length ≤ 65536) := zh (by have := Hd.out; omega);clear hre HBase HRR hk
   go_upto_region 2 with fail
   rw [← HWc.out, HS2.out];clear HWc e0 e1 e2 e3;obtain ⟨e0, e1, e2, e3⟩ := cells4 HKE.out
   go_upto_region 12 with fail
   clear e0 e1 e2 e3 HKE;obtain ⟨W, hW⟩ := zx wc;rw [← hW] at HB K1 K2 ⊢;clear hW;have HRi := zh (zd5 kd dt (by have := HTl.out; omega) W (HEb.out.below HB.out) (HTb.out.below HB.out));obtain ⟨p0, p1, p2, p3⟩ := cells4 K2.out;unfold ObjV at HRi
   go_wp2_with fail
   refine HRi.out.mono ?_;rintro e W2 ⟨rfl, b2⟩;have K1 : Hid (W2.heap[B1]? = _) := zh ((b2.block _ (lt_heap K1.out)).trans K1.out);have K2 : Hid (W2.heap[B2]? = _) := zh ((b2.block _ (lt_heap K2.out)).trans K2.out);have HB := zh (HB.out.trans (b2.mono HB.out.size));obtain ⟨p0, p1, p2, p3⟩ := cells4 K2.out;have hok := HOk.out;clear b2 HRi HTl;cases hwt : (z0g kd dt).isSome with
   | false =>
     rw [hwt] at hok;have HRe := zh hok;clear hwt hok;obtain ⟨z0, z1, z2, z3⟩ := cells4 K1.out;have g0 := z07 K1.out 0; have g1 := z07 K1.out 1; have g2 := z07 K1.out 2; have g3 := z07 K1.out 3;have HfF := zh (cells4 (set4 K1.out (.bool false) (.int .i64 0) (.string ⟨#[]⟩) (.int .i64 0)));have HFB := zh (z4q HB.out HB1.out (.bool false) (.int .i64 0) (.string ⟨#[]⟩) (.int .i64 0));clear K1 HB
     go_wp2
     obtain ⟨f0, f1, f2, f3⟩ := HfF.out;refine bodyPost_ret (v := .tuple #[.agg #[.bool false, .int .i64 0, .string ⟨#[]⟩, .int .i64 0], .iface 26 (.int .i64 3)]) (by simp [results, Tryz.results103, go_sem, f0, f1, f2, f3]) rfl ⟨?_, HFB.out⟩;rw [HRe.out];rfl
   | true =>
     rw [hwt] at hok;have HRe := zh hok;clear hwt hok;obtain ⟨z0, z1, z2, z3⟩ := cells4 K1.out;have g0 := z07 K1.out 0; have g1 := z07 K1.out 1; have g2 := z07 K1.out 2; have g3 := z07 K1.out 3;have HfF := zh (cells4 (set4 K1.out (.bool true) (.int .i64 kd) (.string ⟨dt.toArray⟩) (.int .i64 0)));have HFB := zh (z4q HB.out HB1.out (.bool true) (.int .i64 kd) (.string ⟨dt.toArray⟩) (.int .i64 0));clear K1 HB
     go_wp2
     obtain ⟨f0, f1, f2, f3⟩ := HfF.out;refine bodyPost_ret (v := .tuple #[.agg #[.bool true, .int .i64 kd, .string ⟨dt.toArray⟩, .int .i64 0], .nilIface]) (by simp [results, Tryz.results103, go_sem, f0, f1, f2, f3]) rfl ⟨?_, HFB.out⟩;rw [HRe.out];rfl
end Go.Proofs.YtgjddkeogboojaaGreatDoor.Pk
