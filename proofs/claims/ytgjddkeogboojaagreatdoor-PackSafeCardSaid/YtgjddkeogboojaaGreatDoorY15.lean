/-
  The reader: entry. readEntries, read, Get. read, Get. parts: what each step makes. head, long.
-/
import Derived.Test.YtgjddkeogboojaaGreatDoorY14
import Derived.Test.YtgjddkeogboojaaGreatDoorY07
import Derived.Stop.BytesEq
import Derived.Laws.Cover3
import Derived.BigRegion
import Derived.Test.YtgjddkeogboojaaGreatDoorY12
import Derived.Test.YtgjddkeogboojaaGreatDoorY08
set_option maxHeartbeats 16000000
set_option maxRecDepth 100000
namespace Go.Proofs.YtgjddkeogboojaaGreatDoor.Pk
open Go.Proofs.YtgjddkeogboojaaGreatDoor
open Go Go.RowKit
def EnP (r : Nat) (s : Bs) (w : World) (e : Ending) (w' : World) : Prop := RdP r (entV (entF s).1) (entF s).2.1 (entF s).2.2 w e w'
theorem numF_len (s : Bs) (b : Bool) : (numF s b).2.1.length ≤ s.length := by
 unfold numF;cases Dl.getL s with
 | none => simp
 | some p => simp
theorem zma (n : Nat) (s : Bs) (b : Bool) : (z2q n s b).2.1.length ≤ s.length := by
 unfold z2q;split <;> simp
theorem zmb (s : Bs) : (z4t s).2.1.length ≤ s.length := by
 cases s <;> simp [z4t]
theorem cells4 {w : World} {b : Nat} {x0 x1 x2 x3 : Value} {t : TypeId} {fr : Nat × Nat} (h : w.heap[b]? = some (.cells #[x0, x1, x2, x3] t fr)) : w.cell? ⟨b, 0, none⟩ = some x0 ∧ w.cell? ⟨b, 1, none⟩ = some x1 ∧ w.cell? ⟨b, 2, none⟩ = some x2 ∧ w.cell? ⟨b, 3, none⟩ = some x3 :=
 ⟨(cell_of_row w b 0 _ _ _ h).trans rfl, (cell_of_row w b 1 _ _ _ h).trans rfl, (cell_of_row w b 2 _ _ _ h).trans rfl, (cell_of_row w b 3 _ _ _ h).trans rfl⟩
theorem z07 {w : World} {b : Nat} {cs : Array Value} {t : TypeId} (h : w.heap[b]? = some (.cells cs t (0, 0))) (i : Nat) : w.frozen? ⟨b, i, none⟩ = false := by simp [World.frozen?, h]
theorem zmc {w : World} {r : Nat} {s : Bs} (h : Rdr w r s false) (hl : s.length ≤ 1000000) : Calls Tryz.prog 82 #[.pointer (some ⟨r, 0, none⟩)] w (EnP r s w) := by
 have hrl := h.lt;obtain ⟨wa, hwa⟩ := zx (w.alloc (entO z0p));have ba : Below w.heap.size w wa := by rw [hwa]; exact below_new w _
 have ha : Rdr wa r s false := h.but (Dl.But.of_below ba) (fun k hk => by omega);have sa : wa.heap.size = w.heap.size + 1 := by rw [hwa]; simp
 have ka : wa.heap[w.heap.size]? = some (entO z0p) := by rw [hwa]; exact heap_alloc_new w _
 have hwa' : wa = w.alloc (.cells #[.int .i64 0, .int .i64 0, .string ⟨#[]⟩, .string ⟨#[]⟩] 51) := hwa;have HBy := zh (byte_any ha);have hbl := zmb s;obtain ⟨kc, s1, b1, hp1⟩ : ∃ kc s1 b1, z4t s = (kc, s1, b1) := ⟨_, _, _, rfl⟩
 obtain ⟨n, s2, b2, hp2⟩ : ∃ n s2 b2, numF s1 b1 = (n, s2, b2) := ⟨_, _, _, rfl⟩
 obtain ⟨m, x, s3, b3, hp3⟩ : ∃ m x s3 b3, midF kc s2 b2 = (m, x, s3, b3) := ⟨_, _, _, _, rfl⟩
 obtain ⟨d, s4, b4, hp4⟩ : ∃ d s4 b4, z2q n s3 b3 = (d, s4, b4) := ⟨_, _, _, rfl⟩
 have hE : entF s = (⟨(kc : Int), (m : Int), x, d⟩, s4, b4) := by unfold entF; simp only [hp1, hp2, hp3, hp4]
 rw [hp1] at HBy hbl;have hl1 : s1.length ≤ 1000000 := by simp only at hbl; omega
 have hl2 : s2.length ≤ 1000000 := by have := numF_len s1 b1; rw [hp2] at this; simp only at this; omega
 have HE := zh hE; have HWa := zh hwa'; have Hr := zh hrl; have Hl := zh (And.intro hl1 hl2);have HP2 := zh hp2; have HP3 := zh hp3; have HP4 := zh hp4;have HA := zh (And.intro ba (And.intro sa ka))
 have HFin : Hid (∀ (W' : World), Dl.But (fun k => k = r ∨ w.heap.size ≤ k) wa W' → Rdr W' r s4 b4 → EnP r s w (.returned (entV ⟨(kc : Int), (m : Int), x, d⟩)) W') := zh fun W' t5 r5 => by
  unfold EnP;rw [hE];exact ⟨rfl, r5, ((Dl.But.of_new (S := fun k => k = r ∨ w.heap.size ≤ k) ba).trans t5).mono (fun k hk h => h.elim id (fun h => by omega))⟩
 clear hE hwa hwa' hrl hl1 hl2 hp1 hp2 hp3 hp4 ba ha sa ka hbl hl h
 go_enter Tryz.func82, Tryz.ntmps82
 go_upto_region 1 with fail
 rw [← HWa.out]
 go_wp2_with fail
 refine HBy.out.mono ?_;rintro e w1 ⟨rfl, r1, t1⟩;clear HBy;obtain ⟨wb, hwb⟩ := zx (w1.alloc (entO ⟨(kc : Int), 0, [], []⟩));have bb : Below w1.heap.size w1 wb := by rw [hwb]; exact below_new w1 _
 have rb : Rdr wb r s1 b1 := r1.but (Dl.But.of_below bb) (fun k hk => by have := r1.lt; omega);have kb : wb.heap[w1.heap.size]? = some (.cells #[.int .i64 (kc : Int), .int .i64 0, .string ⟨#[]⟩, .string ⟨#[]⟩] 51 (0, 0)) := by rw [hwb]; exact heap_alloc_new w1 _
 have tb : Dl.But (fun k => k = r) wa wb := t1.trans (Dl.But.of_new bb);have hwb' : wb = w1.alloc (.cells #[.int .i64 (kc : Int), .int .i64 0, .string ⟨#[]⟩, .string ⟨#[]⟩] 51) := hwb;have hz1 : w.heap.size < w1.heap.size := by have := t1.size; have := HA.out.2.1; omega
 have HWb := zh hwb'; have HKb := zh kb; have HTb := zh tb; have HZ1 := zh hz1;have HNm := zh (num_F rb Hl.out.1);rw [HP2.out] at HNm;simp only at HNm;clear hwb hwb' bb rb r1 t1 kb tb hz1
 go_upto_region 2 with fail
 rw [← HWb.out]
 go_wp2_with fail
 refine HNm.out.mono ?_;rintro e w2 ⟨rfl, r2, t2⟩;have k2 : w2.heap[w1.heap.size]? = some (.cells #[.int .i64 (kc : Int), .int .i64 0, .string ⟨#[]⟩, .string ⟨#[]⟩] 51 (0, 0)) := (t2.block _ (lt_heap HKb.out) (fun e => by have := Hr.out; have := HZ1.out; omega)).trans HKb.out;have T2 := zh (HTb.out.trans t2);have c0 : w2.cell? ⟨w1.heap.size, 0, none⟩ = some (.int .i64 (kc : Int)) := (cell_of_row w2 _ 0 _ _ _ k2).trans rfl;have R2 := zh r2; have K2 := zh k2;clear t2 r2 k2 HNm HTb HKb HWb;by_cases h6 : kc = 6
 · have b6 : ((kc : Int) == 6) = true := by rw [h6]; rfl
   have hp3 := HP3.out;unfold midF at hp3;rw [if_pos h6] at hp3;simp only [Prod.mk.injEq] at hp3;obtain ⟨e1, rfl, e3, e4⟩ := hp3;have HNn := zh (num_F R2.out Hl.out.2);rw [e1, e3, e4] at HNn;clear h6 e1 e3 e4
   go_wp2_with fail
   refine HNn.out.mono ?_;rintro e w5 ⟨rfl, r5, t5⟩;have k5 := (t5.block _ (lt_heap K2.out) (fun e => by have := Hr.out; have := HZ1.out; omega)).trans K2.out;have c1 : w5.cell? ⟨w1.heap.size, 1, none⟩ = some (.int .i64 0) := (cell_of_row w5 _ 1 _ _ _ k5).trans rfl;have f1 := z07 k5 1;obtain ⟨w3, hw3⟩ := zx (w5.setCell ⟨w1.heap.size, 1, none⟩ (.int .i64 (m : Int)));have R3 : Hid (Rdr w3 r s3 b3) := zh (by rw [hw3]; exact r5.but (but_setCell w5 _ 1 _) (fun k hk => by have := Hr.out; have := HZ1.out; omega));have K3 : Hid (w3.heap[w1.heap.size]? = some (.cells #[.int .i64 (kc : Int), .int .i64 (m : Int), .string ⟨#[]⟩, .string ⟨#[]⟩] 51 (0, 0))) := zh (by rw [hw3]; exact (blk_setCell k5 _).trans rfl);have T3 : Hid (Dl.But (fun k => k = r ∨ k = w1.heap.size) wa w3) := zh (((T2.out.trans t5).mono (fun k _ h => .inl h)).trans (by rw [hw3]; exact (but_setCell w5 _ 1 _).mono (fun k _ h => .inr h)));have HW3 := zh hw3;clear r5 t5 k5 hw3 HNn K2 R2 T2 c0
   go_upto_region 8 with fail
   rw [← HW3.out];clear c1 f1 HW3;obtain ⟨q0, q1, q2, q3⟩ := cells4 K3.out;have HTx := zh (zdk R3.out n);rw [HP4.out] at HTx;simp only at HTx;unfold SV at HTx
   go_wp2_with fail
   refine HTx.out.mono ?_;rintro e w4 ⟨rfl, r4, t4⟩;have hr := Hr.out;have hz1 := HZ1.out;have k4 := (t4.block _ (lt_heap K3.out) (fun e => by omega)).trans K3.out;have T4 := T3.out.trans (t4.mono (fun k _ h => .inl h));have a4 := (T4.block _ (lt_heap HA.out.2.2) (fun e => by omega)).trans HA.out.2.2;obtain ⟨q0, q1, q2, q3⟩ := cells4 k4;unfold entO z0p at a4;obtain ⟨p0, p1, p2, p3⟩ := cells4 a4;have f3 := z07 k4 3;have g0 := z07 a4 0; have g1 := z07 a4 1; have g2 := z07 a4 2; have g3 := z07 a4 3;have hne : w.heap.size ≠ w1.heap.size := by omega
   obtain ⟨B2, hB2⟩ := zx w.heap.size;obtain ⟨B3, hB3⟩ := zx w1.heap.size
   have t5 : Dl.But (fun k => w.heap.size ≤ k) w4 (((((w4.setCell ⟨B3, 3, none⟩ (.string ⟨d.toArray⟩)).setCell ⟨B2, 0, none⟩ (.int .i64 (kc : Int))).setCell ⟨B2, 1, none⟩ (.int .i64 ((m : Int)))).setCell ⟨B2, 2, none⟩ (.string ⟨#[]⟩)).setCell ⟨B2, 3, none⟩ (.string ⟨d.toArray⟩)) :=
    (((((Dl.But.refl _ _).setCell (p := ⟨B3, 3, none⟩) (by show w.heap.size ≤ B3; omega) _).setCell (p := ⟨B2, 0, none⟩) (by show w.heap.size ≤ B2; omega) _).setCell (p := ⟨B2, 1, none⟩) (by show w.heap.size ≤ B2; omega) _).setCell (p := ⟨B2, 2, none⟩) (by show w.heap.size ≤ B2; omega) _).setCell (p := ⟨B2, 3, none⟩) (by show w.heap.size ≤ B2; omega) _
   have hF := HFin.out _ ((T4.mono (fun k _ h => h.imp id (fun h => by omega))).trans (t5.mono (fun k _ h => .inr h))) (r4.but t5 (fun k hk => by omega));rw [← hB2] at p0 p1 p2 p3 g0 g1 g2 g3 hne a4;rw [← hB3] at q0 q1 q2 q3 f3 hne;rw [← hB2, ← hB3];have aB := ((but_setCell w4 B3 3 (.string ⟨d.toArray⟩)).block B2 (lt_heap a4) hne).trans a4;have HfF := zh (cells4 ((blk_setCell (blk_setCell (blk_setCell (blk_setCell aB (i := 0) (.int .i64 (kc : Int))) (i := 1) (.int .i64 ((m : Int)))) (i := 2) (.string ⟨#[]⟩)) (i := 3) (.string ⟨d.toArray⟩)).trans rfl));unfold entV at hF;have HF := zh hF;clear hF k4 a4 aB t4 r4 hr hz1 hB2 hB3 K3 T3 R3 HFin HTx T4 t5
   go_wp2
   obtain ⟨f0, f1, f2, f3⟩ := HfF.out;refine bodyPost_ret (v := .agg #[.int .i64 (kc : Int), .int .i64 ((m : Int)), .string ⟨#[]⟩, .string ⟨d.toArray⟩]) (by simp [results, Tryz.results82, go_sem, f0, f1, f2, f3]) rfl HF.out
 · have b6 : ((kc : Int) == 6) = false := by rw [beq_eq_false_iff_ne]; omega
   have hp3 := HP3.out;unfold midF at hp3;rw [if_neg h6] at hp3;by_cases h7 : kc = 7
   · have b7 : ((kc : Int) == 7) = true := by rw [h7]; rfl
     rw [if_pos h7] at hp3;simp only [Prod.mk.injEq] at hp3;obtain ⟨rfl, e1, e3, e4⟩ := hp3;have HNn := zh (zdk R2.out 64);rw [e1, e3, e4] at HNn;unfold SV at HNn;clear h6 h7 e1 e3 e4
     go_wp2_with fail
     refine HNn.out.mono ?_;rintro e w5 ⟨rfl, r5, t5⟩;have k5 := (t5.block _ (lt_heap K2.out) (fun e => by have := Hr.out; have := HZ1.out; omega)).trans K2.out;have c1 : w5.cell? ⟨w1.heap.size, 2, none⟩ = some (.string ⟨#[]⟩) := (cell_of_row w5 _ 2 _ _ _ k5).trans rfl;have f1 := z07 k5 2;obtain ⟨w3, hw3⟩ := zx (w5.setCell ⟨w1.heap.size, 2, none⟩ (.string ⟨x.toArray⟩));have R3 : Hid (Rdr w3 r s3 b3) := zh (by rw [hw3]; exact r5.but (but_setCell w5 _ 2 _) (fun k hk => by have := Hr.out; have := HZ1.out; omega));have K3 : Hid (w3.heap[w1.heap.size]? = some (.cells #[.int .i64 (kc : Int), .int .i64 0, .string ⟨x.toArray⟩, .string ⟨#[]⟩] 51 (0, 0))) := zh (by rw [hw3]; exact (blk_setCell k5 _).trans rfl);have T3 : Hid (Dl.But (fun k => k = r ∨ k = w1.heap.size) wa w3) := zh (((T2.out.trans t5).mono (fun k _ h => .inl h)).trans (by rw [hw3]; exact (but_setCell w5 _ 2 _).mono (fun k _ h => .inr h)));have HW3 := zh hw3;clear r5 t5 k5 hw3 HNn K2 R2 T2 c0
     go_upto_region 8 with fail
     rw [← HW3.out];clear c1 f1 HW3;obtain ⟨q0, q1, q2, q3⟩ := cells4 K3.out;have HTx := zh (zdk R3.out n);rw [HP4.out] at HTx;simp only at HTx;unfold SV at HTx
     go_wp2_with fail
     refine HTx.out.mono ?_;rintro e w4 ⟨rfl, r4, t4⟩;have hr := Hr.out;have hz1 := HZ1.out;have k4 := (t4.block _ (lt_heap K3.out) (fun e => by omega)).trans K3.out;have T4 := T3.out.trans (t4.mono (fun k _ h => .inl h));have a4 := (T4.block _ (lt_heap HA.out.2.2) (fun e => by omega)).trans HA.out.2.2;obtain ⟨q0, q1, q2, q3⟩ := cells4 k4;unfold entO z0p at a4;obtain ⟨p0, p1, p2, p3⟩ := cells4 a4;have f3 := z07 k4 3;have g0 := z07 a4 0; have g1 := z07 a4 1; have g2 := z07 a4 2; have g3 := z07 a4 3;have hne : w.heap.size ≠ w1.heap.size := by omega
     obtain ⟨B2, hB2⟩ := zx w.heap.size;obtain ⟨B3, hB3⟩ := zx w1.heap.size
     have t5 : Dl.But (fun k => w.heap.size ≤ k) w4 (((((w4.setCell ⟨B3, 3, none⟩ (.string ⟨d.toArray⟩)).setCell ⟨B2, 0, none⟩ (.int .i64 (kc : Int))).setCell ⟨B2, 1, none⟩ (.int .i64 (0))).setCell ⟨B2, 2, none⟩ (.string ⟨x.toArray⟩)).setCell ⟨B2, 3, none⟩ (.string ⟨d.toArray⟩)) :=
      (((((Dl.But.refl _ _).setCell (p := ⟨B3, 3, none⟩) (by show w.heap.size ≤ B3; omega) _).setCell (p := ⟨B2, 0, none⟩) (by show w.heap.size ≤ B2; omega) _).setCell (p := ⟨B2, 1, none⟩) (by show w.heap.size ≤ B2; omega) _).setCell (p := ⟨B2, 2, none⟩) (by show w.heap.size ≤ B2; omega) _).setCell (p := ⟨B2, 3, none⟩) (by show w.heap.size ≤ B2; omega) _
     have hF := HFin.out _ ((T4.mono (fun k _ h => h.imp id (fun h => by omega))).trans (t5.mono (fun k _ h => .inr h))) (r4.but t5 (fun k hk => by omega));rw [← hB2] at p0 p1 p2 p3 g0 g1 g2 g3 hne a4;rw [← hB3] at q0 q1 q2 q3 f3 hne;rw [← hB2, ← hB3];have aB := ((but_setCell w4 B3 3 (.string ⟨d.toArray⟩)).block B2 (lt_heap a4) hne).trans a4;have HfF := zh (cells4 ((blk_setCell (blk_setCell (blk_setCell (blk_setCell aB (i := 0) (.int .i64 (kc : Int))) (i := 1) (.int .i64 (0))) (i := 2) (.string ⟨x.toArray⟩)) (i := 3) (.string ⟨d.toArray⟩)).trans rfl));unfold entV at hF;have HF := zh hF;clear hF k4 a4 aB t4 r4 hr hz1 hB2 hB3 K3 T3 R3 HFin HTx T4 t5
     go_wp2
     obtain ⟨f0, f1, f2, f3⟩ := HfF.out;refine bodyPost_ret (v := .agg #[.int .i64 (kc : Int), .int .i64 (0), .string ⟨x.toArray⟩, .string ⟨d.toArray⟩]) (by simp [results, Tryz.results82, go_sem, f0, f1, f2, f3]) rfl HF.out
   · have b7 : ((kc : Int) == 7) = false := by rw [beq_eq_false_iff_ne]; omega
     rw [if_neg h7] at hp3;simp only [Prod.mk.injEq] at hp3;obtain ⟨rfl, rfl, e3, e4⟩ := hp3;rw [e3, e4] at R2;have R3 := zh R2.out;have K3 := zh K2.out;have T3 : Hid (Dl.But (fun k => k = r ∨ k = w1.heap.size) wa w2) := zh (T2.out.mono (fun k _ h => .inl h));clear h6 h7 e3 e4 R2 K2 T2
     go_upto_region 8 with fail
     obtain ⟨q0, q1, q2, q3⟩ := cells4 K3.out;have HTx := zh (zdk R3.out n);rw [HP4.out] at HTx;simp only at HTx;unfold SV at HTx
     go_wp2_with fail
     refine HTx.out.mono ?_;rintro e w4 ⟨rfl, r4, t4⟩;have hr := Hr.out;have hz1 := HZ1.out;have k4 := (t4.block _ (lt_heap K3.out) (fun e => by omega)).trans K3.out;have T4 := T3.out.trans (t4.mono (fun k _ h => .inl h));have a4 := (T4.block _ (lt_heap HA.out.2.2) (fun e => by omega)).trans HA.out.2.2;obtain ⟨q0, q1, q2, q3⟩ := cells4 k4;unfold entO z0p at a4;obtain ⟨p0, p1, p2, p3⟩ := cells4 a4;have f3 := z07 k4 3;have g0 := z07 a4 0; have g1 := z07 a4 1; have g2 := z07 a4 2; have g3 := z07 a4 3;have hne : w.heap.size ≠ w1.heap.size := by omega
     obtain ⟨B2, hB2⟩ := zx w.heap.size;obtain ⟨B3, hB3⟩ := zx w1.heap.size
     have t5 : Dl.But (fun k => w.heap.size ≤ k) w4 (((((w4.setCell ⟨B3, 3, none⟩ (.string ⟨d.toArray⟩)).setCell ⟨B2, 0, none⟩ (.int .i64 (kc : Int))).setCell ⟨B2, 1, none⟩ (.int .i64 (0))).setCell ⟨B2, 2, none⟩ (.string ⟨#[]⟩)).setCell ⟨B2, 3, none⟩ (.string ⟨d.toArray⟩)) :=
      (((((Dl.But.refl _ _).setCell (p := ⟨B3, 3, none⟩) (by show w.heap.size ≤ B3; omega) _).setCell (p := ⟨B2, 0, none⟩) (by show w.heap.size ≤ B2; omega) _).setCell (p := ⟨B2, 1, none⟩) (by show w.heap.size ≤ B2; omega) _).setCell (p := ⟨B2, 2, none⟩) (by show w.heap.size ≤ B2; omega) _).setCell (p := ⟨B2, 3, none⟩) (by show w.heap.size ≤ B2; omega) _
     have hF := HFin.out _ ((T4.mono (fun k _ h => h.imp id (fun h => by omega))).trans (t5.mono (fun k _ h => .inr h))) (r4.but t5 (fun k hk => by omega));rw [← hB2] at p0 p1 p2 p3 g0 g1 g2 g3 hne a4;rw [← hB3] at q0 q1 q2 q3 f3 hne;rw [← hB2, ← hB3];have aB := ((but_setCell w4 B3 3 (.string ⟨d.toArray⟩)).block B2 (lt_heap a4) hne).trans a4;have HfF := zh (cells4 ((blk_setCell (blk_setCell (blk_setCell (blk_setCell aB (i := 0) (.int .i64 (kc : Int))) (i := 1) (.int .i64 (0))) (i := 2) (.string ⟨#[]⟩)) (i := 3) (.string ⟨d.toArray⟩)).trans rfl));unfold entV at hF;have HF := zh hF;clear hF k4 a4 aB t4 r4 hr hz1 hB2 hB3 K3 T3 R3 HFin HTx T4 t5
     go_wp2
     obtain ⟨f0, f1, f2, f3⟩ := HfF.out;refine bodyPost_ret (v := .agg #[.int .i64 (kc : Int), .int .i64 (0), .string ⟨#[]⟩, .string ⟨d.toArray⟩]) (by simp [results, Tryz.results82, go_sem, f0, f1, f2, f3]) rfl HF.out
theorem entK : ElK 22 51 4 48 entC := ⟨Tryz.underlying22, ⟨.agg #[.int .i64 0, .int .i64 0, .string ⟨#[]⟩, .string ⟨#[]⟩], by kernel_rfl, by kernel_rfl⟩, by decide, zgn, fun x u hu => by
 simp only [entC, List.mem_cons, List.not_mem_nil, or_false] at hu; rcases hu with rfl | rfl | rfl | rfl <;> rfl⟩
def NewE (B : Nat) (w : World) (v : Value) (l : List Ent) : Prop := OwK 51 4 entC w B v l
theorem NewE.rd {B : Nat} {w : World} {v : Value} {l : List Ent} (h : NewE B w v l) : EntsR w v l := OwK.rd zgn h
theorem zh5 : ∀ {l : List Ent} {e : Ent}, e ∈ l → e.base.length + e.data.length ≤ (z2x l).length
 | x :: l, e, h => by
   rw [z3v, List.length_append];rcases List.mem_cons.1 h with rfl | h
   · unfold entB; simp; omega
   · have := zh5 h; omega
theorem zh6 : ∀ (l : List Ent), l.length ≤ (z2x l).length
 | [] => Nat.zero_le _
 | x :: l => by
   rw [z3v, List.length_append, List.length_cons];have h1 := zh6 l;have h2 : 1 ≤ (entB x).length := by unfold entB; simp
   omega
theorem small_of {n : Nat} {b : Bs} {l : List Ent} {r : Bs} (h : z3d n b = some (l, r)) (hb : b.length ≤ 100000) : Smal l := by
 obtain ⟨_, h2⟩ := z77 h;have h3 : (z2x l).length ≤ b.length := by rw [h2, List.length_append]; omega
 exact ⟨by have := zh6 l; omega, fun e he => by have := zh5 he; omega⟩
theorem magic_no {a : Bs} (h : (z2q 4 a false).1 ≠ magicL) : z4w a = none := by
 unfold z4w;rw [if_pos];intro e;apply h;unfold z2q
 have : 4 ≤ a.length := by
  have h2 := congrArg List.length e;rw [List.length_take] at h2;have : (magicL).length = 4 := rfl;omega
 rw [if_pos this];exact e
theorem zmd {a : Bs} (h : (z2q 4 a false).1 = magicL) : z2q 4 a false = (magicL, a.drop 4, false) ∧ a.take 4 = magicL := by
 unfold z2q at h ⊢;by_cases h4 : 4 ≤ a.length
 · rw [if_pos h4] at h ⊢;simp only at h;rw [h];exact ⟨rfl, rfl⟩
 · rw [if_neg h4] at h;exact absurd h (by decide)
def ReP (a : Bs) (w : World) (e : Ending) (w' : World) : Prop := Below w.heap.size w w' ∧ ((∃ l v, z4w a = some l ∧ e = .returned (.tuple #[v, .nilIface]) ∧ NewE w.heap.size w' v l) ∨ (z4w a = none ∧ ∃ v ev, e = .returned (.tuple #[v, ev]) ∧ ErrIn w' ev 3))
theorem body_no {a : Bs} {n k : Nat} (h4 : a.take 4 = magicL) (hg : Dl.getL (a.drop 4) = some (n, k)) (h : z3d n ((a.drop 4).drop k) = none) : z4w a = none := by
 unfold z4w; rw [h4, if_neg (by simp), hg]; simp only; rw [h]
theorem body_end {a : Bs} {n k : Nat} {l : List Ent} {r : Bs} (h4 : a.take 4 = magicL) (hg : Dl.getL (a.drop 4) = some (n, k)) (h : z3d n ((a.drop 4).drop k) = some (l, r)) : z4w a = if r = [] ∧ rightL l = true then some l else none := by
 unfold z4w; rw [h4, if_neg (by simp), hg]; simp only; rw [h]
theorem rdr_new {w : World} {A : Option Addr} {N c : Nat} {a : Bs} (h : Dl.Rb w (.slice A N c) a) (hN : N = a.length) {w1 : World} (hw : w1 = w.alloc (.cells #[.slice A N c, .bool false] 161)) : Rdr w1 w.heap.size a false := by
 have hb : Below w.heap.size w w1 := by rw [hw]; exact below_new w _
 refine ⟨A, N, c, hN, by rw [hw]; exact heap_alloc_new w _, h.below hb zl, fun h0 g hg => ?_⟩;rcases h with ⟨_, rfl⟩ | ⟨g', o, c', e, hc, hg', hcell⟩
 · simp at hN; omega
 · cases e;cases hg;exact hg'
theorem row_butD {w w' : World} {base n k : Nat} {t : TypeId} {v : Value} {xs : List Value} {S : Nat → Prop} (h : w.ownsRow base t k v n xs) (hb : Dl.But S w w') (hn : ∀ g, v.ownBlock = some g → ¬ S g) : w'.ownsRow base t k v n xs := by
 obtain ⟨h1, h2⟩ := h;refine ⟨h1, ?_⟩;rcases h2 with h2 | ⟨g, cap, cur, rfl, hbg, hg, r⟩
 · exact .inl h2
 · exact .inr ⟨g, cap, cur, rfl, hbg, (hb.block g (lt_heap hg) (hn g rfl)).trans hg, r⟩
theorem Rdr.cells {w : World} {r : Nat} {s : Bs} {bad : Bool} (h : Rdr w r s bad) : ∃ A N c, N = s.length ∧ w.cell? ⟨r, 0, none⟩ = some (.slice A N c) ∧ w.cell? ⟨r, 1, none⟩ = some (.bool bad) := by
 obtain ⟨A, N, c, hN, hk, _⟩ := h;exact ⟨A, N, c, hN, (cell_of_row w r 0 _ _ _ hk).trans rfl, (cell_of_row w r 1 _ _ _ hk).trans rfl⟩
theorem z99 {w : World} {v : Value} {a : Bs} (h : Dl.Rb w v a) (hl : a.length ≤ 100000) : Calls Tryz.prog 57 #[v] w (ReP a w) := by
 obtain ⟨A, c, rfl, _⟩ := h.shape;obtain ⟨N, hN⟩ := zx a.length;rw [← hN] at h ⊢;obtain ⟨w1, hw1⟩ := zx (w.alloc (.cells #[.slice A N c, .bool false] 161));have b1 : Below w.heap.size w w1 := by rw [hw1]; exact below_new w _
 have r1 := rdr_new h hN hw1;obtain ⟨r, hr⟩ := zx w.heap.size;have HT := zh (zdk r1 4);have HW1 := zh hw1; have HB1 := zh b1; have Hrr := zh hr; have HL := zh hl;obtain ⟨hd, s1, g1, hp⟩ : ∃ hd s1 g1, z2q 4 a false = (hd, s1, g1) := ⟨_, _, _, rfl⟩
 rw [hp] at HT;simp only at HT;have HP := zh hp;unfold SV at HT;clear h hN hw1 b1 r1 hr hl hp
 go_enter Tryz.func57, Tryz.ntmps57
 go_upto_region 2 with fail
 rw [← HW1.out]
 go_wp2_with fail
 refine HT.out.mono ?_;rintro e w2 ⟨rfl, r2, t2⟩;have hs1 : s1.length ≤ 1000000 := by have h1 := zma 4 a false; rw [HP.out] at h1; simp only at h1; have := HL.out; omega
 have HNm := zh (num_F r2 hs1);obtain ⟨n, s2, g2, hq⟩ : ∃ n s2 g2, numF s1 g1 = (n, s2, g2) := ⟨_, _, _, rfl⟩
 rw [hq] at HNm;simp only at HNm;have HQ := zh hq;have HB2 : Hid (Below w.heap.size w w2) := zh (HB1.out.trans (t2.below (fun k _ h => by rw [h]; exact Nat.le_refl _) HB1.out.size));clear r2 t2 HT HB1 hs1 hq HW1
 go_wp2_with fail
 refine HNm.out.mono ?_;rintro e w3 ⟨rfl, r3, t3⟩;have HB3 : Hid (Below w.heap.size w w3) := zh (HB2.out.trans (t3.below (fun k _ h => by rw [h]; exact Nat.le_refl _) HB2.out.size));obtain ⟨A3, N3, c3, _, c30, c31⟩ := r3.cells;have R3 := zh r3;clear r3 t3 HB2 HNm;by_cases hm : hd = magicL
 · obtain ⟨e1, h4⟩ := zmd (a := a) (by rw [HP.out]; exact hm);rw [HP.out] at e1;simp only [Prod.mk.injEq] at e1;obtain ⟨-, e2, e3⟩ := e1;have m1 : (hd != [80, 65, 75, 83]) = false := by rw [hm]; rfl
   have m2 : (hd == [80, 65, 75, 83]) = true := by rw [hm]; rfl
   have hq := HQ.out;rw [e2, e3] at hq;unfold numF at hq;have H4 := zh h4;clear hm e2 e3 h4 HP HQ;cases hg : Dl.getL (a.drop 4) with
   | none =>
     rw [hg] at hq;simp only [Prod.mk.injEq] at hq;obtain ⟨rfl, rfl, rfl⟩ := hq;have HF : Hid (ReP a w (.returned (.tuple #[.slice none 0 0, .iface 26 (.int .i64 3)])) w3) := zh ⟨HB3.out, .inr ⟨by unfold z4w; rw [H4.out, if_neg (by simp), hg], _, _, rfl, .inl rfl⟩⟩;clear hg
     go_wp2_with fail
     go_ret2
     exact HF.out
   | some p =>
     obtain ⟨n', k'⟩ := p;rw [hg] at hq;simp only [Prod.mk.injEq] at hq;obtain ⟨rfl, rfl, rfl⟩ := hq;have HG := zh hg;obtain ⟨s2, hs2⟩ := zx ((a.drop 4).drop k');have hl2 : s2.length ≤ 100000 := by rw [hs2]; simp; have := HL.out; omega
     have hn : n' ≤ 1099511627776 := (Dl.getL_some hg).1;rw [← hs2] at R3;have HS2 := zh hs2; have Hl2 := zh hl2;clear hg hs2 hl2
     go_upto_region 8 with fail
     clear c30 c31 m1 m2;have HN0 : Hid (NewE (w.heap.size + 1) w3 (.slice none 0 0) []) := zh (OwK.nil _ _ _ _ _)
     go_loopw [7, 26] (fun z i wr => Hid (Below w.heap.size w wr) ∧ ∃ (k : Nat) (q : Bs) (pre : List Ent), k ≤ n' ∧ i = .int .i64 k ∧ Hid (Rdr wr w.heap.size q false) ∧ Hid (NewE (w.heap.size + 1) wr z pre) ∧ Hid (z3d n' s2 = (z3d (n' - k) q).map fun p => (pre ++ p.1, p.2)) ∧ Hid (pre.length + q.length ≤ s2.length ∧ pre.length = k)) (fun _ i _ => n' - (intOf i).toNat)
     case atStart => exact ⟨HB3, 0, s2, [], Nat.zero_le _, rfl, R3, HN0, zh (by cases z3d n' s2 <;> simp), zh (by simp)⟩
     case round =>
      obtain ⟨hB, k, q, pre, hk, rfl, hR, hO, hE, hL⟩ := hrel;by_cases hlt : k < n'
      · have hq := hL.out.1;have h2 := Hl2.out;have HEn := zh (zmc hR.out (by omega));have hpl : pre.length + 1 ≤ 1000000 := by omega
        have HPL := zh hpl
        have hstep : z3d (n' - k) q = match za3 q with | none => none | some (e, r) => (z3d (n' - (k + 1)) r).map fun p => (e :: p.1, p.2) := by
         rw [show n' - k = (n' - (k + 1)) + 1 by omega, z3d];rfl
        have HSt := zh hstep;clear hq h2 hpl hstep
        go_wp2_with fail
        refine HEn.out.mono ?_;intro e w4 hh;unfold EnP at hh;obtain ⟨he, r4, t4⟩ := hh;rw [he];clear he HEn;obtain ⟨x, hx⟩ := zx ((entF q).1);have hb4 : Below w.heap.size w w4 := hB.out.trans (t4.below (fun k _ h => by rw [h]; exact Nat.le_refl _) hB.out.size);have o4 : NewE (w.heap.size + 1) w4 _ _ := row_butD hO.out t4 (fun g hg => by have := (hO.out.lt g hg).1; omega);have hz4 : w.heap.size + 1 ≤ w4.heap.size := by have := r4.lt; omega
        rw [← hx];have HX := zh hx; have HB4 := zh hb4; have O4 := zh o4; have HZ4 := zh hz4;have R4 := zh r4;obtain ⟨xk, xb, xs, xd⟩ := x;unfold entV;clear hx hb4 o4 hz4 r4 t4 hB hR hO
        go_wp2_with (at_builtin; refine z0z entK rfl _ _ rfl (w.heap.size + 1) u7 pre ⟨xk, xb, xs, xd⟩ _ rfl rfl rfl O4.out ?c1 (by decide) ?c2 ?_)
        case c1 => exact HPL.out
        case c2 => exact HZ4.out
        intro z' w5 o5 b5;have R5 := zh (R4.out.but (Dl.But.of_below b5) (fun k hk => by omega));have HB5 := zh (HB4.out.trans (b5.mono (Nat.le_succ _)));have O5 := zh o5;obtain ⟨A5, N5, c5, -, c50, c51⟩ := R5.out.cells;clear o5 b5 R4 O4 HZ4 HB4;cases hre : za3 q with
        | some p =>
          obtain ⟨e, q'⟩ := p;have hf := zm8 hre;have hlq := zi4 hre;have hst := HSt.out;rw [hre] at hst;simp only at hst;rw [hf] at HX R5 c51;have hX := HX.out;simp only at hX R5 c51
          have hE2 : z3d n' s2 = (z3d (n' - (k + 1)) q').map fun p => ((pre ++ [e]) ++ p.1, p.2) := by
           rw [hE.out, hst];cases z3d (n' - (k + 1)) q' with
           | none => rfl
           | some p => simp
          have HE2 := zh hE2;have HL2 : Hid ((pre ++ [e]).length + q'.length ≤ s2.length ∧ (pre ++ [e]).length = k + 1) := zh (by have := hL.out; rw [List.length_append]; simp; omega);rw [hX] at O5;clear hre hf hlq hst hX HX hE2 HSt hE hL
          go_wp2_with fail
          go_roundw
          case rel => exact ⟨HB5, k + 1, q', pre ++ [e], hlt, by go_num, R5, O5, HE2, HL2⟩
          case measure => simp [intOf]; omega
        | none =>
          have hf := zm9 hre;have hst := HSt.out;rw [hre] at hst;simp only at hst;have hno : z3d n' s2 = none := by rw [hE.out, hst]; rfl
          rw [hf.2] at c51;have HF1 := zh (below_new w5 (.cells #[.int .i64 (k : Int), .iface 26 (.int .i64 3)] 109));have HF2 := zh (z52 w5 (k : Int) 3);have HNo : Hid (z4w a = none) := zh (body_no H4.out HG.out (by rw [← HS2.out]; exact hno));clear hre hf hst hno HSt hE hL HX
          go_wp2_with fail
          go_ret2
          exact ⟨HB5.out.trans (HF1.out.mono HB5.out.size), .inr ⟨HNo.out, _, _, rfl, .inr HF2.out⟩⟩
      · obtain rfl : k = n' := by omega
        have hE2 := hE.out;rw [Nat.sub_self] at hE2;simp only [z3d, Option.map_some, List.append_nil] at hE2;have hend := body_end H4.out HG.out (by rw [← HS2.out]; exact hE2);have hsm := small_of hE2 (by have := Hl2.out; omega);obtain ⟨A6, N6, c6, hN6, c60, c61⟩ := hR.out.cells;have HEnd := zh hend;cases q with
        | nil =>
          obtain rfl : N6 = 0 := hN6;have HC := zh (z54 hO.out.rd hsm 3)
          obtain ⟨Az, Nz, cz, rfl⟩ : ∃ A N c, u7 = .slice A N c := by
           obtain ⟨A, c, e⟩ := hO.out.rd.shape;exact ⟨_, _, _, e⟩
          clear hE2 hend hsm hE hL hlt hk
          go_wp2_with fail
          refine HC.out.mono ?_;rintro e w6 ⟨b6, ⟨hr6, rfl⟩ | ⟨hr6, ev, rfl, hf6⟩⟩
          · have hb6 := hB.out.trans (b6.mono hB.out.size);have HF : Hid (ReP a w (.returned (.tuple #[.slice Az Nz cz, .nilIface])) w6) := zh ⟨hb6, .inl ⟨pre, _, by rw [HEnd.out, hr6]; simp, rfl, OwK.mono (hO.out.below b6 zl) (Nat.le_succ _)⟩⟩;clear b6 hr6 hb6 HC
            go_wp2_with fail
            go_ret2
            exact HF.out
          · have hb6 := hB.out.trans (b6.mono hB.out.size);have HF : Hid (ReP a w (.returned (.tuple #[.slice Az Nz cz, ev])) w6) := zh ⟨hb6, .inr ⟨by rw [HEnd.out, if_neg (by rw [hr6]; simp)], _, _, rfl, .inr hf6⟩⟩;obtain ⟨a6, x6, rfl, -⟩ := hf6;clear b6 hr6 hb6 HC
            go_wp2_with fail
            go_ret2
            exact HF.out
        | cons y q =>
          have hpos : (0 : Int) < (N6 : Int) := by rw [hN6]; simp
          have HF1 := zh (below_new wr (.cells #[.int .i64 (k : Int), .iface 26 (.int .i64 3)] 109));have HF2 := zh (z52 wr (k : Int) 3);have HNo : Hid (z4w a = none) := zh (by rw [HEnd.out, if_neg (by simp)]);clear hE2 hend hsm hN6 hE hL hlt hk HEnd
          go_wp2_with fail
          go_ret2
          exact ⟨hB.out.trans (HF1.out.mono hB.out.size), .inr ⟨HNo.out, _, _, rfl, .inr HF2.out⟩⟩
 · have m1 : (hd != [80, 65, 75, 83]) = true := by
    have : ¬ hd = [80, 65, 75, 83] := hm;simpa using this
   have m2 : (hd == [80, 65, 75, 83]) = false := by
    have : ¬ hd = [80, 65, 75, 83] := hm;simpa using this
   have HF : Hid (ReP a w (.returned (.tuple #[.slice none 0 0, .iface 26 (.int .i64 3)])) w3) := zh ⟨HB3.out, .inr ⟨magic_no (by rw [HP.out]; exact hm), _, _, rfl, .inl rfl⟩⟩;clear hm
   go_wp2_with fail
   go_ret2
   exact HF.out
end Go.Proofs.YtgjddkeogboojaaGreatDoor.Pk
namespace Go.Proofs.YtgjddkeogboojaaGreatDoor.Pk
open Go.Proofs.YtgjddkeogboojaaGreatDoor
open Go Go.RowKit Go.Extern
theorem ziq (W : World) (g o : Nat) (t : Bs) (ht : t.length = 32) (hc : ∀ j, j < 32 → W.cell? ⟨g, o + j, none⟩ = some (.int .u8 ((t.getD j 0).toNat : Int))) :
 (Instr.loadAt 68 (.pointer (some ⟨g, o, none⟩))).run Tryz.prog W = .ok (.agg (t.map Stop.cell).toArray) W := by
 have hl : (loadCells ⟨g, o, none⟩ (t.map Stop.cell).length).run Tryz.prog W = .ok (t.map Stop.cell).toArray W :=
  run_loadCells_list (P := Tryz.prog) W ⟨g, o, none⟩ (t.map Stop.cell) (fun j v hv => by
   rw [List.getElem?_map] at hv;by_cases hj : j < t.length
   · rw [zj hj] at hv;rw [Dl.add_none, hc j (by omega), zg, zj hj];exact hv
   · rw [List.getElem?_eq_none (by omega)] at hv; cases hv)
 rw [List.length_map, ht] at hl;have hs : (sizeOf 68).run Tryz.prog W = .ok 32 W := by kernel_rfl
 have ha : (isAgg 68).run Tryz.prog W = .ok true W := by kernel_rfl
 simp only [Instr.loadAt, Instr.sureAddr, Sem.run_bind, Sem.run_pure, Result.andThen, loadVar, ha, if_true, hs, hl]
theorem neq_sums (W : World) (a b : Bs) (ha : a.length = 32) (hb : b.length = 32) : (binOp .neq 68 (.agg (a.map Stop.cell).toArray) (.agg (b.map Stop.cell).toArray)).run Tryz.prog W = .ok (.bool (!(a == b))) W := by
 have h := run_equalIn_bytes (P := Tryz.prog) W 9998 68 5 32 Tryz.underlying68 Tryz.underlying5 (fun _ => by kernel_rfl) a b ha hb;simp only [binOp, Op.equal, Op.maxDepth, Sem.run_bind, h, Result.andThen, Sem.run_pure]
theorem y_s2a {P : Program} {a : Go.Act} {o : Oper} {W : World} {t : TypeId} {x : Operand} {xv r : Value} (ho : o.op = .sliceToArrayPointer t x) (hx : a.eval x = xv) (h : (Instr.arrayAt t xv).run P W = .ok r W) : (execOp a.eval o).run P W = .ok (.value r) W := by
 subst hx;simp only [execOp, ho];simp [h, Result.andThen]
theorem zme {P : Program} {a : Go.Act} {o : Oper} {W : World} {x : Operand} {xv : Value} (ho : o.op = .move x) (hx : a.eval x = xv) : (execOp a.eval o).run P W = .ok (.value xv) W := by
 subst hx;simp only [execOp, ho];simp
def GtP (b : Bs) (w : World) (e : Ending) (w' : World) : Prop := Below w.heap.size w w' ∧ ((∃ l v, getP b = some l ∧ e = .returned (.tuple #[v, .nilIface]) ∧ NewE w.heap.size w' v l) ∨ (getP b = none ∧ ∃ ev, e = .returned (.tuple #[.slice none 0 0, ev]) ∧ ErrIn w' ev 3))
theorem zmf {b : Bs} {m : Nat} (hm : b.length = m + 32) (hl : b.length ≤ 262144) : getP b = match z4w (b.take m) with | none => none | some l => if sumL (b.take m) = b.drop m then some l else none := by
 unfold getP;rw [if_neg (by omega), show b.length - 32 = m by omega];rfl
theorem read_any {w : World} {v : Value} {b : Bs} (h : Dl.Rb w v b) (hl : b.length ≤ 40000) (hp : Pr w) : Calls Tryz.prog 34 #[v] w (GtP b w) := by
 obtain ⟨A, c, rfl, hc⟩ := h.shape;have q1 := neqF;have q2 : ∀ (v : Value) (W : World), (binOp .neq 64 (.iface 26 v) .nilIface).run Tryz.prog W = .ok (.bool true) W := fun v W => by go_simp
 by_cases hs : b.length < 32
 · have hsI : (b.length : Int) < 32 := by omega
   have HF : Hid (GtP b w (.returned (.tuple #[.slice none 0 0, .iface 26 (.int .i64 3)])) w) := zh ⟨Below.refl _ _, .inr ⟨by unfold getP; rw [if_pos (.inl hs)], _, rfl, .inl rfl⟩⟩;clear h hl hc hs hp q1 q2
   go_enter Tryz.func34, Tryz.ntmps34
   go_wp2
   go_ret2
   exact HF.out
 · obtain ⟨m, hm⟩ : ∃ m, b.length = m + 32 := ⟨b.length - 32, by omega⟩
   have hG := zmf hm (by omega);have hml : m ≤ 39968 := by omega
   have ht32 : (b.drop m).length = 32 := by rw [List.length_drop]; omega
   have hr1 := zm6 h rfl (show m ≤ b.length by omega)
   obtain ⟨g, o, c1, hs1, hcell, hgl⟩ : ∃ g o c1, (∀ W, (Instr.sliceAt 23 (.slice A (m + 32) c) (some (.int .i64 (m : Int))) none none).run Tryz.prog W = .ok (.slice (some ⟨g, o, none⟩) 32 c1) W) ∧ (∀ j, j < 32 → w.cell? ⟨g, o + j, none⟩ = some (.int .u8 (((b.drop m).getD j 0).toNat : Int))) ∧ g < w.heap.size := by
    have h1 := h.from' m (by omega);have h2 := fun W => Dl.run_cut1 W A (m + 32) c m (by omega);rw [hm] at h1;rcases h1 with ⟨_, e⟩ | ⟨g, o, c', e, _, hg, hcell⟩
    · rw [e] at ht32; cases ht32
    · rw [show m + 32 - m = 32 by omega] at e h2;injection e with e1 e2 e3
      exact ⟨g, o, _, fun W => by rw [h2, e1], fun j hj => hcell j (by rw [ht32]; exact hj), hg⟩
   have hs0 := fun W => zh1 W A (m + 32) c m (by omega);rw [hm];have HRe := zh (fun W (hW : Below w.heap.size w W) => z99 (a := b.take m) (hr1.below hW zl) (by rw [List.length_take]; omega));have hsum := fun (W : World) (hW : Below w.heap.size w W) => zfi W (.slice A m c) (b.take m) (hp.below hW hp.lt) (by rw [List.length_take]; omega) (hr1.below hW zl);have HSum := zh hsum;have HG := zh hG; have HCl := zh hcell; have H32 := zh ht32; have HGl := zh hgl;clear hr1 hsum hG hcell ht32 h hc hs hp hl;have n1 : ¬ (m : Int) + 32 < 32 := by omega
   obtain ⟨mx, hmx, hmx2⟩ := zh0;have n2 : (m : Int) + 32 ≤ mx := by omega
   clear hmx2
   go_enter Tryz.func34, Tryz.ntmps34
   go_upto_region 1 with fail
   rw [← hmx];clear hmx
   go_upto_region 3 with fail
   go_big_region
   clear hs0 hs1
   go_wp2_with fail
   refine (HRe.out _ (Below.refl _ _).drew).mono ?_;rintro e w1 ⟨b1, ⟨l, v, hbg, rfl, hv⟩ | ⟨hbg, v, ev, rfl, he⟩⟩
   · have hB1 : Below w.heap.size w w1 := ⟨b1.os, b1.tape, b1.output, b1.size, b1.block⟩
     have HB1 := zh hB1; have HV := zh hv; have HBg := zh hbg;obtain ⟨Av, cv, hvv⟩ := hv.rd.shape;clear b1 hv hbg hB1 HRe
     go_upto_region 7 with fail
     refine AnyB.start (by kernel_rfl) ?_;refine AnyB.take 0 (.slice A m c) rfl (by kernel_rfl) (by kernel_rfl) (by kernel_rfl) (fun _ _ _ h => h) (by kernel_rfl) (fun W hW => zme rfl (by kernel_rfl)) ?_;refine AnyB.take 2 (.slice (some ⟨g, o, none⟩) 32 c1) rfl (by kernel_rfl) (by kernel_rfl) (by kernel_rfl) (fun _ _ _ h => h) (by kernel_rfl) (fun W hW => zme rfl (by kernel_rfl)) ?_;refine AnyB.take 3 (.pointer (some ⟨g, o, none⟩)) rfl (by kernel_rfl) (by kernel_rfl) (by kernel_rfl) (fun _ _ _ h => h) (by kernel_rfl) (fun W hW => y_s2a (xv := .slice (some ⟨g, o, none⟩) 32 c1) rfl (by kernel_rfl) (run_arrayAt W _ 5 32 _ 32 c1 Tryz.underlying68 zl)) ?_
     refine AnyB.take 4 (.agg ((b.drop m).map Stop.cell).toArray) rfl (by kernel_rfl) (by kernel_rfl) (by kernel_rfl) (fun _ _ _ h => h) (by kernel_rfl) (fun W hW => z0f (sv := .pointer (some ⟨g, o, none⟩)) rfl (by kernel_rfl) (ziq W g o _ H32.out (fun j hj => by
      have := HB1.out.size;rw [hW.cell (p := ⟨g, o + j, none⟩) (show g < _ by have := HGl.out; simp; omega)];exact (HB1.out.cell (p := ⟨g, o + j, none⟩) HGl.out).trans (HCl.out j hj)))) ?_
     refine AnyB.call 1 54 #[.slice A m c] (by kernel_rfl) rfl (by kernel_rfl) (by kernel_rfl) ?_;refine (HSum.out _ (HB1.out.drew)).mono ?_;intro e w2 hh;refine ⟨.agg ((sumL (b.take m)).map Stop.cell).toArray, by rw [hh.1, zfj]; rfl, hh.2, ?_⟩;have hB2 : Below w.heap.size w w2 := HB1.out.trans (Below.mono ⟨hh.2.os, hh.2.tape, hh.2.output, hh.2.size, hh.2.block⟩ HB1.out.size);have hV2 : NewE w.heap.size w2 v l := OwK.below HV.out (b := w1.heap.size) ⟨hh.2.os, hh.2.tape, hh.2.output, hh.2.size, hh.2.block⟩ zl;have HB2 := zh hB2; have HV2 := zh hV2;clear hh hB2 hV2;refine AnyB.take 5 (.bool (!(sumL (b.take m) == b.drop m))) rfl (by kernel_rfl) (by kernel_rfl) (by kernel_rfl) (fun _ _ _ h => h) (by kernel_rfl) (fun W hW => y_bin (x := .agg ((sumL (b.take m)).map Stop.cell).toArray) (y := .agg ((b.drop m).map Stop.cell).toArray) rfl (by kernel_rfl) (by kernel_rfl) (by kernel_rfl) (neq_sums W _ _ (z11 _) H32.out)) ?_;refine AnyB.done _ (by kernel_rfl) ?_;subst hvv;have hg := HG.out;rw [HBg.out] at hg;simp only at hg;by_cases he : sumL (b.take m) = b.drop m
     · rw [if_pos he] at hg;have HF : Hid (GtP b w (.returned (.tuple #[.slice Av l.length cv, .nilIface])) w2) := zh ⟨HB2.out, .inl ⟨l, _, hg, rfl, HV2.out⟩⟩;have hbq : (!(sumL (b.take m) == b.drop m)) = false := by rw [he]; simp
       rw [hbq];clear hg he hbq;go_simp
       go_wp2_with fail
       go_ret2
       exact HF.out
     · rw [if_neg he] at hg;have HF : Hid (GtP b w (.returned (.tuple #[.slice none 0 0, .iface 26 (.int .i64 3)])) w2) := zh ⟨HB2.out, .inr ⟨hg, _, rfl, .inl rfl⟩⟩;have hbq : (!(sumL (b.take m) == b.drop m)) = true := by simpa using he
       rw [hbq];clear hg he hbq;go_simp
       go_wp2_with fail
       go_ret2
       exact HF.out
   · have hB1 : Below w.heap.size w w1 := ⟨b1.os, b1.tape, b1.output, b1.size, b1.block⟩
     have hg := HG.out;rw [hbg] at hg;have HF : Hid (GtP b w (.returned (.tuple #[.slice none 0 0, ev])) w1) := zh ⟨hB1, .inr ⟨hg, _, rfl, he⟩⟩;rcases he with rfl | ⟨a5, x5, rfl, -⟩
     all_goals
      clear b1 hbg hB1 hg HRe HSum
      go_wp2_with fail
      go_ret2
      exact HF.out
def GetPk (b : Bs) (w : World) (e : Ending) (w' : World) : Prop := Below w.heap.size w w' ∧ ((∃ l v, getP b = some l ∧ e = .returned (.tuple #[v, .int .i64 0]) ∧ NewE w.heap.size w' v l) ∨ (getP b = none ∧ e = .returned (.tuple #[.slice none 0 0, .int .i64 3])))
theorem Get_any {w : World} {v : Value} {b : Bs} (h : Dl.Rb w v b) (hl : b.length ≤ 40000) (hp : Pr w) (het : Et w) : Calls Tryz.prog 14 #[v] w (GetPk b w) := by
 have HR := zh (read_any h hl hp);obtain ⟨A, c, rfl, -⟩ := h.shape;have HE := zh het;clear h hl hp het
 go_enter Tryz.func14, Tryz.ntmps14
 go_wp2_with fail
 refine HR.out.mono ?_;rintro e w1 ⟨b1, ⟨l, v, hg, rfl, hv⟩ | ⟨hg, ev, rfl, he⟩⟩
 · have HT := zh (zkj v w1);have HB := zh b1; have HV := zh (And.intro hg hv);obtain ⟨Av, cv, rfl⟩ := hv.rd.shape;clear b1 hg hv
   go_wp2_with fail
   refine HT.out.mono ?_;rintro e w2 ⟨rfl, b2⟩;have HF : Hid (GetPk b w (.returned (.tuple #[.slice Av l.length cv, .int .i64 0])) w2) := zh ⟨HB.out.trans (b2.mono HB.out.size), .inl ⟨l, _, HV.out.1, rfl, HV.out.2.below b2 zl⟩⟩;clear b2
   go_wp2_with fail
   go_ret2
   exact HF.out
 · have HT := zh (zkk (s := .slice none 0 0) w1 he (z6n HE.out b1));have HB := zh b1; have Hg := zh hg;obtain ⟨t, v, rfl⟩ := he.shape;clear b1 hg he
   go_wp2_with fail
   refine HT.out.mono ?_;rintro e w2 ⟨rfl, b2⟩;have HF : Hid (GetPk b w (.returned (.tuple #[.slice none 0 0, .int .i64 3])) w2) := zh ⟨HB.out.trans (b2.mono HB.out.size), .inr ⟨Hg.out, rfl⟩⟩;clear b2
   go_wp2_with fail
   go_ret2
   exact HF.out
end Go.Proofs.YtgjddkeogboojaaGreatDoor.Pk
namespace Go.Proofs.YtgjddkeogboojaaGreatDoor.Dl
open Go Go.RowKit Go.Shelf
attribute [local go_sem] Oper.semAt_some
theorem Rb.but {w w' : World} {v : Value} {l : Bs} {S : Nat → Prop} (h : Rb w v l) (hb : But S w w') (hn : ∀ g, v.ownBlock = some g → ¬ S g) : Rb w' v l := by
 rcases h with h | ⟨g, o, c, rfl, hc, hg, hcell⟩
 · exact .inl h
 · exact .inr ⟨g, o, c, rfl, hc, Nat.lt_of_lt_of_le hg hb.size, fun j hj => by rw [hb.cell (p := ⟨g, o + j, none⟩) hg (hn g rfl)]; exact hcell j hj⟩
theorem Rb.own_lt {w : World} {v : Value} {l : Bs} (h : Rb w v l) (hl : l ≠ []) : ∀ g, v.ownBlock = some g → g < w.heap.size := by
 intro g hg;rcases h with ⟨_, h⟩ | ⟨g', o, c, rfl, _, h, _⟩
 · exact absurd h hl
 · cases hg; exact h
def PStep (base : Bs) (s : Option Bs) (vs : Array Value) (s' : Option Bs) (W : World) : Prop :=
 ∃ b, s = some b ∧ ((∃ p r, z2n base b = some (p, r) ∧ vs = #[.string ⟨p.toArray⟩, .nilIface] ∧ s' = some r) ∨ (∃ ev, z2n base b = none ∧ b ≠ [] ∧ vs = #[.string ⟨#[]⟩, ev] ∧ FaultIn W ev 3 ∧ s' = none))
def PEnd (s : Option Bs) : Prop := s = some [] ∨ s = none
theorem zdl (base : Bs) (A : Option Addr) (n c : Nat) (w : World) :
 Calls Tryz.prog 151 #[.string ⟨base.toArray⟩, .slice A n c] w fun e w' => e = .returned (.func (.func 165) #[] #[.pointer (some ⟨w.heap.size + 1, 0, none⟩), .pointer (some ⟨w.heap.size, 0, none⟩)]) ∧
  (w.alloc (.cells #[.string ⟨base.toArray⟩] 9)).alloc (.cells #[.slice A n c] 23) = w' := by
 go_enter Tryz.func151, Tryz.ntmps151
 go_wp2
 go_ret
 exact ⟨rfl, rfl⟩
def lenV : Value → Nat | .slice _ n _ => n | _ => 0
theorem zau {base b0 : Bs} {w : World} {C0 : Nat → Prop} {bb sb N0 c0 : Nat} {A0 : Option Addr} (hb : base.length ≤ 100000000) (hl : b0.length ≤ 100000000) (hbb : w.cell? ⟨bb, 0, none⟩ = some (.string ⟨base.toArray⟩)) (hsb : w.cell? ⟨sb, 0, none⟩ = some (.slice A0 N0 c0))
 (hr : Rb w (.slice A0 N0 c0) b0) (hN : N0 = b0.length) (lb : bb < w.heap.size) (nb : ¬ C0 bb) (hG : b0 ≠ [] → ∀ g, (Value.slice A0 N0 c0).ownBlock = some g → g < w.heap.size ∧ ¬ C0 g) :
 Iter (PStep base) PEnd (some b0) 165 #[.pointer (some ⟨sb, 0, none⟩), .pointer (some ⟨bb, 0, none⟩)] w C0 := by
 intro l W C1 J Jx hrd hbW hC1 hJ;show Calls Tryz.prog 165 #[.func (.yield l) #[] #[], .pointer (some ⟨sb, 0, none⟩), .pointer (some ⟨bb, 0, none⟩)] W _;have c1 : W.cell? ⟨bb, 0, none⟩ = some (.string ⟨base.toArray⟩) := cell_to hbb hbW;have c2 : W.cell? ⟨sb, 0, none⟩ = some (.slice A0 N0 c0) := cell_to hsb hbW;have lbW : bb < W.heap.size := by have := hbW.size; omega
 have nb1 : ¬ C1 bb := fun h => (hC1 _ h).elim nb (fun h => by omega);have hG1 : b0 ≠ [] → ∀ g, (Value.slice A0 N0 c0).ownBlock = some g → g < W.heap.size ∧ ¬ C1 g := fun h0 g hg => ⟨by have := (hG h0 g hg).1; have := hbW.size; omega, fun h => (hC1 _ h).elim (hG h0 g hg).2 (fun h => by have := (hG h0 g hg).1; omega)⟩
 have hr1 : Rb W (.slice A0 N0 c0) b0 := hr.below hbW zl;have HRd := zh hrd; have HL := zh (And.intro lbW nb1); have HC := zh c1; have HG := zh hG1; have HBt := zh hb; have HLl := zh hl; have HJ := zh hJ;have H0 : Hid (J (some b0) C1 W ∧ Rb W (.slice A0 N0 c0) b0 ∧ OwnB (.slice A0 N0 c0) (.slice A0 N0 c0) ∧ (∀ k, C1 k → C1 k ∨ W.heap.size ≤ k) ∧ But (fun k => C1 k ∨ W.heap.size ≤ k) W W ∧ b0.length ≤ b0.length) := zh ⟨hJ, hr1, fun g h => h, fun _ h => .inl h, But.refl _ _, Nat.le_refl _⟩;have HN := zh hN;clear hrd hJ lbW nb1 hG1 hbW hC1 hbb hsb lb nb hG hr hr1 c1 hb hl hN
 go_enter Tryz.func165, Tryz.ntmps165
 go_wp2
 clear c2
 go_loopw [4, 5, 6, 7] (fun v4 _ _ _ wr => ∃ (A : Option Addr) (N c : Nat), v4 = .slice A N c ∧ ((N = 0 ∧ ∃ s C, Hid (PEnd s ∧ J s C wr)) ∨ (∃ (b : Bs) (C : Nat → Prop), Hid (N = b.length) ∧ Hid (J (some b) C wr ∧ Rb wr (.slice A N c) b ∧ OwnB (.slice A N c) (.slice A0 N0 c0) ∧ (∀ k, C k → C1 k ∨ W.heap.size ≤ k) ∧ But (fun k => C1 k ∨ W.heap.size ≤ k) W wr ∧ b.length ≤ b0.length)))) (fun v4 _ _ _ _ => lenV v4)
 case atStart => exact ⟨A0, N0, c0, rfl, .inr ⟨b0, C1, HN, H0⟩⟩
 case round =>
  clear H0;obtain ⟨A, N, c, rfl, ⟨rfl, s, C, HE⟩ | ⟨b, C, HNb, HI⟩⟩ := hrel
  · go_wp2_with fail
    go_end0
    exact ⟨⟨_, rfl⟩, .inl ⟨s, C, HE.out⟩⟩
  · obtain ⟨hj, hrb, how, hcn, hbw, hle⟩ := HI.out;by_cases hb0 : b = []
    · have HE : Hid (PEnd (some b) ∧ J (some b) C wr) := zh ⟨.inl (by rw [hb0]), hj⟩;obtain rfl : N = 0 := by rw [HNb.out, hb0]; rfl
      clear hj hrb how hcn hbw hle hb0
      go_wp2_with fail
      go_end0
      exact ⟨⟨_, rfl⟩, .inl ⟨_, C, HE.out⟩⟩
    · have hN0 : 0 < N := by rw [HNb.out]; exact List.length_pos_iff.2 hb0
      have c1 : wr.cell? ⟨bb, 0, none⟩ = some (.string ⟨base.toArray⟩) := (hbw.cell (p := ⟨bb, 0, none⟩) HL.out.1 (fun h => h.elim HL.out.2 (fun (h : W.heap.size ≤ bb) => by have := HL.out.1; omega))).trans HC.out;have HX := zh (next_any (base := base) hrb hb0 (by have := HLl.out; omega) HBt.out);have Hb0 := zh hb0;clear hj hrb how hcn hbw hle hb0
      go_wp2_with fail
      refine HX.out.mono ?_;clear HX c1;rintro e w2 ⟨b2, ⟨hst, ev, rfl, hf⟩ | ⟨p, r, A2, N2, c2, hst, hN2, rfl, hr2, ho2⟩⟩
      · obtain ⟨hj, hrb, how, hcn, hbw, hle⟩ := HI.out;have hj2 : J (some b) C w2 := HRd.out.st _ _ _ _ hj (But.of_new b2);have hyd := HRd.out.rd (some b) C #[.string ⟨#[]⟩, ev] none w2 hj2 ⟨b, rfl, .inr ⟨ev, hst, Hb0.out, rfl, hf, rfl⟩⟩;obtain ⟨fn, tmps, assign, body, hy, hR⟩ := hyd;have HHy := zh hy; have HHR := zh hR;clear hj hrb how hcn hbw hle hj2 hy hR b2 hst hf
        go_upto_region 3 with fail
        have hy := HHy.out;refine (wpIn_wide (n := 6)).1 ?_
        gi_wp2
        refine HHR.out.mono ?_;clear hy;rintro e W3 (⟨rfl, C', hJ3, hb3, hC3⟩ | ⟨rfl, hx3⟩)
        · have HE : Hid (PEnd none ∧ J none C' W3) := zh ⟨.inr rfl, hJ3⟩;clear hJ3 hb3 hC3
          gi_wp2
          go_wp2_with fail
          go_roundw
          case rel => exact ⟨none, 0, 0, rfl, .inl ⟨rfl, none, C', HE⟩⟩
          case measure => show 0 < N; exact hN0
        · gi_wp2
          go_wp2_with fail
          refine bodyPost_ret (results_none rfl _ _ _) rfl ?_;exact ⟨⟨_, rfl⟩, .inr hx3⟩
      · obtain ⟨hj, hrb, how, hcn, hbw, hle⟩ := HI.out;have hlt := z71 hst;have hj2 : J (some b) C w2 := HRd.out.st _ _ _ _ hj (But.of_new b2);have hyd := HRd.out.rd (some b) C #[.string ⟨p.toArray⟩, .nilIface] (some r) w2 hj2 ⟨b, rfl, .inl ⟨p, r, hst, rfl, rfl⟩⟩;obtain ⟨fn, tmps, assign, body, hy, hR⟩ := hyd;have HHy := zh hy; have HHR := zh hR; have HB2 := zh b2; have HR2 := zh (And.intro hr2 ho2); have HN2 := zh hN2;have hNlt : N2 < N := by rw [hN2, HNb.out]; exact hlt
        have Hlt := zh hlt;clear hj hrb how hcn hbw hle hj2 hy hR b2 hst hr2 ho2 hN2 hlt
        go_upto_region 3 with fail
        have hy := HHy.out;refine (wpIn_wide (n := 6)).1 ?_
        gi_wp2
        refine HHR.out.mono ?_;clear hy;rintro e W3 (⟨rfl, C', hJ3, hb3, hC3⟩ | ⟨rfl, hx3⟩)
        · have HI3 : Hid (J (some r) C' W3 ∧ Rb W3 (.slice A2 N2 c2) r ∧ OwnB (.slice A2 N2 c2) (.slice A0 N0 c0) ∧ (∀ k, C' k → C1 k ∨ W.heap.size ≤ k) ∧ But (fun k => C1 k ∨ W.heap.size ≤ k) W W3 ∧ r.length ≤ b0.length) := zh (by
           obtain ⟨hj, hrb, how, hcn, hbw, hle⟩ := HI.out;have ho3 := HR2.out.2.trans how;have hw2 : But (fun k => C1 k ∨ W.heap.size ≤ k) W w2 := hbw.trans (But.of_new HB2.out);refine ⟨hJ3, HR2.out.1.but hb3 (fun g hg hc => ?_), ho3, fun i hi => (hC3 i hi).elim (hcn i) (fun h => .inr (by have := hw2.size; omega)), hw2.trans (hb3.mono fun i _ hi => hcn i hi), by have := Hlt.out; omega⟩;have h1 := HG.out (fun h => by rw [h] at hle; exact Hb0.out (List.length_eq_zero_iff.1 (by simpa using hle))) g (ho3 g hg);exact (hcn g hc).elim h1.2 (fun h => by have := h1.1; omega))
          clear hJ3 hb3 hC3 HI
          gi_wp2
          go_wp2_with fail
          go_roundw
          case rel => exact ⟨A2, N2, c2, rfl, .inr ⟨r, C', HN2, HI3⟩⟩
          case measure => show N2 < N; exact hNlt
        · gi_wp2
          go_wp2_with fail
          refine bodyPost_ret (results_none rfl _ _ _) rfl ?_;exact ⟨⟨_, rfl⟩, .inr hx3⟩
def headL (base d : Bs) : Option (Nat × Bs) :=
 match getL d with
 | none => none
 | some (n, k) =>
   if n ≠ base.length then none else
   match getL (d.drop k) with
   | none => none
   | some (len, j) => some (len, (d.drop k).drop j)
theorem zdm (base d : Bs) : applyL base d = match headL base d with
 | none => none
 | some (len, r) => match z1j base r with
   | none => none
   | some t => if t.length = len then some t else none := by
 unfold applyL headL;cases getL d with
 | none => rfl
 | some x =>
   obtain ⟨n, k⟩ := x;simp only;split
   · rfl
   · cases getL (d.drop k) with
     | none => rfl
     | some y => rfl
def zmg (v : Value) (o : Option (Nat × Bs)) (w : World) (e : Ending) (w' : World) : Prop := Below w.heap.size w w' ∧ ((o = none ∧ ∃ ev, e = .returned (.tuple #[.int .i64 0, .slice none 0 0, ev]) ∧ FaultIn w' ev 3) ∨
 (∃ n r A N c, o = some (n, r) ∧ N = r.length ∧ e = .returned (.tuple #[.int .i64 (n : Int), .slice A N c, .nilIface]) ∧ Rb w' (.slice A N c) r ∧ OwnB (.slice A N c) v))
theorem zmh {w : World} {v : Value} {base b : Bs} (h : Rb w v b) (hl : b.length ≤ 100000000) : Calls Tryz.prog 148 #[.string ⟨base.toArray⟩, v] w (zmg v (headL base b) w) := by
 have H1 := zh (number_any h hl);have q1 := neqFN;have HL := zh hl
 go_enter Tryz.func148, Tryz.ntmps148
 go_wp2_with fail
 refine H1.out.mono ?_;clear H1 h hl;rintro e w1 ⟨b1, ⟨hn, ev, rfl, hf⟩ | ⟨f, k, A, N, c, hn, hN, rfl, hr, ho⟩⟩
 · have hf' := hf;obtain ⟨a, x, rfl, -⟩ := hf';have HF : Hid (zmg v (headL base b) w (.returned (.tuple #[.int .i64 0, .slice none 0 0, .iface 271 (.pointer (some ⟨a, 0, none⟩))])) w1) := zh ⟨b1, .inl ⟨by unfold headL; rw [hn], _, rfl, hf⟩⟩;clear b1 hn hf
   go_wp2
   go_ret3
   exact HF.out
 · have hfle := (getL_some hn).1;have HB1 := zh b1; have HO := zh ho;by_cases hlen : f = base.length
   · have H2 := zh (number_any hr (by rw [List.length_drop]; have := HL.out; omega));have hE : Hid (headL base b = match getL (b.drop k) with | none => none | some (len, j) => some (len, (b.drop k).drop j)) := zh (by unfold headL; rw [hn]; simp only; rw [if_neg (fun h => h hlen)]);have b2 : ((f : Int) != (base.length : Int)) = false := by simp only [bne_eq_false_iff_eq]; omega
     clear b1 hn hN hr ho hlen
     go_wp2_with fail
     refine H2.out.mono ?_;clear H2;rintro e w2 ⟨b3, ⟨hn2, ev, rfl, hf⟩ | ⟨n, j, A2, N2, c2, hn2, hN2, rfl, hr2, ho2⟩⟩
     · have HF : Hid (zmg v (headL base b) w (.returned (.tuple #[.int .i64 0, .slice none 0 0, ev])) w2) := zh ⟨HB1.out.trans (b3.mono HB1.out.size), .inl ⟨by rw [hE.out, hn2], _, rfl, hf⟩⟩;clear b3 hn2 hf
       go_wp2
       go_ret3
       exact HF.out
     · have HF : Hid (zmg v (headL base b) w (.returned (.tuple #[.int .i64 (n : Int), .slice A2 N2 c2, .nilIface])) w2) := zh ⟨HB1.out.trans (b3.mono HB1.out.size), .inr ⟨_, _, A2, N2, c2, by rw [hE.out, hn2], hN2, rfl, hr2, ho2.trans HO.out⟩⟩;clear b3 hn2 hN2 hr2 ho2
       go_wp2
       go_ret3
       exact HF.out
   · have HW := zh (z58 [98, 97, 115, 101] w1);have hE : Hid (headL base b = none) := zh (by unfold headL; rw [hn]; simp only; rw [if_pos hlen]);have b2 : ((f : Int) != (base.length : Int)) = true := by simp only [bne_iff_ne, ne_eq]; omega
     clear b1 hn hN hr ho hlen
     go_wp2_with fail
     refine HW.out.mono ?_;rintro e w3 ⟨ev, rfl, hf, hb3⟩;have HF : Hid (zmg v (headL base b) w (.returned (.tuple #[.int .i64 0, .slice none 0 0, ev])) w3) := zh ⟨HB1.out.trans (hb3.mono HB1.out.size), .inl ⟨hE.out, _, rfl, hf⟩⟩;clear hf hb3
     go_wp2
     go_ret3
     exact HF.out
end Go.Proofs.YtgjddkeogboojaaGreatDoor.Dl
