/-
  The document's root: Put.
-/
import Derived.Test.YtnboagmibhllpaaGreatDoorC20
import Derived.Test.YtnboagmibhllpaaGreatDoorRDocR
import Derived.Test.YtnboagmibhllpaaGreatDoorZRText
import Derived.Test.YtnboagmibhllpaaGreatDoorODocA
import Derived.Test.YtnboagmibhllpaaGreatDoorODocB
import Derived.Test.YtnboagmibhllpaaGreatDoorODocC
import Derived.Test.YtnboagmibhllpaaGreatDoorODocR
namespace Go.Proofs.YtnboagmibhllpaaGreatDoor.Ro
open Go.Proofs.YtnboagmibhllpaaGreatDoor
open Go.Proofs.YtnboagmibhllpaaGreatDoor.Rf (BoolB Ref RefsR nameB)
open Go.Proofs.YtnboagmibhllpaaGreatDoor.Rf (nameB rightB linesL)
open Go Go.RowKit

theorem conv_bytesR (W : World) (l : Bs) : ∃ A c W', (convert 9 26 (.string ⟨l.toArray⟩)).run Tryz.prog W = .ok (.slice A l.length c) W' ∧ Rb W' (.slice A l.length c) l ∧ Below W.heap.size W W' := by
  have hge := grownCap_ge W (⟨l.toArray⟩ : ByteArray).size 0 5
  have hsz : (⟨l.toArray⟩ : ByteArray).size = l.length := rfl
  refine ⟨_, _, _, run_bytes_of_string W _ _ 5 _ Tryz.underlying9 Tryz.underlying26 Tryz.underlying5, ?_, ?_⟩
  · refine .inr ⟨W.heap.size, 0, _, rfl, by rw [← hsz]; exact hge, by simp, fun j hj => ?_⟩
    rw [Nat.zero_add]
    have h1 := bytesRow_at ⟨l.toArray⟩ (grownCap W (⟨l.toArray⟩ : ByteArray).size 0 5) j (by simpa using hj)
    have h2 := cell_of_row (W.drew.alloc (.cells (bytesRow ⟨l.toArray⟩ (grownCap W (⟨l.toArray⟩ : ByteArray).size 0 5)) 5 ((bytesRow ⟨l.toArray⟩ (grownCap W (⟨l.toArray⟩ : ByteArray).size 0 5)).size, (bytesRow ⟨l.toArray⟩ (grownCap W (⟨l.toArray⟩ : ByteArray).size 0 5)).size + 1))) W.heap.size j _ _ _ (heap_alloc_new W.drew _)
    rw [h2, h1, List.getD_eq_getElem?_getD, List.getElem?_eq_getElem hj]
    simp
  · exact (Below.refl _ _).drew.alloc (Nat.le_refl _) _
theorem f_r0w (W : World) (b : Nat) : (Instr.fieldAt 25 (.pointer (some ⟨b, 0, none⟩)) 0).run Tryz.prog W = .ok (.pointer (some ⟨b, 0, none⟩)) W := by simp [go_sem]
theorem f_r1w (W : World) (b : Nat) : (Instr.fieldAt 25 (.pointer (some ⟨b, 0, none⟩)) 1).run Tryz.prog W = .ok (.pointer (some ⟨b, 1, none⟩)) W := by simp [go_sem]
theorem f_f2w (W : World) (b : Nat) : (Instr.fieldAt 42 (.pointer (some ⟨b, 0, none⟩)) 2).run Tryz.prog W = .ok (.pointer (some ⟨b, 2, none⟩)) W := by simp [go_sem]
theorem l_I9 (W : World) (b o : Nat) (z : Int) (h : W.cell? ⟨b, o, none⟩ = some (.int .i64 z)) : (Instr.loadAt 3 (.pointer (some ⟨b, o, none⟩))).run Tryz.prog W = .ok (.int .i64 z) W := by simp [go_sem, h]
theorem add_R (a b : Bs) (s t u : ByteArray) (hs : s = ⟨a.toArray⟩) (ht : t = ⟨b.toArray⟩) (hu : u = ⟨(a ++ b).toArray⟩) (ha : a.length ≤ 10000000) (hb : b.length ≤ 10000000) : ∀ W : World, (Op.stringOp .add s t).run Tryz.prog W = .ok (.string u) W := fun W => by
  subst hs ht hu
  exact add_S W a b _ rfl ha hb
theorem dd_short {n : Nat} (h : n ≤ 1099511627776) : (dd n).length ≤ 200 := by
  have := numL_len (word := []) (by decide) (n := n) h
  unfold numL at this
  simp at this; omega
theorem RTx10 (n : Nat) (h : n ≤ 1099511627776) (W : World) : Calls Tryz.prog 26 #[.int .i64 (n : Int)] W fun e w' => e = .returned (.string ⟨(dd n).toArray⟩) ∧ Below W.heap.size W w' := by
  have h := Nu.RText_any (n : Int) (by omega) W
  rw [Nu.textL_nat] at h
  exact h
set_option maxRecDepth 100000 in
set_option maxHeartbeats 16000000 in
theorem RPut10 (r0 : Rt) (v : Value) (w : World) (hv : RtR w v r0) (hf : FitR r0) : Calls Tryz.prog 13 #[v] w (PutP r0 w) := by
  obtain ⟨A, c, B, d, rfl, hp, hk⟩ := hv.parts
  obtain ⟨l, hl⟩ : ∃ l, l = r0.forks := ⟨_, rfl⟩
  obtain ⟨n, hn⟩ : ∃ n, n = r0.pool.length := ⟨_, rfl⟩
  obtain ⟨m, hm⟩ : ∃ m, m = r0.forks.length := ⟨_, rfl⟩
  obtain ⟨z, hz⟩ : ∃ z, z = r0.count := ⟨_, rfl⟩
  rw [← hn] at hp
  rw [← hm] at hk
  rw [← hn, ← hm, ← hz] at hv ⊢
  obtain ⟨wA, hwA⟩ : ∃ y, y = w.alloc (.cells #[.int .i64 z, .slice A n c, .slice B m d] 25) := ⟨_, rfl⟩
  have lA : Below w.heap.size w wA := by rw [hwA]; exact below_new _ _
  have sA : w.heap.size < wA.heap.size := by rw [hwA]; simp
  have HR := Lib.hid (RRight10 r0 _ wA (hv.below lA (Nat.le_refl _)) hf)
  have cA := fun (i : Nat) (u : Value) (hi : (#[.int .i64 z, .slice A n c, .slice B m d] : Array Value)[i]? = some u) => (show Hid (∀ W, Below wA.heap.size wA W → W.cell? ⟨w.heap.size, i, none⟩ = some u) from Lib.hid fun W h => (h.cell (p := ⟨w.heap.size, i, none⟩) sA).trans (by rw [hwA, cell_of_row _ _ _ _ _ _ (heap_alloc_new w _)]; exact hi))
  have C0 := cA 0 _ rfl; have C1 := cA 1 _ rfl; have C2 := cA 2 _ rfl
  have LB := Lib.hid lA; have HWA := Lib.hid hwA
  have c0 := C0.out wA (Below.refl _ _); have c1 := C1.out wA (Below.refl _ _); have c2 := C2.out wA (Below.refl _ _)
  have hpA := RdK.below hp lA (Nat.le_refl _); have hkA := hk.below lA (Nat.le_refl _)
  cases hb : rtB r0 with
  | false =>
    rw [hb] at HR
    have HE : Hid (¬ RtOk r0) := Lib.hid fun h => by rw [rtB_iff.2 h] at hb; cases hb
    clear hp hk hf hn hm hz hwA lA sA hl hv cA C0 C1 C2 hpA hkA hb
    go_enter Tryz.func13, Tryz.ntmps13
    go_upto_region 1 with fail
    try rw [← HWA.out]
    go_wp2_with fail
    refine HR.out.mono ?_
    rintro e w1 ⟨rfl, l1⟩
    have L1 := Lib.hid l1
    clear l1
    go_wp2_with fail
    go_ret2
    exact ⟨LB.out.trans (L1.out.mono LB.out.size), .inr ⟨HE.out, rfl⟩⟩
  | true =>
  rw [hb] at HR
  have HOk : Hid (RtOk r0) := Lib.hid (rtB_iff.1 hb)
  have hnn : n ≤ 24 := by rw [hn]; exact HOk.out.pool.len
  have hmm : m ≤ 16 := by rw [hm]; exact HOk.out.len
  have hzn : z = ((r0.count.toNat : Nat) : Int) := by have := HOk.out.lo; rw [hz]; omega
  have hzm : r0.count.toNat ≤ 1099511627776 := by have := HOk.out.hi; omega
  obtain ⟨tz, htz⟩ : ∃ y, y = dd r0.count.toNat := ⟨_, rfl⟩
  obtain ⟨tn, htn⟩ : ∃ y, y = dd n := ⟨_, rfl⟩
  obtain ⟨tm, htm⟩ : ∃ y, y = dd m := ⟨_, rfl⟩
  obtain ⟨pl, hpl⟩ : ∃ y, y = packsL r0.pool := ⟨_, rfl⟩
  have bz : tz.length ≤ 200 := by rw [htz]; exact dd_short hzm
  have bn : tn.length ≤ 200 := by rw [htn]; exact dd_short (by omega)
  have bm : tm.length ≤ 200 := by rw [htm]; exact dd_short (by omega)
  have bp : pl.length ≤ 100000 := by rw [hpl]; have := packsL_le HOk.out.pool; omega
  have HTz : Hid (∀ W, Below wA.heap.size wA W → Calls Tryz.prog 26 #[.int .i64 z] W fun e w' => e = .returned (.string ⟨tz.toArray⟩) ∧ Below W.heap.size W w') := Lib.hid fun W _ => by rw [htz, hzn]; exact RTx10 _ hzm W
  have HTn : Hid (∀ W, Below wA.heap.size wA W → Calls Tryz.prog 26 #[.int .i64 (n : Int)] W fun e w' => e = .returned (.string ⟨tn.toArray⟩) ∧ Below W.heap.size W w') := Lib.hid fun W _ => by rw [htn]; exact RTx10 _ (by omega) W
  have HTm : Hid (∀ W, Calls Tryz.prog 26 #[.int .i64 (m : Int)] W fun e w' => e = .returned (.string ⟨tm.toArray⟩) ∧ Below W.heap.size W w') := Lib.hid fun W => by rw [htm]; exact RTx10 _ (by omega) W
  have HRw : Hid (∀ W, Below wA.heap.size wA W → Calls Tryz.prog 27 #[.slice A n c] W fun e w' => e = .returned (.string ⟨pl.toArray⟩) ∧ Below W.heap.size W w') := Lib.hid fun W hW => by rw [hpl]; exact Rrows10 r0.pool _ W (RdK.below hpA hW (Nat.le_refl _)) (by omega) (by rw [← hpl]; omega)
  have HV : Hid (∀ W, Below wA.heap.size wA W → FksR W (.slice B m d) l) := Lib.hid fun W hW => by rw [hl]; exact hkA.below hW (Nat.le_refl _)
  have HN : Hid (m = l.length) := Lib.hid (by rw [hl]; exact hm)
  have HFk : Hid (∀ f ∈ l, FkOk f) := Lib.hid (by rw [hl]; exact HOk.out.forks.each)
  have HFt : Hid (∀ f ∈ l, FitF f) := Lib.hid (by rw [hl]; exact hf.forks)
  obtain ⟨a1, e1, b1⟩ : ∃ c : Bs, c = [110, 101, 116, 32] ++ tz ∧ c.length ≤ 1000300 := ⟨_, rfl, by simp; omega⟩
  obtain ⟨a2, e2, b2⟩ : ∃ c : Bs, c = a1 ++ [10, 112, 111, 111, 108, 32] ∧ c.length ≤ 1000400 := ⟨_, rfl, by simp; omega⟩
  obtain ⟨a3, e3, b3⟩ : ∃ c : Bs, c = a2 ++ tn ∧ c.length ≤ 2000200 := ⟨_, rfl, by simp; omega⟩
  obtain ⟨a4, e4, b4⟩ : ∃ c : Bs, c = a3 ++ [10] ∧ c.length ≤ 2000300 := ⟨_, rfl, by simp; omega⟩
  obtain ⟨a5, e5, b5⟩ : ∃ c : Bs, c = a4 ++ pl ∧ c.length ≤ 3000300 := ⟨_, rfl, by simp; omega⟩
  obtain ⟨a6, e6, b6⟩ : ∃ c : Bs, c = a5 ++ [102, 111, 114, 107, 115, 32] ∧ c.length ≤ 3000400 := ⟨_, rfl, by simp; omega⟩
  obtain ⟨a7, e7, b7⟩ : ∃ c : Bs, c = a6 ++ tm ∧ c.length ≤ 3000800 := ⟨_, rfl, by simp; omega⟩
  obtain ⟨a8, e8, b8⟩ : ∃ c : Bs, c = a7 ++ [10] ∧ c.length ≤ 3000900 := ⟨_, rfl, by simp; omega⟩
  have ba8 : a8.length ≤ 200000 := by rw [e8, e7, e6, e5, e4, e3, e2, e1]; simp; omega
  have HFin : Hid (a8 ++ forksL l = rootL r0) := Lib.hid (by
    rw [e8, e7, e6, e5, e4, e3, e2, e1, htz, htn, htm, hpl, hn, hm, hl]
    simp [rootL, numL, bNet, bPool, bForks, List.append_assoc])
  have E1 := Lib.hid e1; have B1 : Hid (a1.length ≤ 10000000) := Lib.hid (by omega)
  have E2 := Lib.hid e2; have B2 : Hid (a2.length ≤ 10000000) := Lib.hid (by omega)
  have E3 := Lib.hid e3; have B3 : Hid (a3.length ≤ 10000000) := Lib.hid (by omega)
  have E4 := Lib.hid e4; have B4 : Hid (a4.length ≤ 10000000) := Lib.hid (by omega)
  have E5 := Lib.hid e5; have B5 : Hid (a5.length ≤ 10000000) := Lib.hid (by omega)
  have Bz : Hid (tz.length ≤ 10000000) := Lib.hid (by omega); have Bn : Hid (tn.length ≤ 10000000) := Lib.hid (by omega); have Bp : Hid (pl.length ≤ 10000000) := Lib.hid (by omega)
  have E6 := Lib.hid e6; have E7 := Lib.hid e7; have E8 := Lib.hid e8
  have HMl := Lib.hid bm; have BA8 := Lib.hid ba8; have Hb5 := Lib.hid b5
  clear hp hk hf hn hm hz hwA lA sA hl hv cA hpA hkA hb htz htn htm hpl bz bn bm bp e1 b1 e2 b2 e3 b3 e4 b4 e5 b5 e6 b6 e7 b7 e8 b8 ba8 hzn hzm
  go_enter Tryz.func13, Tryz.ntmps13
  go_upto_region 1 with fail
  try rw [← HWA.out]
  go_wp2_with fail
  refine HR.out.mono ?_
  rintro e w1 ⟨rfl, l1⟩
  have LA1 := Lib.hid l1
  clear l1 c0 c1 c2 HR HWA
  go_upto_region 3 with fail
  have LD : Hid (Below wA.heap.size wA w1.drew) := Lib.hid (bdr LA1.out 1)
  refine AnyB.start (by kernel_rfl) ?_
  refine AnyB.take 0 (.pointer (some ⟨w.heap.size, 0, none⟩)) rfl (by kernel_rfl) (by kernel_rfl) (by kernel_rfl) (fun _ _ _ h => h) (by kernel_rfl) (fun W hW => y_field (sv := .pointer (some ⟨w.heap.size, 0, none⟩)) rfl (by kernel_rfl) (f_r0w W w.heap.size)) ?_
  refine AnyB.take 1 (.int .i64 z) rfl (by kernel_rfl) (by kernel_rfl) (by kernel_rfl) (fun _ _ _ h => h) (by kernel_rfl) (fun W hW => y_load (sv := .pointer (some ⟨w.heap.size, 0, none⟩)) rfl (by kernel_rfl) (l_I9 W w.heap.size 0 z (C0.out W (LD.out.trans (hW.mono LD.out.size))))) ?_
  refine AnyB.take 5 (.pointer (some ⟨w.heap.size, 1, none⟩)) rfl (by kernel_rfl) (by kernel_rfl) (by kernel_rfl) (fun _ _ _ h => h) (by kernel_rfl) (fun W hW => y_field (sv := .pointer (some ⟨w.heap.size, 0, none⟩)) rfl (by kernel_rfl) (f_r1w W w.heap.size)) ?_
  refine AnyB.take 6 (.slice A n c) rfl (by kernel_rfl) (by kernel_rfl) (by kernel_rfl) (fun _ _ _ h => h) (by kernel_rfl) (fun W hW => y_load (sv := .pointer (some ⟨w.heap.size, 1, none⟩)) rfl (by kernel_rfl) (l_Sl W w.heap.size 1 A n c (C1.out W (LD.out.trans (hW.mono LD.out.size))))) ?_
  refine AnyB.take 7 (.int .i64 (n : Int)) rfl (by kernel_rfl) (by kernel_rfl) (by kernel_rfl) (fun _ _ _ h => h) (by kernel_rfl) (fun W hW => by kernel_rfl) ?_
  refine AnyB.take 11 (.pointer (some ⟨w.heap.size, 1, none⟩)) rfl (by kernel_rfl) (by kernel_rfl) (by kernel_rfl) (fun _ _ _ h => h) (by kernel_rfl) (fun W hW => y_field (sv := .pointer (some ⟨w.heap.size, 0, none⟩)) rfl (by kernel_rfl) (f_r1w W w.heap.size)) ?_
  refine AnyB.take 12 (.slice A n c) rfl (by kernel_rfl) (by kernel_rfl) (by kernel_rfl) (fun _ _ _ h => h) (by kernel_rfl) (fun W hW => y_load (sv := .pointer (some ⟨w.heap.size, 1, none⟩)) rfl (by kernel_rfl) (l_Sl W w.heap.size 1 A n c (C1.out W (LD.out.trans (hW.mono LD.out.size))))) ?_
  refine AnyB.call 2 26 #[.int .i64 z] (by kernel_rfl) rfl (by kernel_rfl) (by kernel_rfl) ?_
  refine (HTz.out _ LD.out).mono ?_
  rintro e w7 ⟨rfl, hb7⟩
  have LD1 := Lib.hid (LD.out.trans (hb7.mono LD.out.size))
  refine ⟨_, rfl, hb7, ?_⟩
  refine AnyB.take 3 (.string ⟨a1.toArray⟩) rfl (by kernel_rfl) (by kernel_rfl) (by kernel_rfl) (fun _ _ _ h => h) (by kernel_rfl) (fun W hW => y_bin (x := .string ⟨#[110, 101, 116, 32]⟩) (y := .string ⟨tz.toArray⟩) rfl (by kernel_rfl) (by kernel_rfl) rfl (add_S W _ _ a1 E1.out (by simp) Bz.out)) ?_
  refine AnyB.take 4 (.string ⟨a2.toArray⟩) rfl (by kernel_rfl) (by kernel_rfl) (by kernel_rfl) (fun _ _ _ h => h) (by kernel_rfl) (fun W hW => y_bin (x := .string ⟨a1.toArray⟩) (y := .string ⟨#[10, 112, 111, 111, 108, 32]⟩) rfl (by kernel_rfl) (by kernel_rfl) rfl (add_S W _ _ a2 E2.out B1.out (by simp))) ?_
  refine AnyB.call 8 26 #[.int .i64 (n : Int)] (by kernel_rfl) rfl (by kernel_rfl) (by kernel_rfl) ?_
  refine (HTn.out _ LD1.out).mono ?_
  rintro e w7 ⟨rfl, hb7⟩
  have LD12 := Lib.hid (LD1.out.trans (hb7.mono LD1.out.size))
  refine ⟨_, rfl, hb7, ?_⟩
  refine AnyB.take 9 (.string ⟨a3.toArray⟩) rfl (by kernel_rfl) (by kernel_rfl) (by kernel_rfl) (fun _ _ _ h => h) (by kernel_rfl) (fun W hW => y_bin (x := .string ⟨a2.toArray⟩) (y := .string ⟨tn.toArray⟩) rfl (by kernel_rfl) (by kernel_rfl) rfl (add_S W _ _ a3 E3.out B2.out Bn.out)) ?_
  refine AnyB.take 10 (.string ⟨a4.toArray⟩) rfl (by kernel_rfl) (by kernel_rfl) (by kernel_rfl) (fun _ _ _ h => h) (by kernel_rfl) (fun W hW => y_bin (x := .string ⟨a3.toArray⟩) (y := .string ⟨#[10]⟩) rfl (by kernel_rfl) (by kernel_rfl) rfl (add_S W _ _ a4 E4.out B3.out (by simp))) ?_
  refine AnyB.call 13 27 #[.slice A n c] (by kernel_rfl) rfl (by kernel_rfl) (by kernel_rfl) ?_
  refine (HRw.out _ LD12.out).mono ?_
  rintro e w7 ⟨rfl, hb7⟩
  have LD123 := Lib.hid (LD12.out.trans (hb7.mono LD12.out.size))
  refine ⟨_, rfl, hb7, ?_⟩
  refine AnyB.take 14 (.string ⟨a5.toArray⟩) rfl (by kernel_rfl) (by kernel_rfl) (by kernel_rfl) (fun _ _ _ h => h) (by kernel_rfl) (fun W hW => y_bin (x := .string ⟨a4.toArray⟩) (y := .string ⟨pl.toArray⟩) rfl (by kernel_rfl) (by kernel_rfl) rfl (add_S W _ _ a5 E5.out B4.out Bp.out)) ?_
  refine AnyB.take 15 (.string ⟨a5.toArray⟩) rfl (by kernel_rfl) (by kernel_rfl) (by kernel_rfl) (fun _ _ _ h => h) (by kernel_rfl) (fun W hW => by kernel_rfl) ?_
  refine AnyB.done _ (by kernel_rfl) ?_
  go_simp
  have L3 := Lib.hid LD123.out
  have c2 := C2.out _ L3.out
  obtain ⟨s5, hs5⟩ : ∃ s : ByteArray, s = ⟨a5.toArray⟩ := ⟨_, rfl⟩
  obtain ⟨s6, hs6⟩ : ∃ s : ByteArray, s = ⟨a6.toArray⟩ := ⟨_, rfl⟩
  obtain ⟨s7, hs7⟩ : ∃ s : ByteArray, s = ⟨a7.toArray⟩ := ⟨_, rfl⟩
  obtain ⟨stm, hstm⟩ : ∃ s : ByteArray, s = ⟨tm.toArray⟩ := ⟨_, rfl⟩
  have r1 := add_R a5 [102, 111, 114, 107, 115, 32] s5 ⟨#[102, 111, 114, 107, 115, 32]⟩ s6 hs5 rfl (by rw [hs6, E6.out]) (by have := Hb5.out; omega) (by simp)
  have r2 := add_R a6 tm s6 stm s7 hs6 hstm (by rw [hs7, E7.out]) (by rw [E6.out]; have := Hb5.out; simp; omega) (by have := HMl.out; omega)
  obtain ⟨s8, hs8⟩ : ∃ s : ByteArray, s = ⟨a8.toArray⟩ := ⟨_, rfl⟩
  have r3 := add_R a7 [10] s7 ⟨#[10]⟩ s8 hs7 rfl (by rw [hs8, E8.out]) (by rw [E7.out, E6.out]; have := Hb5.out; have := HMl.out; simp; omega) (by simp)
  rw [← hs5]
  rw [← hstm] at HTm
  have HS8 := Lib.hid hs8
  clear hs5 hs6 hs7 hstm hs8 LD LD1 LD12 LD123 HTz HTn HRw E1 E2 E3 E4 E5 E6 E7 E8 B1 B2 B3 B4 B5 Bz Bn Bp HMl Hb5 C0 C1
  go_wp2_with fail
  refine (HTm.out _).mono ?_
  rintro e w4 ⟨rfl, l4⟩
  have L4 := Lib.hid (L3.out.trans (l4.mono L3.out.size))
  clear l4 c2 HTm L3 LA1
  go_wp2_with fail
  clear r1 r2 r3
  go_loopw [4, 5, 6, 7, 8, 9] (fun s i _ _ _ _ wr => ∃ (k : Nat) (acc : Bs), k ≤ m ∧ i = .int .i64 k ∧ s = .string ⟨acc.toArray⟩ ∧ Hid (Below wA.heap.size wA wr) ∧ Hid (acc = a8 ++ forksL (l.take k))) (fun _ i _ _ _ _ _ => m - (intOf i).toNat)
  case atStart => exact ⟨0, a8, Nat.zero_le _, rfl, by rw [HS8.out], L4, Lib.hid (by simp [forksL])⟩
  case round =>
    clear L4
    obtain ⟨wo, hwo⟩ : ∃ wo, wo = wr := ⟨_, rfl⟩
    subst hwo
    obtain ⟨k, acc, hk, rfl, rfl, hB, hacc⟩ := hrel
    have c2 := C2.out wo hB.out
    have hal : acc.length ≤ 1000000 := by
      rw [hacc.out, List.length_append]
      have h1 := forksL_len (l := l.take k) fun f hf => HFk.out f (List.mem_of_mem_take hf)
      have h2 : (l.take k).length ≤ 16 := by rw [List.length_take]; omega
      have := BA8.out
      have : 40000 * (l.take k).length ≤ 40000 * 16 := Nat.mul_le_mul_left _ h2
      omega
    by_cases hlt : k < m
    case neg =>
      have hkI : ¬ (k : Int) < (m : Int) := by omega
      have HE : Hid (acc = rootL r0) := Lib.hid (by rw [hacc.out, ← HFin.out, show k = m by omega, HN.out, List.take_length])
      have L9 := Lib.hid hB.out
      obtain ⟨A9, c9, w9, hcv, hrb, l9⟩ := conv_bytesR wo acc
      have HCv := Lib.hid hcv; have HRb := Lib.hid hrb; have L99 := Lib.hid (LB.out.trans ((hB.out.trans (l9.mono hB.out.size)).mono LB.out.size))
      clear hB hacc hlt HFin HV HFk HFt hcv hrb l9
      go_wp2_with (refine wpList_run (by kernel_rfl) (.slice A9 acc.length c9) w9 (y_conv' rfl (by kernel_rfl) HCv.out) ?_)
      go_ret2
      exact ⟨L99.out, .inl ⟨HOk.out, A9, acc.length, c9, rfl, by rw [HE.out], by rw [← HE.out]; exact HRb.out⟩⟩
    have hkI : (k : Int) < (m : Int) := by omega
    obtain ⟨g, o, c', e, hNc, hg⟩ := (HV.out wo hB.out).pos (by have := HN.out; omega)
    obtain rfl : B = some ⟨g, o, none⟩ := by rw [← HN.out] at e; cases e; rfl
    clear e hNc
    obtain ⟨f, hfx⟩ : ∃ f, l[k]? = some f := ⟨_, List.getElem?_eq_getElem (by have := HN.out; omega)⟩
    have hV := HV.out wo hB.out
    obtain ⟨x, hx, d0, d1, d2, d3, d4⟩ := hV.at hfx
    have hft := HFt.out f (List.mem_of_getElem? hfx)
    have hok := HFk.out f (List.mem_of_getElem? hfx)
    obtain ⟨wB, hwB⟩ : ∃ z, z = wo.alloc (.cells (fkC x).toArray 42) := ⟨_, rfl⟩
    have lB : Below wo.heap.size wo wB := by rw [hwB]; exact below_new _ _
    have sB : wo.heap.size < wB.heap.size := by rw [hwB]; simp
    have hxB := hx.below lB (Nat.le_refl _)
    have dl := fun (i : Nat) (u : Value) (hi : (fkC x)[i]? = some u) => (show Hid (∀ W, Below wB.heap.size wB W → W.cell? ⟨wo.heap.size, i, none⟩ = some u) from Lib.hid fun W h => (h.cell (p := ⟨wo.heap.size, i, none⟩) sB).trans (by rw [hwB, cell_of_row _ _ _ _ _ _ (heap_alloc_new wo _)]; simpa using hi))
    have D0 := dl 0 _ rfl; have D1 := dl 1 _ rfl; have D2 := dl 2 _ rfl; have D3 := dl 3 _ rfl; have D4 := dl 4 _ rfl
    have L2 : Hid (Below wA.heap.size wA wB) := Lib.hid (hB.out.trans (lB.mono hB.out.size))
    obtain ⟨ll, hll⟩ : ∃ y, y = linesL f.refs := ⟨_, rfl⟩
    obtain ⟨pp, hpp⟩ : ∃ y, y = packsL f.packs := ⟨_, rfl⟩
    obtain ⟨nr, hnr⟩ : ∃ n, n = f.refs.length := ⟨_, rfl⟩
    obtain ⟨np, hnp⟩ : ∃ n, n = f.packs.length := ⟨_, rfl⟩
    obtain ⟨tr, htr⟩ : ∃ y, y = dd nr := ⟨_, rfl⟩
    obtain ⟨tp, htp⟩ : ∃ y, y = dd np := ⟨_, rfl⟩
    have hnr1 : nr ≤ 1000000 := by rw [hnr]; exact hft.rlen
    have hnp1 : np ≤ 1000000 := by rw [hnp]; exact hft.plen
    have HPt : Hid (∀ W, Below wB.heap.size wB W → Calls Tryz.prog 28 #[x.rv] W fun e w' => e = .returned (.tuple #[.string ⟨ll.toArray⟩, .bool true]) ∧ Below W.heap.size W w') := Lib.hid fun W hW =>
      (Rf.RPut_any f.refs _ W (RdK.below hxB.refs hW (Nat.le_refl _)) hft.refs hft.rlen).mono fun e w' h => by
        obtain ⟨h, hb⟩ := h
        rcases h with ⟨h, _⟩ | ⟨_, h⟩
        · exact ⟨by rw [hll]; exact h, hb⟩
        · exact absurd hok.refs h
    have HTr : Hid (∀ W, Below wB.heap.size wB W → Calls Tryz.prog 26 #[.int .i64 (nr : Int)] W fun e w' => e = .returned (.string ⟨tr.toArray⟩) ∧ Below W.heap.size W w') := Lib.hid fun W _ => by rw [htr]; exact RTx10 _ (by omega) W
    have HTp : Hid (∀ W, Below wB.heap.size wB W → Calls Tryz.prog 26 #[.int .i64 (np : Int)] W fun e w' => e = .returned (.string ⟨tp.toArray⟩) ∧ Below W.heap.size W w') := Lib.hid fun W _ => by rw [htp]; exact RTx10 _ (by omega) W
    have hppl : pp.length ≤ 100000 := by rw [hpp]; have := packsL_le hok.packs; omega
    have HRw2 : Hid (∀ W, Below wB.heap.size wB W → Calls Tryz.prog 27 #[x.pv] W fun e w' => e = .returned (.string ⟨pp.toArray⟩) ∧ Below W.heap.size W w') := Lib.hid fun W hW => by rw [hpp]; exact Rrows10 f.packs _ W (RdK.below hxB.packs hW (Nat.le_refl _)) hft.plen (by rw [← hpp]; omega)
    obtain ⟨bd, hbd⟩ : ∃ y, y = bond x.linked := ⟨_, rfl⟩
    have hfl := forkL_len hok
    have hnml : x.name.length ≤ 100000 := by rw [hx.name]; have := fork_len hok.name; omega
    have hhdl : x.head.length ≤ 100000 := by rw [hx.head]; have := head_len hok.head; omega
    have hbdl : bd.length ≤ 6 := by rw [hbd]; exact bond_len _
    have htrl : tr.length ≤ 200 := by rw [htr]; exact dd_short (by omega)
    have htpl : tp.length ≤ 200 := by rw [htp]; exact dd_short (by omega)
    have hlll : ll.length ≤ 100000 := by rw [hll]; have h := hfl; unfold forkL at h; simp at h; omega
    obtain ⟨Ar, cr, er⟩ := RdK.shape hx.refs
    obtain ⟨Ap, cp, ep⟩ := RdK.shape hx.packs
    rw [← hnr] at er
    rw [← hnp] at ep
    have HWB := Lib.hid hwB
    have HXn := Lib.hid hx.name; have HXl := Lib.hid hx.linked; have HXh := Lib.hid hx.head
    obtain ⟨nm, lk, hd, rv, pv⟩ := x
    simp only at er ep hbd hnml hhdl HXn HXl HXh
    subst er
    subst ep
    obtain ⟨q1, g1, k1⟩ : ∃ c : Bs, c = acc ++ [102, 111, 114, 107, 32] ∧ c.length ≤ 2200000 := ⟨_, rfl, by simp; omega⟩
    obtain ⟨q2, g2, k2⟩ : ∃ c : Bs, c = q1 ++ nm ∧ c.length ≤ 2400000 := ⟨_, rfl, by simp; omega⟩
    obtain ⟨q3, g3, k3⟩ : ∃ c : Bs, c = q2 ++ [32] ∧ c.length ≤ 2600000 := ⟨_, rfl, by simp; omega⟩
    obtain ⟨q4, g4, k4⟩ : ∃ c : Bs, c = q3 ++ bd ∧ c.length ≤ 2800000 := ⟨_, rfl, by simp; omega⟩
    obtain ⟨q5, g5, k5⟩ : ∃ c : Bs, c = q4 ++ [32] ∧ c.length ≤ 3000000 := ⟨_, rfl, by simp; omega⟩
    obtain ⟨q6, g6, k6⟩ : ∃ c : Bs, c = q5 ++ hd ∧ c.length ≤ 3200000 := ⟨_, rfl, by simp; omega⟩
    obtain ⟨q7, g7, k7⟩ : ∃ c : Bs, c = q6 ++ [32] ∧ c.length ≤ 3400000 := ⟨_, rfl, by simp; omega⟩
    obtain ⟨q8, g8, k8⟩ : ∃ c : Bs, c = q7 ++ tr ∧ c.length ≤ 3600000 := ⟨_, rfl, by simp; omega⟩
    obtain ⟨q9, g9, k9⟩ : ∃ c : Bs, c = q8 ++ [32] ∧ c.length ≤ 3800000 := ⟨_, rfl, by simp; omega⟩
    obtain ⟨q10, g10, k10⟩ : ∃ c : Bs, c = q9 ++ tp ∧ c.length ≤ 4000000 := ⟨_, rfl, by simp; omega⟩
    obtain ⟨q11, g11, k11⟩ : ∃ c : Bs, c = q10 ++ [10] ∧ c.length ≤ 4200000 := ⟨_, rfl, by simp; omega⟩
    obtain ⟨q12, g12, k12⟩ : ∃ c : Bs, c = q11 ++ ll ∧ c.length ≤ 4400000 := ⟨_, rfl, by simp; omega⟩
    obtain ⟨q13, g13, k13⟩ : ∃ c : Bs, c = q12 ++ pp ∧ c.length ≤ 4600000 := ⟨_, rfl, by simp; omega⟩
    have HNew : Hid (q13 = a8 ++ forksL (l.take (k + 1))) := Lib.hid (by
      rw [forksL_snoc hfx, ← List.append_assoc, ← hacc.out, g13, g12, g11, g10, g9, g8, g7, g6, g5, g4, g3, g2, g1, hbd, hll, hpp, htr, htp, hnr, hnp, HXn.out, HXl.out, HXh.out]
      simp [forkL, openB, Fk.op, bFork, List.append_assoc])
    have F1 := Lib.hid g1; have G1 : Hid (q1.length ≤ 10000000) := Lib.hid (by omega)
    have F2 := Lib.hid g2; have G2 : Hid (q2.length ≤ 10000000) := Lib.hid (by omega)
    have F3 := Lib.hid g3; have G3 : Hid (q3.length ≤ 10000000) := Lib.hid (by omega)
    have F4 := Lib.hid g4; have G4 : Hid (q4.length ≤ 10000000) := Lib.hid (by omega)
    have F5 := Lib.hid g5; have G5 : Hid (q5.length ≤ 10000000) := Lib.hid (by omega)
    have F6 := Lib.hid g6; have G6 : Hid (q6.length ≤ 10000000) := Lib.hid (by omega)
    have F7 := Lib.hid g7; have G7 : Hid (q7.length ≤ 10000000) := Lib.hid (by omega)
    have F8 := Lib.hid g8; have G8 : Hid (q8.length ≤ 10000000) := Lib.hid (by omega)
    have F9 := Lib.hid g9; have G9 : Hid (q9.length ≤ 10000000) := Lib.hid (by omega)
    have F10 := Lib.hid g10; have G10 : Hid (q10.length ≤ 10000000) := Lib.hid (by omega)
    have F11 := Lib.hid g11; have G11 : Hid (q11.length ≤ 10000000) := Lib.hid (by omega)
    have F12 := Lib.hid g12; have G12 : Hid (q12.length ≤ 10000000) := Lib.hid (by omega)
    have F13 := Lib.hid g13; have G13 : Hid (q13.length ≤ 10000000) := Lib.hid (by omega)
    have G0 : Hid (acc.length ≤ 10000000) := Lib.hid (by omega); have Gn : Hid (nm.length ≤ 10000000) := Lib.hid (by omega); have Gh : Hid (hd.length ≤ 10000000) := Lib.hid (by omega); have Gb : Hid (bd.length ≤ 10000000) := Lib.hid (by omega); have Gr : Hid (tr.length ≤ 10000000) := Lib.hid (by omega); have Gp : Hid (tp.length ≤ 10000000) := Lib.hid (by omega); have Gl : Hid (ll.length ≤ 10000000) := Lib.hid (by omega); have Gq : Hid (pp.length ≤ 10000000) := Lib.hid (by omega)
    clear hfx hV hx hft hok hwB lB sB hxB dl hnr hnp hg hll hpp htr htp hnr1 hnp1 hppl hfl hnml hhdl hbdl htrl htpl hlll hal hacc g1 k1 g2 k2 g3 k3 g4 k4 g5 k5 g6 k6 g7 k7 g8 k8 g9 k9 g10 k10 g11 k11 g12 k12 g13 k13 HXn HXl HXh
    unfold fkC at HWB
    simp only [SV, List.toArray] at d0 d1 d2 d3 d4 HPt HRw2 HWB D0 D1 D2 D3 D4
    go_upto_region 9 with fail
    try rw [← HWB.out]
    have dl1 := D1.out wB (Below.refl _ _)
    have dl3 := D3.out wB (Below.refl _ _)
    clear d0 d1 d2 d3 d4 hB c2 HV HFk HFt
    cases lk with
    | true =>
      obtain rfl : bd = [108, 105, 110, 107, 101, 100] := hbd
      go_wp2_with fail
      refine (HPt.out _ (Below.refl _ _)).mono ?_
      rintro e w8 ⟨rfl, l8⟩
      have L8 := Lib.hid l8
      clear l8 dl1 dl3 HPt
      go_upto_region 13 with fail
      have LD : Hid (Below wB.heap.size wB w8.drew) := Lib.hid (bdr L8.out 1)
      refine AnyB.start (by kernel_rfl) ?_
      refine AnyB.take 0 (.string ⟨acc.toArray⟩) rfl (by kernel_rfl) (by kernel_rfl) (by kernel_rfl) (fun _ _ _ h => h) (by kernel_rfl) (fun W hW => by kernel_rfl) ?_
      refine AnyB.take 1 (.string ⟨q1.toArray⟩) rfl (by kernel_rfl) (by kernel_rfl) (by kernel_rfl) (fun _ _ _ h => h) (by kernel_rfl) (fun W hW => y_bin (x := .string ⟨acc.toArray⟩) (y := .string ⟨#[102, 111, 114, 107, 32]⟩) rfl (by kernel_rfl) (by kernel_rfl) rfl (add_S W _ _ q1 F1.out G0.out (by simp))) ?_
      refine AnyB.take 2 (.pointer (some ⟨wo.heap.size, 0, none⟩)) rfl (by kernel_rfl) (by kernel_rfl) (by kernel_rfl) (fun _ _ _ h => h) (by kernel_rfl) (fun W hW => y_field (sv := .pointer (some ⟨wo.heap.size, 0, none⟩)) rfl (by kernel_rfl) (f_f0z W wo.heap.size)) ?_
      refine AnyB.take 3 (.string ⟨nm.toArray⟩) rfl (by kernel_rfl) (by kernel_rfl) (by kernel_rfl) (fun _ _ _ h => h) (by kernel_rfl) (fun W hW => y_load (sv := .pointer (some ⟨wo.heap.size, 0, none⟩)) rfl (by kernel_rfl) (l_S W wo.heap.size 0 nm (D0.out W (LD.out.trans (hW.mono LD.out.size))))) ?_
      refine AnyB.take 4 (.string ⟨q2.toArray⟩) rfl (by kernel_rfl) (by kernel_rfl) (by kernel_rfl) (fun _ _ _ h => h) (by kernel_rfl) (fun W hW => y_bin (x := .string ⟨q1.toArray⟩) (y := .string ⟨nm.toArray⟩) rfl (by kernel_rfl) (by kernel_rfl) rfl (add_S W _ _ q2 F2.out G1.out Gn.out)) ?_
      refine AnyB.take 5 (.string ⟨q3.toArray⟩) rfl (by kernel_rfl) (by kernel_rfl) (by kernel_rfl) (fun _ _ _ h => h) (by kernel_rfl) (fun W hW => y_bin (x := .string ⟨q2.toArray⟩) (y := .string ⟨#[32]⟩) rfl (by kernel_rfl) (by kernel_rfl) rfl (add_S W _ _ q3 F3.out G2.out (by simp))) ?_
      refine AnyB.take 6 (.string ⟨#[108, 105, 110, 107, 101, 100]⟩) rfl (by kernel_rfl) (by kernel_rfl) (by kernel_rfl) (fun _ _ _ h => h) (by kernel_rfl) (fun W hW => by kernel_rfl) ?_
      refine AnyB.take 7 (.string ⟨q4.toArray⟩) rfl (by kernel_rfl) (by kernel_rfl) (by kernel_rfl) (fun _ _ _ h => h) (by kernel_rfl) (fun W hW => y_bin (x := .string ⟨q3.toArray⟩) (y := .string ⟨#[108, 105, 110, 107, 101, 100]⟩) rfl (by kernel_rfl) (by kernel_rfl) rfl (add_S W _ _ q4 F4.out G3.out Gb.out)) ?_
      refine AnyB.take 8 (.string ⟨q5.toArray⟩) rfl (by kernel_rfl) (by kernel_rfl) (by kernel_rfl) (fun _ _ _ h => h) (by kernel_rfl) (fun W hW => y_bin (x := .string ⟨q4.toArray⟩) (y := .string ⟨#[32]⟩) rfl (by kernel_rfl) (by kernel_rfl) rfl (add_S W _ _ q5 F5.out G4.out (by simp))) ?_
      refine AnyB.take 9 (.pointer (some ⟨wo.heap.size, 2, none⟩)) rfl (by kernel_rfl) (by kernel_rfl) (by kernel_rfl) (fun _ _ _ h => h) (by kernel_rfl) (fun W hW => y_field (sv := .pointer (some ⟨wo.heap.size, 0, none⟩)) rfl (by kernel_rfl) (f_f2w W wo.heap.size)) ?_
      refine AnyB.take 10 (.string ⟨hd.toArray⟩) rfl (by kernel_rfl) (by kernel_rfl) (by kernel_rfl) (fun _ _ _ h => h) (by kernel_rfl) (fun W hW => y_load (sv := .pointer (some ⟨wo.heap.size, 2, none⟩)) rfl (by kernel_rfl) (l_S W wo.heap.size 2 hd (D2.out W (LD.out.trans (hW.mono LD.out.size))))) ?_
      refine AnyB.take 11 (.string ⟨q6.toArray⟩) rfl (by kernel_rfl) (by kernel_rfl) (by kernel_rfl) (fun _ _ _ h => h) (by kernel_rfl) (fun W hW => y_bin (x := .string ⟨q5.toArray⟩) (y := .string ⟨hd.toArray⟩) rfl (by kernel_rfl) (by kernel_rfl) rfl (add_S W _ _ q6 F6.out G5.out Gh.out)) ?_
      refine AnyB.take 12 (.string ⟨q7.toArray⟩) rfl (by kernel_rfl) (by kernel_rfl) (by kernel_rfl) (fun _ _ _ h => h) (by kernel_rfl) (fun W hW => y_bin (x := .string ⟨q6.toArray⟩) (y := .string ⟨#[32]⟩) rfl (by kernel_rfl) (by kernel_rfl) rfl (add_S W _ _ q7 F7.out G6.out (by simp))) ?_
      refine AnyB.take 13 (.pointer (some ⟨wo.heap.size, 3, none⟩)) rfl (by kernel_rfl) (by kernel_rfl) (by kernel_rfl) (fun _ _ _ h => h) (by kernel_rfl) (fun W hW => y_field (sv := .pointer (some ⟨wo.heap.size, 0, none⟩)) rfl (by kernel_rfl) (f_f3z W wo.heap.size)) ?_
      refine AnyB.take 14 (.slice Ar nr cr) rfl (by kernel_rfl) (by kernel_rfl) (by kernel_rfl) (fun _ _ _ h => h) (by kernel_rfl) (fun W hW => y_load (sv := .pointer (some ⟨wo.heap.size, 3, none⟩)) rfl (by kernel_rfl) (l_Rl W wo.heap.size 3 Ar nr cr (D3.out W (LD.out.trans (hW.mono LD.out.size))))) ?_
      refine AnyB.take 15 (.int .i64 (nr : Int)) rfl (by kernel_rfl) (by kernel_rfl) (by kernel_rfl) (fun _ _ _ h => h) (by kernel_rfl) (fun W hW => by kernel_rfl) ?_
      refine AnyB.take 19 (.pointer (some ⟨wo.heap.size, 4, none⟩)) rfl (by kernel_rfl) (by kernel_rfl) (by kernel_rfl) (fun _ _ _ h => h) (by kernel_rfl) (fun W hW => y_field (sv := .pointer (some ⟨wo.heap.size, 0, none⟩)) rfl (by kernel_rfl) (f_f4z W wo.heap.size)) ?_
      refine AnyB.take 20 (.slice Ap np cp) rfl (by kernel_rfl) (by kernel_rfl) (by kernel_rfl) (fun _ _ _ h => h) (by kernel_rfl) (fun W hW => y_load (sv := .pointer (some ⟨wo.heap.size, 4, none⟩)) rfl (by kernel_rfl) (l_Sl W wo.heap.size 4 Ap np cp (D4.out W (LD.out.trans (hW.mono LD.out.size))))) ?_
      refine AnyB.take 21 (.int .i64 (np : Int)) rfl (by kernel_rfl) (by kernel_rfl) (by kernel_rfl) (fun _ _ _ h => h) (by kernel_rfl) (fun W hW => by kernel_rfl) ?_
      refine AnyB.take 25 (.string ⟨ll.toArray⟩) rfl (by kernel_rfl) (by kernel_rfl) (by kernel_rfl) (fun _ _ _ h => h) (by kernel_rfl) (fun W hW => by kernel_rfl) ?_
      refine AnyB.take 27 (.pointer (some ⟨wo.heap.size, 4, none⟩)) rfl (by kernel_rfl) (by kernel_rfl) (by kernel_rfl) (fun _ _ _ h => h) (by kernel_rfl) (fun W hW => y_field (sv := .pointer (some ⟨wo.heap.size, 0, none⟩)) rfl (by kernel_rfl) (f_f4z W wo.heap.size)) ?_
      refine AnyB.take 28 (.slice Ap np cp) rfl (by kernel_rfl) (by kernel_rfl) (by kernel_rfl) (fun _ _ _ h => h) (by kernel_rfl) (fun W hW => y_load (sv := .pointer (some ⟨wo.heap.size, 4, none⟩)) rfl (by kernel_rfl) (l_Sl W wo.heap.size 4 Ap np cp (D4.out W (LD.out.trans (hW.mono LD.out.size))))) ?_
      refine AnyB.call 16 26 #[.int .i64 (nr : Int)] (by kernel_rfl) rfl (by kernel_rfl) (by kernel_rfl) ?_
      refine (HTr.out _ LD.out).mono ?_
      rintro e w7 ⟨rfl, hb7⟩
      have LD1 := Lib.hid (LD.out.trans (hb7.mono LD.out.size))
      refine ⟨_, rfl, hb7, ?_⟩
      refine AnyB.take 17 (.string ⟨q8.toArray⟩) rfl (by kernel_rfl) (by kernel_rfl) (by kernel_rfl) (fun _ _ _ h => h) (by kernel_rfl) (fun W hW => y_bin (x := .string ⟨q7.toArray⟩) (y := .string ⟨tr.toArray⟩) rfl (by kernel_rfl) (by kernel_rfl) rfl (add_S W _ _ q8 F8.out G7.out Gr.out)) ?_
      refine AnyB.take 18 (.string ⟨q9.toArray⟩) rfl (by kernel_rfl) (by kernel_rfl) (by kernel_rfl) (fun _ _ _ h => h) (by kernel_rfl) (fun W hW => y_bin (x := .string ⟨q8.toArray⟩) (y := .string ⟨#[32]⟩) rfl (by kernel_rfl) (by kernel_rfl) rfl (add_S W _ _ q9 F9.out G8.out (by simp))) ?_
      refine AnyB.call 22 26 #[.int .i64 (np : Int)] (by kernel_rfl) rfl (by kernel_rfl) (by kernel_rfl) ?_
      refine (HTp.out _ LD1.out).mono ?_
      rintro e w7 ⟨rfl, hb7⟩
      have LD12 := Lib.hid (LD1.out.trans (hb7.mono LD1.out.size))
      refine ⟨_, rfl, hb7, ?_⟩
      refine AnyB.take 23 (.string ⟨q10.toArray⟩) rfl (by kernel_rfl) (by kernel_rfl) (by kernel_rfl) (fun _ _ _ h => h) (by kernel_rfl) (fun W hW => y_bin (x := .string ⟨q9.toArray⟩) (y := .string ⟨tp.toArray⟩) rfl (by kernel_rfl) (by kernel_rfl) rfl (add_S W _ _ q10 F10.out G9.out Gp.out)) ?_
      refine AnyB.take 24 (.string ⟨q11.toArray⟩) rfl (by kernel_rfl) (by kernel_rfl) (by kernel_rfl) (fun _ _ _ h => h) (by kernel_rfl) (fun W hW => y_bin (x := .string ⟨q10.toArray⟩) (y := .string ⟨#[10]⟩) rfl (by kernel_rfl) (by kernel_rfl) rfl (add_S W _ _ q11 F11.out G10.out (by simp))) ?_
      refine AnyB.take 26 (.string ⟨q12.toArray⟩) rfl (by kernel_rfl) (by kernel_rfl) (by kernel_rfl) (fun _ _ _ h => h) (by kernel_rfl) (fun W hW => y_bin (x := .string ⟨q11.toArray⟩) (y := .string ⟨ll.toArray⟩) rfl (by kernel_rfl) (by kernel_rfl) rfl (add_S W _ _ q12 F12.out G11.out Gl.out)) ?_
      refine AnyB.call 29 27 #[.slice Ap np cp] (by kernel_rfl) rfl (by kernel_rfl) (by kernel_rfl) ?_
      refine (HRw2.out _ LD12.out).mono ?_
      rintro e w7 ⟨rfl, hb7⟩
      have LD123 := Lib.hid (LD12.out.trans (hb7.mono LD12.out.size))
      refine ⟨_, rfl, hb7, ?_⟩
      refine AnyB.take 30 (.string ⟨q13.toArray⟩) rfl (by kernel_rfl) (by kernel_rfl) (by kernel_rfl) (fun _ _ _ h => h) (by kernel_rfl) (fun W hW => y_bin (x := .string ⟨q12.toArray⟩) (y := .string ⟨pp.toArray⟩) rfl (by kernel_rfl) (by kernel_rfl) rfl (add_S W _ _ q13 F13.out G12.out Gq.out)) ?_
      refine AnyB.take 31 (.string ⟨q13.toArray⟩) rfl (by kernel_rfl) (by kernel_rfl) (by kernel_rfl) (fun _ _ _ h => h) (by kernel_rfl) (fun W hW => by kernel_rfl) ?_
      refine AnyB.done _ (by kernel_rfl) ?_
      go_simp
      have L9 := Lib.hid (L2.out.trans (LD123.out.mono L2.out.size))
      clear LD LD1 LD12 LD123 L8 L2 HTr HTp HRw2 D0 D1 D2 D3 D4 F1 G1 F2 G2 F3 G3 F4 G4 F5 G5 F6 G6 F7 G7 F8 G8 F9 G9 F10 G10 F11 G11 F12 G12 F13 G13 G0 Gn Gh Gb Gr Gp Gl Gq HWB
      go_wp2_with fail
      go_roundw
      case rel => exact ⟨k + 1, q13, by omega, by go_num, rfl, L9, HNew⟩
      case measure => simp [intOf]; omega
    | false =>
      obtain rfl : bd = [97, 108, 111, 110, 101] := hbd
      go_wp2_with fail
      refine (HPt.out _ (Below.refl _ _)).mono ?_
      rintro e w8 ⟨rfl, l8⟩
      have L8 := Lib.hid l8
      clear l8 dl1 dl3 HPt
      go_upto_region 13 with fail
      have LD : Hid (Below wB.heap.size wB w8.drew) := Lib.hid (bdr L8.out 1)
      refine AnyB.start (by kernel_rfl) ?_
      refine AnyB.take 0 (.string ⟨acc.toArray⟩) rfl (by kernel_rfl) (by kernel_rfl) (by kernel_rfl) (fun _ _ _ h => h) (by kernel_rfl) (fun W hW => by kernel_rfl) ?_
      refine AnyB.take 1 (.string ⟨q1.toArray⟩) rfl (by kernel_rfl) (by kernel_rfl) (by kernel_rfl) (fun _ _ _ h => h) (by kernel_rfl) (fun W hW => y_bin (x := .string ⟨acc.toArray⟩) (y := .string ⟨#[102, 111, 114, 107, 32]⟩) rfl (by kernel_rfl) (by kernel_rfl) rfl (add_S W _ _ q1 F1.out G0.out (by simp))) ?_
      refine AnyB.take 2 (.pointer (some ⟨wo.heap.size, 0, none⟩)) rfl (by kernel_rfl) (by kernel_rfl) (by kernel_rfl) (fun _ _ _ h => h) (by kernel_rfl) (fun W hW => y_field (sv := .pointer (some ⟨wo.heap.size, 0, none⟩)) rfl (by kernel_rfl) (f_f0z W wo.heap.size)) ?_
      refine AnyB.take 3 (.string ⟨nm.toArray⟩) rfl (by kernel_rfl) (by kernel_rfl) (by kernel_rfl) (fun _ _ _ h => h) (by kernel_rfl) (fun W hW => y_load (sv := .pointer (some ⟨wo.heap.size, 0, none⟩)) rfl (by kernel_rfl) (l_S W wo.heap.size 0 nm (D0.out W (LD.out.trans (hW.mono LD.out.size))))) ?_
      refine AnyB.take 4 (.string ⟨q2.toArray⟩) rfl (by kernel_rfl) (by kernel_rfl) (by kernel_rfl) (fun _ _ _ h => h) (by kernel_rfl) (fun W hW => y_bin (x := .string ⟨q1.toArray⟩) (y := .string ⟨nm.toArray⟩) rfl (by kernel_rfl) (by kernel_rfl) rfl (add_S W _ _ q2 F2.out G1.out Gn.out)) ?_
      refine AnyB.take 5 (.string ⟨q3.toArray⟩) rfl (by kernel_rfl) (by kernel_rfl) (by kernel_rfl) (fun _ _ _ h => h) (by kernel_rfl) (fun W hW => y_bin (x := .string ⟨q2.toArray⟩) (y := .string ⟨#[32]⟩) rfl (by kernel_rfl) (by kernel_rfl) rfl (add_S W _ _ q3 F3.out G2.out (by simp))) ?_
      refine AnyB.take 6 (.string ⟨#[97, 108, 111, 110, 101]⟩) rfl (by kernel_rfl) (by kernel_rfl) (by kernel_rfl) (fun _ _ _ h => h) (by kernel_rfl) (fun W hW => by kernel_rfl) ?_
      refine AnyB.take 7 (.string ⟨q4.toArray⟩) rfl (by kernel_rfl) (by kernel_rfl) (by kernel_rfl) (fun _ _ _ h => h) (by kernel_rfl) (fun W hW => y_bin (x := .string ⟨q3.toArray⟩) (y := .string ⟨#[97, 108, 111, 110, 101]⟩) rfl (by kernel_rfl) (by kernel_rfl) rfl (add_S W _ _ q4 F4.out G3.out Gb.out)) ?_
      refine AnyB.take 8 (.string ⟨q5.toArray⟩) rfl (by kernel_rfl) (by kernel_rfl) (by kernel_rfl) (fun _ _ _ h => h) (by kernel_rfl) (fun W hW => y_bin (x := .string ⟨q4.toArray⟩) (y := .string ⟨#[32]⟩) rfl (by kernel_rfl) (by kernel_rfl) rfl (add_S W _ _ q5 F5.out G4.out (by simp))) ?_
      refine AnyB.take 9 (.pointer (some ⟨wo.heap.size, 2, none⟩)) rfl (by kernel_rfl) (by kernel_rfl) (by kernel_rfl) (fun _ _ _ h => h) (by kernel_rfl) (fun W hW => y_field (sv := .pointer (some ⟨wo.heap.size, 0, none⟩)) rfl (by kernel_rfl) (f_f2w W wo.heap.size)) ?_
      refine AnyB.take 10 (.string ⟨hd.toArray⟩) rfl (by kernel_rfl) (by kernel_rfl) (by kernel_rfl) (fun _ _ _ h => h) (by kernel_rfl) (fun W hW => y_load (sv := .pointer (some ⟨wo.heap.size, 2, none⟩)) rfl (by kernel_rfl) (l_S W wo.heap.size 2 hd (D2.out W (LD.out.trans (hW.mono LD.out.size))))) ?_
      refine AnyB.take 11 (.string ⟨q6.toArray⟩) rfl (by kernel_rfl) (by kernel_rfl) (by kernel_rfl) (fun _ _ _ h => h) (by kernel_rfl) (fun W hW => y_bin (x := .string ⟨q5.toArray⟩) (y := .string ⟨hd.toArray⟩) rfl (by kernel_rfl) (by kernel_rfl) rfl (add_S W _ _ q6 F6.out G5.out Gh.out)) ?_
      refine AnyB.take 12 (.string ⟨q7.toArray⟩) rfl (by kernel_rfl) (by kernel_rfl) (by kernel_rfl) (fun _ _ _ h => h) (by kernel_rfl) (fun W hW => y_bin (x := .string ⟨q6.toArray⟩) (y := .string ⟨#[32]⟩) rfl (by kernel_rfl) (by kernel_rfl) rfl (add_S W _ _ q7 F7.out G6.out (by simp))) ?_
      refine AnyB.take 13 (.pointer (some ⟨wo.heap.size, 3, none⟩)) rfl (by kernel_rfl) (by kernel_rfl) (by kernel_rfl) (fun _ _ _ h => h) (by kernel_rfl) (fun W hW => y_field (sv := .pointer (some ⟨wo.heap.size, 0, none⟩)) rfl (by kernel_rfl) (f_f3z W wo.heap.size)) ?_
      refine AnyB.take 14 (.slice Ar nr cr) rfl (by kernel_rfl) (by kernel_rfl) (by kernel_rfl) (fun _ _ _ h => h) (by kernel_rfl) (fun W hW => y_load (sv := .pointer (some ⟨wo.heap.size, 3, none⟩)) rfl (by kernel_rfl) (l_Rl W wo.heap.size 3 Ar nr cr (D3.out W (LD.out.trans (hW.mono LD.out.size))))) ?_
      refine AnyB.take 15 (.int .i64 (nr : Int)) rfl (by kernel_rfl) (by kernel_rfl) (by kernel_rfl) (fun _ _ _ h => h) (by kernel_rfl) (fun W hW => by kernel_rfl) ?_
      refine AnyB.take 19 (.pointer (some ⟨wo.heap.size, 4, none⟩)) rfl (by kernel_rfl) (by kernel_rfl) (by kernel_rfl) (fun _ _ _ h => h) (by kernel_rfl) (fun W hW => y_field (sv := .pointer (some ⟨wo.heap.size, 0, none⟩)) rfl (by kernel_rfl) (f_f4z W wo.heap.size)) ?_
      refine AnyB.take 20 (.slice Ap np cp) rfl (by kernel_rfl) (by kernel_rfl) (by kernel_rfl) (fun _ _ _ h => h) (by kernel_rfl) (fun W hW => y_load (sv := .pointer (some ⟨wo.heap.size, 4, none⟩)) rfl (by kernel_rfl) (l_Sl W wo.heap.size 4 Ap np cp (D4.out W (LD.out.trans (hW.mono LD.out.size))))) ?_
      refine AnyB.take 21 (.int .i64 (np : Int)) rfl (by kernel_rfl) (by kernel_rfl) (by kernel_rfl) (fun _ _ _ h => h) (by kernel_rfl) (fun W hW => by kernel_rfl) ?_
      refine AnyB.take 25 (.string ⟨ll.toArray⟩) rfl (by kernel_rfl) (by kernel_rfl) (by kernel_rfl) (fun _ _ _ h => h) (by kernel_rfl) (fun W hW => by kernel_rfl) ?_
      refine AnyB.take 27 (.pointer (some ⟨wo.heap.size, 4, none⟩)) rfl (by kernel_rfl) (by kernel_rfl) (by kernel_rfl) (fun _ _ _ h => h) (by kernel_rfl) (fun W hW => y_field (sv := .pointer (some ⟨wo.heap.size, 0, none⟩)) rfl (by kernel_rfl) (f_f4z W wo.heap.size)) ?_
      refine AnyB.take 28 (.slice Ap np cp) rfl (by kernel_rfl) (by kernel_rfl) (by kernel_rfl) (fun _ _ _ h => h) (by kernel_rfl) (fun W hW => y_load (sv := .pointer (some ⟨wo.heap.size, 4, none⟩)) rfl (by kernel_rfl) (l_Sl W wo.heap.size 4 Ap np cp (D4.out W (LD.out.trans (hW.mono LD.out.size))))) ?_
      refine AnyB.call 16 26 #[.int .i64 (nr : Int)] (by kernel_rfl) rfl (by kernel_rfl) (by kernel_rfl) ?_
      refine (HTr.out _ LD.out).mono ?_
      rintro e w7 ⟨rfl, hb7⟩
      have LD1 := Lib.hid (LD.out.trans (hb7.mono LD.out.size))
      refine ⟨_, rfl, hb7, ?_⟩
      refine AnyB.take 17 (.string ⟨q8.toArray⟩) rfl (by kernel_rfl) (by kernel_rfl) (by kernel_rfl) (fun _ _ _ h => h) (by kernel_rfl) (fun W hW => y_bin (x := .string ⟨q7.toArray⟩) (y := .string ⟨tr.toArray⟩) rfl (by kernel_rfl) (by kernel_rfl) rfl (add_S W _ _ q8 F8.out G7.out Gr.out)) ?_
      refine AnyB.take 18 (.string ⟨q9.toArray⟩) rfl (by kernel_rfl) (by kernel_rfl) (by kernel_rfl) (fun _ _ _ h => h) (by kernel_rfl) (fun W hW => y_bin (x := .string ⟨q8.toArray⟩) (y := .string ⟨#[32]⟩) rfl (by kernel_rfl) (by kernel_rfl) rfl (add_S W _ _ q9 F9.out G8.out (by simp))) ?_
      refine AnyB.call 22 26 #[.int .i64 (np : Int)] (by kernel_rfl) rfl (by kernel_rfl) (by kernel_rfl) ?_
      refine (HTp.out _ LD1.out).mono ?_
      rintro e w7 ⟨rfl, hb7⟩
      have LD12 := Lib.hid (LD1.out.trans (hb7.mono LD1.out.size))
      refine ⟨_, rfl, hb7, ?_⟩
      refine AnyB.take 23 (.string ⟨q10.toArray⟩) rfl (by kernel_rfl) (by kernel_rfl) (by kernel_rfl) (fun _ _ _ h => h) (by kernel_rfl) (fun W hW => y_bin (x := .string ⟨q9.toArray⟩) (y := .string ⟨tp.toArray⟩) rfl (by kernel_rfl) (by kernel_rfl) rfl (add_S W _ _ q10 F10.out G9.out Gp.out)) ?_
      refine AnyB.take 24 (.string ⟨q11.toArray⟩) rfl (by kernel_rfl) (by kernel_rfl) (by kernel_rfl) (fun _ _ _ h => h) (by kernel_rfl) (fun W hW => y_bin (x := .string ⟨q10.toArray⟩) (y := .string ⟨#[10]⟩) rfl (by kernel_rfl) (by kernel_rfl) rfl (add_S W _ _ q11 F11.out G10.out (by simp))) ?_
      refine AnyB.take 26 (.string ⟨q12.toArray⟩) rfl (by kernel_rfl) (by kernel_rfl) (by kernel_rfl) (fun _ _ _ h => h) (by kernel_rfl) (fun W hW => y_bin (x := .string ⟨q11.toArray⟩) (y := .string ⟨ll.toArray⟩) rfl (by kernel_rfl) (by kernel_rfl) rfl (add_S W _ _ q12 F12.out G11.out Gl.out)) ?_
      refine AnyB.call 29 27 #[.slice Ap np cp] (by kernel_rfl) rfl (by kernel_rfl) (by kernel_rfl) ?_
      refine (HRw2.out _ LD12.out).mono ?_
      rintro e w7 ⟨rfl, hb7⟩
      have LD123 := Lib.hid (LD12.out.trans (hb7.mono LD12.out.size))
      refine ⟨_, rfl, hb7, ?_⟩
      refine AnyB.take 30 (.string ⟨q13.toArray⟩) rfl (by kernel_rfl) (by kernel_rfl) (by kernel_rfl) (fun _ _ _ h => h) (by kernel_rfl) (fun W hW => y_bin (x := .string ⟨q12.toArray⟩) (y := .string ⟨pp.toArray⟩) rfl (by kernel_rfl) (by kernel_rfl) rfl (add_S W _ _ q13 F13.out G12.out Gq.out)) ?_
      refine AnyB.take 31 (.string ⟨q13.toArray⟩) rfl (by kernel_rfl) (by kernel_rfl) (by kernel_rfl) (fun _ _ _ h => h) (by kernel_rfl) (fun W hW => by kernel_rfl) ?_
      refine AnyB.done _ (by kernel_rfl) ?_
      go_simp
      have L9 := Lib.hid (L2.out.trans (LD123.out.mono L2.out.size))
      clear LD LD1 LD12 LD123 L8 L2 HTr HTp HRw2 D0 D1 D2 D3 D4 F1 G1 F2 G2 F3 G3 F4 G4 F5 G5 F6 G6 F7 G7 F8 G8 F9 G9 F10 G10 F11 G11 F12 G12 F13 G13 G0 Gn Gh Gb Gr Gp Gl Gq HWB
      go_wp2_with fail
      go_roundw
      case rel => exact ⟨k + 1, q13, by omega, by go_num, rfl, L9, HNew⟩
      case measure => simp [intOf]; omega
end Go.Proofs.YtnboagmibhllpaaGreatDoor.Ro
