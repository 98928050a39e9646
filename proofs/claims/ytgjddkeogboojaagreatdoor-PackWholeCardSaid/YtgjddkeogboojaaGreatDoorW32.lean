/-
  Whole entries of a set's objects are resolved to these.
  What the rows' condition gives; a world that meets it; arguments that read as they did, and what they may be. One entry that comes in.
-/
import Derived.Test.YtgjddkeogboojaaGreatDoorW27
import Derived.Test.YtgjddkeogboojaaGreatDoorW23
import Derived.Test.YtgjddkeogboojaaGreatDoorW31
import Derived.Carry
import Derived.Test.YtgjddkeogboojaaGreatDoorCards
import Derived.Test.YtgjddkeogboojaaGreatDoorTie
import Derived.WalkKit
import Derived.ProofKit
import Derived.OpenShut
import Derived.Deep.DeepHandedRow
import Derived.LaidLaws
import Derived.LaidHandle
import Derived.Stop.LaidErr
import Derived.Stop.LaidTwo
import Derived.Lib.LaidU8
import Derived.Test.YtgjddkeogboojaaGreatDoorW21
set_option maxHeartbeats 16000000
set_option maxRecDepth 100000
namespace Go.Proofs.YtgjddkeogboojaaGreatDoor.Pk
open Go.Proofs.YtgjddkeogboojaaGreatDoor
open Go Go.RowKit Go.Maps
theorem le_sum {α : Type} (f : α → Nat) : ∀ {l : List α} {x : α}, x ∈ l → f x ≤ (l.map f).sum
 | y :: l, x, h => by
   rw [List.map_cons, List.sum_cons]
   rcases List.mem_cons.1 h with rfl | h
   · omega
   · have := le_sum f h; omega
theorem l_obO {W : World} {g o : Nat} {k : Int} {d : Bs} (h1 : W.cell? ⟨g, o, none⟩ = some (.int .i64 k)) (h2 : W.cell? ⟨g, o + 1, none⟩ = some (.string ⟨d.toArray⟩)) : (Instr.loadAt 37 (.pointer (some ⟨g, o, none⟩))).run Tryz.prog W = .ok (.agg #[.int .i64 k, .string ⟨d.toArray⟩]) W := by simp [go_sem, h1, h2]
theorem l_obH {W : World} {g o : Nat} {k : Int} {d : Bs} (h1 : W.cell? ⟨g, o + 1, none⟩ = some (.int .i64 k)) (h2 : W.cell? ⟨g, o + 2, none⟩ = some (.string ⟨d.toArray⟩)) : (Instr.loadAt 37 (.pointer (some ⟨g, o + 1, none⟩))).run Tryz.prog W = .ok (.agg #[.int .i64 k, .string ⟨d.toArray⟩]) W := by simp [go_sem, h1, h2]
theorem l_I {W : World} {g o : Nat} {k : Int} (h1 : W.cell? ⟨g, o, none⟩ = some (.int .i64 k)) : (Instr.loadAt 3 (.pointer (some ⟨g, o, none⟩))).run Tryz.prog W = .ok (.int .i64 k) W := by simp [go_sem, h1]
theorem at_o0 (W : World) (g n c k : Nat) (hk : k < n) : (Instr.indexAt 35 (.slice (some ⟨g, 0, none⟩) n c) (.int .i64 (k : Int))).run Tryz.prog W = .ok (.pointer (some ⟨g, k * 2, none⟩)) W := by
 have h1 : (k : Int) < (n : Int) := by omega
 simp [go_sem, h1]
theorem at_i0 (W : World) (g n c k : Nat) (hk : k < n) : (Instr.indexAt 43 (.slice (some ⟨g, 0, none⟩) n c) (.int .i64 (k : Int))).run Tryz.prog W = .ok (.pointer (some ⟨g, k * 1, none⟩)) W := by
 have h1 : (k : Int) < (n : Int) := by omega
 simp [go_sem, h1]
theorem at_hh (W : World) (g o n c k : Nat) (hk : k < n) : (Instr.indexAt 38 (.slice (some ⟨g, o, none⟩) n c) (.int .i64 (k : Int))).run Tryz.prog W = .ok (.pointer (some ⟨g, o + k * 3, none⟩)) W := by
 have h1 : (k : Int) < (n : Int) := by omega
 simp [go_sem, h1]
theorem fhh_1 (W : World) (b o : Nat) : (Instr.fieldAt 47 (.pointer (some ⟨b, o, none⟩)) 1).run Tryz.prog W = .ok (.pointer (some ⟨b, o + 1, none⟩)) W := by simp [go_sem]
theorem neq_ob (W : World) (k : Int) (d : ByteArray) : (binOp .neq 37 (.agg #[.int .i64 k, .string d]) (.agg #[.int .i64 k, .string d])).run Tryz.prog W = .ok (.bool false) W := by simp [go_sem]
theorem grd_ob (W : World) (x y : Operand) (k : Int) (d : ByteArray) : (eqGuard .neq 37 x y (.agg #[.int .i64 k, .string d]) (.agg #[.int .i64 k, .string d])).run Tryz.prog W = .ok () W := by simp [eqGuard, go_sem]
theorem neq_ii (W : World) (x : Int) : (binOp .neq 3 (.int .i64 x) (.int .i64 x)).run Tryz.prog W = .ok (.bool false) W := by simp [go_sem]
theorem own_cells2 {w : World} {B : Nat} {A : Option Addr} {n c : Nat} {l : List (Int × Bs)} (h : NewO B w (.slice A n c) l) (hn : n = l.length) (h0 : 0 < n) : ∃ g, A = some ⟨g, 0, none⟩ ∧ ∀ k, k < n → w.cell? ⟨g, k * 2, none⟩ = some (.int .i64 (l.getD k (0, [])).1) ∧ w.cell? ⟨g, k * 2 + 1, none⟩ = some (SV (l.getD k (0, [])).2) := by
 obtain ⟨g, c', e, hc⟩ := own_at (k := 2) (f := obC) (fun _ => rfl) h (by omega)
 refine ⟨g, by cases e; rfl, fun k hk => ?_⟩
 have hx : l[k]? = some (l.getD k (0, [])) := by rw [List.getD_eq_getElem?_getD, List.getElem?_eq_getElem (by omega)]; rfl
 exact ⟨hc k _ hx 0 (by omega), hc k _ hx 1 (by omega)⟩
theorem own_cells1 {w : World} {B : Nat} {A : Option Addr} {n c : Nat} {l : List Int} (h : NewI B w (.slice A n c) l) (hn : n = l.length) (h0 : 0 < n) : ∃ g, A = some ⟨g, 0, none⟩ ∧ ∀ k, k < n → w.cell? ⟨g, k * 1, none⟩ = some (.int .i64 (l.getD k 0)) := by
 obtain ⟨g, c', e, hc⟩ := own_at (k := 1) (f := intC) (fun _ => rfl) h (by omega)
 refine ⟨g, by cases e; rfl, fun k hk => ?_⟩
 have hx : l[k]? = some (l.getD k 0) := by rw [List.getD_eq_getElem?_getD, List.getElem?_eq_getElem (by omega)]; rfl
 exact hc k _ hx 0 (by omega)
theorem own_sl {α : Type} {t : TypeId} {k : Nat} {f : α → List Value} {w : World} {B : Nat} {v : Value} {l : List α} (h : OwK t k f w B v l) : ∃ A c, v = .slice A l.length c := z62 h
theorem whole_small {s : List Hld} (h60 : s.length ≤ 60) (hf : ∀ h ∈ s, Fine h) (hd : (s.map fun h => h.data.length).sum < 9000) : Smal (z2g s) ∧ (z1j (z2g s)).length ≤ 40000 ∧ ∀ e ∈ z2g s, e.data.length ≤ 10000 := by
 have hr := z5k (s := s) (by omega) hf
 have h1 := (packL_len hr).1
 rw [whole_costs] at h1
 have hl : (z2g s).length = s.length := by unfold z2g; rw [List.length_map]
 have hm : ∀ e ∈ z2g s, e.base = [] ∧ e.data.length ≤ 10000 := fun e he => by
  obtain ⟨h, hh, rfl⟩ := List.mem_map.1 he
  refine ⟨rfl, ?_⟩
  have := le_sum (fun h : Hld => h.data.length) hh
  show h.data.length ≤ 10000
  omega
 exact ⟨⟨by omega, fun e he => ⟨by rw [(hm e he).1]; simp, by have := (hm e he).2; omega⟩⟩, by omega, fun e he => (hm e he).2⟩
theorem Whole_law (w : World) (hw : Wd w) {v : Value} {ob : List (Int × Bs)} (h : ObjsR w v ob) (hl : ob.length ≤ limW) :
 Calls Tryz.prog 5 #[v] w (z05 (.bool true) w) := by
 obtain ⟨A, c, rfl⟩ := h.shape
 obtain ⟨N, hN⟩ : ∃ N, N = ob.length := ⟨_, rfl⟩
 have hNl : N ≤ 140737488355328 := by unfold limW at hl; omega
 rw [← hN] at h ⊢
 have HH := zh (head_any w hw); have Hw := zh hw; have HO := zh h; have HN := zh hN
 clear h hl hw hN
 go_enter Tryz.func5, Tryz.ntmps5
 go_wp2_with fail
 refine HH.out.mono ?_
 rintro e w1 ⟨rfl, l9⟩
 have L1 := zh l9
 clear l9 HH
 go_wp2_with fail
 go_loopw [4, 5] (fun nv iv wr => Hid (Below w.heap.size w wr) ∧ ∃ k m : Nat, k ≤ N ∧ m ≤ N + 20000 ∧ iv = .int .i64 k ∧ nv = .int .i64 m ∧ Hid (m = N + costC 9000 (ob.take k))) (fun _ iv _ => N - (intOf iv).toNat)
 case atStart => exact ⟨L1, 0, N, Nat.zero_le _, by omega, rfl, rfl, zh (by simp [costC])⟩
 case round =>
  obtain ⟨hB, k, m, hk, hm, rfl, rfl, hS⟩ := hrel
  by_cases hm9 : m < 9000
  · by_cases hlt : k < N
    · obtain ⟨g, o, c', e, _, hg⟩ := HO.out.pos (by have := HN.out; omega)
      obtain rfl : A = some ⟨g, o, none⟩ := by rw [← HN.out] at e; cases e; rfl
      clear e
      have hkl : k < ob.length := by have := HN.out; omega
      obtain ⟨c0, c1⟩ := ObjsR.cells (HO.out.below hB.out zl) k hkl
      have hsn := costC_snoc 9000 hkl
      obtain ⟨d, hd⟩ : ∃ d, d = (ob.getD k (0, [])).2 := ⟨_, rfl⟩
      rw [← hd] at c1 hsn
      unfold SV at c1
      obtain ⟨m2, hm2⟩ : ∃ m2, m2 = m + min d.length 9000 := ⟨_, rfl⟩
      have HS2 : Hid (m2 = N + costC 9000 (ob.take (k + 1))) := zh (by rw [hsn, hm2, hS.out]; omega)
      have t1 : IntKind.i64.wrap ((m : Int) + min (d.length : Int) 9000) = (m2 : Int) := by rw [show ((m : Int) + min (d.length : Int) 9000) = (m2 : Int) by omega]; exact IntWalk.i64_in _ (by omega)
      have t2 : (m : Int) + min (d.length : Int) 9000 = (m2 : Int) := by omega
      have hm2b : m2 ≤ N + 20000 := by omega
      have hmI : (m : Int) < 9000 := by omega
      have T2 := zh t2
      clear t2 hsn hd hm2 hg hkl c0 hS
      go_wp2_with fail
      go_roundw
      case rel => exact ⟨hB, k + 1, m2, hlt, hm2b, by go_num, by first | rfl | (rw [T2.out]) | go_num, HS2⟩
      case measure => simp [intOf]; omega
    obtain rfl : k = N := by omega
    have hCost : ob.length + costC 9000 ob < 9000 := by
     have h := hS.out
     rw [HN.out, List.take_length] at h
     omega
    have HCost := zh hCost
    have hmI : (m : Int) < 9000 := by omega
    have hmI2 : ¬ (9000 : Int) ≤ (m : Int) := by omega
    have HB5 := zh hB.out
    clear hS hCost hB hm9 hk
    by_cases hN6 : 60 < k
    · have hNI : (60 : Int) < (k : Int) := by omega
      go_wp2_with fail
      go_ret
      exact ⟨rfl, HB5.out⟩
    have hNI : ¬ (60 : Int) < (k : Int) := by omega
    have hN60 : k ≤ 60 := by omega
    have HN60 : Hid (ob.length ≤ 60) := zh (by have := HN.out; omega)
    have hcl := costC_lt (c := 9000) (o := ob) (by have := HCost.out; omega)
    have HCl := zh hcl
    have HRS := zh (Ct.Set_p (w := wr) (HO.out.below HB5.out zl) (by have := HN60.out; omega) (fun x hx => by have := hcl.2 x hx; omega))
    clear hN6 hcl hN60
    go_wp2_with fail
    refine HRS.out.mono ?_
    rintro e w2 ⟨u2, s, rfl, h2, s2, k2, b2⟩
    have L2 := zh (HB5.out.trans (b2.mono HB5.out.size))
    obtain ⟨As, cs, rfl⟩ := h2.shape
    have HF : Hid (∀ h ∈ s, Fine h) := zh fun h hh => (set_fine s2 hh).1
    have HD : Hid ((s.map fun h => h.data.length).sum < 9000) := zh (by have h1 := set_cost s2; have h2 := HCl.out.1; have h3 := HCost.out; omega)
    have HSl : Hid (s.length ≤ 60) := zh (by have := HN60.out; omega)
    have HWs := zh (whole_small HSl.out HF.out HD.out)
    have HRr := zh (z5k (s := s) (by have := HSl.out; omega) HF.out)
    have HRes := zh (whole_res (s := s) (by have := HSl.out; omega) HF.out [])
    have HWh := zh (Whole_any h2 (by have := HSl.out; omega))
    have H2 := zh h2
    obtain ⟨n, hn⟩ : ∃ n, n = s.length := ⟨_, rfl⟩
    have Hn := zh hn
    rw [← hn] at H2 HWh ⊢
    clear h2 s2 k2 b2 HRS hn
    go_wp2_with fail
    refine HWh.out.mono ?_
    rintro e w3 ⟨u3, rfl, o3, b3⟩
    have L3 := zh (L2.out.trans (b3.mono L2.out.size)); have H3 := zh (H2.out.below b3 zl)
    have o3' : NewE w2.heap.size w3 u3 (z2g s) := o3
    have e3 := o3'.rd
    obtain ⟨A3, c3, rfl⟩ := e3.shape
    have HPut := zh (Put_any e3 HWs.out.1 (fun _ => HWs.out.2.1) (Hw.out.below L3.out).ob.pr (Hw.out.below L3.out).et)
    obtain ⟨q3, hq3⟩ : ∃ q, q = (z2g s).length := ⟨_, rfl⟩
    rw [← hq3] at HPut ⊢
    clear o3 o3' e3 b3 HWh H2 hq3
    go_wp2_with fail
    refine HPut.out.mono ?_
    rintro e w4 ⟨b4, ⟨hr, -⟩ | ⟨hr, A4, N4, c4, rfl, hN4, o4⟩⟩
    · rw [HRr.out] at hr; cases hr
    have L4 := zh (L3.out.trans (b4.mono L3.out.size)); have H4 := zh (H3.out.below b4 zl)
    have HGet := zh (Get_any o4.rb HWs.out.2.1 (Hw.out.below L4.out).ob.pr (Hw.out.below L4.out).et)
    have HPg := zh (put_get HRr.out (by have := HWs.out.2.1; omega))
    clear hr hN4 o4 b4 HPut H3
    go_wp2_with fail
    refine HGet.out.mono ?_
    rintro e w5 ⟨b5, ⟨l5, v5, hg5, rfl, o5⟩ | ⟨hg5, -⟩⟩
    rotate_left
    · rw [HPg.out] at hg5; cases hg5
    rw [HPg.out] at hg5
    obtain rfl := Option.some.inj hg5
    have L5 := zh (L4.out.trans (b5.mono L4.out.size)); have H5 := zh (H4.out.below b5 zl)
    have e5 := o5.rd
    obtain ⟨A5, c5, rfl⟩ := e5.shape
    have HRs := zh (z5j e5 HWs.out.1 HWs.out.2.2 (Hw.out.below L5.out))
    have HE5 := zh e5
    obtain ⟨q5, hq5⟩ : ∃ q, q = (z2g s).length := ⟨_, rfl⟩
    rw [← hq5] at HRs HE5 ⊢
    clear hg5 o5 e5 b5 HGet H4 hq5 HPg
    go_wp2_with fail
    refine HRs.out.mono ?_
    intro e w6 hh
    unfold RsOP at hh
    rw [HRes.out] at hh
    obtain ⟨b6, v6, rfl, o6⟩ := hh
    have L6 := zh (L5.out.trans (b6.mono L5.out.size)); have H6 := zh (H5.out.below b6 zl)
    obtain ⟨A6, c6, rfl⟩ := own_sl o6
    have O6 := zh o6
    have h6l : ((z1u s).map obM).length = n := by rw [List.length_map, Hn.out]; unfold z1u; rw [List.length_map]
    have H6l := zh h6l
    rw [h6l] at O6 ⊢
    have HDp := zh (Deep_nil (HE5.out.below b6 zl) HWs.out.1 HWs.out.2.2 (Hw.out.below L6.out))
    clear o6 b6 HRs H5 HE5 h6l
    go_wp2_with fail
    refine HDp.out.mono ?_
    intro e w7 hh
    unfold RsIP at hh
    rw [HRes.out] at hh
    obtain ⟨b7, v7, rfl, o7⟩ := hh
    have L7 := zh (L6.out.trans (b7.mono L6.out.size)); have H7 := zh (H6.out.below b7 zl)
    obtain ⟨A7, c7, rfl⟩ := own_sl o7
    have O7 := zh o7; have O67 : Hid (NewO w5.heap.size w7 (.slice A6 n c6) ((z1u s).map obM)) := zh (OwK.below O6.out b7 zl)
    have h7l : ((z1u s).map dpM).length = n := by rw [List.length_map, Hn.out]; unfold z1u; rw [List.length_map]
    have H7l := zh h7l
    rw [h7l] at O7 ⊢
    clear o7 b7 HDp H6 O6 h7l
    have hnn : ((n : Int) != (n : Int)) = false := by simp
    go_wp2_with fail
    clear hnn
    go_loopw [16] (fun iv wr => Hid (Below w7.heap.size w7 wr) ∧ ∃ k : Nat, k ≤ n ∧ iv = .int .i64 k) (fun iv _ => n - (intOf iv).toNat)
    case atStart => exact ⟨zh (Below.refl _ _), 0, Nat.zero_le _, rfl⟩
    case round =>
     obtain ⟨hB, k, hk, rfl⟩ := hrel
     by_cases hlt : k < n
     · obtain ⟨ga, rfl, hca⟩ := own_cells2 O67.out H6l.out.symm (by omega)
       obtain ⟨gd, rfl, hcd⟩ := own_cells1 O7.out H7l.out.symm (by omega)
       obtain ⟨gs, os, c', e, _, hg⟩ := H7.out.pos (by have := Hn.out; omega)
       obtain rfl : As = some ⟨gs, os, none⟩ := by rw [← Hn.out] at e; cases e; rfl
       clear e hg
       have hks : k < s.length := by have := Hn.out; omega
       obtain ⟨kd, hkd⟩ : ∃ x, x = (s.getD k z0h).kind := ⟨_, rfl⟩
       obtain ⟨dt, hdt⟩ : ∃ x, x = (s.getD k z0h).data := ⟨_, rfl⟩
       have eT : ((z1u s).map obM).getD k (0, []) = (kd, dt) := by
        have hl : k < (z1u s).length := by unfold z1u; rw [List.length_map]; exact hks
        rw [getD_map obM (z1u s) k hl noMd (0, [])]
        unfold z1u
        rw [getD_map heldM s k hks z0h noMd, hkd, hdt]
        rfl
       have eD : ((z1u s).map dpM).getD k 0 = 0 := by
        have hl : k < (z1u s).length := by unfold z1u; rw [List.length_map]; exact hks
        rw [getD_map dpM (z1u s) k hl noMd 0]
        unfold z1u
        rw [getD_map heldM s k hks z0h noMd]
        rfl
       have hB' : ∀ W, Below wr.drew.heap.size wr.drew W → Below w7.heap.size w7 W := fun W hW => hB.out.drew.trans (hW.mono hB.out.drew.size)
       have HL1 := zh (fun W (hW : Below wr.drew.heap.size wr.drew W) => l_obO (W := W) (g := ga) (o := k * 2) (k := kd) (d := dt) (by
        have h := ((own_cells2 (OwK.below O67.out (hB' W hW) zl) H6l.out.symm (by omega)))
        obtain ⟨g', e, hc⟩ := h
        cases e
        have := (hc k hlt).1
        rwa [eT] at this) (by
        have h := ((own_cells2 (OwK.below O67.out (hB' W hW) zl) H6l.out.symm (by omega)))
        obtain ⟨g', e, hc⟩ := h
        cases e
        have := (hc k hlt).2
        rwa [eT] at this))
       have HL2 := zh (fun W (hW : Below wr.drew.heap.size wr.drew W) => l_obH (W := W) (g := gs) (o := os + k * 3) (k := kd) (d := dt) (by
        have := (HldsR.cells (H7.out.below (hB' W hW) zl) k hks).2.1
        rwa [← hkd] at this) (by
        have := (HldsR.cells (H7.out.below (hB' W hW) zl) k hks).2.2
        rwa [← hdt] at this))
       have HL3 := zh (fun W (hW : Below wr.drew.heap.size wr.drew W) => l_I (W := W) (g := gd) (o := k * 1) (k := 0) (by
        have h := ((own_cells1 (OwK.below O7.out (hB' W hW) zl) H7l.out.symm (by omega)))
        obtain ⟨g', e, hc⟩ := h
        cases e
        have := hc k hlt
        rwa [eD] at this))
       have HBd := zh hB.out.drew
       have hltI : (k : Int) < (n : Int) := by omega
       have hkb : k < 60 := by have := HSl.out; have := Hn.out; omega
       clear hca hcd hkd hdt eT eD hB' hB hks
       go_upto_region 20 with fail
       refine AnyB.start (by kernel_rfl) ?_
       refine AnyB.tk 0 (.slice (some ⟨ga, 0, none⟩) n c6) rfl (fun W hW => by kernel_rfl) ?_
       refine AnyB.tk 1 (.int .i64 (k : Int)) rfl (fun W hW => by kernel_rfl) ?_
       refine AnyB.tk 2 (.pointer (some ⟨ga, k * 2, none⟩)) rfl (fun W hW => z16 (sv := .slice (some ⟨ga, 0, none⟩) n c6) (iv := .int .i64 (k : Int)) rfl (by kernel_rfl) (by kernel_rfl) (at_o0 W ga n c6 k hlt)) ?_
       refine AnyB.tk 3 (.agg #[.int .i64 kd, .string ⟨dt.toArray⟩]) rfl (fun W hW => z0e (sv := .pointer (some ⟨ga, k * 2, none⟩)) rfl (by kernel_rfl) (HL1.out W hW)) ?_
       refine AnyB.tk 4 (.slice (some ⟨gs, os, none⟩) n cs) rfl (fun W hW => by kernel_rfl) ?_
       refine AnyB.tk 5 (.int .i64 (k : Int)) rfl (fun W hW => by kernel_rfl) ?_
       refine AnyB.tk 6 (.pointer (some ⟨gs, os + k * 3, none⟩)) rfl (fun W hW => z16 (sv := .slice (some ⟨gs, os, none⟩) n cs) (iv := .int .i64 (k : Int)) rfl (by kernel_rfl) (by kernel_rfl) (at_hh W gs os n cs k hlt)) ?_
       refine AnyB.tk 7 (.pointer (some ⟨gs, os + k * 3 + 1, none⟩)) rfl (fun W hW => z0u (sv := .pointer (some ⟨gs, os + k * 3, none⟩)) rfl (by kernel_rfl) (fhh_1 W gs (os + k * 3))) ?_
       refine AnyB.tk 8 (.agg #[.int .i64 kd, .string ⟨dt.toArray⟩]) rfl (fun W hW => z0e (sv := .pointer (some ⟨gs, os + k * 3 + 1, none⟩)) rfl (by kernel_rfl) (HL2.out W hW)) ?_
       refine AnyB.tk 9 (.bool false) rfl (fun W hW => y_bin (x := .agg #[.int .i64 kd, .string ⟨dt.toArray⟩]) (y := .agg #[.int .i64 kd, .string ⟨dt.toArray⟩]) rfl (by kernel_rfl) (by kernel_rfl) (grd_ob W _ _ kd _) (neq_ob W kd _)) ?_
       refine AnyB.tk 10 (.bool false) rfl (fun W hW => by kernel_rfl) ?_
       refine AnyB.tk 11 (.slice (some ⟨gd, 0, none⟩) n c7) rfl (fun W hW => by kernel_rfl) ?_
       refine AnyB.tk 12 (.int .i64 (k : Int)) rfl (fun W hW => by kernel_rfl) ?_
       refine AnyB.tk 13 (.pointer (some ⟨gd, k * 1, none⟩)) rfl (fun W hW => z16 (sv := .slice (some ⟨gd, 0, none⟩) n c7) (iv := .int .i64 (k : Int)) rfl (by kernel_rfl) (by kernel_rfl) (at_i0 W gd n c7 k hlt)) ?_
       refine AnyB.tk 14 (.int .i64 0) rfl (fun W hW => z0e (sv := .pointer (some ⟨gd, k * 1, none⟩)) rfl (by kernel_rfl) (HL3.out W hW)) ?_
       refine AnyB.tk 15 (.bool false) rfl (fun W hW => y_bin (x := .int .i64 0) (y := .int .i64 0) rfl (by kernel_rfl) (by kernel_rfl) (by kernel_rfl) (neq_ii W 0)) ?_
       refine AnyB.tk 16 (.bool false) rfl (fun W hW => by kernel_rfl) ?_
       refine AnyB.done _ (by kernel_rfl) ?_
       clear HL1 HL2 HL3
       go_simp
       go_wp2_with fail
       go_roundw
       case rel => exact ⟨HBd, k + 1, hlt, by go_num⟩
       case measure => simp [intOf]; omega
     · obtain rfl : k = n := by omega
       have hltI : ¬ (k : Int) < (k : Int) := by omega
       have HBf := zh (L7.out.trans (hB.out.mono L7.out.size))
       clear hB
       go_wp2_with fail
       go_ret
       exact ⟨rfl, HBf.out⟩
  · have hmI : ¬ (m : Int) < 9000 := by omega
    have hmI2 : (9000 : Int) ≤ (m : Int) := by omega
    clear hS hm9
    by_cases hlt : k < N
    · have hkI : (k : Int) < (N : Int) := by omega
      go_wp2_with fail
      go_ret
      exact ⟨rfl, hB.out⟩
    · have hkI : ¬ (k : Int) < (N : Int) := by omega
      go_wp2_with fail
      go_ret
      exact ⟨rfl, hB.out⟩
end Go.Proofs.YtgjddkeogboojaaGreatDoor.Pk
namespace Go.Proofs.YtgjddkeogboojaaGreatDoor.Pl
open Go.Proofs.YtgjddkeogboojaaGreatDoor Go.Proofs.YtgjddkeogboojaaGreatDoor.Pk
open Go Go.ChangeShapes Go.WideShapes Go.ChangeAt Go.RowKit
theorem own : ownKnob Tryz.prog.godebug = none := by kernel_rfl
theorem gTab : Tryz.prog.globalNamed "internal/strconv.uint64pow10" = some 8 := by kernel_rfl
theorem gPr : Tryz.prog.globalNamed "sacristy/digest.primes" = some 1 := by kernel_rfl
theorem gPrT : (Tryz.prog.globals[1]?).map (·.type) = some 200 := by kernel_rfl
theorem gOther : Tryz.prog.globalNamed "sacristy/object.errOther" = some 7 := by kernel_rfl
theorem gWrong : Tryz.prog.globalNamed "sacristy/object.errWrong" = some 4 := by kernel_rfl
theorem gOver : Tryz.prog.globalNamed "sacristy/object.errOver" = some 3 := by kernel_rfl
theorem etG : Tryz.prog.globalNamed "errors.errorType" = some 0 := by kernel_rfl
theorem etR : (Tryz.prog.cutTypes.find? (·.1 == "internal/reflectlite.rtype")).map (·.2) = some 172 := by kernel_rfl
theorem etT : Tryz.prog.types.size = 364 := by kernel_rfl
theorem etOne : ((List.range 364).filter fun t => Tryz.prog.rowNamed t [101, 114, 114, 111, 114]) = [64] := by kernel_rfl
theorem star : "*" ++ "errors.errorString" = "*errors.errorString" := by decide
theorem rowErr (u : TypeId) (h : Tryz.prog.typeName? 3 u = some "*errors.errorString") : u = 336 :=
 typeName_ptr_named (nm := "errors.errorString") (by rw [star]; kernel_rfl) (by kernel_rfl) (by decide) u (by rw [star]; exact h)
theorem tab_data : (Rows.laid_internal_strconv_uint64pow10 : DataW Unit) = Lib.tabData .u64 Lib.pow10Tab := by rfl
def primesD : List (DataW Unit) := match (Rows.laid_sacristy_digest_primes : DataW Unit) with | .agg ds => ds | _ => []
theorem primesD_eq : (Rows.laid_sacristy_digest_primes : DataW Unit) = .agg primesD := rfl
theorem primes_data : primesD.map (fun d => match d with | .lit (.int .u16 n) => n | _ => 0) = (List.range 64).map fun i => (primeN i : Int) := by decide +kernel
theorem prime_of {i : Nat} {n : Int} (hi : i < 64) (h : primesD[i]? = some (.lit (.int .u16 n))) : n = (primeN i : Int) := by
 have h1 := congrArg (·[i]?) primes_data
 simpa [List.getElem?_map, h, List.getElem?_range hi] using h1
def laidD : List (String × DataW Unit) := [("math/bits.deBruijn32tab", Rows.laid_math_bits_deBruijn32tab), ("math/bits.deBruijn64tab", Rows.laid_math_bits_deBruijn64tab), ("internal/strconv.uint64pow10", Rows.laid_internal_strconv_uint64pow10), ("sacristy/digest.primes", Rows.laid_sacristy_digest_primes), ("sacristy/object.errOther", Rows.laid_sacristy_object_errOther), ("sacristy/object.errWrong", Rows.laid_sacristy_object_errWrong), ("sacristy/object.errOver", Rows.laid_sacristy_object_errOver)]
def laidL : List (String × DataW Unit) := [("math/bits.deBruijn32tab", Rows.laid_math_bits_deBruijn32tab), ("math/bits.deBruijn64tab", Rows.laid_math_bits_deBruijn64tab), ("internal/strconv.uint64pow10", Rows.laid_internal_strconv_uint64pow10), ("sacristy/digest.primes", Rows.laid_sacristy_digest_primes), ("errors.errorType", Rows.laid_errors_errorType), ("sacristy/object.errOther", Rows.laid_sacristy_object_errOther), ("sacristy/object.errWrong", Rows.laid_sacristy_object_errWrong), ("sacristy/object.errOver", Rows.laid_sacristy_object_errOver)]
theorem z2z {W : World} {n : String} {g : Nat} {v : Value} (hg : Tryz.prog.globalNamed n = some g) (h : W.var? Tryz.prog n = some #[v]) : W.cell? ⟨g, 0, none⟩ = some v := by
 simpa using World.var?_cell hg h 0
theorem et_of {W : World} (h : handlesMet Tryz.prog [("errors.errorType", Rows.laid_errors_errorType)] W) : Et W := by
 obtain ⟨name, u, ty, e1, e2, e3, e4, e5⟩ := h _ (List.mem_singleton.2 rfl)
 have en : name = [101, 114, 114, 111, 114] := (Option.some.inj e1).symm
 subst en
 obtain rfl := Option.some.inj (etR.symm.trans e2)
 have hm : ty ∈ (List.range 364).filter fun t => Tryz.prog.rowNamed t [101, 114, 114, 111, 114] := List.mem_filter.2 ⟨List.mem_range.2 (by rw [← etT]; exact e3), e4⟩
 rw [etOne] at hm
 obtain rfl := List.mem_singleton.1 hm
 have hh : typeHandle Tryz.prog 64 = .pointer (some ⟨11, 64, none⟩) := by kernel_rfl
 rw [hh] at e5
 unfold Et
 simpa using World.var?_cell etG e5 0
theorem pr_of {W : World} (h' : laidMet Tryz.prog laidD W) : Pr W := by
 obtain ⟨g, t, cs, fuel, p, h1, h2, h3, h4⟩ := Lib.laidMet.reads h' (n := "sacristy/digest.primes") (d := Rows.laid_sacristy_digest_primes) (.tail _ (.tail _ (.tail _ (.head _))))
 obtain rfl := Option.some.inj (gPr.symm.trans h1)
 obtain rfl := Option.some.inj (gPrT.symm.trans h2)
 rw [primesD_eq] at h4
 intro i hi
 obtain ⟨fuel', d, q, hd, ht⟩ := Lib.array_elem Tryz.underlying200 h4 i hi
 have c1 : Tryz.prog.cellsOf 33 = 1 := by kernel_rfl
 rw [c1, Nat.mul_one] at ht
 obtain ⟨n, hcs, hx, _⟩ := DataW.trod_int Tryz.underlying33 ht
 have hn : d = .lit (.int .u16 n) := congrArg Prod.fst hx
 subst hn
 rw [prime_of hi hd] at hcs
 have hc : cs[i]? = some (.int .u16 (primeN i : Int)) := by
  have h5 := congrArg (·[0]?) hcs
  simpa [List.getElem?_take, List.getElem?_drop] using h5
 have := World.var?_cell gPr h3 i
 rw [this]
 simpa using hc
theorem ob_of_laid {W : World} (h : laidMetH Tryz.prog laidL W) : Ob W := by
 have h' : laidMet Tryz.prog laidD W ∧ handlesMet Tryz.prog [("errors.errorType", Rows.laid_errors_errorType)] W := h
 have t2 := h'.1.tail.tail
 have t4 := t2.tail.tail
 obtain ⟨ao, aw, so, sw, co, cw, ty0, ty1, ho, hw, _, _, _, _, _, _, hne, hbo, hbw⟩ := laid_sentinels2 (g0 := 7) (g1 := 4) t4 gOther (by kernel_rfl) gWrong (by kernel_rfl) Tryz.underlying64 rowErr Tryz.underlying336 Tryz.underlying354 rfl rfl Tryz.underlying9 (by kernel_rfl) (by kernel_rfl)
 obtain ⟨av, sv, hv, _⟩ := laid_sentinel (g := 3) t4.tail.tail gOver (by kernel_rfl) Tryz.underlying64 rowErr Tryz.underlying336 Tryz.underlying354 rfl rfl Tryz.underlying9 (by kernel_rfl) (by kernel_rfl)
 refine ⟨⟨⟨⟨_, z2z gOver hv⟩, ⟨aw, ao, fun e => hne e.symm, z2z gWrong hw, z2z gOther ho⟩, et_of h'.2⟩, ⟨aw, ao, cw, co, ty1, ty0, fun e => hne e.symm, z2z gWrong hw, z2z gOther ho, hbw, hbo⟩⟩, ?_, pr_of h'.1⟩
 rw [tab_data] at t2
 exact Lib.tabIs_of_head gTab (by kernel_rfl) Tryz.underlying310 Tryz.underlying111 (by kernel_rfl) (by kernel_rfl) t2
theorem wd_of_laid {W : World} (h : laidMetH Tryz.prog laidL W) : Wd W := by
 have h' : laidMet Tryz.prog laidD W ∧ handlesMet Tryz.prog [("errors.errorType", Rows.laid_errors_errorType)] W := h
 exact ⟨ob_of_laid h, et_of h'.2⟩
noncomputable def low : Nat := (World.holding Tryz.prog default ⟨#[], #[], []⟩).heap.size
def litsOf : DataW Unit → List Value
 | .agg ds => ds.map fun d => match d with | .lit (.int k n) => .int k n | _ => .nilIface
 | _ => []
def textOf : DataW Unit → ByteArray
 | .iface _ (.ptr (.agg [.lit (.string s)])) => ⟨s.toArray⟩
 | _ => ⟨#[]⟩
def setCells (cs : List Value) : Obj → Obj
 | .cells _ t frozen => .cells cs.toArray t frozen
 | o => o
noncomputable def laidWorld (os : Os) : World :=
 let w0 := World.holding Tryz.prog os ⟨#[.cells #[.string (textOf Rows.laid_sacristy_object_errOther)] 354, .cells #[.string (textOf Rows.laid_sacristy_object_errWrong)] 354, .cells #[.string (textOf Rows.laid_sacristy_object_errOver)] 354], #[], []⟩
 { w0 with heap := ((((((((w0.heap.modify 7 (setCells [.iface 336 (.pointer (some ⟨low, 0, none⟩))])).modify 4 (setCells [.iface 336 (.pointer (some ⟨low + 1, 0, none⟩))])).modify 3 (setCells [.iface 336 (.pointer (some ⟨low + 2, 0, none⟩))])).modify
    8 (setCells (litsOf Rows.laid_internal_strconv_uint64pow10))).modify 9 (setCells (litsOf Rows.laid_math_bits_deBruijn32tab))).modify 10 (setCells (litsOf Rows.laid_math_bits_deBruijn64tab))).modify 1 (setCells (litsOf Rows.laid_sacristy_digest_primes))).modify 0 (setCells [.iface 172 (.agg #[.pointer (some ⟨11, 64, none⟩)])])) }
theorem laid_met (os : Os) (args : Array Value) : laidMetH Tryz.prog laidL ((laidWorld os).forCall (fun _ _ => 0) ⟨#[], args, []⟩).memory :=
 laidMetH_of_parts (laidMet_of_run' 8 (by kernel_rfl) (by kernel_rfl)) (by kernel_rfl)
theorem laid_out : laidOutB Tryz.prog = true := by kernel_rfl
theorem z68 {H : Type} {enc : TypeId × Value → H} {W W' : World} (hb : Below W.heap.size W W') : ∀ {ts : List TypeId} {vs : List Value} {ds : List (DataW H)} {ps : List MemPlace},
 (∀ t ∈ ts, Tryz.prog.readableRec t = true ∧ t < Tryz.prog.types.size) → DataW.TrodAll enc Tryz.prog W 0 (fun _ => true) true ts vs ds ps → (∀ x ∈ ps, x.block < W.heap.size) → DataW.TrodAll enc Tryz.prog W' 0 (fun b => decide (b < W.heap.size)) true ts vs ds ps
 | [], [], [], _, _, h, _ => h
 | _ :: _, _ :: _, _ :: _, _, hT, ⟨p, q, h1, h2, e⟩, hs =>
   ⟨p, q, Below.trod laid_out (hT _ (List.mem_cons.2 (Or.inl rfl))).1 (hT _ (List.mem_cons.2 (Or.inl rfl))).2 h1 hb (fun x hx => hs x (by rw [e]; exact List.mem_append_left _ hx)),
     z68 hb (fun t ht => hT t (List.mem_cons.2 (Or.inr ht))) h2 (fun x hx => hs x (by rw [e]; exact List.mem_append_right _ hx)), e⟩
theorem fits_of {H : Type} {ts : List TypeId} {ds : List (DataW H)} (h : (DataW.weightsEach Tryz.prog ts ds).all (· ≤ reachBytes) = true) {j : Nat} {t : TypeId} {d : DataW H} (ht : ts[j]? = some t) (hd : ds[j]? = some d) : Fits t d := fun n hn => by
 simpa using List.all_eq_true.1 h _ (DataW.weights_mem_each ht hd n hn)
section
variable {H : Type} {enc : TypeId × Value → H} {W : World} {r : Go.Reach} {b0 : Nat} {v : Value} {d : DataW H} {ps : List MemPlace}
theorem objs_of (hval : Value.okWide Tryz.prog W r b0 35 v) (hd : DataW.Trod enc Tryz.prog W 0 (fun _ => true) true 35 v d ps) (hF : Fits 35 d) : ∃ l : List (Int × Bs), l.length ≤ limW ∧ ObjsR W v l := by
 obtain ⟨a, len, cap, rfl⟩ := okWide_slice Tryz.underlying35 hval
 obtain ⟨fuel, h⟩ := hd
 exact open_objs (v := .slice a len cap) h hF
end
end Go.Proofs.YtgjddkeogboojaaGreatDoor.Pl
