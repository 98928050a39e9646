/-
  RefsBack, walked.
-/
import Derived.Test.YtfnepffccenebaaGreatDoorROrd
import Derived.Test.YtfnepffccenebaaGreatDoorRHead
import Derived.Test.YtfnepffccenebaaGreatDoorRLawP
namespace Go.Proofs.YtfnepffccenebaaGreatDoor.Rf
open Go.Proofs.YtfnepffccenebaaGreatDoor
open Go Go.RowKit

theorem take_map_turn {u : List Upd} {k : Nat} {x : Upd} (hx : u[k]? = some x) : (u.take (k + 1)).map turn = (u.take k).map turn ++ [turn x] := by
  rw [List.take_add_one, hx, Option.toList_some, List.map_append]; rfl
theorem moved_succ {u : List Upd} {k : Nat} {x : Upd} (hx : u[k]? = some x) : (u.take (k + 1)).any (fun y => !(y.old == y.new)) = ((u.take k).any (fun y => !(y.old == y.new)) || !(x.old == x.new)) := by
  rw [List.take_add_one, hx, Option.toList_some, List.any_append]; simp
theorem moved_iff {u : List Upd} : u.any (fun y => !(y.old == y.new)) = true ↔ ∃ x ∈ u, x.old ≠ x.new := by
  rw [List.any_eq_true]
  exact ⟨fun ⟨x, hx, h⟩ => ⟨x, hx, by simpa using h⟩, fun ⟨x, hx, h⟩ => ⟨x, hx, by simpa using h⟩⟩
theorem FitU.turn {u : List Upd} (h : FitU u) : FitU (u.map turn) := fun x hx => by
  obtain ⟨y, hy, rfl⟩ := List.mem_map.1 hx
  exact ⟨(h y hy).1, (h y hy).2.2, (h y hy).2.1⟩
theorem Done.fit {l a : List Ref} {u : List Upd} (h : Done l a u) : Fit a := fun r hr => by
  have h1 := nameB_len (h.right'.name r hr); have h2 := named_len64 (h.right'.id r hr)
  unfold maxLen; omega
set_option maxRecDepth 100000 in
set_option maxHeartbeats 8000000 in
theorem Back_law (w : World) (lv : Value) (l : List Ref) (hv : RefsR w lv l) (hf : Fit l) (hl : l.length ≤ lim) (uv : Value) (u : List Upd) (hu : UpdsR w uv u) (hfu : FitU u) (hul : u.length ≤ lim) :
    Calls Tryz.prog 6 #[lv, uv] w (BoolB true w) := by
  obtain ⟨A, c, rfl⟩ := hv.shape
  obtain ⟨B, d, rfl⟩ := hu.shape
  obtain ⟨N, hN⟩ : ∃ N, N = u.length := ⟨_, rfl⟩
  obtain ⟨M, hM⟩ : ∃ M, M = l.length := ⟨_, rfl⟩
  rw [← hM] at hv
  rw [← hN] at hu
  rw [← hM, ← hN]
  have HH := Lib.hid (head_p w)
  have HV := Lib.hid hv; have HU := Lib.hid hu; have HF := Lib.hid hf; have HFU := Lib.hid hfu; have HN := Lib.hid hN; have HM := Lib.hid hM
  have Hl := Lib.hid hl; have Hul := Lib.hid hul
  clear hv hu hf hfu hN hM hl hul
  go_enter Tryz.func6, Tryz.ntmps6
  go_wp2_with fail
  refine HH.out.mono ?_
  rintro e w1 ⟨rfl, hb⟩
  have L1 := Lib.hid hb
  have HG1 := Lib.hid (GreatR_any (RdK.below HV.out hb (Nat.le_refl _)) Hl.out)
  clear hb HH
  go_wp2_with fail
  refine HG1.out.mono ?_
  rintro e w2 ⟨g1, rfl, hb, hg1⟩
  have L2 := Lib.hid (L1.out.trans (hb.mono L1.out.size))
  clear hb HG1
  cases g1 with
  | true =>
    clear hg1
    go_wp2_with fail
    go_ret
    exact ⟨rfl, L2.out⟩
  | false =>
  have HS1 := Lib.hid (hg1 rfl)
  have HG2 := Lib.hid (GreatU_any (RdK.below HU.out L2.out (Nat.le_refl _)) Hul.out)
  clear hg1
  go_wp2_with fail
  refine HG2.out.mono ?_
  rintro e w3 ⟨g2, rfl, hb, hg2⟩
  have L3 := Lib.hid (L2.out.trans (hb.mono L2.out.size))
  clear hb HG2
  cases g2 with
  | true =>
    clear hg2
    go_wp2_with fail
    go_ret
    exact ⟨rfl, L3.out⟩
  | false =>
  have HS2 := Lib.hid (hg2 rfl)
  have HAp := Lib.hid (Apply_p l _ u _ w3 (RdK.below HV.out L3.out (Nat.le_refl _)) (RdK.below HU.out L3.out (Nat.le_refl _)) HF.out HFU.out (by have := HS1.out.1; omega) (by have := HS2.out.1; omega))
  clear hg2
  go_wp2_with fail
  refine HAp.out.mono ?_
  rintro e w4 ⟨va, a, ec, pl, rfl, hra, hia, hb⟩
  have L4 := Lib.hid (L3.out.trans (hb.mono L3.out.size))
  obtain ⟨A4, c4, rfl⟩ := hra.shape
  obtain ⟨Ma, hMa⟩ : ∃ z, z = a.length := ⟨_, rfl⟩
  rw [← hMa] at hra ⊢
  have HRa := Lib.hid hra; have HIa := Lib.hid hia; have HMa := Lib.hid hMa
  clear hra hia hb HAp hMa
  by_cases h0 : ec = 0
  case neg =>
    have hne : ((ec : Int) != 0) = true := by simp; omega
    clear h0
    go_wp2_with fail
    go_ret
    exact ⟨rfl, L4.out⟩
  subst h0
  have HD := Lib.hid HIa.out.done
  have HAs : Hid (1 ≤ u.length ∧ u.length ≤ 16) := Lib.hid ⟨HIa.out.ok.1.2.1, HIa.out.ok.1.2.2⟩
  have hN16 : N ≤ 16 := by rw [HN.out]; exact HAs.out.2
  clear HIa
  go_wp2_with fail
  go_loopw [9, 10] (fun v9 i wr => ∃ k : Nat, k ≤ N ∧ i = .int .i64 k ∧ Hid (OwK 43 3 updC wr w4.heap.size v9 ((u.take k).map turn)) ∧ Hid (Below w4.heap.size w4 wr)) (fun _ i _ => N - (intOf i).toNat)
  case atStart => exact ⟨0, Nat.zero_le _, rfl, Lib.hid (OwK.nil _ _ _ _ _), Lib.hid (Below.refl _ _)⟩
  case round =>
    obtain ⟨k, hk, rfl, hO, hB⟩ := hrel
    obtain ⟨A9, n9, c9, h9, hn9⟩ := OwK.shape hO.out
    subst h9
    by_cases hlt : k < N
    · obtain ⟨g, o, c', e, _, hg⟩ := HU.out.pos (by have := HN.out; omega)
      obtain rfl : B = some ⟨g, o, none⟩ := by rw [← HN.out] at e; cases e; rfl
      clear e
      obtain ⟨x, hx⟩ : ∃ x, u[k]? = some x := ⟨_, List.getElem?_eq_getElem (by have := HN.out; omega)⟩
      have L5 : Below w.heap.size w wr := L4.out.trans (hB.out.mono L4.out.size)
      have hcell := fun W (hW : Below w.heap.size w W) => UpdsR.cells (RdK.below HU.out hW (Nat.le_refl _)) hx
      have HT := Lib.hid (take_map_turn hx)
      obtain ⟨nm, od, nw⟩ := x
      unfold SV at hcell
      simp only at hcell
      have C0 := Lib.hid fun W hW => (hcell W hW).1
      have C1 := Lib.hid fun W hW => (hcell W hW).2.1
      have C2 := Lib.hid fun W hW => (hcell W hW).2.2
      have HI := Lib.hid fun W => at_u W g o N d k hlt
      have LD : Hid (Below w.heap.size w wr.drew) := Lib.hid L5.drew
      have HO2 : Hid (OwK 43 3 updC wr.drew w4.heap.size (.slice A9 n9 c9) ((u.take k).map turn)) := hO
      have HB2 : Hid (Below w4.heap.size w4 wr.drew) := Lib.hid hB.out.drew
      have H48 : Hid (w.heap.size ≤ w4.heap.size) := Lib.hid L4.out.size
      have hll : Hid (((u.take k).map turn).length < 1000000) := Lib.hid (by simp; omega)
      clear hx hcell L5 hO hB hg hn9
      go_wp2_with fail
      refine AnyK.start w.heap.size w (by kernel_rfl) ?_
      refine AnyK.take 0 (.slice A9 n9 c9) LD.out rfl (by kernel_rfl) (by kernel_rfl) (by kernel_rfl) (fun _ _ _ h => h) (by kernel_rfl) (fun W hW => by kernel_rfl) ?_
      refine AnyK.take 1 (.slice (some ⟨g, o, none⟩) N d) LD.out rfl (by kernel_rfl) (by kernel_rfl) (by kernel_rfl) (fun _ _ _ h => h) (by kernel_rfl) (fun W hW => by kernel_rfl) ?_
      refine AnyK.take 2 (.int .i64 (k : Int)) LD.out rfl (by kernel_rfl) (by kernel_rfl) (by kernel_rfl) (fun _ _ _ h => h) (by kernel_rfl) (fun W hW => by kernel_rfl) ?_
      refine AnyK.take 3 (.pointer (some ⟨g, o + k * 3, none⟩)) LD.out rfl (by kernel_rfl) (by kernel_rfl) (by kernel_rfl) (fun _ _ _ h => h) (by kernel_rfl) (fun W hW => y_index (sv := .slice (some ⟨g, o, none⟩) N d) (iv := .int .i64 (k : Int)) rfl (by kernel_rfl) (by kernel_rfl) (HI.out W)) ?_
      refine AnyK.take 4 (.pointer (some ⟨g, o + k * 3, none⟩)) LD.out rfl (by kernel_rfl) (by kernel_rfl) (by kernel_rfl) (fun _ _ _ h => h) (by kernel_rfl) (fun W hW => y_field (sv := .pointer (some ⟨g, o + k * 3, none⟩)) rfl (by kernel_rfl) (f_u0 W g (o + k * 3))) ?_
      refine AnyK.take 5 (.string ⟨nm.toArray⟩) LD.out rfl (by kernel_rfl) (by kernel_rfl) (by kernel_rfl) (fun _ _ _ h => h) (by kernel_rfl) (fun W hW => y_load (sv := .pointer (some ⟨g, o + k * 3, none⟩)) rfl (by kernel_rfl) (l_S W g (o + k * 3) nm (C0.out W hW))) ?_
      refine AnyK.take 6 (.slice (some ⟨g, o, none⟩) N d) LD.out rfl (by kernel_rfl) (by kernel_rfl) (by kernel_rfl) (fun _ _ _ h => h) (by kernel_rfl) (fun W hW => by kernel_rfl) ?_
      refine AnyK.take 7 (.int .i64 (k : Int)) LD.out rfl (by kernel_rfl) (by kernel_rfl) (by kernel_rfl) (fun _ _ _ h => h) (by kernel_rfl) (fun W hW => by kernel_rfl) ?_
      refine AnyK.take 8 (.pointer (some ⟨g, o + k * 3, none⟩)) LD.out rfl (by kernel_rfl) (by kernel_rfl) (by kernel_rfl) (fun _ _ _ h => h) (by kernel_rfl) (fun W hW => y_index (sv := .slice (some ⟨g, o, none⟩) N d) (iv := .int .i64 (k : Int)) rfl (by kernel_rfl) (by kernel_rfl) (HI.out W)) ?_
      refine AnyK.take 9 (.pointer (some ⟨g, o + k * 3 + 2, none⟩)) LD.out rfl (by kernel_rfl) (by kernel_rfl) (by kernel_rfl) (fun _ _ _ h => h) (by kernel_rfl) (fun W hW => y_field (sv := .pointer (some ⟨g, o + k * 3, none⟩)) rfl (by kernel_rfl) (f_u2 W g (o + k * 3))) ?_
      refine AnyK.take 10 (.string ⟨nw.toArray⟩) LD.out rfl (by kernel_rfl) (by kernel_rfl) (by kernel_rfl) (fun _ _ _ h => h) (by kernel_rfl) (fun W hW => y_load (sv := .pointer (some ⟨g, o + k * 3 + 2, none⟩)) rfl (by kernel_rfl) (l_S W g (o + k * 3 + 2) nw (C2.out W hW))) ?_
      refine AnyK.take 11 (.slice (some ⟨g, o, none⟩) N d) LD.out rfl (by kernel_rfl) (by kernel_rfl) (by kernel_rfl) (fun _ _ _ h => h) (by kernel_rfl) (fun W hW => by kernel_rfl) ?_
      refine AnyK.take 12 (.int .i64 (k : Int)) LD.out rfl (by kernel_rfl) (by kernel_rfl) (by kernel_rfl) (fun _ _ _ h => h) (by kernel_rfl) (fun W hW => by kernel_rfl) ?_
      refine AnyK.take 13 (.pointer (some ⟨g, o + k * 3, none⟩)) LD.out rfl (by kernel_rfl) (by kernel_rfl) (by kernel_rfl) (fun _ _ _ h => h) (by kernel_rfl) (fun W hW => y_index (sv := .slice (some ⟨g, o, none⟩) N d) (iv := .int .i64 (k : Int)) rfl (by kernel_rfl) (by kernel_rfl) (HI.out W)) ?_
      refine AnyK.take 14 (.pointer (some ⟨g, o + k * 3 + 1, none⟩)) LD.out rfl (by kernel_rfl) (by kernel_rfl) (by kernel_rfl) (fun _ _ _ h => h) (by kernel_rfl) (fun W hW => y_field (sv := .pointer (some ⟨g, o + k * 3, none⟩)) rfl (by kernel_rfl) (f_u1 W g (o + k * 3))) ?_
      refine AnyK.take 15 (.string ⟨od.toArray⟩) LD.out rfl (by kernel_rfl) (by kernel_rfl) (by kernel_rfl) (fun _ _ _ h => h) (by kernel_rfl) (fun W hW => y_load (sv := .pointer (some ⟨g, o + k * 3 + 1, none⟩)) rfl (by kernel_rfl) (l_S W g (o + k * 3 + 1) od (C1.out W hW))) ?_
      refine AnyK.take 16 (.agg #[.string ⟨nm.toArray⟩, .string ⟨nw.toArray⟩, .string ⟨od.toArray⟩]) LD.out rfl (by kernel_rfl) (by kernel_rfl) (by kernel_rfl) (fun _ _ _ h => h) (by kernel_rfl) (fun W hW => y_bld (ps := #[(0, .string ⟨nm.toArray⟩), (1, .string ⟨nw.toArray⟩), (2, .string ⟨od.toArray⟩)]) rfl (by kernel_rfl) (bld_u W nm nw od)) ?_
      obtain ⟨wd, hwd⟩ : ∃ wd, wd = wr.drew := ⟨_, rfl⟩
      rw [← hwd] at LD HO2 HB2 ⊢
      clear hwd
      have b7 := below_new wd (.cells #[.string ⟨nm.toArray⟩, .string ⟨nw.toArray⟩, .string ⟨od.toArray⟩] 43)
      have o7 := HO2.out.below b7 (Nat.le_refl _)
      have B7 := Lib.hid (HB2.out.trans (b7.mono HB2.out.size))
      obtain ⟨w7, hw7⟩ : ∃ z, z = wd.alloc (.cells #[.string ⟨nm.toArray⟩, .string ⟨nw.toArray⟩, .string ⟨od.toArray⟩] 43) := ⟨_, rfl⟩
      obtain ⟨v8, w8, hrun, ho8, hb8, _⟩ := run_appK elUpd (m := [turn ⟨nm, od, nw⟩]) o7 ⟨wd.heap.size, 0, none⟩ 1 1 rfl (fun j x hj => by
        have e : (updC (turn ⟨nm, od, nw⟩))[j]? = some x := by simpa using hj
        rw [Addr.add_lit, Nat.zero_add, cell_of_row _ _ j _ _ _ (heap_alloc_new wd _)]
        simpa [updC, turn, SV] using e) (by have := hll.out; simp only [List.length_singleton]; omega) (by decide) (by rw [← hw7] at B7 ⊢; exact B7.out.size) 23
      rw [← hw7] at b7 B7 hrun hb8
      have L7 := Lib.hid (LD.out.trans (b7.mono LD.out.size))
      have HW7 := Lib.hid hw7
      have HRun := Lib.hid hrun
      have HO8 : Hid (OwK 43 3 updC w8 w4.heap.size v8 ((u.take (k + 1)).map turn)) := Lib.hid (by rw [HT.out]; exact ho8)
      have HB8 := Lib.hid (B7.out.trans hb8)
      have L8 := Lib.hid (L7.out.trans (hb8.mono H48.out))
      clear b7 o7 hw7 hrun ho8 hb8
      refine AnyK.op 17 (.slice (some ⟨wd.heap.size, 0, none⟩) 1 1) w7 (by kernel_rfl) rfl (by kernel_rfl) (y_build (ps := #[(0, .agg #[.string ⟨nm.toArray⟩, .string ⟨nw.toArray⟩, .string ⟨od.toArray⟩])]) rfl (by kernel_rfl) (by rw [HW7.out]; exact bldS_u wd nm nw od)) L7.out ?_
      refine AnyK.op 18 v8 w8 (by kernel_rfl) rfl (by kernel_rfl) (y_append (sv := .slice A9 n9 c9) (yv := .slice (some ⟨wd.heap.size, 0, none⟩) 1 1) rfl (by kernel_rfl) (by kernel_rfl) HRun.out) L8.out ?_
      refine AnyK.take 19 v8 L8.out rfl (by kernel_rfl) (by kernel_rfl) (by kernel_rfl) (fun _ _ _ h => h) (by kernel_rfl) (fun W hW => by kernel_rfl) ?_
      refine AnyK.done _ (by kernel_rfl) ?_
      go_simp
      clear HRun HW7 HI C0 C1 C2
      go_wp2_with fail
      go_roundw
      case rel => exact ⟨k + 1, hlt, by go_num, HO8, HB8⟩
      case measure => simp [intOf]; omega
    have hkN : k = N := by omega
    have HO : Hid (OwK 43 3 updC wr w4.heap.size (.slice A9 n9 c9) (u.map turn)) := Lib.hid (by have h := hO.out; rw [hkN, HN.out, List.take_length] at h; exact h)
    have L5 := Lib.hid (L4.out.trans (hB.out.mono L4.out.size))
    have HAp := Lib.hid (Apply_p a _ (u.map turn) _ wr (RdK.below HRa.out hB.out (Nat.le_refl _)) (OwK.rd updC_len HO.out) HD.out.fit HFU.out.turn (by have := HD.out.right'.len; omega) (by simp; have := HAs.out.2; omega))
    have hb5 := HD.out.back HAs.out.1 HAs.out.2
    have HB5 := Lib.hid hb5
    have HBr := Lib.hid hB.out
    clear hkN hO hB hb5 hn9
    go_wp2_with fail
    refine HAp.out.mono ?_
    rintro e w6 hap
    obtain ⟨A6, n6, c6, hn6, rfl, hr6, hb⟩ := apply_open hap HB5.out
    have L6 := Lib.hid (L5.out.trans (hb.mono L5.out.size))
    have HB6 := Lib.hid (HBr.out.trans (hb.mono HBr.out.size))
    have HR6 := Lib.hid hr6
    have HAp2 := Lib.hid (Apply_p a _ u _ w6 (RdK.below HRa.out HB6.out (Nat.le_refl _)) (RdK.below HU.out L6.out (Nat.le_refl _)) HD.out.fit HFU.out (by have := HD.out.right'.len; omega) (by have := HAs.out.2; omega))
    clear hap hb hr6 HAp hn6
    go_wp2_with fail
    refine HAp2.out.mono ?_
    rintro e w7 ⟨v7, r7, e7, i7, rfl, hr7, hi7, hb⟩
    have L7 := Lib.hid (L6.out.trans (hb.mono L6.out.size))
    have HR67 := Lib.hid (RdK.below HR6.out hb (Nat.le_refl _))
    have HAg := Lib.hid (HD.out.again HAs.out.1 HAs.out.2 hi7)
    obtain ⟨A7, c7, rfl⟩ := hr7.shape
    clear hb hr7 hi7 HAp2
    go_wp2_with fail
    go_loopw [17, 18] (fun v17 i wr => ∃ k : Nat, ∃ b : Bool, k ≤ N ∧ i = .int .i64 k ∧ v17 = .bool b ∧ Hid (b = (u.take k).any fun y => !(y.old == y.new)) ∧ Hid (Below w7.heap.size w7 wr)) (fun _ i _ => N - (intOf i).toNat)
    case atStart => exact ⟨0, false, Nat.zero_le _, rfl, rfl, Lib.hid rfl, Lib.hid (Below.refl _ _)⟩
    case round =>
      obtain ⟨k2, b, hk2, rfl, rfl, hbv, hB2⟩ := hrel
      by_cases hlt2 : k2 < N
      case neg =>
        have hkN2 : k2 = N := by omega
        have HMv : Hid (b = true ↔ e7 = 92) := Lib.hid (by
          have h := hbv.out
          rw [hkN2, HN.out, List.take_length] at h
          rw [h, moved_iff, HAg.out])
        have L8 := Lib.hid (L7.out.trans (hB2.out.mono L7.out.size))
        have HSm := Lib.hid (Same_p (RdK.below HR67.out hB2.out (Nat.le_refl _)) (RdK.below HV.out L8.out (Nat.le_refl _)) (by have := HS1.out.1; omega))
        rw [decide_eq_true rfl] at HSm
        clear hkN2 hbv hB2 HAg
        cases b with
        | true =>
          have he7 : e7 = 92 := HMv.out.1 rfl
          subst he7
          clear HMv
          go_wp2_with fail
          refine HSm.out.mono ?_
          rintro e w9 ⟨rfl, hb⟩
          have L9 := Lib.hid (L8.out.trans (hb.mono L8.out.size))
          clear hb
          go_wp2_with fail
          go_ret
          exact ⟨rfl, L9.out⟩
        | false =>
          have he7 : ((e7 : Int) == 92) = false := by
            have h : ¬ e7 = 92 := fun h => by have := HMv.out.2 h; cases this
            simp; omega
          clear HMv
          go_wp2_with fail
          refine HSm.out.mono ?_
          rintro e w9 ⟨rfl, hb⟩
          have L9 := Lib.hid (L8.out.trans (hb.mono L8.out.size))
          clear hb
          go_wp2_with fail
          go_ret
          exact ⟨rfl, L9.out⟩
      obtain ⟨g, o, c', e, _, hg⟩ := HU.out.pos (by have := HN.out; omega)
      obtain rfl : B = some ⟨g, o, none⟩ := by rw [← HN.out] at e; cases e; rfl
      clear e
      obtain ⟨x, hx⟩ : ∃ x, u[k2]? = some x := ⟨_, List.getElem?_eq_getElem (by have := HN.out; omega)⟩
      have L8 : Below w.heap.size w wr := L7.out.trans (hB2.out.mono L7.out.size)
      obtain ⟨c0, c1, c2⟩ := UpdsR.cells (RdK.below HU.out L8 (Nat.le_refl _)) hx
      have hms := moved_succ hx
      rw [← hbv.out] at hms
      obtain ⟨nm, od, nw⟩ := x
      unfold SV at c0 c1 c2
      simp only at c0 c1 c2 hms
      have HB2 := Lib.hid hB2.out
      clear hx L8 hbv hB2 hg
      cases b with
      | true =>
        have HMs : Hid (true = (u.take (k2 + 1)).any fun y => !(y.old == y.new)) := Lib.hid (by rw [hms]; rfl)
        clear hms c0
        go_wp2_with fail
        go_quiet (fail)
        go_wp2_with fail
        go_roundw
        case rel => exact ⟨k2 + 1, true, hlt2, by go_num, rfl, HMs, Lib.hid (bdrN HB2.out _)⟩
        case measure => simp [intOf]; omega
      | false =>
        by_cases ho : od = nw
        · have HMs : Hid (false = (u.take (k2 + 1)).any fun y => !(y.old == y.new)) := Lib.hid (by rw [hms]; simp [ho])
          subst ho
          clear hms c0
          go_wp2_with fail
          go_quiet (fail)
          go_wp2_with fail
          go_roundw
          case rel => exact ⟨k2 + 1, false, hlt2, by go_num, by simp, HMs, Lib.hid (bdrN HB2.out _)⟩
          case measure => simp [intOf]; omega
        · have HMs : Hid (true = (u.take (k2 + 1)).any fun y => !(y.old == y.new)) := Lib.hid (by rw [hms]; simp [ho])
          have hne : (od == nw) = false := by simpa using ho
          clear hms c0 ho
          go_wp2_with fail
          go_quiet (fail)
          go_wp2_with fail
          go_roundw
          case rel => exact ⟨k2 + 1, true, hlt2, by go_num, by simp, HMs, Lib.hid (bdrN HB2.out _)⟩
          case measure => simp [intOf]; omega
end Go.Proofs.YtfnepffccenebaaGreatDoor.Rf
