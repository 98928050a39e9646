/-
  ObjectNames, walked.
-/
import Derived.Test.YtdkkeaaepebafaaGreatDoorHead
namespace Go.Proofs.YtdkkeaaepebafaaGreatDoor
open Go Go.RowKit Go.Shelf

/-- What names an object lies where the call put it. -/
theorem two_objs (w : World) (k1 k2 : Int) (d1 d2 : List UInt8) (W : World) (hW : Below ((w.alloc (.cells #[.int .i64 k1, .string ⟨d1.toArray⟩] 23)).alloc (.cells #[.int .i64 k2, .string ⟨d2.toArray⟩] 23)).heap.size ((w.alloc (.cells #[.int .i64 k1, .string ⟨d1.toArray⟩] 23)).alloc (.cells #[.int .i64 k2, .string ⟨d2.toArray⟩] 23)) W) :
    W.cell? ⟨w.heap.size, 0, none⟩ = some (.int .i64 k1) ∧ W.cell? ⟨w.heap.size, 1, none⟩ = some (.string ⟨d1.toArray⟩) ∧ W.cell? ⟨w.heap.size + 1, 0, none⟩ = some (.int .i64 k2) ∧ W.cell? ⟨w.heap.size + 1, 1, none⟩ = some (.string ⟨d2.toArray⟩) :=
  ⟨(hW.cell (p := ⟨w.heap.size, 0, none⟩) (by simp; omega)).trans (by simp), (hW.cell (p := ⟨w.heap.size, 1, none⟩) (by simp; omega)).trans (by simp), (hW.cell (p := ⟨w.heap.size + 1, 0, none⟩) (by simp)).trans (by simp), (hW.cell (p := ⟨w.heap.size + 1, 1, none⟩) (by simp)).trans (by simp)⟩

set_option maxRecDepth 100000 in
set_option maxHeartbeats 8000000 in
theorem Names_law (w : World) (ho : Ob w) (k1 : Int) (d1 : List UInt8) (k2 : Int) (d2 : List UInt8) : Calls Tryz.prog 8 #[ObjV k1 d1, ObjV k2 d2] w (RetBelow (.bool true) w) := by
  have B0 := (below_new w (.cells #[.int .i64 k1, .string ⟨d1.toArray⟩] 23))
  have B2 := B0.alloc B0.size (.cells #[.int .i64 k2, .string ⟨d2.toArray⟩] 23)
  have HH := Lib.hid (head_any _ (ho.below B2))
  have HK := Lib.hid (two_objs w k1 k2 d1 d2)
  have HB2 := Lib.hid B2
  unfold ObjV
  by_cases h1 : 70000 < d1.length
  · clear ho B0 B2
    go_enter Tryz.func8, Tryz.ntmps8
    go_wp2_with fail
    refine HH.out.mono ?_
    rintro e w1 ⟨rfl, l1⟩
    obtain ⟨q0, q1, q2, q3⟩ := HK.out w1 l1
    have L1 := Lib.hid (HB2.out.trans (l1.mono HB2.out.size))
    clear l1
    go_wp2_with fail
    go_ret
    exact ⟨rfl, L1.out⟩
  by_cases h2 : 70000 < d2.length
  · clear ho B0 B2
    go_enter Tryz.func8, Tryz.ntmps8
    go_wp2_with fail
    refine HH.out.mono ?_
    rintro e w1 ⟨rfl, l1⟩
    obtain ⟨q0, q1, q2, q3⟩ := HK.out w1 l1
    have L1 := Lib.hid (HB2.out.trans (l1.mono HB2.out.size))
    clear l1
    go_wp2_with fail
    go_ret
    exact ⟨rfl, L1.out⟩
  have HId1 : Hid (∀ W, Below w.heap.size w W → Calls Tryz.prog 13 #[.agg #[.int .i64 k1, .string ⟨d1.toArray⟩]] W (RetBelow (.string ⟨(idL k1 d1).toArray⟩) W)) := Lib.hid fun W hW => Id_any k1 d1 (by omega) W (ho.below hW).eb (ho.below hW).tb (ho.below hW).pr
  have HId2 : Hid (∀ W, Below w.heap.size w W → Calls Tryz.prog 13 #[.agg #[.int .i64 k2, .string ⟨d2.toArray⟩]] W (RetBelow (.string ⟨(idL k2 d2).toArray⟩) W)) := Lib.hid fun W hW => Id_any k2 d2 (by omega) W (ho.below hW).eb (ho.below hW).tb (ho.below hW).pr
  have HRt : Hid (∀ W, Below w.heap.size w W → Calls Tryz.prog 11 #[.agg #[.int .i64 k1, .string ⟨d1.toArray⟩]] W (RetBelow (.bool (wantsO k1 d1).isSome) W)) := Lib.hid fun W hW => Right_any k1 d1 (by omega) W (ho.below hW).eb (ho.below hW).tb
  have HWt : Hid (∀ W, Below w.heap.size w W → Calls Tryz.prog 16 #[.agg #[.int .i64 k1, .string ⟨d1.toArray⟩]] W (WsPost (wantsO k1 d1) W)) := Lib.hid fun W hW => Wants_any k1 d1 (by omega) W (ho.below hW).eb (ho.below hW).tb
  have h1' : ¬ (70000 : Int) < (d1.length : Int) := by omega
  have h2' : ¬ (70000 : Int) < (d2.length : Int) := by omega
  cases hw : wantsO k1 d1 with
  | none =>
    have hid0 : idL k1 d1 = [] := by unfold idL; rw [hw]; rfl
    rw [hid0] at HId1
    rw [hw] at HRt HWt
    clear ho B0 B2 hw hid0 HId2 h1 h2
    go_enter Tryz.func8, Tryz.ntmps8
    go_wp2_with fail
    refine HH.out.mono ?_
    rintro e w1 ⟨rfl, l1⟩
    obtain ⟨q0, q1, q2, q3⟩ := HK.out w1 l1
    have H1 := Lib.hid l1
    have L1 := Lib.hid (HB2.out.trans (l1.mono HB2.out.size))
    clear l1
    go_wp2_with fail
    refine (HId1.out _ L1.out).mono ?_
    rintro e w2 ⟨rfl, l2⟩
    have H2 := Lib.hid (H1.out.trans (l2.mono H1.out.size))
    have L2 := Lib.hid (L1.out.trans (l2.mono L1.out.size))
    clear l2 q0 q1 q2 q3
    obtain ⟨q0, q1, -, -⟩ := HK.out w2 H2.out
    go_wp2_with fail
    refine (HRt.out _ L2.out).mono ?_
    rintro e w3 ⟨rfl, l3⟩
    have H3 := Lib.hid (H2.out.trans (l3.mono H2.out.size))
    have L3 := Lib.hid (L2.out.trans (l3.mono L2.out.size))
    clear l3 q0 q1
    obtain ⟨q0, q1, -, -⟩ := HK.out w3 H3.out
    go_wp2_with fail
    refine (HWt.out _ L3.out).mono ?_
    rintro e w4 ⟨l4, v, rfl, hr, -⟩
    obtain ⟨A, c, rfl⟩ := hr.shape
    have L4 := Lib.hid (L3.out.trans (l4.mono L3.out.size))
    clear l4 hr q0 q1
    go_wp2_with fail
    go_ret
    exact ⟨rfl, L4.out⟩
  | some l =>
    have hid0 : idL k1 d1 = nameL (headL k1 d1) := by unfold idL; rw [hw]; rfl
    have hnd : namedB (idL k1 d1) = true := by rw [hid0]; exact named_nameL _
    have hsame : k1 = k2 → d1 = d2 → idL k2 d2 = idL k1 d1 := fun e1 e2 => by rw [e1, e2]
    have heach := wantsO_each hw
    have hblob : k1 = 1 → l.length = 0 := fun e => by subst e; rw [wantsO_blob hw]; rfl
    have hcom : k1 = 3 → 0 < l.length := fun e => by subst e; exact wantsO_commit hw
    rw [hw] at HRt HWt
    obtain ⟨nm, hnm⟩ : ∃ nm, nm = idL k1 d1 := ⟨_, rfl⟩
    rw [← hnm] at HId1 hnd hsame
    have hlen := named_len64 hnd
    have HNm : Hid (∀ W : World, Calls Tryz.prog 34 #[.string ⟨nm.toArray⟩] W fun e w' => e = .returned (.bool true) ∧ W = w') := Lib.hid fun W => by have h := RNamed_any nm W (by unfold maxLen; omega); rw [hnd] at h; exact h
    have HEach := Lib.hid heach; have HBlob := Lib.hid hblob; have HCom := Lib.hid hcom; have HSame := Lib.hid hsame
    clear ho B0 B2 hw hid0 h1 h2 hnm hnd hlen heach hblob hcom hsame
    go_enter Tryz.func8, Tryz.ntmps8
    go_wp2_with fail
    refine HH.out.mono ?_
    rintro e w1 ⟨rfl, l1⟩
    obtain ⟨q0, q1, q2, q3⟩ := HK.out w1 l1
    have H1 := Lib.hid l1
    have L1 := Lib.hid (HB2.out.trans (l1.mono HB2.out.size))
    clear l1
    go_wp2_with fail
    refine (HId1.out _ L1.out).mono ?_
    rintro e w2 ⟨rfl, l2⟩
    have H2 := Lib.hid (H1.out.trans (l2.mono H1.out.size))
    have L2 := Lib.hid (L1.out.trans (l2.mono L1.out.size))
    clear l2 q0 q1 q2 q3
    obtain ⟨q0, q1, -, -⟩ := HK.out w2 H2.out
    go_wp2_with fail
    refine (HRt.out _ L2.out).mono ?_
    rintro e w3 ⟨rfl, l3⟩
    have H3 := Lib.hid (H2.out.trans (l3.mono H2.out.size))
    have L3 := Lib.hid (L2.out.trans (l3.mono L2.out.size))
    clear l3 q0 q1
    obtain ⟨q0, q1, -, -⟩ := HK.out w3 H3.out
    go_wp2_with fail
    refine (HWt.out _ L3.out).mono ?_
    rintro e w4 ⟨l4, v, rfl, hr, hl⟩
    have hl256 : l.length ≤ 256 := hl
    have hr2 : WantsR w4 v l := hr
    obtain ⟨A, c, rfl⟩ := hr2.shape
    have H4 := Lib.hid (H3.out.trans (l4.mono H3.out.size))
    have L4 := Lib.hid (L3.out.trans (l4.mono L3.out.size))
    have HR := Lib.hid hr2
    clear l4 hr hl hr2 q0 q1 L1 L2 L3 H1 H2 H3 HRt HWt HId1
    go_wp2_with fail
    go_loop [8] (fun i => ∃ k : Nat, k ≤ l.length ∧ i = .int .i64 k) (fun i => l.length - (intOf i).toNat)
    case atStart => exact ⟨0, Nat.zero_le _, rfl⟩
    case round =>
      obtain ⟨k, hk, rfl⟩ := hrel
      by_cases hlt : k < l.length
      · obtain ⟨g, o, c', e, _, hg⟩ := HR.out.pos (by omega)
        cases e
        obtain ⟨p0, p1⟩ := WantsR.cells HR.out k hlt
        obtain ⟨g1, g2, g3⟩ := HEach.out _ (getD_mem l ([], 0) k hlt)
        obtain ⟨x, hx⟩ : ∃ x, x = l.getD k ([], 0) := ⟨_, rfl⟩
        rw [← hx] at p0 p1 g1 g2 g3
        obtain ⟨x0, x1⟩ := x
        unfold SV at p0
        simp only at p0 p1 g1 g2 g3
        have hl0 := named_len64 g1
        have HNx : Hid (∀ W : World, Calls Tryz.prog 34 #[.string ⟨x0.toArray⟩] W fun e w' => e = .returned (.bool true) ∧ W = w') := Lib.hid fun W => by have h := RNamed_any x0 W (by unfold maxLen; omega); rw [g1] at h; exact h
        clear hx g1 hl0
        go_wp2_with fail
        refine (HNx.out _).mono ?_
        rintro e w5 ⟨rfl, rfl⟩
        go_wp2_with fail
        go_round
        case rel => exact ⟨k + 1, hlt, by go_num⟩
        case measure => simp [intOf]; omega
      · obtain rfl : k = l.length := by omega
        obtain ⟨q0, q1, q2, q3⟩ := HK.out w4 H4.out
        have hkc : (k1 = 1 ∧ l.length = 0) ∨ (k1 ≠ 1 ∧ k1 = 3 ∧ 0 < l.length) ∨ (k1 ≠ 1 ∧ k1 ≠ 3) := by
          by_cases e1 : k1 = 1
          · exact .inl ⟨e1, HBlob.out e1⟩
          · by_cases e3 : k1 = 3
            · exact .inr (.inl ⟨e1, e3, HCom.out e3⟩)
            · exact .inr (.inr ⟨e1, e3⟩)
        by_cases hs : k1 = k2 ∧ d1 = d2
        · obtain ⟨rfl, rfl⟩ := hs
          rw [HSame.out rfl rfl] at HId2
          clear HSame HBlob HCom HEach
          rcases hkc with ⟨rfl, hl0⟩ | ⟨e1, rfl, hl0⟩ | ⟨e1, e3⟩
          all_goals
            go_wp2_with fail
            refine (HNm.out _).mono ?_
            rintro e w5 ⟨rfl, rfl⟩
            go_wp2_with fail
            refine (HId2.out _ L4.out).mono ?_
            rintro e w6 ⟨rfl, l6⟩
            obtain ⟨q0, q1, q2, q3⟩ := HK.out w6 (H4.out.trans (l6.mono H4.out.size))
            have L6 := Lib.hid (L4.out.trans (l6.mono L4.out.size))
            clear l6
            go_wp2_with fail
            go_ret
            exact ⟨rfl, L6.out⟩
        · have hne : k1 ≠ k2 ∨ (k1 = k2 ∧ d1 ≠ d2) := by
            by_cases e1 : k1 = k2
            · exact .inr ⟨e1, fun e2 => hs ⟨e1, e2⟩⟩
            · exact .inl e1
          clear hs HSame HBlob HCom HEach HId2
          rcases hkc with ⟨hk1, hl0⟩ | ⟨e1, hk1, hl0⟩ | ⟨e1, e3⟩
          all_goals
            rcases hne with f1 | ⟨rfl, f2⟩
            all_goals
              try subst hk1
              go_wp2_with fail
              refine (HNm.out _).mono ?_
              rintro e w5 ⟨rfl, rfl⟩
              go_wp2_with fail
              go_ret
              exact ⟨rfl, L4.out⟩
end Go.Proofs.YtdkkeaaepebafaaGreatDoor
