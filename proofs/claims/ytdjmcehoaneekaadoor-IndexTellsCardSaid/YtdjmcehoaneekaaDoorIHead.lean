/-
  The laws of the index: a live question, whose answer is fixed.
-/
import Derived.Test.YtdjmcehoaneekaaDoorIGrt
import Derived.Lib.SlBytesConst
import Derived.Test.YtdjmcehoaneekaaDoorDNamed
import Derived.Sort.Walk0
namespace Go.Proofs.YtdjmcehoaneekaaDoor.Ix
open Go.Proofs.YtdjmcehoaneekaaDoor
open Go Go.RowKit

theorem rb_const (w : World) (a : UInt8) : Rb (w.alloc (.cells #[.int .u8 (a.toNat : Int)] 5 (1, 2))) (.slice (some ⟨w.heap.size, 0, none⟩) 1 1) [a] :=
  .inr ⟨w.heap.size, 0, 1, rfl, by simp, by simp, fun j hj => by
    have h : (w.alloc (.cells #[.int .u8 (a.toNat : Int)] 5 (1, 2))).heap[w.heap.size]? = some (.cells #[.int .u8 (a.toNat : Int)] 5 (1, 2)) := heap_alloc_new w _
    rw [Nat.zero_add, cell_of_row _ _ j _ _ _ h]
    match j, hj with
    | 0, _ => rfl⟩
theorem strs_two (w : World) (a b : Bs) : StrsR (w.alloc (.cells #[SV a, SV b] 9)) (.slice (some ⟨w.heap.size, 0, none⟩) 2 2) [a, b] :=
  .inr ⟨w.heap.size, 0, 2, rfl, by simp, by simp, fun j hj x hx i hi => by
    have h : (w.alloc (.cells #[SV a, SV b] 9)).heap[w.heap.size]? = some (.cells #[SV a, SV b] 9 (0, 0)) := heap_alloc_new w _
    have hi0 : i = 0 := by omega
    subst hi0
    rw [Nat.zero_add, Nat.mul_one, Nat.add_zero, cell_of_row _ _ j _ _ _ h]
    match j, hj with
    | 0, _ => cases hx; rfl
    | 1, _ => cases hx; rfl⟩
theorem strs_one (w : World) (a : Bs) : StrsR (w.alloc (.cells #[SV a] 9)) (.slice (some ⟨w.heap.size, 0, none⟩) 1 1) [a] :=
  .inr ⟨w.heap.size, 0, 1, rfl, by simp, by simp, fun j hj x hx i hi => by
    have h : (w.alloc (.cells #[SV a] 9)).heap[w.heap.size]? = some (.cells #[SV a] 9 (0, 0)) := heap_alloc_new w _
    have hi0 : i = 0 := by omega
    subst hi0
    rw [Nat.zero_add, Nat.mul_one, Nat.add_zero, cell_of_row _ _ j _ _ _ h]
    match j, hj with
    | 0, _ => cases hx; rfl⟩
theorem putE_ab {a b : Bs} (ha : namedB a = true) (hb : namedB b = true) (h : a ≠ b) : putE [a, b] = none := by
  have hn : [a, b].all namedB = true := by simp [ha, hb]
  exact putE_none.2 ⟨by simp, hn, (nodup_raw hn).2 (by simp [h])⟩
theorem putE_aa {a : Bs} (ha : namedB a = true) : putE [a, a] = some 91 := by
  have hn : [a, a].all namedB = true := by simp [ha]
  exact putE_two (by simp) hn (fun h => by have := (nodup_raw hn).1 h; simp at this)
theorem putE_97 : putE [[97]] = some 1 := putE_bad (k := 0) (x := [97]) (by simp) rfl (by decide)
theorem lss_str (W : World) (x y : Bs) (h : x < y) : (binOp .lss 9 (.string ⟨x.toArray⟩) (.string ⟨y.toArray⟩)).run Tryd.prog W = .ok (.bool true) W := by
  show (Op.stringOp .lss _ _).run _ _ = _
  have e : Op.bytesLess x y = true := by rw [Go.Proofs.bytesLess_eq]; exact decide_eq_true h
  simp [go_sem, Op.stringOp, e]
theorem readI_nil : readI [] = none := rfl
set_option maxRecDepth 100000 in
set_option maxHeartbeats 4000000 in
theorem head_any (w : World) (hp : Pr w) : Calls Tryd.prog 9 #[] w (BoolP true w) := by
  have hplt := hp.lt
  have kc := fun (w : World) (C : Array Value) (n c : Nat) => Lib.run_convert_bytes_const (P := Tryd.prog) w 23 5 C n c Tryd.underlying23 Tryd.underlying5
  obtain ⟨nA, hnA⟩ : ∃ n, n = nameL [97] := ⟨_, rfl⟩
  obtain ⟨nB, hnB⟩ : ∃ n, n = nameL [98] := ⟨_, rfl⟩
  obtain ⟨n0, hn0⟩ : ∃ n, n = nameL [] := ⟨_, rfl⟩
  have hA : namedB nA = true := by rw [hnA, name_hex]; exact named_hex _ (sumL_length _)
  have hB : namedB nB = true := by rw [hnB, name_hex]; exact named_hex _ (sumL_length _)
  have h0 : namedB n0 = true := by rw [hn0, name_hex]; exact named_hex _ (sumL_length _)
  have hAB : nA ≠ nB := by rw [hnA, hnB]; exact nab
  have h0A : n0 ≠ nA := by rw [hn0, hnA]; exact na0
  have h0B : n0 ≠ nB := by rw [hn0, hnB]; exact nb0
  have hlA : nA.length ≤ maxLen := by rw [named_len hA]; decide
  have hlB : nB.length ≤ maxLen := by rw [named_len hB]; decide
  have hl0 : n0.length ≤ maxLen := by rw [named_len h0]; decide
  obtain ⟨w1, hw1⟩ : ∃ w1, w1 = w.alloc (.cells #[.int .u8 97] 5 (1, 2)) := ⟨_, rfl⟩
  have l1 : Below w.heap.size w w1 := by rw [hw1]; exact below_new w _
  have HN1 := Lib.hid (RName_any w1 _ [97] (by decide) (by rw [hw1]; exact rb_const w 97))
  rw [← hnA] at HN1
  have HA := Lib.hid hA; have HB := Lib.hid hB; have H0 := Lib.hid h0; have HAB := Lib.hid hAB; have H0A := Lib.hid h0A; have H0B := Lib.hid h0B
  have HlA := Lib.hid hlA; have HlB := Lib.hid hlB; have Hl0 := Lib.hid hl0
  have HW1 := Lib.hid hw1; have L1 := Lib.hid l1; have HP := Lib.hid hp; have HnB := Lib.hid hnB; have Hn0 := Lib.hid hn0
  unfold SV at HN1
  clear hnA hnB hn0 hA hB h0 hAB h0A h0B hlA hlB hl0 hw1 l1 hp
  go_enter Tryd.func9, Tryd.ntmps9
  go_wp2_with fail
  rw [← HW1.out]
  refine HN1.out.mono ?_
  rintro e w2 ⟨rfl, l2⟩
  have L2 : Hid (Below w.heap.size w w2) := Lib.hid (L1.out.trans (l2.mono L1.out.size))
  obtain ⟨w3, hw3⟩ : ∃ w3, w3 = w2.alloc (.cells #[.int .u8 98] 5 (1, 2)) := ⟨_, rfl⟩
  have l3 : Below w2.heap.size w2 w3 := by rw [hw3]; exact below_new w2 _
  have hN2 := RName_any w3 _ [98] (by decide) (by rw [hw3]; exact rb_const w2 98)
  rw [← HnB.out] at hN2
  unfold SV at hN2
  have HN2 := Lib.hid hN2; have HW3 := Lib.hid hw3
  have L3 : Hid (Below w.heap.size w w3) := Lib.hid (L2.out.trans (l3.mono L2.out.size))
  clear l2 hw3 l3 hN2
  go_wp2_with fail
  rw [← HW3.out]
  refine HN2.out.mono ?_
  rintro e w4 ⟨rfl, l4⟩
  have L4 : Hid (Below w.heap.size w w4) := Lib.hid (L3.out.trans (l4.mono L3.out.size))
  obtain ⟨w5, hw5⟩ : ∃ w5, w5 = w4.alloc (.cells #[.string ⟨nA.toArray⟩, .string ⟨nB.toArray⟩] 9) := ⟨_, rfl⟩
  have l5 : Below w4.heap.size w4 w5 := by rw [hw5]; exact below_new w4 _
  have hP1 := Put_any (w := w5) (ids := [nA, nB]) (HP.out.below (L4.out.trans (l5.mono L4.out.size)) hplt) (by rw [hw5]; exact strs_two w4 nA nB) (fun x hx => by
    rcases List.mem_cons.1 hx with rfl | hx
    · exact HlA.out
    · rw [List.mem_singleton.1 hx]; exact HlB.out) (by simp)
  have HP1 := Lib.hid hP1; have HW5 := Lib.hid hw5
  have L5 : Hid (Below w.heap.size w w5) := Lib.hid (L4.out.trans (l5.mono L4.out.size))
  clear l4 hw5 l5 hP1
  go_wp2_with fail
  rw [← HW5.out]
  refine HP1.out.mono ?_
  rintro e w6 ⟨l6, hh⟩
  rcases hh with ⟨n, hn, _⟩ | ⟨hn, rows, A3, N3, c3, hsrt, rfl, hN3, ho3⟩
  · rw [putE_ab HA.out HB.out HAB.out] at hn; cases hn
  · obtain rfl : N3 = 612 := by rw [hN3, indexL_len hsrt.fit, hsrt.len]; rfl
    have hrd := hsrt.read (by simp)
    have hall : [nA, nB].all namedB = true := by simp [HA.out, HB.out]
    have hr3 : Rb w6 (.slice A3 612 c3) (indexL rows) := Dl.Ow.rb ho3
    have hlen : (indexL rows).length ≤ 1000000 := by rw [← hN3]; decide
    have L6 : Hid (Below w.heap.size w w6) := Lib.hid (L5.out.trans (l6.mono L5.out.size))
    have HF1 : Hid (∀ W, Below w6.heap.size w6 W → Calls Tryd.prog 13 #[.slice A3 612 c3, .string ⟨nB.toArray⟩] W fun e w' => e = .returned (.tuple #[.int .i64 1, .bool true]) ∧ Below W.heap.size W w') := Lib.hid fun W hW => by
      have h := Find_any (id := nB) (HP.out.below (L6.out.trans (hW.mono L6.out.size)) hplt) (hr3.below hW (Nat.le_refl _)) hlen HlB.out
      rw [findB_some hrd, hsrt.findE hall 1 nB rfl] at h
      exact h
    have HF0 : Hid (∀ W, Below w6.heap.size w6 W → Calls Tryd.prog 13 #[.slice A3 612 c3, .string ⟨n0.toArray⟩] W fun e w' => e = .returned (.tuple #[.int .i64 0, .bool false]) ∧ Below W.heap.size W w') := Lib.hid fun W hW => by
      have h := Find_any (id := n0) (HP.out.below (L6.out.trans (hW.mono L6.out.size)) hplt) (hr3.below hW (Nat.le_refl _)) hlen Hl0.out
      have e := findE_mem hsrt hall n0
      rw [decide_eq_false (by simp [H0A.out, H0B.out])] at e
      have e2 : findE rows n0 = none := by cases hf : findE rows n0 with
        | none => rfl
        | some p => rw [hf] at e; cases e
      rw [findB_some hrd, e2] at h
      exact h
    have HAl : Hid (∀ W, Below w6.heap.size w6 W → Calls Tryd.prog 18 #[.slice A3 612 c3] W (AllPost (allI rows) W)) := Lib.hid fun W hW => by
      have h := All_any (HP.out.below (L6.out.trans (hW.mono L6.out.size)) hplt) (hr3.below hW (Nat.le_refl _)) hlen
      rw [allB_some hrd] at h
      exact h
    have HR1 : Hid (∀ W, Below w6.heap.size w6 W → Calls Tryd.prog 15 #[.slice A3 612 c3] W (BoolP true W)) := Lib.hid fun W hW => by
      have h := Right_any (HP.out.below (L6.out.trans (hW.mono L6.out.size)) hplt) (hr3.below hW (Nat.le_refl _)) hlen
      rw [hrd] at h
      exact h
    have HR2 : Hid (∀ W, Below w.heap.size w W → Calls Tryd.prog 15 #[.slice none 0 0] W (BoolP false W)) := Lib.hid fun W hW => by
      have h := Right_any (b := []) (HP.out.below hW hplt) (.inl ⟨⟨none, rfl⟩, rfl⟩) (by simp)
      exact h
    have HRows : Hid (rows.length = 2) := Lib.hid (by rw [hsrt.len]; rfl)
    have HRise := Lib.hid hsrt.rise
    clear l6 hn hsrt hN3 ho3 hrd hall hr3 hlen HP1 HN1 HN2
    go_wp2_with fail
    refine (HF1.out w6 (Below.refl _ _)).mono ?_
    rintro e w7 ⟨rfl, l7⟩
    have hN0 := RName_any w7 (.slice none 0 0) [] (by decide) (.inl ⟨⟨none, rfl⟩, rfl⟩)
    rw [← Hn0.out] at hN0
    unfold SV at hN0
    have HN0 := Lib.hid hN0; have L7 := Lib.hid l7
    clear hN0 l7
    go_wp2_with fail
    refine HN0.out.mono ?_
    rintro e w8 ⟨rfl, l8⟩
    have L8 : Hid (Below w6.heap.size w6 w8) := Lib.hid (L7.out.trans (l8.mono L7.out.size))
    clear l8
    go_wp2_with fail
    refine (HF0.out w8 L8.out).mono ?_
    rintro e wa ⟨rfl, la⟩
    have La : Hid (Below w6.heap.size w6 wa) := Lib.hid (L8.out.trans (la.mono L8.out.size))
    obtain ⟨wb, hwb⟩ : ∃ wb, wb = wa.alloc (.cells #[.string ⟨nA.toArray⟩, .string ⟨nA.toArray⟩] 9) := ⟨_, rfl⟩
    have lb : Below wa.heap.size wa wb := by rw [hwb]; exact below_new wa _
    have Lb : Hid (Below w6.heap.size w6 wb) := Lib.hid (La.out.trans (lb.mono La.out.size))
    have hP2 := Put_any (w := wb) (ids := [nA, nA]) (HP.out.below (L6.out.trans (Lb.out.mono L6.out.size)) hplt) (by rw [hwb]; exact strs_two wa nA nA) (fun x hx => by
      rcases List.mem_cons.1 hx with rfl | hx
      · exact HlA.out
      · rw [List.mem_singleton.1 hx]; exact HlA.out) (by simp)
    have HP2 := Lib.hid hP2; have HWb := Lib.hid hwb
    clear la hwb lb hP2
    go_wp2_with fail
    rw [← HWb.out]
    refine HP2.out.mono ?_
    rintro e wc ⟨lc, hh⟩
    rcases hh with ⟨n, hn, rfl⟩ | ⟨hn, _⟩
    · rw [putE_aa HA.out] at hn
      obtain rfl : n = 91 := (Option.some.inj hn).symm
      have Lc : Hid (Below w6.heap.size w6 wc) := Lib.hid (Lb.out.trans (lc.mono Lb.out.size))
      obtain ⟨wd, hwd⟩ : ∃ wd, wd = wc.alloc (.cells #[.string { data := #[97] }] 9) := ⟨_, rfl⟩
      have ld : Below wc.heap.size wc wd := by rw [hwd]; exact below_new wc _
      have Ld : Hid (Below w6.heap.size w6 wd) := Lib.hid (Lc.out.trans (ld.mono Lc.out.size))
      have hP3 := Put_any (w := wd) (ids := [[97]]) (HP.out.below (L6.out.trans (Ld.out.mono L6.out.size)) hplt) (by rw [hwd]; exact strs_one wc [97]) (fun x hx => by rw [List.mem_singleton.1 hx]; decide) (by simp)
      have HP3 := Lib.hid hP3; have HWd := Lib.hid hwd
      clear lc hwd ld hP3 hn
      go_wp2_with fail
      rw [← HWd.out]
      refine HP3.out.mono ?_
      rintro e we ⟨le, hh⟩
      rcases hh with ⟨n, hn, rfl⟩ | ⟨hn, _⟩
      · rw [putE_97] at hn
        obtain rfl : n = 1 := (Option.some.inj hn).symm
        have Le : Hid (Below w6.heap.size w6 we) := Lib.hid (Ld.out.trans (le.mono Ld.out.size))
        clear le hn
        go_wp2_with fail
        refine (HAl.out we Le.out).mono ?_
        rintro e w9 ⟨l9, v8, rfl, ho8⟩
        have hr8 : StrsR w9 v8 (allI rows) := own_rd (f := strC) (k := 1) (fun _ => rfl) ho8
        have hl8 : (allI rows).length = 2 := by unfold allI; rw [List.length_map]; exact HRows.out
        obtain ⟨g8, o8, c8, rfl, hc8, hg8⟩ := hr8.pos (by omega)
        rw [hl8] at hr8 ⊢
        obtain ⟨s0, s1, hs⟩ : ∃ s0 s1, allI rows = [s0, s1] := by
          match hq : allI rows, hl8 with
          | [a, b], _ => exact ⟨a, b, rfl⟩
        have hri := allI_rise HRise.out
        rw [hs] at hri
        have hlt : s0 < s1 := (List.pairwise_cons.1 hri).1 s1 (by simp)
        have c0 := StrsR.cell hr8 0 s0 (by rw [hs]; rfl)
        have c1 := StrsR.cell hr8 1 s1 (by rw [hs]; rfl)
        rw [Nat.add_zero] at c0
        have LL : Hid (Below w6.heap.size w6 w9) := Lib.hid (Le.out.trans (l9.mono Le.out.size))
        have HC0 : Hid (∀ W, Below w9.drew.heap.size w9.drew W → (Instr.loadAt 9 (.pointer (some ⟨g8, o8, none⟩))).run Tryd.prog W = .ok (.string ⟨s0.toArray⟩) W) := Lib.hid fun W hW => by
          have h : W.cell? ⟨g8, o8, none⟩ = some (.string ⟨s0.toArray⟩) := (hW.cell (p := ⟨g8, o8, none⟩) hg8).trans c0
          simp [go_sem, h]
        have HC1 : Hid (∀ W, Below w9.drew.heap.size w9.drew W → (Instr.loadAt 9 (.pointer (some ⟨g8, o8 + 1, none⟩))).run Tryd.prog W = .ok (.string ⟨s1.toArray⟩) W) := Lib.hid fun W hW => by
          have h : W.cell? ⟨g8, o8 + 1, none⟩ = some (.string ⟨s1.toArray⟩) := (hW.cell (p := ⟨g8, o8 + 1, none⟩) hg8).trans c1
          simp [go_sem, h]
        have HLt : Hid (∀ W, (binOp .lss 9 (.string ⟨s0.toArray⟩) (.string ⟨s1.toArray⟩)).run Tryd.prog W = .ok (.bool true) W) := Lib.hid fun W => lss_str W s0 s1 hlt
        have HE : Hid (Below w.heap.size w w6) := L6
        clear l9 ho8 hr8 hl8 hs hri hlt c0 c1 hc8 hg8
        go_wp2_with fail
        refine AnyB.start (by kernel_rfl) ?_
        refine AnyB.take 0 (.int .i64 0) rfl (by kernel_rfl) (by kernel_rfl) (by kernel_rfl) (fun _ _ _ h => h) (by kernel_rfl) (fun W hW => by kernel_rfl) ?_
        refine AnyB.take 1 (.bool true) rfl (by kernel_rfl) (by kernel_rfl) (by kernel_rfl) (fun _ _ _ h => h) (by kernel_rfl) (fun W hW => by kernel_rfl) ?_
        refine AnyB.take 2 (.bool true) rfl (by kernel_rfl) (by kernel_rfl) (by kernel_rfl) (fun _ _ _ h => h) (by kernel_rfl) (fun W hW => by kernel_rfl) ?_
        refine AnyB.take 3 (.slice A3 612 c3) rfl (by kernel_rfl) (by kernel_rfl) (by kernel_rfl) (fun _ _ _ h => h) (by kernel_rfl) (fun W hW => by kernel_rfl) ?_
        refine AnyB.take 4 (.int .i64 612) rfl (by kernel_rfl) (by kernel_rfl) (by kernel_rfl) (fun _ _ _ h => h) (by kernel_rfl) (fun W hW => by kernel_rfl) ?_
        refine AnyB.take 5 (.bool true) rfl (by kernel_rfl) (by kernel_rfl) (by kernel_rfl) (fun _ _ _ h => h) (by kernel_rfl) (fun W hW => by kernel_rfl) ?_
        refine AnyB.take 6 (.bool true) rfl (by kernel_rfl) (by kernel_rfl) (by kernel_rfl) (fun _ _ _ h => h) (by kernel_rfl) (fun W hW => by kernel_rfl) ?_
        refine AnyB.take 7 (.bool true) rfl (by kernel_rfl) (by kernel_rfl) (by kernel_rfl) (fun _ _ _ h => h) (by kernel_rfl) (fun W hW => by kernel_rfl) ?_
        refine AnyB.take 8 (.int .i64 1) rfl (by kernel_rfl) (by kernel_rfl) (by kernel_rfl) (fun _ _ _ h => h) (by kernel_rfl) (fun W hW => by kernel_rfl) ?_
        refine AnyB.take 9 (.bool true) rfl (by kernel_rfl) (by kernel_rfl) (by kernel_rfl) (fun _ _ _ h => h) (by kernel_rfl) (fun W hW => by kernel_rfl) ?_
        refine AnyB.take 10 (.bool true) rfl (by kernel_rfl) (by kernel_rfl) (by kernel_rfl) (fun _ _ _ h => h) (by kernel_rfl) (fun W hW => by kernel_rfl) ?_
        refine AnyB.take 11 (.bool true) rfl (by kernel_rfl) (by kernel_rfl) (by kernel_rfl) (fun _ _ _ h => h) (by kernel_rfl) (fun W hW => by kernel_rfl) ?_
        refine AnyB.take 12 (.bool true) rfl (by kernel_rfl) (by kernel_rfl) (by kernel_rfl) (fun _ _ _ h => h) (by kernel_rfl) (fun W hW => by kernel_rfl) ?_
        refine AnyB.take 13 (.bool true) rfl (by kernel_rfl) (by kernel_rfl) (by kernel_rfl) (fun _ _ _ h => h) (by kernel_rfl) (fun W hW => by kernel_rfl) ?_
        refine AnyB.take 14 (.bool true) rfl (by kernel_rfl) (by kernel_rfl) (by kernel_rfl) (fun _ _ _ h => h) (by kernel_rfl) (fun W hW => by kernel_rfl) ?_
        refine AnyB.take 15 (.bool false) rfl (by kernel_rfl) (by kernel_rfl) (by kernel_rfl) (fun _ _ _ h => h) (by kernel_rfl) (fun W hW => by kernel_rfl) ?_
        refine AnyB.take 16 (.bool true) rfl (by kernel_rfl) (by kernel_rfl) (by kernel_rfl) (fun _ _ _ h => h) (by kernel_rfl) (fun W hW => by kernel_rfl) ?_
        refine AnyB.take 17 (.bool true) rfl (by kernel_rfl) (by kernel_rfl) (by kernel_rfl) (fun _ _ _ h => h) (by kernel_rfl) (fun W hW => by kernel_rfl) ?_
        refine AnyB.take 18 (.bool true) rfl (by kernel_rfl) (by kernel_rfl) (by kernel_rfl) (fun _ _ _ h => h) (by kernel_rfl) (fun W hW => by kernel_rfl) ?_
        refine AnyB.take 19 (.int .i64 91) rfl (by kernel_rfl) (by kernel_rfl) (by kernel_rfl) (fun _ _ _ h => h) (by kernel_rfl) (fun W hW => by kernel_rfl) ?_
        refine AnyB.take 20 (.bool true) rfl (by kernel_rfl) (by kernel_rfl) (by kernel_rfl) (fun _ _ _ h => h) (by kernel_rfl) (fun W hW => by kernel_rfl) ?_
        refine AnyB.take 21 (.bool true) rfl (by kernel_rfl) (by kernel_rfl) (by kernel_rfl) (fun _ _ _ h => h) (by kernel_rfl) (fun W hW => by kernel_rfl) ?_
        refine AnyB.take 22 (.bool true) rfl (by kernel_rfl) (by kernel_rfl) (by kernel_rfl) (fun _ _ _ h => h) (by kernel_rfl) (fun W hW => by kernel_rfl) ?_
        refine AnyB.take 23 (.int .i64 1) rfl (by kernel_rfl) (by kernel_rfl) (by kernel_rfl) (fun _ _ _ h => h) (by kernel_rfl) (fun W hW => by kernel_rfl) ?_
        refine AnyB.take 24 (.bool true) rfl (by kernel_rfl) (by kernel_rfl) (by kernel_rfl) (fun _ _ _ h => h) (by kernel_rfl) (fun W hW => by kernel_rfl) ?_
        refine AnyB.take 25 (.bool true) rfl (by kernel_rfl) (by kernel_rfl) (by kernel_rfl) (fun _ _ _ h => h) (by kernel_rfl) (fun W hW => by kernel_rfl) ?_
        refine AnyB.take 26 (.bool true) rfl (by kernel_rfl) (by kernel_rfl) (by kernel_rfl) (fun _ _ _ h => h) (by kernel_rfl) (fun W hW => by kernel_rfl) ?_
        refine AnyB.take 27 (.slice (some ⟨g8, o8, none⟩) 2 c8) rfl (by kernel_rfl) (by kernel_rfl) (by kernel_rfl) (fun _ _ _ h => h) (by kernel_rfl) (fun W hW => by kernel_rfl) ?_
        refine AnyB.take 28 (.int .i64 2) rfl (by kernel_rfl) (by kernel_rfl) (by kernel_rfl) (fun _ _ _ h => h) (by kernel_rfl) (fun W hW => by kernel_rfl) ?_
        refine AnyB.take 29 (.bool true) rfl (by kernel_rfl) (by kernel_rfl) (by kernel_rfl) (fun _ _ _ h => h) (by kernel_rfl) (fun W hW => by kernel_rfl) ?_
        refine AnyB.take 30 (.bool true) rfl (by kernel_rfl) (by kernel_rfl) (by kernel_rfl) (fun _ _ _ h => h) (by kernel_rfl) (fun W hW => by kernel_rfl) ?_
        refine AnyB.take 31 (.bool true) rfl (by kernel_rfl) (by kernel_rfl) (by kernel_rfl) (fun _ _ _ h => h) (by kernel_rfl) (fun W hW => by kernel_rfl) ?_
        refine AnyB.take 32 (.slice (some ⟨g8, o8, none⟩) 2 c8) rfl (by kernel_rfl) (by kernel_rfl) (by kernel_rfl) (fun _ _ _ h => h) (by kernel_rfl) (fun W hW => by kernel_rfl) ?_
        refine AnyB.take 33 (.pointer (some ⟨g8, o8, none⟩)) rfl (by kernel_rfl) (by kernel_rfl) (by kernel_rfl) (fun _ _ _ h => h) (by kernel_rfl) (fun W hW => by kernel_rfl) ?_
        refine AnyB.take 34 (.string ⟨s0.toArray⟩) rfl (by kernel_rfl) (by kernel_rfl) (by kernel_rfl) (fun _ _ _ h => h) (by kernel_rfl) (fun W hW => y_load (sv := .pointer (some ⟨g8, o8, none⟩)) rfl (by kernel_rfl) (HC0.out W hW)) ?_
        refine AnyB.take 35 (.slice (some ⟨g8, o8, none⟩) 2 c8) rfl (by kernel_rfl) (by kernel_rfl) (by kernel_rfl) (fun _ _ _ h => h) (by kernel_rfl) (fun W hW => by kernel_rfl) ?_
        refine AnyB.take 36 (.pointer (some ⟨g8, o8 + 1, none⟩)) rfl (by kernel_rfl) (by kernel_rfl) (by kernel_rfl) (fun _ _ _ h => h) (by kernel_rfl) (fun W hW => by kernel_rfl) ?_
        refine AnyB.take 37 (.string ⟨s1.toArray⟩) rfl (by kernel_rfl) (by kernel_rfl) (by kernel_rfl) (fun _ _ _ h => h) (by kernel_rfl) (fun W hW => y_load (sv := .pointer (some ⟨g8, o8 + 1, none⟩)) rfl (by kernel_rfl) (HC1.out W hW)) ?_
        refine AnyB.take 38 (.bool true) rfl (by kernel_rfl) (by kernel_rfl) (by kernel_rfl) (fun _ _ _ h => h) (by kernel_rfl) (fun W hW => y_bin (x := .string ⟨s0.toArray⟩) (y := .string ⟨s1.toArray⟩) rfl (by kernel_rfl) (by kernel_rfl) (by kernel_rfl) (HLt.out W)) ?_
        refine AnyB.take 39 (.bool true) rfl (by kernel_rfl) (by kernel_rfl) (by kernel_rfl) (fun _ _ _ h => h) (by kernel_rfl) (fun W hW => by kernel_rfl) ?_
        refine AnyB.take 40 (.bool true) rfl (by kernel_rfl) (by kernel_rfl) (by kernel_rfl) (fun _ _ _ h => h) (by kernel_rfl) (fun W hW => by kernel_rfl) ?_
        refine AnyB.take 41 (.slice A3 612 c3) rfl (by kernel_rfl) (by kernel_rfl) (by kernel_rfl) (fun _ _ _ h => h) (by kernel_rfl) (fun W hW => by kernel_rfl) ?_
        refine AnyB.call 42 15 #[.slice A3 612 c3] (by kernel_rfl) rfl (by kernel_rfl) (by kernel_rfl) ?_
        refine (HR1.out _ (LL.out.drew)).mono ?_
        rintro e w10 ⟨rfl, l10⟩
        have L10 : Hid (Below w.heap.size w w10) := Lib.hid (HE.out.trans ((LL.out.trans (Below.mono (w := w9) ⟨l10.os, l10.tape, l10.output, l10.size, l10.block⟩ LL.out.size)).mono HE.out.size))
        refine ⟨.bool true, rfl, l10, ?_⟩
        clear l10
        refine AnyB.take 43 (.bool true) rfl (by kernel_rfl) (by kernel_rfl) (by kernel_rfl) (fun _ _ _ h => h) (by kernel_rfl) (fun W hW => by kernel_rfl) ?_
        refine AnyB.take 44 (.bool true) rfl (by kernel_rfl) (by kernel_rfl) (by kernel_rfl) (fun _ _ _ h => h) (by kernel_rfl) (fun W hW => by kernel_rfl) ?_
        refine AnyB.call 45 15 #[.slice none 0 0] (by kernel_rfl) rfl (by kernel_rfl) (by kernel_rfl) ?_
        refine (HR2.out _ L10.out).mono ?_
        rintro e w11 ⟨rfl, l11⟩
        have L11 : Hid (Below w.heap.size w w11) := Lib.hid (L10.out.trans (l11.mono L10.out.size))
        refine ⟨.bool false, rfl, l11, ?_⟩
        clear l11
        refine AnyB.take 46 (.bool true) rfl (by kernel_rfl) (by kernel_rfl) (by kernel_rfl) (fun _ _ _ h => h) (by kernel_rfl) (fun W hW => by kernel_rfl) ?_
        refine AnyB.take 47 (.bool true) rfl (by kernel_rfl) (by kernel_rfl) (by kernel_rfl) (fun _ _ _ h => h) (by kernel_rfl) (fun W hW => by kernel_rfl) ?_
        refine AnyB.take 48 (.bool true) rfl (by kernel_rfl) (by kernel_rfl) (by kernel_rfl) (fun _ _ _ h => h) (by kernel_rfl) (fun W hW => by kernel_rfl) ?_
        refine AnyB.done _ (by kernel_rfl) ?_
        go_simp
        go_wp2
        go_ret
        exact ⟨rfl, L11.out⟩
      · rw [putE_97] at hn; cases hn
    · rw [putE_aa HA.out] at hn; cases hn
end Go.Proofs.YtdjmcehoaneekaaDoor.Ix
