/-
  WalkBoth: two rows of tips.
-/
import Derived.Test.YtngphfogomchfaaGreatDoorC41
import Derived.Test.YtngphfogomchfaaGreatDoorC42
import Derived.Test.YtngphfogomchfaaGreatDoorC43

namespace Go.Proofs.YtngphfogomchfaaGreatDoor
open Go Go.RowKit Go.Maps

set_option maxHeartbeats 16000000 in
set_option maxRecDepth 100000 in
theorem Both_law (w : World) (ho : Ob w) {v vo vt : Value} {l : List Hld} {one two : List Bs} (h : HldsR w v l) (hl : l.length ≤ limW) (h1 : StrsR w vo one) (hl1 : one.length ≤ limW) (h2 : StrsR w vt two) (hl2 : two.length ≤ limW) :
    Calls Tryz.prog 6 #[v, vo, vt] w (RetBelow (.bool true) w) := by
  obtain ⟨A, c, rfl⟩ := h.shape
  obtain ⟨A1, c1, rfl⟩ := h1.shape
  obtain ⟨A2, c2, rfl⟩ := h2.shape
  have HH := Lib.hid (head_any ho); have HO := Lib.hid ho; have Hx := Lib.hid h; have Ho := Lib.hid h1; have Ht := Lib.hid h2; have Hl := Lib.hid hl; have Hl1 := Lib.hid hl1; have Hl2 := Lib.hid hl2
  clear h h1 h2 hl hl1 hl2 ho
  go_enter Tryz.func6, Tryz.ntmps6
  go_wp2_with fail
  refine HH.out.mono ?_
  rintro e w1 ⟨rfl, l9⟩
  have L1 := Lib.hid l9
  clear l9
  go_wp2_with fail
  refine (Great_any (Hx.out.below L1.out (Nat.le_refl _)) Hl.out).mono ?_
  rintro e w2 ⟨gr, rfl, l9, hg⟩
  have L2 := Lib.hid (L1.out.trans (l9.mono L1.out.size))
  clear l9
  cases gr with
  | true =>
    clear hg
    go_wp2_with fail
    go_ret
    exact ⟨rfl, L2.out⟩
  | false =>
  have HS := Lib.hid (hg rfl)
  clear hg
  go_wp2_with fail
  refine (GreatTexts_any (Ho.out.below L2.out (Nat.le_refl _)) Hl1.out).mono ?_
  rintro e w3 ⟨gr, rfl, l9, hg⟩
  have L3 := Lib.hid (L2.out.trans (l9.mono L2.out.size))
  clear l9
  cases gr with
  | true =>
    clear hg
    go_wp2_with fail
    go_ret
    exact ⟨rfl, L3.out⟩
  | false =>
  have HS1 := Lib.hid (hg rfl)
  clear hg
  go_wp2_with fail
  refine (GreatTexts_any (Ht.out.below L3.out (Nat.le_refl _)) Hl2.out).mono ?_
  rintro e w4 ⟨gr, rfl, l9, hg⟩
  have L4 := Lib.hid (L3.out.trans (l9.mono L3.out.size))
  clear l9
  cases gr with
  | true =>
    clear hg
    go_wp2_with fail
    go_ret
    exact ⟨rfl, L4.out⟩
  | false =>
  have HS2 := Lib.hid (hg rfl)
  clear hg
  go_wp2_with fail
  have hs1 := HS1.out.1
  have hs2 := HS2.out.1
  refine (clo_small (Hx.out.below L4.out (Nat.le_refl _)) (Ho.out.below L4.out (Nat.le_refl _)) (HO.out.below L4.out) HS.out (smallT_len HS1.out).1 (smallT_len HS1.out).2).mono ?_
  rintro e w5 ⟨va, vb, a, b, rfl, ra, rb, hab, la, lb, l9⟩
  obtain ⟨Aa, ca, rfl⟩ := ra.shape
  obtain ⟨Ab, cb, rfl⟩ := rb.shape
  have L5 := Lib.hid (L4.out.trans (l9.mono L4.out.size)); have HRa := Lib.hid ra; have HRb := Lib.hid rb; have HAB := Lib.hid hab
  clear l9 ra rb hab
  go_wp2_with fail
  refine (clo_small (Hx.out.below L5.out (Nat.le_refl _)) (Ht.out.below L5.out (Nat.le_refl _)) (HO.out.below L5.out) HS.out (smallT_len HS2.out).1 (smallT_len HS2.out).2).mono ?_
  rintro e w6 ⟨vc, vd, c0, d, rfl, rc, rd, hcd, lc, ld, l9⟩
  obtain ⟨Ac, cc, rfl⟩ := rc.shape
  obtain ⟨Ad, cd, rfl⟩ := rd.shape
  have L6 := Lib.hid (L5.out.trans (l9.mono L5.out.size)); have HRa6 := Lib.hid (HRa.out.below l9 (Nat.le_refl _)); have HRb6 := Lib.hid (HRb.out.below l9 (Nat.le_refl _)); have HRc := Lib.hid rc; have HRd := Lib.hid rd; have HCD := Lib.hid hcd
  clear l9 rc rd hcd HRa HRb
  have B6 := Lib.hid (below_new w6 (.cells #[] 9))
  go_wp2_with (at_builtin; refine wpList_all strK rfl _ _ rfl w6.heap.size (.slice (some ⟨w6.heap.size, 0, none⟩) 0 0) (.slice A1 one.length c1) [] one rfl rfl (OwK.new0 w6 _ (Nat.le_refl _)) (Ho.out.below (L6.out.trans (B6.out.mono L6.out.size)) (Nat.le_refl _)) (by simp; omega) (by decide) B6.out.size ?_)
  intro v7 w7 hN7 hb7
  have HN7 := Lib.hid hN7; have HB7 := Lib.hid (B6.out.trans hb7)
  clear hN7 hb7
  go_wp2_with (at_builtin; refine wpList_all strK rfl _ _ rfl w6.heap.size v7 (.slice A2 two.length c2) ([] ++ one) two rfl rfl HN7.out (Ht.out.below (L6.out.trans (HB7.out.mono L6.out.size)) (Nat.le_refl _)) (by simp; omega) (by decide) HB7.out.size ?_)
  intro v8 w8 hN8 hb8
  have HN8 := Lib.hid (NewS.rd hN8); have HB8 := Lib.hid (HB7.out.trans hb8)
  clear hN8 hb8
  have L8 := Lib.hid (L6.out.trans (HB8.out.mono L6.out.size))
  go_wp2_with fail
  refine (clo_small (tips := one ++ two) (Hx.out.below L8.out (Nat.le_refl _)) HN8.out (HO.out.below L8.out) HS.out (by simp; omega) (fun x hx => (List.mem_append.1 hx).elim ((smallT_len HS1.out).2 x) ((smallT_len HS2.out).2 x))).mono ?_
  rintro e w9 ⟨vx, vy, x, y, rfl, rx, ry, hxy, lx, ly, l9⟩
  obtain ⟨Ax, cx, rfl⟩ := rx.shape
  obtain ⟨Ay, cy, rfl⟩ := ry.shape
  have L9 := Lib.hid (L8.out.trans (l9.mono L8.out.size)); have HRx := Lib.hid rx; have HRy := Lib.hid ry
  have B9 := HB8.out.trans (l9.mono HB8.out.size)
  have HRa9 := Lib.hid (HRa6.out.below B9 (Nat.le_refl _)); have HRb9 := Lib.hid (HRb6.out.below B9 (Nat.le_refl _)); have HRc9 := Lib.hid (HRc.out.below B9 (Nat.le_refl _)); have HRd9 := Lib.hid (HRd.out.below B9 (Nat.le_refl _))
  obtain ⟨e1, e2, e3, e4⟩ := IsClo.both HAB.out HCD.out hxy
  have E1 := Lib.hid e1; have E2 := Lib.hid e2; have E3 := Lib.hid e3; have E4 := Lib.hid e4
  clear l9 rx ry hxy B9 HRa6 HRb6 HRc HRd HN8 e1 e2 e3 e4
  go_wp2_with fail
  go_loop [14] (fun vi => ∃ k : Nat, k ≤ x.length ∧ vi = .int .i64 k) (fun vi => x.length - (intOf vi).toNat)
  case atStart => exact ⟨0, Nat.zero_le _, rfl⟩
  case round =>
    obtain ⟨k, hk, rfl⟩ := hrel
    by_cases hlt : k < x.length
    · obtain ⟨g, o, c', e, _, hg⟩ := HRx.out.pos (by omega)
      cases e
      have p0 := StrsR.cell HRx.out k hlt
      have hm := (E1.out _).1 (getD_mem x [] k hlt)
      obtain ⟨s, hs⟩ : ∃ s, s = x.getD k ([] : Bs) := ⟨_, rfl⟩
      rw [← hs] at p0 hm
      unfold SV at p0
      clear hs
      by_cases ha : s ∈ a
      · have HA := Lib.hid (has_yes HRa9.out (by omega) ha)
        clear ha hm
        go_wp2_with fail
        refine HA.out.mono ?_
        rintro e w2 ⟨rfl, rfl⟩
        go_wp2_with fail
        go_round
        case rel => exact ⟨k + 1, hlt, by go_num⟩
        case measure => simp [intOf]; omega
      · have HA := Lib.hid (has_no HRa9.out (by omega) ha); have HC := Lib.hid (has_yes HRc9.out (by omega) (hm.resolve_left ha))
        clear ha hm
        go_wp2_with fail
        refine HA.out.mono ?_
        rintro e w2 ⟨rfl, rfl⟩
        go_wp2_with fail
        refine HC.out.mono ?_
        rintro e w2 ⟨rfl, rfl⟩
        go_wp2_with fail
        go_round
        case rel => exact ⟨k + 1, hlt, by go_num⟩
        case measure => simp [intOf]; omega
    obtain rfl : k = x.length := by omega
    clear hk hlt
    go_wp2_with fail
    go_loop [15] (fun vi => ∃ k : Nat, k ≤ y.length ∧ vi = .int .i64 k) (fun vi => y.length - (intOf vi).toNat)
    case atStart => exact ⟨0, Nat.zero_le _, rfl⟩
    case round =>
      obtain ⟨k, hk, rfl⟩ := hrel
      by_cases hlt : k < y.length
      · obtain ⟨g, o, c', e, _, hg⟩ := HRy.out.pos (by omega)
        cases e
        have p0 := StrsR.cell HRy.out k hlt
        have hm := (E2.out _).1 (getD_mem y [] k hlt)
        obtain ⟨s, hs⟩ : ∃ s, s = y.getD k ([] : Bs) := ⟨_, rfl⟩
        rw [← hs] at p0 hm
        unfold SV at p0
        clear hs
        by_cases ha : s ∈ b
        · have HA := Lib.hid (has_yes HRb9.out (by omega) ha)
          clear ha hm
          go_wp2_with fail
          refine HA.out.mono ?_
          rintro e w2 ⟨rfl, rfl⟩
          go_wp2_with fail
          go_round
          case rel => exact ⟨k + 1, hlt, by go_num⟩
          case measure => simp [intOf]; omega
        · have HA := Lib.hid (has_no HRb9.out (by omega) ha); have HC := Lib.hid (has_yes HRd9.out (by omega) (hm.resolve_left ha))
          clear ha hm
          go_wp2_with fail
          refine HA.out.mono ?_
          rintro e w2 ⟨rfl, rfl⟩
          go_wp2_with fail
          refine HC.out.mono ?_
          rintro e w2 ⟨rfl, rfl⟩
          go_wp2_with fail
          go_round
          case rel => exact ⟨k + 1, hlt, by go_num⟩
          case measure => simp [intOf]; omega
      obtain rfl : k = y.length := by omega
      clear hk hlt
      go_wp2_with fail
      go_loop [16] (fun vi => ∃ k : Nat, k ≤ a.length ∧ vi = .int .i64 k) (fun vi => a.length - (intOf vi).toNat)
      case atStart => exact ⟨0, Nat.zero_le _, rfl⟩
      case round =>
        obtain ⟨k, hk, rfl⟩ := hrel
        by_cases hlt : k < a.length
        · obtain ⟨g, o, c', e, _, hg⟩ := HRa9.out.pos (by omega)
          cases e
          have p0 := StrsR.cell HRa9.out k hlt
          have hm := (E1.out _).2 (.inl (getD_mem a [] k hlt))
          obtain ⟨s, hs⟩ : ∃ s, s = a.getD k ([] : Bs) := ⟨_, rfl⟩
          rw [← hs] at p0 hm
          unfold SV at p0
          have HA := Lib.hid (has_yes HRx.out (by omega) hm)
          clear hs hm
          go_wp2_with fail
          refine HA.out.mono ?_
          rintro e w2 ⟨rfl, rfl⟩
          go_wp2_with fail
          go_round
          case rel => exact ⟨k + 1, hlt, by go_num⟩
          case measure => simp [intOf]; omega
        obtain rfl : k = a.length := by omega
        clear hk hlt
        go_wp2_with fail
        go_loop [17] (fun vi => ∃ k : Nat, k ≤ c0.length ∧ vi = .int .i64 k) (fun vi => c0.length - (intOf vi).toNat)
        case atStart => exact ⟨0, Nat.zero_le _, rfl⟩
        case round =>
          obtain ⟨k, hk, rfl⟩ := hrel
          by_cases hlt : k < c0.length
          · obtain ⟨g, o, c', e, _, hg⟩ := HRc9.out.pos (by omega)
            cases e
            have p0 := StrsR.cell HRc9.out k hlt
            have hm := (E1.out _).2 (.inr (getD_mem c0 [] k hlt))
            obtain ⟨s, hs⟩ : ∃ s, s = c0.getD k ([] : Bs) := ⟨_, rfl⟩
            rw [← hs] at p0 hm
            unfold SV at p0
            have HA := Lib.hid (has_yes HRx.out (by omega) hm)
            clear hs hm
            go_wp2_with fail
            refine HA.out.mono ?_
            rintro e w2 ⟨rfl, rfl⟩
            go_wp2_with fail
            go_round
            case rel => exact ⟨k + 1, hlt, by go_num⟩
            case measure => simp [intOf]; omega
          obtain rfl : k = c0.length := by omega
          clear hk hlt
          go_wp2_with fail
          go_wp2_with fail
          all_goals first | (exfalso; have := E3.out; omega) | (go_ret; exact ⟨ret_same (decide_eq_true (by have := E4.out; omega)).symm, L9.out⟩)
end Go.Proofs.YtngphfogomchfaaGreatDoor
