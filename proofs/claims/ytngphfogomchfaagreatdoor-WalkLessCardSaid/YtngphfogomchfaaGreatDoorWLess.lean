/-
  WalkLess: with less.
-/
import Derived.Test.YtngphfogomchfaaGreatDoorC41
import Derived.Test.YtngphfogomchfaaGreatDoorC42
import Derived.Test.YtngphfogomchfaaGreatDoorC43
import Derived.Test.YtngphfogomchfaaGreatDoorWClosed

namespace Go.Proofs.YtngphfogomchfaaGreatDoor
open Go Go.RowKit Go.Maps

theorem findL_pick (l : List Hld) (a : List Bs) (s : Bs) : findL (pickL l a) s = if a.contains s = true then findL l s else none := findL_filter _ (fun s => a.contains s) (fun _ => rfl) l s
def restL (l : List Hld) (z : Bs) : List Hld := l.filter fun h => !(h.id == z)
theorem findL_rest (l : List Hld) (z s : Bs) : findL (restL l z) s = if (!(s == z)) = true then findL l s else none := findL_filter _ (fun s => !(s == z)) (fun _ => rfl) l s
theorem restL_snoc {l : List Hld} {z : Bs} {k : Nat} (h : k < l.length) : restL (l.take (k + 1)) z = if (l.getD k noHld).id = z then restL (l.take k) z else restL (l.take k) z ++ [l.getD k noHld] := by
  unfold restL
  rw [take_getD l noHld k h, List.filter_append]
  by_cases e : (l.getD k noHld).id = z
  · rw [if_pos e, List.filter_cons_of_neg (by simpa using e)]; simp
  · rw [if_neg e, List.filter_cons_of_pos (by simpa using e)]; rfl
theorem restL_len (l : List Hld) (z : Bs) : (restL l z).length ≤ l.length := List.length_filter_le _ _
theorem less_pick {l : List Hld} {tips a b c d : List Bs} (h : IsClo (wfL l) (thB l) tips a b) (h' : IsClo (wfL (pickL l a)) (thB (pickL l a)) tips c d) : a = c ∧ b = d := by
  refine IsClo.less h (fun s hs => wfL_no hs) (fun s => ?_) (fun s hs => ?_) (fun s hs => ?_) h'
  · unfold thB
    rw [findL_pick]
    by_cases hm : s ∈ a
    · rw [if_pos (by simpa using hm)]; simp [hm]
    · rw [if_neg (by simpa using hm)]; simp [hm]
  · unfold wfL; rw [findL_pick, if_pos (by simpa using hs)]
  · unfold wfL; rw [findL_pick, if_neg (by simpa using hs)]
theorem less_rest {l : List Hld} {tips a b c d : List Bs} {z : Bs} (h : IsClo (wfL l) (thB l) tips a b) (hz : z ∈ a) (h' : IsClo (wfL (restL l z)) (thB (restL l z)) tips c d) : z ∈ d ∧ z ∉ c ∧ c.length < a.length := by
  refine IsClo.without h hz (fun s => ?_) (fun s hs => ?_) ?_ h'
  · unfold thB
    rw [findL_rest]
    by_cases e : s = z
    · rw [if_neg (by simpa using e)]; simp [e]
    · rw [if_pos (by simpa using e)]; simp [e]
  · unfold wfL; rw [findL_rest, if_pos (by simpa using hs)]
  · unfold wfL; rw [findL_rest, if_neg (by simp)]
set_option maxHeartbeats 16000000 in
set_option maxRecDepth 100000 in
theorem Less_law (w : World) (ho : Ob w) {v vt : Value} {l : List Hld} {tips : List Bs} (h : HldsR w v l) (hl : l.length ≤ limW) (h2 : StrsR w vt tips) (hl2 : tips.length ≤ limW) (n : Nat) (hn255 : n < 256) :
    Calls Tryz.prog 9 #[v, vt, .int .u8 (n : Int)] w (RetBelow (.bool true) w) := by
  obtain ⟨A, c, rfl⟩ := h.shape
  obtain ⟨A2, c2, rfl⟩ := h2.shape
  have HH := Lib.hid (head_any ho); have HO := Lib.hid ho; have Hx := Lib.hid h; have Ht := Lib.hid h2; have Hl := Lib.hid hl; have Hl2 := Lib.hid hl2
  clear h h2 hl hl2 ho
  go_enter Tryz.func9, Tryz.ntmps9
  go_wp2_with fail
  refine HH.out.mono ?_
  rintro e w1 ⟨rfl, l9⟩
  have L1 := Lib.hid l9
  clear l9
  go_wp2_with fail
  refine (Great_any (Hx.out.below L1.out (Nat.le_refl _)) Hl.out).mono ?_
  rintro e w2 ⟨gr, rfl, l9, hg⟩
  have L2 := Lib.hid (L1.out.trans (l9.mono L1.out.size))
  clear l9
  cases gr with
  | true =>
    clear hg
    go_wp2_with fail
    go_ret
    exact ⟨rfl, L2.out⟩
  | false =>
  have HS := Lib.hid (hg rfl)
  clear hg
  go_wp2_with fail
  refine (GreatTexts_any (Ht.out.below L2.out (Nat.le_refl _)) Hl2.out).mono ?_
  rintro e w4 ⟨gr, rfl, l9, hg⟩
  have L4 := Lib.hid (L2.out.trans (l9.mono L2.out.size))
  clear l9
  cases gr with
  | true =>
    clear hg
    go_wp2_with fail
    go_ret
    exact ⟨rfl, L4.out⟩
  | false =>
  have HS2 := Lib.hid (hg rfl)
  clear hg
  go_wp2_with fail
  have hs := HS.out.1
  have hs2 := HS2.out.1
  have HIl : Hid (∀ x ∈ l, x.id.length ≤ 1000000) := Lib.hid fun x hx => by have := (HS.out.2 x hx).1; omega
  refine (clo_small (Hx.out.below L4.out (Nat.le_refl _)) (Ht.out.below L4.out (Nat.le_refl _)) (HO.out.below L4.out) HS.out (smallT_len HS2.out).1 (smallT_len HS2.out).2).mono ?_
  rintro e w5 ⟨va, vb, a, b, rfl, ra, rb, hab, la, lb, l9⟩
  obtain ⟨Aa, ca, rfl⟩ := ra.shape
  obtain ⟨Ab, cb, rfl⟩ := rb.shape
  have L5 := Lib.hid (L4.out.trans (l9.mono L4.out.size)); have HRa := Lib.hid ra; have HRb := Lib.hid rb; have HAB := Lib.hid hab
  have HAl : Hid (∀ x ∈ a, x.length ≤ 1000000) := Lib.hid fun x hx => by
    obtain ⟨u, hu, e⟩ := th_mem ((HAB.out.ma x).1 hx).2
    rw [← e]; exact HIl.out u hu
  clear l9 ra rb hab
  go_wp2_with fail
  refine (Pick_any (Hx.out.below L5.out (Nat.le_refl _)) HRa.out (by omega) (by omega) HIl.out HAl.out).mono ?_
  rintro e w6 ⟨vp, rfl, hp, l9⟩
  have L6 := Lib.hid (L5.out.trans (l9.mono L5.out.size)); have HRa6 := Lib.hid (HRa.out.below l9 (Nat.le_refl _)); have HRb6 := Lib.hid (HRb.out.below l9 (Nat.le_refl _))
  have hpc := Closure_any hp.rd (Ht.out.below L6.out (Nat.le_refl _)) (HO.out.below L6.out).eb (HO.out.below L6.out).tb (Nat.le_trans (pickL_len l a) (by omega)) (smallT_len HS2.out).1 (fun x hx => by
    have hx := (List.mem_filter.1 hx).1
    exact ⟨by have := (HS.out.2 x hx).1; omega, by have := (HS.out.2 x hx).2; omega⟩) (smallT_len HS2.out).2
  obtain ⟨Ap, cp, rfl⟩ := own_slice hp
  have HPc := Lib.hid hpc
  clear l9 hp hpc HRa HRb
  go_wp2_with fail
  refine HPc.out.mono ?_
  rintro e w7 ⟨vc, vd, c0, d0, rfl, rc, rd, hcd, lc, ld, l9⟩
  obtain ⟨e1, e2⟩ := less_pick HAB.out hcd
  subst e1 e2
  obtain ⟨Ac, cc, rfl⟩ := rc.shape
  obtain ⟨Ad, cd, rfl⟩ := rd.shape
  have h1 := SameTexts_any (HRa6.out.below l9 (Nat.le_refl _)) rc (by omega)
  rw [decide_eq_true rfl] at h1
  have H1 := Lib.hid h1; have L7 := Lib.hid (L6.out.trans (l9.mono L6.out.size)); have HRa7 := Lib.hid (HRa6.out.below l9 (Nat.le_refl _)); have HRb7 := Lib.hid (HRb6.out.below l9 (Nat.le_refl _)); have HRd := Lib.hid rd
  clear l9 rc rd hcd h1 HRa6 HRb6
  go_wp2_with fail
  refine H1.out.mono ?_
  rintro e w8 ⟨rfl, l9⟩
  have h1 := SameTexts_any (HRb7.out.below l9 (Nat.le_refl _)) (HRd.out.below l9 (Nat.le_refl _)) (by omega)
  rw [decide_eq_true rfl] at h1
  have H2 := Lib.hid h1; have L8 := Lib.hid (L7.out.trans (l9.mono L7.out.size)); have HRa8 := Lib.hid (HRa7.out.below l9 (Nat.le_refl _))
  clear l9 h1 HRa7 HRb7 HRd
  go_wp2_with fail
  refine H2.out.mono ?_
  rintro e w9 ⟨rfl, l9⟩
  have L9 := Lib.hid (L8.out.trans (l9.mono L8.out.size)); have HRa9 := Lib.hid (HRa8.out.below l9 (Nat.le_refl _))
  clear l9 HRa8
  by_cases h0 : a.length = 0
  · have h0I : (a.length : Int) = 0 := by omega
    rw [h0]
    clear h0I
    go_wp2_with fail
    go_ret
    exact ⟨rfl, L9.out⟩
  have h0I : ¬ (a.length : Int) = 0 := by omega
  have h0b : ((a.length : Int) == 0) = false := by simpa using h0
  obtain ⟨k, hk⟩ : ∃ k, k = n % a.length := ⟨_, rfl⟩
  have hka : k < a.length := by rw [hk]; exact Nat.mod_lt _ (by omega)
  have hrem : (n : Int).tmod (a.length : Int) = (k : Int) := by rw [hk]; exact (Int.ofNat_tmod n a.length).symm
  obtain ⟨ga, oa, ca', e, _, hga⟩ := HRa9.out.pos (by omega)
  cases e
  have hz := getD_mem a [] k hka
  have pz := StrsR.cell HRa9.out k hka
  obtain ⟨z, hze⟩ : ∃ z, z = a.getD k ([] : Bs) := ⟨_, rfl⟩
  rw [← hze] at hz pz
  unfold SV at pz
  have hkaI : (k : Int) < (a.length : Int) := by omega
  have HZ := Lib.hid hz; have HPz := Lib.hid pz; have HRl := Lib.hid (Hx.out.below L9.out (Nat.le_refl _))
  have HN0 : Hid (NewH w9.heap.size w9 (.slice none 0 0) (restL (l.take 0) z)) := Lib.hid (OwK.nil _ _ _ _ _)
  clear hk hz pz hze
  go_wp2_with fail
  go_loopw [14, 13] (fun vi vz wr => Hid (Below w9.heap.size w9 wr) ∧ ∃ i : Nat, i ≤ l.length ∧ vi = .int .i64 i ∧ Hid (NewH w9.heap.size wr vz (restL (l.take i) z))) (fun vi _ _ => l.length - (intOf vi).toNat)
  case atStart => exact ⟨Lib.hid (Below.refl _ _), 0, Nat.zero_le _, rfl, HN0⟩
  case round =>
    obtain ⟨hB, i, hi, rfl, hN⟩ := hrel
    by_cases hlt : i < l.length
    · obtain ⟨g, o, c', e, _, hg⟩ := HRl.out.pos (by omega)
      cases e
      obtain ⟨p0, p1, p2⟩ := HldsR.cells (HRl.out.below hB.out (Nat.le_refl _)) i hlt
      have pz := cell_to HPz.out hB.out
      have hsn := restL_snoc (z := z) hlt
      have hpl := restL_len (l.take i) z
      have hpl2 := List.length_take_le i l
      obtain ⟨x, hx⟩ : ∃ x, x = l.getD i noHld := ⟨_, rfl⟩
      rw [← hx] at p0 p1 p2 hsn
      obtain ⟨xi, xk, xd⟩ := x
      unfold SV at p0 p2
      simp only at p0 p1 p2 hsn
      have hPL : (restL (l.take i) z).length + 1 ≤ 1000000 := by omega
      have hltI : (i : Int) < (l.length : Int) := by omega
      have HSn := Lib.hid hsn; have HPL := Lib.hid hPL; have HP := Lib.hid (And.intro p0 (And.intro p1 p2))
      clear hsn hx hpl hpl2 hPL
      go_upto_region 15 with fail
      by_cases hm : xi = z
      · have HS3 := Lib.hid (HSn.out.trans (if_pos hm))
        subst hm
        go_cut [73] from 64 to 73 (fun t wx => t = .bool false ∧ Hid (Below wr.heap.size wr wx))
        case first =>
          go_quiet (fail)
          go_wp2
          go_meet
          exact ⟨by simp, Lib.hid (below_drewN' (Below.refl _ _) _)⟩
        case rest =>
        obtain ⟨rfl, hbc⟩ := hcut
        have HBc := Lib.hid (hB.out.trans (hbc.out.mono hB.out.size)); have HN2 := Lib.hid (OwK.below hN.out hbc.out (Nat.le_refl _))
        clear p0 p1 p2 pz hbc
        go_wp2_with fail
        go_roundw
        case rel => exact ⟨HBc, i + 1, hlt, by go_num, Lib.hid (by rw [HS3.out]; exact HN2.out)⟩
        case measure => simp [intOf]; omega
      · have HS3 := Lib.hid (HSn.out.trans (if_neg hm))
        have hm2 : (xi == z) = false := by simpa using hm
        have hm3 : (xi != z) = true := by simpa using hm
        go_cut [73] from 64 to 73 (fun t wx => t = .bool true ∧ Hid (Below wr.heap.size wr wx))
        case first =>
          go_quiet (fail)
          go_wp2
          go_meet
          exact ⟨by simp, Lib.hid (below_drewN' (Below.refl _ _) _)⟩
        case rest =>
        obtain ⟨rfl, hbc⟩ := hcut
        have HBc := Lib.hid (hB.out.trans (hbc.out.mono hB.out.size)); have HN2 := Lib.hid (OwK.below hN.out hbc.out (Nat.le_refl _))
        have p0 := cell_to HP.out.1 hbc.out
        have p1 := cell_to HP.out.2.1 hbc.out
        have p2 := cell_to HP.out.2.2 hbc.out
        clear pz hbc
        go_wp2_with (at_builtin; refine wpList_one heldK rfl _ _ rfl w9.heap.size u13 (restL (l.take i) z) ⟨xi, xk, xd⟩ _ rfl rfl rfl HN2.out HPL.out (by decide) HBc.out.size ?_)
        intro z' w10 hN3 hb3
        have HN3 := Lib.hid hN3
        have HB3 := Lib.hid (HBc.out.trans hb3)
        clear hN3 hb3 p0 p1 p2
        go_wp2_with fail
        go_roundw
        case rel => exact ⟨HB3, i + 1, hlt, by go_num, Lib.hid (by rw [HS3.out]; exact HN3.out)⟩
        case measure => simp [intOf]; omega
    obtain rfl : i = l.length := by omega
    rw [List.take_length] at hN
    have L10 := Lib.hid (L9.out.trans (hB.out.mono L9.out.size))
    have hrc := Closure_any hN.out.rd (Ht.out.below L10.out (Nat.le_refl _)) (HO.out.below L10.out).eb (HO.out.below L10.out).tb (Nat.le_trans (restL_len l z) (by omega)) (smallT_len HS2.out).1 (fun x hx => by
      have hx := (List.mem_filter.1 hx).1
      exact ⟨by have := (HS.out.2 x hx).1; omega, by have := (HS.out.2 x hx).2; omega⟩) (smallT_len HS2.out).2
    obtain ⟨Ar, cr, rfl⟩ := own_slice hN.out
    have HRc := Lib.hid hrc
    have pz := cell_to HPz.out hB.out
    clear hrc hi hlt
    go_wp2_with fail
    refine HRc.out.mono ?_
    rintro e w11 ⟨vx, vy, x, y, rfl, rx, ry, hxy, lx, ly, l9⟩
    obtain ⟨m1, m2, m3⟩ := less_rest HAB.out HZ.out hxy
    obtain ⟨Ax, cx, rfl⟩ := rx.shape
    obtain ⟨Ay, cy, rfl⟩ := ry.shape
    have HA := Lib.hid (has_yes ry (by omega) m1); have HC := Lib.hid (has_no rx (by omega) m2)
    have L11 := Lib.hid (L10.out.trans (l9.mono L10.out.size))
    have pz := cell_to pz l9
    have m3I : (x.length : Int) < (a.length : Int) := by omega
    clear l9 rx ry hxy m1 m2
    go_wp2_with fail
    refine HA.out.mono ?_
    rintro e w12 ⟨rfl, rfl⟩
    go_wp2_with fail
    refine HC.out.mono ?_
    rintro e w12 ⟨rfl, rfl⟩
    go_wp2_with fail
    go_ret
    exact ⟨by simp, L11.out⟩
end Go.Proofs.YtngphfogomchfaaGreatDoor
