/-
  IndexFinds, walked.
-/
import Derived.Test.YtdjmcehoaneekaaDoorIHead
namespace Go.Proofs.YtdjmcehoaneekaaDoor.Ix
open Go.Proofs.YtdjmcehoaneekaaDoor
open Go Go.RowKit

theorem putE_pos {ids : List Bs} {n : Nat} (h : putE ids = some n) : 0 < n := by
  unfold putE at h
  split at h
  · cases h; decide
  · split at h
    · split at h
      · cases h
      · cases h; decide
    · cases h; decide
theorem small_len {ids : List Bs} (h : Small ids) : ids.length ≤ 1000000 ∧ ∀ x ∈ ids, x.length ≤ maxLen := ⟨by have := h.1; omega, fun x hx => by have := h.2 x hx; unfold maxLen; omega⟩
theorem mem_snoc {ids : List Bs} {k : Nat} {id x : Bs} (h : ids[k]? = some id) : decide (x ∈ ids.take (k + 1)) = (decide (x ∈ ids.take k) || decide (id = x)) := by
  rw [List.take_add_one, h, Option.toList_some]
  rw [Bool.eq_iff_iff, Bool.or_eq_true, decide_eq_true_iff, decide_eq_true_iff, decide_eq_true_iff, List.mem_append, List.mem_singleton]
  exact or_congr Iff.rfl eq_comm
theorem ne0 {n : Nat} (h : 0 < n) : ((n : Int) != 0) = true := by
  have : ¬ (n : Int) = 0 := by omega
  simpa using this
set_option maxRecDepth 100000 in
set_option maxHeartbeats 4000000 in
theorem Finds_law (w : World) (hp : Pr w) {v : Value} {ids : List Bs} (hv : StrsR w v ids) (hl : ids.length ≤ 140737488355328) (other : Bs) (ho : other.length ≤ maxLen) :
    Calls Tryd.prog 4 #[v, SV other] w (BoolP true w) := by
  unfold maxLen at ho
  have hplt := hp.lt
  have HH := Lib.hid (head_any w hp)
  have HG : Hid (∀ W, Below w.heap.size w W → Calls Tryd.prog 10 #[v] W (GrtP ids W)) := Lib.hid fun W hW => great_any (hv.below hW (Nat.le_refl _)) hl
  have HPut : Hid (∀ W, Below w.heap.size w W → Small ids → Calls Tryd.prog 11 #[v] W (PutPost ids W)) := Lib.hid fun W hW hs => Put_any (hp.below hW hplt) (hv.below hW (Nat.le_refl _)) (small_len hs).2 (small_len hs).1
  obtain ⟨A, c, rfl⟩ := hv.shape
  obtain ⟨N, hN⟩ : ∃ N, N = ids.length := ⟨_, rfl⟩
  have HV : Hid (StrsR w (.slice A N c) ids) := Lib.hid (by rw [hN]; exact hv)
  rw [← hN] at HG HPut hl ⊢
  have HN := Lib.hid hN; have HP := Lib.hid hp
  unfold SV
  clear hv hN hp
  go_enter Tryd.func4, Tryd.ntmps4
  go_wp2_with fail
  refine HH.out.mono ?_
  rintro e w1 ⟨rfl, l1⟩
  have L1 := Lib.hid l1
  clear l1
  go_wp2_with fail
  refine (HG.out w1 L1.out).mono ?_
  rintro e w2 ⟨b, rfl, l2, hsm⟩
  have L2 : Hid (Below w.heap.size w w2) := Lib.hid (L1.out.trans (l2.mono L1.out.size))
  clear l2
  cases b with
  | true =>
    clear hsm
    go_wp2_with fail
    go_ret
    exact ⟨rfl, L2.out⟩
  | false =>
    have HSm := Lib.hid (hsm rfl)
    clear hsm
    by_cases h60 : 60 < N
    · have h60I : (60 : Int) < (N : Int) := by omega
      go_wp2_with fail
      go_ret
      exact ⟨rfl, L2.out⟩
    · have h60I : ¬ (60 : Int) < (N : Int) := by omega
      have hN60 : N ≤ 60 := by omega
      by_cases h3 : 3000 < other.length
      · have h3I : (3000 : Int) < (other.length : Int) := by omega
        go_wp2_with fail
        go_ret
        exact ⟨rfl, L2.out⟩
      · have h3I : ¬ (3000 : Int) < (other.length : Int) := by omega
        have HPt := Lib.hid (HPut.out w2 L2.out HSm.out)
        clear h60 h3
        go_wp2_with fail
        refine HPt.out.mono ?_
        rintro e w3 ⟨l3, hh⟩
        have L3 : Hid (Below w.heap.size w w3) := Lib.hid (L2.out.trans (l3.mono L2.out.size))
        clear l3 HPt
        rcases hh with ⟨n, hn, rfl⟩ | ⟨hn, rows, A3, N3, c3, hsrt, rfl, hN3, ho3⟩
        · have hne := ne0 (putE_pos hn)
          have hpos := putE_pos hn
          clear hn
          go_wp2_with fail
          go_ret
          exact ⟨rfl, L3.out⟩
        · obtain ⟨h512, hall, hnd⟩ := putE_none.1 hn
          have hrd := hsrt.read h512
          have hr3 : Rb w3 (.slice A3 N3 c3) (indexL rows) := by rw [hN3]; rw [hN3] at ho3; exact Dl.Ow.rb ho3
          have hlen : (indexL rows).length ≤ 1000000 := by rw [indexL_len hsrt.fit, hsrt.len]; omega
          have HF : Hid (∀ W id, Below w3.heap.size w3 W → id.length ≤ maxLen → Calls Tryd.prog 13 #[.slice A3 N3 c3, .string ⟨id.toArray⟩] W (FndP (findE rows id) W)) := Lib.hid fun W id hW hid => by
            have h := Find_any (id := id) (HP.out.below (L3.out.trans (hW.mono L3.out.size)) hplt) (hr3.below hW (Nat.le_refl _)) hlen hid
            rw [findB_some hrd] at h
            exact h
          have HAl : Hid (∀ W, Below w3.heap.size w3 W → Calls Tryd.prog 18 #[.slice A3 N3 c3] W (AllPost (allI rows) W)) := Lib.hid fun W hW => by
            have h := All_any (HP.out.below (L3.out.trans (hW.mono L3.out.size)) hplt) (hr3.below hW (Nat.le_refl _)) hlen
            rw [allB_some hrd] at h
            exact h
          have HRt : Hid (∀ W, Below w3.heap.size w3 W → Calls Tryd.prog 15 #[.slice A3 N3 c3] W (BoolP true W)) := Lib.hid fun W hW => by
            have h := Right_any (HP.out.below (L3.out.trans (hW.mono L3.out.size)) hplt) (hr3.below hW (Nat.le_refl _)) hlen
            rw [hrd] at h
            exact h
          have HRl : Hid ((allI rows).length = N) := Lib.hid (by unfold allI; rw [List.length_map, hsrt.len, HN.out])
          have HS := Lib.hid hsrt; have HAll := Lib.hid hall
          clear hn h512 hall hnd hrd hr3 hlen hsrt hN3 ho3
          go_wp2_with fail
          have W30 : Hid (Below w3.heap.size w3 w3) := Lib.hid (Below.refl _ _)
          go_loopw [8, 9, 10, 11] (fun t i _ _ wr => ∃ k : Nat, k ≤ N ∧ i = .int .i64 k ∧ Hid (Below w3.heap.size w3 wr) ∧ t = .bool (decide (other ∈ ids.take k))) (fun _ i _ _ _ => N - (intOf i).toNat)
          case atStart => exact ⟨0, Nat.zero_le _, rfl, W30, by simp⟩
          case round =>
            clear W30
            obtain ⟨k, hk, rfl, hB, rfl⟩ := hrel
            by_cases hlt : k < N
            · obtain ⟨g, o, c', e, _, hg⟩ := HV.out.pos (by have := HN.out; omega)
              obtain rfl : A = some ⟨g, o, none⟩ := by cases e; rfl
              clear e
              obtain ⟨id, hid⟩ : ∃ id, ids[k]? = some id := ⟨_, List.getElem?_eq_getElem (by have := HN.out; omega)⟩
              have hcell : ∀ W, Below w3.heap.size w3 W → W.cell? ⟨g, o + k, none⟩ = some (.string ⟨id.toArray⟩) := fun W hW => by
                rw [(L3.out.trans (hW.mono L3.out.size)).cell (p := ⟨g, o + k, none⟩) hg]; exact StrsR.cell HV.out k id hid
              have hf := HF.out wr id hB.out ((small_len HSm.out).2 id (List.mem_of_getElem? hid))
              rw [HS.out.findE HAll.out k id hid] at hf
              have HFk := Lib.hid hf; have HC := Lib.hid hcell
              have HMs := Lib.hid (mem_snoc (x := other) hid)
              have c0 := hcell wr hB.out
              clear hf hcell hid
              go_wp2_with fail
              refine HFk.out.mono ?_
              rintro e w5 ⟨rfl, l5⟩
              have L5 : Hid (Below w3.heap.size w3 w5) := Lib.hid (hB.out.trans (l5.mono hB.out.size))
              have c5 := HC.out w5 L5.out
              clear l5 c0
              unfold findV
              cases hmk : decide (other ∈ ids.take k) with
              | true =>
                have HT : Hid (decide (other ∈ ids.take (k + 1)) = true) := Lib.hid (by rw [HMs.out, hmk]; rfl)
                clear hmk
                go_wp2_with fail
                go_roundw
                case rel => exact ⟨k + 1, by omega, by go_num, L5, by rw [HT.out]⟩
                case measure => simp [intOf]; omega
              | false =>
                by_cases hio : id = other
                · have HT : Hid (decide (other ∈ ids.take (k + 1)) = true) := Lib.hid (by rw [HMs.out, decide_eq_true hio, Bool.or_true])
                  subst hio
                  clear hmk
                  go_wp2_with fail
                  go_roundw
                  case rel => exact ⟨k + 1, by omega, by go_num, L5, by rw [HT.out]⟩
                  case measure => simp [intOf]; omega
                · have HT : Hid (decide (other ∈ ids.take (k + 1)) = false) := Lib.hid (by rw [HMs.out, hmk, decide_eq_false hio]; rfl)
                  have hie : (id == other) = false := beq_eq_false_iff_ne.2 hio
                  have HE := Lib.hid hie
                  clear hmk hie
                  go_wp2_with fail
                  go_roundw
                  case rel => exact ⟨k + 1, by omega, by go_num, L5, by rw [HT.out, HE.out]⟩
                  case measure => simp [intOf]; omega
            · have hkN : k = N := by omega
              subst hkN
              have htk : ids.take k = ids := by rw [HN.out, List.take_length]
              rw [htk]
              have hmem := findE_mem HS.out HAll.out other
              have hf := HF.out wr other hB.out (by unfold maxLen; exact ho)
              obtain ⟨fo, hfo⟩ : ∃ fo, fo = findE rows other := ⟨_, rfl⟩
              rw [← hfo] at hmem hf
              obtain ⟨dm, hdm⟩ : ∃ dm, dm = decide (other ∈ ids) := ⟨_, rfl⟩
              rw [← hdm] at hmem ⊢
              have HFo := Lib.hid hf; have HMem := Lib.hid hmem; have HB := Lib.hid hB.out
              clear hf hmem hfo hdm htk hB
              go_wp2_with fail
              refine HFo.out.mono ?_
              rintro e w5 ⟨rfl, l5⟩
              have L5 : Hid (Below w3.heap.size w3 w5) := Lib.hid (HB.out.trans (l5.mono HB.out.size))
              clear l5 HFo
              have hR := HRt.out w5 L5.out
              have HRr := Lib.hid hR
              cases fo with
              | none =>
                have hdm0 : dm = false := by have h := HMem.out; simpa using h.symm
                subst hdm0
                unfold findV
                clear hR
                go_wp2_with fail
                refine HRr.out.mono ?_
                rintro e w6 ⟨rfl, l6⟩
                have L6 : Hid (Below w3.heap.size w3 w6) := Lib.hid (L5.out.trans (l6.mono L5.out.size))
                have HA6 := Lib.hid (HAl.out w6 L6.out)
                clear l6
                go_wp2_with fail
                refine HA6.out.mono ?_
                rintro e w7 ⟨l7, v7, rfl, ho7⟩
                have L7 : Hid (Below w3.heap.size w3 w7) := Lib.hid (L6.out.trans (l7.mono L6.out.size))
                have hr7 : StrsR w7 v7 (allI rows) := own_rd (f := strC) (k := 1) (fun _ => rfl) ho7
                obtain ⟨A7, c7, rfl⟩ := hr7.shape
                rw [HRl.out]
                clear l7 ho7 hr7 HA6
                go_wp2_with fail
                go_ret
                exact ⟨rfl, L3.out.trans (L7.out.mono L3.out.size)⟩
              | some n =>
                have hdm1 : dm = true := by have h := HMem.out; simpa using h.symm
                subst hdm1
                unfold findV
                clear hR
                go_wp2_with fail
                refine HRr.out.mono ?_
                rintro e w6 ⟨rfl, l6⟩
                have L6 : Hid (Below w3.heap.size w3 w6) := Lib.hid (L5.out.trans (l6.mono L5.out.size))
                have HA6 := Lib.hid (HAl.out w6 L6.out)
                clear l6
                go_wp2_with fail
                refine HA6.out.mono ?_
                rintro e w7 ⟨l7, v7, rfl, ho7⟩
                have L7 : Hid (Below w3.heap.size w3 w7) := Lib.hid (L6.out.trans (l7.mono L6.out.size))
                have hr7 : StrsR w7 v7 (allI rows) := own_rd (f := strC) (k := 1) (fun _ => rfl) ho7
                obtain ⟨A7, c7, rfl⟩ := hr7.shape
                rw [HRl.out]
                clear l7 ho7 hr7 HA6
                go_wp2_with fail
                go_ret
                exact ⟨rfl, L3.out.trans (L7.out.mono L3.out.size)⟩
end Go.Proofs.YtdjmcehoaneekaaDoor.Ix
