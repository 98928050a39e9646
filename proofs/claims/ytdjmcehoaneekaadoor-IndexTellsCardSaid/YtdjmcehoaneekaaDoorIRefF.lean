/-
  The document's Right and Find, over what its names gives.
-/
import Derived.Test.YtdjmcehoaneekaaDoorIRefW
namespace Go.Proofs.YtdjmcehoaneekaaDoor.Ix
open Go.Proofs.YtdjmcehoaneekaaDoor
open Go Go.RowKit

/-- What the document's names gives. -/
def NmP (b : Bs) (w : World) (e : Ending) (w' : World) : Prop :=
  Below w.heap.size w w' ∧ ((∃ rows v, readI b = some rows ∧ e = .returned (.tuple #[v, .bool true]) ∧ StrsR w' v (outI rows)) ∨ (readI b = none ∧ e = .returned (.tuple #[.slice none 0 0, .bool false])))
set_option maxRecDepth 100000 in
set_option maxHeartbeats 1000000 in
theorem RRight_of (w : World) (v : Value) (b : Bs) (h : Calls Tryd.prog 33 #[v] w (NmP b w)) : Calls Tryd.prog 16 #[v] w (BoolP (readI b).isSome w) := by
  have H := Lib.hid h
  clear h
  go_enter Tryd.func16, Tryd.ntmps16
  go_wp2_with fail
  refine H.out.mono ?_
  rintro e w1 ⟨l1, ⟨rows, u, hr, rfl, _⟩ | ⟨hr, rfl⟩⟩
  · have HS : Hid ((readI b).isSome = true) := Lib.hid (by rw [hr]; rfl)
    have L1 := Lib.hid l1
    clear l1 hr
    go_wp2_with fail
    go_ret
    exact ⟨by rw [HS.out]; rfl, L1.out⟩
  · have HS : Hid ((readI b).isSome = false) := Lib.hid (by rw [hr]; rfl)
    have L1 := Lib.hid l1
    clear l1 hr
    go_wp2_with fail
    go_ret
    exact ⟨by rw [HS.out]; rfl, L1.out⟩
set_option maxRecDepth 100000 in
set_option maxHeartbeats 1000000 in
theorem RFind_of (w : World) (v : Value) (b id : Bs) (h : Calls Tryd.prog 33 #[v] w (NmP b w)) : Calls Tryd.prog 14 #[v, SV id] w (FndP (findB b id) w) := by
  have H := Lib.hid h
  clear h
  unfold SV
  go_enter Tryd.func14, Tryd.ntmps14
  go_wp2_with fail
  refine H.out.mono ?_
  rintro e w1 ⟨l1, ⟨rows, u, hr, rfl, hu⟩ | ⟨hr, rfl⟩⟩
  · obtain ⟨A, c, rfl⟩ := hu.shape
    have HI : Hid (IsI b rows) := Lib.hid (readI_iff.1 hr)
    have HE : Hid (findB b id = findE rows id) := Lib.hid (findB_some hr)
    obtain ⟨N, hN⟩ : ∃ N, N = (outI rows).length := ⟨_, rfl⟩
    have hN5 : N ≤ 512 := by rw [hN, outI_len]; exact HI.out.few
    rw [← hN]
    have HU : Hid (StrsR w1 (.slice A N c) (outI rows)) := Lib.hid (by rw [hN]; exact hu)
    have HN := Lib.hid hN; have L1 := Lib.hid l1
    clear hr hu hN l1
    go_wp2_with fail
    go_loopw [8] (fun i wr => ∃ k : Nat, k ≤ N ∧ i = .int .i64 k ∧ Hid (Below w1.heap.size w1 wr) ∧ Hid (id ∉ (outI rows).take k)) (fun i _ => N - (intOf i).toNat)
    case atStart => exact ⟨0, Nat.zero_le _, rfl, Lib.hid (Below.refl _ _), Lib.hid (by simp)⟩
    case round =>
      obtain ⟨k, hk, rfl, hB, hno⟩ := hrel
      by_cases hlt : k < N
      · have hltI : (k : Int) < (N : Int) := by omega
        obtain ⟨g, o, c', e, _, hg⟩ := HU.out.pos (by rw [← HN.out]; omega)
        obtain rfl : A = some ⟨g, o, none⟩ := by cases e; rfl
        clear e
        obtain ⟨x, hx⟩ : ∃ x, (outI rows)[k]? = some x := ⟨_, List.getElem?_eq_getElem (by rw [← HN.out]; exact hlt)⟩
        have c0 : wr.cell? ⟨g, o + k, none⟩ = some (.string ⟨x.toArray⟩) := (hB.out.cell (p := ⟨g, o + k, none⟩) hg).trans (StrsR.cell HU.out k x hx)
        have LB := Lib.hid hB.out
        by_cases hxi : x = id
        · have HF : Hid (findB b id = some k) := Lib.hid (by rw [HE.out, ← hxi]; exact HI.out.srt.findE HI.out.named k x hx)
          have hbe : (x == id) = true := beq_iff_eq.2 hxi
          clear hB hno hx hxi
          go_wp2_with fail
          go_ret2
          exact ⟨by rw [HF.out]; rfl, L1.out.trans (LB.out.mono L1.out.size)⟩
        · have HNo : Hid (id ∉ (outI rows).take (k + 1)) := Lib.hid (by
            rw [List.take_add_one, hx, Option.toList_some, List.mem_append, List.mem_singleton]
            rintro (h | h)
            · exact hno.out h
            · exact hxi h.symm)
          have hbe : (x == id) = false := beq_eq_false_iff_ne.2 hxi
          clear hB hno hx hxi
          go_wp2_with fail
          go_roundw
          case rel => exact ⟨k + 1, by omega, by go_num, LB, HNo⟩
          case measure => simp [intOf]; omega
      · have hltI : ¬ (k : Int) < (N : Int) := by omega
        have HF : Hid (findB b id = none) := Lib.hid (by
          have h := findE_mem HI.out.srt HI.out.named id
          have hno' := hno.out
          rw [List.take_of_length_le (by rw [← HN.out]; omega)] at hno'
          rw [decide_eq_false hno'] at h
          rw [HE.out]
          exact Option.not_isSome_iff_eq_none.1 (by rw [h]; decide))
        have LB := Lib.hid hB.out
        clear hB hno
        go_wp2_with fail
        go_ret2
        exact ⟨by rw [HF.out]; rfl, L1.out.trans (LB.out.mono L1.out.size)⟩
  · have HF : Hid (findB b id = none) := Lib.hid (findB_none hr)
    have L1 := Lib.hid l1
    clear hr l1
    go_wp2_with fail
    go_loopw [8] (fun i wr => i = .int .i64 0 ∧ Hid (Below w1.heap.size w1 wr)) (fun _ _ => 0)
    case atStart => exact ⟨rfl, Lib.hid (Below.refl _ _)⟩
    case round =>
      obtain ⟨rfl, hB⟩ := hrel
      have LB := Lib.hid hB.out
      clear hB
      go_wp2_with fail
      go_ret2
      exact ⟨by rw [HF.out]; rfl, L1.out.trans (LB.out.mono L1.out.size)⟩
end Go.Proofs.YtdjmcehoaneekaaDoor.Ix
