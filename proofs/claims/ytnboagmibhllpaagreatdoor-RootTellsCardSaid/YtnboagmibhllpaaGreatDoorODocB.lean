/-
  The document's root: packs.
-/
import Derived.Test.YtnboagmibhllpaaGreatDoorODocA
namespace Go.Proofs.YtnboagmibhllpaaGreatDoor.Ro
open Go.Proofs.YtnboagmibhllpaaGreatDoor
open Go.Proofs.YtnboagmibhllpaaGreatDoor.Rf (BoolB Ref RefsR nameB)
open Go Go.RowKit

theorem at_sR (W : World) (g o n c k : Nat) (hk : k < n) : (Instr.indexAt 22 (.slice (some ⟨g, o, none⟩) n c) (.int .i64 (k : Int))).run Tryz.prog W = .ok (.pointer (some ⟨g, o + k, none⟩)) W := by
  have h1 : (k : Int) < (n : Int) := by omega
  simp [go_sem, h1]
theorem ld_sR (W : World) (g k : Nat) (x : Bs) (h : W.cell? ⟨g, k, none⟩ = some (.string ⟨x.toArray⟩)) : (Instr.loadAt 9 (.pointer (some ⟨g, k, none⟩))).run Tryz.prog W = .ok (.string ⟨x.toArray⟩) W := by
  simp [go_sem, h]
theorem eq_sR (W : World) (x y : Bs) (b : Bool) (h : decide (x = y) = b) : (binOp .eql 9 (.string ⟨x.toArray⟩) (.string ⟨y.toArray⟩)).run Tryz.prog W = .ok (.bool b) W := by
  show (Op.stringOp .eql _ _).run _ _ = _
  cases b with
  | true =>
    have h1 : x = y := of_decide_eq_true h
    simp [go_sem, Op.stringOp, h1]
  | false =>
    have h1 : ¬ x = y := of_decide_eq_false h
    simp [go_sem, Op.stringOp, h1]
theorem take_nodupR {ids : List Bs} {k : Nat} (hk : k < ids.length) (h : (ids.take k).Nodup) (hno : ∀ j, j < k → ids.getD j [] ≠ ids.getD k []) : (ids.take (k + 1)).Nodup := by
  rw [List.take_add_one, List.getElem?_eq_getElem hk, Option.toList_some, List.nodup_append]
  refine ⟨h, by simp, fun a ha c hc e => ?_⟩
  rw [List.mem_singleton.1 hc] at e
  subst e
  obtain ⟨j, hj⟩ := List.getElem?_of_mem ha
  have hjk : j < k := by have := (List.getElem?_eq_some_iff.1 hj).1; rw [List.length_take] at this; omega
  rw [List.getElem?_take, if_pos hjk] at hj
  refine hno j hjk ?_
  rw [List.getD_eq_getElem?_getD, hj, List.getD_eq_getElem?_getD, List.getElem?_eq_getElem hk]
theorem twice_notR {ids : List Bs} {j k : Nat} (hk : k < ids.length) (hjk : j < k) (e : ids.getD j [] = ids.getD k []) : ¬ ids.Nodup := fun h => by
  rw [List.getD_eq_getElem?_getD, List.getD_eq_getElem?_getD, List.getElem?_eq_getElem (by omega : j < ids.length), List.getElem?_eq_getElem hk] at e
  have := (List.getElem_inj h).1 e
  omega
theorem getD_ofR {ids : List Bs} {k : Nat} {x : Bs} (h : ids[k]? = some x) : ids.getD k [] = x := by rw [List.getD_eq_getElem?_getD, h]; rfl
theorem packsB_no {l : List Bs} (h : ¬ PacksOk l) : packsB l = false := by
  cases hb : packsB l with
  | false => rfl
  | true => exact absurd (packsB_iff.1 hb) h
set_option maxRecDepth 100000 in
set_option maxHeartbeats 8000000 in
theorem Rpacks10 (l : List Bs) (v : Value) (w : World) (hv : StrsR w v l) (hm : ∀ x ∈ l, x.length ≤ maxLen) (hl : l.length ≤ 1000000) : Calls Tryz.prog 36 #[v] w (BoolB (packsB l) w) := by
  obtain ⟨A, c, rfl⟩ := hv.shape
  obtain ⟨n, hn⟩ : ∃ n, n = l.length := ⟨_, rfl⟩
  have hnl : n ≤ 1000000 := by omega
  rw [← hn] at hv ⊢
  have HV := Lib.hid hv; have HN := Lib.hid hn; have HMx := Lib.hid hm
  have HId : Hid (∀ k, k < n → ∃ g o x, A = some ⟨g, o, none⟩ ∧ l[k]? = some x ∧ ∀ W, Below w.heap.size w W → ∀ j y, l[j]? = some y → W.cell? ⟨g, o + j, none⟩ = some (.string ⟨y.toArray⟩)) := Lib.hid fun k hk => by
    obtain ⟨g, o, c', e, _, hg⟩ := HV.out.pos (by have := HN.out; omega)
    obtain rfl : A = some ⟨g, o, none⟩ := by rw [← HN.out] at e; cases e; rfl
    refine ⟨g, o, _, rfl, List.getElem?_eq_getElem (by have := HN.out; omega), fun W hW j y hy => ?_⟩
    have h := Rf.RdK.at (RdK.below HV.out hW (Nat.le_refl _)) hy (i := 0) (by decide) rfl
    rw [Nat.mul_one, Nat.add_zero] at h
    exact h
  clear hv hn hm hl
  go_enter Tryz.func36, Tryz.ntmps36
  have W0 := Lib.hid (Below.refl w.heap.size w)
  go_wp2_with fail
  go_loopw [3, 4] (fun i _ wr => ∃ k : Nat, k ≤ n ∧ i = .int .i64 k ∧ Hid (Below w.heap.size w wr) ∧ Hid (∀ x ∈ l.take k, namedB x = true) ∧ Hid ((l.take k).Nodup)) (fun i _ _ => n - (intOf i).toNat)
  case atStart => exact ⟨0, Nat.zero_le _, rfl, W0, Lib.hid (by simp), Lib.hid (by simp)⟩
  case round =>
    clear W0
    obtain ⟨k, hk, rfl, hB, hnm, hnd⟩ := hrel
    by_cases hlt : k < n
    · obtain ⟨g, o, id, rfl, hid, hcell⟩ := HId.out k hlt
      have cid := hcell wr hB.out k id hid
      have hnamed := RNamed_any id wr (HMx.out id (List.mem_of_getElem? hid))
      unfold SV at hnamed
      have HCell := Lib.hid hcell; have HIdk := Lib.hid hid
      cases hb : namedB id with
      | false =>
        rw [hb] at hnamed
        have HNm := Lib.hid hnamed
        have HE : Hid (packsB l = false) := Lib.hid (packsB_no fun h => by have := h.id id (List.mem_of_getElem? hid); rw [hb] at this; cases this)
        have LB := Lib.hid hB.out
        clear hnamed hb hid hnm hnd hB hcell HId
        go_wp2_with fail
        refine HNm.out.mono ?_
        rintro e w2 ⟨rfl, rfl⟩
        go_wp2_with fail
        go_ret
        exact ⟨by rw [HE.out]; first | rfl | simp, LB.out⟩
      | true =>
        rw [hb] at hnamed
        have HNm := Lib.hid hnamed
        have HAll : Hid (∀ x ∈ l.take (k + 1), namedB x = true) := Lib.hid (by
          rw [List.take_add_one, hid, Option.toList_some]
          intro x hx
          rcases List.mem_append.1 hx with hx | hx
          · exact hnm.out x hx
          · rw [List.mem_singleton.1 hx]; exact hb)
        have HBo := Lib.hid hB.out
        clear hnamed hb hid hnm hcell HId hB
        go_wp2_with fail
        refine HNm.out.mono ?_
        rintro e w2 ⟨rfl, rfl⟩
        clear HNm cid
        go_wp2_with fail
        generalize wr = wq at HBo ⊢
        go_loopw [4] (fun j wx => ∃ m : Nat, m ≤ k ∧ j = .int .i64 m ∧ Hid (Below w.heap.size w wx) ∧ Hid (∀ q, q < m → l.getD q [] ≠ l.getD k [])) (fun j _ => k - (intOf j).toNat)
        case atStart => exact ⟨0, Nat.zero_le _, rfl, HBo, Lib.hid fun q h => absurd h (Nat.not_lt_zero q)⟩
        case round =>
          clear HBo
          obtain ⟨m, hm, rfl, hB, hne⟩ := hrel
          by_cases hlm : m < k
          · obtain ⟨x, hx⟩ : ∃ x, l[m]? = some x := ⟨_, List.getElem?_eq_getElem (by have := HN.out; omega)⟩
            have HX := Lib.hid hx
            have LD : Hid (Below w.heap.size w wr.drew) := Lib.hid hB.out.drew
            clear hx
            go_wp2_with fail
            cases hq : decide (x = id) with
            | true =>
              refine AnyB.start (by kernel_rfl) ?_
              refine AnyB.take 0 (.slice (some ⟨g, o, none⟩) n c) rfl (by kernel_rfl) (by kernel_rfl) (by kernel_rfl) (fun _ _ _ h => h) (by kernel_rfl) (fun W hW => by kernel_rfl) ?_
              refine AnyB.take 1 (.int .i64 (m : Int)) rfl (by kernel_rfl) (by kernel_rfl) (by kernel_rfl) (fun _ _ _ h => h) (by kernel_rfl) (fun W hW => by kernel_rfl) ?_
              refine AnyB.take 2 (.pointer (some ⟨g, o + m, none⟩)) rfl (by kernel_rfl) (by kernel_rfl) (by kernel_rfl) (fun _ _ _ h => h) (by kernel_rfl) (fun W hW => y_index (sv := .slice (some ⟨g, o, none⟩) n c) (iv := .int .i64 (m : Int)) rfl (by kernel_rfl) (by kernel_rfl) (at_sR W g o n c m (by omega))) ?_
              refine AnyB.take 3 (.string ⟨x.toArray⟩) rfl (by kernel_rfl) (by kernel_rfl) (by kernel_rfl) (fun _ _ _ h => h) (by kernel_rfl) (fun W hW => y_load (sv := .pointer (some ⟨g, o + m, none⟩)) rfl (by kernel_rfl) (ld_sR W g (o + m) x (HCell.out W (LD.out.trans (hW.mono LD.out.size)) m x HX.out))) ?_
              refine AnyB.take 4 (.slice (some ⟨g, o, none⟩) n c) rfl (by kernel_rfl) (by kernel_rfl) (by kernel_rfl) (fun _ _ _ h => h) (by kernel_rfl) (fun W hW => by kernel_rfl) ?_
              refine AnyB.take 5 (.int .i64 (k : Int)) rfl (by kernel_rfl) (by kernel_rfl) (by kernel_rfl) (fun _ _ _ h => h) (by kernel_rfl) (fun W hW => by kernel_rfl) ?_
              refine AnyB.take 6 (.pointer (some ⟨g, o + k, none⟩)) rfl (by kernel_rfl) (by kernel_rfl) (by kernel_rfl) (fun _ _ _ h => h) (by kernel_rfl) (fun W hW => y_index (sv := .slice (some ⟨g, o, none⟩) n c) (iv := .int .i64 (k : Int)) rfl (by kernel_rfl) (by kernel_rfl) (at_sR W g o n c k hlt)) ?_
              refine AnyB.take 7 (.string ⟨id.toArray⟩) rfl (by kernel_rfl) (by kernel_rfl) (by kernel_rfl) (fun _ _ _ h => h) (by kernel_rfl) (fun W hW => y_load (sv := .pointer (some ⟨g, o + k, none⟩)) rfl (by kernel_rfl) (ld_sR W g (o + k) id (HCell.out W (LD.out.trans (hW.mono LD.out.size)) k id HIdk.out))) ?_
              refine AnyB.take 8 (.bool true) rfl (by kernel_rfl) (by kernel_rfl) (by kernel_rfl) (fun _ _ _ h => h) (by kernel_rfl) (fun W hW => y_bin (x := .string ⟨x.toArray⟩) (y := .string ⟨id.toArray⟩) rfl (by kernel_rfl) (by kernel_rfl) rfl (eq_sR W x id _ hq)) ?_
              refine AnyB.done _ (by kernel_rfl) ?_
              go_simp
              have HE : Hid (packsB l = false) := Lib.hid (packsB_no fun h => twice_notR (j := m) (k := k) (by have := HN.out; omega) hlm (by rw [getD_ofR HX.out, getD_ofR HIdk.out]; exact of_decide_eq_true hq) h.once)
              clear hq hB hne hlm hlt
              go_wp2_with fail
              go_ret
              exact ⟨by rw [HE.out]; first | rfl | simp, LD.out⟩
            | false =>
              refine AnyB.start (by kernel_rfl) ?_
              refine AnyB.take 0 (.slice (some ⟨g, o, none⟩) n c) rfl (by kernel_rfl) (by kernel_rfl) (by kernel_rfl) (fun _ _ _ h => h) (by kernel_rfl) (fun W hW => by kernel_rfl) ?_
              refine AnyB.take 1 (.int .i64 (m : Int)) rfl (by kernel_rfl) (by kernel_rfl) (by kernel_rfl) (fun _ _ _ h => h) (by kernel_rfl) (fun W hW => by kernel_rfl) ?_
              refine AnyB.take 2 (.pointer (some ⟨g, o + m, none⟩)) rfl (by kernel_rfl) (by kernel_rfl) (by kernel_rfl) (fun _ _ _ h => h) (by kernel_rfl) (fun W hW => y_index (sv := .slice (some ⟨g, o, none⟩) n c) (iv := .int .i64 (m : Int)) rfl (by kernel_rfl) (by kernel_rfl) (at_sR W g o n c m (by omega))) ?_
              refine AnyB.take 3 (.string ⟨x.toArray⟩) rfl (by kernel_rfl) (by kernel_rfl) (by kernel_rfl) (fun _ _ _ h => h) (by kernel_rfl) (fun W hW => y_load (sv := .pointer (some ⟨g, o + m, none⟩)) rfl (by kernel_rfl) (ld_sR W g (o + m) x (HCell.out W (LD.out.trans (hW.mono LD.out.size)) m x HX.out))) ?_
              refine AnyB.take 4 (.slice (some ⟨g, o, none⟩) n c) rfl (by kernel_rfl) (by kernel_rfl) (by kernel_rfl) (fun _ _ _ h => h) (by kernel_rfl) (fun W hW => by kernel_rfl) ?_
              refine AnyB.take 5 (.int .i64 (k : Int)) rfl (by kernel_rfl) (by kernel_rfl) (by kernel_rfl) (fun _ _ _ h => h) (by kernel_rfl) (fun W hW => by kernel_rfl) ?_
              refine AnyB.take 6 (.pointer (some ⟨g, o + k, none⟩)) rfl (by kernel_rfl) (by kernel_rfl) (by kernel_rfl) (fun _ _ _ h => h) (by kernel_rfl) (fun W hW => y_index (sv := .slice (some ⟨g, o, none⟩) n c) (iv := .int .i64 (k : Int)) rfl (by kernel_rfl) (by kernel_rfl) (at_sR W g o n c k hlt)) ?_
              refine AnyB.take 7 (.string ⟨id.toArray⟩) rfl (by kernel_rfl) (by kernel_rfl) (by kernel_rfl) (fun _ _ _ h => h) (by kernel_rfl) (fun W hW => y_load (sv := .pointer (some ⟨g, o + k, none⟩)) rfl (by kernel_rfl) (ld_sR W g (o + k) id (HCell.out W (LD.out.trans (hW.mono LD.out.size)) k id HIdk.out))) ?_
              refine AnyB.take 8 (.bool false) rfl (by kernel_rfl) (by kernel_rfl) (by kernel_rfl) (fun _ _ _ h => h) (by kernel_rfl) (fun W hW => y_bin (x := .string ⟨x.toArray⟩) (y := .string ⟨id.toArray⟩) rfl (by kernel_rfl) (by kernel_rfl) rfl (eq_sR W x id _ hq)) ?_
              refine AnyB.done _ (by kernel_rfl) ?_
              go_simp
              have HNe : Hid (∀ q, q < m + 1 → l.getD q [] ≠ l.getD k []) := Lib.hid fun q h => by
                by_cases e : q = m
                · rw [e, getD_ofR HX.out, getD_ofR HIdk.out]; exact of_decide_eq_false hq
                · exact hne.out q (by omega)
              clear hq hB hne
              go_wp2_with fail
              go_roundw
              case rel => exact ⟨m + 1, by omega, by go_num, LD, HNe⟩
              case measure => simp [intOf]; omega
          have HNd : Hid ((l.take (k + 1)).Nodup) := Lib.hid (take_nodupR (by have := HN.out; omega) hnd.out (fun j hj => hne.out j (by omega)))
          have hmI : ¬ (m : Int) < (k : Int) := by omega
          clear hne hlm
          go_wp2_with fail
          go_roundw
          case rel => exact ⟨k + 1, by omega, by go_num, hB, HAll, HNd⟩
          case measure => simp [intOf]; omega
    have hfin : packsB l = decide (n ≤ 24) := by
      have h1 := hnm.out; have h2 := hnd.out
      rw [show k = n by omega, HN.out, List.take_length] at h1 h2
      by_cases h : n ≤ 24
      · rw [decide_eq_true h, packsB_iff]; exact ⟨by rw [← HN.out]; exact h, h1, h2⟩
      · rw [decide_eq_false h]; exact packsB_no fun hp => h (by rw [HN.out]; exact hp.len)
    have HF := Lib.hid hfin
    have hkI : ¬ (k : Int) < (n : Int) := by omega
    have HB := Lib.hid hB.out
    clear hfin hnm hnd hB hlt
    by_cases h24 : n ≤ 24
    · have hI : (n : Int) ≤ 24 := by omega
      go_wp2_with fail
      go_ret
      exact ⟨by rw [HF.out, decide_eq_true h24]; first | rfl | simp [hI], HB.out⟩
    · have hI : ¬ (n : Int) ≤ 24 := by omega
      go_wp2_with fail
      go_ret
      exact ⟨by rw [HF.out, decide_eq_false h24]; first | rfl | simp [hI], HB.out⟩
end Go.Proofs.YtnboagmibhllpaaGreatDoor.Ro
