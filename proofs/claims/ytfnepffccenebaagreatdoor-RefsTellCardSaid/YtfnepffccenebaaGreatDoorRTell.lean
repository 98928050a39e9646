/-
  RefsTell: the document's Find, put, wrong, Tips and Apply, and the law.
-/
import Derived.Test.YtfnepffccenebaaGreatDoorRDoc
import Derived.Test.YtfnepffccenebaaGreatDoorRFind
import Derived.Test.YtfnepffccenebaaGreatDoorRMay
import Derived.Test.YtfnepffccenebaaGreatDoorRTips
import Derived.Test.YtfnepffccenebaaGreatDoorRAppl2
import Derived.Test.YtfnepffccenebaaGreatDoorRHead
import Derived.Test.YtfnepffccenebaaGreatDoorRNamed
namespace Go.Proofs.YtfnepffccenebaaGreatDoor.Rf
open Go.Proofs.YtfnepffccenebaaGreatDoor
open Go Go.RowKit

/-! RDocF -/
set_option maxRecDepth 100000 in
set_option maxHeartbeats 4000000 in
theorem RFind_any (l : List Ref) (v : Value) (s : Bs) (w : World) (hv : RefsR w v l) (hl : l.length ≤ 1000000) : Calls Tryz.prog 20 #[v, .string ⟨s.toArray⟩] w (TextB (findL l s) w) := by
  obtain ⟨A, c, rfl⟩ := hv.shape
  obtain ⟨N, hN⟩ : ∃ N, N = l.length := ⟨_, rfl⟩
  have HV : Hid (RefsR w (.slice A N c) l) := Lib.hid (by rw [hN]; exact hv)
  rw [← hN] at hl ⊢
  have HN := Lib.hid hN
  clear hv hN
  go_enter Tryz.func20, Tryz.ntmps20
  go_wp2_with fail
  go_loopw [5] (fun i wr => ∃ k : Nat, k ≤ N ∧ i = .int .i64 k ∧ Hid (Below w.heap.size w wr) ∧ Hid (∀ j, j < k → (l[j]?.map (·.name) == some s) = false)) (fun i _ => N - (intOf i).toNat)
  case atStart => exact ⟨0, Nat.zero_le _, rfl, Lib.hid (Below.refl _ _), Lib.hid fun _ h => absurd h (Nat.not_lt_zero _)⟩
  case round =>
    obtain ⟨k, hk, rfl, hB, hno⟩ := hrel
    by_cases hlt : k < N
    case neg =>
      have hltI : ¬ (k : Int) < (N : Int) := by omega
      have HR := Lib.hid (findL_not (fun j hj => hno.out j (by have := HN.out; omega)))
      clear hno hlt
      go_wp2_with fail
      go_ret
      exact ⟨by rw [HR.out]; rfl, hB.out⟩
    have hltI : (k : Int) < (N : Int) := by omega
    obtain ⟨g, o, c', e, _, _⟩ := HV.out.pos (by have := HN.out; omega)
    obtain rfl : A = some ⟨g, o, none⟩ := by rw [← HN.out] at e; cases e; rfl
    clear e
    obtain ⟨x, hx⟩ : ∃ x, l[k]? = some x := ⟨_, List.getElem?_eq_getElem (by have := HN.out; omega)⟩
    obtain ⟨c0, c1⟩ := RefsR.cells (RdK.below HV.out hB.out (Nat.le_refl _)) hx
    by_cases he : x.name = s
    · have HR := Lib.hid (findL_first hx he hno.out)
      obtain ⟨nm, di⟩ := x
      unfold SV at c0 c1
      simp only at c0 c1 he HR
      have hbe : (nm == s) = true := beq_iff_eq.2 he
      clear he hx hno
      go_wp2_with fail
      go_ret
      exact ⟨(ret_SV HR.out).symm, hB.out⟩
    · have HNo : Hid (∀ j, j < k + 1 → (l[j]?.map (·.name) == some s) = false) := Lib.hid fun j hj => by
        rcases Nat.lt_or_ge j k with h | h
        · exact hno.out j h
        · have e : j = k := by omega
          rw [e, hx]; simp [he]
      obtain ⟨nm, di⟩ := x
      unfold SV at c0 c1
      simp only at c0 c1 he
      have hbe : (nm == s) = false := beq_eq_false_iff_ne.2 he
      clear he hx hno
      go_wp2_with fail
      go_roundw
      case rel => exact ⟨k + 1, hlt, by go_num, hB, HNo⟩
      case measure => simp [intOf]; omega

/-- The document's put, plain. -/
def dput (x : Ref) : Bool → List Ref → List Ref
  | d, [] => if d then [] else [x]
  | d, r :: l => (if !d && !decide (r.name < x.name) then [x] else []) ++ ((if r.name = x.name then [] else [r]) ++ dput x (d || !decide (r.name < x.name)) l)
theorem dput_done (x : Ref) : ∀ l, dput x true l = l.filter (fun r => !(r.name == x.name))
  | [] => rfl
  | r :: l => by
    rw [dput, Bool.true_or, dput_done x l, List.filter_cons]
    by_cases h : r.name = x.name
    · simp [h]
    · simp [h]
theorem dput_put (x : Ref) : ∀ l : List Ref, (l.Pairwise fun a b => a.name < b.name) → dput x false l = putW x l
  | [], _ => rfl
  | r :: l, h => by
    have h2 := List.pairwise_cons.1 h
    rw [dput, putW]
    by_cases h1 : r.name < x.name
    · have n1 : ¬ x.name < r.name := fun hh => absurd (List.lt_trans h1 hh) (List.lt_irrefl _)
      have n2 : ¬ r.name = x.name := fun e => by rw [e] at h1; exact List.lt_irrefl _ h1
      rw [if_neg n1, if_neg n2, if_neg n2, decide_eq_true h1]
      simp [dput_put x l h2.2]
    · have hf : ∀ z ∈ l, ¬ z.name = x.name := fun z hz e => by
        have := h2.1 z hz
        rw [e] at this; exact h1 this
      have hfl : l.filter (fun r => !(r.name == x.name)) = l := List.filter_eq_self.2 fun z hz => by simp [hf z hz]
      rw [decide_eq_false h1]
      by_cases he : r.name = x.name
      · have n1 : ¬ x.name < r.name := by rw [he]; exact List.lt_irrefl _
        rw [if_neg n1, if_pos he, if_pos he]
        simp [dput_done, hfl]
      · have n1 : x.name < r.name := by
          rcases List.le_total x.name r.name with h | h
          · exact lt_of_le_ne h fun e => he e.symm
          · exact absurd (lt_of_le_ne h he) h1
        rw [if_pos n1, if_neg he]
        simp [dput_done, hfl]
theorem dput_R {l : List Ref} (x : Ref) (h : l.Pairwise fun a b => a.name < b.name) : dput x (decide (x.id = [])) l = putR l x := by
  unfold putR
  by_cases hx : x.id = []
  · rw [if_pos hx, decide_eq_true hx, dput_done]
  · rw [if_neg hx, decide_eq_false hx, dput_put x l h]

set_option maxRecDepth 100000 in
set_option maxHeartbeats 8000000 in
theorem Rput_any (l : List Ref) (v : Value) (nm di : Bs) (w : World) (hv : RefsR w v l) (hl : l.length ≤ 100000) (hr : l.Pairwise fun a b => a.name < b.name) : Calls Tryz.prog 36 #[v, .agg #[.string ⟨nm.toArray⟩, .string ⟨di.toArray⟩]] w (ListP (putR l ⟨nm, di⟩) w) := by
  obtain ⟨A, c, rfl⟩ := hv.shape
  obtain ⟨N, hN⟩ : ∃ N, N = l.length := ⟨_, rfl⟩
  obtain ⟨L, hL⟩ : ∃ L, L = putR l ⟨nm, di⟩ := ⟨_, rfl⟩
  have hd := dput_R ⟨nm, di⟩ hr
  rw [← hL] at hd ⊢
  have HL := Lib.hid hd
  rw [← hN] at hl hv ⊢
  have HN := Lib.hid hN
  obtain ⟨w1, hw1⟩ : ∃ z, z = w.alloc (.cells #[.string ⟨nm.toArray⟩, .string ⟨di.toArray⟩] 45) := ⟨_, rfl⟩
  obtain ⟨bx, hbx⟩ : ∃ z, z = w.heap.size := ⟨_, rfl⟩
  obtain ⟨B1, hB1⟩ : ∃ z, z = w1.heap.size := ⟨_, rfl⟩
  have hs1 : w1.heap.size = w.heap.size + 1 := by rw [hw1]; simp
  have hb1 : Below w.heap.size w w1 := by rw [hw1]; exact below_al _ _
  have d0 : w1.cell? ⟨bx, 0, none⟩ = some (.string ⟨nm.toArray⟩) := by rw [hw1, hbx]; simp
  have d1 : w1.cell? ⟨bx, 1, none⟩ = some (.string ⟨di.toArray⟩) := by rw [hw1, hbx]; simp
  have HV := Lib.hid (RdK.below hv hb1 (Nat.le_refl _))
  have HW := Lib.hid hw1; have HBx := Lib.hid hbx
  have HB0 := Lib.hid hb1
  have HB1 : Hid (w1.heap.size ≤ B1) := Lib.hid (by omega)
  have HBe : Hid (B1 = w1.heap.size) := Lib.hid hB1
  have HS1 := Lib.hid hs1
  have D0 := Lib.hid fun W (hW : Below w1.heap.size w1 W) => (hW.cell (p := ⟨bx, 0, none⟩) (show bx < w1.heap.size by omega)).trans d0
  have D1 := Lib.hid fun W (hW : Below w1.heap.size w1 W) => (hW.cell (p := ⟨bx, 1, none⟩) (show bx < w1.heap.size by omega)).trans d1
  clear hv hN hd hL hr hw1 hbx hB1 hs1 hb1 d0 d1
  have hsz : ∀ z, Below w1.heap.size w1 z → B1 ≤ z.heap.size := fun z h => by rw [HBe.out]; exact h.size
  have HSZ := Lib.hid hsz
  clear hsz
  go_enter Tryz.func36, Tryz.ntmps36
  obtain ⟨q0, hq0⟩ : ∃ q0, q0 = decide (di = []) := ⟨_, rfl⟩
  have hbe : (di == ([] : Bs)) = q0 := by rw [hq0, Bool.eq_iff_iff]; simp
  have hbi : di.isEmpty = q0 := by rw [hq0, Bool.eq_iff_iff]; simp
  have HQ := Lib.hid hq0
  clear hq0
  have e0 := D0.out w1 (Below.refl _ _)
  have e1 := D1.out w1 (Below.refl _ _)
  rw [HBx.out] at e0 e1
  rw [HW.out] at e0 e1
  go_wp2_with fail
  go_loopw [5, 6, 7] (fun v5 v6 v7 wr => ∃ (k : Nat) (out : List Ref) (d : Bool), k ≤ N ∧ v7 = .int .i64 k ∧ v6 = .bool d ∧ Hid (OwR wr B1 v5 out) ∧ Hid (out ++ dput ⟨nm, di⟩ d (l.drop k) = L) ∧ Hid (out.length ≤ 2 * k) ∧ Hid (Below w1.heap.size w1 wr)) (fun _ _ v7 _ => N - (intOf v7).toNat)
  case atStart => exact ⟨0, [], q0, Nat.zero_le _, rfl, rfl, Lib.hid (OwK.nil _ _ _ _ _), Lib.hid (by rw [List.drop_zero, List.nil_append, ← HL.out, HQ.out]), Lib.hid (Nat.zero_le _), Lib.hid (by rw [HW.out]; exact Below.refl _ _)⟩
  case round =>
    clear e0 e1 hbe hbi
    obtain ⟨k, out, d, hk, rfl, rfl, hO, hE, hLn, hB⟩ := hrel
    obtain ⟨A3, n3, c3, hv3, -⟩ := OwK.shape hO.out
    subst hv3
    rw [← HBx.out]
    by_cases hkN : k < N
    case neg =>
      have hkI : ¬ (k : Int) < (N : Int) := by omega
      have hE2 : out ++ (if d then [] else [⟨nm, di⟩]) = L := by
        have h := hE.out
        rw [List.drop_of_length_le (by have := HN.out; omega)] at h; exact h
      cases d with
      | true =>
        have HF : Hid (OwR wr B1 (.slice A3 n3 c3) L) := Lib.hid (by have h := hE2; simp at h; rw [← h]; exact hO.out)
        clear hE hE2 hO hkN
        go_wp2_with fail
        go_ret
        exact ⟨_, rfl, HF.out.mono (by have := HS1.out; have := HBe.out; omega), HB0.out.trans (hB.out.mono HB0.out.size)⟩
      | false =>
        have HLe : Hid (out ++ [⟨nm, di⟩] = L) := Lib.hid hE2
        have HLl : Hid (out.length < 1000000) := Lib.hid (by have := hLn.out; omega)
        have HSz : Hid (B1 ≤ wr.heap.size) := Lib.hid (HSZ.out wr hB.out)
        have LB := hB
        have e0 := D0.out wr hB.out
        have e1 := D1.out wr hB.out
        clear hE hE2 hkN
        go_wp2_with (refine wpList_push elRef (o := ⟨some 53, _, _, _, _, _⟩) rfl _ _ rfl B1 _ (out) ⟨nm, di⟩ _ rfl rfl rfl hO.out HLl.out (by decide) HSz.out ?_)
        intro v' w5 hO5 hB5 _
        have O5 := Lib.hid hO5
        have L5 := Lib.hid (LB.out.trans (hB5.mono HB1.out))
        clear hO5 hB5
        have HF : Hid (OwR w5 B1 v' L) := Lib.hid (by rw [← HLe.out]; exact O5.out)
        go_wp2_with fail
        go_ret
        exact ⟨_, rfl, HF.out.mono (by have := HS1.out; have := HBe.out; omega), HB0.out.trans (L5.out.mono HB0.out.size)⟩
    have hkI : (k : Int) < (N : Int) := by omega
    obtain ⟨g, o, c', e, _, _⟩ := HV.out.pos (by have := HN.out; omega)
    obtain rfl : A = some ⟨g, o, none⟩ := by rw [← HN.out] at e; cases e; rfl
    clear e
    obtain ⟨x, hx⟩ : ∃ x, l[k]? = some x := ⟨_, List.getElem?_eq_getElem (by have := HN.out; omega)⟩
    have hcl := fun W (hW : Below w1.heap.size w1 W) => RefsR.cells (RdK.below HV.out hW (Nat.le_refl _)) hx
    have hdr : l.drop k = x :: l.drop (k + 1) := by
      obtain ⟨h, rfl⟩ := List.getElem?_eq_some_iff.1 hx
      exact List.drop_eq_getElem_cons h
    have hE2 := hE.out
    rw [hdr, dput] at hE2
    obtain ⟨ny, iy⟩ := x
    simp only at hE2 hcl
    unfold SV at hcl
    have C0 := Lib.hid fun W hW => (hcl W hW).1
    have C1 := Lib.hid fun W hW => (hcl W hW).2
    have LD : Hid (Below w1.heap.size w1 wr.drew) := Lib.hid hB.out.drew
    have HO : Hid (OwR wr.drew B1 (.slice A3 n3 c3) out) := Lib.hid hO.out
    have HE2 := Lib.hid hE2
    clear hcl hdr hE2 hE hx hO hB
    cases d with
    | true =>
      cases heq : decide (ny = nm) with
      | true =>
        have HNe := Lib.hid fun W => neq_S W ny nm false (by rw [heq]; rfl)
        have HE3 : Hid (out ++ dput ⟨nm, di⟩ true (l.drop (k + 1)) = L) := Lib.hid (by
          have h := HE2.out
          rw [if_pos (of_decide_eq_true heq)] at h
          simpa using h)
        clear HE2
        have HE2 := HE3
        clear HE3 heq
        go_wp2_with fail
        refine AnyB.start (by kernel_rfl) ?_
        refine AnyB.take 0 (.bool true) rfl (by kernel_rfl) (by kernel_rfl) (by kernel_rfl) (fun _ _ _ h => h) (by kernel_rfl) (fun W hW => by kernel_rfl) ?_
        refine AnyB.take 1 (.bool false) rfl (by kernel_rfl) (by kernel_rfl) (by kernel_rfl) (fun _ _ _ h => h) (by kernel_rfl) (fun W hW => by kernel_rfl) ?_
        refine AnyB.take 2 (.bool false) rfl (by kernel_rfl) (by kernel_rfl) (by kernel_rfl) (fun _ _ _ h => h) (by kernel_rfl) (fun W hW => by kernel_rfl) ?_
        refine AnyB.skip 3 rfl (by kernel_rfl) (by kernel_rfl) (by kernel_rfl) (fun _ _ _ h => h) (by kernel_rfl) ?_
        refine AnyB.skip 4 rfl (by kernel_rfl) (by kernel_rfl) (by kernel_rfl) (fun _ _ _ h => h) (by kernel_rfl) ?_
        refine AnyB.skip 5 rfl (by kernel_rfl) (by kernel_rfl) (by kernel_rfl) (fun _ _ _ h => h) (by kernel_rfl) ?_
        refine AnyB.skip 6 rfl (by kernel_rfl) (by kernel_rfl) (by kernel_rfl) (fun _ _ _ h => h) (by kernel_rfl) ?_
        refine AnyB.skip 7 rfl (by kernel_rfl) (by kernel_rfl) (by kernel_rfl) (fun _ _ _ h => h) (by kernel_rfl) ?_
        refine AnyB.skip 8 rfl (by kernel_rfl) (by kernel_rfl) (by kernel_rfl) (fun _ _ _ h => h) (by kernel_rfl) ?_
        refine AnyB.skip 9 rfl (by kernel_rfl) (by kernel_rfl) (by kernel_rfl) (fun _ _ _ h => h) (by kernel_rfl) ?_
        refine AnyB.skip 10 rfl (by kernel_rfl) (by kernel_rfl) (by kernel_rfl) (fun _ _ _ h => h) (by kernel_rfl) ?_
        refine AnyB.take 11 (.bool false) rfl (by kernel_rfl) (by kernel_rfl) (by kernel_rfl) (fun _ _ _ h => h) (by kernel_rfl) (fun W hW => by kernel_rfl) ?_
        refine AnyB.done _ (by kernel_rfl) ?_
        go_simp
        have LDd := Lib.hid LD.out.drew
        have hOd : OwR wr.drew.drew B1 (.slice A3 n3 c3) out := HO.out
        clear HO LD
        have HO := Lib.hid hOd
        have LD := LDd
        clear hOd LDd
        go_wp2_with fail
        refine AnyB.start (by kernel_rfl) ?_
        refine AnyB.take 0 (.slice (some ⟨g, o, none⟩) N c) rfl (by kernel_rfl) (by kernel_rfl) (by kernel_rfl) (fun _ _ _ h => h) (by kernel_rfl) (fun W hW => by kernel_rfl) ?_
        refine AnyB.take 1 (.int .i64 (k : Int)) rfl (by kernel_rfl) (by kernel_rfl) (by kernel_rfl) (fun _ _ _ h => h) (by kernel_rfl) (fun W hW => by kernel_rfl) ?_
        refine AnyB.take 2 (.pointer (some ⟨g, o + k * 2, none⟩)) rfl (by kernel_rfl) (by kernel_rfl) (by kernel_rfl) (fun _ _ _ h => h) (by kernel_rfl) (fun W hW => y_index (sv := .slice (some ⟨g, o, none⟩) N c) (iv := .int .i64 (k : Int)) rfl (by kernel_rfl) (by kernel_rfl) (at_r W g o N c k hkN)) ?_
        refine AnyB.take 3 (.pointer (some ⟨g, o + k * 2, none⟩)) rfl (by kernel_rfl) (by kernel_rfl) (by kernel_rfl) (fun _ _ _ h => h) (by kernel_rfl) (fun W hW => y_field (sv := .pointer (some ⟨g, o + k * 2, none⟩)) rfl (by kernel_rfl) (f_r0 W g (o + k * 2))) ?_
        refine AnyB.take 4 (.string ⟨ny.toArray⟩) rfl (by kernel_rfl) (by kernel_rfl) (by kernel_rfl) (fun _ _ _ h => h) (by kernel_rfl) (fun W hW => y_load (sv := .pointer (some ⟨g, o + k * 2, none⟩)) rfl (by kernel_rfl) (l_S W g (o + k * 2) ny (C0.out W (LD.out.trans (hW.mono LD.out.size))))) ?_
        refine AnyB.take 5 (.pointer (some ⟨bx, 0, none⟩)) rfl (by kernel_rfl) (by kernel_rfl) (by kernel_rfl) (fun _ _ _ h => h) (by kernel_rfl) (fun W hW => y_field (sv := .pointer (some ⟨bx, 0, none⟩)) rfl (by kernel_rfl) (f_r0 W bx 0)) ?_
        refine AnyB.take 6 (.string ⟨nm.toArray⟩) rfl (by kernel_rfl) (by kernel_rfl) (by kernel_rfl) (fun _ _ _ h => h) (by kernel_rfl) (fun W hW => y_load (sv := .pointer (some ⟨bx, 0, none⟩)) rfl (by kernel_rfl) (l_S W bx 0 nm (D0.out W (LD.out.trans (hW.mono LD.out.size))))) ?_
        refine AnyB.take 7 (.bool false) rfl (by kernel_rfl) (by kernel_rfl) (by kernel_rfl) (fun _ _ _ h => h) (by kernel_rfl) (fun W hW => y_bin (x := .string ⟨ny.toArray⟩) (y := .string ⟨nm.toArray⟩) rfl (by kernel_rfl) (by kernel_rfl) rfl (HNe.out W)) ?_
        refine AnyB.done _ (by kernel_rfl) ?_
        go_simp
        clear HNe
        go_wp2_with fail
        go_roundw
        case rel => exact ⟨k + 1, out, true, by omega, by go_num, rfl, HO, HE2, Lib.hid (by have := hLn.out; omega), LD⟩
        case measure => simp [intOf]; omega
      | false =>
        have HNe := Lib.hid fun W => neq_S W ny nm true (by rw [heq]; rfl)
        have HE3 : Hid (out ++ [⟨ny, iy⟩] ++ dput ⟨nm, di⟩ true (l.drop (k + 1)) = L) := Lib.hid (by
          have h := HE2.out
          rw [if_neg (of_decide_eq_false heq)] at h
          simpa using h)
        clear HE2
        have HE2 := HE3
        clear HE3 heq
        go_wp2_with fail
        refine AnyB.start (by kernel_rfl) ?_
        refine AnyB.take 0 (.bool true) rfl (by kernel_rfl) (by kernel_rfl) (by kernel_rfl) (fun _ _ _ h => h) (by kernel_rfl) (fun W hW => by kernel_rfl) ?_
        refine AnyB.take 1 (.bool false) rfl (by kernel_rfl) (by kernel_rfl) (by kernel_rfl) (fun _ _ _ h => h) (by kernel_rfl) (fun W hW => by kernel_rfl) ?_
        refine AnyB.take 2 (.bool false) rfl (by kernel_rfl) (by kernel_rfl) (by kernel_rfl) (fun _ _ _ h => h) (by kernel_rfl) (fun W hW => by kernel_rfl) ?_
        refine AnyB.skip 3 rfl (by kernel_rfl) (by kernel_rfl) (by kernel_rfl) (fun _ _ _ h => h) (by kernel_rfl) ?_
        refine AnyB.skip 4 rfl (by kernel_rfl) (by kernel_rfl) (by kernel_rfl) (fun _ _ _ h => h) (by kernel_rfl) ?_
        refine AnyB.skip 5 rfl (by kernel_rfl) (by kernel_rfl) (by kernel_rfl) (fun _ _ _ h => h) (by kernel_rfl) ?_
        refine AnyB.skip 6 rfl (by kernel_rfl) (by kernel_rfl) (by kernel_rfl) (fun _ _ _ h => h) (by kernel_rfl) ?_
        refine AnyB.skip 7 rfl (by kernel_rfl) (by kernel_rfl) (by kernel_rfl) (fun _ _ _ h => h) (by kernel_rfl) ?_
        refine AnyB.skip 8 rfl (by kernel_rfl) (by kernel_rfl) (by kernel_rfl) (fun _ _ _ h => h) (by kernel_rfl) ?_
        refine AnyB.skip 9 rfl (by kernel_rfl) (by kernel_rfl) (by kernel_rfl) (fun _ _ _ h => h) (by kernel_rfl) ?_
        refine AnyB.skip 10 rfl (by kernel_rfl) (by kernel_rfl) (by kernel_rfl) (fun _ _ _ h => h) (by kernel_rfl) ?_
        refine AnyB.take 11 (.bool false) rfl (by kernel_rfl) (by kernel_rfl) (by kernel_rfl) (fun _ _ _ h => h) (by kernel_rfl) (fun W hW => by kernel_rfl) ?_
        refine AnyB.done _ (by kernel_rfl) ?_
        go_simp
        have LDd := Lib.hid LD.out.drew
        have hOd : OwR wr.drew.drew B1 (.slice A3 n3 c3) out := HO.out
        clear HO LD
        have HO := Lib.hid hOd
        have LD := LDd
        clear hOd LDd
        go_wp2_with fail
        refine AnyB.start (by kernel_rfl) ?_
        refine AnyB.take 0 (.slice (some ⟨g, o, none⟩) N c) rfl (by kernel_rfl) (by kernel_rfl) (by kernel_rfl) (fun _ _ _ h => h) (by kernel_rfl) (fun W hW => by kernel_rfl) ?_
        refine AnyB.take 1 (.int .i64 (k : Int)) rfl (by kernel_rfl) (by kernel_rfl) (by kernel_rfl) (fun _ _ _ h => h) (by kernel_rfl) (fun W hW => by kernel_rfl) ?_
        refine AnyB.take 2 (.pointer (some ⟨g, o + k * 2, none⟩)) rfl (by kernel_rfl) (by kernel_rfl) (by kernel_rfl) (fun _ _ _ h => h) (by kernel_rfl) (fun W hW => y_index (sv := .slice (some ⟨g, o, none⟩) N c) (iv := .int .i64 (k : Int)) rfl (by kernel_rfl) (by kernel_rfl) (at_r W g o N c k hkN)) ?_
        refine AnyB.take 3 (.pointer (some ⟨g, o + k * 2, none⟩)) rfl (by kernel_rfl) (by kernel_rfl) (by kernel_rfl) (fun _ _ _ h => h) (by kernel_rfl) (fun W hW => y_field (sv := .pointer (some ⟨g, o + k * 2, none⟩)) rfl (by kernel_rfl) (f_r0 W g (o + k * 2))) ?_
        refine AnyB.take 4 (.string ⟨ny.toArray⟩) rfl (by kernel_rfl) (by kernel_rfl) (by kernel_rfl) (fun _ _ _ h => h) (by kernel_rfl) (fun W hW => y_load (sv := .pointer (some ⟨g, o + k * 2, none⟩)) rfl (by kernel_rfl) (l_S W g (o + k * 2) ny (C0.out W (LD.out.trans (hW.mono LD.out.size))))) ?_
        refine AnyB.take 5 (.pointer (some ⟨bx, 0, none⟩)) rfl (by kernel_rfl) (by kernel_rfl) (by kernel_rfl) (fun _ _ _ h => h) (by kernel_rfl) (fun W hW => y_field (sv := .pointer (some ⟨bx, 0, none⟩)) rfl (by kernel_rfl) (f_r0 W bx 0)) ?_
        refine AnyB.take 6 (.string ⟨nm.toArray⟩) rfl (by kernel_rfl) (by kernel_rfl) (by kernel_rfl) (fun _ _ _ h => h) (by kernel_rfl) (fun W hW => y_load (sv := .pointer (some ⟨bx, 0, none⟩)) rfl (by kernel_rfl) (l_S W bx 0 nm (D0.out W (LD.out.trans (hW.mono LD.out.size))))) ?_
        refine AnyB.take 7 (.bool true) rfl (by kernel_rfl) (by kernel_rfl) (by kernel_rfl) (fun _ _ _ h => h) (by kernel_rfl) (fun W hW => y_bin (x := .string ⟨ny.toArray⟩) (y := .string ⟨nm.toArray⟩) rfl (by kernel_rfl) (by kernel_rfl) rfl (HNe.out W)) ?_
        refine AnyB.done _ (by kernel_rfl) ?_
        go_simp
        have HLl : Hid (out.length < 1000000) := Lib.hid (by have := hLn.out; simp; try omega)
        have HSz : Hid (B1 ≤ wr.drew.drew.heap.size) := Lib.hid (HSZ.out _ LD.out)
        have e0 := C0.out _ LD.out
        have e1 := C1.out _ LD.out
        have LQ := LD
        generalize wr.drew.drew = w6 at HO LQ HSz e0 e1 ⊢
        go_wp2_with (refine wpList_push elRef (o := ⟨some 47, _, _, _, _, _⟩) rfl _ _ rfl B1 _ (out) ⟨ny, iy⟩ _ rfl rfl rfl HO.out HLl.out (by decide) HSz.out ?_)
        intro v' w7 hO7 hB5 _
        have O7 := Lib.hid hO7
        have L7 := Lib.hid (LQ.out.trans (hB5.mono HB1.out))
        clear hO7 hB5
        go_wp2_with fail
        go_roundw
        case rel => exact ⟨k + 1, out ++ [⟨ny, iy⟩], true, by omega, by go_num, rfl, O7, HE2, Lib.hid (by have := hLn.out; simp; try omega), L7⟩
        case measure => simp [intOf]; omega
    | false =>
      cases hlt : decide (ny < nm) with
      | true =>
        cases heq : decide (ny = nm) with
        | true =>
          have HGe := Lib.hid fun W => ge_str W ny nm false (by rw [hlt]; rfl)
          have HNe := Lib.hid fun W => neq_S W ny nm false (by rw [heq]; rfl)
          have HE3 : Hid (out ++ dput ⟨nm, di⟩ false (l.drop (k + 1)) = L) := Lib.hid (by
            have h := HE2.out
            rw [hlt] at h
            rw [if_pos (of_decide_eq_true heq)] at h
            simpa using h)
          clear HE2
          have HE2 := HE3
          clear HE3 hlt heq
          go_wp2_with fail
          refine AnyB.start (by kernel_rfl) ?_
          refine AnyB.take 0 (.bool false) rfl (by kernel_rfl) (by kernel_rfl) (by kernel_rfl) (fun _ _ _ h => h) (by kernel_rfl) (fun W hW => by kernel_rfl) ?_
          refine AnyB.take 1 (.bool true) rfl (by kernel_rfl) (by kernel_rfl) (by kernel_rfl) (fun _ _ _ h => h) (by kernel_rfl) (fun W hW => by kernel_rfl) ?_
          refine AnyB.take 2 (.bool true) rfl (by kernel_rfl) (by kernel_rfl) (by kernel_rfl) (fun _ _ _ h => h) (by kernel_rfl) (fun W hW => by kernel_rfl) ?_
          refine AnyB.take 3 (.slice (some ⟨g, o, none⟩) N c) rfl (by kernel_rfl) (by kernel_rfl) (by kernel_rfl) (fun _ _ _ h => h) (by kernel_rfl) (fun W hW => by kernel_rfl) ?_
          refine AnyB.take 4 (.int .i64 (k : Int)) rfl (by kernel_rfl) (by kernel_rfl) (by kernel_rfl) (fun _ _ _ h => h) (by kernel_rfl) (fun W hW => by kernel_rfl) ?_
          refine AnyB.take 5 (.pointer (some ⟨g, o + k * 2, none⟩)) rfl (by kernel_rfl) (by kernel_rfl) (by kernel_rfl) (fun _ _ _ h => h) (by kernel_rfl) (fun W hW => y_index (sv := .slice (some ⟨g, o, none⟩) N c) (iv := .int .i64 (k : Int)) rfl (by kernel_rfl) (by kernel_rfl) (at_r W g o N c k hkN)) ?_
          refine AnyB.take 6 (.pointer (some ⟨g, o + k * 2, none⟩)) rfl (by kernel_rfl) (by kernel_rfl) (by kernel_rfl) (fun _ _ _ h => h) (by kernel_rfl) (fun W hW => y_field (sv := .pointer (some ⟨g, o + k * 2, none⟩)) rfl (by kernel_rfl) (f_r0 W g (o + k * 2))) ?_
          refine AnyB.take 7 (.string ⟨ny.toArray⟩) rfl (by kernel_rfl) (by kernel_rfl) (by kernel_rfl) (fun _ _ _ h => h) (by kernel_rfl) (fun W hW => y_load (sv := .pointer (some ⟨g, o + k * 2, none⟩)) rfl (by kernel_rfl) (l_S W g (o + k * 2) ny (C0.out W (LD.out.trans (hW.mono LD.out.size))))) ?_
          refine AnyB.take 8 (.pointer (some ⟨bx, 0, none⟩)) rfl (by kernel_rfl) (by kernel_rfl) (by kernel_rfl) (fun _ _ _ h => h) (by kernel_rfl) (fun W hW => y_field (sv := .pointer (some ⟨bx, 0, none⟩)) rfl (by kernel_rfl) (f_r0 W bx 0)) ?_
          refine AnyB.take 9 (.string ⟨nm.toArray⟩) rfl (by kernel_rfl) (by kernel_rfl) (by kernel_rfl) (fun _ _ _ h => h) (by kernel_rfl) (fun W hW => y_load (sv := .pointer (some ⟨bx, 0, none⟩)) rfl (by kernel_rfl) (l_S W bx 0 nm (D0.out W (LD.out.trans (hW.mono LD.out.size))))) ?_
          refine AnyB.take 10 (.bool false) rfl (by kernel_rfl) (by kernel_rfl) (by kernel_rfl) (fun _ _ _ h => h) (by kernel_rfl) (fun W hW => y_bin (x := .string ⟨ny.toArray⟩) (y := .string ⟨nm.toArray⟩) rfl (by kernel_rfl) (by kernel_rfl) rfl (HGe.out W)) ?_
          refine AnyB.take 11 (.bool false) rfl (by kernel_rfl) (by kernel_rfl) (by kernel_rfl) (fun _ _ _ h => h) (by kernel_rfl) (fun W hW => by kernel_rfl) ?_
          refine AnyB.done _ (by kernel_rfl) ?_
          go_simp
          have LDd := Lib.hid LD.out.drew
          have hOd : OwR wr.drew.drew B1 (.slice A3 n3 c3) out := HO.out
          clear HO LD
          have HO := Lib.hid hOd
          have LD := LDd
          clear hOd LDd
          go_wp2_with fail
          refine AnyB.start (by kernel_rfl) ?_
          refine AnyB.take 0 (.slice (some ⟨g, o, none⟩) N c) rfl (by kernel_rfl) (by kernel_rfl) (by kernel_rfl) (fun _ _ _ h => h) (by kernel_rfl) (fun W hW => by kernel_rfl) ?_
          refine AnyB.take 1 (.int .i64 (k : Int)) rfl (by kernel_rfl) (by kernel_rfl) (by kernel_rfl) (fun _ _ _ h => h) (by kernel_rfl) (fun W hW => by kernel_rfl) ?_
          refine AnyB.take 2 (.pointer (some ⟨g, o + k * 2, none⟩)) rfl (by kernel_rfl) (by kernel_rfl) (by kernel_rfl) (fun _ _ _ h => h) (by kernel_rfl) (fun W hW => y_index (sv := .slice (some ⟨g, o, none⟩) N c) (iv := .int .i64 (k : Int)) rfl (by kernel_rfl) (by kernel_rfl) (at_r W g o N c k hkN)) ?_
          refine AnyB.take 3 (.pointer (some ⟨g, o + k * 2, none⟩)) rfl (by kernel_rfl) (by kernel_rfl) (by kernel_rfl) (fun _ _ _ h => h) (by kernel_rfl) (fun W hW => y_field (sv := .pointer (some ⟨g, o + k * 2, none⟩)) rfl (by kernel_rfl) (f_r0 W g (o + k * 2))) ?_
          refine AnyB.take 4 (.string ⟨ny.toArray⟩) rfl (by kernel_rfl) (by kernel_rfl) (by kernel_rfl) (fun _ _ _ h => h) (by kernel_rfl) (fun W hW => y_load (sv := .pointer (some ⟨g, o + k * 2, none⟩)) rfl (by kernel_rfl) (l_S W g (o + k * 2) ny (C0.out W (LD.out.trans (hW.mono LD.out.size))))) ?_
          refine AnyB.take 5 (.pointer (some ⟨bx, 0, none⟩)) rfl (by kernel_rfl) (by kernel_rfl) (by kernel_rfl) (fun _ _ _ h => h) (by kernel_rfl) (fun W hW => y_field (sv := .pointer (some ⟨bx, 0, none⟩)) rfl (by kernel_rfl) (f_r0 W bx 0)) ?_
          refine AnyB.take 6 (.string ⟨nm.toArray⟩) rfl (by kernel_rfl) (by kernel_rfl) (by kernel_rfl) (fun _ _ _ h => h) (by kernel_rfl) (fun W hW => y_load (sv := .pointer (some ⟨bx, 0, none⟩)) rfl (by kernel_rfl) (l_S W bx 0 nm (D0.out W (LD.out.trans (hW.mono LD.out.size))))) ?_
          refine AnyB.take 7 (.bool false) rfl (by kernel_rfl) (by kernel_rfl) (by kernel_rfl) (fun _ _ _ h => h) (by kernel_rfl) (fun W hW => y_bin (x := .string ⟨ny.toArray⟩) (y := .string ⟨nm.toArray⟩) rfl (by kernel_rfl) (by kernel_rfl) rfl (HNe.out W)) ?_
          refine AnyB.done _ (by kernel_rfl) ?_
          go_simp
          clear HGe HNe
          go_wp2_with fail
          go_roundw
          case rel => exact ⟨k + 1, out, false, by omega, by go_num, rfl, HO, HE2, Lib.hid (by have := hLn.out; simp; try omega), LD⟩
          case measure => simp [intOf]; omega
        | false =>
          have HGe := Lib.hid fun W => ge_str W ny nm false (by rw [hlt]; rfl)
          have HNe := Lib.hid fun W => neq_S W ny nm true (by rw [heq]; rfl)
          have HE3 : Hid (out ++ [⟨ny, iy⟩] ++ dput ⟨nm, di⟩ false (l.drop (k + 1)) = L) := Lib.hid (by
            have h := HE2.out
            rw [hlt] at h
            rw [if_neg (of_decide_eq_false heq)] at h
            simpa using h)
          clear HE2
          have HE2 := HE3
          clear HE3 hlt heq
          go_wp2_with fail
          refine AnyB.start (by kernel_rfl) ?_
          refine AnyB.take 0 (.bool false) rfl (by kernel_rfl) (by kernel_rfl) (by kernel_rfl) (fun _ _ _ h => h) (by kernel_rfl) (fun W hW => by kernel_rfl) ?_
          refine AnyB.take 1 (.bool true) rfl (by kernel_rfl) (by kernel_rfl) (by kernel_rfl) (fun _ _ _ h => h) (by kernel_rfl) (fun W hW => by kernel_rfl) ?_
          refine AnyB.take 2 (.bool true) rfl (by kernel_rfl) (by kernel_rfl) (by kernel_rfl) (fun _ _ _ h => h) (by kernel_rfl) (fun W hW => by kernel_rfl) ?_
          refine AnyB.take 3 (.slice (some ⟨g, o, none⟩) N c) rfl (by kernel_rfl) (by kernel_rfl) (by kernel_rfl) (fun _ _ _ h => h) (by kernel_rfl) (fun W hW => by kernel_rfl) ?_
          refine AnyB.take 4 (.int .i64 (k : Int)) rfl (by kernel_rfl) (by kernel_rfl) (by kernel_rfl) (fun _ _ _ h => h) (by kernel_rfl) (fun W hW => by kernel_rfl) ?_
          refine AnyB.take 5 (.pointer (some ⟨g, o + k * 2, none⟩)) rfl (by kernel_rfl) (by kernel_rfl) (by kernel_rfl) (fun _ _ _ h => h) (by kernel_rfl) (fun W hW => y_index (sv := .slice (some ⟨g, o, none⟩) N c) (iv := .int .i64 (k : Int)) rfl (by kernel_rfl) (by kernel_rfl) (at_r W g o N c k hkN)) ?_
          refine AnyB.take 6 (.pointer (some ⟨g, o + k * 2, none⟩)) rfl (by kernel_rfl) (by kernel_rfl) (by kernel_rfl) (fun _ _ _ h => h) (by kernel_rfl) (fun W hW => y_field (sv := .pointer (some ⟨g, o + k * 2, none⟩)) rfl (by kernel_rfl) (f_r0 W g (o + k * 2))) ?_
          refine AnyB.take 7 (.string ⟨ny.toArray⟩) rfl (by kernel_rfl) (by kernel_rfl) (by kernel_rfl) (fun _ _ _ h => h) (by kernel_rfl) (fun W hW => y_load (sv := .pointer (some ⟨g, o + k * 2, none⟩)) rfl (by kernel_rfl) (l_S W g (o + k * 2) ny (C0.out W (LD.out.trans (hW.mono LD.out.size))))) ?_
          refine AnyB.take 8 (.pointer (some ⟨bx, 0, none⟩)) rfl (by kernel_rfl) (by kernel_rfl) (by kernel_rfl) (fun _ _ _ h => h) (by kernel_rfl) (fun W hW => y_field (sv := .pointer (some ⟨bx, 0, none⟩)) rfl (by kernel_rfl) (f_r0 W bx 0)) ?_
          refine AnyB.take 9 (.string ⟨nm.toArray⟩) rfl (by kernel_rfl) (by kernel_rfl) (by kernel_rfl) (fun _ _ _ h => h) (by kernel_rfl) (fun W hW => y_load (sv := .pointer (some ⟨bx, 0, none⟩)) rfl (by kernel_rfl) (l_S W bx 0 nm (D0.out W (LD.out.trans (hW.mono LD.out.size))))) ?_
          refine AnyB.take 10 (.bool false) rfl (by kernel_rfl) (by kernel_rfl) (by kernel_rfl) (fun _ _ _ h => h) (by kernel_rfl) (fun W hW => y_bin (x := .string ⟨ny.toArray⟩) (y := .string ⟨nm.toArray⟩) rfl (by kernel_rfl) (by kernel_rfl) rfl (HGe.out W)) ?_
          refine AnyB.take 11 (.bool false) rfl (by kernel_rfl) (by kernel_rfl) (by kernel_rfl) (fun _ _ _ h => h) (by kernel_rfl) (fun W hW => by kernel_rfl) ?_
          refine AnyB.done _ (by kernel_rfl) ?_
          go_simp
          have LDd := Lib.hid LD.out.drew
          have hOd : OwR wr.drew.drew B1 (.slice A3 n3 c3) out := HO.out
          clear HO LD
          have HO := Lib.hid hOd
          have LD := LDd
          clear hOd LDd
          go_wp2_with fail
          refine AnyB.start (by kernel_rfl) ?_
          refine AnyB.take 0 (.slice (some ⟨g, o, none⟩) N c) rfl (by kernel_rfl) (by kernel_rfl) (by kernel_rfl) (fun _ _ _ h => h) (by kernel_rfl) (fun W hW => by kernel_rfl) ?_
          refine AnyB.take 1 (.int .i64 (k : Int)) rfl (by kernel_rfl) (by kernel_rfl) (by kernel_rfl) (fun _ _ _ h => h) (by kernel_rfl) (fun W hW => by kernel_rfl) ?_
          refine AnyB.take 2 (.pointer (some ⟨g, o + k * 2, none⟩)) rfl (by kernel_rfl) (by kernel_rfl) (by kernel_rfl) (fun _ _ _ h => h) (by kernel_rfl) (fun W hW => y_index (sv := .slice (some ⟨g, o, none⟩) N c) (iv := .int .i64 (k : Int)) rfl (by kernel_rfl) (by kernel_rfl) (at_r W g o N c k hkN)) ?_
          refine AnyB.take 3 (.pointer (some ⟨g, o + k * 2, none⟩)) rfl (by kernel_rfl) (by kernel_rfl) (by kernel_rfl) (fun _ _ _ h => h) (by kernel_rfl) (fun W hW => y_field (sv := .pointer (some ⟨g, o + k * 2, none⟩)) rfl (by kernel_rfl) (f_r0 W g (o + k * 2))) ?_
          refine AnyB.take 4 (.string ⟨ny.toArray⟩) rfl (by kernel_rfl) (by kernel_rfl) (by kernel_rfl) (fun _ _ _ h => h) (by kernel_rfl) (fun W hW => y_load (sv := .pointer (some ⟨g, o + k * 2, none⟩)) rfl (by kernel_rfl) (l_S W g (o + k * 2) ny (C0.out W (LD.out.trans (hW.mono LD.out.size))))) ?_
          refine AnyB.take 5 (.pointer (some ⟨bx, 0, none⟩)) rfl (by kernel_rfl) (by kernel_rfl) (by kernel_rfl) (fun _ _ _ h => h) (by kernel_rfl) (fun W hW => y_field (sv := .pointer (some ⟨bx, 0, none⟩)) rfl (by kernel_rfl) (f_r0 W bx 0)) ?_
          refine AnyB.take 6 (.string ⟨nm.toArray⟩) rfl (by kernel_rfl) (by kernel_rfl) (by kernel_rfl) (fun _ _ _ h => h) (by kernel_rfl) (fun W hW => y_load (sv := .pointer (some ⟨bx, 0, none⟩)) rfl (by kernel_rfl) (l_S W bx 0 nm (D0.out W (LD.out.trans (hW.mono LD.out.size))))) ?_
          refine AnyB.take 7 (.bool true) rfl (by kernel_rfl) (by kernel_rfl) (by kernel_rfl) (fun _ _ _ h => h) (by kernel_rfl) (fun W hW => y_bin (x := .string ⟨ny.toArray⟩) (y := .string ⟨nm.toArray⟩) rfl (by kernel_rfl) (by kernel_rfl) rfl (HNe.out W)) ?_
          refine AnyB.done _ (by kernel_rfl) ?_
          go_simp
          have HLl : Hid (out.length < 1000000) := Lib.hid (by have := hLn.out; simp; try omega)
          have HSz : Hid (B1 ≤ wr.drew.drew.heap.size) := Lib.hid (HSZ.out _ LD.out)
          have e0 := C0.out _ LD.out
          have e1 := C1.out _ LD.out
          have LQ := LD
          generalize wr.drew.drew = w6 at HO LQ HSz e0 e1 ⊢
          go_wp2_with (refine wpList_push elRef (o := ⟨some 47, _, _, _, _, _⟩) rfl _ _ rfl B1 _ (out) ⟨ny, iy⟩ _ rfl rfl rfl HO.out HLl.out (by decide) HSz.out ?_)
          intro v' w7 hO7 hB5 _
          have O7 := Lib.hid hO7
          have L7 := Lib.hid (LQ.out.trans (hB5.mono HB1.out))
          clear hO7 hB5
          go_wp2_with fail
          go_roundw
          case rel => exact ⟨k + 1, out ++ [⟨ny, iy⟩], false, by omega, by go_num, rfl, O7, HE2, Lib.hid (by have := hLn.out; simp; try omega), L7⟩
          case measure => simp [intOf]; omega
      | false =>
        cases heq : decide (ny = nm) with
        | true =>
          have HGe := Lib.hid fun W => ge_str W ny nm true (by rw [hlt]; rfl)
          have HNe := Lib.hid fun W => neq_S W ny nm false (by rw [heq]; rfl)
          have HE3 : Hid (out ++ [⟨nm, di⟩] ++ dput ⟨nm, di⟩ true (l.drop (k + 1)) = L) := Lib.hid (by
            have h := HE2.out
            rw [hlt] at h
            rw [if_pos (of_decide_eq_true heq)] at h
            simpa using h)
          clear HE2
          have HE2 := HE3
          clear HE3 hlt heq
          go_wp2_with fail
          refine AnyB.start (by kernel_rfl) ?_
          refine AnyB.take 0 (.bool false) rfl (by kernel_rfl) (by kernel_rfl) (by kernel_rfl) (fun _ _ _ h => h) (by kernel_rfl) (fun W hW => by kernel_rfl) ?_
          refine AnyB.take 1 (.bool true) rfl (by kernel_rfl) (by kernel_rfl) (by kernel_rfl) (fun _ _ _ h => h) (by kernel_rfl) (fun W hW => by kernel_rfl) ?_
          refine AnyB.take 2 (.bool true) rfl (by kernel_rfl) (by kernel_rfl) (by kernel_rfl) (fun _ _ _ h => h) (by kernel_rfl) (fun W hW => by kernel_rfl) ?_
          refine AnyB.take 3 (.slice (some ⟨g, o, none⟩) N c) rfl (by kernel_rfl) (by kernel_rfl) (by kernel_rfl) (fun _ _ _ h => h) (by kernel_rfl) (fun W hW => by kernel_rfl) ?_
          refine AnyB.take 4 (.int .i64 (k : Int)) rfl (by kernel_rfl) (by kernel_rfl) (by kernel_rfl) (fun _ _ _ h => h) (by kernel_rfl) (fun W hW => by kernel_rfl) ?_
          refine AnyB.take 5 (.pointer (some ⟨g, o + k * 2, none⟩)) rfl (by kernel_rfl) (by kernel_rfl) (by kernel_rfl) (fun _ _ _ h => h) (by kernel_rfl) (fun W hW => y_index (sv := .slice (some ⟨g, o, none⟩) N c) (iv := .int .i64 (k : Int)) rfl (by kernel_rfl) (by kernel_rfl) (at_r W g o N c k hkN)) ?_
          refine AnyB.take 6 (.pointer (some ⟨g, o + k * 2, none⟩)) rfl (by kernel_rfl) (by kernel_rfl) (by kernel_rfl) (fun _ _ _ h => h) (by kernel_rfl) (fun W hW => y_field (sv := .pointer (some ⟨g, o + k * 2, none⟩)) rfl (by kernel_rfl) (f_r0 W g (o + k * 2))) ?_
          refine AnyB.take 7 (.string ⟨ny.toArray⟩) rfl (by kernel_rfl) (by kernel_rfl) (by kernel_rfl) (fun _ _ _ h => h) (by kernel_rfl) (fun W hW => y_load (sv := .pointer (some ⟨g, o + k * 2, none⟩)) rfl (by kernel_rfl) (l_S W g (o + k * 2) ny (C0.out W (LD.out.trans (hW.mono LD.out.size))))) ?_
          refine AnyB.take 8 (.pointer (some ⟨bx, 0, none⟩)) rfl (by kernel_rfl) (by kernel_rfl) (by kernel_rfl) (fun _ _ _ h => h) (by kernel_rfl) (fun W hW => y_field (sv := .pointer (some ⟨bx, 0, none⟩)) rfl (by kernel_rfl) (f_r0 W bx 0)) ?_
          refine AnyB.take 9 (.string ⟨nm.toArray⟩) rfl (by kernel_rfl) (by kernel_rfl) (by kernel_rfl) (fun _ _ _ h => h) (by kernel_rfl) (fun W hW => y_load (sv := .pointer (some ⟨bx, 0, none⟩)) rfl (by kernel_rfl) (l_S W bx 0 nm (D0.out W (LD.out.trans (hW.mono LD.out.size))))) ?_
          refine AnyB.take 10 (.bool true) rfl (by kernel_rfl) (by kernel_rfl) (by kernel_rfl) (fun _ _ _ h => h) (by kernel_rfl) (fun W hW => y_bin (x := .string ⟨ny.toArray⟩) (y := .string ⟨nm.toArray⟩) rfl (by kernel_rfl) (by kernel_rfl) rfl (HGe.out W)) ?_
          refine AnyB.take 11 (.bool true) rfl (by kernel_rfl) (by kernel_rfl) (by kernel_rfl) (fun _ _ _ h => h) (by kernel_rfl) (fun W hW => by kernel_rfl) ?_
          refine AnyB.done _ (by kernel_rfl) ?_
          go_simp
          have HLl : Hid (out.length < 1000000) := Lib.hid (by have := hLn.out; omega)
          have HSz : Hid (B1 ≤ wr.drew.heap.size) := Lib.hid (HSZ.out _ LD.out)
          have e0 := D0.out _ LD.out
          have e1 := D1.out _ LD.out
          have LQ := LD
          have CQ0 := C0; have CQ1 := C1
          generalize wr.drew = w4 at HO LQ HSz e0 e1 ⊢
          go_wp2_with (refine wpList_push elRef (o := ⟨some 32, _, _, _, _, _⟩) rfl _ _ rfl B1 _ (out) ⟨nm, di⟩ _ rfl rfl rfl HO.out HLl.out (by decide) HSz.out ?_)
          intro v' w5 hO5 hB5 _
          have O5 := Lib.hid hO5
          have L5 := Lib.hid (LQ.out.trans (hB5.mono HB1.out))
          clear hO5 hB5
          clear e0 e1 HO HLl HSz LD
          have HO : Hid (OwR w5 B1 v' (out ++ [⟨nm, di⟩])) := O5
          obtain ⟨A4, n4, c4, hv4, -⟩ := OwK.shape O5.out
          subst hv4
          clear O5
          have LD : Hid (Below w1.heap.size w1 w5.drew) := Lib.hid L5.out.drew
          have hOd : OwR w5.drew B1 (.slice A4 n4 c4) (out ++ [⟨nm, di⟩]) := HO.out
          clear HO
          have HO := Lib.hid hOd
          clear hOd
          go_wp2_with fail
          refine AnyB.start (by kernel_rfl) ?_
          refine AnyB.take 0 (.slice (some ⟨g, o, none⟩) N c) rfl (by kernel_rfl) (by kernel_rfl) (by kernel_rfl) (fun _ _ _ h => h) (by kernel_rfl) (fun W hW => by kernel_rfl) ?_
          refine AnyB.take 1 (.int .i64 (k : Int)) rfl (by kernel_rfl) (by kernel_rfl) (by kernel_rfl) (fun _ _ _ h => h) (by kernel_rfl) (fun W hW => by kernel_rfl) ?_
          refine AnyB.take 2 (.pointer (some ⟨g, o + k * 2, none⟩)) rfl (by kernel_rfl) (by kernel_rfl) (by kernel_rfl) (fun _ _ _ h => h) (by kernel_rfl) (fun W hW => y_index (sv := .slice (some ⟨g, o, none⟩) N c) (iv := .int .i64 (k : Int)) rfl (by kernel_rfl) (by kernel_rfl) (at_r W g o N c k hkN)) ?_
          refine AnyB.take 3 (.pointer (some ⟨g, o + k * 2, none⟩)) rfl (by kernel_rfl) (by kernel_rfl) (by kernel_rfl) (fun _ _ _ h => h) (by kernel_rfl) (fun W hW => y_field (sv := .pointer (some ⟨g, o + k * 2, none⟩)) rfl (by kernel_rfl) (f_r0 W g (o + k * 2))) ?_
          refine AnyB.take 4 (.string ⟨ny.toArray⟩) rfl (by kernel_rfl) (by kernel_rfl) (by kernel_rfl) (fun _ _ _ h => h) (by kernel_rfl) (fun W hW => y_load (sv := .pointer (some ⟨g, o + k * 2, none⟩)) rfl (by kernel_rfl) (l_S W g (o + k * 2) ny (C0.out W (LD.out.trans (hW.mono LD.out.size))))) ?_
          refine AnyB.take 5 (.pointer (some ⟨bx, 0, none⟩)) rfl (by kernel_rfl) (by kernel_rfl) (by kernel_rfl) (fun _ _ _ h => h) (by kernel_rfl) (fun W hW => y_field (sv := .pointer (some ⟨bx, 0, none⟩)) rfl (by kernel_rfl) (f_r0 W bx 0)) ?_
          refine AnyB.take 6 (.string ⟨nm.toArray⟩) rfl (by kernel_rfl) (by kernel_rfl) (by kernel_rfl) (fun _ _ _ h => h) (by kernel_rfl) (fun W hW => y_load (sv := .pointer (some ⟨bx, 0, none⟩)) rfl (by kernel_rfl) (l_S W bx 0 nm (D0.out W (LD.out.trans (hW.mono LD.out.size))))) ?_
          refine AnyB.take 7 (.bool false) rfl (by kernel_rfl) (by kernel_rfl) (by kernel_rfl) (fun _ _ _ h => h) (by kernel_rfl) (fun W hW => y_bin (x := .string ⟨ny.toArray⟩) (y := .string ⟨nm.toArray⟩) rfl (by kernel_rfl) (by kernel_rfl) rfl (HNe.out W)) ?_
          refine AnyB.done _ (by kernel_rfl) ?_
          go_simp
          clear HGe HNe
          go_wp2_with fail
          go_roundw
          case rel => exact ⟨k + 1, (out ++ [(⟨nm, di⟩ : Ref)]), true, by omega, by go_num, rfl, HO, HE2, Lib.hid (by have := hLn.out; simp; try omega), LD⟩
          case measure => simp [intOf]; omega
        | false =>
          have HGe := Lib.hid fun W => ge_str W ny nm true (by rw [hlt]; rfl)
          have HNe := Lib.hid fun W => neq_S W ny nm true (by rw [heq]; rfl)
          have HE3 : Hid (out ++ [⟨nm, di⟩] ++ [⟨ny, iy⟩] ++ dput ⟨nm, di⟩ true (l.drop (k + 1)) = L) := Lib.hid (by
            have h := HE2.out
            rw [hlt] at h
            rw [if_neg (of_decide_eq_false heq)] at h
            simpa using h)
          clear HE2
          have HE2 := HE3
          clear HE3 hlt heq
          go_wp2_with fail
          refine AnyB.start (by kernel_rfl) ?_
          refine AnyB.take 0 (.bool false) rfl (by kernel_rfl) (by kernel_rfl) (by kernel_rfl) (fun _ _ _ h => h) (by kernel_rfl) (fun W hW => by kernel_rfl) ?_
          refine AnyB.take 1 (.bool true) rfl (by kernel_rfl) (by kernel_rfl) (by kernel_rfl) (fun _ _ _ h => h) (by kernel_rfl) (fun W hW => by kernel_rfl) ?_
          refine AnyB.take 2 (.bool true) rfl (by kernel_rfl) (by kernel_rfl) (by kernel_rfl) (fun _ _ _ h => h) (by kernel_rfl) (fun W hW => by kernel_rfl) ?_
          refine AnyB.take 3 (.slice (some ⟨g, o, none⟩) N c) rfl (by kernel_rfl) (by kernel_rfl) (by kernel_rfl) (fun _ _ _ h => h) (by kernel_rfl) (fun W hW => by kernel_rfl) ?_
          refine AnyB.take 4 (.int .i64 (k : Int)) rfl (by kernel_rfl) (by kernel_rfl) (by kernel_rfl) (fun _ _ _ h => h) (by kernel_rfl) (fun W hW => by kernel_rfl) ?_
          refine AnyB.take 5 (.pointer (some ⟨g, o + k * 2, none⟩)) rfl (by kernel_rfl) (by kernel_rfl) (by kernel_rfl) (fun _ _ _ h => h) (by kernel_rfl) (fun W hW => y_index (sv := .slice (some ⟨g, o, none⟩) N c) (iv := .int .i64 (k : Int)) rfl (by kernel_rfl) (by kernel_rfl) (at_r W g o N c k hkN)) ?_
          refine AnyB.take 6 (.pointer (some ⟨g, o + k * 2, none⟩)) rfl (by kernel_rfl) (by kernel_rfl) (by kernel_rfl) (fun _ _ _ h => h) (by kernel_rfl) (fun W hW => y_field (sv := .pointer (some ⟨g, o + k * 2, none⟩)) rfl (by kernel_rfl) (f_r0 W g (o + k * 2))) ?_
          refine AnyB.take 7 (.string ⟨ny.toArray⟩) rfl (by kernel_rfl) (by kernel_rfl) (by kernel_rfl) (fun _ _ _ h => h) (by kernel_rfl) (fun W hW => y_load (sv := .pointer (some ⟨g, o + k * 2, none⟩)) rfl (by kernel_rfl) (l_S W g (o + k * 2) ny (C0.out W (LD.out.trans (hW.mono LD.out.size))))) ?_
          refine AnyB.take 8 (.pointer (some ⟨bx, 0, none⟩)) rfl (by kernel_rfl) (by kernel_rfl) (by kernel_rfl) (fun _ _ _ h => h) (by kernel_rfl) (fun W hW => y_field (sv := .pointer (some ⟨bx, 0, none⟩)) rfl (by kernel_rfl) (f_r0 W bx 0)) ?_
          refine AnyB.take 9 (.string ⟨nm.toArray⟩) rfl (by kernel_rfl) (by kernel_rfl) (by kernel_rfl) (fun _ _ _ h => h) (by kernel_rfl) (fun W hW => y_load (sv := .pointer (some ⟨bx, 0, none⟩)) rfl (by kernel_rfl) (l_S W bx 0 nm (D0.out W (LD.out.trans (hW.mono LD.out.size))))) ?_
          refine AnyB.take 10 (.bool true) rfl (by kernel_rfl) (by kernel_rfl) (by kernel_rfl) (fun _ _ _ h => h) (by kernel_rfl) (fun W hW => y_bin (x := .string ⟨ny.toArray⟩) (y := .string ⟨nm.toArray⟩) rfl (by kernel_rfl) (by kernel_rfl) rfl (HGe.out W)) ?_
          refine AnyB.take 11 (.bool true) rfl (by kernel_rfl) (by kernel_rfl) (by kernel_rfl) (fun _ _ _ h => h) (by kernel_rfl) (fun W hW => by kernel_rfl) ?_
          refine AnyB.done _ (by kernel_rfl) ?_
          go_simp
          have HLl : Hid (out.length < 1000000) := Lib.hid (by have := hLn.out; omega)
          have HSz : Hid (B1 ≤ wr.drew.heap.size) := Lib.hid (HSZ.out _ LD.out)
          have e0 := D0.out _ LD.out
          have e1 := D1.out _ LD.out
          have LQ := LD
          have CQ0 := C0; have CQ1 := C1
          generalize wr.drew = w4 at HO LQ HSz e0 e1 ⊢
          go_wp2_with (refine wpList_push elRef (o := ⟨some 32, _, _, _, _, _⟩) rfl _ _ rfl B1 _ (out) ⟨nm, di⟩ _ rfl rfl rfl HO.out HLl.out (by decide) HSz.out ?_)
          intro v' w5 hO5 hB5 _
          have O5 := Lib.hid hO5
          have L5 := Lib.hid (LQ.out.trans (hB5.mono HB1.out))
          clear hO5 hB5
          clear e0 e1 HO HLl HSz LD
          have HO : Hid (OwR w5 B1 v' (out ++ [⟨nm, di⟩])) := O5
          obtain ⟨A4, n4, c4, hv4, -⟩ := OwK.shape O5.out
          subst hv4
          clear O5
          have LD : Hid (Below w1.heap.size w1 w5.drew) := Lib.hid L5.out.drew
          have hOd : OwR w5.drew B1 (.slice A4 n4 c4) (out ++ [⟨nm, di⟩]) := HO.out
          clear HO
          have HO := Lib.hid hOd
          clear hOd
          go_wp2_with fail
          refine AnyB.start (by kernel_rfl) ?_
          refine AnyB.take 0 (.slice (some ⟨g, o, none⟩) N c) rfl (by kernel_rfl) (by kernel_rfl) (by kernel_rfl) (fun _ _ _ h => h) (by kernel_rfl) (fun W hW => by kernel_rfl) ?_
          refine AnyB.take 1 (.int .i64 (k : Int)) rfl (by kernel_rfl) (by kernel_rfl) (by kernel_rfl) (fun _ _ _ h => h) (by kernel_rfl) (fun W hW => by kernel_rfl) ?_
          refine AnyB.take 2 (.pointer (some ⟨g, o + k * 2, none⟩)) rfl (by kernel_rfl) (by kernel_rfl) (by kernel_rfl) (fun _ _ _ h => h) (by kernel_rfl) (fun W hW => y_index (sv := .slice (some ⟨g, o, none⟩) N c) (iv := .int .i64 (k : Int)) rfl (by kernel_rfl) (by kernel_rfl) (at_r W g o N c k hkN)) ?_
          refine AnyB.take 3 (.pointer (some ⟨g, o + k * 2, none⟩)) rfl (by kernel_rfl) (by kernel_rfl) (by kernel_rfl) (fun _ _ _ h => h) (by kernel_rfl) (fun W hW => y_field (sv := .pointer (some ⟨g, o + k * 2, none⟩)) rfl (by kernel_rfl) (f_r0 W g (o + k * 2))) ?_
          refine AnyB.take 4 (.string ⟨ny.toArray⟩) rfl (by kernel_rfl) (by kernel_rfl) (by kernel_rfl) (fun _ _ _ h => h) (by kernel_rfl) (fun W hW => y_load (sv := .pointer (some ⟨g, o + k * 2, none⟩)) rfl (by kernel_rfl) (l_S W g (o + k * 2) ny (C0.out W (LD.out.trans (hW.mono LD.out.size))))) ?_
          refine AnyB.take 5 (.pointer (some ⟨bx, 0, none⟩)) rfl (by kernel_rfl) (by kernel_rfl) (by kernel_rfl) (fun _ _ _ h => h) (by kernel_rfl) (fun W hW => y_field (sv := .pointer (some ⟨bx, 0, none⟩)) rfl (by kernel_rfl) (f_r0 W bx 0)) ?_
          refine AnyB.take 6 (.string ⟨nm.toArray⟩) rfl (by kernel_rfl) (by kernel_rfl) (by kernel_rfl) (fun _ _ _ h => h) (by kernel_rfl) (fun W hW => y_load (sv := .pointer (some ⟨bx, 0, none⟩)) rfl (by kernel_rfl) (l_S W bx 0 nm (D0.out W (LD.out.trans (hW.mono LD.out.size))))) ?_
          refine AnyB.take 7 (.bool true) rfl (by kernel_rfl) (by kernel_rfl) (by kernel_rfl) (fun _ _ _ h => h) (by kernel_rfl) (fun W hW => y_bin (x := .string ⟨ny.toArray⟩) (y := .string ⟨nm.toArray⟩) rfl (by kernel_rfl) (by kernel_rfl) rfl (HNe.out W)) ?_
          refine AnyB.done _ (by kernel_rfl) ?_
          go_simp
          have HLl : Hid ((out ++ [(⟨nm, di⟩ : Ref)]).length < 1000000) := Lib.hid (by have := hLn.out; simp; try omega)
          have HSz : Hid (B1 ≤ w5.drew.heap.size) := Lib.hid (HSZ.out _ LD.out)
          have e0 := C0.out _ LD.out
          have e1 := C1.out _ LD.out
          have LQ := LD
          generalize w5.drew = w6 at HO LQ HSz e0 e1 ⊢
          go_wp2_with (refine wpList_push elRef (o := ⟨some 47, _, _, _, _, _⟩) rfl _ _ rfl B1 _ ((out ++ [(⟨nm, di⟩ : Ref)])) ⟨ny, iy⟩ _ rfl rfl rfl HO.out HLl.out (by decide) HSz.out ?_)
          intro v' w7 hO7 hB5 _
          have O7 := Lib.hid hO7
          have L7 := Lib.hid (LQ.out.trans (hB5.mono HB1.out))
          clear hO7 hB5
          go_wp2_with fail
          go_roundw
          case rel => exact ⟨k + 1, (out ++ [(⟨nm, di⟩ : Ref)]) ++ [⟨ny, iy⟩], true, by omega, by go_num, rfl, Lib.hid (by have h := O7.out; simpa using h), HE2, Lib.hid (by have := hLn.out; simp; try omega), L7⟩
          case measure => simp [intOf]; omega

/-! RDocW -/
/-- What wrong answers. -/
def wrongV (u : List Upd) : Int := match firstN (badI u) u.length with | some i => (i : Int) | none => -1
theorem wrongV_some {u : List Upd} {k : Nat} (hk : k < u.length) (hp : badI u k = true) (h : ∀ j, j < k → badI u j = false) : wrongV u = (k : Int) := by
  unfold wrongV; rw [firstN_some hk hp h]
theorem wrongV_none {u : List Upd} (h : ∀ j, j < u.length → badI u j = false) : wrongV u = -1 := by
  unfold wrongV; rw [firstN_none h]
theorem badI_at {u : List Upd} {k : Nat} {x : Upd} (hx : u[k]? = some x) : badI u k = (!mayB x || (u.take k).any fun y => y.name == x.name) := by
  unfold badI
  rw [List.getD_eq_getElem?_getD, hx]; rfl
theorem any_snoc {u : List Upd} {j : Nat} {y : Upd} (hy : u[j]? = some y) (nm : Bs) : ((u.take (j + 1)).any fun y => y.name == nm) = (((u.take j).any fun y => y.name == nm) || y.name == nm) := by
  rw [List.take_add_one, hy, Option.toList_some, List.any_append]; simp
set_option maxRecDepth 100000 in
set_option maxHeartbeats 8000000 in
theorem Rwrong_any (u : List Upd) (v : Value) (w : World) (hv : UpdsR w v u) (hf : FitU u) (hl : u.length ≤ 100000) : Calls Tryz.prog 35 #[v] w fun e w' => e = .returned (.int .i64 (wrongV u)) ∧ Below w.heap.size w w' := by
  obtain ⟨A, c, rfl⟩ := hv.shape
  obtain ⟨N, hN⟩ : ∃ N, N = u.length := ⟨_, rfl⟩
  rw [← hN] at hl hv ⊢
  have HV := Lib.hid hv; have HF := Lib.hid hf; have HN := Lib.hid hN
  obtain ⟨rv, hrv⟩ : ∃ rv, rv = wrongV u := ⟨_, rfl⟩
  rw [← hrv]
  have HRv := Lib.hid hrv
  clear hv hf hN hrv
  go_enter Tryz.func35, Tryz.ntmps35
  go_wp2_with fail
  go_loopw [3] (fun v3 wr => ∃ k : Nat, k ≤ N ∧ v3 = .int .i64 k ∧ Hid (Below w.heap.size w wr) ∧ Hid (∀ j, j < k → badI u j = false)) (fun v3 _ => N - (intOf v3).toNat)
  case atStart => exact ⟨0, Nat.zero_le _, rfl, Lib.hid (Below.refl _ _), Lib.hid fun _ h => absurd h (Nat.not_lt_zero _)⟩
  case round =>
    obtain ⟨k, hk, rfl, hB, hno⟩ := hrel
    by_cases hkN : k < N
    case neg =>
      have hkI : ¬ (k : Int) < (N : Int) := by omega
      have HR := Lib.hid (HRv.out.trans (wrongV_none fun j hj => hno.out j (by have := HN.out; omega)))
      clear hno hkN
      go_wp2_with fail
      go_ret
      exact ⟨by rw [HR.out]; rfl, hB.out⟩
    have hkI : (k : Int) < (N : Int) := by omega
    obtain ⟨g, o, c', e, _, hg⟩ := HV.out.pos (by have := HN.out; omega)
    obtain rfl : A = some ⟨g, o, none⟩ := by rw [← HN.out] at e; cases e; rfl
    clear e
    obtain ⟨x, hx⟩ : ∃ x, u[k]? = some x := ⟨_, List.getElem?_eq_getElem (by have := HN.out; omega)⟩
    have hfx := HF.out x (List.mem_of_getElem? hx)
    obtain ⟨c0, c1, c2⟩ := UpdsR.cells (RdK.below HV.out hB.out (Nat.le_refl _)) hx
    have HX := Lib.hid hx
    obtain ⟨nm, od, nw⟩ := x
    simp only at hfx c0 c1 c2
    have HNm := fun W => Lib.hid (RNmd_any nm W hfx.1)
    have HOd := fun W => Lib.hid (RNamed_any od W hfx.2.1)
    have HNw := fun W => Lib.hid (RNamed_any nw W hfx.2.2)
    unfold SV at HOd HNw c0 c1 c2
    obtain ⟨bx, hbx⟩ : ∃ z, z = wr.heap.size := ⟨_, rfl⟩
    have HBx := Lib.hid hbx
    have LA := Lib.hid (hB.out.alloc hB.out.size (.cells #[.string ⟨nm.toArray⟩, .string ⟨od.toArray⟩, .string ⟨nw.toArray⟩] 43))
    have Hg := Lib.hid hg
    clear hx hfx hbx hg hB
    go_upto_region 5 with fail
    have e0 : (wr.alloc (.cells #[.string ⟨nm.toArray⟩, .string ⟨od.toArray⟩, .string ⟨nw.toArray⟩] 43)).cell? ⟨wr.heap.size, 0, none⟩ = some (.string ⟨nm.toArray⟩) := by simp
    have e1 : (wr.alloc (.cells #[.string ⟨nm.toArray⟩, .string ⟨od.toArray⟩, .string ⟨nw.toArray⟩] 43)).cell? ⟨wr.heap.size, 1, none⟩ = some (.string ⟨od.toArray⟩) := by simp
    have e2 : (wr.alloc (.cells #[.string ⟨nm.toArray⟩, .string ⟨od.toArray⟩, .string ⟨nw.toArray⟩] 43)).cell? ⟨wr.heap.size, 2, none⟩ = some (.string ⟨nw.toArray⟩) := by simp
    have hsz : bx < (wr.alloc (.cells #[.string ⟨nm.toArray⟩, .string ⟨od.toArray⟩, .string ⟨nw.toArray⟩] 43)).heap.size := by rw [HBx.out]; simp
    rw [← HBx.out] at e0 e1 e2 ⊢
    obtain ⟨w1, hw1⟩ : ∃ z, z = wr.alloc (.cells #[.string ⟨nm.toArray⟩, .string ⟨od.toArray⟩, .string ⟨nw.toArray⟩] 43) := ⟨_, rfl⟩
    rw [← hw1] at e0 e1 e2 LA hsz ⊢
    have D0 := Lib.hid fun W (hW : Below w1.heap.size w1 W) => (hW.cell (p := ⟨bx, 0, none⟩) hsz).trans e0
    clear hw1 hsz c0 c1 c2
    obtain ⟨m, hm⟩ : ∃ m, m = mayB ⟨nm, od, nw⟩ := ⟨_, rfl⟩
    have HMe := Lib.hid hm
    obtain ⟨m2, hm2⟩ : ∃ m2, m2 = !m := ⟨_, rfl⟩
    have HM2 := Lib.hid hm2
    clear hm hm2
    go_cut [5] from 5 to 52 (fun v5 wx => v5 = .bool m2 ∧ w1 = wx)
    case first =>
      have hme := HMe.out
      rw [mayB_eq] at hme
      cases hn1 : nameB nm with
      | false =>
        rw [hn1] at hme HNm
        have HM : Hid (m2 = true) := Lib.hid (by rw [HM2.out, hme]; rfl)
        clear hme hn1
        go_wp2_with fail
        refine (HNm _).out.mono ?_
        rintro e w7 ⟨rfl, rfl⟩
        go_wp2_with fail
        go_meet
        case rel => exact ⟨by rw [HM.out], rfl⟩
      | true =>
      by_cases ho : od = []
      · skip
        by_cases hw : nw = []
        · skip
          rw [hn1] at hme HNm
          subst ho
          subst hw
          have HM : Hid (m2 = true) := Lib.hid (by
            rw [HM2.out, hme]
            unfold idB
            simp [*])
          clear hme hn1
          go_wp2_with fail
          refine (HNm _).out.mono ?_
          rintro e w7 ⟨rfl, rfl⟩
          go_wp2_with fail
          go_meet
          case rel => exact ⟨by rw [HM.out], rfl⟩
        · cases hn3 : namedB nw with
          | true =>
            rw [hn1] at hme HNm
            subst ho
            have hwe : (nw == ([] : Bs)) = false := beq_eq_false_iff_ne.2 hw
            rw [hn3] at HNw
            have HM : Hid (m2 = false) := Lib.hid (by
              rw [HM2.out, hme]
              unfold idB
              simp [*])
            clear hme hn1 hw hn3
            go_wp2_with fail
            refine (HNm _).out.mono ?_
            rintro e w7 ⟨rfl, rfl⟩
            go_wp2_with fail
            refine (HNw _).out.mono ?_
            rintro e w7 ⟨rfl, rfl⟩
            go_wp2_with fail
            go_meet
            case rel => exact ⟨by rw [HM.out], rfl⟩
          | false =>
            rw [hn1] at hme HNm
            subst ho
            have hwe : (nw == ([] : Bs)) = false := beq_eq_false_iff_ne.2 hw
            rw [hn3] at HNw
            have HM : Hid (m2 = true) := Lib.hid (by
              rw [HM2.out, hme]
              unfold idB
              simp [*])
            clear hme hn1 hw hn3
            go_wp2_with fail
            refine (HNm _).out.mono ?_
            rintro e w7 ⟨rfl, rfl⟩
            go_wp2_with fail
            refine (HNw _).out.mono ?_
            rintro e w7 ⟨rfl, rfl⟩
            go_wp2_with fail
            go_meet
            case rel => exact ⟨by rw [HM.out], rfl⟩
      · cases hn2 : namedB od with
        | false =>
          rw [hn1] at hme HNm
          have hoe : (od == ([] : Bs)) = false := beq_eq_false_iff_ne.2 ho
          rw [hn2] at HOd
          have HM : Hid (m2 = true) := Lib.hid (by
            rw [HM2.out, hme]
            unfold idB
            simp [*])
          clear hme hn1 ho hn2
          go_wp2_with fail
          refine (HNm _).out.mono ?_
          rintro e w7 ⟨rfl, rfl⟩
          go_wp2_with fail
          refine (HOd _).out.mono ?_
          rintro e w7 ⟨rfl, rfl⟩
          go_wp2_with fail
          go_meet
          case rel => exact ⟨by rw [HM.out], rfl⟩
        | true =>
          by_cases hw : nw = []
          · skip
            rw [hn1] at hme HNm
            have hoe : (od == ([] : Bs)) = false := beq_eq_false_iff_ne.2 ho
            rw [hn2] at HOd
            subst hw
            have HM : Hid (m2 = false) := Lib.hid (by
              rw [HM2.out, hme]
              unfold idB
              simp [*])
            clear hme hn1 ho hn2
            go_wp2_with fail
            refine (HNm _).out.mono ?_
            rintro e w7 ⟨rfl, rfl⟩
            go_wp2_with fail
            refine (HOd _).out.mono ?_
            rintro e w7 ⟨rfl, rfl⟩
            go_wp2_with fail
            go_meet
            case rel => exact ⟨by rw [HM.out], rfl⟩
          · cases hn3 : namedB nw with
            | true =>
              rw [hn1] at hme HNm
              have hoe : (od == ([] : Bs)) = false := beq_eq_false_iff_ne.2 ho
              rw [hn2] at HOd
              have hwe : (nw == ([] : Bs)) = false := beq_eq_false_iff_ne.2 hw
              rw [hn3] at HNw
              have HM : Hid (m2 = false) := Lib.hid (by
                rw [HM2.out, hme]
                unfold idB
                simp [*])
              clear hme hn1 ho hn2 hw hn3
              go_wp2_with fail
              refine (HNm _).out.mono ?_
              rintro e w7 ⟨rfl, rfl⟩
              go_wp2_with fail
              refine (HOd _).out.mono ?_
              rintro e w7 ⟨rfl, rfl⟩
              go_wp2_with fail
              refine (HNw _).out.mono ?_
              rintro e w7 ⟨rfl, rfl⟩
              go_wp2_with fail
              go_meet
              case rel => exact ⟨by rw [HM.out], rfl⟩
            | false =>
              rw [hn1] at hme HNm
              have hoe : (od == ([] : Bs)) = false := beq_eq_false_iff_ne.2 ho
              rw [hn2] at HOd
              have hwe : (nw == ([] : Bs)) = false := beq_eq_false_iff_ne.2 hw
              rw [hn3] at HNw
              have HM : Hid (m2 = true) := Lib.hid (by
                rw [HM2.out, hme]
                unfold idB
                simp [*])
              clear hme hn1 ho hn2 hw hn3
              go_wp2_with fail
              refine (HNm _).out.mono ?_
              rintro e w7 ⟨rfl, rfl⟩
              go_wp2_with fail
              refine (HOd _).out.mono ?_
              rintro e w7 ⟨rfl, rfl⟩
              go_wp2_with fail
              refine (HNw _).out.mono ?_
              rintro e w7 ⟨rfl, rfl⟩
              go_wp2_with fail
              go_meet
              case rel => exact ⟨by rw [HM.out], rfl⟩
    case rest =>
    obtain ⟨rfl, hww⟩ := hcut
    subst hww
    clear HNm HOd HNw e1 e2
    go_wp2_with fail
    go_loopw [5, 6] (fun v5 v6 wr => ∃ (j : Nat) (b : Bool), j ≤ k ∧ v6 = .int .i64 j ∧ v5 = .bool b ∧ Hid (b = (!m || (u.take j).any fun y => y.name == nm)) ∧ Hid (Below w1.heap.size w1 wr)) (fun _ v6 _ => k - (intOf v6).toNat)
    case atStart => exact ⟨0, m2, Nat.zero_le _, rfl, rfl, Lib.hid (by rw [HM2.out]; simp), Lib.hid (Below.refl _ _)⟩
    case round =>
      obtain ⟨j, b, hj, rfl, rfl, hbv, hB2⟩ := hrel
      have L2 := Lib.hid (LA.out.trans (hB2.out.mono LA.out.size))
      by_cases hjk : j < k
      case neg =>
        have hjI : ¬ (j : Int) < (k : Int) := by omega
        have hb2 : b = badI u k := by rw [badI_at HX.out, ← HMe.out, hbv.out, show j = k by omega]
        cases b with
        | true =>
          have HR := Lib.hid (HRv.out.trans (wrongV_some (by have := HN.out; omega) hb2.symm hno.out))
          clear hb2 hbv hno hjk
          go_wp2_with fail
          go_ret
          exact ⟨by rw [HR.out]; rfl, L2.out⟩
        | false =>
          have HNo : Hid (∀ j, j < k + 1 → badI u j = false) := Lib.hid fun i hi => by
            rcases Nat.lt_or_ge i k with h | h
            · exact hno.out i h
            · have e : i = k := by omega
              rw [e]; exact hb2.symm
          clear hb2 hbv hno hjk
          go_wp2_with fail
          go_roundw
          case rel => exact ⟨k + 1, by omega, by go_num, L2, HNo⟩
          case measure => simp [intOf]; omega
      have hjI : (j : Int) < (k : Int) := by omega
      have hjN : j < N := by omega
      obtain ⟨y, hy⟩ : ∃ y, u[j]? = some y := ⟨_, List.getElem?_eq_getElem (by have := HN.out; omega)⟩
      have hcl := fun W (hW : Below w1.heap.size w1 W) => (UpdsR.cells (RdK.below HV.out (LA.out.trans (hW.mono LA.out.size)) (Nat.le_refl _)) hy).1
      have hsn := any_snoc hy nm
      obtain ⟨ny, oy, wy⟩ := y
      simp only at hcl hsn
      unfold SV at hcl
      have CJ := Lib.hid hcl
      have LD : Hid (Below w1.heap.size w1 wr.drew) := Lib.hid hB2.out.drew
      have HSn := Lib.hid hsn
      clear hcl hy hsn hB2 L2
      cases b with
      | true =>
        have HB3 : Hid (true = (!m || (u.take (j + 1)).any fun y => y.name == nm)) := Lib.hid (by
          rw [HSn.out, ← Bool.or_assoc, ← hbv.out]; rfl)
        clear hbv
        go_wp2_with fail
        refine AnyB.start (by kernel_rfl) ?_
        refine AnyB.take 0 (.bool true) rfl (by kernel_rfl) (by kernel_rfl) (by kernel_rfl) (fun _ _ _ h => h) (by kernel_rfl) (fun W hW => by kernel_rfl) ?_
        refine AnyB.take 1 (.bool true) rfl (by kernel_rfl) (by kernel_rfl) (by kernel_rfl) (fun _ _ _ h => h) (by kernel_rfl) (fun W hW => by kernel_rfl) ?_
        refine AnyB.skip 2 rfl (by kernel_rfl) (by kernel_rfl) (by kernel_rfl) (fun _ _ _ h => h) (by kernel_rfl) ?_
        refine AnyB.skip 3 rfl (by kernel_rfl) (by kernel_rfl) (by kernel_rfl) (fun _ _ _ h => h) (by kernel_rfl) ?_
        refine AnyB.skip 4 rfl (by kernel_rfl) (by kernel_rfl) (by kernel_rfl) (fun _ _ _ h => h) (by kernel_rfl) ?_
        refine AnyB.skip 5 rfl (by kernel_rfl) (by kernel_rfl) (by kernel_rfl) (fun _ _ _ h => h) (by kernel_rfl) ?_
        refine AnyB.skip 6 rfl (by kernel_rfl) (by kernel_rfl) (by kernel_rfl) (fun _ _ _ h => h) (by kernel_rfl) ?_
        refine AnyB.skip 7 rfl (by kernel_rfl) (by kernel_rfl) (by kernel_rfl) (fun _ _ _ h => h) (by kernel_rfl) ?_
        refine AnyB.skip 8 rfl (by kernel_rfl) (by kernel_rfl) (by kernel_rfl) (fun _ _ _ h => h) (by kernel_rfl) ?_
        refine AnyB.skip 9 rfl (by kernel_rfl) (by kernel_rfl) (by kernel_rfl) (fun _ _ _ h => h) (by kernel_rfl) ?_
        refine AnyB.take 10 (.bool true) rfl (by kernel_rfl) (by kernel_rfl) (by kernel_rfl) (fun _ _ _ h => h) (by kernel_rfl) (fun W hW => by kernel_rfl) ?_
        refine AnyB.take 11 (.bool true) rfl (by kernel_rfl) (by kernel_rfl) (by kernel_rfl) (fun _ _ _ h => h) (by kernel_rfl) (fun W hW => by kernel_rfl) ?_
        refine AnyB.done _ (by kernel_rfl) ?_
        go_simp
        go_wp2_with fail
        go_roundw
        case rel => exact ⟨j + 1, true, by omega, by go_num, rfl, HB3, LD⟩
        case measure => simp [intOf]; omega
      | false =>
        cases heq : decide (ny = nm) with
        | true =>
          have HEq := Lib.hid fun W => eql_S W ny nm true heq
          have HB3 : Hid (true = (!m || (u.take (j + 1)).any fun y => y.name == nm)) := Lib.hid (by
            rw [HSn.out, ← Bool.or_assoc, ← hbv.out, of_decide_eq_true heq]; simp)
          clear hbv heq
          go_wp2_with fail
          refine AnyB.start (by kernel_rfl) ?_
          refine AnyB.take 0 (.bool false) rfl (by kernel_rfl) (by kernel_rfl) (by kernel_rfl) (fun _ _ _ h => h) (by kernel_rfl) (fun W hW => by kernel_rfl) ?_
          refine AnyB.take 1 (.bool false) rfl (by kernel_rfl) (by kernel_rfl) (by kernel_rfl) (fun _ _ _ h => h) (by kernel_rfl) (fun W hW => by kernel_rfl) ?_
          refine AnyB.take 2 (.slice (some ⟨g, o, none⟩) N c) rfl (by kernel_rfl) (by kernel_rfl) (by kernel_rfl) (fun _ _ _ h => h) (by kernel_rfl) (fun W hW => by kernel_rfl) ?_
          refine AnyB.take 3 (.int .i64 (j : Int)) rfl (by kernel_rfl) (by kernel_rfl) (by kernel_rfl) (fun _ _ _ h => h) (by kernel_rfl) (fun W hW => by kernel_rfl) ?_
          refine AnyB.take 4 (.pointer (some ⟨g, o + j * 3, none⟩)) rfl (by kernel_rfl) (by kernel_rfl) (by kernel_rfl) (fun _ _ _ h => h) (by kernel_rfl) (fun W hW => y_index (sv := .slice (some ⟨g, o, none⟩) N c) (iv := .int .i64 (j : Int)) rfl (by kernel_rfl) (by kernel_rfl) (at_u W g o N c j hjN)) ?_
          refine AnyB.take 5 (.pointer (some ⟨g, o + j * 3, none⟩)) rfl (by kernel_rfl) (by kernel_rfl) (by kernel_rfl) (fun _ _ _ h => h) (by kernel_rfl) (fun W hW => y_field (sv := .pointer (some ⟨g, o + j * 3, none⟩)) rfl (by kernel_rfl) (f_u0 W g (o + j * 3))) ?_
          refine AnyB.take 6 (.string ⟨ny.toArray⟩) rfl (by kernel_rfl) (by kernel_rfl) (by kernel_rfl) (fun _ _ _ h => h) (by kernel_rfl) (fun W hW => y_load (sv := .pointer (some ⟨g, o + j * 3, none⟩)) rfl (by kernel_rfl) (l_S W g (o + j * 3) ny (CJ.out W (LD.out.trans (hW.mono LD.out.size))))) ?_
          refine AnyB.take 7 (.pointer (some ⟨bx, 0, none⟩)) rfl (by kernel_rfl) (by kernel_rfl) (by kernel_rfl) (fun _ _ _ h => h) (by kernel_rfl) (fun W hW => y_field (sv := .pointer (some ⟨bx, 0, none⟩)) rfl (by kernel_rfl) (f_u0 W bx 0)) ?_
          refine AnyB.take 8 (.string ⟨nm.toArray⟩) rfl (by kernel_rfl) (by kernel_rfl) (by kernel_rfl) (fun _ _ _ h => h) (by kernel_rfl) (fun W hW => y_load (sv := .pointer (some ⟨bx, 0, none⟩)) rfl (by kernel_rfl) (l_S W bx 0 nm (D0.out W (LD.out.trans (hW.mono LD.out.size))))) ?_
          refine AnyB.take 9 (.bool true) rfl (by kernel_rfl) (by kernel_rfl) (by kernel_rfl) (fun _ _ _ h => h) (by kernel_rfl) (fun W hW => y_bin (x := .string ⟨ny.toArray⟩) (y := .string ⟨nm.toArray⟩) rfl (by kernel_rfl) (by kernel_rfl) rfl (HEq.out W)) ?_
          refine AnyB.take 10 (.bool true) rfl (by kernel_rfl) (by kernel_rfl) (by kernel_rfl) (fun _ _ _ h => h) (by kernel_rfl) (fun W hW => by kernel_rfl) ?_
          refine AnyB.take 11 (.bool true) rfl (by kernel_rfl) (by kernel_rfl) (by kernel_rfl) (fun _ _ _ h => h) (by kernel_rfl) (fun W hW => by kernel_rfl) ?_
          refine AnyB.done _ (by kernel_rfl) ?_
          go_simp
          go_wp2_with fail
          go_roundw
          case rel => exact ⟨j + 1, true, by omega, by go_num, rfl, HB3, LD⟩
          case measure => simp [intOf]; omega
        | false =>
          have HEq := Lib.hid fun W => eql_S W ny nm false heq
          have HB3 : Hid (false = (!m || (u.take (j + 1)).any fun y => y.name == nm)) := Lib.hid (by
            rw [HSn.out, ← Bool.or_assoc, ← hbv.out]
            have := of_decide_eq_false heq
            simp [this])
          clear hbv heq
          go_wp2_with fail
          refine AnyB.start (by kernel_rfl) ?_
          refine AnyB.take 0 (.bool false) rfl (by kernel_rfl) (by kernel_rfl) (by kernel_rfl) (fun _ _ _ h => h) (by kernel_rfl) (fun W hW => by kernel_rfl) ?_
          refine AnyB.take 1 (.bool false) rfl (by kernel_rfl) (by kernel_rfl) (by kernel_rfl) (fun _ _ _ h => h) (by kernel_rfl) (fun W hW => by kernel_rfl) ?_
          refine AnyB.take 2 (.slice (some ⟨g, o, none⟩) N c) rfl (by kernel_rfl) (by kernel_rfl) (by kernel_rfl) (fun _ _ _ h => h) (by kernel_rfl) (fun W hW => by kernel_rfl) ?_
          refine AnyB.take 3 (.int .i64 (j : Int)) rfl (by kernel_rfl) (by kernel_rfl) (by kernel_rfl) (fun _ _ _ h => h) (by kernel_rfl) (fun W hW => by kernel_rfl) ?_
          refine AnyB.take 4 (.pointer (some ⟨g, o + j * 3, none⟩)) rfl (by kernel_rfl) (by kernel_rfl) (by kernel_rfl) (fun _ _ _ h => h) (by kernel_rfl) (fun W hW => y_index (sv := .slice (some ⟨g, o, none⟩) N c) (iv := .int .i64 (j : Int)) rfl (by kernel_rfl) (by kernel_rfl) (at_u W g o N c j hjN)) ?_
          refine AnyB.take 5 (.pointer (some ⟨g, o + j * 3, none⟩)) rfl (by kernel_rfl) (by kernel_rfl) (by kernel_rfl) (fun _ _ _ h => h) (by kernel_rfl) (fun W hW => y_field (sv := .pointer (some ⟨g, o + j * 3, none⟩)) rfl (by kernel_rfl) (f_u0 W g (o + j * 3))) ?_
          refine AnyB.take 6 (.string ⟨ny.toArray⟩) rfl (by kernel_rfl) (by kernel_rfl) (by kernel_rfl) (fun _ _ _ h => h) (by kernel_rfl) (fun W hW => y_load (sv := .pointer (some ⟨g, o + j * 3, none⟩)) rfl (by kernel_rfl) (l_S W g (o + j * 3) ny (CJ.out W (LD.out.trans (hW.mono LD.out.size))))) ?_
          refine AnyB.take 7 (.pointer (some ⟨bx, 0, none⟩)) rfl (by kernel_rfl) (by kernel_rfl) (by kernel_rfl) (fun _ _ _ h => h) (by kernel_rfl) (fun W hW => y_field (sv := .pointer (some ⟨bx, 0, none⟩)) rfl (by kernel_rfl) (f_u0 W bx 0)) ?_
          refine AnyB.take 8 (.string ⟨nm.toArray⟩) rfl (by kernel_rfl) (by kernel_rfl) (by kernel_rfl) (fun _ _ _ h => h) (by kernel_rfl) (fun W hW => y_load (sv := .pointer (some ⟨bx, 0, none⟩)) rfl (by kernel_rfl) (l_S W bx 0 nm (D0.out W (LD.out.trans (hW.mono LD.out.size))))) ?_
          refine AnyB.take 9 (.bool false) rfl (by kernel_rfl) (by kernel_rfl) (by kernel_rfl) (fun _ _ _ h => h) (by kernel_rfl) (fun W hW => y_bin (x := .string ⟨ny.toArray⟩) (y := .string ⟨nm.toArray⟩) rfl (by kernel_rfl) (by kernel_rfl) rfl (HEq.out W)) ?_
          refine AnyB.take 10 (.bool false) rfl (by kernel_rfl) (by kernel_rfl) (by kernel_rfl) (fun _ _ _ h => h) (by kernel_rfl) (fun W hW => by kernel_rfl) ?_
          refine AnyB.take 11 (.bool false) rfl (by kernel_rfl) (by kernel_rfl) (by kernel_rfl) (fun _ _ _ h => h) (by kernel_rfl) (fun W hW => by kernel_rfl) ?_
          refine AnyB.done _ (by kernel_rfl) ?_
          go_simp
          go_wp2_with fail
          go_roundw
          case rel => exact ⟨j + 1, false, by omega, by go_num, rfl, HB3, LD⟩
          case measure => simp [intOf]; omega

/-! RDocT -/
theorem at_s9 (W : World) (g o n c k : Nat) (hk : k < n) : (Instr.indexAt 33 (.slice (some ⟨g, o, none⟩) n c) (.int .i64 (k : Int))).run Tryz.prog W = .ok (.pointer (some ⟨g, o + k, none⟩)) W := by
  have h : (k : Int) < (n : Int) := by omega
  simp [go_sem, h]
/-- A text put among rising ones. -/
def iput (x : Bs) : Bool → List Bs → List Bs
  | d, [] => if d then [] else [x]
  | d, r :: l => (if !d && !decide (r < x) then [x] else []) ++ ((if r = x then [] else [r]) ++ iput x (d || !decide (r < x)) l)
theorem iput_done (x : Bs) : ∀ l, iput x true l = l.filter (fun r => !(r == x))
  | [] => rfl
  | r :: l => by
    rw [iput, Bool.true_or, iput_done x l, List.filter_cons]
    by_cases h : r = x
    · simp [h]
    · simp [h]
theorem iput_ok (x : Bs) : ∀ l : List Bs, Rising l → Rising (iput x false l) ∧ ∀ z, z ∈ iput x false l ↔ z = x ∨ z ∈ l
  | [], _ => ⟨List.pairwise_singleton _ _, fun z => by simp [iput]⟩
  | r :: l, h => by
    have h2 := List.pairwise_cons.1 h
    by_cases h1 : r < x
    · have n2 : ¬ r = x := fun e => by rw [e] at h1; exact List.lt_irrefl _ h1
      have e : iput x false (r :: l) = r :: iput x false l := by rw [iput, if_neg n2, decide_eq_true h1]; simp
      obtain ⟨k1, k2⟩ := iput_ok x l h2.2
      rw [e]
      refine ⟨List.pairwise_cons.2 ⟨fun z hz => ?_, k1⟩, fun z => ?_⟩
      · rcases (k2 z).1 hz with rfl | hz
        · exact h1
        · exact h2.1 z hz
      · rw [List.mem_cons, k2, List.mem_cons]
        constructor
        · rintro (h | h | h)
          · exact .inr (.inl h)
          · exact .inl h
          · exact .inr (.inr h)
        · rintro (h | h | h)
          · exact .inr (.inl h)
          · exact .inl h
          · exact .inr (.inr h)
    · have hf : ∀ z ∈ l, ¬ z = x := fun z hz e => by
        have := h2.1 z hz
        rw [e] at this; exact h1 this
      have hfl : l.filter (fun r => !(r == x)) = l := List.filter_eq_self.2 fun z hz => by simp [hf z hz]
      by_cases he : r = x
      · have e : iput x false (r :: l) = r :: l := by rw [iput, if_pos he, decide_eq_false h1]; simp [iput_done, hfl, he]
        rw [e]
        refine ⟨h, fun z => ?_⟩
        rw [List.mem_cons, he]
        constructor
        · exact fun h => .inr h
        · rintro (h | h)
          · exact .inl h
          · exact h
      · have n1 : x < r := by
          rcases List.le_total x r with h | h
          · exact lt_of_le_ne h fun e => he e.symm
          · exact absurd (lt_of_le_ne h he) h1
        have e : iput x false (r :: l) = x :: r :: l := by rw [iput, if_neg he, decide_eq_false h1]; simp [iput_done, hfl]
        rw [e]
        refine ⟨List.pairwise_cons.2 ⟨fun z hz => ?_, h⟩, fun z => by rw [List.mem_cons]⟩
        rcases List.mem_cons.1 hz with rfl | hz
        · exact n1
        · exact List.lt_trans n1 (h2.1 z hz)
theorem tips_next {l : List Ref} {k : Nat} {x : Ref} {t : List Bs} (h : Tips (l.take k) t) (hx : l[k]? = some x) : Tips (l.take (k + 1)) (iput x.id false t) := by
  obtain ⟨h1, h2⟩ := iput_ok x.id t h.1
  refine ⟨h1, fun z => ?_⟩
  rw [h2, h.2, List.take_add_one, hx, Option.toList_some]
  constructor
  · rintro (rfl | ⟨r, hr, e⟩)
    · exact ⟨x, by simp, rfl⟩
    · exact ⟨r, List.mem_append.2 (.inl hr), e⟩
  · rintro ⟨r, hr, e⟩
    rcases List.mem_append.1 hr with hr | hr
    · exact .inr ⟨r, hr, e⟩
    · rw [List.mem_singleton.1 hr] at e; exact .inl e.symm
theorem tips_len {l : List Ref} {t : List Bs} (h : Tips l t) : t.length ≤ l.length := by
  have h1 := len_le (l := t) (m := l.map (·.id)) h.1.nodup fun x hx => by
    obtain ⟨r, hr, e⟩ := (h.2 x).1 hx
    exact List.mem_map.2 ⟨r, hr, e⟩
  simpa using h1
set_option maxRecDepth 100000 in
set_option maxHeartbeats 8000000 in
theorem RTips_any (l : List Ref) (v : Value) (w : World) (hv : RefsR w v l) (hl : l.length ≤ 100000) : Calls Tryz.prog 23 #[v] w (TipsP l w) := by
  obtain ⟨A, c, rfl⟩ := hv.shape
  obtain ⟨N, hN⟩ : ∃ N, N = l.length := ⟨_, rfl⟩
  rw [← hN] at hl hv ⊢
  have HV := Lib.hid hv; have HN := Lib.hid hN
  clear hv hN
  go_enter Tryz.func23, Tryz.ntmps23
  go_wp2_with fail
  go_loopw [3, 4] (fun v3 v4 wr => ∃ (k : Nat) (t : List Bs), k ≤ N ∧ v4 = .int .i64 k ∧ Hid (OwS wr w.heap.size v3 t) ∧ Hid (Tips (l.take k) t) ∧ Hid (Below w.heap.size w wr)) (fun _ v4 _ => N - (intOf v4).toNat)
  case atStart => exact ⟨0, [], Nat.zero_le _, rfl, Lib.hid (OwK.nil _ _ _ _ _), Lib.hid ⟨List.Pairwise.nil, fun x => by simp⟩, Lib.hid (Below.refl _ _)⟩
  case round =>
    obtain ⟨k, t, hk, rfl, hO, hT, hB⟩ := hrel
    by_cases hkN : k < N
    case neg =>
      have hkI : ¬ (k : Int) < (N : Int) := by omega
      have HT := Lib.hid (show Tips l t by have h := hT.out; rw [List.take_of_length_le (by have := HN.out; omega)] at h; exact h)
      clear hT hkN
      go_wp2_with fail
      go_ret
      exact ⟨_, t, rfl, OwK.rd elStr.len hO.out, HT.out, hB.out⟩
    have hkI : (k : Int) < (N : Int) := by omega
    obtain ⟨g, o, c', e, _, hg⟩ := HV.out.pos (by have := HN.out; omega)
    obtain rfl : A = some ⟨g, o, none⟩ := by rw [← HN.out] at e; cases e; rfl
    clear e hg
    obtain ⟨x, hx⟩ : ∃ x, l[k]? = some x := ⟨_, List.getElem?_eq_getElem (by have := HN.out; omega)⟩
    have hnx := tips_next hT.out hx
    have htl : t.length ≤ 100000 := by
      have := tips_len hT.out
      rw [List.length_take] at this; omega
    have hcl := fun W (hW : Below wr.heap.size wr W) => (RefsR.cells (RdK.below HV.out (hB.out.trans (hW.mono hB.out.size)) (Nat.le_refl _)) hx).2
    obtain ⟨nm, di⟩ := x
    simp only at hcl hnx
    unfold SV at hcl
    obtain ⟨wo, hwo⟩ : ∃ wo, wo = wr := ⟨_, rfl⟩
    subst hwo
    obtain ⟨B1, hB1⟩ : ∃ z, z = wo.heap.size := ⟨_, rfl⟩
    have HB1 : Hid (wo.heap.size ≤ B1) := Lib.hid (by omega)
    have HBe := Lib.hid hB1
    have hsz : ∀ z, Below wo.heap.size wo z → B1 ≤ z.heap.size := fun z h => by rw [HBe.out]; exact h.size
    have HSZ := Lib.hid hsz
    have C1 := Lib.hid hcl
    obtain ⟨L, hL⟩ : ∃ L, L = iput di false t := ⟨_, rfl⟩
    rw [← hL] at hnx
    have HNx := Lib.hid hnx; have HL := Lib.hid hL
    obtain ⟨At, T, ct, hvt, hTn⟩ := OwK.shape hO.out
    subst hvt
    have HTn := Lib.hid hTn
    have hrd := OwK.rd elStr.len hO.out
    have HRt := Lib.hid hrd
    have LB0 := hB
    have Htl := Lib.hid htl
    have hTb : T ≤ 100000 := by omega
    clear hx hcl hsz hB1 hL hnx hTn hO hT hB hrd htl
    go_wp2_with fail
    go_loopw [5, 6, 7] (fun v5 v6 v7 wr => ∃ (j : Nat) (out : List Bs) (d : Bool), j ≤ T ∧ v7 = .int .i64 j ∧ v6 = .bool d ∧ Hid (OwS wr B1 v5 out) ∧ Hid (out ++ iput di d (t.drop j) = L) ∧ Hid (out.length ≤ 2 * j) ∧ Hid (Below wo.heap.size wo wr)) (fun _ _ v7 _ => T - (intOf v7).toNat)
    case atStart => exact ⟨0, [], false, Nat.zero_le _, rfl, rfl, Lib.hid (OwK.nil _ _ _ _ _), Lib.hid (by rw [List.drop_zero, List.nil_append, HL.out]), Lib.hid (Nat.zero_le _), Lib.hid (Below.refl _ _)⟩
    case round =>
      obtain ⟨j, out, d, hj, rfl, rfl, hO, hE, hLn, hB⟩ := hrel
      obtain ⟨A3, n3, c3, hv3, -⟩ := OwK.shape hO.out
      subst hv3
      by_cases hjT : j < T
      case neg =>
        have hjI : ¬ (j : Int) < (T : Int) := by omega
        have hE2 : out ++ (if d then [] else [di]) = L := by
          have h := hE.out
          rw [List.drop_of_length_le (by have := HTn.out; omega)] at h; exact h
        cases d with
        | true =>
          have HF : Hid (OwS wr w.heap.size (.slice A3 n3 c3) L) := Lib.hid (by have h := hE2; simp at h; rw [← h]; exact hO.out.mono (by rw [HBe.out]; exact LB0.out.size))
          have LZ := Lib.hid (LB0.out.trans (hB.out.mono LB0.out.size))
          clear hE hE2 hO hjT
          go_wp2_with fail
          go_roundw
          case rel => exact ⟨k + 1, L, hkN, by go_num, HF, HNx, LZ⟩
          case measure => simp [intOf]; omega
        | false =>
          have HLe : Hid (out ++ [di] = L) := Lib.hid hE2
          have HLl : Hid (out.length < 1000000) := Lib.hid (by have := hLn.out; omega)
          have HSz : Hid (B1 ≤ wr.heap.size) := Lib.hid (HSZ.out wr hB.out)
          have LB := hB
          have e1 := C1.out wr hB.out
          clear hE hE2 hjT
          go_wp2_with (refine wpList_push elStr (o := ⟨some 68, _, _, _, _, _⟩) rfl _ _ rfl B1 _ (out) di #[.string ⟨di.toArray⟩] rfl rfl rfl hO.out HLl.out (by decide) HSz.out ?_)
          intro v' w5 hO5 hB5 _
          have O5 := Lib.hid hO5
          have L5 := Lib.hid (LB.out.trans (hB5.mono HB1.out))
          clear hO5 hB5
          have HF : Hid (OwS w5 w.heap.size v' L) := Lib.hid (by rw [← HLe.out]; exact O5.out.mono (by rw [HBe.out]; exact LB0.out.size))
          have LZ := Lib.hid (LB0.out.trans (L5.out.mono LB0.out.size))
          go_wp2_with fail
          go_roundw
          case rel => exact ⟨k + 1, L, hkN, by go_num, HF, HNx, LZ⟩
          case measure => simp [intOf]; omega
      have hjI : (j : Int) < (T : Int) := by omega
      obtain ⟨gt, ot, ct', e, _, _⟩ := HRt.out.pos (by have := HTn.out; omega)
      obtain rfl : At = some ⟨gt, ot, none⟩ := by rw [← HTn.out] at e; cases e; rfl
      clear e
      obtain ⟨tj, htj⟩ : ∃ tj, t[j]? = some tj := ⟨_, List.getElem?_eq_getElem (by have := HTn.out; omega)⟩
      have hct := fun W (hW : Below wo.heap.size wo W) => RdK.at (RdK.below HRt.out hW (Nat.le_refl _)) htj (i := 0) (by decide) (u := .string ⟨tj.toArray⟩) rfl
      simp only [Nat.mul_one, Nat.add_zero] at hct
      have CT := Lib.hid hct
      have hdr : t.drop j = tj :: t.drop (j + 1) := by
        obtain ⟨h, rfl⟩ := List.getElem?_eq_some_iff.1 htj
        exact List.drop_eq_getElem_cons h
      have hE2 := hE.out
      rw [hdr, iput] at hE2
      have LD : Hid (Below wo.heap.size wo wr.drew) := Lib.hid hB.out.drew
      have HO : Hid (OwS wr.drew B1 (.slice A3 n3 c3) out) := Lib.hid hO.out
      have HE2 := Lib.hid hE2
      clear hdr hE2 hE hO hB hct htj
      cases d with
      | true =>
        cases heq : decide (tj = di) with
        | true =>
          have HNe := Lib.hid fun W => neq_S W tj di false (by rw [heq]; rfl)
          have HE3 : Hid (out ++ iput di true (t.drop (j + 1)) = L) := Lib.hid (by
            have h := HE2.out
            rw [if_pos (of_decide_eq_true heq)] at h
            simpa using h)
          clear HE2
          have HE2 := HE3
          clear HE3 heq
          go_wp2_with fail
          refine AnyB.start (by kernel_rfl) ?_
          refine AnyB.take 0 (.bool true) rfl (by kernel_rfl) (by kernel_rfl) (by kernel_rfl) (fun _ _ _ h => h) (by kernel_rfl) (fun W hW => by kernel_rfl) ?_
          refine AnyB.take 1 (.bool false) rfl (by kernel_rfl) (by kernel_rfl) (by kernel_rfl) (fun _ _ _ h => h) (by kernel_rfl) (fun W hW => by kernel_rfl) ?_
          refine AnyB.take 2 (.bool false) rfl (by kernel_rfl) (by kernel_rfl) (by kernel_rfl) (fun _ _ _ h => h) (by kernel_rfl) (fun W hW => by kernel_rfl) ?_
          refine AnyB.skip 3 rfl (by kernel_rfl) (by kernel_rfl) (by kernel_rfl) (fun _ _ _ h => h) (by kernel_rfl) ?_
          refine AnyB.skip 4 rfl (by kernel_rfl) (by kernel_rfl) (by kernel_rfl) (fun _ _ _ h => h) (by kernel_rfl) ?_
          refine AnyB.skip 5 rfl (by kernel_rfl) (by kernel_rfl) (by kernel_rfl) (fun _ _ _ h => h) (by kernel_rfl) ?_
          refine AnyB.skip 6 rfl (by kernel_rfl) (by kernel_rfl) (by kernel_rfl) (fun _ _ _ h => h) (by kernel_rfl) ?_
          refine AnyB.skip 7 rfl (by kernel_rfl) (by kernel_rfl) (by kernel_rfl) (fun _ _ _ h => h) (by kernel_rfl) ?_
          refine AnyB.skip 8 rfl (by kernel_rfl) (by kernel_rfl) (by kernel_rfl) (fun _ _ _ h => h) (by kernel_rfl) ?_
          refine AnyB.skip 9 rfl (by kernel_rfl) (by kernel_rfl) (by kernel_rfl) (fun _ _ _ h => h) (by kernel_rfl) ?_
          refine AnyB.skip 10 rfl (by kernel_rfl) (by kernel_rfl) (by kernel_rfl) (fun _ _ _ h => h) (by kernel_rfl) ?_
          refine AnyB.skip 11 rfl (by kernel_rfl) (by kernel_rfl) (by kernel_rfl) (fun _ _ _ h => h) (by kernel_rfl) ?_
          refine AnyB.skip 12 rfl (by kernel_rfl) (by kernel_rfl) (by kernel_rfl) (fun _ _ _ h => h) (by kernel_rfl) ?_
          refine AnyB.take 13 (.bool false) rfl (by kernel_rfl) (by kernel_rfl) (by kernel_rfl) (fun _ _ _ h => h) (by kernel_rfl) (fun W hW => by kernel_rfl) ?_
          refine AnyB.done _ (by kernel_rfl) ?_
          go_simp
          have LDd := Lib.hid LD.out.drew
          have hOd : OwS wr.drew.drew B1 (.slice A3 n3 c3) out := HO.out
          clear HO LD
          have HO := Lib.hid hOd
          have LD := LDd
          clear hOd LDd
          go_wp2_with fail
          refine AnyB.start (by kernel_rfl) ?_
          refine AnyB.take 0 (.slice (some ⟨gt, ot, none⟩) T ct) rfl (by kernel_rfl) (by kernel_rfl) (by kernel_rfl) (fun _ _ _ h => h) (by kernel_rfl) (fun W hW => by kernel_rfl) ?_
          refine AnyB.take 1 (.int .i64 (j : Int)) rfl (by kernel_rfl) (by kernel_rfl) (by kernel_rfl) (fun _ _ _ h => h) (by kernel_rfl) (fun W hW => by kernel_rfl) ?_
          refine AnyB.take 2 (.pointer (some ⟨gt, ot + j, none⟩)) rfl (by kernel_rfl) (by kernel_rfl) (by kernel_rfl) (fun _ _ _ h => h) (by kernel_rfl) (fun W hW => y_index (sv := .slice (some ⟨gt, ot, none⟩) T ct) (iv := .int .i64 (j : Int)) rfl (by kernel_rfl) (by kernel_rfl) (at_s9 W gt ot T ct j hjT)) ?_
          refine AnyB.take 3 (.string ⟨tj.toArray⟩) rfl (by kernel_rfl) (by kernel_rfl) (by kernel_rfl) (fun _ _ _ h => h) (by kernel_rfl) (fun W hW => y_load (sv := .pointer (some ⟨gt, ot + j, none⟩)) rfl (by kernel_rfl) (l_S W gt (ot + j) tj (CT.out W (LD.out.trans (hW.mono LD.out.size))))) ?_
          refine AnyB.take 4 (.slice (some ⟨g, o, none⟩) N c) rfl (by kernel_rfl) (by kernel_rfl) (by kernel_rfl) (fun _ _ _ h => h) (by kernel_rfl) (fun W hW => by kernel_rfl) ?_
          refine AnyB.take 5 (.int .i64 (k : Int)) rfl (by kernel_rfl) (by kernel_rfl) (by kernel_rfl) (fun _ _ _ h => h) (by kernel_rfl) (fun W hW => by kernel_rfl) ?_
          refine AnyB.take 6 (.pointer (some ⟨g, o + k * 2, none⟩)) rfl (by kernel_rfl) (by kernel_rfl) (by kernel_rfl) (fun _ _ _ h => h) (by kernel_rfl) (fun W hW => y_index (sv := .slice (some ⟨g, o, none⟩) N c) (iv := .int .i64 (k : Int)) rfl (by kernel_rfl) (by kernel_rfl) (at_r W g o N c k hkN)) ?_
          refine AnyB.take 7 (.pointer (some ⟨g, o + k * 2 + 1, none⟩)) rfl (by kernel_rfl) (by kernel_rfl) (by kernel_rfl) (fun _ _ _ h => h) (by kernel_rfl) (fun W hW => y_field (sv := .pointer (some ⟨g, o + k * 2, none⟩)) rfl (by kernel_rfl) (f_r1 W g (o + k * 2))) ?_
          refine AnyB.take 8 (.string ⟨di.toArray⟩) rfl (by kernel_rfl) (by kernel_rfl) (by kernel_rfl) (fun _ _ _ h => h) (by kernel_rfl) (fun W hW => y_load (sv := .pointer (some ⟨g, o + k * 2 + 1, none⟩)) rfl (by kernel_rfl) (l_S W g (o + k * 2 + 1) di (C1.out W (LD.out.trans (hW.mono LD.out.size))))) ?_
          refine AnyB.take 9 (.bool false) rfl (by kernel_rfl) (by kernel_rfl) (by kernel_rfl) (fun _ _ _ h => h) (by kernel_rfl) (fun W hW => y_bin (x := .string ⟨tj.toArray⟩) (y := .string ⟨di.toArray⟩) rfl (by kernel_rfl) (by kernel_rfl) rfl (HNe.out W)) ?_
          refine AnyB.done _ (by kernel_rfl) ?_
          go_simp
          go_wp2_with fail
          go_roundw
          case rel => exact ⟨j + 1, out, true, by omega, by go_num, rfl, HO, HE2, Lib.hid (by have := hLn.out; simp; try omega), LD⟩
          case measure => simp [intOf]; omega
        | false =>
          have HNe := Lib.hid fun W => neq_S W tj di true (by rw [heq]; rfl)
          have HE3 : Hid (out ++ [tj] ++ iput di true (t.drop (j + 1)) = L) := Lib.hid (by
            have h := HE2.out
            rw [if_neg (of_decide_eq_false heq)] at h
            simpa using h)
          clear HE2
          have HE2 := HE3
          clear HE3 heq
          go_wp2_with fail
          refine AnyB.start (by kernel_rfl) ?_
          refine AnyB.take 0 (.bool true) rfl (by kernel_rfl) (by kernel_rfl) (by kernel_rfl) (fun _ _ _ h => h) (by kernel_rfl) (fun W hW => by kernel_rfl) ?_
          refine AnyB.take 1 (.bool false) rfl (by kernel_rfl) (by kernel_rfl) (by kernel_rfl) (fun _ _ _ h => h) (by kernel_rfl) (fun W hW => by kernel_rfl) ?_
          refine AnyB.take 2 (.bool false) rfl (by kernel_rfl) (by kernel_rfl) (by kernel_rfl) (fun _ _ _ h => h) (by kernel_rfl) (fun W hW => by kernel_rfl) ?_
          refine AnyB.skip 3 rfl (by kernel_rfl) (by kernel_rfl) (by kernel_rfl) (fun _ _ _ h => h) (by kernel_rfl) ?_
          refine AnyB.skip 4 rfl (by kernel_rfl) (by kernel_rfl) (by kernel_rfl) (fun _ _ _ h => h) (by kernel_rfl) ?_
          refine AnyB.skip 5 rfl (by kernel_rfl) (by kernel_rfl) (by kernel_rfl) (fun _ _ _ h => h) (by kernel_rfl) ?_
          refine AnyB.skip 6 rfl (by kernel_rfl) (by kernel_rfl) (by kernel_rfl) (fun _ _ _ h => h) (by kernel_rfl) ?_
          refine AnyB.skip 7 rfl (by kernel_rfl) (by kernel_rfl) (by kernel_rfl) (fun _ _ _ h => h) (by kernel_rfl) ?_
          refine AnyB.skip 8 rfl (by kernel_rfl) (by kernel_rfl) (by kernel_rfl) (fun _ _ _ h => h) (by kernel_rfl) ?_
          refine AnyB.skip 9 rfl (by kernel_rfl) (by kernel_rfl) (by kernel_rfl) (fun _ _ _ h => h) (by kernel_rfl) ?_
          refine AnyB.skip 10 rfl (by kernel_rfl) (by kernel_rfl) (by kernel_rfl) (fun _ _ _ h => h) (by kernel_rfl) ?_
          refine AnyB.skip 11 rfl (by kernel_rfl) (by kernel_rfl) (by kernel_rfl) (fun _ _ _ h => h) (by kernel_rfl) ?_
          refine AnyB.skip 12 rfl (by kernel_rfl) (by kernel_rfl) (by kernel_rfl) (fun _ _ _ h => h) (by kernel_rfl) ?_
          refine AnyB.take 13 (.bool false) rfl (by kernel_rfl) (by kernel_rfl) (by kernel_rfl) (fun _ _ _ h => h) (by kernel_rfl) (fun W hW => by kernel_rfl) ?_
          refine AnyB.done _ (by kernel_rfl) ?_
          go_simp
          have LDd := Lib.hid LD.out.drew
          have hOd : OwS wr.drew.drew B1 (.slice A3 n3 c3) out := HO.out
          clear HO LD
          have HO := Lib.hid hOd
          have LD := LDd
          clear hOd LDd
          go_wp2_with fail
          refine AnyB.start (by kernel_rfl) ?_
          refine AnyB.take 0 (.slice (some ⟨gt, ot, none⟩) T ct) rfl (by kernel_rfl) (by kernel_rfl) (by kernel_rfl) (fun _ _ _ h => h) (by kernel_rfl) (fun W hW => by kernel_rfl) ?_
          refine AnyB.take 1 (.int .i64 (j : Int)) rfl (by kernel_rfl) (by kernel_rfl) (by kernel_rfl) (fun _ _ _ h => h) (by kernel_rfl) (fun W hW => by kernel_rfl) ?_
          refine AnyB.take 2 (.pointer (some ⟨gt, ot + j, none⟩)) rfl (by kernel_rfl) (by kernel_rfl) (by kernel_rfl) (fun _ _ _ h => h) (by kernel_rfl) (fun W hW => y_index (sv := .slice (some ⟨gt, ot, none⟩) T ct) (iv := .int .i64 (j : Int)) rfl (by kernel_rfl) (by kernel_rfl) (at_s9 W gt ot T ct j hjT)) ?_
          refine AnyB.take 3 (.string ⟨tj.toArray⟩) rfl (by kernel_rfl) (by kernel_rfl) (by kernel_rfl) (fun _ _ _ h => h) (by kernel_rfl) (fun W hW => y_load (sv := .pointer (some ⟨gt, ot + j, none⟩)) rfl (by kernel_rfl) (l_S W gt (ot + j) tj (CT.out W (LD.out.trans (hW.mono LD.out.size))))) ?_
          refine AnyB.take 4 (.slice (some ⟨g, o, none⟩) N c) rfl (by kernel_rfl) (by kernel_rfl) (by kernel_rfl) (fun _ _ _ h => h) (by kernel_rfl) (fun W hW => by kernel_rfl) ?_
          refine AnyB.take 5 (.int .i64 (k : Int)) rfl (by kernel_rfl) (by kernel_rfl) (by kernel_rfl) (fun _ _ _ h => h) (by kernel_rfl) (fun W hW => by kernel_rfl) ?_
          refine AnyB.take 6 (.pointer (some ⟨g, o + k * 2, none⟩)) rfl (by kernel_rfl) (by kernel_rfl) (by kernel_rfl) (fun _ _ _ h => h) (by kernel_rfl) (fun W hW => y_index (sv := .slice (some ⟨g, o, none⟩) N c) (iv := .int .i64 (k : Int)) rfl (by kernel_rfl) (by kernel_rfl) (at_r W g o N c k hkN)) ?_
          refine AnyB.take 7 (.pointer (some ⟨g, o + k * 2 + 1, none⟩)) rfl (by kernel_rfl) (by kernel_rfl) (by kernel_rfl) (fun _ _ _ h => h) (by kernel_rfl) (fun W hW => y_field (sv := .pointer (some ⟨g, o + k * 2, none⟩)) rfl (by kernel_rfl) (f_r1 W g (o + k * 2))) ?_
          refine AnyB.take 8 (.string ⟨di.toArray⟩) rfl (by kernel_rfl) (by kernel_rfl) (by kernel_rfl) (fun _ _ _ h => h) (by kernel_rfl) (fun W hW => y_load (sv := .pointer (some ⟨g, o + k * 2 + 1, none⟩)) rfl (by kernel_rfl) (l_S W g (o + k * 2 + 1) di (C1.out W (LD.out.trans (hW.mono LD.out.size))))) ?_
          refine AnyB.take 9 (.bool true) rfl (by kernel_rfl) (by kernel_rfl) (by kernel_rfl) (fun _ _ _ h => h) (by kernel_rfl) (fun W hW => y_bin (x := .string ⟨tj.toArray⟩) (y := .string ⟨di.toArray⟩) rfl (by kernel_rfl) (by kernel_rfl) rfl (HNe.out W)) ?_
          refine AnyB.done _ (by kernel_rfl) ?_
          go_simp
          have HLl : Hid (out.length < 1000000) := Lib.hid (by have := hLn.out; simp; try omega)
          have HSz : Hid (B1 ≤ wr.drew.drew.heap.size) := Lib.hid (HSZ.out _ LD.out)
          have e1 := CT.out _ LD.out
          have LQ := LD
          generalize wr.drew.drew = w6 at HO LQ HSz e1 ⊢
          go_wp2_with (refine wpList_push elStr (o := ⟨some 58, _, _, _, _, _⟩) rfl _ _ rfl B1 _ (out) tj #[.string ⟨tj.toArray⟩] rfl rfl rfl HO.out HLl.out (by decide) HSz.out ?_)
          intro v' w7 hO7 hB5 _
          have O7 := Lib.hid hO7
          have L7 := Lib.hid (LQ.out.trans (hB5.mono HB1.out))
          clear hO7 hB5
          go_wp2_with fail
          go_roundw
          case rel => exact ⟨j + 1, out ++ [tj], true, by omega, by go_num, rfl, O7, HE2, Lib.hid (by have := hLn.out; simp; try omega), L7⟩
          case measure => simp [intOf]; omega
      | false =>
        cases hlt : decide (tj < di) with
        | true =>
          cases heq : decide (tj = di) with
          | true =>
            have HGe := Lib.hid fun W => ge_str W tj di false (by rw [hlt]; rfl)
            have HNe := Lib.hid fun W => neq_S W tj di false (by rw [heq]; rfl)
            have HE3 : Hid (out ++ iput di false (t.drop (j + 1)) = L) := Lib.hid (by
              have h := HE2.out
              rw [hlt] at h
              rw [if_pos (of_decide_eq_true heq)] at h
              simpa using h)
            clear HE2
            have HE2 := HE3
            clear HE3 hlt heq
            go_wp2_with fail
            refine AnyB.start (by kernel_rfl) ?_
            refine AnyB.take 0 (.bool false) rfl (by kernel_rfl) (by kernel_rfl) (by kernel_rfl) (fun _ _ _ h => h) (by kernel_rfl) (fun W hW => by kernel_rfl) ?_
            refine AnyB.take 1 (.bool true) rfl (by kernel_rfl) (by kernel_rfl) (by kernel_rfl) (fun _ _ _ h => h) (by kernel_rfl) (fun W hW => by kernel_rfl) ?_
            refine AnyB.take 2 (.bool true) rfl (by kernel_rfl) (by kernel_rfl) (by kernel_rfl) (fun _ _ _ h => h) (by kernel_rfl) (fun W hW => by kernel_rfl) ?_
            refine AnyB.take 3 (.slice (some ⟨gt, ot, none⟩) T ct) rfl (by kernel_rfl) (by kernel_rfl) (by kernel_rfl) (fun _ _ _ h => h) (by kernel_rfl) (fun W hW => by kernel_rfl) ?_
            refine AnyB.take 4 (.int .i64 (j : Int)) rfl (by kernel_rfl) (by kernel_rfl) (by kernel_rfl) (fun _ _ _ h => h) (by kernel_rfl) (fun W hW => by kernel_rfl) ?_
            refine AnyB.take 5 (.pointer (some ⟨gt, ot + j, none⟩)) rfl (by kernel_rfl) (by kernel_rfl) (by kernel_rfl) (fun _ _ _ h => h) (by kernel_rfl) (fun W hW => y_index (sv := .slice (some ⟨gt, ot, none⟩) T ct) (iv := .int .i64 (j : Int)) rfl (by kernel_rfl) (by kernel_rfl) (at_s9 W gt ot T ct j hjT)) ?_
            refine AnyB.take 6 (.string ⟨tj.toArray⟩) rfl (by kernel_rfl) (by kernel_rfl) (by kernel_rfl) (fun _ _ _ h => h) (by kernel_rfl) (fun W hW => y_load (sv := .pointer (some ⟨gt, ot + j, none⟩)) rfl (by kernel_rfl) (l_S W gt (ot + j) tj (CT.out W (LD.out.trans (hW.mono LD.out.size))))) ?_
            refine AnyB.take 7 (.slice (some ⟨g, o, none⟩) N c) rfl (by kernel_rfl) (by kernel_rfl) (by kernel_rfl) (fun _ _ _ h => h) (by kernel_rfl) (fun W hW => by kernel_rfl) ?_
            refine AnyB.take 8 (.int .i64 (k : Int)) rfl (by kernel_rfl) (by kernel_rfl) (by kernel_rfl) (fun _ _ _ h => h) (by kernel_rfl) (fun W hW => by kernel_rfl) ?_
            refine AnyB.take 9 (.pointer (some ⟨g, o + k * 2, none⟩)) rfl (by kernel_rfl) (by kernel_rfl) (by kernel_rfl) (fun _ _ _ h => h) (by kernel_rfl) (fun W hW => y_index (sv := .slice (some ⟨g, o, none⟩) N c) (iv := .int .i64 (k : Int)) rfl (by kernel_rfl) (by kernel_rfl) (at_r W g o N c k hkN)) ?_
            refine AnyB.take 10 (.pointer (some ⟨g, o + k * 2 + 1, none⟩)) rfl (by kernel_rfl) (by kernel_rfl) (by kernel_rfl) (fun _ _ _ h => h) (by kernel_rfl) (fun W hW => y_field (sv := .pointer (some ⟨g, o + k * 2, none⟩)) rfl (by kernel_rfl) (f_r1 W g (o + k * 2))) ?_
            refine AnyB.take 11 (.string ⟨di.toArray⟩) rfl (by kernel_rfl) (by kernel_rfl) (by kernel_rfl) (fun _ _ _ h => h) (by kernel_rfl) (fun W hW => y_load (sv := .pointer (some ⟨g, o + k * 2 + 1, none⟩)) rfl (by kernel_rfl) (l_S W g (o + k * 2 + 1) di (C1.out W (LD.out.trans (hW.mono LD.out.size))))) ?_
            refine AnyB.take 12 (.bool false) rfl (by kernel_rfl) (by kernel_rfl) (by kernel_rfl) (fun _ _ _ h => h) (by kernel_rfl) (fun W hW => y_bin (x := .string ⟨tj.toArray⟩) (y := .string ⟨di.toArray⟩) rfl (by kernel_rfl) (by kernel_rfl) rfl (HGe.out W)) ?_
            refine AnyB.take 13 (.bool false) rfl (by kernel_rfl) (by kernel_rfl) (by kernel_rfl) (fun _ _ _ h => h) (by kernel_rfl) (fun W hW => by kernel_rfl) ?_
            refine AnyB.done _ (by kernel_rfl) ?_
            go_simp
            have LDd := Lib.hid LD.out.drew
            have hOd : OwS wr.drew.drew B1 (.slice A3 n3 c3) out := HO.out
            clear HO LD
            have HO := Lib.hid hOd
            have LD := LDd
            clear hOd LDd
            go_wp2_with fail
            refine AnyB.start (by kernel_rfl) ?_
            refine AnyB.take 0 (.slice (some ⟨gt, ot, none⟩) T ct) rfl (by kernel_rfl) (by kernel_rfl) (by kernel_rfl) (fun _ _ _ h => h) (by kernel_rfl) (fun W hW => by kernel_rfl) ?_
            refine AnyB.take 1 (.int .i64 (j : Int)) rfl (by kernel_rfl) (by kernel_rfl) (by kernel_rfl) (fun _ _ _ h => h) (by kernel_rfl) (fun W hW => by kernel_rfl) ?_
            refine AnyB.take 2 (.pointer (some ⟨gt, ot + j, none⟩)) rfl (by kernel_rfl) (by kernel_rfl) (by kernel_rfl) (fun _ _ _ h => h) (by kernel_rfl) (fun W hW => y_index (sv := .slice (some ⟨gt, ot, none⟩) T ct) (iv := .int .i64 (j : Int)) rfl (by kernel_rfl) (by kernel_rfl) (at_s9 W gt ot T ct j hjT)) ?_
            refine AnyB.take 3 (.string ⟨tj.toArray⟩) rfl (by kernel_rfl) (by kernel_rfl) (by kernel_rfl) (fun _ _ _ h => h) (by kernel_rfl) (fun W hW => y_load (sv := .pointer (some ⟨gt, ot + j, none⟩)) rfl (by kernel_rfl) (l_S W gt (ot + j) tj (CT.out W (LD.out.trans (hW.mono LD.out.size))))) ?_
            refine AnyB.take 4 (.slice (some ⟨g, o, none⟩) N c) rfl (by kernel_rfl) (by kernel_rfl) (by kernel_rfl) (fun _ _ _ h => h) (by kernel_rfl) (fun W hW => by kernel_rfl) ?_
            refine AnyB.take 5 (.int .i64 (k : Int)) rfl (by kernel_rfl) (by kernel_rfl) (by kernel_rfl) (fun _ _ _ h => h) (by kernel_rfl) (fun W hW => by kernel_rfl) ?_
            refine AnyB.take 6 (.pointer (some ⟨g, o + k * 2, none⟩)) rfl (by kernel_rfl) (by kernel_rfl) (by kernel_rfl) (fun _ _ _ h => h) (by kernel_rfl) (fun W hW => y_index (sv := .slice (some ⟨g, o, none⟩) N c) (iv := .int .i64 (k : Int)) rfl (by kernel_rfl) (by kernel_rfl) (at_r W g o N c k hkN)) ?_
            refine AnyB.take 7 (.pointer (some ⟨g, o + k * 2 + 1, none⟩)) rfl (by kernel_rfl) (by kernel_rfl) (by kernel_rfl) (fun _ _ _ h => h) (by kernel_rfl) (fun W hW => y_field (sv := .pointer (some ⟨g, o + k * 2, none⟩)) rfl (by kernel_rfl) (f_r1 W g (o + k * 2))) ?_
            refine AnyB.take 8 (.string ⟨di.toArray⟩) rfl (by kernel_rfl) (by kernel_rfl) (by kernel_rfl) (fun _ _ _ h => h) (by kernel_rfl) (fun W hW => y_load (sv := .pointer (some ⟨g, o + k * 2 + 1, none⟩)) rfl (by kernel_rfl) (l_S W g (o + k * 2 + 1) di (C1.out W (LD.out.trans (hW.mono LD.out.size))))) ?_
            refine AnyB.take 9 (.bool false) rfl (by kernel_rfl) (by kernel_rfl) (by kernel_rfl) (fun _ _ _ h => h) (by kernel_rfl) (fun W hW => y_bin (x := .string ⟨tj.toArray⟩) (y := .string ⟨di.toArray⟩) rfl (by kernel_rfl) (by kernel_rfl) rfl (HNe.out W)) ?_
            refine AnyB.done _ (by kernel_rfl) ?_
            go_simp
            go_wp2_with fail
            go_roundw
            case rel => exact ⟨j + 1, out, false, by omega, by go_num, rfl, HO, HE2, Lib.hid (by have := hLn.out; simp; try omega), LD⟩
            case measure => simp [intOf]; omega
          | false =>
            have HGe := Lib.hid fun W => ge_str W tj di false (by rw [hlt]; rfl)
            have HNe := Lib.hid fun W => neq_S W tj di true (by rw [heq]; rfl)
            have HE3 : Hid (out ++ [tj] ++ iput di false (t.drop (j + 1)) = L) := Lib.hid (by
              have h := HE2.out
              rw [hlt] at h
              rw [if_neg (of_decide_eq_false heq)] at h
              simpa using h)
            clear HE2
            have HE2 := HE3
            clear HE3 hlt heq
            go_wp2_with fail
            refine AnyB.start (by kernel_rfl) ?_
            refine AnyB.take 0 (.bool false) rfl (by kernel_rfl) (by kernel_rfl) (by kernel_rfl) (fun _ _ _ h => h) (by kernel_rfl) (fun W hW => by kernel_rfl) ?_
            refine AnyB.take 1 (.bool true) rfl (by kernel_rfl) (by kernel_rfl) (by kernel_rfl) (fun _ _ _ h => h) (by kernel_rfl) (fun W hW => by kernel_rfl) ?_
            refine AnyB.take 2 (.bool true) rfl (by kernel_rfl) (by kernel_rfl) (by kernel_rfl) (fun _ _ _ h => h) (by kernel_rfl) (fun W hW => by kernel_rfl) ?_
            refine AnyB.take 3 (.slice (some ⟨gt, ot, none⟩) T ct) rfl (by kernel_rfl) (by kernel_rfl) (by kernel_rfl) (fun _ _ _ h => h) (by kernel_rfl) (fun W hW => by kernel_rfl) ?_
            refine AnyB.take 4 (.int .i64 (j : Int)) rfl (by kernel_rfl) (by kernel_rfl) (by kernel_rfl) (fun _ _ _ h => h) (by kernel_rfl) (fun W hW => by kernel_rfl) ?_
            refine AnyB.take 5 (.pointer (some ⟨gt, ot + j, none⟩)) rfl (by kernel_rfl) (by kernel_rfl) (by kernel_rfl) (fun _ _ _ h => h) (by kernel_rfl) (fun W hW => y_index (sv := .slice (some ⟨gt, ot, none⟩) T ct) (iv := .int .i64 (j : Int)) rfl (by kernel_rfl) (by kernel_rfl) (at_s9 W gt ot T ct j hjT)) ?_
            refine AnyB.take 6 (.string ⟨tj.toArray⟩) rfl (by kernel_rfl) (by kernel_rfl) (by kernel_rfl) (fun _ _ _ h => h) (by kernel_rfl) (fun W hW => y_load (sv := .pointer (some ⟨gt, ot + j, none⟩)) rfl (by kernel_rfl) (l_S W gt (ot + j) tj (CT.out W (LD.out.trans (hW.mono LD.out.size))))) ?_
            refine AnyB.take 7 (.slice (some ⟨g, o, none⟩) N c) rfl (by kernel_rfl) (by kernel_rfl) (by kernel_rfl) (fun _ _ _ h => h) (by kernel_rfl) (fun W hW => by kernel_rfl) ?_
            refine AnyB.take 8 (.int .i64 (k : Int)) rfl (by kernel_rfl) (by kernel_rfl) (by kernel_rfl) (fun _ _ _ h => h) (by kernel_rfl) (fun W hW => by kernel_rfl) ?_
            refine AnyB.take 9 (.pointer (some ⟨g, o + k * 2, none⟩)) rfl (by kernel_rfl) (by kernel_rfl) (by kernel_rfl) (fun _ _ _ h => h) (by kernel_rfl) (fun W hW => y_index (sv := .slice (some ⟨g, o, none⟩) N c) (iv := .int .i64 (k : Int)) rfl (by kernel_rfl) (by kernel_rfl) (at_r W g o N c k hkN)) ?_
            refine AnyB.take 10 (.pointer (some ⟨g, o + k * 2 + 1, none⟩)) rfl (by kernel_rfl) (by kernel_rfl) (by kernel_rfl) (fun _ _ _ h => h) (by kernel_rfl) (fun W hW => y_field (sv := .pointer (some ⟨g, o + k * 2, none⟩)) rfl (by kernel_rfl) (f_r1 W g (o + k * 2))) ?_
            refine AnyB.take 11 (.string ⟨di.toArray⟩) rfl (by kernel_rfl) (by kernel_rfl) (by kernel_rfl) (fun _ _ _ h => h) (by kernel_rfl) (fun W hW => y_load (sv := .pointer (some ⟨g, o + k * 2 + 1, none⟩)) rfl (by kernel_rfl) (l_S W g (o + k * 2 + 1) di (C1.out W (LD.out.trans (hW.mono LD.out.size))))) ?_
            refine AnyB.take 12 (.bool false) rfl (by kernel_rfl) (by kernel_rfl) (by kernel_rfl) (fun _ _ _ h => h) (by kernel_rfl) (fun W hW => y_bin (x := .string ⟨tj.toArray⟩) (y := .string ⟨di.toArray⟩) rfl (by kernel_rfl) (by kernel_rfl) rfl (HGe.out W)) ?_
            refine AnyB.take 13 (.bool false) rfl (by kernel_rfl) (by kernel_rfl) (by kernel_rfl) (fun _ _ _ h => h) (by kernel_rfl) (fun W hW => by kernel_rfl) ?_
            refine AnyB.done _ (by kernel_rfl) ?_
            go_simp
            have LDd := Lib.hid LD.out.drew
            have hOd : OwS wr.drew.drew B1 (.slice A3 n3 c3) out := HO.out
            clear HO LD
            have HO := Lib.hid hOd
            have LD := LDd
            clear hOd LDd
            go_wp2_with fail
            refine AnyB.start (by kernel_rfl) ?_
            refine AnyB.take 0 (.slice (some ⟨gt, ot, none⟩) T ct) rfl (by kernel_rfl) (by kernel_rfl) (by kernel_rfl) (fun _ _ _ h => h) (by kernel_rfl) (fun W hW => by kernel_rfl) ?_
            refine AnyB.take 1 (.int .i64 (j : Int)) rfl (by kernel_rfl) (by kernel_rfl) (by kernel_rfl) (fun _ _ _ h => h) (by kernel_rfl) (fun W hW => by kernel_rfl) ?_
            refine AnyB.take 2 (.pointer (some ⟨gt, ot + j, none⟩)) rfl (by kernel_rfl) (by kernel_rfl) (by kernel_rfl) (fun _ _ _ h => h) (by kernel_rfl) (fun W hW => y_index (sv := .slice (some ⟨gt, ot, none⟩) T ct) (iv := .int .i64 (j : Int)) rfl (by kernel_rfl) (by kernel_rfl) (at_s9 W gt ot T ct j hjT)) ?_
            refine AnyB.take 3 (.string ⟨tj.toArray⟩) rfl (by kernel_rfl) (by kernel_rfl) (by kernel_rfl) (fun _ _ _ h => h) (by kernel_rfl) (fun W hW => y_load (sv := .pointer (some ⟨gt, ot + j, none⟩)) rfl (by kernel_rfl) (l_S W gt (ot + j) tj (CT.out W (LD.out.trans (hW.mono LD.out.size))))) ?_
            refine AnyB.take 4 (.slice (some ⟨g, o, none⟩) N c) rfl (by kernel_rfl) (by kernel_rfl) (by kernel_rfl) (fun _ _ _ h => h) (by kernel_rfl) (fun W hW => by kernel_rfl) ?_
            refine AnyB.take 5 (.int .i64 (k : Int)) rfl (by kernel_rfl) (by kernel_rfl) (by kernel_rfl) (fun _ _ _ h => h) (by kernel_rfl) (fun W hW => by kernel_rfl) ?_
            refine AnyB.take 6 (.pointer (some ⟨g, o + k * 2, none⟩)) rfl (by kernel_rfl) (by kernel_rfl) (by kernel_rfl) (fun _ _ _ h => h) (by kernel_rfl) (fun W hW => y_index (sv := .slice (some ⟨g, o, none⟩) N c) (iv := .int .i64 (k : Int)) rfl (by kernel_rfl) (by kernel_rfl) (at_r W g o N c k hkN)) ?_
            refine AnyB.take 7 (.pointer (some ⟨g, o + k * 2 + 1, none⟩)) rfl (by kernel_rfl) (by kernel_rfl) (by kernel_rfl) (fun _ _ _ h => h) (by kernel_rfl) (fun W hW => y_field (sv := .pointer (some ⟨g, o + k * 2, none⟩)) rfl (by kernel_rfl) (f_r1 W g (o + k * 2))) ?_
            refine AnyB.take 8 (.string ⟨di.toArray⟩) rfl (by kernel_rfl) (by kernel_rfl) (by kernel_rfl) (fun _ _ _ h => h) (by kernel_rfl) (fun W hW => y_load (sv := .pointer (some ⟨g, o + k * 2 + 1, none⟩)) rfl (by kernel_rfl) (l_S W g (o + k * 2 + 1) di (C1.out W (LD.out.trans (hW.mono LD.out.size))))) ?_
            refine AnyB.take 9 (.bool true) rfl (by kernel_rfl) (by kernel_rfl) (by kernel_rfl) (fun _ _ _ h => h) (by kernel_rfl) (fun W hW => y_bin (x := .string ⟨tj.toArray⟩) (y := .string ⟨di.toArray⟩) rfl (by kernel_rfl) (by kernel_rfl) rfl (HNe.out W)) ?_
            refine AnyB.done _ (by kernel_rfl) ?_
            go_simp
            have HLl : Hid (out.length < 1000000) := Lib.hid (by have := hLn.out; simp; try omega)
            have HSz : Hid (B1 ≤ wr.drew.drew.heap.size) := Lib.hid (HSZ.out _ LD.out)
            have e1 := CT.out _ LD.out
            have LQ := LD
            generalize wr.drew.drew = w6 at HO LQ HSz e1 ⊢
            go_wp2_with (refine wpList_push elStr (o := ⟨some 58, _, _, _, _, _⟩) rfl _ _ rfl B1 _ (out) tj #[.string ⟨tj.toArray⟩] rfl rfl rfl HO.out HLl.out (by decide) HSz.out ?_)
            intro v' w7 hO7 hB5 _
            have O7 := Lib.hid hO7
            have L7 := Lib.hid (LQ.out.trans (hB5.mono HB1.out))
            clear hO7 hB5
            go_wp2_with fail
            go_roundw
            case rel => exact ⟨j + 1, out ++ [tj], false, by omega, by go_num, rfl, O7, HE2, Lib.hid (by have := hLn.out; simp; try omega), L7⟩
            case measure => simp [intOf]; omega
        | false =>
          cases heq : decide (tj = di) with
          | true =>
            have HGe := Lib.hid fun W => ge_str W tj di true (by rw [hlt]; rfl)
            have HNe := Lib.hid fun W => neq_S W tj di false (by rw [heq]; rfl)
            have HE3 : Hid (out ++ [di] ++ iput di true (t.drop (j + 1)) = L) := Lib.hid (by
              have h := HE2.out
              rw [hlt] at h
              rw [if_pos (of_decide_eq_true heq)] at h
              simpa using h)
            clear HE2
            have HE2 := HE3
            clear HE3 hlt heq
            go_wp2_with fail
            refine AnyB.start (by kernel_rfl) ?_
            refine AnyB.take 0 (.bool false) rfl (by kernel_rfl) (by kernel_rfl) (by kernel_rfl) (fun _ _ _ h => h) (by kernel_rfl) (fun W hW => by kernel_rfl) ?_
            refine AnyB.take 1 (.bool true) rfl (by kernel_rfl) (by kernel_rfl) (by kernel_rfl) (fun _ _ _ h => h) (by kernel_rfl) (fun W hW => by kernel_rfl) ?_
            refine AnyB.take 2 (.bool true) rfl (by kernel_rfl) (by kernel_rfl) (by kernel_rfl) (fun _ _ _ h => h) (by kernel_rfl) (fun W hW => by kernel_rfl) ?_
            refine AnyB.take 3 (.slice (some ⟨gt, ot, none⟩) T ct) rfl (by kernel_rfl) (by kernel_rfl) (by kernel_rfl) (fun _ _ _ h => h) (by kernel_rfl) (fun W hW => by kernel_rfl) ?_
            refine AnyB.take 4 (.int .i64 (j : Int)) rfl (by kernel_rfl) (by kernel_rfl) (by kernel_rfl) (fun _ _ _ h => h) (by kernel_rfl) (fun W hW => by kernel_rfl) ?_
            refine AnyB.take 5 (.pointer (some ⟨gt, ot + j, none⟩)) rfl (by kernel_rfl) (by kernel_rfl) (by kernel_rfl) (fun _ _ _ h => h) (by kernel_rfl) (fun W hW => y_index (sv := .slice (some ⟨gt, ot, none⟩) T ct) (iv := .int .i64 (j : Int)) rfl (by kernel_rfl) (by kernel_rfl) (at_s9 W gt ot T ct j hjT)) ?_
            refine AnyB.take 6 (.string ⟨tj.toArray⟩) rfl (by kernel_rfl) (by kernel_rfl) (by kernel_rfl) (fun _ _ _ h => h) (by kernel_rfl) (fun W hW => y_load (sv := .pointer (some ⟨gt, ot + j, none⟩)) rfl (by kernel_rfl) (l_S W gt (ot + j) tj (CT.out W (LD.out.trans (hW.mono LD.out.size))))) ?_
            refine AnyB.take 7 (.slice (some ⟨g, o, none⟩) N c) rfl (by kernel_rfl) (by kernel_rfl) (by kernel_rfl) (fun _ _ _ h => h) (by kernel_rfl) (fun W hW => by kernel_rfl) ?_
            refine AnyB.take 8 (.int .i64 (k : Int)) rfl (by kernel_rfl) (by kernel_rfl) (by kernel_rfl) (fun _ _ _ h => h) (by kernel_rfl) (fun W hW => by kernel_rfl) ?_
            refine AnyB.take 9 (.pointer (some ⟨g, o + k * 2, none⟩)) rfl (by kernel_rfl) (by kernel_rfl) (by kernel_rfl) (fun _ _ _ h => h) (by kernel_rfl) (fun W hW => y_index (sv := .slice (some ⟨g, o, none⟩) N c) (iv := .int .i64 (k : Int)) rfl (by kernel_rfl) (by kernel_rfl) (at_r W g o N c k hkN)) ?_
            refine AnyB.take 10 (.pointer (some ⟨g, o + k * 2 + 1, none⟩)) rfl (by kernel_rfl) (by kernel_rfl) (by kernel_rfl) (fun _ _ _ h => h) (by kernel_rfl) (fun W hW => y_field (sv := .pointer (some ⟨g, o + k * 2, none⟩)) rfl (by kernel_rfl) (f_r1 W g (o + k * 2))) ?_
            refine AnyB.take 11 (.string ⟨di.toArray⟩) rfl (by kernel_rfl) (by kernel_rfl) (by kernel_rfl) (fun _ _ _ h => h) (by kernel_rfl) (fun W hW => y_load (sv := .pointer (some ⟨g, o + k * 2 + 1, none⟩)) rfl (by kernel_rfl) (l_S W g (o + k * 2 + 1) di (C1.out W (LD.out.trans (hW.mono LD.out.size))))) ?_
            refine AnyB.take 12 (.bool true) rfl (by kernel_rfl) (by kernel_rfl) (by kernel_rfl) (fun _ _ _ h => h) (by kernel_rfl) (fun W hW => y_bin (x := .string ⟨tj.toArray⟩) (y := .string ⟨di.toArray⟩) rfl (by kernel_rfl) (by kernel_rfl) rfl (HGe.out W)) ?_
            refine AnyB.take 13 (.bool true) rfl (by kernel_rfl) (by kernel_rfl) (by kernel_rfl) (fun _ _ _ h => h) (by kernel_rfl) (fun W hW => by kernel_rfl) ?_
            refine AnyB.done _ (by kernel_rfl) ?_
            go_simp
            have HLl : Hid (out.length < 1000000) := Lib.hid (by have := hLn.out; omega)
            have HSz : Hid (B1 ≤ wr.drew.heap.size) := Lib.hid (HSZ.out _ LD.out)
            have e1 := C1.out _ LD.out
            have LQ := LD
            generalize wr.drew = w4 at HO LQ HSz e1 ⊢
            go_wp2_with (refine wpList_push elStr (o := ⟨some 41, _, _, _, _, _⟩) rfl _ _ rfl B1 _ (out) di #[.string ⟨di.toArray⟩] rfl rfl rfl HO.out HLl.out (by decide) HSz.out ?_)
            intro v' w5 hO5 hB5 _
            have O5 := Lib.hid hO5
            have L5 := Lib.hid (LQ.out.trans (hB5.mono HB1.out))
            clear hO5 hB5
            clear e1 HO HLl HSz LD
            obtain ⟨A4, n4, c4, hv4, -⟩ := OwK.shape O5.out
            subst hv4
            have LD : Hid (Below wo.heap.size wo w5.drew) := Lib.hid L5.out.drew
            have hOd : OwS w5.drew B1 (.slice A4 n4 c4) (out ++ [di]) := O5.out
            have HO := Lib.hid hOd
            clear hOd O5
            go_wp2_with fail
            refine AnyB.start (by kernel_rfl) ?_
            refine AnyB.take 0 (.slice (some ⟨gt, ot, none⟩) T ct) rfl (by kernel_rfl) (by kernel_rfl) (by kernel_rfl) (fun _ _ _ h => h) (by kernel_rfl) (fun W hW => by kernel_rfl) ?_
            refine AnyB.take 1 (.int .i64 (j : Int)) rfl (by kernel_rfl) (by kernel_rfl) (by kernel_rfl) (fun _ _ _ h => h) (by kernel_rfl) (fun W hW => by kernel_rfl) ?_
            refine AnyB.take 2 (.pointer (some ⟨gt, ot + j, none⟩)) rfl (by kernel_rfl) (by kernel_rfl) (by kernel_rfl) (fun _ _ _ h => h) (by kernel_rfl) (fun W hW => y_index (sv := .slice (some ⟨gt, ot, none⟩) T ct) (iv := .int .i64 (j : Int)) rfl (by kernel_rfl) (by kernel_rfl) (at_s9 W gt ot T ct j hjT)) ?_
            refine AnyB.take 3 (.string ⟨tj.toArray⟩) rfl (by kernel_rfl) (by kernel_rfl) (by kernel_rfl) (fun _ _ _ h => h) (by kernel_rfl) (fun W hW => y_load (sv := .pointer (some ⟨gt, ot + j, none⟩)) rfl (by kernel_rfl) (l_S W gt (ot + j) tj (CT.out W (LD.out.trans (hW.mono LD.out.size))))) ?_
            refine AnyB.take 4 (.slice (some ⟨g, o, none⟩) N c) rfl (by kernel_rfl) (by kernel_rfl) (by kernel_rfl) (fun _ _ _ h => h) (by kernel_rfl) (fun W hW => by kernel_rfl) ?_
            refine AnyB.take 5 (.int .i64 (k : Int)) rfl (by kernel_rfl) (by kernel_rfl) (by kernel_rfl) (fun _ _ _ h => h) (by kernel_rfl) (fun W hW => by kernel_rfl) ?_
            refine AnyB.take 6 (.pointer (some ⟨g, o + k * 2, none⟩)) rfl (by kernel_rfl) (by kernel_rfl) (by kernel_rfl) (fun _ _ _ h => h) (by kernel_rfl) (fun W hW => y_index (sv := .slice (some ⟨g, o, none⟩) N c) (iv := .int .i64 (k : Int)) rfl (by kernel_rfl) (by kernel_rfl) (at_r W g o N c k hkN)) ?_
            refine AnyB.take 7 (.pointer (some ⟨g, o + k * 2 + 1, none⟩)) rfl (by kernel_rfl) (by kernel_rfl) (by kernel_rfl) (fun _ _ _ h => h) (by kernel_rfl) (fun W hW => y_field (sv := .pointer (some ⟨g, o + k * 2, none⟩)) rfl (by kernel_rfl) (f_r1 W g (o + k * 2))) ?_
            refine AnyB.take 8 (.string ⟨di.toArray⟩) rfl (by kernel_rfl) (by kernel_rfl) (by kernel_rfl) (fun _ _ _ h => h) (by kernel_rfl) (fun W hW => y_load (sv := .pointer (some ⟨g, o + k * 2 + 1, none⟩)) rfl (by kernel_rfl) (l_S W g (o + k * 2 + 1) di (C1.out W (LD.out.trans (hW.mono LD.out.size))))) ?_
            refine AnyB.take 9 (.bool false) rfl (by kernel_rfl) (by kernel_rfl) (by kernel_rfl) (fun _ _ _ h => h) (by kernel_rfl) (fun W hW => y_bin (x := .string ⟨tj.toArray⟩) (y := .string ⟨di.toArray⟩) rfl (by kernel_rfl) (by kernel_rfl) rfl (HNe.out W)) ?_
            refine AnyB.done _ (by kernel_rfl) ?_
            go_simp
            go_wp2_with fail
            go_roundw
            case rel => exact ⟨j + 1, (out ++ [di]), true, by omega, by go_num, rfl, HO, HE2, Lib.hid (by have := hLn.out; simp; try omega), LD⟩
            case measure => simp [intOf]; omega
          | false =>
            have HGe := Lib.hid fun W => ge_str W tj di true (by rw [hlt]; rfl)
            have HNe := Lib.hid fun W => neq_S W tj di true (by rw [heq]; rfl)
            have HE3 : Hid (out ++ [di] ++ [tj] ++ iput di true (t.drop (j + 1)) = L) := Lib.hid (by
              have h := HE2.out
              rw [hlt] at h
              rw [if_neg (of_decide_eq_false heq)] at h
              simpa using h)
            clear HE2
            have HE2 := HE3
            clear HE3 hlt heq
            go_wp2_with fail
            refine AnyB.start (by kernel_rfl) ?_
            refine AnyB.take 0 (.bool false) rfl (by kernel_rfl) (by kernel_rfl) (by kernel_rfl) (fun _ _ _ h => h) (by kernel_rfl) (fun W hW => by kernel_rfl) ?_
            refine AnyB.take 1 (.bool true) rfl (by kernel_rfl) (by kernel_rfl) (by kernel_rfl) (fun _ _ _ h => h) (by kernel_rfl) (fun W hW => by kernel_rfl) ?_
            refine AnyB.take 2 (.bool true) rfl (by kernel_rfl) (by kernel_rfl) (by kernel_rfl) (fun _ _ _ h => h) (by kernel_rfl) (fun W hW => by kernel_rfl) ?_
            refine AnyB.take 3 (.slice (some ⟨gt, ot, none⟩) T ct) rfl (by kernel_rfl) (by kernel_rfl) (by kernel_rfl) (fun _ _ _ h => h) (by kernel_rfl) (fun W hW => by kernel_rfl) ?_
            refine AnyB.take 4 (.int .i64 (j : Int)) rfl (by kernel_rfl) (by kernel_rfl) (by kernel_rfl) (fun _ _ _ h => h) (by kernel_rfl) (fun W hW => by kernel_rfl) ?_
            refine AnyB.take 5 (.pointer (some ⟨gt, ot + j, none⟩)) rfl (by kernel_rfl) (by kernel_rfl) (by kernel_rfl) (fun _ _ _ h => h) (by kernel_rfl) (fun W hW => y_index (sv := .slice (some ⟨gt, ot, none⟩) T ct) (iv := .int .i64 (j : Int)) rfl (by kernel_rfl) (by kernel_rfl) (at_s9 W gt ot T ct j hjT)) ?_
            refine AnyB.take 6 (.string ⟨tj.toArray⟩) rfl (by kernel_rfl) (by kernel_rfl) (by kernel_rfl) (fun _ _ _ h => h) (by kernel_rfl) (fun W hW => y_load (sv := .pointer (some ⟨gt, ot + j, none⟩)) rfl (by kernel_rfl) (l_S W gt (ot + j) tj (CT.out W (LD.out.trans (hW.mono LD.out.size))))) ?_
            refine AnyB.take 7 (.slice (some ⟨g, o, none⟩) N c) rfl (by kernel_rfl) (by kernel_rfl) (by kernel_rfl) (fun _ _ _ h => h) (by kernel_rfl) (fun W hW => by kernel_rfl) ?_
            refine AnyB.take 8 (.int .i64 (k : Int)) rfl (by kernel_rfl) (by kernel_rfl) (by kernel_rfl) (fun _ _ _ h => h) (by kernel_rfl) (fun W hW => by kernel_rfl) ?_
            refine AnyB.take 9 (.pointer (some ⟨g, o + k * 2, none⟩)) rfl (by kernel_rfl) (by kernel_rfl) (by kernel_rfl) (fun _ _ _ h => h) (by kernel_rfl) (fun W hW => y_index (sv := .slice (some ⟨g, o, none⟩) N c) (iv := .int .i64 (k : Int)) rfl (by kernel_rfl) (by kernel_rfl) (at_r W g o N c k hkN)) ?_
            refine AnyB.take 10 (.pointer (some ⟨g, o + k * 2 + 1, none⟩)) rfl (by kernel_rfl) (by kernel_rfl) (by kernel_rfl) (fun _ _ _ h => h) (by kernel_rfl) (fun W hW => y_field (sv := .pointer (some ⟨g, o + k * 2, none⟩)) rfl (by kernel_rfl) (f_r1 W g (o + k * 2))) ?_
            refine AnyB.take 11 (.string ⟨di.toArray⟩) rfl (by kernel_rfl) (by kernel_rfl) (by kernel_rfl) (fun _ _ _ h => h) (by kernel_rfl) (fun W hW => y_load (sv := .pointer (some ⟨g, o + k * 2 + 1, none⟩)) rfl (by kernel_rfl) (l_S W g (o + k * 2 + 1) di (C1.out W (LD.out.trans (hW.mono LD.out.size))))) ?_
            refine AnyB.take 12 (.bool true) rfl (by kernel_rfl) (by kernel_rfl) (by kernel_rfl) (fun _ _ _ h => h) (by kernel_rfl) (fun W hW => y_bin (x := .string ⟨tj.toArray⟩) (y := .string ⟨di.toArray⟩) rfl (by kernel_rfl) (by kernel_rfl) rfl (HGe.out W)) ?_
            refine AnyB.take 13 (.bool true) rfl (by kernel_rfl) (by kernel_rfl) (by kernel_rfl) (fun _ _ _ h => h) (by kernel_rfl) (fun W hW => by kernel_rfl) ?_
            refine AnyB.done _ (by kernel_rfl) ?_
            go_simp
            have HLl : Hid (out.length < 1000000) := Lib.hid (by have := hLn.out; omega)
            have HSz : Hid (B1 ≤ wr.drew.heap.size) := Lib.hid (HSZ.out _ LD.out)
            have e1 := C1.out _ LD.out
            have LQ := LD
            generalize wr.drew = w4 at HO LQ HSz e1 ⊢
            go_wp2_with (refine wpList_push elStr (o := ⟨some 41, _, _, _, _, _⟩) rfl _ _ rfl B1 _ (out) di #[.string ⟨di.toArray⟩] rfl rfl rfl HO.out HLl.out (by decide) HSz.out ?_)
            intro v' w5 hO5 hB5 _
            have O5 := Lib.hid hO5
            have L5 := Lib.hid (LQ.out.trans (hB5.mono HB1.out))
            clear hO5 hB5
            clear e1 HO HLl HSz LD
            obtain ⟨A4, n4, c4, hv4, -⟩ := OwK.shape O5.out
            subst hv4
            have LD : Hid (Below wo.heap.size wo w5.drew) := Lib.hid L5.out.drew
            have hOd : OwS w5.drew B1 (.slice A4 n4 c4) (out ++ [di]) := O5.out
            have HO := Lib.hid hOd
            clear hOd O5
            go_wp2_with fail
            refine AnyB.start (by kernel_rfl) ?_
            refine AnyB.take 0 (.slice (some ⟨gt, ot, none⟩) T ct) rfl (by kernel_rfl) (by kernel_rfl) (by kernel_rfl) (fun _ _ _ h => h) (by kernel_rfl) (fun W hW => by kernel_rfl) ?_
            refine AnyB.take 1 (.int .i64 (j : Int)) rfl (by kernel_rfl) (by kernel_rfl) (by kernel_rfl) (fun _ _ _ h => h) (by kernel_rfl) (fun W hW => by kernel_rfl) ?_
            refine AnyB.take 2 (.pointer (some ⟨gt, ot + j, none⟩)) rfl (by kernel_rfl) (by kernel_rfl) (by kernel_rfl) (fun _ _ _ h => h) (by kernel_rfl) (fun W hW => y_index (sv := .slice (some ⟨gt, ot, none⟩) T ct) (iv := .int .i64 (j : Int)) rfl (by kernel_rfl) (by kernel_rfl) (at_s9 W gt ot T ct j hjT)) ?_
            refine AnyB.take 3 (.string ⟨tj.toArray⟩) rfl (by kernel_rfl) (by kernel_rfl) (by kernel_rfl) (fun _ _ _ h => h) (by kernel_rfl) (fun W hW => y_load (sv := .pointer (some ⟨gt, ot + j, none⟩)) rfl (by kernel_rfl) (l_S W gt (ot + j) tj (CT.out W (LD.out.trans (hW.mono LD.out.size))))) ?_
            refine AnyB.take 4 (.slice (some ⟨g, o, none⟩) N c) rfl (by kernel_rfl) (by kernel_rfl) (by kernel_rfl) (fun _ _ _ h => h) (by kernel_rfl) (fun W hW => by kernel_rfl) ?_
            refine AnyB.take 5 (.int .i64 (k : Int)) rfl (by kernel_rfl) (by kernel_rfl) (by kernel_rfl) (fun _ _ _ h => h) (by kernel_rfl) (fun W hW => by kernel_rfl) ?_
            refine AnyB.take 6 (.pointer (some ⟨g, o + k * 2, none⟩)) rfl (by kernel_rfl) (by kernel_rfl) (by kernel_rfl) (fun _ _ _ h => h) (by kernel_rfl) (fun W hW => y_index (sv := .slice (some ⟨g, o, none⟩) N c) (iv := .int .i64 (k : Int)) rfl (by kernel_rfl) (by kernel_rfl) (at_r W g o N c k hkN)) ?_
            refine AnyB.take 7 (.pointer (some ⟨g, o + k * 2 + 1, none⟩)) rfl (by kernel_rfl) (by kernel_rfl) (by kernel_rfl) (fun _ _ _ h => h) (by kernel_rfl) (fun W hW => y_field (sv := .pointer (some ⟨g, o + k * 2, none⟩)) rfl (by kernel_rfl) (f_r1 W g (o + k * 2))) ?_
            refine AnyB.take 8 (.string ⟨di.toArray⟩) rfl (by kernel_rfl) (by kernel_rfl) (by kernel_rfl) (fun _ _ _ h => h) (by kernel_rfl) (fun W hW => y_load (sv := .pointer (some ⟨g, o + k * 2 + 1, none⟩)) rfl (by kernel_rfl) (l_S W g (o + k * 2 + 1) di (C1.out W (LD.out.trans (hW.mono LD.out.size))))) ?_
            refine AnyB.take 9 (.bool true) rfl (by kernel_rfl) (by kernel_rfl) (by kernel_rfl) (fun _ _ _ h => h) (by kernel_rfl) (fun W hW => y_bin (x := .string ⟨tj.toArray⟩) (y := .string ⟨di.toArray⟩) rfl (by kernel_rfl) (by kernel_rfl) rfl (HNe.out W)) ?_
            refine AnyB.done _ (by kernel_rfl) ?_
            go_simp
            have HLl : Hid ((out ++ [di]).length < 1000000) := Lib.hid (by have := hLn.out; simp; try omega)
            have HSz : Hid (B1 ≤ w5.drew.heap.size) := Lib.hid (HSZ.out _ LD.out)
            have e1 := CT.out _ LD.out
            have LQ := LD
            generalize w5.drew = w6 at HO LQ HSz e1 ⊢
            go_wp2_with (refine wpList_push elStr (o := ⟨some 58, _, _, _, _, _⟩) rfl _ _ rfl B1 _ ((out ++ [di])) tj #[.string ⟨tj.toArray⟩] rfl rfl rfl HO.out HLl.out (by decide) HSz.out ?_)
            intro v' w7 hO7 hB5 _
            have O7 := Lib.hid hO7
            have L7 := Lib.hid (LQ.out.trans (hB5.mono HB1.out))
            clear hO7 hB5
            go_wp2_with fail
            go_roundw
            case rel => exact ⟨j + 1, (out ++ [di]) ++ [tj], true, by omega, by go_num, rfl, Lib.hid (by have h := O7.out; simpa using h), HE2, Lib.hid (by have := hLn.out; simp; try omega), L7⟩
            case measure => simp [intOf]; omega

/-! RDocY -/
theorem bld_r2 (W : World) (a b : Bs) : (Instr.build 45 #[(0, .string ⟨a.toArray⟩), (1, .string ⟨b.toArray⟩)]).run Tryz.prog W = .ok (.agg #[.string ⟨a.toArray⟩, .string ⟨b.toArray⟩]) W := by kernel_rfl
theorem clash_at {out : List Ref} {u : List Upd} {k : Nat} {x : Upd} (hx : u[k]? = some x) : clashI out u k = (!(x.new == []) && out.any fun r => aboveB x.name r.name || aboveB r.name x.name) := by
  unfold clashI
  rw [List.getD_eq_getElem?_getD, hx]; rfl
theorem stale_in {l : List Ref} {u : List Upd} {k : Nat} {x : Upd} (hx : u[k]? = some x) : staleI l u k = !(findL l x.name == x.old) := by
  unfold staleI
  rw [List.getD_eq_getElem?_getD, hx]; rfl
theorem wrongV_is {u : List Upd} : (∃ k, k < u.length ∧ badI u k = true ∧ (∀ j, j < k → badI u j = false) ∧ wrongV u = (k : Int)) ∨ ((∀ j, j < u.length → badI u j = false) ∧ wrongV u = -1) := by
  rcases firstN_is (p := badI u) (n := u.length) with ⟨k, hk, hp, hj, _⟩ | ⟨h, _⟩
  · exact .inl ⟨k, hk, hp, hj, wrongV_some hk hp hj⟩
  · exact .inr ⟨h, wrongV_none h⟩
set_option maxRecDepth 100000 in
set_option maxHeartbeats 16000000 in
theorem RApply_any (l : List Ref) (lv : Value) (u : List Upd) (uv : Value) (w : World) (hv : RefsR w lv l) (hu : UpdsR w uv u) (hf : Fit l) (hfu : FitU u) (hl : l.length ≤ 100000) (hul : u.length ≤ 100000) :
    Calls Tryz.prog 14 #[lv, uv] w (ApplyP l u w) := by
  have HR := Lib.hid (RRight_any l lv w hv hf (by omega))
  obtain ⟨A2, c, rfl⟩ := hu.shape
  obtain ⟨N, hN⟩ : ∃ N, N = u.length := ⟨_, rfl⟩
  rw [← hN] at hu hul ⊢
  obtain ⟨A, cl, rfl⟩ := hv.shape
  obtain ⟨M, hM⟩ : ∃ M, M = l.length := ⟨_, rfl⟩
  rw [← hM] at hv HR hl ⊢
  have HV := Lib.hid hv; have HU := Lib.hid hu; have HF := Lib.hid hfu; have HN := Lib.hid hN; have HM := Lib.hid hM
  clear hv hu hf hfu hN hM
  by_cases hr : Right l
  case neg =>
    rw [rightB_no hr] at HR
    have HA := Lib.hid (isApply_no (l := l) (u := u) fun h => hr h.1)
    clear hr
    go_enter Tryz.func14, Tryz.ntmps14
    go_wp2_with fail
    refine HR.out.mono ?_
    rintro e w1 ⟨rfl, hb⟩
    have L1 := Lib.hid hb
    clear hb
    go_wp2_with fail
    go_ret3
    exact ⟨_, _, _, _, rfl, .inl ⟨⟨_, _, rfl⟩, rfl⟩, HA.out, L1.out⟩
  rw [rightB_yes hr] at HR
  by_cases h1 : 1 ≤ N ∧ N ≤ 16
  case neg =>
    have HA := Lib.hid (isApply_no (l := l) (u := u) fun h => h1 (by rw [HN.out]; exact h.2))
    clear hr
    by_cases h2 : N < 1
    · have i1 : (N : Int) < 1 := by omega
      clear h1 h2
      go_enter Tryz.func14, Tryz.ntmps14
      go_wp2_with fail
      refine HR.out.mono ?_
      rintro e w1 ⟨rfl, hb⟩
      have L1 := Lib.hid hb
      clear hb
      go_wp2_with fail
      go_ret3
      exact ⟨_, _, _, _, rfl, .inl ⟨⟨_, _, rfl⟩, rfl⟩, HA.out, L1.out⟩
    · have i1 : ¬ (N : Int) < 1 := by omega
      have i2 : 16 < (N : Int) := by omega
      clear h1 h2
      go_enter Tryz.func14, Tryz.ntmps14
      go_wp2_with fail
      refine HR.out.mono ?_
      rintro e w1 ⟨rfl, hb⟩
      have L1 := Lib.hid hb
      clear hb
      go_wp2_with fail
      go_ret3
      exact ⟨_, _, _, _, rfl, .inl ⟨⟨_, _, rfl⟩, rfl⟩, HA.out, L1.out⟩
  have i1 : ¬ (N : Int) < 1 := by omega
  have i2 : ¬ 16 < (N : Int) := by omega
  have HAs : Hid (Asked l u) := Lib.hid ⟨hr, by rw [← HN.out]; exact h1.1, by rw [← HN.out]; exact h1.2⟩
  have hn16 : N ≤ 16 := h1.2
  have hm64 : M ≤ 64 := by rw [HM.out]; exact hr.len
  clear hr h1
  go_enter Tryz.func14, Tryz.ntmps14
  go_wp2_with fail
  refine HR.out.mono ?_
  rintro e w1 ⟨rfl, hb⟩
  have L1 := Lib.hid hb
  have HWr := Lib.hid (Rwrong_any u _ w1 (RdK.below HU.out hb (Nat.le_refl _)) HF.out (by rw [← HN.out]; exact hul))
  clear hb HR
  go_wp2_with fail
  refine HWr.out.mono ?_
  rintro e w2 ⟨rfl, hb⟩
  have L2 := Lib.hid (L1.out.trans (hb.mono L1.out.size))
  clear hb HWr
  rcases wrongV_is (u := u) with ⟨k, hk, hp, hj, hwv⟩ | ⟨hno, hwv⟩
  · have HA := Lib.hid (isApply_err HAs.out (by rw [errL_bad hk hp hj]; exact Nat.one_ne_zero))
    rw [errL_bad hk hp hj] at HA
    rw [hwv]
    have hk0 : (0 : Int) ≤ (k : Int) := by omega
    clear hk hp hj hwv
    go_wp2_with fail
    go_ret3
    exact ⟨_, _, _, _, rfl, RdK.below HV.out L2.out (Nat.le_refl _), HA.out, L2.out⟩
  rw [hwv]
  have HNb := Lib.hid hno
  have hm1 : ¬ (0 : Int) ≤ -1 := by decide
  clear hno hwv
  go_wp2_with fail
  go_loopw [8, 9] (fun v8 v9 wr => ∃ k : Nat, k ≤ N ∧ v9 = .int .i64 k ∧ Hid (RefsR wr v8 (outL l (u.take k))) ∧ Hid (∀ j, j < k → staleI l u j = false) ∧ Hid (Below w.heap.size w wr)) (fun _ v9 _ => N - (intOf v9).toNat)
  case atStart => exact ⟨0, Nat.zero_le _, rfl, Lib.hid (RdK.below HV.out L2.out (Nat.le_refl _)), Lib.hid fun _ h => absurd h (Nat.not_lt_zero _), L2⟩
  case round =>
    obtain ⟨k, hk, rfl, hRo, hst, hB⟩ := hrel
    obtain ⟨A8, c8, hv8⟩ := hRo.out.shape
    subst hv8
    obtain ⟨n8, hn8⟩ : ∃ n8, n8 = (outL l (u.take k)).length := ⟨_, rfl⟩
    rw [← hn8] at hRo ⊢
    have hn8b : n8 ≤ 80 := by
      have := outL_len HAs.out.1.rise (u.take k)
      rw [List.length_take] at this
      have := HM.out; have := HN.out
      omega
    have HN8 := Lib.hid hn8
    clear hn8
    by_cases hkN : k < N
    case neg =>
      have hkI : ¬ (k : Int) < (N : Int) := by omega
      have hkl : u.take k = u := List.take_of_length_le (by have := HN.out; omega)
      rw [hkl] at hRo HN8
      have HSt : Hid (∀ j, j < u.length → staleI l u j = false) := Lib.hid fun j hj => hst.out j (by have := HN.out; omega)
      obtain ⟨out, hout⟩ : ∃ out, out = outL l u := ⟨_, rfl⟩
      rw [← hout] at hRo HN8
      have HOut := Lib.hid hout
      obtain ⟨wq, hwq⟩ : ∃ wq, wq = wr := ⟨_, rfl⟩
      subst hwq
      have HRo := hRo
      have LB := hB
      clear hkl hst hout hkN hB
      go_wp2_with fail
      go_loopw [10] (fun v10 wr => ∃ k : Nat, k ≤ N ∧ v10 = .int .i64 k ∧ Hid (∀ j, j < k → clashI out u j = false) ∧ Hid (Below wq.heap.size wq wr)) (fun v10 _ => N - (intOf v10).toNat)
      case atStart => exact ⟨0, Nat.zero_le _, rfl, Lib.hid fun _ h => absurd h (Nat.not_lt_zero _), Lib.hid (Below.refl _ _)⟩
      case round =>
        obtain ⟨k, hk, rfl, hno, hB⟩ := hrel
        by_cases hkN : k < N
        case neg =>
          have hkI : ¬ (k : Int) < (N : Int) := by omega
          have LZ := Lib.hid (LB.out.trans (hB.out.mono LB.out.size))
          have he := errL_end HNb.out HSt.out (fun j hj => by rw [← HOut.out]; exact hno.out j (by have := HN.out; omega))
          rw [← HOut.out, ← HN8.out] at he
          by_cases h64 : 64 < n8
          · rw [if_pos h64] at he
            have HA := Lib.hid (isApply_err HAs.out (by rw [he]; simp))
            rw [he] at HA
            have h64I : 64 < (n8 : Int) := by omega
            clear hno hB he h64 hkN
            go_wp2_with fail
            go_ret3
            exact ⟨_, _, _, _, rfl, RdK.below HV.out LZ.out (Nat.le_refl _), HA.out, LZ.out⟩
          · rw [if_neg h64] at he
            have HA := Lib.hid (isApply_ok HAs.out (by rw [he]))
            rw [← HOut.out] at HA
            have h64I : ¬ 64 < (n8 : Int) := by omega
            have HRz := Lib.hid (RdK.below HRo.out hB.out (Nat.le_refl _))
            clear hno hB he h64 hkN
            go_wp2_with fail
            go_ret3
            exact ⟨_, _, _, _, rfl, HRz.out, HA.out, LZ.out⟩
        have hkI : (k : Int) < (N : Int) := by omega
        obtain ⟨g, o, c', e, _, _⟩ := HU.out.pos (by have := HN.out; omega)
        obtain rfl : A2 = some ⟨g, o, none⟩ := by rw [← HN.out] at e; cases e; rfl
        clear e
        obtain ⟨x, hx⟩ : ∃ x, u[k]? = some x := ⟨_, List.getElem?_eq_getElem (by have := HN.out; omega)⟩
        have hcl := fun W (hW : Below w.heap.size w W) => UpdsR.cells (RdK.below HU.out hW (Nat.le_refl _)) hx

        have hca := clash_at (out := out) hx
        obtain ⟨nm, od, nw⟩ := x
        simp only at hcl hca
        unfold SV at hcl
        have C0 := Lib.hid fun W hW => (hcl W hW).1
        have C2 := Lib.hid fun W hW => (hcl W hW).2.2
        have HX := Lib.hid hx; have HCa := Lib.hid hca
        obtain ⟨wp, hwp⟩ : ∃ wp, wp = wr := ⟨_, rfl⟩
        subst hwp
        have LP := hB
        clear hcl hx hca hB
        go_wp2_with fail
        go_loopw [11] (fun v11 wr => ∃ j : Nat, j ≤ n8 ∧ v11 = .int .i64 j ∧ Hid (∀ i, i < j → ∀ y, out[i]? = some y → (!(nw == ([] : Bs)) && (aboveB nm y.name || aboveB y.name nm)) = false) ∧ Hid (Below wq.heap.size wq wr)) (fun v11 _ => n8 - (intOf v11).toNat)
        case atStart => exact ⟨0, Nat.zero_le _, rfl, Lib.hid fun _ h => absurd h (Nat.not_lt_zero _), LP⟩
        case round =>
          obtain ⟨j, hj, rfl, hab, hB⟩ := hrel
          by_cases hjN : j < n8
          case neg =>
            have hjI : ¬ (j : Int) < (n8 : Int) := by omega
            have HCn : Hid (∀ i, i < k + 1 → clashI out u i = false) := Lib.hid fun i hi => by
              rcases Nat.lt_or_ge i k with h | h
              · exact hno.out i h
              · have e : i = k := by omega
                rw [e, HCa.out]
                cases hq : (nw == ([] : Bs)) with
                | true => rfl
                | false =>
                  rw [Bool.not_false, Bool.true_and]
                  refine Bool.eq_false_iff.2 fun hh => ?_
                  obtain ⟨y, hy, h2⟩ := List.any_eq_true.1 hh
                  obtain ⟨i', hi', rfl⟩ := List.getElem_of_mem hy
                  have h3 := hab.out i' (by have := HN8.out; omega) _ (List.getElem?_eq_getElem hi')
                  rw [hq, Bool.not_false, Bool.true_and, h2] at h3
                  cases h3
            clear hab hno hjN
            go_wp2_with fail
            go_roundw
            case rel => exact ⟨k + 1, by omega, by go_num, HCn, hB⟩
            case measure => simp [intOf]; omega
          have hjI : (j : Int) < (n8 : Int) := by omega
          obtain ⟨go, oo, c7, e, _, _⟩ := HRo.out.pos (by have := HN8.out; omega)
          obtain rfl : A8 = some ⟨go, oo, none⟩ := by rw [← HN8.out] at e; cases e; rfl
          clear e
          obtain ⟨y, hy⟩ : ∃ y, out[j]? = some y := ⟨_, List.getElem?_eq_getElem (by have := HN8.out; omega)⟩
          have hcr := fun W (hW : Below wq.heap.size wq W) => (RefsR.cells (RdK.below HRo.out hW (Nat.le_refl _)) hy).1
          obtain ⟨nr, ir⟩ := y
          simp only at hcr
          unfold SV at hcr
          have CR := Lib.hid hcr
          have LR : Hid (Below wq.heap.size wq wr.drew) := Lib.hid hB.out.drew
          have LRd := LR
          have LD : Hid (Below w.heap.size w wr.drew) := Lib.hid (LB.out.trans (LR.out.mono LB.out.size))
          have HA1 := fun W => Lib.hid (Rabove_any nm nr W)
          have HA2 := fun W => Lib.hid (Rabove_any nr nm W)
          have HY := Lib.hid hy
          have hstep : (!(nw == ([] : Bs)) && (aboveB nm nr || aboveB nr nm)) = false → ∀ i, i < j + 1 → ∀ y : Ref, out[i]? = some y → (!(nw == ([] : Bs)) && (aboveB nm y.name || aboveB y.name nm)) = false := fun hq i hi z hz => by
            rcases Nat.lt_or_ge i j with h | h
            · exact hab.out i h z hz
            · have e : i = j := by omega
              rw [e, HY.out] at hz
              cases hz; exact hq
          have hbad : (!(nw == ([] : Bs)) && (aboveB nm nr || aboveB nr nm)) = true → clashI out u k = true := fun hq => by
            rw [HCa.out]
            simp only [Bool.and_eq_true] at hq ⊢
            exact ⟨hq.1, List.any_eq_true.2 ⟨_, List.mem_of_getElem? HY.out, hq.2⟩⟩
          have HStep := Lib.hid hstep; have HBad := Lib.hid hbad
          clear hcr hy hB hstep hbad hab
          cases hne : decide (nw = ([] : Bs)) with
          | true =>
            have HNe := Lib.hid fun W => neq_S W nw [] false (by rw [hne]; rfl)
            have HAn := Lib.hid (HStep.out (by rw [of_decide_eq_true hne]; rfl))
            clear hne
            go_wp2_with fail
            refine AnyB.start (by kernel_rfl) ?_
            refine AnyB.take 0 (.slice (some ⟨g, o, none⟩) N c) rfl (by kernel_rfl) (by kernel_rfl) (by kernel_rfl) (fun _ _ _ h => h) (by kernel_rfl) (fun W hW => by kernel_rfl) ?_
            refine AnyB.take 1 (.int .i64 (k : Int)) rfl (by kernel_rfl) (by kernel_rfl) (by kernel_rfl) (fun _ _ _ h => h) (by kernel_rfl) (fun W hW => by kernel_rfl) ?_
            refine AnyB.take 2 (.pointer (some ⟨g, o + k * 3, none⟩)) rfl (by kernel_rfl) (by kernel_rfl) (by kernel_rfl) (fun _ _ _ h => h) (by kernel_rfl) (fun W hW => y_index (sv := .slice (some ⟨g, o, none⟩) N c) (iv := .int .i64 (k : Int)) rfl (by kernel_rfl) (by kernel_rfl) (at_u W g o N c k hkN)) ?_
            refine AnyB.take 3 (.pointer (some ⟨g, o + k * 3 + 2, none⟩)) rfl (by kernel_rfl) (by kernel_rfl) (by kernel_rfl) (fun _ _ _ h => h) (by kernel_rfl) (fun W hW => y_field (sv := .pointer (some ⟨g, o + k * 3, none⟩)) rfl (by kernel_rfl) (f_u2 W g (o + k * 3))) ?_
            refine AnyB.take 4 (.string ⟨nw.toArray⟩) rfl (by kernel_rfl) (by kernel_rfl) (by kernel_rfl) (fun _ _ _ h => h) (by kernel_rfl) (fun W hW => y_load (sv := .pointer (some ⟨g, o + k * 3 + 2, none⟩)) rfl (by kernel_rfl) (l_S W g (o + k * 3 + 2) nw (C2.out W (LD.out.trans (hW.mono LD.out.size))))) ?_
            refine AnyB.take 5 (.bool false) rfl (by kernel_rfl) (by kernel_rfl) (by kernel_rfl) (fun _ _ _ h => h) (by kernel_rfl) (fun W hW => y_bin (x := .string ⟨nw.toArray⟩) (y := .string ⟨([] : Bs).toArray⟩) rfl (by kernel_rfl) (by kernel_rfl) rfl (HNe.out W)) ?_
            refine AnyB.take 6 (.bool false) rfl (by kernel_rfl) (by kernel_rfl) (by kernel_rfl) (fun _ _ _ h => h) (by kernel_rfl) (fun W hW => by kernel_rfl) ?_
            refine AnyB.skip 7 rfl (by kernel_rfl) (by kernel_rfl) (by kernel_rfl) (fun _ _ _ h => h) (by kernel_rfl) ?_
            refine AnyB.skip 8 rfl (by kernel_rfl) (by kernel_rfl) (by kernel_rfl) (fun _ _ _ h => h) (by kernel_rfl) ?_
            refine AnyB.skip 9 rfl (by kernel_rfl) (by kernel_rfl) (by kernel_rfl) (fun _ _ _ h => h) (by kernel_rfl) ?_
            refine AnyB.skip 10 rfl (by kernel_rfl) (by kernel_rfl) (by kernel_rfl) (fun _ _ _ h => h) (by kernel_rfl) ?_
            refine AnyB.skip 11 rfl (by kernel_rfl) (by kernel_rfl) (by kernel_rfl) (fun _ _ _ h => h) (by kernel_rfl) ?_
            refine AnyB.skip 12 rfl (by kernel_rfl) (by kernel_rfl) (by kernel_rfl) (fun _ _ _ h => h) (by kernel_rfl) ?_
            refine AnyB.skip 13 rfl (by kernel_rfl) (by kernel_rfl) (by kernel_rfl) (fun _ _ _ h => h) (by kernel_rfl) ?_
            refine AnyB.skip 14 rfl (by kernel_rfl) (by kernel_rfl) (by kernel_rfl) (fun _ _ _ h => h) (by kernel_rfl) ?_
            refine AnyB.skip 15 rfl (by kernel_rfl) (by kernel_rfl) (by kernel_rfl) (fun _ _ _ h => h) (by kernel_rfl) ?_
            refine AnyB.skip 16 rfl (by kernel_rfl) (by kernel_rfl) (by kernel_rfl) (fun _ _ _ h => h) (by kernel_rfl) ?_
            refine AnyB.skip 17 rfl (by kernel_rfl) (by kernel_rfl) (by kernel_rfl) (fun _ _ _ h => h) (by kernel_rfl) ?_
            refine AnyB.skip 18 rfl (by kernel_rfl) (by kernel_rfl) (by kernel_rfl) (fun _ _ _ h => h) (by kernel_rfl) ?_
            refine AnyB.skip 19 rfl (by kernel_rfl) (by kernel_rfl) (by kernel_rfl) (fun _ _ _ h => h) (by kernel_rfl) ?_
            refine AnyB.skip 20 rfl (by kernel_rfl) (by kernel_rfl) (by kernel_rfl) (fun _ _ _ h => h) (by kernel_rfl) ?_
            refine AnyB.skip 21 rfl (by kernel_rfl) (by kernel_rfl) (by kernel_rfl) (fun _ _ _ h => h) (by kernel_rfl) ?_
            refine AnyB.skip 22 rfl (by kernel_rfl) (by kernel_rfl) (by kernel_rfl) (fun _ _ _ h => h) (by kernel_rfl) ?_
            refine AnyB.skip 23 rfl (by kernel_rfl) (by kernel_rfl) (by kernel_rfl) (fun _ _ _ h => h) (by kernel_rfl) ?_
            refine AnyB.skip 24 rfl (by kernel_rfl) (by kernel_rfl) (by kernel_rfl) (fun _ _ _ h => h) (by kernel_rfl) ?_
            refine AnyB.skip 25 rfl (by kernel_rfl) (by kernel_rfl) (by kernel_rfl) (fun _ _ _ h => h) (by kernel_rfl) ?_
            refine AnyB.skip 26 rfl (by kernel_rfl) (by kernel_rfl) (by kernel_rfl) (fun _ _ _ h => h) (by kernel_rfl) ?_
            refine AnyB.skip 27 rfl (by kernel_rfl) (by kernel_rfl) (by kernel_rfl) (fun _ _ _ h => h) (by kernel_rfl) ?_
            refine AnyB.skip 28 rfl (by kernel_rfl) (by kernel_rfl) (by kernel_rfl) (fun _ _ _ h => h) (by kernel_rfl) ?_
            refine AnyB.skip 29 rfl (by kernel_rfl) (by kernel_rfl) (by kernel_rfl) (fun _ _ _ h => h) (by kernel_rfl) ?_
            refine AnyB.skip 30 rfl (by kernel_rfl) (by kernel_rfl) (by kernel_rfl) (fun _ _ _ h => h) (by kernel_rfl) ?_
            refine AnyB.take 31 (.bool false) rfl (by kernel_rfl) (by kernel_rfl) (by kernel_rfl) (fun _ _ _ h => h) (by kernel_rfl) (fun W hW => by kernel_rfl) ?_
            refine AnyB.done _ (by kernel_rfl) ?_
            go_simp
            go_wp2_with fail
            go_roundw
            case rel => exact ⟨j + 1, by omega, by go_num, HAn, LRd⟩
            case measure => simp [intOf]; omega

          | false =>
            have HNe := Lib.hid fun W => neq_S W nw [] true (by rw [hne]; rfl)
            have hbq : (nw == ([] : Bs)) = false := beq_eq_false_iff_ne.2 (of_decide_eq_false hne)
            rw [hbq] at HBad
            have HBq := Lib.hid hbq
            clear hbq hne
            cases h1 : aboveB nm nr with
            | true =>
              rw [h1] at HA1 HBad
              have he := errL_clash (k := k) HNb.out HSt.out (by have := HN.out; omega) (by rw [← HOut.out]; exact HBad.out rfl) (by rw [← HOut.out]; exact hno.out)
              have HA := Lib.hid (isApply_err HAs.out (by rw [he]; simp))
              rw [he] at HA
              clear he hno
              clear h1
              go_wp2_with fail
              refine AnyB.start (by kernel_rfl) ?_
              refine AnyB.take 0 (.slice (some ⟨g, o, none⟩) N c) rfl (by kernel_rfl) (by kernel_rfl) (by kernel_rfl) (fun _ _ _ h => h) (by kernel_rfl) (fun W hW => by kernel_rfl) ?_
              refine AnyB.take 1 (.int .i64 (k : Int)) rfl (by kernel_rfl) (by kernel_rfl) (by kernel_rfl) (fun _ _ _ h => h) (by kernel_rfl) (fun W hW => by kernel_rfl) ?_
              refine AnyB.take 2 (.pointer (some ⟨g, o + k * 3, none⟩)) rfl (by kernel_rfl) (by kernel_rfl) (by kernel_rfl) (fun _ _ _ h => h) (by kernel_rfl) (fun W hW => y_index (sv := .slice (some ⟨g, o, none⟩) N c) (iv := .int .i64 (k : Int)) rfl (by kernel_rfl) (by kernel_rfl) (at_u W g o N c k hkN)) ?_
              refine AnyB.take 3 (.pointer (some ⟨g, o + k * 3 + 2, none⟩)) rfl (by kernel_rfl) (by kernel_rfl) (by kernel_rfl) (fun _ _ _ h => h) (by kernel_rfl) (fun W hW => y_field (sv := .pointer (some ⟨g, o + k * 3, none⟩)) rfl (by kernel_rfl) (f_u2 W g (o + k * 3))) ?_
              refine AnyB.take 4 (.string ⟨nw.toArray⟩) rfl (by kernel_rfl) (by kernel_rfl) (by kernel_rfl) (fun _ _ _ h => h) (by kernel_rfl) (fun W hW => y_load (sv := .pointer (some ⟨g, o + k * 3 + 2, none⟩)) rfl (by kernel_rfl) (l_S W g (o + k * 3 + 2) nw (C2.out W (LD.out.trans (hW.mono LD.out.size))))) ?_
              refine AnyB.take 5 (.bool true) rfl (by kernel_rfl) (by kernel_rfl) (by kernel_rfl) (fun _ _ _ h => h) (by kernel_rfl) (fun W hW => y_bin (x := .string ⟨nw.toArray⟩) (y := .string ⟨([] : Bs).toArray⟩) rfl (by kernel_rfl) (by kernel_rfl) rfl (HNe.out W)) ?_
              refine AnyB.take 6 (.bool true) rfl (by kernel_rfl) (by kernel_rfl) (by kernel_rfl) (fun _ _ _ h => h) (by kernel_rfl) (fun W hW => by kernel_rfl) ?_
              refine AnyB.take 7 (.slice (some ⟨g, o, none⟩) N c) rfl (by kernel_rfl) (by kernel_rfl) (by kernel_rfl) (fun _ _ _ h => h) (by kernel_rfl) (fun W hW => by kernel_rfl) ?_
              refine AnyB.take 8 (.int .i64 (k : Int)) rfl (by kernel_rfl) (by kernel_rfl) (by kernel_rfl) (fun _ _ _ h => h) (by kernel_rfl) (fun W hW => by kernel_rfl) ?_
              refine AnyB.take 9 (.pointer (some ⟨g, o + k * 3, none⟩)) rfl (by kernel_rfl) (by kernel_rfl) (by kernel_rfl) (fun _ _ _ h => h) (by kernel_rfl) (fun W hW => y_index (sv := .slice (some ⟨g, o, none⟩) N c) (iv := .int .i64 (k : Int)) rfl (by kernel_rfl) (by kernel_rfl) (at_u W g o N c k hkN)) ?_
              refine AnyB.take 10 (.pointer (some ⟨g, o + k * 3, none⟩)) rfl (by kernel_rfl) (by kernel_rfl) (by kernel_rfl) (fun _ _ _ h => h) (by kernel_rfl) (fun W hW => y_field (sv := .pointer (some ⟨g, o + k * 3, none⟩)) rfl (by kernel_rfl) (f_u0 W g (o + k * 3))) ?_
              refine AnyB.take 11 (.string ⟨nm.toArray⟩) rfl (by kernel_rfl) (by kernel_rfl) (by kernel_rfl) (fun _ _ _ h => h) (by kernel_rfl) (fun W hW => y_load (sv := .pointer (some ⟨g, o + k * 3, none⟩)) rfl (by kernel_rfl) (l_S W g (o + k * 3) nm (C0.out W (LD.out.trans (hW.mono LD.out.size))))) ?_
              refine AnyB.take 12 (.slice (some ⟨go, oo, none⟩) n8 c8) rfl (by kernel_rfl) (by kernel_rfl) (by kernel_rfl) (fun _ _ _ h => h) (by kernel_rfl) (fun W hW => by kernel_rfl) ?_
              refine AnyB.take 13 (.int .i64 (j : Int)) rfl (by kernel_rfl) (by kernel_rfl) (by kernel_rfl) (fun _ _ _ h => h) (by kernel_rfl) (fun W hW => by kernel_rfl) ?_
              refine AnyB.take 14 (.pointer (some ⟨go, oo + j * 2, none⟩)) rfl (by kernel_rfl) (by kernel_rfl) (by kernel_rfl) (fun _ _ _ h => h) (by kernel_rfl) (fun W hW => y_index (sv := .slice (some ⟨go, oo, none⟩) n8 c8) (iv := .int .i64 (j : Int)) rfl (by kernel_rfl) (by kernel_rfl) (at_r W go oo n8 c8 j hjN)) ?_
              refine AnyB.take 15 (.pointer (some ⟨go, oo + j * 2, none⟩)) rfl (by kernel_rfl) (by kernel_rfl) (by kernel_rfl) (fun _ _ _ h => h) (by kernel_rfl) (fun W hW => y_field (sv := .pointer (some ⟨go, oo + j * 2, none⟩)) rfl (by kernel_rfl) (f_r0 W go (oo + j * 2))) ?_
              refine AnyB.take 16 (.string ⟨nr.toArray⟩) rfl (by kernel_rfl) (by kernel_rfl) (by kernel_rfl) (fun _ _ _ h => h) (by kernel_rfl) (fun W hW => y_load (sv := .pointer (some ⟨go, oo + j * 2, none⟩)) rfl (by kernel_rfl) (l_S W go (oo + j * 2) nr (CR.out W (LR.out.trans (hW.mono LR.out.size))))) ?_
              refine AnyB.call 17 37 #[.string ⟨nm.toArray⟩, .string ⟨nr.toArray⟩] (by kernel_rfl) rfl (by kernel_rfl) (by kernel_rfl) ?_
              refine (HA1 _).out.mono ?_
              rintro e w7 ⟨rfl, rfl⟩
              refine ⟨_, rfl, Below.refl _ _, ?_⟩
              refine AnyB.take 18 (.bool true) rfl (by kernel_rfl) (by kernel_rfl) (by kernel_rfl) (fun _ _ _ h => h) (by kernel_rfl) (fun W hW => by kernel_rfl) ?_
              refine AnyB.skip 19 rfl (by kernel_rfl) (by kernel_rfl) (by kernel_rfl) (fun _ _ _ h => h) (by kernel_rfl) ?_
              refine AnyB.skip 20 rfl (by kernel_rfl) (by kernel_rfl) (by kernel_rfl) (fun _ _ _ h => h) (by kernel_rfl) ?_
              refine AnyB.skip 21 rfl (by kernel_rfl) (by kernel_rfl) (by kernel_rfl) (fun _ _ _ h => h) (by kernel_rfl) ?_
              refine AnyB.skip 22 rfl (by kernel_rfl) (by kernel_rfl) (by kernel_rfl) (fun _ _ _ h => h) (by kernel_rfl) ?_
              refine AnyB.skip 23 rfl (by kernel_rfl) (by kernel_rfl) (by kernel_rfl) (fun _ _ _ h => h) (by kernel_rfl) ?_
              refine AnyB.skip 24 rfl (by kernel_rfl) (by kernel_rfl) (by kernel_rfl) (fun _ _ _ h => h) (by kernel_rfl) ?_
              refine AnyB.skip 25 rfl (by kernel_rfl) (by kernel_rfl) (by kernel_rfl) (fun _ _ _ h => h) (by kernel_rfl) ?_
              refine AnyB.skip 26 rfl (by kernel_rfl) (by kernel_rfl) (by kernel_rfl) (fun _ _ _ h => h) (by kernel_rfl) ?_
              refine AnyB.skip 27 rfl (by kernel_rfl) (by kernel_rfl) (by kernel_rfl) (fun _ _ _ h => h) (by kernel_rfl) ?_
              refine AnyB.skip 28 rfl (by kernel_rfl) (by kernel_rfl) (by kernel_rfl) (fun _ _ _ h => h) (by kernel_rfl) ?_
              refine AnyB.skip 29 rfl (by kernel_rfl) (by kernel_rfl) (by kernel_rfl) (fun _ _ _ h => h) (by kernel_rfl) ?_
              refine AnyB.take 30 (.bool true) rfl (by kernel_rfl) (by kernel_rfl) (by kernel_rfl) (fun _ _ _ h => h) (by kernel_rfl) (fun W hW => by kernel_rfl) ?_
              refine AnyB.take 31 (.bool true) rfl (by kernel_rfl) (by kernel_rfl) (by kernel_rfl) (fun _ _ _ h => h) (by kernel_rfl) (fun W hW => by kernel_rfl) ?_
              refine AnyB.done _ (by kernel_rfl) ?_
              go_simp
              go_wp2_with fail
              go_ret3
              exact ⟨_, _, _, _, rfl, RdK.below HV.out LD.out (Nat.le_refl _), HA.out, LD.out⟩
            | false =>
              rw [h1] at HA1 HBad
              have H1 := Lib.hid h1
              clear h1
              cases h2 : aboveB nr nm with
              | true =>
                rw [h2] at HA2 HBad
                have he := errL_clash (k := k) HNb.out HSt.out (by have := HN.out; omega) (by rw [← HOut.out]; exact HBad.out rfl) (by rw [← HOut.out]; exact hno.out)
                have HA := Lib.hid (isApply_err HAs.out (by rw [he]; simp))
                rw [he] at HA
                clear he hno
                clear h2
                go_wp2_with fail
                refine AnyB.start (by kernel_rfl) ?_
                refine AnyB.take 0 (.slice (some ⟨g, o, none⟩) N c) rfl (by kernel_rfl) (by kernel_rfl) (by kernel_rfl) (fun _ _ _ h => h) (by kernel_rfl) (fun W hW => by kernel_rfl) ?_
                refine AnyB.take 1 (.int .i64 (k : Int)) rfl (by kernel_rfl) (by kernel_rfl) (by kernel_rfl) (fun _ _ _ h => h) (by kernel_rfl) (fun W hW => by kernel_rfl) ?_
                refine AnyB.take 2 (.pointer (some ⟨g, o + k * 3, none⟩)) rfl (by kernel_rfl) (by kernel_rfl) (by kernel_rfl) (fun _ _ _ h => h) (by kernel_rfl) (fun W hW => y_index (sv := .slice (some ⟨g, o, none⟩) N c) (iv := .int .i64 (k : Int)) rfl (by kernel_rfl) (by kernel_rfl) (at_u W g o N c k hkN)) ?_
                refine AnyB.take 3 (.pointer (some ⟨g, o + k * 3 + 2, none⟩)) rfl (by kernel_rfl) (by kernel_rfl) (by kernel_rfl) (fun _ _ _ h => h) (by kernel_rfl) (fun W hW => y_field (sv := .pointer (some ⟨g, o + k * 3, none⟩)) rfl (by kernel_rfl) (f_u2 W g (o + k * 3))) ?_
                refine AnyB.take 4 (.string ⟨nw.toArray⟩) rfl (by kernel_rfl) (by kernel_rfl) (by kernel_rfl) (fun _ _ _ h => h) (by kernel_rfl) (fun W hW => y_load (sv := .pointer (some ⟨g, o + k * 3 + 2, none⟩)) rfl (by kernel_rfl) (l_S W g (o + k * 3 + 2) nw (C2.out W (LD.out.trans (hW.mono LD.out.size))))) ?_
                refine AnyB.take 5 (.bool true) rfl (by kernel_rfl) (by kernel_rfl) (by kernel_rfl) (fun _ _ _ h => h) (by kernel_rfl) (fun W hW => y_bin (x := .string ⟨nw.toArray⟩) (y := .string ⟨([] : Bs).toArray⟩) rfl (by kernel_rfl) (by kernel_rfl) rfl (HNe.out W)) ?_
                refine AnyB.take 6 (.bool true) rfl (by kernel_rfl) (by kernel_rfl) (by kernel_rfl) (fun _ _ _ h => h) (by kernel_rfl) (fun W hW => by kernel_rfl) ?_
                refine AnyB.take 7 (.slice (some ⟨g, o, none⟩) N c) rfl (by kernel_rfl) (by kernel_rfl) (by kernel_rfl) (fun _ _ _ h => h) (by kernel_rfl) (fun W hW => by kernel_rfl) ?_
                refine AnyB.take 8 (.int .i64 (k : Int)) rfl (by kernel_rfl) (by kernel_rfl) (by kernel_rfl) (fun _ _ _ h => h) (by kernel_rfl) (fun W hW => by kernel_rfl) ?_
                refine AnyB.take 9 (.pointer (some ⟨g, o + k * 3, none⟩)) rfl (by kernel_rfl) (by kernel_rfl) (by kernel_rfl) (fun _ _ _ h => h) (by kernel_rfl) (fun W hW => y_index (sv := .slice (some ⟨g, o, none⟩) N c) (iv := .int .i64 (k : Int)) rfl (by kernel_rfl) (by kernel_rfl) (at_u W g o N c k hkN)) ?_
                refine AnyB.take 10 (.pointer (some ⟨g, o + k * 3, none⟩)) rfl (by kernel_rfl) (by kernel_rfl) (by kernel_rfl) (fun _ _ _ h => h) (by kernel_rfl) (fun W hW => y_field (sv := .pointer (some ⟨g, o + k * 3, none⟩)) rfl (by kernel_rfl) (f_u0 W g (o + k * 3))) ?_
                refine AnyB.take 11 (.string ⟨nm.toArray⟩) rfl (by kernel_rfl) (by kernel_rfl) (by kernel_rfl) (fun _ _ _ h => h) (by kernel_rfl) (fun W hW => y_load (sv := .pointer (some ⟨g, o + k * 3, none⟩)) rfl (by kernel_rfl) (l_S W g (o + k * 3) nm (C0.out W (LD.out.trans (hW.mono LD.out.size))))) ?_
                refine AnyB.take 12 (.slice (some ⟨go, oo, none⟩) n8 c8) rfl (by kernel_rfl) (by kernel_rfl) (by kernel_rfl) (fun _ _ _ h => h) (by kernel_rfl) (fun W hW => by kernel_rfl) ?_
                refine AnyB.take 13 (.int .i64 (j : Int)) rfl (by kernel_rfl) (by kernel_rfl) (by kernel_rfl) (fun _ _ _ h => h) (by kernel_rfl) (fun W hW => by kernel_rfl) ?_
                refine AnyB.take 14 (.pointer (some ⟨go, oo + j * 2, none⟩)) rfl (by kernel_rfl) (by kernel_rfl) (by kernel_rfl) (fun _ _ _ h => h) (by kernel_rfl) (fun W hW => y_index (sv := .slice (some ⟨go, oo, none⟩) n8 c8) (iv := .int .i64 (j : Int)) rfl (by kernel_rfl) (by kernel_rfl) (at_r W go oo n8 c8 j hjN)) ?_
                refine AnyB.take 15 (.pointer (some ⟨go, oo + j * 2, none⟩)) rfl (by kernel_rfl) (by kernel_rfl) (by kernel_rfl) (fun _ _ _ h => h) (by kernel_rfl) (fun W hW => y_field (sv := .pointer (some ⟨go, oo + j * 2, none⟩)) rfl (by kernel_rfl) (f_r0 W go (oo + j * 2))) ?_
                refine AnyB.take 16 (.string ⟨nr.toArray⟩) rfl (by kernel_rfl) (by kernel_rfl) (by kernel_rfl) (fun _ _ _ h => h) (by kernel_rfl) (fun W hW => y_load (sv := .pointer (some ⟨go, oo + j * 2, none⟩)) rfl (by kernel_rfl) (l_S W go (oo + j * 2) nr (CR.out W (LR.out.trans (hW.mono LR.out.size))))) ?_
                refine AnyB.call 17 37 #[.string ⟨nm.toArray⟩, .string ⟨nr.toArray⟩] (by kernel_rfl) rfl (by kernel_rfl) (by kernel_rfl) ?_
                refine (HA1 _).out.mono ?_
                rintro e w7 ⟨rfl, rfl⟩
                refine ⟨_, rfl, Below.refl _ _, ?_⟩
                refine AnyB.take 18 (.bool false) rfl (by kernel_rfl) (by kernel_rfl) (by kernel_rfl) (fun _ _ _ h => h) (by kernel_rfl) (fun W hW => by kernel_rfl) ?_
                refine AnyB.take 19 (.slice (some ⟨go, oo, none⟩) n8 c8) rfl (by kernel_rfl) (by kernel_rfl) (by kernel_rfl) (fun _ _ _ h => h) (by kernel_rfl) (fun W hW => by kernel_rfl) ?_
                refine AnyB.take 20 (.int .i64 (j : Int)) rfl (by kernel_rfl) (by kernel_rfl) (by kernel_rfl) (fun _ _ _ h => h) (by kernel_rfl) (fun W hW => by kernel_rfl) ?_
                refine AnyB.take 21 (.pointer (some ⟨go, oo + j * 2, none⟩)) rfl (by kernel_rfl) (by kernel_rfl) (by kernel_rfl) (fun _ _ _ h => h) (by kernel_rfl) (fun W hW => y_index (sv := .slice (some ⟨go, oo, none⟩) n8 c8) (iv := .int .i64 (j : Int)) rfl (by kernel_rfl) (by kernel_rfl) (at_r W go oo n8 c8 j hjN)) ?_
                refine AnyB.take 22 (.pointer (some ⟨go, oo + j * 2, none⟩)) rfl (by kernel_rfl) (by kernel_rfl) (by kernel_rfl) (fun _ _ _ h => h) (by kernel_rfl) (fun W hW => y_field (sv := .pointer (some ⟨go, oo + j * 2, none⟩)) rfl (by kernel_rfl) (f_r0 W go (oo + j * 2))) ?_
                refine AnyB.take 23 (.string ⟨nr.toArray⟩) rfl (by kernel_rfl) (by kernel_rfl) (by kernel_rfl) (fun _ _ _ h => h) (by kernel_rfl) (fun W hW => y_load (sv := .pointer (some ⟨go, oo + j * 2, none⟩)) rfl (by kernel_rfl) (l_S W go (oo + j * 2) nr (CR.out W (LR.out.trans (hW.mono LR.out.size))))) ?_
                refine AnyB.take 24 (.slice (some ⟨g, o, none⟩) N c) rfl (by kernel_rfl) (by kernel_rfl) (by kernel_rfl) (fun _ _ _ h => h) (by kernel_rfl) (fun W hW => by kernel_rfl) ?_
                refine AnyB.take 25 (.int .i64 (k : Int)) rfl (by kernel_rfl) (by kernel_rfl) (by kernel_rfl) (fun _ _ _ h => h) (by kernel_rfl) (fun W hW => by kernel_rfl) ?_
                refine AnyB.take 26 (.pointer (some ⟨g, o + k * 3, none⟩)) rfl (by kernel_rfl) (by kernel_rfl) (by kernel_rfl) (fun _ _ _ h => h) (by kernel_rfl) (fun W hW => y_index (sv := .slice (some ⟨g, o, none⟩) N c) (iv := .int .i64 (k : Int)) rfl (by kernel_rfl) (by kernel_rfl) (at_u W g o N c k hkN)) ?_
                refine AnyB.take 27 (.pointer (some ⟨g, o + k * 3, none⟩)) rfl (by kernel_rfl) (by kernel_rfl) (by kernel_rfl) (fun _ _ _ h => h) (by kernel_rfl) (fun W hW => y_field (sv := .pointer (some ⟨g, o + k * 3, none⟩)) rfl (by kernel_rfl) (f_u0 W g (o + k * 3))) ?_
                refine AnyB.take 28 (.string ⟨nm.toArray⟩) rfl (by kernel_rfl) (by kernel_rfl) (by kernel_rfl) (fun _ _ _ h => h) (by kernel_rfl) (fun W hW => y_load (sv := .pointer (some ⟨g, o + k * 3, none⟩)) rfl (by kernel_rfl) (l_S W g (o + k * 3) nm (C0.out W (LD.out.trans (hW.mono LD.out.size))))) ?_
                refine AnyB.call 29 37 #[.string ⟨nr.toArray⟩, .string ⟨nm.toArray⟩] (by kernel_rfl) rfl (by kernel_rfl) (by kernel_rfl) ?_
                refine (HA2 _).out.mono ?_
                rintro e w7 ⟨rfl, rfl⟩
                refine ⟨_, rfl, Below.refl _ _, ?_⟩
                refine AnyB.take 30 (.bool true) rfl (by kernel_rfl) (by kernel_rfl) (by kernel_rfl) (fun _ _ _ h => h) (by kernel_rfl) (fun W hW => by kernel_rfl) ?_
                refine AnyB.take 31 (.bool true) rfl (by kernel_rfl) (by kernel_rfl) (by kernel_rfl) (fun _ _ _ h => h) (by kernel_rfl) (fun W hW => by kernel_rfl) ?_
                refine AnyB.done _ (by kernel_rfl) ?_
                go_simp
                go_wp2_with fail
                go_ret3
                exact ⟨_, _, _, _, rfl, RdK.below HV.out LD.out (Nat.le_refl _), HA.out, LD.out⟩
              | false =>
                rw [h2] at HA2
                have HAn := Lib.hid (HStep.out (by rw [HBq.out, H1.out, h2]; rfl))
                clear h2
                go_wp2_with fail
                refine AnyB.start (by kernel_rfl) ?_
                refine AnyB.take 0 (.slice (some ⟨g, o, none⟩) N c) rfl (by kernel_rfl) (by kernel_rfl) (by kernel_rfl) (fun _ _ _ h => h) (by kernel_rfl) (fun W hW => by kernel_rfl) ?_
                refine AnyB.take 1 (.int .i64 (k : Int)) rfl (by kernel_rfl) (by kernel_rfl) (by kernel_rfl) (fun _ _ _ h => h) (by kernel_rfl) (fun W hW => by kernel_rfl) ?_
                refine AnyB.take 2 (.pointer (some ⟨g, o + k * 3, none⟩)) rfl (by kernel_rfl) (by kernel_rfl) (by kernel_rfl) (fun _ _ _ h => h) (by kernel_rfl) (fun W hW => y_index (sv := .slice (some ⟨g, o, none⟩) N c) (iv := .int .i64 (k : Int)) rfl (by kernel_rfl) (by kernel_rfl) (at_u W g o N c k hkN)) ?_
                refine AnyB.take 3 (.pointer (some ⟨g, o + k * 3 + 2, none⟩)) rfl (by kernel_rfl) (by kernel_rfl) (by kernel_rfl) (fun _ _ _ h => h) (by kernel_rfl) (fun W hW => y_field (sv := .pointer (some ⟨g, o + k * 3, none⟩)) rfl (by kernel_rfl) (f_u2 W g (o + k * 3))) ?_
                refine AnyB.take 4 (.string ⟨nw.toArray⟩) rfl (by kernel_rfl) (by kernel_rfl) (by kernel_rfl) (fun _ _ _ h => h) (by kernel_rfl) (fun W hW => y_load (sv := .pointer (some ⟨g, o + k * 3 + 2, none⟩)) rfl (by kernel_rfl) (l_S W g (o + k * 3 + 2) nw (C2.out W (LD.out.trans (hW.mono LD.out.size))))) ?_
                refine AnyB.take 5 (.bool true) rfl (by kernel_rfl) (by kernel_rfl) (by kernel_rfl) (fun _ _ _ h => h) (by kernel_rfl) (fun W hW => y_bin (x := .string ⟨nw.toArray⟩) (y := .string ⟨([] : Bs).toArray⟩) rfl (by kernel_rfl) (by kernel_rfl) rfl (HNe.out W)) ?_
                refine AnyB.take 6 (.bool true) rfl (by kernel_rfl) (by kernel_rfl) (by kernel_rfl) (fun _ _ _ h => h) (by kernel_rfl) (fun W hW => by kernel_rfl) ?_
                refine AnyB.take 7 (.slice (some ⟨g, o, none⟩) N c) rfl (by kernel_rfl) (by kernel_rfl) (by kernel_rfl) (fun _ _ _ h => h) (by kernel_rfl) (fun W hW => by kernel_rfl) ?_
                refine AnyB.take 8 (.int .i64 (k : Int)) rfl (by kernel_rfl) (by kernel_rfl) (by kernel_rfl) (fun _ _ _ h => h) (by kernel_rfl) (fun W hW => by kernel_rfl) ?_
                refine AnyB.take 9 (.pointer (some ⟨g, o + k * 3, none⟩)) rfl (by kernel_rfl) (by kernel_rfl) (by kernel_rfl) (fun _ _ _ h => h) (by kernel_rfl) (fun W hW => y_index (sv := .slice (some ⟨g, o, none⟩) N c) (iv := .int .i64 (k : Int)) rfl (by kernel_rfl) (by kernel_rfl) (at_u W g o N c k hkN)) ?_
                refine AnyB.take 10 (.pointer (some ⟨g, o + k * 3, none⟩)) rfl (by kernel_rfl) (by kernel_rfl) (by kernel_rfl) (fun _ _ _ h => h) (by kernel_rfl) (fun W hW => y_field (sv := .pointer (some ⟨g, o + k * 3, none⟩)) rfl (by kernel_rfl) (f_u0 W g (o + k * 3))) ?_
                refine AnyB.take 11 (.string ⟨nm.toArray⟩) rfl (by kernel_rfl) (by kernel_rfl) (by kernel_rfl) (fun _ _ _ h => h) (by kernel_rfl) (fun W hW => y_load (sv := .pointer (some ⟨g, o + k * 3, none⟩)) rfl (by kernel_rfl) (l_S W g (o + k * 3) nm (C0.out W (LD.out.trans (hW.mono LD.out.size))))) ?_
                refine AnyB.take 12 (.slice (some ⟨go, oo, none⟩) n8 c8) rfl (by kernel_rfl) (by kernel_rfl) (by kernel_rfl) (fun _ _ _ h => h) (by kernel_rfl) (fun W hW => by kernel_rfl) ?_
                refine AnyB.take 13 (.int .i64 (j : Int)) rfl (by kernel_rfl) (by kernel_rfl) (by kernel_rfl) (fun _ _ _ h => h) (by kernel_rfl) (fun W hW => by kernel_rfl) ?_
                refine AnyB.take 14 (.pointer (some ⟨go, oo + j * 2, none⟩)) rfl (by kernel_rfl) (by kernel_rfl) (by kernel_rfl) (fun _ _ _ h => h) (by kernel_rfl) (fun W hW => y_index (sv := .slice (some ⟨go, oo, none⟩) n8 c8) (iv := .int .i64 (j : Int)) rfl (by kernel_rfl) (by kernel_rfl) (at_r W go oo n8 c8 j hjN)) ?_
                refine AnyB.take 15 (.pointer (some ⟨go, oo + j * 2, none⟩)) rfl (by kernel_rfl) (by kernel_rfl) (by kernel_rfl) (fun _ _ _ h => h) (by kernel_rfl) (fun W hW => y_field (sv := .pointer (some ⟨go, oo + j * 2, none⟩)) rfl (by kernel_rfl) (f_r0 W go (oo + j * 2))) ?_
                refine AnyB.take 16 (.string ⟨nr.toArray⟩) rfl (by kernel_rfl) (by kernel_rfl) (by kernel_rfl) (fun _ _ _ h => h) (by kernel_rfl) (fun W hW => y_load (sv := .pointer (some ⟨go, oo + j * 2, none⟩)) rfl (by kernel_rfl) (l_S W go (oo + j * 2) nr (CR.out W (LR.out.trans (hW.mono LR.out.size))))) ?_
                refine AnyB.call 17 37 #[.string ⟨nm.toArray⟩, .string ⟨nr.toArray⟩] (by kernel_rfl) rfl (by kernel_rfl) (by kernel_rfl) ?_
                refine (HA1 _).out.mono ?_
                rintro e w7 ⟨rfl, rfl⟩
                refine ⟨_, rfl, Below.refl _ _, ?_⟩
                refine AnyB.take 18 (.bool false) rfl (by kernel_rfl) (by kernel_rfl) (by kernel_rfl) (fun _ _ _ h => h) (by kernel_rfl) (fun W hW => by kernel_rfl) ?_
                refine AnyB.take 19 (.slice (some ⟨go, oo, none⟩) n8 c8) rfl (by kernel_rfl) (by kernel_rfl) (by kernel_rfl) (fun _ _ _ h => h) (by kernel_rfl) (fun W hW => by kernel_rfl) ?_
                refine AnyB.take 20 (.int .i64 (j : Int)) rfl (by kernel_rfl) (by kernel_rfl) (by kernel_rfl) (fun _ _ _ h => h) (by kernel_rfl) (fun W hW => by kernel_rfl) ?_
                refine AnyB.take 21 (.pointer (some ⟨go, oo + j * 2, none⟩)) rfl (by kernel_rfl) (by kernel_rfl) (by kernel_rfl) (fun _ _ _ h => h) (by kernel_rfl) (fun W hW => y_index (sv := .slice (some ⟨go, oo, none⟩) n8 c8) (iv := .int .i64 (j : Int)) rfl (by kernel_rfl) (by kernel_rfl) (at_r W go oo n8 c8 j hjN)) ?_
                refine AnyB.take 22 (.pointer (some ⟨go, oo + j * 2, none⟩)) rfl (by kernel_rfl) (by kernel_rfl) (by kernel_rfl) (fun _ _ _ h => h) (by kernel_rfl) (fun W hW => y_field (sv := .pointer (some ⟨go, oo + j * 2, none⟩)) rfl (by kernel_rfl) (f_r0 W go (oo + j * 2))) ?_
                refine AnyB.take 23 (.string ⟨nr.toArray⟩) rfl (by kernel_rfl) (by kernel_rfl) (by kernel_rfl) (fun _ _ _ h => h) (by kernel_rfl) (fun W hW => y_load (sv := .pointer (some ⟨go, oo + j * 2, none⟩)) rfl (by kernel_rfl) (l_S W go (oo + j * 2) nr (CR.out W (LR.out.trans (hW.mono LR.out.size))))) ?_
                refine AnyB.take 24 (.slice (some ⟨g, o, none⟩) N c) rfl (by kernel_rfl) (by kernel_rfl) (by kernel_rfl) (fun _ _ _ h => h) (by kernel_rfl) (fun W hW => by kernel_rfl) ?_
                refine AnyB.take 25 (.int .i64 (k : Int)) rfl (by kernel_rfl) (by kernel_rfl) (by kernel_rfl) (fun _ _ _ h => h) (by kernel_rfl) (fun W hW => by kernel_rfl) ?_
                refine AnyB.take 26 (.pointer (some ⟨g, o + k * 3, none⟩)) rfl (by kernel_rfl) (by kernel_rfl) (by kernel_rfl) (fun _ _ _ h => h) (by kernel_rfl) (fun W hW => y_index (sv := .slice (some ⟨g, o, none⟩) N c) (iv := .int .i64 (k : Int)) rfl (by kernel_rfl) (by kernel_rfl) (at_u W g o N c k hkN)) ?_
                refine AnyB.take 27 (.pointer (some ⟨g, o + k * 3, none⟩)) rfl (by kernel_rfl) (by kernel_rfl) (by kernel_rfl) (fun _ _ _ h => h) (by kernel_rfl) (fun W hW => y_field (sv := .pointer (some ⟨g, o + k * 3, none⟩)) rfl (by kernel_rfl) (f_u0 W g (o + k * 3))) ?_
                refine AnyB.take 28 (.string ⟨nm.toArray⟩) rfl (by kernel_rfl) (by kernel_rfl) (by kernel_rfl) (fun _ _ _ h => h) (by kernel_rfl) (fun W hW => y_load (sv := .pointer (some ⟨g, o + k * 3, none⟩)) rfl (by kernel_rfl) (l_S W g (o + k * 3) nm (C0.out W (LD.out.trans (hW.mono LD.out.size))))) ?_
                refine AnyB.call 29 37 #[.string ⟨nr.toArray⟩, .string ⟨nm.toArray⟩] (by kernel_rfl) rfl (by kernel_rfl) (by kernel_rfl) ?_
                refine (HA2 _).out.mono ?_
                rintro e w7 ⟨rfl, rfl⟩
                refine ⟨_, rfl, Below.refl _ _, ?_⟩
                refine AnyB.take 30 (.bool false) rfl (by kernel_rfl) (by kernel_rfl) (by kernel_rfl) (fun _ _ _ h => h) (by kernel_rfl) (fun W hW => by kernel_rfl) ?_
                refine AnyB.take 31 (.bool false) rfl (by kernel_rfl) (by kernel_rfl) (by kernel_rfl) (fun _ _ _ h => h) (by kernel_rfl) (fun W hW => by kernel_rfl) ?_
                refine AnyB.done _ (by kernel_rfl) ?_
                go_simp
                go_wp2_with fail
                go_roundw
                case rel => exact ⟨j + 1, by omega, by go_num, HAn, LRd⟩
                case measure => simp [intOf]; omega
    have hkI : (k : Int) < (N : Int) := by omega
    obtain ⟨g, o, c', e, _, _⟩ := HU.out.pos (by have := HN.out; omega)
    obtain rfl : A2 = some ⟨g, o, none⟩ := by rw [← HN.out] at e; cases e; rfl
    clear e
    obtain ⟨x, hx⟩ : ∃ x, u[k]? = some x := ⟨_, List.getElem?_eq_getElem (by have := HN.out; omega)⟩
    have hcl := fun W (hW : Below w.heap.size w W) => UpdsR.cells (RdK.below HU.out hW (Nat.le_refl _)) hx
    have hsn := outL_snoc (l := l) hx
    have hri : (outL l (u.take k)).Pairwise fun a b => a.name < b.name := rise_outL HAs.out.1.rise
    have hsl := stale_in (l := l) hx
    obtain ⟨nm, od, nw⟩ := x
    simp only at hcl hsn hsl
    unfold SV at hcl
    have C0 := Lib.hid fun W hW => (hcl W hW).1
    have C1 := Lib.hid fun W hW => (hcl W hW).2.1
    have C2 := Lib.hid fun W hW => (hcl W hW).2.2
    have LD : Hid (Below w.heap.size w wr.drew) := Lib.hid hB.out.drew
    have HRo : Hid (RefsR wr.drew (.slice A8 n8 c8) (outL l (u.take k))) := Lib.hid hRo.out
    have hfd := RFind_any l (.slice A M cl) nm wr.drew (RdK.below HV.out LD.out (Nat.le_refl _)) (by have := HM.out; omega)
    obtain ⟨fd, hfde⟩ : ∃ fd, fd = findL l nm := ⟨_, rfl⟩
    rw [← hfde] at hfd hsl
    have HFd := Lib.hid hfd
    have HSn := Lib.hid hsn; have HRi := Lib.hid hri; have HX := Lib.hid hx
    clear hcl hsn hri hfd hfde hRo hB hx
    cases hnq : decide (fd = od) with
    | false =>
      have HNe := Lib.hid fun W => neq_S W fd od true (by rw [hnq]; rfl)
      have hbq : (fd == od) = false := beq_eq_false_iff_ne.2 (of_decide_eq_false hnq)
      have hks : staleI l u k = true := by rw [hsl, hbq]; rfl
      have he := errL_stale HNb.out (by have := HN.out; omega) hks hst.out
      have HA := Lib.hid (isApply_err HAs.out (by rw [he]; simp))
      rw [he] at HA
      clear hnq hbq hks he hsl hst
      go_wp2_with fail
      refine AnyB.start (by kernel_rfl) ?_
      refine AnyB.take 0 (.slice A M cl) rfl (by kernel_rfl) (by kernel_rfl) (by kernel_rfl) (fun _ _ _ h => h) (by kernel_rfl) (fun W hW => by kernel_rfl) ?_
      refine AnyB.take 1 (.slice (some ⟨g, o, none⟩) N c) rfl (by kernel_rfl) (by kernel_rfl) (by kernel_rfl) (fun _ _ _ h => h) (by kernel_rfl) (fun W hW => by kernel_rfl) ?_
      refine AnyB.take 2 (.int .i64 (k : Int)) rfl (by kernel_rfl) (by kernel_rfl) (by kernel_rfl) (fun _ _ _ h => h) (by kernel_rfl) (fun W hW => by kernel_rfl) ?_
      refine AnyB.take 3 (.pointer (some ⟨g, o + k * 3, none⟩)) rfl (by kernel_rfl) (by kernel_rfl) (by kernel_rfl) (fun _ _ _ h => h) (by kernel_rfl) (fun W hW => y_index (sv := .slice (some ⟨g, o, none⟩) N c) (iv := .int .i64 (k : Int)) rfl (by kernel_rfl) (by kernel_rfl) (at_u W g o N c k hkN)) ?_
      refine AnyB.take 4 (.pointer (some ⟨g, o + k * 3, none⟩)) rfl (by kernel_rfl) (by kernel_rfl) (by kernel_rfl) (fun _ _ _ h => h) (by kernel_rfl) (fun W hW => y_field (sv := .pointer (some ⟨g, o + k * 3, none⟩)) rfl (by kernel_rfl) (f_u0 W g (o + k * 3))) ?_
      refine AnyB.take 5 (.string ⟨nm.toArray⟩) rfl (by kernel_rfl) (by kernel_rfl) (by kernel_rfl) (fun _ _ _ h => h) (by kernel_rfl) (fun W hW => y_load (sv := .pointer (some ⟨g, o + k * 3, none⟩)) rfl (by kernel_rfl) (l_S W g (o + k * 3) nm (C0.out W (LD.out.trans (hW.mono LD.out.size))))) ?_
      refine AnyB.take 7 (.slice (some ⟨g, o, none⟩) N c) rfl (by kernel_rfl) (by kernel_rfl) (by kernel_rfl) (fun _ _ _ h => h) (by kernel_rfl) (fun W hW => by kernel_rfl) ?_
      refine AnyB.take 8 (.int .i64 (k : Int)) rfl (by kernel_rfl) (by kernel_rfl) (by kernel_rfl) (fun _ _ _ h => h) (by kernel_rfl) (fun W hW => by kernel_rfl) ?_
      refine AnyB.take 9 (.pointer (some ⟨g, o + k * 3, none⟩)) rfl (by kernel_rfl) (by kernel_rfl) (by kernel_rfl) (fun _ _ _ h => h) (by kernel_rfl) (fun W hW => y_index (sv := .slice (some ⟨g, o, none⟩) N c) (iv := .int .i64 (k : Int)) rfl (by kernel_rfl) (by kernel_rfl) (at_u W g o N c k hkN)) ?_
      refine AnyB.take 10 (.pointer (some ⟨g, o + k * 3 + 1, none⟩)) rfl (by kernel_rfl) (by kernel_rfl) (by kernel_rfl) (fun _ _ _ h => h) (by kernel_rfl) (fun W hW => y_field (sv := .pointer (some ⟨g, o + k * 3, none⟩)) rfl (by kernel_rfl) (f_u1 W g (o + k * 3))) ?_
      refine AnyB.take 11 (.string ⟨od.toArray⟩) rfl (by kernel_rfl) (by kernel_rfl) (by kernel_rfl) (fun _ _ _ h => h) (by kernel_rfl) (fun W hW => y_load (sv := .pointer (some ⟨g, o + k * 3 + 1, none⟩)) rfl (by kernel_rfl) (l_S W g (o + k * 3 + 1) od (C1.out W (LD.out.trans (hW.mono LD.out.size))))) ?_
      refine AnyB.call 6 20 #[.slice A M cl, .string ⟨nm.toArray⟩] (by kernel_rfl) rfl (by kernel_rfl) (by kernel_rfl) ?_
      refine HFd.out.mono ?_
      rintro e w7 ⟨rfl, hb7⟩
      refine ⟨_, rfl, hb7, ?_⟩
      have L7 := Lib.hid (LD.out.trans (hb7.mono LD.out.size))
      have HRo7 := Lib.hid (RdK.below HRo.out hb7 (Nat.le_refl _))
      clear hb7 HFd HRo
      refine AnyB.take 12 (.bool true) rfl (by kernel_rfl) (by kernel_rfl) (by kernel_rfl) (fun _ _ _ h => h) (by kernel_rfl) (fun W hW => y_bin (x := .string ⟨fd.toArray⟩) (y := .string ⟨od.toArray⟩) rfl (by kernel_rfl) (by kernel_rfl) rfl (HNe.out W)) ?_
      refine AnyB.done _ (by kernel_rfl) ?_
      go_simp
      go_wp2_with fail
      go_ret3
      exact ⟨_, _, _, _, rfl, RdK.below HV.out L7.out (Nat.le_refl _), HA.out, L7.out⟩
    | true =>
      have HNe := Lib.hid fun W => neq_S W fd od false (by rw [hnq]; rfl)
      have hbq : (fd == od) = true := beq_iff_eq.2 (of_decide_eq_true hnq)
      have HSt : Hid (∀ j, j < k + 1 → staleI l u j = false) := Lib.hid fun j hj => by
        rcases Nat.lt_or_ge j k with h | h
        · exact hst.out j h
        · have e : j = k := by omega
          rw [e, hsl, hbq]; rfl
      clear hnq hbq hsl hst
      go_wp2_with fail
      refine AnyB.start (by kernel_rfl) ?_
      refine AnyB.take 0 (.slice A M cl) rfl (by kernel_rfl) (by kernel_rfl) (by kernel_rfl) (fun _ _ _ h => h) (by kernel_rfl) (fun W hW => by kernel_rfl) ?_
      refine AnyB.take 1 (.slice (some ⟨g, o, none⟩) N c) rfl (by kernel_rfl) (by kernel_rfl) (by kernel_rfl) (fun _ _ _ h => h) (by kernel_rfl) (fun W hW => by kernel_rfl) ?_
      refine AnyB.take 2 (.int .i64 (k : Int)) rfl (by kernel_rfl) (by kernel_rfl) (by kernel_rfl) (fun _ _ _ h => h) (by kernel_rfl) (fun W hW => by kernel_rfl) ?_
      refine AnyB.take 3 (.pointer (some ⟨g, o + k * 3, none⟩)) rfl (by kernel_rfl) (by kernel_rfl) (by kernel_rfl) (fun _ _ _ h => h) (by kernel_rfl) (fun W hW => y_index (sv := .slice (some ⟨g, o, none⟩) N c) (iv := .int .i64 (k : Int)) rfl (by kernel_rfl) (by kernel_rfl) (at_u W g o N c k hkN)) ?_
      refine AnyB.take 4 (.pointer (some ⟨g, o + k * 3, none⟩)) rfl (by kernel_rfl) (by kernel_rfl) (by kernel_rfl) (fun _ _ _ h => h) (by kernel_rfl) (fun W hW => y_field (sv := .pointer (some ⟨g, o + k * 3, none⟩)) rfl (by kernel_rfl) (f_u0 W g (o + k * 3))) ?_
      refine AnyB.take 5 (.string ⟨nm.toArray⟩) rfl (by kernel_rfl) (by kernel_rfl) (by kernel_rfl) (fun _ _ _ h => h) (by kernel_rfl) (fun W hW => y_load (sv := .pointer (some ⟨g, o + k * 3, none⟩)) rfl (by kernel_rfl) (l_S W g (o + k * 3) nm (C0.out W (LD.out.trans (hW.mono LD.out.size))))) ?_
      refine AnyB.take 7 (.slice (some ⟨g, o, none⟩) N c) rfl (by kernel_rfl) (by kernel_rfl) (by kernel_rfl) (fun _ _ _ h => h) (by kernel_rfl) (fun W hW => by kernel_rfl) ?_
      refine AnyB.take 8 (.int .i64 (k : Int)) rfl (by kernel_rfl) (by kernel_rfl) (by kernel_rfl) (fun _ _ _ h => h) (by kernel_rfl) (fun W hW => by kernel_rfl) ?_
      refine AnyB.take 9 (.pointer (some ⟨g, o + k * 3, none⟩)) rfl (by kernel_rfl) (by kernel_rfl) (by kernel_rfl) (fun _ _ _ h => h) (by kernel_rfl) (fun W hW => y_index (sv := .slice (some ⟨g, o, none⟩) N c) (iv := .int .i64 (k : Int)) rfl (by kernel_rfl) (by kernel_rfl) (at_u W g o N c k hkN)) ?_
      refine AnyB.take 10 (.pointer (some ⟨g, o + k * 3 + 1, none⟩)) rfl (by kernel_rfl) (by kernel_rfl) (by kernel_rfl) (fun _ _ _ h => h) (by kernel_rfl) (fun W hW => y_field (sv := .pointer (some ⟨g, o + k * 3, none⟩)) rfl (by kernel_rfl) (f_u1 W g (o + k * 3))) ?_
      refine AnyB.take 11 (.string ⟨od.toArray⟩) rfl (by kernel_rfl) (by kernel_rfl) (by kernel_rfl) (fun _ _ _ h => h) (by kernel_rfl) (fun W hW => y_load (sv := .pointer (some ⟨g, o + k * 3 + 1, none⟩)) rfl (by kernel_rfl) (l_S W g (o + k * 3 + 1) od (C1.out W (LD.out.trans (hW.mono LD.out.size))))) ?_
      refine AnyB.call 6 20 #[.slice A M cl, .string ⟨nm.toArray⟩] (by kernel_rfl) rfl (by kernel_rfl) (by kernel_rfl) ?_
      refine HFd.out.mono ?_
      rintro e w7 ⟨rfl, hb7⟩
      refine ⟨_, rfl, hb7, ?_⟩
      have L7 := Lib.hid (LD.out.trans (hb7.mono LD.out.size))
      have HRo7 := Lib.hid (RdK.below HRo.out hb7 (Nat.le_refl _))
      clear hb7 HFd HRo
      refine AnyB.take 12 (.bool false) rfl (by kernel_rfl) (by kernel_rfl) (by kernel_rfl) (fun _ _ _ h => h) (by kernel_rfl) (fun W hW => y_bin (x := .string ⟨fd.toArray⟩) (y := .string ⟨od.toArray⟩) rfl (by kernel_rfl) (by kernel_rfl) rfl (HNe.out W)) ?_
      refine AnyB.done _ (by kernel_rfl) ?_
      go_simp
      have LDd := Lib.hid L7.out.drew
      have HRd : Hid (RefsR w7.drew (.slice A8 n8 c8) (outL l (u.take k))) := Lib.hid HRo7.out
      clear LD
      have LD := LDd
      have hpu := Rput_any (outL l (u.take k)) (.slice A8 n8 c8) nm nw w7.drew HRd.out (by rw [← HN8.out]; omega) HRi.out
      rw [← HSn.out] at hpu
      have HPu := Lib.hid hpu
      clear hpu LDd HRo7 L7
      go_wp2_with fail
      refine AnyB.start (by kernel_rfl) ?_
      refine AnyB.take 0 (.slice A8 n8 c8) rfl (by kernel_rfl) (by kernel_rfl) (by kernel_rfl) (fun _ _ _ h => h) (by kernel_rfl) (fun W hW => by kernel_rfl) ?_
      refine AnyB.take 1 (.slice (some ⟨g, o, none⟩) N c) rfl (by kernel_rfl) (by kernel_rfl) (by kernel_rfl) (fun _ _ _ h => h) (by kernel_rfl) (fun W hW => by kernel_rfl) ?_
      refine AnyB.take 2 (.int .i64 (k : Int)) rfl (by kernel_rfl) (by kernel_rfl) (by kernel_rfl) (fun _ _ _ h => h) (by kernel_rfl) (fun W hW => by kernel_rfl) ?_
      refine AnyB.take 3 (.pointer (some ⟨g, o + k * 3, none⟩)) rfl (by kernel_rfl) (by kernel_rfl) (by kernel_rfl) (fun _ _ _ h => h) (by kernel_rfl) (fun W hW => y_index (sv := .slice (some ⟨g, o, none⟩) N c) (iv := .int .i64 (k : Int)) rfl (by kernel_rfl) (by kernel_rfl) (at_u W g o N c k hkN)) ?_
      refine AnyB.take 4 (.pointer (some ⟨g, o + k * 3, none⟩)) rfl (by kernel_rfl) (by kernel_rfl) (by kernel_rfl) (fun _ _ _ h => h) (by kernel_rfl) (fun W hW => y_field (sv := .pointer (some ⟨g, o + k * 3, none⟩)) rfl (by kernel_rfl) (f_u0 W g (o + k * 3))) ?_
      refine AnyB.take 5 (.string ⟨nm.toArray⟩) rfl (by kernel_rfl) (by kernel_rfl) (by kernel_rfl) (fun _ _ _ h => h) (by kernel_rfl) (fun W hW => y_load (sv := .pointer (some ⟨g, o + k * 3, none⟩)) rfl (by kernel_rfl) (l_S W g (o + k * 3) nm (C0.out W (LD.out.trans (hW.mono LD.out.size))))) ?_
      refine AnyB.take 6 (.slice (some ⟨g, o, none⟩) N c) rfl (by kernel_rfl) (by kernel_rfl) (by kernel_rfl) (fun _ _ _ h => h) (by kernel_rfl) (fun W hW => by kernel_rfl) ?_
      refine AnyB.take 7 (.int .i64 (k : Int)) rfl (by kernel_rfl) (by kernel_rfl) (by kernel_rfl) (fun _ _ _ h => h) (by kernel_rfl) (fun W hW => by kernel_rfl) ?_
      refine AnyB.take 8 (.pointer (some ⟨g, o + k * 3, none⟩)) rfl (by kernel_rfl) (by kernel_rfl) (by kernel_rfl) (fun _ _ _ h => h) (by kernel_rfl) (fun W hW => y_index (sv := .slice (some ⟨g, o, none⟩) N c) (iv := .int .i64 (k : Int)) rfl (by kernel_rfl) (by kernel_rfl) (at_u W g o N c k hkN)) ?_
      refine AnyB.take 9 (.pointer (some ⟨g, o + k * 3 + 2, none⟩)) rfl (by kernel_rfl) (by kernel_rfl) (by kernel_rfl) (fun _ _ _ h => h) (by kernel_rfl) (fun W hW => y_field (sv := .pointer (some ⟨g, o + k * 3, none⟩)) rfl (by kernel_rfl) (f_u2 W g (o + k * 3))) ?_
      refine AnyB.take 10 (.string ⟨nw.toArray⟩) rfl (by kernel_rfl) (by kernel_rfl) (by kernel_rfl) (fun _ _ _ h => h) (by kernel_rfl) (fun W hW => y_load (sv := .pointer (some ⟨g, o + k * 3 + 2, none⟩)) rfl (by kernel_rfl) (l_S W g (o + k * 3 + 2) nw (C2.out W (LD.out.trans (hW.mono LD.out.size))))) ?_
      refine AnyB.take 11 (.agg #[.string ⟨nm.toArray⟩, .string ⟨nw.toArray⟩]) rfl (by kernel_rfl) (by kernel_rfl) (by kernel_rfl) (fun _ _ _ h => h) (by kernel_rfl) (fun W hW => y_bld (ps := #[(0, .string ⟨nm.toArray⟩), (1, .string ⟨nw.toArray⟩)]) rfl (by kernel_rfl) (bld_r2 W nm nw)) ?_
      refine AnyB.call 12 36 #[.slice A8 n8 c8, .agg #[.string ⟨nm.toArray⟩, .string ⟨nw.toArray⟩]] (by kernel_rfl) rfl (by kernel_rfl) (by kernel_rfl) ?_
      refine HPu.out.mono ?_
      rintro e w9 ⟨v9, rfl, ho9, hb9⟩
      refine ⟨_, rfl, hb9, ?_⟩
      have L9 := Lib.hid (LD.out.trans (hb9.mono LD.out.size))
      have HO9 := Lib.hid (OwK.rd refC_len ho9)
      clear hb9 ho9 HPu
      refine AnyB.take 13 (v9) rfl (by kernel_rfl) (by kernel_rfl) (by kernel_rfl) (fun _ _ _ h => h) (by kernel_rfl) (fun W hW => by kernel_rfl) ?_
      refine AnyB.done _ (by kernel_rfl) ?_
      go_simp
      go_wp2_with fail
      go_roundw
      case rel => exact ⟨k + 1, hkN, by go_num, HO9, HSt, L9⟩
      case measure => simp [intOf]; omega

/-! RTell -/
theorem IsApply.len {l r : List Ref} {u : List Upd} {ec pl : Nat} (h : IsApply l u (r, ec, pl)) : r.length ≤ l.length + u.length := by
  rcases h with ⟨ha, e⟩ | ⟨_, e⟩
  · rw [applyL_err] at e
    split at e
    · injection e with e1
      rw [e1]; exact outL_len ha.1.rise u
    · injection e with e1
      rw [e1]; omega
  · injection e with e1
    rw [e1]; simp
set_option maxRecDepth 100000 in
set_option maxHeartbeats 16000000 in
theorem Tell_law (w : World) (s : Bs) (hs : s.length ≤ maxLen) (lv : Value) (l : List Ref) (hv : RefsR w lv l) (hf : Fit l) (hl : l.length ≤ lim) (uv : Value) (u : List Upd) (hu : UpdsR w uv u) (hfu : FitU u) (hul : u.length ≤ lim) :
    Calls Tryz.prog 3 #[SV s, lv, uv] w (BoolB true w) := by
  have HSm := Lib.hid hs
  unfold maxLen at hs
  obtain ⟨A, c, rfl⟩ := hv.shape
  obtain ⟨B, d, rfl⟩ := hu.shape
  obtain ⟨N, hN⟩ : ∃ N, N = u.length := ⟨_, rfl⟩
  obtain ⟨M, hM⟩ : ∃ M, M = l.length := ⟨_, rfl⟩
  rw [← hM] at hv
  rw [← hN] at hu
  rw [← hM, ← hN]
  have HH := Lib.hid (head_p w)
  have HV := Lib.hid hv; have HU := Lib.hid hu; have HF := Lib.hid hf; have HFU := Lib.hid hfu; have HN := Lib.hid hN; have HM := Lib.hid hM
  have Hl := Lib.hid hl; have Hul := Lib.hid hul
  clear hv hu hf hfu hN hM hl hul
  unfold SV
  go_enter Tryz.func3, Tryz.ntmps3
  go_wp2_with fail
  refine HH.out.mono ?_
  rintro e w1 ⟨rfl, hb⟩
  have L1 := Lib.hid hb
  have HG1 := Lib.hid (GreatR_any (RdK.below HV.out hb (Nat.le_refl _)) Hl.out)
  clear hb HH
  go_wp2_with fail
  refine HG1.out.mono ?_
  rintro e w2 ⟨g1, rfl, hb, hg1⟩
  have L2 := Lib.hid (L1.out.trans (hb.mono L1.out.size))
  clear hb HG1
  cases g1 with
  | true =>
    clear hg1
    go_wp2_with fail
    go_ret
    exact ⟨rfl, L2.out⟩
  | false =>
  have HS1 := Lib.hid (hg1 rfl)
  have HG2 := Lib.hid (GreatU_any (RdK.below HU.out L2.out (Nat.le_refl _)) Hul.out)
  clear hg1
  go_wp2_with fail
  refine HG2.out.mono ?_
  rintro e w3 ⟨g2, rfl, hb, hg2⟩
  have L3 := Lib.hid (L2.out.trans (hb.mono L2.out.size))
  clear hb HG2
  cases g2 with
  | true =>
    clear hg2
    go_wp2_with fail
    go_ret
    exact ⟨rfl, L3.out⟩
  | false =>
  have HS2 := Lib.hid (hg2 rfl)
  clear hg2
  by_cases h3 : s.length ≤ 3000
  case neg =>
    have hI : (3000 : Int) < (s.length : Int) := by omega
    clear h3
    go_wp2_with fail
    go_ret
    exact ⟨rfl, L3.out⟩
  have hI : ¬ (3000 : Int) < (s.length : Int) := by omega
  have HAp := Lib.hid (Apply_p l _ u _ w3 (RdK.below HV.out L3.out (Nat.le_refl _)) (RdK.below HU.out L3.out (Nat.le_refl _)) HF.out HFU.out (by have := HS1.out.1; omega) (by have := HS2.out.1; omega))
  go_wp2_with fail
  refine HAp.out.mono ?_
  rintro e w4 ⟨v4, r4, ec, pl, rfl, hr4, hi4, hb⟩
  obtain ⟨A4, c4, rfl⟩ := hr4.shape
  have L4 := Lib.hid (L3.out.trans (hb.mono L3.out.size))
  have HR4 := Lib.hid hr4; have HI4 := Lib.hid hi4; have HLn := Lib.hid hi4.len
  obtain ⟨n4, hn4⟩ : ∃ n4, n4 = r4.length := ⟨_, rfl⟩
  rw [← hn4] at HR4 ⊢
  have HN4 := Lib.hid hn4
  have HRp := Lib.hid (RApply_any l _ u _ w4 (RdK.below HV.out L4.out (Nat.le_refl _)) (RdK.below HU.out L4.out (Nat.le_refl _)) HF.out HFU.out (by have := HS1.out.1; omega) (by have := HS2.out.1; omega))
  clear hb hr4 hi4 HAp h3 hI hn4
  go_wp2_with fail
  refine HRp.out.mono ?_
  rintro e w5 ⟨v5, r5, ec5, pl5, rfl, hr5, hi5, hb⟩
  obtain ⟨A5, c5, rfl⟩ := hr5.shape
  have hun := HI4.out.unique hi5
  injection hun with hu1 hu2
  injection hu2 with hu2 hu3
  subst hu1 hu2 hu3
  have HR4b := Lib.hid (RdK.below HR4.out hb (Nat.le_refl _))
  have L5 := Lib.hid (L4.out.trans (hb.mono L4.out.size))
  rw [← HN4.out] at hr5 ⊢
  have HR5 := Lib.hid hr5
  have HNa := Lib.hid (Named_p s w5 HSm.out)
  have HNr := fun W => Lib.hid (RNmd_any s W HSm.out)
  obtain ⟨bn, hbn⟩ : ∃ bn, bn = nameB s := ⟨_, rfl⟩
  rw [← hbn] at HNa HNr
  unfold SV at HNa
  obtain ⟨br, hbr⟩ : ∃ br, br = rightB l := ⟨_, rfl⟩
  clear hb hr5 hi5 HRp HI4 HR4 hbn
  go_wp2_with fail
  refine HNa.out.mono ?_
  rintro e w6 ⟨rfl, hb⟩
  have L6 := Lib.hid (L5.out.trans (hb.mono L5.out.size))
  have L56 := Lib.hid hb
  clear hb HNa
  go_wp2_with fail
  refine (HNr _).out.mono ?_
  rintro e w7 ⟨rfl, rfl⟩
  have HRt := Lib.hid (Right_p l _ w6 (RdK.below HV.out L6.out (Nat.le_refl _)) HF.out (by have := HS1.out.1; omega))
  rw [← hbr] at HRt
  clear HNr
  have hq1 : (bn == bn) = true := beq_self_eq_true bn
  go_wp2_with fail
  refine HRt.out.mono ?_
  rintro e w8 ⟨rfl, hb⟩
  have L8 := Lib.hid (L6.out.trans (hb.mono L6.out.size))
  have L58 := Lib.hid (L56.out.trans (hb.mono L56.out.size))
  have HRr := Lib.hid (RRight_any l _ w8 (RdK.below HV.out L8.out (Nat.le_refl _)) HF.out (by have := HS1.out.1; omega))
  rw [← hbr] at HRr
  clear hb HRt hbr
  have hq2 : (br == br) = true := beq_self_eq_true br
  go_wp2_with fail
  refine HRr.out.mono ?_
  rintro e w9 ⟨rfl, hb⟩
  have L9 := Lib.hid (L8.out.trans (hb.mono L8.out.size))
  have L59 := Lib.hid (L58.out.trans (hb.mono L58.out.size))
  have HFp := Lib.hid (Find_p l _ s w9 (RdK.below HV.out L9.out (Nat.le_refl _)) (by have := HS1.out.1; omega))
  obtain ⟨fd, hfd⟩ : ∃ fd, fd = findL l s := ⟨_, rfl⟩
  rw [← hfd] at HFp
  clear hb HRr
  go_wp2_with fail
  refine HFp.out.mono ?_
  rintro e w10 ⟨rfl, hb⟩
  have L10 := Lib.hid (L9.out.trans (hb.mono L9.out.size))
  have L510 := Lib.hid (L59.out.trans (hb.mono L59.out.size))
  have HFr := Lib.hid (RFind_any l _ s w10 (RdK.below HV.out L10.out (Nat.le_refl _)) (by have := HS1.out.1; omega))
  rw [← hfd] at HFr
  clear hb HFp hfd
  go_wp2_with fail
  refine HFr.out.mono ?_
  rintro e w11 ⟨rfl, hb⟩
  have L11 := Lib.hid (L10.out.trans (hb.mono L10.out.size))
  have L511 := Lib.hid (L510.out.trans (hb.mono L510.out.size))
  have HTp := Lib.hid (Tips_p l _ w11 (RdK.below HV.out L11.out (Nat.le_refl _)) (by have := HS1.out.1; omega))
  clear hb HFr
  go_wp2_with fail
  refine HTp.out.mono ?_
  rintro e w12 ⟨vt, t, rfl, hrt, htt, hb⟩
  obtain ⟨At, ct, rfl⟩ := hrt.shape
  obtain ⟨T, hT⟩ : ∃ z, z = t.length := ⟨_, rfl⟩
  have L12 := Lib.hid (L11.out.trans (hb.mono L11.out.size))
  have L512 := Lib.hid (L511.out.trans (hb.mono L511.out.size))
  have HTr := Lib.hid (RTips_any l _ w12 (RdK.below HV.out L12.out (Nat.le_refl _)) (by have := HS1.out.1; omega))
  rw [← hT] at hrt ⊢
  have HT := Lib.hid hT; have HRt := Lib.hid hrt; have HTt := Lib.hid htt
  clear hb HTp hT hrt htt
  go_wp2_with fail
  refine HTr.out.mono ?_
  rintro e w13 ⟨vt', t', rfl, hrt, htt, hb⟩
  obtain rfl : t' = t := htt.unique HTt.out
  obtain ⟨At', ct', rfl⟩ := hrt.shape
  have L513 := Lib.hid (L512.out.trans (hb.mono L512.out.size))
  have L13 := Lib.hid (L12.out.trans (hb.mono L12.out.size))
  have hsm := SameTexts_any (RdK.below HRt.out hb (Nat.le_refl _)) hrt (by have := tips_len HTt.out; have := HS1.out.1; omega)
  rw [decide_eq_true rfl] at hsm
  have HSt := Lib.hid hsm
  rw [← HT.out] at HSt ⊢
  clear hb HTr hrt htt hsm
  go_wp2_with fail
  refine HSt.out.mono ?_
  rintro e w14 ⟨rfl, hb⟩
  have L14 := Lib.hid (L13.out.trans (hb.mono L13.out.size))
  have L514 := Lib.hid (L513.out.trans (hb.mono L513.out.size))
  have hsr := Same_p (RdK.below HR4b.out L514.out (Nat.le_refl _)) (RdK.below HR5.out L514.out (Nat.le_refl _)) (by have := HLn.out; have := HS1.out.1; have := HS2.out.1; omega)
  rw [decide_eq_true rfl] at hsr
  have HSr := Lib.hid hsr
  clear hb HSt hsr
  go_wp2_with fail
  refine HSr.out.mono ?_
  rintro e w15 ⟨rfl, hb⟩
  have L15 := Lib.hid (L14.out.trans (hb.mono L14.out.size))
  clear hb HSr
  go_wp2_with fail
  go_ret
  exact ⟨rfl, L15.out⟩
end Go.Proofs.YtfnepffccenebaaGreatDoor.Rf
