/-
  ObjectTrees, walked.
-/
import Derived.Test.YtdkkeaaepebafaaGreatDoorRefG
import Derived.Test.YtdkkeaaepebafaaGreatDoorOrder
namespace Go.Proofs.YtdkkeaaepebafaaGreatDoor
open Go Go.RowKit Go.Shelf

theorem getT_len (s : List UInt8) : ((getT s).getD []).length ≤ 256 := by
  cases h : getT s with
  | none => simp
  | some m => exact (getT_small h).2.1

set_option maxRecDepth 100000 in
set_option maxHeartbeats 8000000 in
theorem Trees_law (w : World) (ho : Ob w) (v : Value) (l : List Itm) (hl : l.length ≤ lim) (hr : ItmsR w v l) (s : List UInt8) :
    Calls Tryz.prog 4 #[v, SV s] w (RetBelow (.bool true) w) := by
  obtain ⟨A, ca, rfl⟩ := hr.shape
  have HG := Lib.hid (fun W (hW : Below w.heap.size w W) => GreatItems_any (hr.below hW (Nat.le_refl _)) hl)
  have HH := Lib.hid (head_any w ho)
  obtain ⟨rt, hrt⟩ : ∃ rt, rt = rightT l := ⟨_, rfl⟩
  obtain ⟨pt, hpt⟩ : ∃ pt, pt = if rightT l then putT l else [] := ⟨_, rfl⟩
  have HPT : Hid (SmallI l → ∀ W, Below w.heap.size w W → Calls Tryz.prog 19 #[.slice A l.length ca] W (RetBelow (.tuple #[.string ⟨pt.toArray⟩, .bool rt]) W)) := Lib.hid fun hs W hW => by
    have h := PutTree_any l _ W (hr.below hW (Nat.le_refl _)) (smalls_of hs) (by have := hs.1; omega) (ho.below hW).eb.er (ho.below hW).tb
    unfold putTV SV at h
    rw [hpt, hrt]; exact h
  have HPR : Hid (SmallI l → ∀ W, Below w.heap.size w W → Calls Tryz.prog 20 #[.slice A l.length ca] W (RetBelow (.tuple #[.string ⟨pt.toArray⟩, .bool rt]) W)) := Lib.hid fun hs W hW => by
    have h := RPutTree_any l _ W (hr.below hW (Nat.le_refl _)) (smalls_of hs) (by have := hs.1; omega)
    unfold putTV SV at h
    rw [hpt, hrt]; exact h
  have HGT : Hid (s.length ≤ 9000 → ∀ W, Below w.heap.size w W → Calls Tryz.prog 21 #[.string ⟨s.toArray⟩] W (GtPost (getT s) W)) := Lib.hid fun hx W hW => GetTree_any s (by omega) W (ho.below hW).eb.er (ho.below hW).tb
  have HGR : Hid (s.length ≤ 9000 → ∀ W, Calls Tryz.prog 22 #[.string ⟨s.toArray⟩] W (GtPost (getT s) W)) := Lib.hid fun hx W => RGetTree_any s (by omega) W
  have HSI : Hid (∀ W u u', ItmsR W u ((getT s).getD []) → ItmsR W u' ((getT s).getD []) → Calls Tryz.prog 23 #[u, u'] W (RetBelow (.bool true) W)) := Lib.hid fun W u u' hu hu' => by
    have h := SameItems_any hu hu' (by have := getT_len s; omega)
    rw [decide_eq_true rfl] at h; exact h
  obtain ⟨gb, hgb⟩ : ∃ gb, gb = (getT s).isSome := ⟨_, rfl⟩
  have HGB := Lib.hid hgb
  clear ho hr hl hrt hpt hgb
  unfold SV
  go_enter Tryz.func4, Tryz.ntmps4
  go_wp2_with fail
  refine HH.out.mono ?_
  rintro e w1 ⟨rfl, l1⟩
  have L1 := Lib.hid l1
  clear l1 HH
  go_wp2_with fail
  refine (HG.out _ L1.out).mono ?_
  rintro e w2 ⟨g, rfl, l2, hsm⟩
  have L2 := Lib.hid (L1.out.trans (l2.mono L1.out.size))
  clear l2
  cases g
  case true =>
    clear hsm
    go_wp2_with fail
    go_ret
    exact ⟨rfl, L2.out⟩
  have HS := Lib.hid (hsm rfl)
  clear hsm HG L1
  by_cases h9 : 9000 < s.length
  · go_wp2_with fail
    go_ret
    exact ⟨rfl, L2.out⟩
  have HGTm := Lib.hid (HGT.out (by omega)); have HGRm := Lib.hid (HGR.out (by omega))
  clear HGT HGR
  go_wp2_with fail
  refine (HPT.out HS.out _ L2.out).mono ?_
  rintro e w3 ⟨rfl, l3⟩
  have L3 := Lib.hid (L2.out.trans (l3.mono L2.out.size))
  clear l3 L2 HPT
  go_wp2_with fail
  refine (HPR.out HS.out _ L3.out).mono ?_
  rintro e w4 ⟨rfl, l4⟩
  have L4 := Lib.hid (L3.out.trans (l4.mono L3.out.size))
  clear l4 L3 HPR
  go_wp2_with fail
  refine (HGTm.out _ L4.out).mono ?_
  rintro e w5 ⟨⟨u, m, he, hr5, hm⟩, l5⟩
  rw [hm] at hr5
  rw [← HGB.out] at he
  obtain ⟨A5, c5, rfl⟩ := hr5.shape
  have HR5 := Lib.hid hr5
  have L5 := Lib.hid (L4.out.trans (l5.mono L4.out.size))
  subst he
  clear hr5 hm l5 HGTm L4
  go_wp2_with fail
  refine (HGRm.out _).mono ?_
  rintro e w6 ⟨⟨u, m, he, hr6, hm⟩, l6⟩
  rw [hm] at hr6
  rw [← HGB.out] at he
  obtain ⟨A6, c6, rfl⟩ := hr6.shape
  have HR6 := Lib.hid hr6
  have HR5b := Lib.hid (HR5.out.below l6 (Nat.le_refl _))
  have L6 := Lib.hid (L5.out.trans (l6.mono L5.out.size))
  subst he
  clear hr6 hm l6 HGRm L5 HR5
  cases rt
  all_goals
    cases gb
    all_goals
      go_wp2_with fail
      refine (HSI.out _ _ _ HR5b.out HR6.out).mono ?_
      rintro e w7 ⟨rfl, l7⟩
      have L7 := Lib.hid (L6.out.trans (l7.mono L6.out.size))
      clear l7
      go_wp2_with fail
      go_ret
      exact ⟨rfl, L7.out⟩
end Go.Proofs.YtdkkeaaepebafaaGreatDoor
