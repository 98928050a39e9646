/-
  NumCut, walked.
-/
import Derived.Test.YtfafndehkhgmjaaDoorApart
namespace Go.Proofs.YtfafndehkhgmjaaDoor
open Go Go.RowKit

set_option maxRecDepth 100000 in
set_option maxHeartbeats 4000000 in
theorem Cut_law (w : World) (hp : Pr w) (x : Int) (hx : -9223372036854775808 ≤ x ∧ x ≤ 9223372036854775807) (k : UInt8) (v : Value) (l : List UInt8) (hl : l.length ≤ maxLen) (hr : Rb w v l) :
    Calls Tryd.prog 6 #[.int .i64 x, .int .u8 (k.toNat : Int), v] w fun e w' => e = .returned (.bool true) ∧ Below w.heap.size w w' := by
  unfold maxLen at hl
  obtain ⟨A, ca, rfl, _⟩ := hr.shape
  have HH := Lib.hid (head_any w hp)
  have Hr := Lib.hid hr
  clear hp hr
  cases hf : fitsB x with
  | false =>
    have HP := Lib.hid (Put_none x hf)
    have hx2 : x < 0 ∨ (¬ x < 0 ∧ 1099511627776 < x) := by
      by_cases h : x < 0
      · exact .inl h
      · refine .inr ⟨h, Int.not_le.1 fun h2 => ?_⟩
        rw [(fitsB_iff x).2 ⟨by omega, h2⟩] at hf; cases hf
    clear hf Hr
    rcases hx2 with h1 | ⟨h1, h2⟩
    all_goals
      go_enter Tryd.func6, Tryd.ntmps6
      go_wp2_with fail
      refine HH.out.mono ?_
      rintro e w1 ⟨rfl, l1⟩
      go_wp2_with fail
      refine (HP.out _).mono ?_
      rintro e w2 ⟨A2, c2, rfl, _, l2⟩
      have L2 := Lib.hid (l1.trans (l2.mono l1.size))
      clear l1 l2
      go_wp2
      go_ret
      exact ⟨rfl, L2.out⟩
  | true =>
    obtain ⟨h0, h1⟩ := (fitsB_iff x).1 hf
    obtain ⟨n, rfl⟩ := Int.eq_ofNat_of_zero_le h0
    clear hf h0
    have hn : n ≤ 1099511627776 := by omega
    have HP := Lib.hid (Put_cells n hn)
    obtain ⟨p, hpp⟩ : ∃ p, p = putL n := ⟨_, rfl⟩
    have HG2 : Hid (∀ more, getL (p ++ more) = some (n, p.length)) := Lib.hid fun more => by rw [hpp]; exact getL_put hn more
    have HC : Hid (∀ j, j < p.length → getL (p.take j) = none) := Lib.hid fun j hj => by rw [hpp] at hj ⊢; exact getL_cut n j hj
    have p1 : 1 ≤ p.length := by rw [hpp]; exact putL_pos n
    have p6 : p.length ≤ 6 := by rw [hpp]; exact putL_len6 hn
    rw [← hpp] at HP
    obtain ⟨m, hm⟩ : ∃ m, m = p.length := ⟨_, rfl⟩
    obtain ⟨q, hq⟩ : ∃ q, q = l.length := ⟨_, rfl⟩
    rw [← hm] at HP HG2 HC p1 p6
    have Hm := Lib.hid hm
    have Hq := Lib.hid hq
    rw [← hq] at hl ⊢
    clear hpp hm hq
    by_cases hbig : 1000 < q
    · clear Hr HG2 HC
      go_enter Tryd.func6, Tryd.ntmps6
      go_wp2_with fail
      refine HH.out.mono ?_
      rintro e w1 ⟨rfl, l1⟩
      go_wp2_with fail
      refine (HP.out _).mono ?_
      rintro e w2 ⟨g, o, c, rfl, _, _, _, l2⟩
      have L2 := Lib.hid (l1.trans (l2.mono l1.size))
      clear l1 l2
      go_wp2
      go_ret
      exact ⟨rfl, L2.out⟩
    · obtain ⟨j, hj⟩ : ∃ j, j = k.toNat % m := ⟨_, rfl⟩
      have hjm : j < m := by rw [hj]; exact Nat.mod_lt _ (by omega)
      have gj : (k.toNat : Int).tmod (m : Int) = (j : Int) := by rw [hj, Int.tmod_eq_emod_of_nonneg (by omega)]; simp
      have gj2 : (k.toNat : Int) % (m : Int) = (j : Int) := by rw [hj]; simp
      have hkl := k.toNat_lt
      have e0 : ((m : Int) == 0) = false := beq_eq_false_iff_ne.2 (by omega)
      have e1 : decide ((1000 : Int) < (q : Int)) = false := by simp; omega
      clear hj
      go_enter Tryd.func6, Tryd.ntmps6
      go_wp2_with fail
      refine HH.out.mono ?_
      rintro e w1 ⟨rfl, l1⟩
      have L1 := Lib.hid l1
      clear HH l1
      go_wp2_with fail
      refine (HP.out _).mono ?_
      rintro e w2 ⟨g, o, c, rfl, hc, hg, hcell, l2⟩
      have L2 := Lib.hid (L1.out.trans (l2.mono L1.out.size))
      have RB : Hid (Rb w2 (.slice (some ⟨g, o, none⟩) m c) p) := Lib.hid (.inr ⟨g, o, c, by rw [Hm.out], by rw [← Hm.out]; exact hc, hg, fun j hj => hcell j (by rw [Hm.out]; exact hj)⟩)
      have RJ : Hid (Rb w2 (.slice (some ⟨g, o, none⟩) j c) (p.take j)) := Lib.hid (by
        have hlen : (p.take j).length = j := by rw [List.length_take, ← Hm.out]; omega
        refine .inr ⟨g, o, c, by rw [hlen], by omega, hg, fun i hi => ?_⟩
        rw [hlen] at hi
        rw [hcell i (by omega), List.getD_eq_getElem?_getD, List.getD_eq_getElem?_getD, List.getElem?_take, if_pos hi])
      have HJ : Hid (Calls Tryd.prog 9 #[.slice (some ⟨g, o, none⟩) j c] w2 fun e w' => e = .returned (.tuple #[.int .i64 0, .int .i64 0, .bool false]) ∧ w2 = w') := Lib.hid (by
        have h := Get_any w2 _ (p.take j) (by rw [List.length_take]; unfold maxLen; omega) RJ.out
        rw [HC.out j hjm, gotV_none] at h
        exact h)
      have ua : 0 ≤ (j : Int) := by omega
      have ub : (j : Int) ≤ (c : Int) := by omega
      clear hcell l2 L1 HP RJ
      go_wp2_with fail
      refine HJ.out.mono ?_
      rintro e w3 ⟨rfl, rfl⟩
      clear HJ ua ub gj gj2
      have O6a : Hid (Ow (w2.alloc (.cells #[] 5)) w2.heap.size (.slice (some ⟨w2.heap.size, 0, none⟩) 0 0) []) := Lib.hid (Ow.new0 w2 _ (Nat.le_refl _))
      have Q6a : Hid (Rb (w2.alloc (.cells #[] 5)) (.slice (some ⟨g, o, none⟩) m c) p) := Lib.hid (RB.out.below (below_new w2 _) (Nat.le_refl _))
      have S6a : Hid (w2.heap.size ≤ (w2.alloc (.cells #[] 5)).heap.size) := Lib.hid (by simp)
      have QL0 : Hid (([] : List UInt8).length + p.length ≤ 140737488355328) := Lib.hid (by rw [← Hm.out]; simp; omega)
      have QL1 : Hid (p.length + l.length ≤ 140737488355328) := Lib.hid (by rw [← Hm.out, ← Hq.out]; omega)
      go_wp2_with (refine wpList_app (o := ⟨some 55, _, _, _, _, _⟩) rfl _ _ rfl w2.heap.size _ _ [] p rfl rfl O6a.out Q6a.out QL0.out S6a.out ?_)
      intro v6 w6 o6 l6
      have l6' : Below w2.heap.size w2 w6 := (below_new w2 _).trans l6
      have O6 : Hid (Ow w6 w2.heap.size v6 p) := Lib.hid o6
      have L6 := Lib.hid (L2.out.trans (l6'.mono L2.out.size))
      have Q7 : Hid (Rb w6 (.slice A q ca) l) := Lib.hid (by rw [Hq.out]; exact Hr.out.below L6.out (Nat.le_refl _))
      have S7 : Hid (w2.heap.size ≤ w6.heap.size) := Lib.hid l6'.size
      clear O6a Q6a S6a o6 l6 l6'
      go_wp2_with (refine wpList_app (o := ⟨some 57, _, _, _, _, _⟩) rfl _ _ rfl w2.heap.size _ _ p l rfl rfl O6.out Q7.out QL1.out S7.out ?_)
      intro v7 w7 o7 l7
      have L7 := Lib.hid (L6.out.trans (l7.mono L2.out.size))
      have HG : Hid (Calls Tryd.prog 9 #[v7] w7 fun e w' => e = .returned (.tuple #[.int .i64 (n : Int), .int .i64 (m : Int), .bool true]) ∧ w7 = w') := Lib.hid (by
        have h := Get_any w7 _ (p ++ l) (by rw [List.length_append, ← Hm.out, ← Hq.out]; unfold maxLen; omega) o7.rb
        rw [HG2.out l, gotV_some] at h
        exact h)
      clear O6 Q7 S7 o7 l7 QL0 QL1 L6 HG2
      go_wp2_with fail
      refine HG.out.mono ?_
      rintro e w8 ⟨rfl, rfl⟩
      clear HG
      go_wp2
      go_ret
      exact ⟨rfl, L7.out⟩
end Go.Proofs.YtfafndehkhgmjaaDoor
