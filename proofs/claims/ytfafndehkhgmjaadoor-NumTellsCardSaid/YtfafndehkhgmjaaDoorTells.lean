/-
  NumTells, walked.
-/
import Derived.Test.YtfafndehkhgmjaaDoorApart
import Derived.Test.YtfafndehkhgmjaaDoorOrder
namespace Go.Proofs.YtfafndehkhgmjaaDoor
open Go Go.RowKit

set_option maxRecDepth 100000 in
set_option maxHeartbeats 4000000 in
theorem Tells_law (w : World) (hp : Pr w) (x : Int) (hx : -9223372036854775808 ≤ x ∧ x ≤ 9223372036854775807) (v : Value) (l : List UInt8) (hl : l.length ≤ maxLen) (hr : Rb w v l) (s : List UInt8) (hs : s.length ≤ maxLen) :
    Calls Tryd.prog 3 #[.int .i64 x, v, SV s] w fun e w' => e = .returned (.bool true) ∧ Below w.heap.size w w' := by
  unfold maxLen at hl hs
  obtain ⟨A, ca, rfl, _⟩ := hr.shape
  unfold SV
  have HH := Lib.hid (head_any w hp)
  obtain ⟨n, hn⟩ : ∃ n, n = l.length := ⟨_, rfl⟩
  obtain ⟨m, hm⟩ : ∃ m, m = s.length := ⟨_, rfl⟩
  have hsz : (⟨s.toArray⟩ : ByteArray).size = m := hm.symm
  by_cases h1 : 3000 < n
  · rw [← hn] at hl ⊢
    clear hp hr hn
    go_enter Tryd.func3, Tryd.ntmps3
    go_wp2_with fail
    refine HH.out.mono ?_
    rintro e w1 ⟨rfl, l1⟩
    go_wp2
    go_ret
    exact ⟨rfl, l1⟩
  by_cases h2 : 3000 < m
  · rw [← hn] at hl ⊢
    rw [← hm] at hs
    clear hp hr hn hm
    go_enter Tryd.func3, Tryd.ntmps3
    go_wp2_with fail
    refine HH.out.mono ?_
    rintro e w1 ⟨rfl, l1⟩
    go_wp2
    go_ret
    exact ⟨rfl, l1⟩
  rw [hm] at h2
  have HG : Hid (∀ W : World, Below w.heap.size w W → Calls Tryd.prog 9 #[.slice A l.length ca] W fun e w' => e = .returned (gotV (getL l)) ∧ W = w') := Lib.hid fun W hW => Get_any W _ l (by unfold maxLen; omega) (hr.below hW (Nat.le_refl _))
  have HRG : Hid (∀ W : World, Below w.heap.size w W → Calls Tryd.prog 10 #[.slice A l.length ca] W fun e w' => e = .returned (gotV (getL l)) ∧ W = w') := Lib.hid fun W hW => RGet_any W _ l (hr.below hW (Nat.le_refl _))
  have HD : Hid (∀ W : World, Below w.heap.size w W → Calls Tryd.prog 11 #[.string ⟨s.toArray⟩] W fun e w' => e = .returned (decV (decL s)) ∧ Below W.heap.size W w') := Lib.hid fun W hW => Decimal_any s (by omega) W (hp.below hW)
  have HRD : Hid (∀ W : World, Calls Tryd.prog 12 #[.string ⟨s.toArray⟩] W fun e w' => e = .returned (decV (decL s)) ∧ W = w') := Lib.hid fun W => RDecimal_any s (by unfold maxLen; omega) W
  obtain ⟨ga, gb, gc, hg⟩ : ∃ a b t, gotV (getL l) = .tuple #[.int .i64 ((a : Nat) : Int), .int .i64 ((b : Nat) : Int), .bool t] := ⟨_, _, _, rfl⟩
  obtain ⟨da, db, hd⟩ : ∃ a b, decV (decL s) = .tuple #[.int .i64 ((a : Nat) : Int), .bool b] := ⟨_, _, rfl⟩
  rw [hg] at HG HRG
  rw [hd] at HD HRD
  obtain ⟨p, hpp⟩ : ∃ p, p = putI x := ⟨_, rfl⟩
  have HP := Lib.hid (Put_any x)
  have HRP := Lib.hid (RPut_any x)
  rw [← hpp] at HP HRP
  obtain ⟨t, ht⟩ : ∃ t, t = textL x := ⟨_, rfl⟩
  have HT : Hid (∀ W : World, Below w.heap.size w W → Calls Tryd.prog 15 #[.int .i64 x] W fun e w' => e = .returned (.string ⟨t.toArray⟩) ∧ Below W.heap.size W w') := Lib.hid fun W hW => by rw [ht]; exact Text_any x hx.1 hx.2 W (hp.below hW)
  have HRT : Hid (∀ W : World, Calls Tryd.prog 16 #[.int .i64 x] W fun e w' => e = .returned (.string ⟨t.toArray⟩) ∧ Below W.heap.size W w') := Lib.hid fun W => by rw [ht]; exact RText_any x hx.2 W
  have hn3 : l.length ≤ 3000 := by omega
  have hm3 : m ≤ 3000 := by omega
  rw [← hn] at HG HRG hn3 ⊢
  clear hp hr hn hm hg hd hpp ht h1 h2 hl hs
  go_enter Tryd.func3, Tryd.ntmps3
  go_wp2_with fail
  refine HH.out.mono ?_
  rintro e w1 ⟨rfl, l1⟩
  have L1 := Lib.hid l1
  clear HH l1
  go_wp2_with fail
  refine (HG.out _ L1.out).mono ?_
  rintro e w2 ⟨rfl, rfl⟩
  go_wp2_with fail
  refine (HRG.out _ L1.out).mono ?_
  rintro e w2 ⟨rfl, rfl⟩
  go_wp2_with fail
  refine (HD.out _ L1.out).mono ?_
  rintro e w2 ⟨rfl, l2⟩
  have L2 := Lib.hid (L1.out.trans (l2.mono L1.out.size))
  clear L1 l2
  go_wp2_with fail
  refine (HRD.out _).mono ?_
  rintro e w3 ⟨rfl, rfl⟩
  clear HG HRG HD HRD
  go_wp2
  refine AnyB.start (by kernel_rfl) ?_
  refine AnyB.take 0 (.bool true) rfl (by kernel_rfl) (by kernel_rfl) (by kernel_rfl) (fun _ _ _ h => h) (by kernel_rfl) (fun W hW => by kernel_rfl) ?_
  refine AnyB.take 1 (.bool true) rfl (by kernel_rfl) (by kernel_rfl) (by kernel_rfl) (fun _ _ _ h => h) (by kernel_rfl) (fun W hW => by kernel_rfl) ?_
  refine AnyB.take 2 (.int .i64 x) rfl (by kernel_rfl) (by kernel_rfl) (by kernel_rfl) (fun _ _ _ h => h) (by kernel_rfl) (fun W hW => by kernel_rfl) ?_
  refine AnyB.take 5 (.int .i64 x) rfl (by kernel_rfl) (by kernel_rfl) (by kernel_rfl) (fun _ _ _ h => h) (by kernel_rfl) (fun W hW => by kernel_rfl) ?_
  refine AnyB.call 3 13 #[.int .i64 x] (by kernel_rfl) rfl (by kernel_rfl) (by kernel_rfl) ?_
  refine (HP.out _).mono ?_
  rintro e w3 ⟨A3, c3, rfl, r3, l3⟩
  refine ⟨_, rfl, l3, ?_⟩
  have R3 := Lib.hid r3
  have L3 := Lib.hid (L2.out.drew.trans (l3.mono L2.out.drew.size))
  clear r3 l3
  refine AnyB.take 4 (.string ⟨p.toArray⟩) rfl (by kernel_rfl) (by kernel_rfl) (by kernel_rfl) (fun _ _ _ h => h) (by kernel_rfl) (fun W hW => y_conv rfl (by kernel_rfl) (R3.out.below hW (Nat.le_refl _)).conv) ?_
  refine AnyB.call 6 14 #[.int .i64 x] (by kernel_rfl) rfl (by kernel_rfl) (by kernel_rfl) ?_
  refine (HRP.out _).mono ?_
  rintro e w4 ⟨A4, c4, rfl, r4, l4⟩
  refine ⟨_, rfl, l4, ?_⟩
  have R4 := Lib.hid r4
  have L4 := Lib.hid (L3.out.trans (l4.mono L3.out.size))
  clear r4 l4 R3
  refine AnyB.take 7 (.string ⟨p.toArray⟩) rfl (by kernel_rfl) (by kernel_rfl) (by kernel_rfl) (fun _ _ _ h => h) (by kernel_rfl) (fun W hW => y_conv rfl (by kernel_rfl) (R4.out.below hW (Nat.le_refl _)).conv) ?_
  refine AnyB.take 8 (.bool true) rfl (by kernel_rfl) (by kernel_rfl) (by kernel_rfl) (fun _ _ _ h => h) (by kernel_rfl) (fun W hW => y_bin (x := .string ⟨p.toArray⟩) (y := .string ⟨p.toArray⟩) rfl (by kernel_rfl) (by kernel_rfl) rfl (by simp [go_sem])) ?_
  refine AnyB.take 9 (.bool true) rfl (by kernel_rfl) (by kernel_rfl) (by kernel_rfl) (fun _ _ _ h => h) (by kernel_rfl) (fun W hW => by kernel_rfl) ?_
  refine AnyB.take 10 (.bool true) rfl (by kernel_rfl) (by kernel_rfl) (by kernel_rfl) (fun _ _ _ h => h) (by kernel_rfl) (fun W hW => by kernel_rfl) ?_
  refine AnyB.take 11 (.int .i64 (ga : Int)) rfl (by kernel_rfl) (by kernel_rfl) (by kernel_rfl) (fun _ _ _ h => h) (by kernel_rfl) (fun W hW => by kernel_rfl) ?_
  refine AnyB.take 12 (.int .i64 (ga : Int)) rfl (by kernel_rfl) (by kernel_rfl) (by kernel_rfl) (fun _ _ _ h => h) (by kernel_rfl) (fun W hW => by kernel_rfl) ?_
  refine AnyB.take 13 (.bool true) rfl (by kernel_rfl) (by kernel_rfl) (by kernel_rfl) (fun _ _ _ h => h) (by kernel_rfl) (fun W hW => y_bin (x := .int .i64 (ga : Int)) (y := .int .i64 (ga : Int)) rfl (by kernel_rfl) (by kernel_rfl) rfl (by simp [go_sem])) ?_
  refine AnyB.take 14 (.bool true) rfl (by kernel_rfl) (by kernel_rfl) (by kernel_rfl) (fun _ _ _ h => h) (by kernel_rfl) (fun W hW => by kernel_rfl) ?_
  refine AnyB.take 15 (.bool true) rfl (by kernel_rfl) (by kernel_rfl) (by kernel_rfl) (fun _ _ _ h => h) (by kernel_rfl) (fun W hW => by kernel_rfl) ?_
  refine AnyB.take 16 (.int .i64 (gb : Int)) rfl (by kernel_rfl) (by kernel_rfl) (by kernel_rfl) (fun _ _ _ h => h) (by kernel_rfl) (fun W hW => by kernel_rfl) ?_
  refine AnyB.take 17 (.int .i64 (gb : Int)) rfl (by kernel_rfl) (by kernel_rfl) (by kernel_rfl) (fun _ _ _ h => h) (by kernel_rfl) (fun W hW => by kernel_rfl) ?_
  refine AnyB.take 18 (.bool true) rfl (by kernel_rfl) (by kernel_rfl) (by kernel_rfl) (fun _ _ _ h => h) (by kernel_rfl) (fun W hW => y_bin (x := .int .i64 (gb : Int)) (y := .int .i64 (gb : Int)) rfl (by kernel_rfl) (by kernel_rfl) rfl (by simp [go_sem])) ?_
  refine AnyB.take 19 (.bool true) rfl (by kernel_rfl) (by kernel_rfl) (by kernel_rfl) (fun _ _ _ h => h) (by kernel_rfl) (fun W hW => by kernel_rfl) ?_
  refine AnyB.take 20 (.bool true) rfl (by kernel_rfl) (by kernel_rfl) (by kernel_rfl) (fun _ _ _ h => h) (by kernel_rfl) (fun W hW => by kernel_rfl) ?_
  refine AnyB.take 21 (.bool gc) rfl (by kernel_rfl) (by kernel_rfl) (by kernel_rfl) (fun _ _ _ h => h) (by kernel_rfl) (fun W hW => by kernel_rfl) ?_
  refine AnyB.take 22 (.bool gc) rfl (by kernel_rfl) (by kernel_rfl) (by kernel_rfl) (fun _ _ _ h => h) (by kernel_rfl) (fun W hW => by kernel_rfl) ?_
  refine AnyB.take 23 (.bool true) rfl (by kernel_rfl) (by kernel_rfl) (by kernel_rfl) (fun _ _ _ h => h) (by kernel_rfl) (fun W hW => y_bin (x := .bool gc) (y := .bool gc) rfl (by kernel_rfl) (by kernel_rfl) rfl ((run_eql_bool W _ gc gc Tryd.underlying4).trans (by rw [beq_self_eq_true]))) ?_
  refine AnyB.take 24 (.bool true) rfl (by kernel_rfl) (by kernel_rfl) (by kernel_rfl) (fun _ _ _ h => h) (by kernel_rfl) (fun W hW => by kernel_rfl) ?_
  refine AnyB.take 25 (.bool true) rfl (by kernel_rfl) (by kernel_rfl) (by kernel_rfl) (fun _ _ _ h => h) (by kernel_rfl) (fun W hW => by kernel_rfl) ?_
  refine AnyB.take 26 (.int .i64 x) rfl (by kernel_rfl) (by kernel_rfl) (by kernel_rfl) (fun _ _ _ h => h) (by kernel_rfl) (fun W hW => by kernel_rfl) ?_
  refine AnyB.take 28 (.int .i64 x) rfl (by kernel_rfl) (by kernel_rfl) (by kernel_rfl) (fun _ _ _ h => h) (by kernel_rfl) (fun W hW => by kernel_rfl) ?_
  refine AnyB.call 27 15 #[.int .i64 x] (by kernel_rfl) rfl (by kernel_rfl) (by kernel_rfl) ?_
  refine (HT.out _ L4.out).mono ?_
  rintro e w5 ⟨rfl, l5⟩
  refine ⟨_, rfl, l5, ?_⟩
  have L5 := Lib.hid (L4.out.trans (l5.mono L4.out.size))
  clear l5 R4
  refine AnyB.call 29 16 #[.int .i64 x] (by kernel_rfl) rfl (by kernel_rfl) (by kernel_rfl) ?_
  refine (HRT.out _).mono ?_
  rintro e w6 ⟨rfl, l6⟩
  refine ⟨_, rfl, l6, ?_⟩
  have L6 := Lib.hid (L5.out.trans (l6.mono L5.out.size))
  clear l6
  refine AnyB.take 30 (.bool true) rfl (by kernel_rfl) (by kernel_rfl) (by kernel_rfl) (fun _ _ _ h => h) (by kernel_rfl) (fun W hW => y_bin (x := .string ⟨t.toArray⟩) (y := .string ⟨t.toArray⟩) rfl (by kernel_rfl) (by kernel_rfl) rfl (by simp [go_sem])) ?_
  refine AnyB.take 31 (.bool true) rfl (by kernel_rfl) (by kernel_rfl) (by kernel_rfl) (fun _ _ _ h => h) (by kernel_rfl) (fun W hW => by kernel_rfl) ?_
  refine AnyB.take 32 (.bool true) rfl (by kernel_rfl) (by kernel_rfl) (by kernel_rfl) (fun _ _ _ h => h) (by kernel_rfl) (fun W hW => by kernel_rfl) ?_
  refine AnyB.take 33 (.int .i64 (da : Int)) rfl (by kernel_rfl) (by kernel_rfl) (by kernel_rfl) (fun _ _ _ h => h) (by kernel_rfl) (fun W hW => by kernel_rfl) ?_
  refine AnyB.take 34 (.int .i64 (da : Int)) rfl (by kernel_rfl) (by kernel_rfl) (by kernel_rfl) (fun _ _ _ h => h) (by kernel_rfl) (fun W hW => by kernel_rfl) ?_
  refine AnyB.take 35 (.bool true) rfl (by kernel_rfl) (by kernel_rfl) (by kernel_rfl) (fun _ _ _ h => h) (by kernel_rfl) (fun W hW => y_bin (x := .int .i64 (da : Int)) (y := .int .i64 (da : Int)) rfl (by kernel_rfl) (by kernel_rfl) rfl (by simp [go_sem])) ?_
  refine AnyB.take 36 (.bool true) rfl (by kernel_rfl) (by kernel_rfl) (by kernel_rfl) (fun _ _ _ h => h) (by kernel_rfl) (fun W hW => by kernel_rfl) ?_
  refine AnyB.take 37 (.bool true) rfl (by kernel_rfl) (by kernel_rfl) (by kernel_rfl) (fun _ _ _ h => h) (by kernel_rfl) (fun W hW => by kernel_rfl) ?_
  refine AnyB.take 38 (.bool db) rfl (by kernel_rfl) (by kernel_rfl) (by kernel_rfl) (fun _ _ _ h => h) (by kernel_rfl) (fun W hW => by kernel_rfl) ?_
  refine AnyB.take 39 (.bool db) rfl (by kernel_rfl) (by kernel_rfl) (by kernel_rfl) (fun _ _ _ h => h) (by kernel_rfl) (fun W hW => by kernel_rfl) ?_
  refine AnyB.take 40 (.bool true) rfl (by kernel_rfl) (by kernel_rfl) (by kernel_rfl) (fun _ _ _ h => h) (by kernel_rfl) (fun W hW => y_bin (x := .bool db) (y := .bool db) rfl (by kernel_rfl) (by kernel_rfl) rfl ((run_eql_bool W _ db db Tryd.underlying4).trans (by rw [beq_self_eq_true]))) ?_
  refine AnyB.take 41 (.bool true) rfl (by kernel_rfl) (by kernel_rfl) (by kernel_rfl) (fun _ _ _ h => h) (by kernel_rfl) (fun W hW => by kernel_rfl) ?_
  refine AnyB.take 42 (.bool true) rfl (by kernel_rfl) (by kernel_rfl) (by kernel_rfl) (fun _ _ _ h => h) (by kernel_rfl) (fun W hW => by kernel_rfl) ?_
  refine AnyB.done _ (by kernel_rfl) ?_
  go_simp
  go_wp2
  go_ret
  exact ⟨rfl, L6.out⟩
end Go.Proofs.YtfafndehkhgmjaaDoor
