/-
  What is made, and what is applied, are the document's.
-/
import Derived.Test.YtbgnemephcbgeaaRAp
namespace Go.Proofs.Ytbgnemephcbgeaa
open Go Go.RowKit

set_option maxHeartbeats 2000000 in
set_option maxRecDepth 100000 in
theorem Tells_law (w : World) (base : Bs) (h1 : base.length ≤ maxLen) (text : Bs) (h2 : text.length ≤ maxLen) (d : Bs) (h3 : d.length ≤ maxLen) :
    Calls Try.prog 3 #[SV base, SV text, SV d] w (BP w) := by
  unfold maxLen at h1 h2 h3
  have HH := Lib.hid (head_any w)
  unfold SV
  by_cases c1 : 600 < base.length
  · go_enter Try.func3, Try.ntmps3
    go_wp2_with fail
    refine HH.out.mono ?_
    rintro e w1 ⟨rfl, b1⟩
    have H1 := Lib.hid b1; clear b1 HH
    have d1 : (600 : Int) < (base.length : Int) := by omega
    go_wp2
    go_ret
    exact ⟨rfl, H1.out⟩
  by_cases c2 : 600 < text.length
  · go_enter Try.func3, Try.ntmps3
    go_wp2_with fail
    refine HH.out.mono ?_
    rintro e w1 ⟨rfl, b1⟩
    have H1 := Lib.hid b1; clear b1 HH
    have d1 : ¬ (600 : Int) < (base.length : Int) := by omega
    have d2 : (600 : Int) < (text.length : Int) := by omega
    go_wp2
    go_ret
    exact ⟨rfl, H1.out⟩
  by_cases c3 : 3000 < d.length
  · go_enter Try.func3, Try.ntmps3
    go_wp2_with fail
    refine HH.out.mono ?_
    rintro e w1 ⟨rfl, b1⟩
    have H1 := Lib.hid b1; clear b1 HH
    have d1 : ¬ (600 : Int) < (base.length : Int) := by omega
    have d2 : ¬ (600 : Int) < (text.length : Int) := by omega
    have d3 : (3000 : Int) < (d.length : Int) := by omega
    go_wp2
    go_ret
    exact ⟨rfl, H1.out⟩
  have d1 : ¬ (600 : Int) < (base.length : Int) := by omega
  have d2 : ¬ (600 : Int) < (text.length : Int) := by omega
  have d3 : ¬ (3000 : Int) < (d.length : Int) := by omega
  obtain ⟨a, e, hae⟩ : ∃ (a : Bs) (e : Int), applyR base d = .tuple #[.string ⟨a.toArray⟩, .int .i64 e] := by
    unfold applyR
    cases applyL base d with
    | none => exact ⟨[], 3, rfl⟩
    | some t => exact ⟨t, 0, rfl⟩
  have HA : Hid (∀ W, Calls Try.prog 10 #[.string ⟨base.toArray⟩, .string ⟨d.toArray⟩] W fun e' w' => e' = .returned (.tuple #[.string ⟨a.toArray⟩, .int .i64 e]) ∧ Below W.heap.size W w') := Lib.hid fun W => by
    have := Apply_any base d (by omega) (by omega) W
    rwa [hae] at this
  have HRA : Hid (∀ W, Calls Try.prog 11 #[.string ⟨base.toArray⟩, .string ⟨d.toArray⟩] W fun e' w' => e' = .returned (.tuple #[.string ⟨a.toArray⟩, .int .i64 e]) ∧ Below W.heap.size W w') := Lib.hid fun W => by
    have := RApply_any base d (by omega) (by omega) W
    rwa [hae] at this
  obtain ⟨m, hm⟩ : ∃ m, m = makeL base text := ⟨_, rfl⟩
  have HM : Hid (∀ W, Calls Try.prog 12 #[.string ⟨base.toArray⟩, .string ⟨text.toArray⟩] W fun e w' => e = .returned (.string ⟨m.toArray⟩) ∧ Below W.heap.size W w') := Lib.hid fun W => by rw [hm]; exact Make_any base text (by omega) (by omega) W
  have HRM : Hid (∀ W, Calls Try.prog 13 #[.string ⟨base.toArray⟩, .string ⟨text.toArray⟩] W fun e w' => e = .returned (.string ⟨m.toArray⟩) ∧ Below W.heap.size W w') := Lib.hid fun W => by rw [hm]; exact RMake_any base text (by omega) (by omega) W
  clear hae hm c1 c2 c3
  go_enter Try.func3, Try.ntmps3
  go_wp2_with fail
  refine HH.out.mono ?_
  rintro e w1 ⟨rfl, p1⟩
  have H1 := Lib.hid p1; clear p1 HH
  go_wp2_with fail
  refine (HA.out _).mono ?_
  rintro e w2 ⟨rfl, p2⟩
  have H2 : Hid (Below w.heap.size w w2) := Lib.hid (H1.out.trans (p2.mono H1.out.size))
  clear p2 HA
  go_wp2_with fail
  refine (HRA.out _).mono ?_
  rintro e w3 ⟨rfl, p3⟩
  have H3 : Hid (Below w.heap.size w w3) := Lib.hid (H2.out.trans (p3.mono H2.out.size))
  clear p3 HRA
  go_wp2_with fail
  refine (HM.out _).mono ?_
  rintro e w4 ⟨rfl, p4⟩
  have H4 : Hid (Below w.heap.size w w4) := Lib.hid (H3.out.trans (p4.mono H3.out.size))
  clear p4 HM
  go_wp2_with fail
  refine (HRM.out _).mono ?_
  rintro e w5 ⟨rfl, p5⟩
  have H5 : Hid (Below w.heap.size w w5) := Lib.hid (H4.out.trans (p5.mono H4.out.size))
  clear p5 HRM
  go_wp2
  go_ret
  exact ⟨rfl, H5.out⟩
end Go.Proofs.Ytbgnemephcbgeaa
