/-
  The laws' head; a delta of one base is none of another one.
-/
import Derived.Test.YtbgnemephcbgeaaAy
namespace Go.Proofs.Ytbgnemephcbgeaa
open Go Go.RowKit

def BP (w : World) (e : Ending) (w' : World) : Prop := e = .returned (.bool true) ∧ Below w.heap.size w w'
theorem head_make : makeL [97, 98, 99, 100, 101, 102] [120, 97, 98, 99, 100, 101, 102] = [6, 7, 1, 120, 128, 0, 6] := by
  have e1 : lng [97, 98, 99, 100, 101, 102] [120, 97, 98, 99, 100, 101, 102] = (0, 0) := by decide +kernel
  have e2 : lng [97, 98, 99, 100, 101, 102] [97, 98, 99, 100, 101, 102] = (0, 6) := by decide +kernel
  unfold makeL
  rw [mkS_lo (by simp) (by rw [e1]; decide)]
  simp only [List.nil_append, List.take_succ_cons, List.take_zero, List.drop_succ_cons, List.drop_zero]
  rw [mkS_hi (by rw [e2]; decide), e2]
  simp only [List.drop_succ_cons, List.drop_zero, List.length_cons, List.length_nil]
  rw [mkS_nil, ins_nil, ins_pos (by simp), putL_lo (by decide), putL_lo (by decide), putL_lo (by decide)]
  simp [ins_nil]
set_option maxHeartbeats 2000000 in
set_option maxRecDepth 100000 in
theorem head_any (w : World) : Calls Try.prog 9 #[] w (BP w) := by
  have HM : Hid (Calls Try.prog 12 #[.string ⟨#[97, 98, 99, 100, 101, 102]⟩, .string ⟨#[120, 97, 98, 99, 100, 101, 102]⟩] w fun e w' => e = .returned (.string ⟨#[6, 7, 1, 120, 128, 0, 6]⟩) ∧ Below w.heap.size w w') := Lib.hid (by
    have := Make_any [97, 98, 99, 100, 101, 102] [120, 97, 98, 99, 100, 101, 102] (by decide) (by decide) w
    rw [head_make] at this
    exact this)
  have HA : Hid (∀ W, Calls Try.prog 10 #[.string ⟨#[97, 98, 99, 100, 101, 102]⟩, .string ⟨#[6, 7, 1, 120, 128, 0, 6]⟩] W fun e w' => e = .returned (.tuple #[.string ⟨#[120, 97, 98, 99, 100, 101, 102]⟩, .int .i64 0]) ∧ Below W.heap.size W w') := Lib.hid fun W => by
    have := Apply_any [97, 98, 99, 100, 101, 102] [6, 7, 1, 120, 128, 0, 6] (by decide) (by decide) W
    have e : applyR [97, 98, 99, 100, 101, 102] [6, 7, 1, 120, 128, 0, 6] = .tuple #[.string ⟨#[120, 97, 98, 99, 100, 101, 102]⟩, .int .i64 0] := by
      unfold applyR; rw [← head_make, apply_make (by decide) (by decide)]
    rw [e] at this
    exact this
  have HB : Hid (∀ W, Calls Try.prog 10 #[.string ⟨#[97, 98, 99, 100, 101]⟩, .string ⟨#[6, 7, 1, 120, 128, 0, 6]⟩] W fun e w' => e = .returned (.tuple #[.string ⟨#[]⟩, .int .i64 3]) ∧ Below W.heap.size W w') := Lib.hid fun W => by
    have := Apply_any [97, 98, 99, 100, 101] [6, 7, 1, 120, 128, 0, 6] (by decide) (by decide) W
    have e : applyR [97, 98, 99, 100, 101] [6, 7, 1, 120, 128, 0, 6] = .tuple #[.string ⟨#[]⟩, .int .i64 3] := by
      unfold applyR; rw [← head_make, apply_other (by decide) (by decide) (by decide)]
    rw [e] at this
    exact this
  go_enter Try.func9, Try.ntmps9
  go_wp2_with fail
  refine HM.out.mono ?_
  rintro e w1 ⟨rfl, b1⟩
  have H1 := Lib.hid b1
  clear b1 HM
  go_wp2_with fail
  refine (HA.out _).mono ?_
  rintro e w2 ⟨rfl, b2⟩
  have H2 : Hid (Below w.heap.size w w2) := Lib.hid (H1.out.trans (b2.mono H1.out.size))
  clear b2 HA
  go_wp2_with fail
  refine (HB.out _).mono ?_
  rintro e w3 ⟨rfl, b3⟩
  have H3 : Hid (Below w.heap.size w w3) := Lib.hid (H2.out.trans (b3.mono H2.out.size))
  clear b3 HB
  go_wp2
  go_ret
  exact ⟨rfl, H3.out⟩
theorem makeL_len6 (base text : Bs) (hb : base.length ≤ 10000) (ht : text.length ≤ 900) : (makeL base text).length ≤ 2000 := by
  have h1 := putL_len6 (n := base.length) (by omega)
  have h2 := putL_len6 (n := text.length) (by omega)
  have h3 := mkS_len (base := base) (by omega) text.length [] text (Nat.le_refl _) (by omega)
  unfold makeL
  rw [List.length_append, List.length_append]
  simp only [List.length_nil] at h3
  omega
theorem applyR_none {base d : Bs} (h : applyL base d = none) : applyR base d = .tuple #[.string ⟨#[]⟩, .int .i64 3] := by unfold applyR; rw [h]
theorem applyR_some {base d t : Bs} (h : applyL base d = some t) : applyR base d = .tuple #[.string ⟨t.toArray⟩, .int .i64 0] := by unfold applyR; rw [h]

set_option maxHeartbeats 2000000 in
set_option maxRecDepth 100000 in
theorem Other_law (w : World) (base : Bs) (h1 : base.length ≤ maxLen) (text : Bs) (h2 : text.length ≤ maxLen) (other : Bs) (h3 : other.length ≤ maxLen) :
    Calls Try.prog 7 #[SV base, SV text, SV other] w (BP w) := by
  unfold maxLen at h1 h2 h3
  have HH := Lib.hid (head_any w)
  unfold SV
  by_cases c1 : 600 < base.length
  · go_enter Try.func7, Try.ntmps7
    go_wp2_with fail
    refine HH.out.mono ?_
    rintro e w1 ⟨rfl, b1⟩
    have H1 := Lib.hid b1; clear b1 HH
    have d1 : (600 : Int) < (base.length : Int) := by omega
    go_wp2
    go_ret
    exact ⟨rfl, H1.out⟩
  by_cases c2 : 600 < text.length
  · go_enter Try.func7, Try.ntmps7
    go_wp2_with fail
    refine HH.out.mono ?_
    rintro e w1 ⟨rfl, b1⟩
    have H1 := Lib.hid b1; clear b1 HH
    have d1 : ¬ (600 : Int) < (base.length : Int) := by omega
    have d2 : (600 : Int) < (text.length : Int) := by omega
    go_wp2
    go_ret
    exact ⟨rfl, H1.out⟩
  by_cases c3 : 600 < other.length
  · go_enter Try.func7, Try.ntmps7
    go_wp2_with fail
    refine HH.out.mono ?_
    rintro e w1 ⟨rfl, b1⟩
    have H1 := Lib.hid b1; clear b1 HH
    have d1 : ¬ (600 : Int) < (base.length : Int) := by omega
    have d2 : ¬ (600 : Int) < (text.length : Int) := by omega
    have d3 : (600 : Int) < (other.length : Int) := by omega
    go_wp2
    go_ret
    exact ⟨rfl, H1.out⟩
  have hlen := makeL_len6 base text (by omega) (by omega)
  obtain ⟨d, hd⟩ : ∃ d, d = makeL base text := ⟨_, rfl⟩
  have HM : Hid (∀ W, Calls Try.prog 12 #[.string ⟨base.toArray⟩, .string ⟨text.toArray⟩] W fun e w' => e = .returned (.string ⟨d.toArray⟩) ∧ Below W.heap.size W w') := Lib.hid fun W => by rw [hd]; exact Make_any base text (by omega) (by omega) W
  have HA : Hid (∀ W, Calls Try.prog 10 #[.string ⟨other.toArray⟩, .string ⟨d.toArray⟩] W fun e w' => e = .returned (applyR other d) ∧ Below W.heap.size W w') := Lib.hid fun W => Apply_any other d (by rw [hd]; omega) (by omega) W
  have d1 : ¬ (600 : Int) < (base.length : Int) := by omega
  have d2 : ¬ (600 : Int) < (text.length : Int) := by omega
  have d3 : ¬ (600 : Int) < (other.length : Int) := by omega
  by_cases hl : other.length = base.length
  · obtain ⟨u, hu1, hu2⟩ := apply_like (base := base) (text := text) (other := other) (by omega) (by omega) hl
    rw [← hd] at hu1
    rw [applyR_some hu1] at HA
    have b1 : ((other.length : Int) != (base.length : Int)) = false := by simp only [bne_eq_false_iff_eq]; omega
    have b2 : ((u.length : Int) == (text.length : Int)) = true := by simp only [beq_iff_eq]; omega
    clear hu1 hu2 hl hd hlen c1 c2 c3
    go_enter Try.func7, Try.ntmps7
    go_wp2_with fail
    refine HH.out.mono ?_
    rintro e w1 ⟨rfl, p1⟩
    have H1 := Lib.hid p1; clear p1 HH
    go_wp2_with fail
    refine (HM.out _).mono ?_
    rintro e w2 ⟨rfl, p2⟩
    have H2 : Hid (Below w.heap.size w w2) := Lib.hid (H1.out.trans (p2.mono H1.out.size))
    clear p2 HM
    go_wp2_with fail
    refine (HA.out _).mono ?_
    rintro e w3 ⟨rfl, p3⟩
    have H3 : Hid (Below w.heap.size w w3) := Lib.hid (H2.out.trans (p3.mono H2.out.size))
    clear p3 HA
    go_wp2
    go_ret
    exact ⟨rfl, H3.out⟩
  · have hu1 := apply_other (base := base) (text := text) (other := other) (by omega) (by omega) hl
    rw [← hd] at hu1
    rw [applyR_none hu1] at HA
    have b1 : ((other.length : Int) != (base.length : Int)) = true := by simp only [bne_iff_ne, ne_eq]; omega
    clear hu1 hl hd hlen c1 c2 c3
    go_enter Try.func7, Try.ntmps7
    go_wp2_with fail
    refine HH.out.mono ?_
    rintro e w1 ⟨rfl, p1⟩
    have H1 := Lib.hid p1; clear p1 HH
    go_wp2_with fail
    refine (HM.out _).mono ?_
    rintro e w2 ⟨rfl, p2⟩
    have H2 : Hid (Below w.heap.size w w2) := Lib.hid (H1.out.trans (p2.mono H1.out.size))
    clear p2 HM
    go_wp2_with fail
    refine (HA.out _).mono ?_
    rintro e w3 ⟨rfl, p3⟩
    have H3 : Hid (Below w.heap.size w w3) := Lib.hid (H2.out.trans (p3.mono H2.out.size))
    clear p3 HA
    go_wp2
    go_ret
    exact ⟨rfl, H3.out⟩
end Go.Proofs.Ytbgnemephcbgeaa
