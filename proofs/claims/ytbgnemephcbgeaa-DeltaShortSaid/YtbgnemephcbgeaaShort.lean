/-
  How long a delta is; there and back.
-/
import Derived.Test.YtbgnemephcbgeaaHe
namespace Go.Proofs.Ytbgnemephcbgeaa
open Go Go.RowKit

set_option maxHeartbeats 2000000 in
set_option maxRecDepth 100000 in
theorem Short_law (w : World) (ahead : Bs) (h1 : ahead.length ≤ maxLen) (text : Bs) (h2 : text.length ≤ maxLen) (behind : Bs) (h3 : behind.length ≤ maxLen) :
    Calls Try.prog 8 #[SV ahead, SV text, SV behind] w (BP w) := by
  unfold maxLen at h1 h2 h3
  have HH := Lib.hid (head_any w)
  unfold SV
  by_cases c1 : 300 < ahead.length
  · go_enter Try.func8, Try.ntmps8
    go_wp2_with fail
    refine HH.out.mono ?_
    rintro e w1 ⟨rfl, b1⟩
    have H1 := Lib.hid b1; clear b1 HH
    have d1 : (300 : Int) < (ahead.length : Int) := by omega
    go_wp2
    go_ret
    exact ⟨rfl, H1.out⟩
  by_cases c2 : 300 < text.length
  · go_enter Try.func8, Try.ntmps8
    go_wp2_with fail
    refine HH.out.mono ?_
    rintro e w1 ⟨rfl, b1⟩
    have H1 := Lib.hid b1; clear b1 HH
    have d1 : ¬ (300 : Int) < (ahead.length : Int) := by omega
    have d2 : (300 : Int) < (text.length : Int) := by omega
    go_wp2
    go_ret
    exact ⟨rfl, H1.out⟩
  by_cases c3 : 300 < behind.length
  · go_enter Try.func8, Try.ntmps8
    go_wp2_with fail
    refine HH.out.mono ?_
    rintro e w1 ⟨rfl, b1⟩
    have H1 := Lib.hid b1; clear b1 HH
    have d1 : ¬ (300 : Int) < (ahead.length : Int) := by omega
    have d2 : ¬ (300 : Int) < (text.length : Int) := by omega
    have d3 : (300 : Int) < (behind.length : Int) := by omega
    go_wp2
    go_ret
    exact ⟨rfl, H1.out⟩
  have d1 : ¬ (300 : Int) < (ahead.length : Int) := by omega
  have d2 : ¬ (300 : Int) < (text.length : Int) := by omega
  have d3 : ¬ (300 : Int) < (behind.length : Int) := by omega
  obtain ⟨d, hd⟩ : ∃ d, d = makeL (ahead ++ text ++ behind) text := ⟨_, rfl⟩
  obtain ⟨e, he⟩ : ∃ e, e = makeL ahead text := ⟨_, rfl⟩
  have HM : Hid (∀ W, Calls Try.prog 12 #[.string ((⟨ahead.toArray⟩ : ByteArray) ++ ⟨text.toArray⟩ ++ ⟨behind.toArray⟩), .string ⟨text.toArray⟩] W fun e w' => e = .returned (.string ⟨d.toArray⟩) ∧ Below W.heap.size W w') := Lib.hid fun W => by rw [append_S, append_S, hd]; exact Make_any (ahead ++ text ++ behind) text (by simp; omega) (by omega) W
  have HN : Hid (∀ W, Calls Try.prog 12 #[.string ⟨ahead.toArray⟩, .string ⟨text.toArray⟩] W fun e' w' => e' = .returned (.string ⟨e.toArray⟩) ∧ Below W.heap.size W w') := Lib.hid fun W => by rw [he]; exact Make_any ahead text (by omega) (by omega) W
  have hel : e.length ≤ 4 + 2 * text.length := by
    have k1 := putL_len 1 ahead.length (by omega)
    have k2 := putL_len 1 text.length (by omega)
    have k3 := mkS_len (base := ahead) (by omega) text.length [] text (Nat.le_refl _) (by omega)
    rw [he]
    unfold makeL
    rw [List.length_append, List.length_append]
    simp only [List.length_nil] at k3
    omega
  have hdl : 5 ≤ text.length → d.length ≤ 10 := fun h5 => by
    obtain ⟨f, hf, hl⟩ := lng_whole (a := ahead) (b := behind) (text := text) (by omega)
    rw [hd, make_whole hl h5]
    have k1 := putL_len 1 (ahead ++ text ++ behind).length (by simp; omega)
    have k2 := putL_len 1 text.length (by omega)
    have k3 := putL_len 1 f (by omega)
    simp only [List.length_append, List.length_cons] at k1 ⊢
    omega
  have i1 : (e.length : Int) ≤ 4 + 2 * (text.length : Int) := by omega
  by_cases h5 : text.length < 5
  · have i2 : (text.length : Int) < 5 := by omega
    clear hdl hel hd he
    go_enter Try.func8, Try.ntmps8
    go_wp2_with fail
    refine HH.out.mono ?_
    rintro e w1 ⟨rfl, p1⟩
    have H1 := Lib.hid p1; clear p1 HH
    go_wp2_with fail
    refine (HM.out _).mono ?_
    rintro e w2 ⟨rfl, p2⟩
    have H2 : Hid (Below w.heap.size w w2) := Lib.hid (H1.out.trans (p2.mono H1.out.size))
    clear p2 HM
    go_wp2_with fail
    refine (HN.out _).mono ?_
    rintro e w3 ⟨rfl, p3⟩
    have H3 : Hid (Below w.heap.size w w3) := Lib.hid (H2.out.trans (p3.mono H2.out.size))
    clear p3 HN
    go_wp2
    go_ret
    exact ⟨rfl, H3.out⟩
  · have i2 : ¬ (text.length : Int) < 5 := by omega
    have i3 : (d.length : Int) ≤ 10 := by have := hdl (by omega); omega
    clear hdl hel hd he
    go_enter Try.func8, Try.ntmps8
    go_wp2_with fail
    refine HH.out.mono ?_
    rintro e w1 ⟨rfl, p1⟩
    have H1 := Lib.hid p1; clear p1 HH
    go_wp2_with fail
    refine (HM.out _).mono ?_
    rintro e w2 ⟨rfl, p2⟩
    have H2 : Hid (Below w.heap.size w w2) := Lib.hid (H1.out.trans (p2.mono H1.out.size))
    clear p2 HM
    go_wp2_with fail
    refine (HN.out _).mono ?_
    rintro e w3 ⟨rfl, p3⟩
    have H3 : Hid (Below w.heap.size w w3) := Lib.hid (H2.out.trans (p3.mono H2.out.size))
    clear p3 HN
    go_wp2
    go_ret
    exact ⟨rfl, H3.out⟩
end Go.Proofs.Ytbgnemephcbgeaa
