/-
  head, long.
-/
import Derived.Test.YtbgnemephcbgeaaPt
namespace Go.Proofs.Ytbgnemephcbgeaa
open Go Go.RowKit Go.Shelf
attribute [local go_sem] Oper.semAt_some

def headL (base d : Bs) : Option (Nat × Bs) :=
  match getL d with
  | none => none
  | some (n, k) =>
    if n ≠ base.length then none else
    match getL (d.drop k) with
    | none => none
    | some (len, j) => some (len, (d.drop k).drop j)
theorem applyL_eq (base d : Bs) : applyL base d = match headL base d with
    | none => none
    | some (len, r) => match stepsL base r with
      | none => none
      | some t => if t.length = len then some t else none := by
  unfold applyL headL
  cases getL d with
  | none => rfl
  | some x =>
    obtain ⟨n, k⟩ := x
    simp only
    split
    · rfl
    · cases getL (d.drop k) with
      | none => rfl
      | some y => rfl
def HeadP (v : Value) (o : Option (Nat × Bs)) (w : World) (e : Ending) (w' : World) : Prop := Below w.heap.size w w' ∧ ((o = none ∧ ∃ ev, e = .returned (.tuple #[.int .i64 0, .slice none 0 0, ev]) ∧ FaultIn w' ev 3) ∨
  (∃ n r A N c, o = some (n, r) ∧ N = r.length ∧ e = .returned (.tuple #[.int .i64 (n : Int), .slice A N c, .nilIface]) ∧ Rb w' (.slice A N c) r ∧ OwnB (.slice A N c) v))
set_option maxHeartbeats 4000000 in
set_option maxRecDepth 100000 in
theorem dhead_any {w : World} {v : Value} {base b : Bs} (h : Rb w v b) (hl : b.length ≤ 100000000) : Calls Try.prog 26 #[.string ⟨base.toArray⟩, v] w (HeadP v (headL base b) w) := by
  have H1 := Lib.hid (number_any h hl)
  have q1 := neqFN
  have HL := Lib.hid hl
  go_enter Try.func26, Try.ntmps26
  go_wp2_with fail
  refine H1.out.mono ?_
  clear H1 h hl
  rintro e w1 ⟨b1, ⟨hn, ev, rfl, hf⟩ | ⟨f, k, A, N, c, hn, hN, rfl, hr, ho⟩⟩
  · have hf' := hf
    obtain ⟨a, x, rfl, -⟩ := hf'
    have HF : Hid (HeadP v (headL base b) w (.returned (.tuple #[.int .i64 0, .slice none 0 0, .iface 95 (.pointer (some ⟨a, 0, none⟩))])) w1) := Lib.hid ⟨b1, .inl ⟨by unfold headL; rw [hn], _, rfl, hf⟩⟩
    clear b1 hn hf
    go_wp2
    go_ret3
    exact HF.out
  · have hfle := (getL_some hn).1
    have HB1 := Lib.hid b1; have HO := Lib.hid ho
    by_cases hlen : f = base.length
    · have H2 := Lib.hid (number_any hr (by rw [List.length_drop]; have := HL.out; omega))
      have hE : Hid (headL base b = match getL (b.drop k) with | none => none | some (len, j) => some (len, (b.drop k).drop j)) := Lib.hid (by unfold headL; rw [hn]; simp only; rw [if_neg (fun h => h hlen)])
      have b2 : ((f : Int) != (base.length : Int)) = false := by simp only [bne_eq_false_iff_eq]; omega
      clear b1 hn hN hr ho hlen
      go_wp2_with fail
      refine H2.out.mono ?_
      clear H2
      rintro e w2 ⟨b3, ⟨hn2, ev, rfl, hf⟩ | ⟨n, j, A2, N2, c2, hn2, hN2, rfl, hr2, ho2⟩⟩
      · have HF : Hid (HeadP v (headL base b) w (.returned (.tuple #[.int .i64 0, .slice none 0 0, ev])) w2) := Lib.hid ⟨HB1.out.trans (b3.mono HB1.out.size), .inl ⟨by rw [hE.out, hn2], _, rfl, hf⟩⟩
        clear b3 hn2 hf
        go_wp2
        go_ret3
        exact HF.out
      · have HF : Hid (HeadP v (headL base b) w (.returned (.tuple #[.int .i64 (n : Int), .slice A2 N2 c2, .nilIface])) w2) := Lib.hid ⟨HB1.out.trans (b3.mono HB1.out.size), .inr ⟨_, _, A2, N2, c2, by rw [hE.out, hn2], hN2, rfl, hr2, ho2.trans HO.out⟩⟩
        clear b3 hn2 hN2 hr2 ho2
        go_wp2
        go_ret3
        exact HF.out
    · have HW := Lib.hid (wrong_any [98, 97, 115, 101] w1)
      have hE : Hid (headL base b = none) := Lib.hid (by unfold headL; rw [hn]; simp only; rw [if_pos hlen])
      have b2 : ((f : Int) != (base.length : Int)) = true := by simp only [bne_iff_ne, ne_eq]; omega
      clear b1 hn hN hr ho hlen
      go_wp2_with fail
      refine HW.out.mono ?_
      rintro e w3 ⟨ev, rfl, hf, hb3⟩
      have HF : Hid (HeadP v (headL base b) w (.returned (.tuple #[.int .i64 0, .slice none 0 0, ev])) w3) := Lib.hid ⟨HB1.out.trans (hb3.mono HB1.out.size), .inl ⟨hE.out, _, rfl, hf⟩⟩
      clear hf hb3
      go_wp2
      go_ret3
      exact HF.out
end Go.Proofs.Ytbgnemephcbgeaa
