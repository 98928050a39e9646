/-
  What a shelf tells: Acts, Loose, Used.
-/
import Derived.Test.YtccloieikkdcoaaGreatDoorCrashM
namespace Go.Proofs.YtccloieikkdcoaaGreatDoor
open Go Go.RowKit Go.Maps Go.Shelf

set_option maxHeartbeats 1000000 in
theorem Acts_any {w : World} {base s f y : Nat} {lv : Value} {st : St} (h : Ok w base s f y lv st) : Calls Tryz.prog 25 #[.pointer (some ⟨s, 0, none⟩)] w fun e w' => e = .returned (.int .i64 st.acts) ∧ w = w' := by
  have c4 := h.c4
  clear h
  go_enter Tryz.func25, Tryz.ntmps25
  go_wp2
  go_ret
  exact ⟨rfl, rfl⟩

theorem LooseIn.slice {w : World} {base : Nat} {v : Value} {l : List (By × Act)} (h : LooseIn w base v l) : ∃ a c, v = .slice a l.length c := by
  obtain ⟨vs, hv, _⟩ := h
  rcases hv.2 with ⟨rfl, h0⟩ | ⟨g, cap, cur, rfl, _⟩
  · exact ⟨none, 0, by rw [h0]⟩
  · exact ⟨_, _, rfl⟩

set_option maxHeartbeats 1000000 in
theorem Loose_any {w : World} {base s f y : Nat} {lv : Value} {st : St} (h : Ok w base s f y lv st) : Calls Tryz.prog 26 #[.pointer (some ⟨s, 0, none⟩)] w fun e w' => e = .returned (.int .i64 st.loose.length) ∧ w = w' := by
  obtain ⟨a, c, rfl⟩ := h.loose.slice
  have c2 := h.c2
  clear h
  go_enter Tryz.func26, Tryz.ntmps26
  go_wp2
  go_ret
  exact ⟨rfl, rfl⟩

set_option maxHeartbeats 1000000 in
theorem Used_any {w : World} {base s f y : Nat} {lv : Value} {st : St} (h : Ok w base s f y lv st) (hb : tsize st.files ≤ 4611686018427387904) : Calls Tryz.prog 28 #[.pointer (some ⟨s, 0, none⟩)] w (SizePost (tsize st.files) w) := by
  have hs := Lib.hid (size_any h.files hb)
  have c0 := h.c0
  clear h
  go_enter Tryz.func28, Tryz.ntmps28
  go_wp2_with fail
  refine hs.out.mono ?_
  rintro e w' ⟨rfl, hB⟩
  go_wp2_with fail
  go_ret
  exact ⟨rfl, hB⟩
end Go.Proofs.YtccloieikkdcoaaGreatDoor
