/-
  directory: the directory of a path, or an error.
-/
import Derived.Test.YtccloieikkdcoaaGreatDoorPath
namespace Go.Proofs.YtccloieikkdcoaaGreatDoor
open Go Go.RowKit

/-! ### directory -/
/-- An error whose number is n, in a block of its own. -/
def FaultIn (w : World) (ev : Value) (n : Int) : Prop := ∃ a x, ev = .iface 89 (.pointer (some ⟨a, 0, none⟩)) ∧ w.heap[a]? = some (.cells #[.string x, .iface 35 (.int .i64 n)] 91 (0, 0))

/-- What tells a directory, or an error. -/
def DirPost (p : By) (w : World) (e : Ending) (w' : World) : Prop :=
  Below w.heap.size w w' ∧ ((pathB p = true ∧ e = .returned (.tuple #[S (dirOf p), .nilIface])) ∨ (pathB p = false ∧ ∃ ev, e = .returned (.tuple #[S [], ev]) ∧ FaultIn w' ev 1))

theorem below_drewN (w : World) (n : Nat) : Below w.heap.size w (w.drewN n) := ⟨rfl, rfl, rfl, Nat.le_refl _, fun _ _ => rfl⟩

theorem pathB_parts {p : By} (h : p.contains 47 = true) : pathB p = (partB (dirOf p) && partB (nameOf p)) := by unfold pathB; rw [h]; rfl
theorem dirOf_le (p : By) : (dirOf p).length ≤ p.length := (List.takeWhile_sublist _).length_le
theorem nameOf_le (p : By) : (nameOf p).length ≤ p.length := by
  unfold nameOf; rw [List.length_drop]; have := (List.dropWhile_sublist (p := (· != 47)) (l := p)).length_le; omega

set_option maxHeartbeats 1000000 in
theorem directory_any (p : By) (w : World) (hp : p.length ≤ maxLen) : Calls Tryz.prog 36 #[S p] w (DirPost p w) := by
  have hc := cut_slash p w hp
  cases hh : p.contains 47
  · have hpb : pathB p = false := by unfold pathB; rw [hh]; rfl
    have hc' : Calls Tryz.prog 65 #[S p, .string ⟨#[47]⟩] w fun e w' => e = .returned (.tuple #[S p, S [], .bool false]) ∧ ∃ n, w' = w.drewN n := hc.mono fun e w' h => by
      obtain ⟨h1, h2⟩ := h; exact ⟨by rw [h1, cutB_no hh], h2⟩
    have Hp := Lib.hid hpb
    clear hh hpb hc
    unfold S at hc' ⊢
    go_enter Tryz.func36, Tryz.ntmps36
    go_wp2_with fail
    refine hc'.mono ?_
    rintro e w' ⟨rfl, n, rfl⟩
    go_wp2
    go_ret2
    exact ⟨⟨rfl, rfl, rfl, by simp, fun k hk => Below.heap_alloc _ _ _ hk⟩, .inr ⟨Hp.out, _, rfl, _, _, rfl, heap_alloc_new w _⟩⟩
  · have hc' : Calls Tryz.prog 65 #[S p, .string ⟨#[47]⟩] w fun e w' => e = .returned (.tuple #[S (dirOf p), S (nameOf p), .bool true]) ∧ ∃ n, w' = w.drewN n := hc.mono fun e w' h => by
      obtain ⟨h1, h2⟩ := h; exact ⟨by rw [h1, cutB_yes hh], h2⟩
    have hpb := pathB_parts hh
    clear hc hh
    have hd := fun w => isPart_any (dirOf p) w (Nat.le_trans (dirOf_le p) hp)
    have hn := fun w => isPart_any (nameOf p) w (Nat.le_trans (nameOf_le p) hp)
    generalize hd0 : dirOf p = d at *
    have Hd0 := Lib.hid hd0; clear hd0
    generalize nameOf p = n at *
    cases h1 : partB d
    · rw [h1] at hpb
      rw [h1] at hd
      have Hp := Lib.hid hpb; have Hd := Lib.hid hd
      clear hpb h1 hd hn
      unfold S at hc' ⊢
      go_enter Tryz.func36, Tryz.ntmps36
      go_wp2_with fail
      refine hc'.mono ?_
      rintro e w' ⟨rfl, m, rfl⟩
      go_wp2_with fail
      refine (Hd.out _).mono ?_
      rintro e w' ⟨rfl, rfl⟩
      go_wp2
      go_ret2
      exact ⟨⟨rfl, rfl, rfl, by simp, fun k hk => Below.heap_alloc _ _ _ hk⟩, .inr ⟨by rw [Hp.out]; rfl, _, rfl, _, _, rfl, heap_alloc_new w _⟩⟩
    · cases h2 : partB n
      · rw [h1, h2] at hpb
        rw [h1] at hd; rw [h2] at hn
        have Hp := Lib.hid hpb; have Hd := Lib.hid hd; have Hn := Lib.hid hn
        clear hpb h1 hd hn h2
        unfold S at hc' ⊢
        go_enter Tryz.func36, Tryz.ntmps36
        go_wp2_with fail
        refine hc'.mono ?_
        rintro e w' ⟨rfl, m, rfl⟩
        go_wp2_with fail
        refine (Hd.out _).mono ?_
        rintro e w' ⟨rfl, rfl⟩
        go_wp2_with fail
        refine (Hn.out _).mono ?_
        rintro e w' ⟨rfl, rfl⟩
        go_wp2
        go_ret2
        exact ⟨⟨rfl, rfl, rfl, by simp, fun k hk => Below.heap_alloc _ _ _ hk⟩, .inr ⟨by rw [Hp.out]; rfl, _, rfl, _, _, rfl, heap_alloc_new w _⟩⟩
      · rw [h1, h2] at hpb
        rw [h1] at hd; rw [h2] at hn
        have Hp := Lib.hid hpb; have Hd := Lib.hid hd; have Hn := Lib.hid hn
        clear hpb h1 hd hn h2
        unfold S at hc' ⊢
        go_enter Tryz.func36, Tryz.ntmps36
        go_wp2_with fail
        refine hc'.mono ?_
        rintro e w' ⟨rfl, m, rfl⟩
        go_wp2_with fail
        refine (Hd.out _).mono ?_
        rintro e w' ⟨rfl, rfl⟩
        go_wp2_with fail
        refine (Hn.out _).mono ?_
        rintro e w' ⟨rfl, rfl⟩
        go_wp2
        go_ret2
        exact ⟨below_drewN w _, .inl ⟨by rw [Hp.out]; rfl, by rw [Hd0.out]; rfl⟩⟩
end Go.Proofs.YtccloieikkdcoaaGreatDoor
