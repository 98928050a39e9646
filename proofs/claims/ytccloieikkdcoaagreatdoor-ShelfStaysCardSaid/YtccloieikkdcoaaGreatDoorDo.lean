/-
  do: an act is done, if there is power for it.
-/
import Derived.Test.YtccloieikkdcoaaGreatDoorTry
import Derived.Test.YtccloieikkdcoaaGreatDoorIs
namespace Go.Proofs.YtccloieikkdcoaaGreatDoor
open Go Go.RowKit Go.Maps

theorem FaultIn.keep {w w' : World} {base : Nat} {ev : Value} {n : Int} (h : FaultIn w ev n) (k : K base w w') : FaultIn w' ev n := by
  obtain ⟨a, x, e, h⟩ := h
  exact ⟨a, x, e, k.const _ _ _ _ h rfl⟩
theorem Et.keep {w w' : World} {base : Nat} (h : Et w) (k : K base w w') (hb : 0 < base) : Et w' := by
  unfold Et at h ⊢
  rw [k.below.cell (p := ⟨0, 0, none⟩) hb]; exact h

/-- An act that is done counts, and burns the fuse. -/
def bump (st : St) : St := { st with acts := wrap64 (st.acts + 1), fuse := burnt st.fuse }
def doN (st : St) (er : Int) : Int := if on st = true then er else 13
def doSt (st : St) (er : Int) (st1 : St) : St := if on st = true then (if er = 0 then bump st1 else st) else { st with down := true }

/-- What an act comes to. -/
def DoPost (base s f y : Nat) (n : Int) (st : St) (w : World) (e : Ending) (w' : World) : Prop := e = .returned (.int .i64 n) ∧ K base w w' ∧ ∃ lv, Ok w' base s f y lv st

set_option maxHeartbeats 4000000 in
set_option maxRecDepth 100000 in
theorem do_off {w : World} {base s f y : Nat} {lv : Value} {st : St} (h : Ok w base s f y lv st) (het : Et w) (hb : 0 < base) (ho : on st = false) (fv : Value) :
    Calls Tryz.prog 43 #[.pointer (some ⟨s, 0, none⟩), fv] w (DoPost base s f y 13 { st with down := true } w) := by
  have hp : Calls Tryz.prog 67 #[.pointer (some ⟨s, 0, none⟩)] w fun e w' => ∃ a, e = .returned (.iface 89 (.pointer (some ⟨a, 0, none⟩))) ∧ FaultIn w' (.iface 89 (.pointer (some ⟨a, 0, none⟩))) 13 ∧ Below w.heap.size w w' :=
    (power_any h).mono fun e w' hd => by
      obtain ⟨h1, h2 | h2⟩ := hd
      · rw [ho] at h2; cases h2.1
      · obtain ⟨_, ev, h3, a, x, rfl, h4⟩ := h2
        exact ⟨a, h3, ⟨a, x, rfl, h4⟩, h1⟩
  have Hp := Lib.hid hp; have Hk := Lib.hid h; have Het := Lib.hid het
  clear hp h ho het
  go_enter Tryz.func43, Tryz.ntmps43
  go_wp2_with fail
  refine Hp.out.mono ?_
  rintro e w1 ⟨a, rfl, hf, hB⟩
  have his := errIs_fault _ 13 w1 hf
  have hk1 := Hk.out.keep hB
  have c6 := hk1.c6
  have f6 := hk1.free 6
  have hk2 := hk1.field 6 (.bool true) { st with down := true } rfl rfl rfl rfl
  have k1 : K base w w1 := K.of_new hB Hk.out.base_le
  have k2 : K base w1 (w1.setCell ⟨s, 6, none⟩ (.bool true)) := (K.refl _ _).setShelf hk1.blk hk1.base_s 6 _
  have htold := told_fault _ 13 _ (hf.keep k2) ((Het.out.keep k1 hb).keep k2 hb)
  have His := Lib.hid his; have Hk2 := Lib.hid hk2; have K1 := Lib.hid k1; have K2 := Lib.hid k2; have Ht := Lib.hid htold
  clear his hk1 hk2 k1 k2 htold hf
  go_wp2_with fail
  refine His.out.mono ?_
  rintro e w2 ⟨rfl, rfl⟩
  go_wp2_with fail
  refine Ht.out.mono ?_
  rintro e w3 ⟨rfl, hB3⟩
  go_wp2_with fail
  go_ret
  exact ⟨rfl, (K1.out.trans K2.out).new hB3 Hk2.out.base_le, _, Hk2.out.keep hB3⟩

set_option maxHeartbeats 4000000 in
set_option maxRecDepth 100000 in
theorem do_err {w : World} {base s f y : Nat} {lv : Value} {st st1 : St} {er : Int} (h : Ok w base s f y lv st) (het : Et w) (hb : 0 < base) (ho : on st = true) (he : er ≠ 0) (he13 : er ≠ 13)
    {g : Nat} {cap : Array Value} (hent : ∀ args w, (callFunc g args).run Tryz.prog w = .ok (.enter g args) w) (htry : Calls Tryz.prog g cap w (TryPost base s f y st er st1 w)) :
    Calls Tryz.prog 43 #[.pointer (some ⟨s, 0, none⟩), .func (.func g) #[] cap] w (DoPost base s f y er st w) := by
  have hp : Calls Tryz.prog 67 #[.pointer (some ⟨s, 0, none⟩)] w fun e w' => e = .returned .nilIface ∧ w = w' :=
    (power_any h).mono fun e w' hd => by
      obtain ⟨h1, h2 | h2⟩ := hd
      · exact ⟨h2.2.1, h2.2.2.symm⟩
      · rw [ho] at h2; cases h2.1
  have ht : Calls Tryz.prog g cap w fun e w' => ∃ a lv, e = .returned (.iface 89 (.pointer (some ⟨a, 0, none⟩))) ∧ FaultIn w' (.iface 89 (.pointer (some ⟨a, 0, none⟩))) er ∧ K base w w' ∧ Ok w' base s f y lv st :=
    htry.mono fun e w' hd => by
      obtain ⟨ev, lv', h1, h2, h3 | h3⟩ := hd
      · exact absurd h3.1 he
      · obtain ⟨_, ⟨a, x, rfl, h5⟩, h6⟩ := h3
        exact ⟨a, lv', h1, ⟨a, x, rfl, h5⟩, h2, h6⟩
  have Hp := Lib.hid hp; have Hk := Lib.hid h; have Het := Lib.hid het; have Ht := Lib.hid ht
  have H13 : Hid ((er == 13) = false) := by show (er == 13) = false; simpa using he13
  clear hp h ho het ht htry he he13
  go_enter Tryz.func43, Tryz.ntmps43
  go_wp2_with fail
  refine Hp.out.mono ?_
  rintro e w1 ⟨rfl, rfl⟩
  go_wp2_with fail
  refine Ht.out.mono ?_
  rintro e w2 ⟨a, lv2, rfl, hf, k2, hok2⟩
  have his := errIs_fault _ er w2 hf
  rw [H13.out] at his
  have htold := told_fault _ er _ hf (Het.out.keep k2 hb)
  have His := Lib.hid his; have Htold := Lib.hid htold; have K2 := Lib.hid k2; have Hk2 := Lib.hid hok2
  clear his htold k2 hok2 hf
  go_wp2_with fail
  refine His.out.mono ?_
  rintro e w3 ⟨rfl, rfl⟩
  go_wp2_with fail
  refine Htold.out.mono ?_
  rintro e w3 ⟨rfl, hB3⟩
  go_wp2_with fail
  go_ret
  exact ⟨rfl, K2.out.new hB3 Hk2.out.base_le, _, Hk2.out.keep hB3⟩

set_option maxHeartbeats 4000000 in
set_option maxRecDepth 100000 in
theorem do_ok {w : World} {base s f y : Nat} {lv : Value} {st st1 : St} (h : Ok w base s f y lv st) (ho : on st = true)
    {g : Nat} {cap : Array Value} (hent : ∀ args w, (callFunc g args).run Tryz.prog w = .ok (.enter g args) w) (htry : Calls Tryz.prog g cap w (TryPost base s f y st 0 st1 w)) :
    Calls Tryz.prog 43 #[.pointer (some ⟨s, 0, none⟩), .func (.func g) #[] cap] w (DoPost base s f y 0 (bump st1) w) := by
  have hp : Calls Tryz.prog 67 #[.pointer (some ⟨s, 0, none⟩)] w fun e w' => e = .returned .nilIface ∧ w = w' :=
    (power_any h).mono fun e w' hd => by
      obtain ⟨h1, h2 | h2⟩ := hd
      · exact ⟨h2.2.1, h2.2.2.symm⟩
      · rw [ho] at h2; cases h2.1
  have ht : Calls Tryz.prog g cap w fun e w' => ∃ lv, e = .returned .nilIface ∧ K base w w' ∧ Ok w' base s f y lv st1 :=
    htry.mono fun e w' hd => by
      obtain ⟨ev, lv', h1, h2, h3 | h3⟩ := hd
      · exact ⟨lv', by rw [h1, h3.2.1], h2, h3.2.2⟩
      · exact absurd rfl h3.1
  have Hp := Lib.hid hp; have Ht := Lib.hid ht
  clear hp h ho ht htry
  go_enter Tryz.func43, Tryz.ntmps43
  go_wp2_with fail
  refine Hp.out.mono ?_
  rintro e w1 ⟨rfl, rfl⟩
  go_wp2_with fail
  refine Ht.out.mono ?_
  rintro e w2 ⟨lv2, rfl, k2, hok2⟩
  have c4 := hok2.c4
  have f4 := hok2.free 4
  have hk3 := hok2.field 4 (.int .i64 (wrap64 (st1.acts + 1))) { st1 with acts := wrap64 (st1.acts + 1) } rfl rfl rfl rfl
  have k3 : K base w2 (w2.setCell ⟨s, 4, none⟩ (.int .i64 (wrap64 (st1.acts + 1)))) := (K.refl _ _).setShelf hok2.blk hok2.base_s 4 _
  have hburn := burn_any hk3
  have K2 := Lib.hid k2; have K3 := Lib.hid k3; have Hb := Lib.hid hburn
  clear k2 hk3 k3 hburn hok2
  go_wp2_with fail
  refine (errIs_nil _).mono ?_
  rintro e w3 ⟨rfl, rfl⟩
  go_wp2_with fail
  refine Hb.out.mono ?_
  rintro e w4 ⟨rfl, k4, hok4⟩
  have K4 := Lib.hid k4; have Hk4 := Lib.hid hok4; clear k4 hok4
  go_wp2_with fail
  refine (told_nil _).mono ?_
  rintro e w5 ⟨rfl, hB5⟩
  go_wp2_with fail
  go_ret
  exact ⟨rfl, ((K2.out.trans K3.out).trans K4.out).new hB5 Hk4.out.base_le, _, Hk4.out.keep hB5⟩

theorem do_any {w : World} {base s f y : Nat} {lv : Value} {st st1 : St} {er : Int} (h : Ok w base s f y lv st) (het : Et w) (hb : 0 < base) (he13 : er ≠ 13)
    {g : Nat} {cap : Array Value} (hent : ∀ args w, (callFunc g args).run Tryz.prog w = .ok (.enter g args) w) (htry : Calls Tryz.prog g cap w (TryPost base s f y st er st1 w)) :
    Calls Tryz.prog 43 #[.pointer (some ⟨s, 0, none⟩), .func (.func g) #[] cap] w (DoPost base s f y (doN st er) (doSt st er st1) w) := by
  unfold doN doSt
  by_cases ho : on st = true
  · rw [if_pos ho, if_pos ho]
    by_cases he : er = 0
    · subst he; rw [if_pos rfl]; exact do_ok h ho hent htry
    · rw [if_neg he]; exact do_err h het hb ho he he13 hent htry
  · rw [if_neg ho, if_neg ho]
    exact do_off h het hb (by simpa using ho) _
end Go.Proofs.YtccloieikkdcoaaGreatDoor
