/-
  Sync.
-/
import Derived.Test.YtccloieikkdcoaaGreatDoorSync
import Derived.LoopN
namespace Go.Proofs.YtccloieikkdcoaaGreatDoor
open Go Go.RowKit Go.Maps Go.Shelf

set_option maxHeartbeats 4000000 in
set_option maxRecDepth 100000 in
theorem trySync_nil {w : World} {base s f y : Nat} {st : St} (h : Ok w base s f y (.slice none 0 0) st) (hl : st.loose = []) {d : By} {bs bd : Value} (hd : d.length ≤ maxLen) (hpart : partB d = true)
    (hbs : BoxIn w base 27 bs (.pointer (some ⟨s, 0, none⟩))) (hbp : BoxIn w base 9 bd (S d)) :
    Calls Tryz.prog 56 #[bd, bs] w (TryPost base s f y st 0 (syncedSt d st) w) := by
  have hip := isPart_any d w hd
  rw [hpart] at hip
  obtain ⟨gs, rfl, _, hgs⟩ := hbs
  obtain ⟨gd, rfl, _, hgd⟩ := hbp
  have cs := cell_of_one hgs; have cd := cell_of_one hgd
  have c2 := h.c2
  have f2 := h.free 2
  have he : syncedSt d st = st := by unfold syncedSt; rw [hl]; cases st; simp at hl ⊢; exact ⟨rfl, hl.symm⟩
  have hset := h.field 2 (.slice none 0 0) st rfl rfl rfl rfl
  have k := (K.refl base w).setShelf h.blk h.base_s 2 (.slice none 0 0)
  unfold S at cd hip
  have Hip := Lib.hid hip; have Hset := Lib.hid hset; have Hk := Lib.hid k; have He := Lib.hid he
  clear hip hset k he h hl
  go_enter Tryz.func56, Tryz.ntmps56
  go_wp2_with fail
  refine Hip.out.mono ?_
  rintro e w1 ⟨rfl, rfl⟩
  go_wp2_with fail
  refine wp_loop_rounds 1 ?_
  rw [rounds_succ]
  go_wp2_with fail
  go_ret
  exact ⟨_, _, rfl, Hk.out, .inl ⟨rfl, rfl, by rw [He.out]; exact Hset.out⟩⟩

set_option maxHeartbeats 4000000 in
set_option maxRecDepth 100000 in
theorem trySync_bad {w : World} {base s f y : Nat} {lv : Value} {st st1 : St} (h : Ok w base s f y lv st) {d : By} {bs bd : Value} (hd : d.length ≤ maxLen) (hpart : partB d = false)
    (hbp : BoxIn w base 9 bd (S d)) :
    Calls Tryz.prog 56 #[bd, bs] w (TryPost base s f y st 1 st1 w) := by
  have hip := isPart_any d w hd
  rw [hpart] at hip
  obtain ⟨gd, rfl, _, hgd⟩ := hbp
  have cd := cell_of_one hgd
  have hB := below_alloc w (.cells #[.string ⟨d.toArray⟩, .iface 35 (.int .i64 1)] 91)
  have hk := h.keep hB
  have k : K base w _ := K.of_new hB h.base_le
  unfold S at cd hip
  have Hip := Lib.hid hip; have Hk := Lib.hid hk; have HK := Lib.hid k
  clear hip hk k h hB
  go_enter Tryz.func56, Tryz.ntmps56
  go_wp2_with fail
  refine Hip.out.mono ?_
  rintro e w1 ⟨rfl, rfl⟩
  go_wp2_with fail
  go_ret
  exact ⟨_, lv, rfl, HK.out, .inr ⟨by decide, ⟨_, _, rfl, heap_alloc_new _ _⟩, Hk.out⟩⟩

def syncErr (d : By) : Int := if partB d = true then 0 else 1
theorem syncErr_ne {d : By} : syncErr d ≠ 13 := by unfold syncErr; split <;> decide

theorem trySync {w : World} {base s f y k0 : Nat} {lv : Value} {st : St} (h : Ok w base s f y lv st) (hbd : Bd st k0) {d : By} {bs bd : Value} (hd : d.length ≤ maxLen)
    (hbs : BoxIn w base 27 bs (.pointer (some ⟨s, 0, none⟩))) (hbp : BoxIn w base 9 bd (S d)) :
    Calls Tryz.prog 56 #[bd, bs] w (TryPost base s f y st (syncErr d) (syncedSt d st) w) := by
  unfold syncErr
  by_cases hp : partB d = true
  · rw [if_pos hp]
    obtain ⟨vs, hv, ha⟩ := h.loose
    rcases hv.2 with ⟨rfl, h0⟩ | ⟨g, cap, cur, rfl, _⟩
    · exact trySync_nil h (List.length_eq_zero_iff.1 h0) hd hp hbs hbp
    · exact trySync_some h hbd hd hp hbs hbp
  · rw [if_neg hp]
    exact trySync_bad h hd (by simpa using hp) hbp

set_option maxHeartbeats 4000000 in
set_option maxRecDepth 100000 in
theorem Sync_any {w : World} {base s f y k : Nat} {lv : Value} {st : St} (h : Ok w base s f y lv st) (hbd : Bd st k) (het : Et w) (hg : 0 < base) {d : By} (hd : d.length ≤ maxLen) :
    Calls Tryz.prog 17 #[.pointer (some ⟨s, 0, none⟩), S d] w (DoPost base s f y (doN st (syncErr d)) (doSt st (syncErr d) (syncedSt d st)) w) := by
  have hmf : ∀ (fn : Fn) (first cap : Array Value) (w : World), (Instr.makeFunc fn first cap).run Tryz.prog w = .ok (.func fn first cap) w := fun _ _ _ _ => rfl
  have hbs := h.base_le
  have B1 := below_alloc w (.cells #[.pointer (some ⟨s, 0, none⟩)] 27)
  have B2 := below_alloc (w.alloc (.cells #[.pointer (some ⟨s, 0, none⟩)] 27)) (.cells #[S d] 9)
  have B := below_two B1 B2
  have kB : K base w _ := K.of_new B hbs
  have x1 := (box_new (t := 27) (.pointer (some ⟨s, 0, none⟩)) hbs).keep (K.of_new (base := base) B2 (by simp; omega)) rfl
  have x2 := box_new2 (t := 9) (.cells #[.pointer (some ⟨s, 0, none⟩)] 27) (S d) hbs
  have ht := trySync (h.keep B) hbd hd x1 x2
  have hdo := do_any (h.keep B) (het.keep kB hg) hg syncErr_ne (enters_of Tryz.func56 (by kernel_rfl) rfl) ht
  have Hd := Lib.hid hdo; have HB := Lib.hid B
  clear hdo ht x1 x2 kB B B1 B2 h het hbd
  unfold S at Hd HB ⊢
  go_enter Tryz.func17, Tryz.ntmps17
  go_wp2_with fail
  refine Hd.out.mono ?_
  rintro e w' hD
  have hD' := hD.from HB.out hbs
  obtain ⟨rfl, hD2⟩ := hD'
  have HD := Lib.hid hD2; clear hD2 hD
  go_wp2_with fail
  go_ret
  exact ⟨rfl, HD.out⟩
end Go.Proofs.YtccloieikkdcoaaGreatDoor
