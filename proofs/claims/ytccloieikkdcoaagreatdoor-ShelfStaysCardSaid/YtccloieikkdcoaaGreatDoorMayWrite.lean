/-
  mayWrite: the directory of a path to which so many bytes may be written, or an error.
-/
import Derived.Test.YtccloieikkdcoaaGreatDoorMay
import Derived.IntWalk
namespace Go.Proofs.YtccloieikkdcoaaGreatDoor
open Go Go.RowKit Go.Maps

def writeErr (p : By) (n : Int) (st : St) : Int :=
  if pathB p = false then 1 else if 262144 < n ∨ (tget p st.files = none ∧ 400 ≤ st.files.length) then 2
  else if st.room < (tsize st.files : Int) - tlen p st.files + n then 11 else 0

theorem writeErr_1 {p : By} {n : Int} {st : St} (h : pathB p = false) : writeErr p n st = 1 := by unfold writeErr; rw [if_pos h]
theorem writeErr_2 {p : By} {n : Int} {st : St} (h : pathB p = true) (h2 : 262144 < n ∨ (tget p st.files = none ∧ 400 ≤ st.files.length)) : writeErr p n st = 2 := by
  unfold writeErr; rw [if_neg (by rw [h]; simp), if_pos h2]
theorem writeErr_11 {p : By} {n : Int} {st : St} (h : pathB p = true) (h2 : ¬ (262144 < n ∨ (tget p st.files = none ∧ 400 ≤ st.files.length))) (h3 : st.room < (tsize st.files : Int) - tlen p st.files + n) : writeErr p n st = 11 := by
  unfold writeErr; rw [if_neg (by rw [h]; simp), if_neg h2, if_pos h3]
theorem writeErr_0 {p : By} {n : Int} {st : St} (h : pathB p = true) (h2 : ¬ (262144 < n ∨ (tget p st.files = none ∧ 400 ≤ st.files.length))) (h3 : ¬ st.room < (tsize st.files : Int) - tlen p st.files + n) : writeErr p n st = 0 := by
  unfold writeErr; rw [if_neg (by rw [h]; simp), if_neg h2, if_neg h3]

/-- What the region of mayWrite holds on to. -/
abbrev MayS (w : World) (s f : Nat) (room : Int) (w1 : World) : Prop := Below w.heap.size w w1 ∧ w1.cell? ⟨s, 0, none⟩ = some (.map (some f)) ∧ w1.cell? ⟨s, 3, none⟩ = some (.int .i64 room)
theorem mayKeep {w w1 w2 : World} {s f : Nat} {room : Int} (h : MayS w s f room w1) (hb : Below w1.heap.size w1 w2) : MayS w s f room w2 :=
  ⟨h.1.trans (hb.mono h.1.size), by rw [hb.cell (World.block_lt_of_cell? w1 _ h.2.1)]; exact h.2.1, by rw [hb.cell (World.block_lt_of_cell? w1 _ h.2.2)]; exact h.2.2⟩

theorem sum_wrap0 {t n : Nat} (ht : t ≤ 4611686018427387904) (hn : n ≤ 262144) : IntKind.i64.wrap (IntKind.i64.wrap (t : Int) + (n : Int)) = (t : Int) + n := by
  rw [IntWalk.i64_in (t : Int) (by omega), IntWalk.i64_in _ (by omega)]
theorem sum_wrap1 {t l n : Nat} (ht : t ≤ 4611686018427387904) (hl : l ≤ t) (hn : n ≤ 262144) : IntKind.i64.wrap (IntKind.i64.wrap ((t : Int) - (l : Int)) + (n : Int)) = (t : Int) - l + n := by
  rw [IntWalk.i64_in ((t : Int) - l) (by omega), IntWalk.i64_in _ (by omega)]

set_option maxHeartbeats 4000000 in
set_option maxRecDepth 100000 in
theorem mayWrite_any {w : World} {base s f y : Nat} {lv : Value} {st : St} (h : Ok w base s f y lv st) (p : By) (n : Nat) (hp : p.length ≤ maxLen) (hn : n ≤ maxLen) (hb : tsize st.files ≤ 4611686018427387904) :
    Calls Tryz.prog 45 #[.pointer (some ⟨s, 0, none⟩), S p, .int .i64 (n : Int)] w (MayPost p (writeErr p n st) w) := by
  unfold maxLen at hn
  cases hpb : pathB p
  · have hd := dir_no w hp hpb
    have He := Lib.hid (writeErr_1 (n := (n : Int)) (st := st) hpb)
    clear hpb h
    have Hd := Lib.hid hd; clear hd
    unfold S at Hd
    unfold S
    go_enter Tryz.func45, Tryz.ntmps45
    go_wp2_with fail
    refine Hd.out.mono ?_
    rintro e w' ⟨a, rfl, hf, hB⟩
    have Hf := Lib.hid hf; clear hf
    go_wp2_with fail
    go_ret2
    exact ⟨hB, .inr ⟨by rw [He.out]; decide, _, rfl, by rw [He.out]; exact Hf.out⟩⟩
  · have hd := dir_yes w hp hpb
    have Hb := Lib.hid hpb; clear hpb
    have Hd := Lib.hid hd; clear hd
    have Hk := Lib.hid h; clear h
    unfold S at Hd
    unfold S
    go_enter Tryz.func45, Tryz.ntmps45
    go_wp2_with fail
    refine Hd.out.mono ?_
    rintro e w' ⟨rfl, hB⟩
    have hk := Hk.out.keep hB
    have c0 := hk.c0
    have c3 := hk.c3
    have hlen := hk.files.len 3
    have hsz := fun (w1 : World) (k : MayS w' s f st.room w1) => size_any (hk.keep k.1).files hb
    have Hkk := Lib.hid hk
    have Hsz := Lib.hid hsz
    rcases hk.files.look p hp with ⟨h1, hlook⟩ | ⟨b, a, c, h1, h2, hlook⟩
    · have H1 := Lib.hid h1; clear h1 hk hsz
      by_cases hn1 : 262144 < n
      · have He := Lib.hid (writeErr_2 Hb.out (.inl (by omega : (262144 : Int) < n)) (st := st))
        have hn2 : (262144 : Int) < n := by omega
        go_wp2_with fail
        go_ret2
        exact ⟨hB.trans ((below_alloc w' _).mono hB.size), .inr ⟨by rw [He.out]; decide, _, rfl, by rw [He.out]; exact ⟨_, _, rfl, heap_alloc_new w' _⟩⟩⟩
      · have hn2 : ¬ (262144 : Int) < n := by omega
        by_cases hl : 400 ≤ st.files.length
        · have He := Lib.hid (writeErr_2 Hb.out (.inr ⟨H1.out, hl⟩) (st := st) (n := (n : Int)))
          have hl2 : (400 : Int) ≤ (st.files.length : Int) := by omega
          go_wp2_with fail
          go_ret2
          exact ⟨hB.trans ((below_alloc w' _).mono hB.size), .inr ⟨by rw [He.out]; decide, _, rfl, by rw [He.out]; exact ⟨_, _, rfl, heap_alloc_new w' _⟩⟩⟩
        · have hno : ¬ ((262144 : Int) < n ∨ (tget p st.files = none ∧ 400 ≤ st.files.length)) := by
            rintro (h | ⟨_, h⟩) <;> omega
          have Hno := Lib.hid hno; clear hno
          have hl2 : ¬ (400 : Int) ≤ (st.files.length : Int) := by omega
          have htl : tlen p st.files = 0 := by unfold tlen; rw [H1.out]; rfl
          have Htl := Lib.hid htl; clear htl
          go_wp2_with fail
          go_region_held3 (fun w1 => Below w'.heap.size w' w1 ∧ w1.cell? ⟨s, 0, none⟩ = some (.map (some f)) ∧ w1.cell? ⟨s, 3, none⟩ = some (.int .i64 st.room))
            (first | exact ⟨(Below.refl _ _).drew, c0, c3⟩ | go_keep | assumption)
            (first | (go_at_call 62; refine (Hsz.out _ (by assumption)).mono ?_; rintro e w2 ⟨rfl, hB2⟩; have hS2 := mayKeep (w := w') (s := s) (f := f) (room := st.room) (by assumption) hB2))
          go_wp2
          · have hS := hS2
            have hr : st.room < IntKind.i64.wrap (IntKind.i64.wrap (tsize st.files : Int) + (n : Int)) := by assumption
            rw [sum_wrap0 hb (by omega)] at hr
            have he := writeErr_11 Hb.out Hno.out (by rw [Htl.out]; omega)
            have He := Lib.hid he
            clear hr he
            go_ret2
            exact ⟨(hB.trans (hS.1.mono hB.size)).trans ((below_alloc _ _).mono (Nat.le_trans hB.size hS.1.size)), .inr ⟨by rw [He.out]; decide, _, rfl, by rw [He.out]; exact ⟨_, _, rfl, heap_alloc_new _ _⟩⟩⟩
          · have hS := hS2
            have hr : IntKind.i64.wrap (IntKind.i64.wrap (tsize st.files : Int) + (n : Int)) ≤ st.room := by assumption
            rw [sum_wrap0 hb (by omega)] at hr
            have he := writeErr_0 Hb.out Hno.out (by rw [Htl.out]; omega)
            have He := Lib.hid he
            clear hr he
            go_ret2
            exact ⟨hB.trans (hS.1.mono hB.size), .inl ⟨He.out, rfl⟩⟩
    · have hbl : b.length ≤ tsize st.files := by
        have := tlen_le (p := p) hk.files.2.1
        unfold tlen at this; rw [h1] at this; exact this
      have H1 := Lib.hid h1; clear h1 h2 hk hsz
      by_cases hn1 : 262144 < n
      · have He := Lib.hid (writeErr_2 Hb.out (.inl (by omega : (262144 : Int) < n)) (st := st))
        have hn2 : (262144 : Int) < n := by omega
        go_wp2_with fail
        go_ret2
        exact ⟨hB.trans ((below_alloc w' _).mono hB.size), .inr ⟨by rw [He.out]; decide, _, rfl, by rw [He.out]; exact ⟨_, _, rfl, heap_alloc_new w' _⟩⟩⟩
      · have hn2 : ¬ (262144 : Int) < n := by omega
        have hno : ¬ ((262144 : Int) < n ∨ (tget p st.files = none ∧ 400 ≤ st.files.length)) := by
          rintro (h | ⟨h, _⟩)
          · omega
          · rw [H1.out] at h; cases h
        have Hno := Lib.hid hno; clear hno
        have htl : tlen p st.files = b.length := by unfold tlen; rw [H1.out]; rfl
        have Htl := Lib.hid htl; clear htl
        go_wp2_with fail
        go_region_held3 (fun w1 => Below w'.heap.size w' w1 ∧ w1.cell? ⟨s, 0, none⟩ = some (.map (some f)) ∧ w1.cell? ⟨s, 3, none⟩ = some (.int .i64 st.room))
          (first | exact ⟨(Below.refl _ _).drew, c0, c3⟩ | go_keep | assumption)
          (first | (go_at_call 62; refine (Hsz.out _ (by assumption)).mono ?_; rintro e w2 ⟨rfl, hB2⟩; have hS2 := mayKeep (w := w') (s := s) (f := f) (room := st.room) (by assumption) hB2))
        go_wp2
        · have hS := hS2
          have hr : st.room < IntKind.i64.wrap (IntKind.i64.wrap ((tsize st.files : Int) - (b.length : Int)) + (n : Int)) := by assumption
          rw [sum_wrap1 hb hbl (by omega)] at hr
          have he := writeErr_11 Hb.out Hno.out (by rw [Htl.out]; omega)
          have He := Lib.hid he
          clear hr he
          go_ret2
          exact ⟨(hB.trans (hS.1.mono hB.size)).trans ((below_alloc _ _).mono (Nat.le_trans hB.size hS.1.size)), .inr ⟨by rw [He.out]; decide, _, rfl, by rw [He.out]; exact ⟨_, _, rfl, heap_alloc_new _ _⟩⟩⟩
        · have hS := hS2
          have hr : IntKind.i64.wrap (IntKind.i64.wrap ((tsize st.files : Int) - (b.length : Int)) + (n : Int)) ≤ st.room := by assumption
          rw [sum_wrap1 hb hbl (by omega)] at hr
          have he := writeErr_0 Hb.out Hno.out (by rw [Htl.out]; omega)
          have He := Lib.hid he
          clear hr he
          go_ret2
          exact ⟨hB.trans (hS.1.mono hB.size), .inl ⟨He.out, rfl⟩⟩
end Go.Proofs.YtccloieikkdcoaaGreatDoor
