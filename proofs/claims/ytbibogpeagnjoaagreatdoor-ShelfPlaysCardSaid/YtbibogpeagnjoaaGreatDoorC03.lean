/-
  mayRename: the directory of two paths, or an error.
  mayWrite: the directory of a path to which so many bytes may be written, or an error.
  The acts: how each is made, and how it is played on a map of files.
  add: an act is played on the files as they are, and is loose.
  bytes.Clone, maps.Clone.
-/
import Derived.Test.YtbibogpeagnjoaaGreatDoorC02
import Derived.IntWalk
import Derived.Maps.OwnSet
import Derived.Deep.RegionLaw
import Derived.Deep.AppendLies
import Derived.Deep.RegionHeld3
import Derived.Shelf.Abstract
import Derived.OwnWalk
import Derived.WalkSpells
import Derived.Laws.OwnMore
import Derived.Shelf.SlMaps.Clone
import Derived.Lib.Hide
import Derived.Test.YtbibogpeagnjoaaGreatDoorC01

namespace Go.Proofs.YtbibogpeagnjoaaGreatDoor
open Go Go.RowKit Go.Maps

def renameErr (p q : By) (t : Tb) : Int :=
  if pathB q = false then 1 else if pathB p = false then 1 else if (dirOf p == dirOf q) = false then 1 else if tget p t = none then 12 else 0

theorem below_two {w w' w'' : World} (h : Below w.heap.size w w') (k : Below w'.heap.size w' w'') : Below w.heap.size w w'' := h.trans (k.mono h.size)

set_option maxHeartbeats 4000000 in
set_option maxRecDepth 100000 in
theorem mayRename_any {w : World} {base s f y : Nat} {lv : Value} {st : St} (h : Ok w base s f y lv st) (p q : By) (hp : p.length ≤ maxLen) (hq : q.length ≤ maxLen) :
    Calls Tryz.prog 46 #[.pointer (some ⟨s, 0, none⟩), S p, S q] w (MayPost p (renameErr p q st.files) w) := by
  cases hqb : pathB q
  · have hd := dir_no w hq hqb
    have He : Hid (renameErr p q st.files = 1) := by show renameErr p q st.files = 1; unfold renameErr; rw [if_pos hqb]
    clear hqb h
    have Hd := Lib.hid hd; clear hd
    unfold S at Hd
    unfold S
    go_enter Tryz.func46, Tryz.ntmps46
    go_wp2_with fail
    refine Hd.out.mono ?_
    rintro e w' ⟨a, rfl, hf, hB⟩
    have Hf := Lib.hid hf; clear hf
    go_wp2_with fail
    go_ret2
    exact ⟨hB, .inr ⟨by rw [He.out]; decide, _, rfl, by rw [He.out]; exact Hf.out⟩⟩
  · cases hpb : pathB p
    · have hd := dir_yes w hq hqb
      have hd2 := fun w => dir_no (p := p) w hp hpb
      have He : Hid (renameErr p q st.files = 1) := by show renameErr p q st.files = 1; unfold renameErr; rw [if_neg (by rw [hqb]; simp), if_pos hpb]
      clear hqb hpb h
      have Hd := Lib.hid hd; have Hd2 := Lib.hid hd2; clear hd hd2
      unfold S at Hd Hd2
      unfold S
      go_enter Tryz.func46, Tryz.ntmps46
      go_wp2_with fail
      refine Hd.out.mono ?_
      rintro e w' ⟨rfl, hB⟩
      go_wp2_with fail
      refine (Hd2.out _).mono ?_
      rintro e w'' ⟨a, rfl, hf, hB2⟩
      have Hf := Lib.hid hf; clear hf
      go_wp2_with fail
      go_ret2
      exact ⟨below_two hB hB2, .inr ⟨by rw [He.out]; decide, _, rfl, by rw [He.out]; exact Hf.out⟩⟩
    · have hd := dir_yes w hq hqb
      have hd2 := fun w => dir_yes (p := p) w hp hpb
      cases he : (dirOf p == dirOf q)
      · have He : Hid (renameErr p q st.files = 1) := by show renameErr p q st.files = 1; unfold renameErr; rw [if_neg (by rw [hqb]; simp), if_neg (by rw [hpb]; simp), if_pos he]
        have hne : (dirOf p != dirOf q) = true := by simpa using he
        clear hqb hpb h
        have Hd := Lib.hid hd; have Hd2 := Lib.hid hd2; clear hd hd2
        unfold S at Hd Hd2
        unfold S
        go_enter Tryz.func46, Tryz.ntmps46
        go_wp2_with fail
        refine Hd.out.mono ?_
        rintro e w' ⟨rfl, hB⟩
        go_wp2_with fail
        refine (Hd2.out _).mono ?_
        rintro e w'' ⟨rfl, hB2⟩
        go_wp2_with fail
        go_ret2
        exact ⟨(below_two hB hB2).trans ((below_alloc _ _).mono (below_two hB hB2).size), .inr ⟨by rw [He.out]; decide, _, rfl, by rw [He.out]; exact ⟨_, _, rfl, heap_alloc_new _ _⟩⟩⟩
      · have hne : (dirOf p != dirOf q) = false := by simpa using he
        have hth := fun (w1 : World) (k : Below w.heap.size w w1) => there_any (h.keep k) p hp
        have He : Hid (renameErr p q st.files = thereErr p st.files) := by
          show renameErr p q st.files = thereErr p st.files
          unfold renameErr thereErr; simp only [hqb, hpb, he]; rfl
        clear hqb hpb h
        have Hd := Lib.hid hd; have Hd2 := Lib.hid hd2; have Ht := Lib.hid hth; clear hd hd2 hth
        unfold S at Hd Hd2 Ht
        unfold S
        go_enter Tryz.func46, Tryz.ntmps46
        go_wp2_with fail
        refine Hd.out.mono ?_
        rintro e w' ⟨rfl, hB⟩
        go_wp2_with fail
        refine (Hd2.out _).mono ?_
        rintro e w'' ⟨rfl, hB2⟩
        go_wp2_with fail
        refine (Ht.out _ (below_two hB hB2)).mono ?_
        rintro e w3 ⟨hB3, ⟨h0, rfl⟩ | ⟨h0, ev, rfl, hf⟩⟩
        · have H0 := Lib.hid h0; clear h0
          go_wp2_with fail
          go_ret2
          exact ⟨below_two (below_two hB hB2) hB3, .inl ⟨by rw [He.out]; exact H0.out, rfl⟩⟩
        · have H0 := Lib.hid h0; clear h0
          have Hf := Lib.hid hf; clear hf
          go_wp2_with fail
          go_ret2
          exact ⟨below_two (below_two hB hB2) hB3, .inr ⟨by rw [He.out]; exact H0.out, _, rfl, by rw [He.out]; exact Hf.out⟩⟩
end Go.Proofs.YtbibogpeagnjoaaGreatDoor


namespace Go.Proofs.YtbibogpeagnjoaaGreatDoor
open Go Go.RowKit Go.Maps

def writeErr (p : By) (n : Int) (st : St) : Int :=
  if pathB p = false then 1 else if 262144 < n ∨ (tget p st.files = none ∧ 400 ≤ st.files.length) then 2
  else if st.room < (tsize st.files : Int) - tlen p st.files + n then 11 else 0

theorem writeErr_1 {p : By} {n : Int} {st : St} (h : pathB p = false) : writeErr p n st = 1 := by unfold writeErr; rw [if_pos h]
theorem writeErr_2 {p : By} {n : Int} {st : St} (h : pathB p = true) (h2 : 262144 < n ∨ (tget p st.files = none ∧ 400 ≤ st.files.length)) : writeErr p n st = 2 := by
  unfold writeErr; rw [if_neg (by rw [h]; simp), if_pos h2]
theorem writeErr_11 {p : By} {n : Int} {st : St} (h : pathB p = true) (h2 : ¬ (262144 < n ∨ (tget p st.files = none ∧ 400 ≤ st.files.length))) (h3 : st.room < (tsize st.files : Int) - tlen p st.files + n) : writeErr p n st = 11 := by
  unfold writeErr; rw [if_neg (by rw [h]; simp), if_neg h2, if_pos h3]
theorem writeErr_0 {p : By} {n : Int} {st : St} (h : pathB p = true) (h2 : ¬ (262144 < n ∨ (tget p st.files = none ∧ 400 ≤ st.files.length))) (h3 : ¬ st.room < (tsize st.files : Int) - tlen p st.files + n) : writeErr p n st = 0 := by
  unfold writeErr; rw [if_neg (by rw [h]; simp), if_neg h2, if_neg h3]

/-- What the region of mayWrite holds on to. -/
abbrev MayS (w : World) (s f : Nat) (room : Int) (w1 : World) : Prop := Below w.heap.size w w1 ∧ w1.cell? ⟨s, 0, none⟩ = some (.map (some f)) ∧ w1.cell? ⟨s, 3, none⟩ = some (.int .i64 room)
theorem mayKeep {w w1 w2 : World} {s f : Nat} {room : Int} (h : MayS w s f room w1) (hb : Below w1.heap.size w1 w2) : MayS w s f room w2 :=
  ⟨h.1.trans (hb.mono h.1.size), by rw [hb.cell (World.block_lt_of_cell? w1 _ h.2.1)]; exact h.2.1, by rw [hb.cell (World.block_lt_of_cell? w1 _ h.2.2)]; exact h.2.2⟩

theorem sum_wrap0 {t n : Nat} (ht : t ≤ 4611686018427387904) (hn : n ≤ 262144) : IntKind.i64.wrap (IntKind.i64.wrap (t : Int) + (n : Int)) = (t : Int) + n := by
  rw [IntWalk.i64_in (t : Int) (by omega), IntWalk.i64_in _ (by omega)]
theorem sum_wrap1 {t l n : Nat} (ht : t ≤ 4611686018427387904) (hl : l ≤ t) (hn : n ≤ 262144) : IntKind.i64.wrap (IntKind.i64.wrap ((t : Int) - (l : Int)) + (n : Int)) = (t : Int) - l + n := by
  rw [IntWalk.i64_in ((t : Int) - l) (by omega), IntWalk.i64_in _ (by omega)]

set_option maxHeartbeats 4000000 in
set_option maxRecDepth 100000 in
theorem mayWrite_any {w : World} {base s f y : Nat} {lv : Value} {st : St} (h : Ok w base s f y lv st) (p : By) (n : Nat) (hp : p.length ≤ maxLen) (hn : n ≤ maxLen) (hb : tsize st.files ≤ 4611686018427387904) :
    Calls Tryz.prog 40 #[.pointer (some ⟨s, 0, none⟩), S p, .int .i64 (n : Int)] w (MayPost p (writeErr p n st) w) := by
  unfold maxLen at hn
  cases hpb : pathB p
  · have hd := dir_no w hp hpb
    have He := Lib.hid (writeErr_1 (n := (n : Int)) (st := st) hpb)
    clear hpb h
    have Hd := Lib.hid hd; clear hd
    unfold S at Hd
    unfold S
    go_enter Tryz.func40, Tryz.ntmps40
    go_wp2_with fail
    refine Hd.out.mono ?_
    rintro e w' ⟨a, rfl, hf, hB⟩
    have Hf := Lib.hid hf; clear hf
    go_wp2_with fail
    go_ret2
    exact ⟨hB, .inr ⟨by rw [He.out]; decide, _, rfl, by rw [He.out]; exact Hf.out⟩⟩
  · have hd := dir_yes w hp hpb
    have Hb := Lib.hid hpb; clear hpb
    have Hd := Lib.hid hd; clear hd
    have Hk := Lib.hid h; clear h
    unfold S at Hd
    unfold S
    go_enter Tryz.func40, Tryz.ntmps40
    go_wp2_with fail
    refine Hd.out.mono ?_
    rintro e w' ⟨rfl, hB⟩
    have hk := Hk.out.keep hB
    have c0 := hk.c0
    have c3 := hk.c3
    have hlen := hk.files.len 3
    have hsz := fun (w1 : World) (k : MayS w' s f st.room w1) => size_any (hk.keep k.1).files hb
    have Hkk := Lib.hid hk
    have Hsz := Lib.hid hsz
    rcases hk.files.look p hp with ⟨h1, hlook⟩ | ⟨b, a, c, h1, h2, hlook⟩
    · have H1 := Lib.hid h1; clear h1 hk hsz
      by_cases hn1 : 262144 < n
      · have He := Lib.hid (writeErr_2 Hb.out (.inl (by omega : (262144 : Int) < n)) (st := st))
        have hn2 : (262144 : Int) < n := by omega
        go_wp2_with fail
        go_ret2
        exact ⟨hB.trans ((below_alloc w' _).mono hB.size), .inr ⟨by rw [He.out]; decide, _, rfl, by rw [He.out]; exact ⟨_, _, rfl, heap_alloc_new w' _⟩⟩⟩
      · have hn2 : ¬ (262144 : Int) < n := by omega
        by_cases hl : 400 ≤ st.files.length
        · have He := Lib.hid (writeErr_2 Hb.out (.inr ⟨H1.out, hl⟩) (st := st) (n := (n : Int)))
          have hl2 : (400 : Int) ≤ (st.files.length : Int) := by omega
          go_wp2_with fail
          go_ret2
          exact ⟨hB.trans ((below_alloc w' _).mono hB.size), .inr ⟨by rw [He.out]; decide, _, rfl, by rw [He.out]; exact ⟨_, _, rfl, heap_alloc_new w' _⟩⟩⟩
        · have hno : ¬ ((262144 : Int) < n ∨ (tget p st.files = none ∧ 400 ≤ st.files.length)) := by
            rintro (h | ⟨_, h⟩) <;> omega
          have Hno := Lib.hid hno; clear hno
          have hl2 : ¬ (400 : Int) ≤ (st.files.length : Int) := by omega
          have htl : tlen p st.files = 0 := by unfold tlen; rw [H1.out]; rfl
          have Htl := Lib.hid htl; clear htl
          go_wp2_with fail
          go_region_held3 (fun w1 => Below w'.heap.size w' w1 ∧ w1.cell? ⟨s, 0, none⟩ = some (.map (some f)) ∧ w1.cell? ⟨s, 3, none⟩ = some (.int .i64 st.room))
            (first | exact ⟨(Below.refl _ _).drew, c0, c3⟩ | go_keep | assumption)
            (first | (go_at_call 58; refine (Hsz.out _ (by assumption)).mono ?_; rintro e w2 ⟨rfl, hB2⟩; have hS2 := mayKeep (w := w') (s := s) (f := f) (room := st.room) (by assumption) hB2))
          go_wp2
          · have hS := hS2
            have hr : st.room < IntKind.i64.wrap (IntKind.i64.wrap (tsize st.files : Int) + (n : Int)) := by assumption
            rw [sum_wrap0 hb (by omega)] at hr
            have he := writeErr_11 Hb.out Hno.out (by rw [Htl.out]; omega)
            have He := Lib.hid he
            clear hr he
            go_ret2
            exact ⟨(hB.trans (hS.1.mono hB.size)).trans ((below_alloc _ _).mono (Nat.le_trans hB.size hS.1.size)), .inr ⟨by rw [He.out]; decide, _, rfl, by rw [He.out]; exact ⟨_, _, rfl, heap_alloc_new _ _⟩⟩⟩
          · have hS := hS2
            have hr : IntKind.i64.wrap (IntKind.i64.wrap (tsize st.files : Int) + (n : Int)) ≤ st.room := by assumption
            rw [sum_wrap0 hb (by omega)] at hr
            have he := writeErr_0 Hb.out Hno.out (by rw [Htl.out]; omega)
            have He := Lib.hid he
            clear hr he
            go_ret2
            exact ⟨hB.trans (hS.1.mono hB.size), .inl ⟨He.out, rfl⟩⟩
    · have hbl : b.length ≤ tsize st.files := by
        have := tlen_le (p := p) hk.files.2.1
        unfold tlen at this; rw [h1] at this; exact this
      have H1 := Lib.hid h1; clear h1 h2 hk hsz
      by_cases hn1 : 262144 < n
      · have He := Lib.hid (writeErr_2 Hb.out (.inl (by omega : (262144 : Int) < n)) (st := st))
        have hn2 : (262144 : Int) < n := by omega
        go_wp2_with fail
        go_ret2
        exact ⟨hB.trans ((below_alloc w' _).mono hB.size), .inr ⟨by rw [He.out]; decide, _, rfl, by rw [He.out]; exact ⟨_, _, rfl, heap_alloc_new w' _⟩⟩⟩
      · have hn2 : ¬ (262144 : Int) < n := by omega
        have hno : ¬ ((262144 : Int) < n ∨ (tget p st.files = none ∧ 400 ≤ st.files.length)) := by
          rintro (h | ⟨h, _⟩)
          · omega
          · rw [H1.out] at h; cases h
        have Hno := Lib.hid hno; clear hno
        have htl : tlen p st.files = b.length := by unfold tlen; rw [H1.out]; rfl
        have Htl := Lib.hid htl; clear htl
        go_wp2_with fail
        go_region_held3 (fun w1 => Below w'.heap.size w' w1 ∧ w1.cell? ⟨s, 0, none⟩ = some (.map (some f)) ∧ w1.cell? ⟨s, 3, none⟩ = some (.int .i64 st.room))
          (first | exact ⟨(Below.refl _ _).drew, c0, c3⟩ | go_keep | assumption)
          (first | (go_at_call 58; refine (Hsz.out _ (by assumption)).mono ?_; rintro e w2 ⟨rfl, hB2⟩; have hS2 := mayKeep (w := w') (s := s) (f := f) (room := st.room) (by assumption) hB2))
        go_wp2
        · have hS := hS2
          have hr : st.room < IntKind.i64.wrap (IntKind.i64.wrap ((tsize st.files : Int) - (b.length : Int)) + (n : Int)) := by assumption
          rw [sum_wrap1 hb hbl (by omega)] at hr
          have he := writeErr_11 Hb.out Hno.out (by rw [Htl.out]; omega)
          have He := Lib.hid he
          clear hr he
          go_ret2
          exact ⟨(hB.trans (hS.1.mono hB.size)).trans ((below_alloc _ _).mono (Nat.le_trans hB.size hS.1.size)), .inr ⟨by rw [He.out]; decide, _, rfl, by rw [He.out]; exact ⟨_, _, rfl, heap_alloc_new _ _⟩⟩⟩
        · have hS := hS2
          have hr : IntKind.i64.wrap (IntKind.i64.wrap ((tsize st.files : Int) - (b.length : Int)) + (n : Int)) ≤ st.room := by assumption
          rw [sum_wrap1 hb hbl (by omega)] at hr
          have he := writeErr_0 Hb.out Hno.out (by rw [Htl.out]; omega)
          have He := Lib.hid he
          clear hr he
          go_ret2
          exact ⟨hB.trans (hS.1.mono hB.size), .inl ⟨He.out, rfl⟩⟩
end Go.Proofs.YtbibogpeagnjoaaGreatDoor


namespace Go.Proofs.YtbibogpeagnjoaaGreatDoor
open Go Go.RowKit Go.Maps

theorem TabIn.of_put {w : World} {base m n : Nat} {t : Tb} {es : List (Lit × DataW Value)} {p b : By} {v : Value} (hb : base ≤ m) (hr : Rises t) (he : EntsOk (RowIn w base) es t) (hv : RowIn w base v b)
    (hown : w.ownsMap (H := Value) Tryz.prog 9 heldR m n ((DataW.map es).put (.string p) (.held v))) : TabIn w base m (tput p b t) := by
  have he' : EntsOk (RowIn w base) (DataW.insert (.string p, .held v) (es.filter fun x => !x.1.sameKey (.string p))) (tput p b t) := (he.filter p).insert hv
  refine ⟨hb, hr.tput, _, ?_, he'⟩
  rw [← he'.length]
  exact tight hown

theorem TabIn.of_del {w : World} {base m n : Nat} {t : Tb} {es : List (Lit × DataW Value)} {p : By} (hb : base ≤ m) (hr : Rises t) (he : EntsOk (RowIn w base) es t)
    (hown : w.ownsMap (H := Value) Tryz.prog 9 heldR m n ((DataW.map es).del (.string p))) : TabIn w base m (tdel p t) := by
  have he' : EntsOk (RowIn w base) (es.filter fun x => !x.1.sameKey (.string p)) (tdel p t) := he.filter p
  refine ⟨hb, hr.tdel, _, ?_, he'⟩
  rw [← he'.length]
  exact tight hown

/-- What an act that is played comes to. -/
def PlayPost (base m : Nat) (t : Tb) (w : World) (e : Ending) (w' : World) : Prop := e = .returned (.tuple #[]) ∧ TabIn w' base m t ∧ w.grownBy w' (some m)

/-- A map is written: all cells are as they were. -/
theorem K.turned {base m : Nat} {a w w' : World} (k : K base a w) (hg : w.grownBy w' (some m)) (hb : base ≤ w.heap.size) (hm : base ≤ m) (hmap : ∃ xs c, w.heap[m]? = some (.map xs c)) : K base a w' := by
  refine k.grown hg hb fun r hr => ?_
  cases hr
  refine ⟨hm, fun c e fz h => ?_⟩
  obtain ⟨xs, cl, h'⟩ := hmap
  rw [h'] at h; cases h

theorem keep_turned {base m : Nat} {w w' : World} (hg : w.grownBy w' (some m)) (hm : base ≤ m) (hmap : ∃ xs c, w.heap[m]? = some (.map xs c)) : K base w w' := by
  obtain ⟨xs, cl, h'⟩ := hmap
  exact (K.refl base w).turned hg (by have := lt_of_block h'; omega) hm ⟨xs, cl, h'⟩

set_option maxHeartbeats 1000000 in
set_option maxRecDepth 100000 in
theorem playWrite {w : World} {base m : Nat} {t : Tb} (h : TabIn w base m t) (hl : t.length < maxLen) {x y v : Value} {p b : By} (hp : p.length ≤ maxLen) (hx : BoxIn w base 31 x v) (hv : RowIn w base v b) (hy : BoxIn w base 9 y (S p)) :
    Calls Tryz.prog 66 #[.map (some m), x, y] w (PlayPost base m (tput p b t) w) := by
  obtain ⟨hb, hr, es, hown, he⟩ := h
  obtain ⟨gx, rfl, _, hgx⟩ := hx
  obtain ⟨gy, rfl, _, hgy⟩ := hy
  have hmap : ∃ xs c, w.heap[m]? = some (Obj.map xs c) := by obtain ⟨xs, c, h, _⟩ := hown; exact ⟨xs, c, h⟩
  obtain ⟨a, c, rfl⟩ := hv.shape
  have cx := cell_of_one hgx
  have cy := cell_of_one hgy
  unfold S at cy
  have hkey := keyOf_S hp
  unfold S at hkey
  go_enter Tryz.func66, Tryz.ntmps66
  go_wp2_with (at_mapUpdate; refine wpList_mapUpdate_own _ rfl _ _ _ 54 rfl 9 31 law9 Tryz.underlying54 heldR m t.length (.map es) rfl hown hl _ _ _ rfl rfl hkey (.held (.slice a b.length c)) [] rfl ?_; intro w1 hown1 hg1)
  go_end0
  have k := keep_turned hg1 hb hmap
  exact ⟨rfl, TabIn.of_put hb hr (he.mono fun _ _ h => h.keep k) (hv.keep k) hown1, hg1⟩

set_option maxHeartbeats 1000000 in
set_option maxRecDepth 100000 in
theorem playRename {w : World} {base m : Nat} {t : Tb} (h : TabIn w base m t) (hl : t.length < maxLen) {x y : Value} {p q : By} (hp : p.length ≤ maxLen) (hq : q.length ≤ maxLen) (hx : BoxIn w base 9 x (S p)) (hy : BoxIn w base 9 y (S q)) :
    Calls Tryz.prog 67 #[.map (some m), x, y] w (PlayPost base m ((Act.rename p q).play t) w) := by
  have hlook := h.look p hp
  have h0 := h
  obtain ⟨hb, hr, es, hown, he⟩ := h
  obtain ⟨gx, rfl, bx, hgx⟩ := hx
  obtain ⟨gy, rfl, bY, hgy⟩ := hy
  have hmap : ∃ xs c, w.heap[m]? = some (Obj.map xs c) := by obtain ⟨xs, c, h, _⟩ := hown; exact ⟨xs, c, h⟩
  have cx := cell_of_one hgx
  have cy := cell_of_one hgy
  have hkp := keyOf_S hp
  have hkq := keyOf_S hq
  unfold S at cx cy hkp hkq
  rcases hlook with ⟨h1, hlook⟩ | ⟨b, a, c, h1, h2, hlook⟩
  · have H1 : Hid ((Act.rename p q).play t = t) := by show (match tget p t with | none => t | some b => tput q b (tdel p t)) = t; rw [h1]
    clear h1
    have H0 := Lib.hid h0
    clear h0 hown he
    go_enter Tryz.func67, Tryz.ntmps67
    go_wp2
    go_end0
    exact ⟨rfl, by rw [H1.out]; exact H0.out, ⟨rfl, rfl, rfl, Nat.le_refl _, fun _ _ _ => rfl⟩⟩
  · have H1 : Hid ((Act.rename p q).play t = tput q b (tdel p t)) := by show (match tget p t with | none => t | some b => tput q b (tdel p t)) = _; rw [h1]
    clear h1
    go_enter Tryz.func67, Tryz.ntmps67
    go_wp2_with (first
      | (at_delete; refine wpList_delete_own _ rfl _ _ 54 9 rfl 31 law9 Tryz.underlying54 heldR m t.length (.map es) rfl hown _ _ rfl hkp ?_; intro w1 hown1 hturn1; have cy1 := hturn1.grown.cell cy (by intro e; cases e; obtain ⟨_, _, hm⟩ := hmap; rw [hm] at hgy; cases hgy))
      | (at_mapUpdate; refine wpList_mapUpdate_own _ rfl _ _ _ 54 rfl 9 31 law9 Tryz.underlying54 heldR m t.length ((DataW.map es).del (.string p)) rfl hown1 hl _ _ _ rfl rfl hkq (.held (.slice a b.length c)) [] rfl ?_; intro w2 hown2 hg2))
    go_end0
    have k1 := keep_turned hturn1.grown hb hmap
    have hmap1 : ∃ xs c, w1.heap[m]? = some (Obj.map xs c) := by obtain ⟨xs, c, h, _⟩ := hown1; exact ⟨xs, c, h⟩
    have k2 := k1.trans (keep_turned hg2 hb hmap1)
    refine ⟨rfl, ?_, grown_trans hturn1.grown hg2⟩
    rw [H1.out]
    exact TabIn.of_put (es := es.filter fun x => !x.1.sameKey (.string p)) hb hr.tdel ((he.filter p).mono fun _ _ h => h.keep k2) (h2.keep k2) hown2

set_option maxHeartbeats 1000000 in
set_option maxRecDepth 100000 in
theorem playRemove {w : World} {base m : Nat} {t : Tb} (h : TabIn w base m t) {x : Value} {p : By} (hp : p.length ≤ maxLen) (hx : BoxIn w base 9 x (S p)) :
    Calls Tryz.prog 68 #[.map (some m), x] w (PlayPost base m (tdel p t) w) := by
  obtain ⟨hb, hr, es, hown, he⟩ := h
  obtain ⟨gx, rfl, bx, hgx⟩ := hx
  have hmap : ∃ xs c, w.heap[m]? = some (Obj.map xs c) := by obtain ⟨xs, c, h, _⟩ := hown; exact ⟨xs, c, h⟩
  have cx := cell_of_one hgx
  have hkp := keyOf_S hp
  unfold S at cx hkp
  go_enter Tryz.func68, Tryz.ntmps68
  go_wp2_with (at_delete; refine wpList_delete_own _ rfl _ _ 54 9 rfl 31 law9 Tryz.underlying54 heldR m t.length (.map es) rfl hown _ _ rfl hkp ?_; intro w1 hown1 hturn1)
  go_end0
  have k1 := keep_turned hturn1.grown hb hmap
  exact ⟨rfl, TabIn.of_del hb hr (he.mono fun _ _ h => h.keep k1) hown1, hturn1.grown⟩

/-! ### how an act is made -/
def MadePost (base : Nat) (a : Act) (w : World) (e : Ending) (w' : World) : Prop := ∃ fn first cap, e = .returned (.func fn first cap) ∧ ActIn w' base (.func fn first cap) a ∧ Below w.heap.size w w'

theorem box_new {w : World} {base : Nat} {t : TypeId} (v : Value) (hb : base ≤ w.heap.size) : BoxIn (w.alloc (.cells #[v] t)) base t (.pointer (some ⟨w.heap.size, 0, none⟩)) v := ⟨_, rfl, hb, heap_alloc_new w _⟩

theorem box_new2 {w : World} {base : Nat} {t : TypeId} (o : Obj) (v : Value) (hb : base ≤ w.heap.size) : BoxIn ((w.alloc o).alloc (.cells #[v] t)) base t (.pointer (some ⟨w.heap.size + 1, 0, none⟩)) v := by
  have h := heap_alloc_new (w.alloc o) (.cells #[v] t)
  have e : (w.alloc o).heap.size = w.heap.size + 1 := by simp
  rw [e] at h
  exact ⟨_, rfl, by omega, h⟩

set_option maxHeartbeats 1000000 in
set_option maxRecDepth 100000 in
theorem write_any {w : World} {base : Nat} (hb : base ≤ w.heap.size) {p b : By} {v : Value} (hv : RowIn w base v b) : Calls Tryz.prog 42 #[S p, v] w (MadePost base (.write p b) w) := by
  have hmf : ∀ (fn : Fn) (first cap : Array Value) (w : World), (Instr.makeFunc fn first cap).run Tryz.prog w = .ok (.func fn first cap) w := fun _ _ _ _ => rfl
  obtain ⟨a, c, rfl⟩ := hv.shape
  go_enter Tryz.func42, Tryz.ntmps42
  go_wp2
  go_ret
  have k1 := K.of_new (below_alloc w (.cells #[S p] 9)) hb
  have hb1 : base ≤ (w.alloc (.cells #[S p] 9)).heap.size := by simp; omega
  have k2 := K.of_new (below_alloc (w.alloc (.cells #[S p] 9)) (.cells #[.slice a b.length c] 31)) hb1
  refine ⟨_, _, _, rfl, ⟨_, _, _, rfl, box_new2 _ (.slice a b.length c) hb, (hv.keep k1).keep k2, (box_new (S p) hb).keep k2 rfl⟩, below_two (below_alloc _ _) (below_alloc _ _)⟩

set_option maxHeartbeats 1000000 in
set_option maxRecDepth 100000 in
theorem rename_any {w : World} {base : Nat} (hb : base ≤ w.heap.size) {p q : By} : Calls Tryz.prog 47 #[S p, S q] w (MadePost base (.rename p q) w) := by
  have hmf : ∀ (fn : Fn) (first cap : Array Value) (w : World), (Instr.makeFunc fn first cap).run Tryz.prog w = .ok (.func fn first cap) w := fun _ _ _ _ => rfl
  go_enter Tryz.func47, Tryz.ntmps47
  go_wp2
  go_ret
  have hb1 : base ≤ (w.alloc (.cells #[S p] 9)).heap.size := by simp; omega
  have k2 := K.of_new (below_alloc (w.alloc (.cells #[S p] 9)) (.cells #[S q] 9)) hb1
  refine ⟨_, _, _, rfl, ⟨_, _, rfl, (box_new (S p) hb).keep k2 rfl, box_new2 _ (S q) hb⟩, below_two (below_alloc _ _) (below_alloc _ _)⟩

set_option maxHeartbeats 1000000 in
set_option maxRecDepth 100000 in
theorem remove_any {w : World} {base : Nat} (hb : base ≤ w.heap.size) {p : By} : Calls Tryz.prog 51 #[S p] w (MadePost base (.remove p) w) := by
  have hmf : ∀ (fn : Fn) (first cap : Array Value) (w : World), (Instr.makeFunc fn first cap).run Tryz.prog w = .ok (.func fn first cap) w := fun _ _ _ _ => rfl
  go_enter Tryz.func51, Tryz.ntmps51
  go_wp2
  go_ret
  exact ⟨_, _, _, rfl, ⟨_, rfl, box_new (S p) hb⟩, below_alloc _ _⟩
end Go.Proofs.YtbibogpeagnjoaaGreatDoor


namespace Go.Proofs.YtbibogpeagnjoaaGreatDoor
open Go Go.RowKit Go.Maps Go.Shelf

theorem infoAct : (Tryz.prog.info? 75).map (fun i => (i.zero, i.size, i.bytes)) = some (some (.agg #[.string ⟨#[]⟩, .nilFunc]), 2, 24) := by kernel_rfl

/-- The paths of an act are no longer than may be. -/
def Act.fits : Act → Prop
  | .write p _ => p.length ≤ maxLen
  | .rename p q => p.length ≤ maxLen ∧ q.length ≤ maxLen
  | .remove p => p.length ≤ maxLen

/-- An act's function, called on a map. -/
theorem play_any {w : World} {base m : Nat} {t : Tb} {pv : Value} {a : Act} (ha : ActIn w base pv a) (hf : a.fits) (h : TabIn w base m t) (hl : t.length < maxLen) :
    ∃ g cap, pv = .func (.func g) #[] cap ∧ (∀ args w, (callFunc g args).run Tryz.prog w = .ok (.enter g args) w) ∧ Calls Tryz.prog g (#[.map (some m)] ++ cap) w (PlayPost base m (a.play t) w) := by
  cases a with
  | write p b =>
    obtain ⟨x, y, v, rfl, h1, h2, h3⟩ := ha
    exact ⟨_, _, rfl, enters_of Tryz.func66 (by kernel_rfl) rfl, playWrite h hl hf h1 h2 h3⟩
  | rename p q =>
    obtain ⟨x, y, rfl, h1, h2⟩ := ha
    exact ⟨_, _, rfl, enters_of Tryz.func67 (by kernel_rfl) rfl, playRename h hl hf.1 hf.2 h1 h2⟩
  | remove p =>
    obtain ⟨x, rfl, h1⟩ := ha
    exact ⟨_, _, rfl, enters_of Tryz.func68 (by kernel_rfl) rfl, playRemove h hf h1⟩

theorem cell_of_block {w : World} {b : Nat} {cs : Array Value} {t : TypeId} {fz : Nat × Nat} (h : w.heap[b]? = some (.cells cs t fz)) (i : Nat) : w.cell? ⟨b, i, none⟩ = cs[i]? := by simp [World.cell?, h]

theorem ownBlock_row {w : World} {base n : Nat} {lv : Value} {vs : List Value} (h : w.ownsRow base 75 2 lv n vs) {r : Nat} (hr : lv.ownBlock = some r) : base ≤ r ∧ ∃ cur, w.heap[r]? = some (.cells cur 75 (0, 0)) := by
  rcases h.2 with ⟨hn, _⟩ | ⟨gg, _, cur, hv, hb, hgg, _⟩
  · rw [hn] at hr; cases hr
  · rw [hv] at hr; cases hr; exact ⟨hb, cur, hgg⟩

/-- Behind add: what is loose has one act more. -/
theorem add_end {w w1 w2 w3 : World} {base s f y gg cap2 : Nat} {lv pv : Value} {st : St} {a : Act} {d : By} {t : Tb} {vs : List Value} {o : Obj} (hk1 : K base w w1) (h1 : Ok w1 base s f y lv st) (ha1 : ActIn w1 base pv a)
    (hg2 : w1.grownBy w2 (some f)) (ht2 : TabIn w2 base f t) (hown2 : w2.ownsRow base 75 2 lv st.loose.length vs) (hacts : ActsIn w1 base vs st.loose)
    (hgrow3 : (w2.alloc o).drew.grownBy w3 lv.ownBlock) (hown3 : w3.ownsRow base 75 2 (.slice (some ⟨gg, 0, none⟩) (st.loose.length + 1) cap2) (st.loose.length + 1) (vs ++ [S d, pv])) :
    K base w (w3.setCell ⟨s, 2, none⟩ (.slice (some ⟨gg, 0, none⟩) (st.loose.length + 1) cap2)) ∧
      Ok (w3.setCell ⟨s, 2, none⟩ (.slice (some ⟨gg, 0, none⟩) (st.loose.length + 1) cap2)) base s f y (.slice (some ⟨gg, 0, none⟩) (st.loose.length + 1) cap2) { st with files := t, loose := st.loose ++ [(d, a)] } := by
  have hbs := h1.base_le
  have k2 : K base w1 w2 := (K.refl _ _).turned hg2 hbs h1.files.1 h1.files.isMap
  have hbw : base ≤ w2.heap.size := Nat.le_trans hbs hg2.size
  have k3 : K base w1 (w2.alloc o).drew := (k2.alloc hbw o).drew
  have hgo : ∀ i, i < w2.heap.size → (w2.alloc o).drew.heap[i]? = w2.heap[i]? := fun i hi => Below.heap_alloc w2 o i hi
  have k4 : K base w1 w3 := k3.grown hgrow3 (by show base ≤ (w2.alloc o).heap.size; simp; omega) fun r hr => by
    obtain ⟨hb, cur, hc⟩ := ownBlock_row hown2 hr
    refine ⟨hb, fun c e fz h => ?_⟩
    rw [hgo r (lt_of_block hc), hc] at h
    cases h; rfl
  -- blocks that are as they were
  have hkeep : ∀ i, i < w1.heap.size → i ≠ f → lv.ownBlock ≠ some i → w3.heap[i]? = w1.heap[i]? := fun i hi hf hl => by
    have h2 : i < w2.heap.size := Nat.lt_of_lt_of_le hi hg2.size
    rw [hgrow3.block i (by show i < (w2.alloc o).heap.size; simp; omega) (fun e => hl e.symm), hgo i h2, hg2.block i hi (fun e => hf (by cases e; rfl))]
  obtain ⟨xf, cf, hmf⟩ := h1.files.isMap
  obtain ⟨xy, cy, hmy⟩ := h1.synced.isMap
  have hsf : s ≠ f := fun e => by rw [← e, h1.blk] at hmf; cases hmf
  have hsy : s ≠ y := fun e => by rw [← e, h1.blk] at hmy; cases hmy
  have row1 : ∀ r, lv.ownBlock = some r → ∃ cur, w1.heap[r]? = some (.cells cur 75 (0, 0)) := fun r hr => by
    obtain ⟨vs', hv, _⟩ := h1.loose
    exact (ownBlock_row hv hr).2
  have hls : lv.ownBlock ≠ some s := fun e => by obtain ⟨cur, hc⟩ := row1 _ e; rw [h1.blk] at hc; cases hc
  have hly : lv.ownBlock ≠ some y := fun e => by obtain ⟨cur, hc⟩ := row1 _ e; rw [hmy] at hc; cases hc
  have hlf : lv.ownBlock ≠ some f := fun e => by obtain ⟨cur, hc⟩ := row1 _ e; rw [hmf] at hc; cases hc
  have hs3 : w3.heap[s]? = some (.cells (shelfCells f y lv st) 64 (0, 0)) := (hkeep s (lt_of_block h1.blk) hsf hls).trans h1.blk
  have hy3 : w3.heap[y]? = w1.heap[y]? := hkeep y (lt_of_block hmy) h1.ne.symm hly
  have hf3 : w3.heap[f]? = w2.heap[f]? := by
    rw [hgrow3.block f (by show f < (w2.alloc o).heap.size; have := ht2.lt; simp; omega) (fun e => hlf e.symm), hgo f ht2.lt]
  have k5 : K base w1 (w3.setCell ⟨s, 2, none⟩ (.slice (some ⟨gg, 0, none⟩) (st.loose.length + 1) cap2)) := k4.setShelf hs3 h1.base_s 2 _
  have hset : ∀ i, i ≠ s → (w3.setCell ⟨s, 2, none⟩ (.slice (some ⟨gg, 0, none⟩) (st.loose.length + 1) cap2)).heap[i]? = w3.heap[i]? := fun i hi => Below.heap_setCell _ _ _ _ hi
  have k25 : K base w2 (w3.setCell ⟨s, 2, none⟩ (.slice (some ⟨gg, 0, none⟩) (st.loose.length + 1) cap2)) := by
    have k4' : K base w2 w3 := ((K.refl base w2).alloc hbw o).drew.grown hgrow3 (by show base ≤ (w2.alloc o).heap.size; simp; omega) fun r hr => by
      obtain ⟨hb, cur, hc⟩ := ownBlock_row hown2 hr
      refine ⟨hb, fun c e fz h => ?_⟩
      rw [hgo r (lt_of_block hc), hc] at h
      cases h; rfl
    exact k4'.setShelf hs3 h1.base_s 2 _
  refine ⟨hk1.trans k5, ?_, h1.base_s, h1.ne, ?_, ?_, ?_⟩
  · rw [set_block hs3]; rfl
  · exact ht2.keep k25 ((hset f hsf.symm).trans hf3)
  · exact h1.synced.keep k5 ((hset y hsy.symm).trans hy3)
  · refine ⟨vs ++ [S d, pv], ?_, ActsIn.snoc (a := (d, a)) rfl (ha1.keep k5) (hacts.keep k5)⟩
    rw [show (st.loose ++ [(d, a)]).length = st.loose.length + 1 by simp]
    refine ownsRow_setCell_other hown3 (fun e => ?_) _
    have e' : gg = s := by simpa [Value.ownBlock] using e
    obtain ⟨_, cur, hc⟩ := ownBlock_row hown3 (r := gg) rfl
    rw [e', hs3] at hc; cases hc

def AddPost (base s f y : Nat) (st : St) (w : World) (e : Ending) (w' : World) : Prop := e = .returned (.tuple #[]) ∧ K base w w' ∧ ∃ lv, Ok w' base s f y lv st

set_option maxHeartbeats 4000000 in
set_option maxRecDepth 100000 in
theorem add_any {w : World} {base s f y : Nat} {lv : Value} {st : St} (h : Ok w base s f y lv st) {pv : Value} {a : Act} {d : By} (ha : ActIn w base pv a) (hf : a.fits) (hl : st.files.length < maxLen) (hk : (st.loose.length + 1) * 24 ≤ 140737488355328) :
    Calls Tryz.prog 41 #[.pointer (some ⟨s, 0, none⟩), .agg #[S d, pv]] w (AddPost base s f y { st with files := a.play st.files, loose := st.loose ++ [(d, a)] } w) := by
  have hB1 : Below w.heap.size w (w.alloc (.cells #[S d, pv] 75)) := below_alloc _ _
  have h1 := h.keep hB1
  have ha1 := ha.keep (K.of_new hB1 h.base_le)
  obtain ⟨g, cap, rfl, hent, hpl⟩ := play_any (w := (w.alloc (.cells #[S d, pv] 75)).drew) (base := base) (m := f) (t := st.files) ha1 hf h1.files hl
  have Hpl := Lib.hid hpl
  have c0 := h1.c0
  have cb : (w.alloc (.cells #[S d, .func (.func g) #[] cap] 75)).cell? ⟨w.heap.size, 1, none⟩ = some (.func (.func g) #[] cap) := cell_of_block (heap_alloc_new w _) 1
  have hnf : w.heap.size ≠ f := by have := h.files.lt; omega
  have hsf : s ≠ f := by
    intro e; obtain ⟨xs, c, hm⟩ := h.files.isMap; rw [← e, h.blk] at hm; cases hm
  unfold S at cb Hpl c0
  have Hall := Lib.hid h1
  have Ha1 := Lib.hid ha1
  clear hpl ha1 h1 ha
  unfold S
  go_enter Tryz.func41, Tryz.ntmps41
  go_wp2_with fail
  go_region_held3 (fun w1 => w1.cell? ⟨w.heap.size, 1, none⟩ = some (.func (.func g) #[] cap) ∧ w1.cell? ⟨s, 0, none⟩ = some (.map (some f)))
    (first | exact ⟨cb, c0⟩ | go_keep | assumption)
    (first | (refine Hpl.out.mono ?_; rintro e w2 ⟨rfl, ht2, hg2⟩; have hS2 := And.intro (hg2.cell cb (by intro e; cases e; exact hnf rfl)) (hg2.cell c0 (by intro e; cases e; exact hsf rfl))))
  have hs2 : w2.heap[s]? = some (.cells (shelfCells f y lv st) 64 (0, 0)) := by
    rw [hg2.block s (lt_of_block Hall.out.blk) (by intro e; cases e; exact hsf rfl)]; exact Hall.out.blk
  have hbx : w2.heap[w.heap.size]? = some (.cells #[.string ⟨d.toArray⟩, .func (.func g) #[] cap] 75 (0, 0)) := by
    rw [hg2.block w.heap.size (by simp) (by intro e; cases e; exact hnf rfl)]; exact heap_alloc_new w _
  have d2 : w2.cell? ⟨s, 2, none⟩ = some lv := cell_of_block hs2 2
  have e2 : w2.frozen? ⟨s, 2, none⟩ = false := by simp [World.frozen?, hs2]
  have b0 : w2.cell? ⟨w.heap.size, 0, none⟩ = some (.string ⟨d.toArray⟩) := cell_of_block hbx 0
  have b1 : w2.cell? ⟨w.heap.size, 1, none⟩ = some (.func (.func g) #[] cap) := cell_of_block hbx 1
  obtain ⟨vs, hown0, hacts⟩ := Hall.out.loose
  have hlvf : lv.ownBlock ≠ some f := by
    intro e
    rcases hown0.2 with ⟨hn, _⟩ | ⟨gg, _, cur, hv, _, hgg, _⟩
    · rw [hn] at e; cases e
    · rw [hv] at e; cases e
      obtain ⟨xs, c, hm⟩ := Hall.out.files.isMap
      rw [hgg] at hm; cases hm
  have hown2 : w2.ownsRow base 75 2 lv st.loose.length vs := World.ownsRow.kept (w := (w.alloc (.cells #[S d, .func (.func g) #[] cap] 75)).drew) (w' := w2) hown0 hg2 (.inr hlvf)
  obtain ⟨i0, hi0, hz0, hz1, hz2⟩ := info_parts infoAct
  have hsz := hg2.size
  have hbw : base ≤ w2.heap.size := Nat.le_trans Hall.out.base_le hsz
  have hlvs : lv.ownBlock ≠ some s := by
    intro e
    rcases hown0.2 with ⟨hn, _⟩ | ⟨gg, _, cur, hv, _, hgg, _⟩
    · rw [hn] at e; cases e
    · rw [hv] at e; cases e
      rw [Hall.out.blk] at hgg; cases hgg
  have hslt := lt_of_block hs2
  clear hS2
  have hslt2 : s < ((w2.alloc (.cells #[.string ⟨d.toArray⟩, .func (.func g) #[] cap] 75)).drew).heap.size := by simp; omega
  go_wp2_with fail
  go_region_law (first | (refine step_append_lies _ (by rfl) _ _ _ (by rfl) base 75 i0 _ 2 24 Tryz.underlying62 hi0 hz0 hz1 hz2 rfl (by omega) lv st.loose.length vs (by rfl) ((hown2.alloc _).drew) ⟨w2.heap.size, 0, none⟩ 1 1 [.string ⟨d.toArray⟩, .func (.func g) #[] cap] (by rfl) (by rfl) (World.news_of_block (cs := #[.string ⟨d.toArray⟩, .func (.func g) #[] cap]) (t := 75) (fr := (0, 0)) (heap_alloc_new w2 _)) (by simp [Value.oneCell']) (by omega) (by unfold maxLen; omega) hk (by simp; omega) (w2.heap.size + 1) (by simp) ?_; intro gg cap2 w3 hown3 hgrow3 hat3 hlt3; have d3 := (hgrow3.cell_far ⟨s, 2, none⟩ hslt2 (Ne.symm hlvs)).trans ((World.cell?_alloc_lt w2 _ ⟨s, 2, none⟩ hslt).trans d2); have e3 := (hgrow3.frozen_far ⟨s, 2, none⟩ hslt2 (Ne.symm hlvs)).trans ((World.frozen?_alloc_old w2 _ ⟨s, 2, none⟩ (Nat.ne_of_lt hslt)).trans e2)))
  all_goals go_end0
  all_goals (
    have E := add_end (w := w) (K.of_new hB1 h.base_le) Hall.out Ha1.out (t := a.play st.files) (d := d) (gg := gg) (cap2 := cap2) (w3 := w3) (w2 := w2) (vs := vs) ⟨hg2.os, hg2.tape, hg2.output, hg2.size, hg2.block⟩ ht2 hown2 hacts hgrow3 hown3
    exact ⟨rfl, E.1, _, E.2⟩)
end Go.Proofs.YtbibogpeagnjoaaGreatDoor


namespace Go.Proofs.YtbibogpeagnjoaaGreatDoor
open Go Go.RowKit Go.Maps

/-- The slice value v holds the bytes b, wherever. -/
def BytesAt (w : World) (v : Value) (b : By) : Prop :=
  (v = .slice none 0 0 ∧ b = []) ∨ ∃ a c, v = .slice (some a) b.length c ∧ ∀ i, i < b.length → w.cell? (a.add i) = (b[i]?).map bv

theorem RowIn.bytes {w : World} {base : Nat} {v : Value} {b : By} (h : RowIn w base v b) : BytesAt w v b := by
  have hc := h
  rcases h.2 with ⟨h1, h2⟩ | ⟨g, cap, cur, rfl, hb, hg, r1, r2, r3, r4⟩
  · exact .inl ⟨h1, List.length_eq_zero_iff.1 h2⟩
  · refine .inr ⟨⟨g, 0, none⟩, cap, rfl, fun i hi => ?_⟩
    have := World.ownsRow.cells hc (g := g) rfl i (bv b[i]) (by simp [hi])
    rw [this, List.getElem?_eq_getElem hi]; rfl

theorem infoByte : (Tryz.prog.info? 5).map (fun i => (i.zero, i.size, i.bytes)) = some (some (.int .u8 0), 1, 1) := by kernel_rfl

def ClonePost (w : World) (b : By) (e : Ending) (w' : World) : Prop := ∃ v', e = .returned v' ∧ RowIn w' w.heap.size v' b ∧ Below w.heap.size w w'

set_option maxHeartbeats 1000000 in
set_option maxRecDepth 100000 in
theorem clone_any {w : World} {v : Value} {b : By} (h : BytesAt w v b) (hb : b.length ≤ 140737488355328) : Calls Tryz.prog 32 #[v] w (ClonePost w b) := by
  have q22 : ∀ (w : World) (a : Option Addr) (n c n' c' : Nat), (binOp .eql 31 (.slice a n c) (.slice none n' c')).run Tryz.prog w = .ok (.bool a.isNone) w := fun w a n c n' c' => Lib.run_eql_slice_nil w _ _ a n c n' c' Tryz.underlying31
  rcases h with ⟨rfl, rfl⟩ | ⟨a, c, rfl, hc⟩
  · go_enter Tryz.func32, Tryz.ntmps32
    go_wp2
    go_ret
    exact ⟨_, rfl, World.ownsRow_nil _ _ _ _, Below.refl _ _⟩
  · obtain ⟨i0, hi, hz0, hz1, hz2⟩ := info_parts infoByte
    have Hc := Lib.hid hc; clear hc
    go_enter Tryz.func32, Tryz.ntmps32
    go_wp2_with (at_builtin; refine wpList_append_own _ rfl _ _ 31 rfl w.heap.size 5 i0 (.int .u8 0) 1 1 Tryz.underlying31 hi hz0 hz1 hz2 rfl (by decide) _ _ _ rfl (World.ownsRow_made w #[] 0 (Nat.le_refl _) (Nat.zero_le _) rfl) a b.length c (b.map bv) rfl ?qc1 ?qc2 ?qc3 ?qc4 ?qc5 ?qc6 ?_)
    case qc1 => simp
    case qc2 =>
      intro j u hj
      have hjn : j < b.length := by
        have := (List.getElem?_eq_some_iff.1 hj).1
        simpa using this
      have e := Hc.out j hjn
      rw [List.getElem?_map] at hj
      rw [hj] at e
      rw [World.cell?_alloc_lt _ _ _ (World.block_lt_of_cell? w _ e)]
      exact e
    case qc3 => intro u hu; obtain ⟨x, _, rfl⟩ := List.mem_map.1 hu; rfl
    case qc4 => unfold maxLen; omega
    case qc5 => omega
    case qc6 => simp
    intro v' w1 hown hgrow hnil
    go_wp2
    go_ret
    refine ⟨v', rfl, by simpa [RowIn] using hown, ?_⟩
    exact ((Below.refl _ w).alloc (Nat.le_refl _) _).grown hgrow (by simp) (by intro k hk; simp [Value.ownBlock] at hk; omega)

/-! ### maps.Clone -/
def MapClonePost (w : World) (base : Nat) (t : Tb) (e : Ending) (w' : World) : Prop :=
  e = .returned (.map (some w.heap.size)) ∧ TabIn w' base w.heap.size t ∧ Below w.heap.size w w'

set_option maxHeartbeats 2000000 in
set_option maxRecDepth 100000 in
theorem mapClone_any {w : World} {base m : Nat} {t : Tb} (h : TabIn w base m t) : Calls Tryz.prog 33 #[.map (some m)] w (MapClonePost w base t) := by
  have hb := h.1
  have hlt := h.lt
  obtain ⟨_, hr, es, ⟨xs, clock, hm, F, hs, hD⟩, he⟩ := h
  have hq := fun w => run_eql_map_nil_sl (P := Tryz.prog) w 54 _ _ (some m) Tryz.underlying54
  have hx := @run_callFunc_extern Tryz.prog 62 _ Extern.MapsClone.clone Tryz.func62 (by kernel_rfl) (by kernel_rfl) (by kernel_rfl) (by kernel_rfl)
  have hcl := run_maps_clone_sl (P := Tryz.prog) w 54 hm
  have hta := fun w v => run_typeAssert_map_sl (P := Tryz.prog) w 54 20 _ _ v Tryz.underlying54
  go_enter Tryz.func33, Tryz.ntmps33
  go_wp2
  go_ret
  have hB := below_alloc w (.map xs clock)
  have k : K base w (w.alloc (.map xs clock)) := K.of_new hB (by omega)
  exact ⟨rfl, ⟨by omega, hr, es, ⟨xs, clock, (MapKept.heap_alloc w _).1, F, hs, hD⟩, he.mono fun _ _ h => h.keep k⟩, hB⟩
end Go.Proofs.YtbibogpeagnjoaaGreatDoor
