/-
  Of: a shelf of files.
  Same: are these the same files?
  Files of a list; a list of files of one's own that a loop appends to.
  What Remove does, if there is power: its closure.
  does: one of the acts; how great a shelf may be behind it.
  Fuse, Down: the walks.
-/
import Derived.Test.YtbibogpeagnjoaaGreatDoorC07
import Derived.Laws.IdiomStrings
import Derived.Test.YtbibogpeagnjoaaGreatDoorC04

namespace Go.Proofs.YtbibogpeagnjoaaGreatDoor
open Go Go.RowKit Go.Maps Go.Shelf Go.Deep

/-- Files that a shelf may have at first. -/
def GoodT (t : Tb) : Prop := t.length ≤ 400 ∧ ∀ q ∈ t, q.2.length ≤ 262144 ∧ pathB q.1 = true ∧ q.1.length ≤ maxLen

def OfFPost (base : Nat) (room : Int) (w : World) (e : Ending) (w' : World) : Prop :=
  (e = .returned (.pointer none) ∧ Below w.heap.size w w') ∨ ∃ t, GoodT t ∧ OfPost base (newSt room t) w e w'

/-- What Of makes of files, one by one; none: they may not be. -/
def ofStep (o : Option Tb) (q : By × By) : Option Tb := o.bind fun t => if pathB q.1 = true ∧ tget q.1 t = none ∧ q.2.length ≤ 262144 then some (tput q.1 q.2 t) else none
def ofK (l : Tb) (k : Nat) : Option Tb := (l.take k).foldl ofStep (some [])
def ofL (l : Tb) : Option Tb := if l.length ≤ 400 then ofK l l.length else none
theorem ofK_snoc {l : Tb} {k : Nat} {q : By × By} (h : l[k]? = some q) : ofK l (k + 1) = ofStep (ofK l k) q := by
  unfold ofK; rw [take_snoc h, List.foldl_append]; rfl
theorem of_fold_none : ∀ l : Tb, l.foldl ofStep none = none
  | [] => rfl
  | _ :: l => of_fold_none l
theorem ofL_none {l : Tb} {k : Nat} (h : ofK l k = none) : ofL l = none := by
  unfold ofL
  split
  · unfold ofK at h ⊢
    rw [List.take_length]
    conv => lhs; rw [← List.take_append_drop k l, List.foldl_append, h]
    exact of_fold_none _
  · rfl
theorem ofL_bad {l : Tb} {k : Nat} {q : By × By} {t : Tb} (hk : l[k]? = some q) (h : ofK l k = some t) (hn : ¬ (pathB q.1 = true ∧ tget q.1 t = none ∧ q.2.length ≤ 262144)) : ofL l = none :=
  ofL_none (k := k + 1) (by rw [ofK_snoc hk, h]; show (if _ then _ else _) = none; rw [if_neg hn])
theorem ofK_good {l : Tb} {k : Nat} {q : By × By} {t : Tb} (hk : l[k]? = some q) (h : ofK l k = some t) (h1 : pathB q.1 = true) (h2 : tget q.1 t = none) (h3 : q.2.length ≤ 262144) : ofK l (k + 1) = some (tput q.1 q.2 t) := by
  rw [ofK_snoc hk, h]; show (if _ then _ else _) = _; rw [if_pos ⟨h1, h2, h3⟩]
theorem ofL_all {l : Tb} {t : Tb} (hl : l.length ≤ 400) (h : ofK l l.length = some t) : ofL l = some t := by unfold ofL; rw [if_pos hl, h]
theorem ofL_many {l : Tb} (hl : ¬ l.length ≤ 400) : ofL l = none := by unfold ofL; rw [if_neg hl]

def OfXPost (base : Nat) (room : Int) (l : Tb) (w : World) (e : Ending) (w' : World) : Prop :=
  (ofL l = none ∧ e = .returned (.pointer none) ∧ Below w.heap.size w w') ∨ ∃ t, ofL l = some t ∧ GoodT t ∧ OfPost base (newSt room t) w e w'

/-- 'm[p] = v'. -/
theorem TabIn.put_run {w : World} {base m : Nat} {t : Tb} (h : TabIn w base m t) (hl : t.length < maxLen) {p b : By} {a : Option Addr} {c : Nat} (hp : p.length ≤ maxLen) (hv : RowIn w base (.slice a b.length c) b) :
    ∃ w', (Instr.mapUpdate 54 (.map (some m)) (.string ⟨p.toArray⟩) (.slice a b.length c)).run Tryz.prog w = .ok () w' ∧ TabIn w' base m (tput p b t) ∧ w.grownBy w' (some m) ∧ K base w w' := by
  obtain ⟨hb, hr, es, hown, he⟩ := h
  have hmap : ∃ xs c, w.heap[m]? = some (Obj.map xs c) := by obtain ⟨xs, c, h, _⟩ := hown; exact ⟨xs, c, h⟩
  obtain ⟨w', hrun, hown', hg⟩ := hown.update law9 Tryz.underlying54 hl (keyOf_S hp) (val := .slice a b.length c) (d := .held (.slice a b.length c)) (ps := []) rfl
  have k := keep_turned hg hb hmap
  exact ⟨w', hrun, TabIn.of_put hb hr (he.mono fun _ _ h => h.keep k) (hv.keep k) hown', hg, k⟩

/-- A round of Of. -/
theorem of_round {base : Nat} {w w2 w3 w4 : World} {t : Tb} {p b : By} {k : Nat} (hB : Below w.heap.size w w2) (hB3 : Below w2.heap.size w2 w3) (hg : w3.grownBy w4 (some w.heap.size)) (ht : TabIn w4 base w.heap.size (tput p b t)) (hl : t.length ≤ k)
    (hgood : ∀ q ∈ t, q.2.length ≤ 262144 ∧ pathB q.1 = true ∧ q.1.length ≤ maxLen) (h1 : b.length ≤ 262144) (h2 : pathB p = true) (h3 : p.length ≤ maxLen) :
    TabIn w4 base w.heap.size (tput p b t) ∧ (tput p b t).length ≤ k + 1 ∧ (∀ q ∈ tput p b t, q.2.length ≤ 262144 ∧ pathB q.1 = true ∧ q.1.length ≤ maxLen) ∧ Below w.heap.size w w4 := by
  refine ⟨ht, ?_, fun q hq => ?_, ?_⟩
  · have := tput_length_le p b t; omega
  · unfold tput at hq
    rcases mem_tins.1 hq with rfl | hq
    · exact ⟨h1, h2, h3⟩
    · exact hgood q (mem_tdel.1 hq).1
  · exact (below_two hB hB3).grown hg (Nat.le_trans hB.size hB3.size) (fun r hr => by cases hr; exact Nat.le_refl _)

set_option maxHeartbeats 8000000 in
set_option maxRecDepth 100000 in
theorem Of_exact {base : Nat} (room : Int) (w : World) (hb : base ≤ w.heap.size) {v : Value} {l : Tb} (hv : FilesAt w v l) : Calls Tryz.prog 7 #[.int .i64 room, v] w (OfXPost base room l w) := by
  have hmm := @run_makeMap Tryz.prog
  have B1 := below_alloc w (.map #[] 0)
  have HB := Lib.hid B1
  have T1 := Lib.hid (tab_empty hb)
  have Hv := Lib.hid hv
  obtain ⟨x, c, rfl, hx⟩ := hv
  have Hx := Lib.hid hx
  clear B1 hx
  by_cases h4 : (l.length : Int) ≤ 400
  · go_enter Tryz.func7, Tryz.ntmps7
    go_wp2_with fail
    go_loopw [18] (fun i wr => ∃ k t, k ≤ l.length ∧ i = .int .i64 (k : Nat) ∧ TabIn wr base w.heap.size t ∧ t.length ≤ k ∧ (∀ q ∈ t, q.2.length ≤ 262144 ∧ pathB q.1 = true ∧ q.1.length ≤ maxLen) ∧ Below w.heap.size w wr ∧ Hid (ofK l k = some t)) (fun i _ => l.length - (intOf i).toNat)
    case atStart => exact ⟨0, [], Nat.zero_le _, rfl, T1.out, Nat.le_refl _, fun q hq => by simp at hq, HB.out, Lib.hid rfl⟩
    case round =>
      obtain ⟨k, t, hk, rfl, ht, htl, hgood, hB, Hok⟩ := hrel
      by_cases hlt : k < l.length
      · obtain ⟨o, ho⟩ : ∃ o, l[k]? = some o := ⟨_, List.getElem?_eq_getElem hlt⟩
        have Hbad := Lib.hid (ofL_bad ho Hok.out)
        have Hgo := Lib.hid (ofK_good ho Hok.out)
        obtain ⟨b, off, rfl, v, h0, h1, h6, l1, l2⟩ := Hx.out k o ho
        obtain ⟨va, vc, rfl⟩ := h6.slice
        replace h0 := cell_below' hB h0
        replace h1 := cell_below' hB h1
        rw [add_at] at h1
        unfold S at h0
        have B := below_alloc wr (.cells #[.string ⟨o.1.toArray⟩, .slice va o.2.length vc] 52)
        have ht2 := ht.keep (K.of_new (base := base) B (by have := hB.size; omega)) (B.block _ ht.lt)
        have hd := directory_any o.1 (wr.alloc (.cells #[.string ⟨o.1.toArray⟩, .slice va o.2.length vc] 52)) (Nat.le_trans l1 lim_le)
        unfold S at hd
        have Hd := Lib.hid hd; have Ht2 := Lib.hid ht2; have HB1 := Lib.hid (below_two hB B); have Hg := Lib.hid hgood
        have x0 : (wr.alloc (.cells #[.string ⟨o.1.toArray⟩, .slice va o.2.length vc] 52)).cell? ⟨wr.heap.size, 0, none⟩ = some (.string ⟨o.1.toArray⟩) := cell_of_block (heap_alloc_new wr _) 0
        have x1 : (wr.alloc (.cells #[.string ⟨o.1.toArray⟩, .slice va o.2.length vc] 52)).cell? ⟨wr.heap.size, 1, none⟩ = some (.slice va o.2.length vc) := cell_of_block (heap_alloc_new wr _) 1
        have Hb6 := Lib.hid ((h6.below hB).below B)
        have hltm := ht.lt
        clear hd ht ht2 hB B hgood h6
        have hk400 : l.length ≤ 400 := by omega
        go_wp2_with fail
        refine Hd.out.mono ?_
        rintro e w2 ⟨hB2, ⟨hp, rfl⟩ | ⟨hp, ev, rfl, hf⟩⟩
        · have HP := Lib.hid hp
          have y0 := (hB2.cell (World.block_lt_of_cell? _ _ x0)).trans x0
          have y1 := (hB2.cell (World.block_lt_of_cell? _ _ x1)).trans x1
          have ht3 := Ht2.out.keep (K.of_new (base := base) hB2 (by have := Ht2.out.lt; have := Ht2.out.1; omega)) (hB2.block _ Ht2.out.lt)
          have hlook := ht3.look o.1 (Nat.le_trans l1 lim_le)
          have Ht3 := Lib.hid ht3; have HB2 := Lib.hid (below_two HB1.out hB2)
          have Hb7 := Lib.hid (Hb6.out.below hB2)
          clear hp hB2 ht3 x0 x1
          rcases hlook with ⟨hn, hlook⟩ | ⟨b', a', c', hn, _, hlook⟩
          · have Hn := Lib.hid hn; clear hn
            by_cases hbig : (o.2.length : Int) ≤ 262144
            · have Hcl := Lib.hid (clone_any (w := w2.drew) (v := .slice va o.2.length vc) (b := o.2) Hb7.out (by omega))
              have Ht4 := Lib.hid (Ht3.out.keep ((K.refl base w2).drew) rfl : TabIn w2.drew base w.heap.size t)
              have hpl : o.1.length ≤ maxLen := Nat.le_trans l1 lim_le
              have hne : wr.heap.size ≠ w.heap.size := by have := hltm; omega
              have htm : t.length < maxLen := by unfold maxLen; omega
              go_wp2_with fail
              go_region_held3 (fun w' => w'.cell? ⟨wr.heap.size, 0, none⟩ = some (.string ⟨o.1.toArray⟩) ∧ w'.cell? ⟨wr.heap.size, 1, none⟩ = some (.slice va o.2.length vc))
                (first | exact ⟨y0, y1⟩ | assumption | go_keep)
                (first | (refine Hcl.out.mono ?_; rintro e w3 ⟨cv, rfl, hcv, hB3⟩; obtain ⟨ac, cc, rfl⟩ := hcv.shape; have hS2 := And.intro (cell_below' hB3 y0) (cell_below' hB3 y1); have ht5 := Ht4.out.keep (K.of_new (base := base) hB3 (by have := Ht4.out.lt; have := Ht4.out.1; omega)) (hB3.block _ Ht4.out.lt); obtain ⟨w4, hrun, ht6, hg6, k6⟩ := ht5.put_run htm hpl (hcv.mono (by have := Ht4.out.lt; have := Ht4.out.1; omega)); have hS4 := And.intro (hg6.cell hS2.1 (by intro e; simp at e; omega)) (hg6.cell hS2.2 (by intro e; simp at e; omega))))
              have R := of_round HB2.out ⟨hB3.os, hB3.tape, hB3.output, hB3.size, hB3.block⟩ ⟨hg6.os, hg6.tape, hg6.output, hg6.size, hg6.block⟩ ht6 htl Hg.out (by omega) HP.out hpl
              have HR := Lib.hid R
              clear R
              go_wp2_with fail
              go_roundw
              case rel => exact ⟨k + 1, _, hlt, by go_num, HR.out.1, HR.out.2.1, HR.out.2.2.1, HR.out.2.2.2, Lib.hid (Hgo.out HP.out Hn.out (by omega))⟩
              case measure => simp [intOf]; omega
            · go_wp2_with fail
              go_ret
              exact .inl ⟨Hbad.out (fun h => by have := h.2.2; omega), rfl, HB2.out⟩
          · have Hn := Lib.hid hn
            clear hn
            go_wp2_with fail
            go_ret
            exact .inl ⟨Hbad.out (fun h => by rw [Hn.out] at h; cases h.2.1), rfl, HB2.out⟩
        · obtain ⟨af, xf, rfl, hfc⟩ := hf
          have y0 := (hB2.cell (World.block_lt_of_cell? _ _ x0)).trans x0
          have ht3 := Ht2.out.keep (K.of_new (base := base) hB2 (by have := Ht2.out.lt; have := Ht2.out.1; omega)) (hB2.block _ Ht2.out.lt)
          have hlook := ht3.look o.1 (Nat.le_trans l1 lim_le)
          have HB2 := Lib.hid (below_two HB1.out hB2)
          have Hp0 := Lib.hid hp
          clear hp hB2 ht3 x0 x1 hfc
          rcases hlook with ⟨hn, hlook⟩ | ⟨b', a', c', hn, _, hlook⟩
          all_goals clear hn
          all_goals go_wp2_with fail
          all_goals go_ret
          all_goals exact .inl ⟨Hbad.out (fun h => by rw [Hp0.out] at h; cases h.1), rfl, HB2.out⟩
      · obtain rfl : k = l.length := by omega
        have hk400 : l.length ≤ 400 := by omega
        have Hcl := Lib.hid (mapClone_any ht)
        have Ht := Lib.hid ht; have HBr := Lib.hid hB; have Hg := Lib.hid hgood
        clear ht hB hgood
        go_wp2_with fail
        refine Hcl.out.mono ?_
        rintro e w2 ⟨rfl, ht2, hB2⟩
        have hy := Ht.out.keep (K.of_new (base := base) hB2 (by have := HBr.out.size; omega)) (hB2.block _ Ht.out.lt)
        have R := of_end (room := room) (f := wr.heap.size) (y := w.heap.size) (t := t) (base := base) (w := w) (w2 := w2) (by have := HBr.out.size; have := hB2.size; omega) (by have := Ht.out.lt; omega) ht2 hy (below_two HBr.out hB2)
        have hgt : GoodT t := ⟨by omega, Hg.out⟩
        have HR := Lib.hid R; have HT := Lib.hid hgt; clear R ht2 hy hgt
        go_wp2_with fail
        go_ret
        exact .inr ⟨t, ofL_all hk400 Hok.out, HT.out, _, _, _, rfl, HR.out.1, HR.out.2⟩
  · go_enter Tryz.func7, Tryz.ntmps7
    go_wp2_with fail
    go_ret
    exact .inl ⟨ofL_many (by omega), rfl, Below.refl _ _⟩

theorem Of_any {base : Nat} (room : Int) (w : World) (hb : base ≤ w.heap.size) {v : Value} {l : Tb} (hv : FilesAt w v l) : Calls Tryz.prog 7 #[.int .i64 room, v] w (OfFPost base room w) :=
  (Of_exact room w hb hv).mono fun e w' h => by
    rcases h with ⟨_, h1, h2⟩ | ⟨t, _, h1, h2⟩
    · exact .inl ⟨h1, h2⟩
    · exact .inr ⟨t, h1, h2⟩
end Go.Proofs.YtbibogpeagnjoaaGreatDoor


namespace Go.Proofs.YtbibogpeagnjoaaGreatDoor
open Go Go.RowKit Go.Maps Go.Shelf Go.Deep

/-- A slice of files, wherever: as it reads. -/
def FileV (w : World) (a : Addr) (q : By × By) : Prop := ∃ v, w.cell? a = some (S q.1) ∧ w.cell? (a.add 1) = some v ∧ BytesAt w v q.2
def FilesV (w : World) (v : Value) (l : Tb) : Prop := SliceAt (FileV w) 2 v l
theorem FilesAt.v {w : World} {v : Value} {l : Tb} (h : FilesAt w v l) : FilesV w v l := h.imp fun _ _ ⟨v, h1, h2, h3, _⟩ => ⟨v, h1, h2, h3⟩
theorem FilesIn.v {w : World} {B : Nat} {v : Value} {l : Tb} (h : FilesIn w B v l) : FilesV w v l := by
  obtain ⟨vs, hrow, hfs⟩ := h
  have hrow' := hrow
  rcases hrow.2 with ⟨rfl, h0⟩ | ⟨g, cap, cur, rfl, _⟩
  · have e : l = [] := List.length_eq_zero_iff.1 h0
    subst e
    exact ⟨none, 0, rfl, fun i o ho => by simp at ho⟩
  · refine ⟨_, cap, rfl, fun i q hq => ⟨g, 0, rfl, ?_⟩⟩
    obtain ⟨pv, e0, e1, h2⟩ := hfs.at i q hq
    have c0 := World.ownsRow.cells hrow' (g := g) rfl _ _ e0
    have c1 := World.ownsRow.cells hrow' (g := g) rfl _ _ e1
    rw [add_at] at c0 c1
    rw [Nat.zero_add] at c0 c1
    refine ⟨pv, ?_, ?_, h2.bytes⟩
    · rw [Nat.zero_add]; exact c0
    · rw [add_at, Nat.zero_add]; exact c1
theorem FilesV.below {w w' : World} {v : Value} {l : Tb} (h : FilesV w v l) (hB : Below w.heap.size w w') : FilesV w' v l :=
  h.imp fun _ _ ⟨v, h1, h2, h3⟩ => ⟨v, cell_below' hB h1, cell_below' hB h2, h3.below hB⟩

/-- 'string(b)'. -/
theorem str_of {w : World} {v : Value} {b : By} (h : BytesAt w v b) : (convert 31 9 v).run Tryz.prog w = .ok (.string ⟨b.toArray⟩) w := by
  rcases h with ⟨rfl, rfl⟩ | ⟨a, c, rfl, hc⟩
  · rw [run_convert_bytes_string w _ _ _ none 0 0 Tryz.underlying31 Tryz.underlying5 Tryz.underlying9]
    rfl
  · refine run_convert_bytes_back w _ _ _ a c b Tryz.underlying31 Tryz.underlying5 Tryz.underlying9 fun j hj => ?_
    rw [hc j hj, List.getElem?_eq_getElem hj]; rfl

def SamePost (ta tb : Tb) (w : World) (e : Ending) (w' : World) : Prop := e = .returned (.bool (decide (ta = tb))) ∧ Below w.heap.size w w'

theorem take_same {ta tb : Tb} {k : Nat} {p q : By × By} (h : ta.take k = tb.take k) (hp : ta[k]? = some p) (hq : tb[k]? = some q) (e : p = q) : ta.take (k + 1) = tb.take (k + 1) := by
  rw [take_snoc hp, take_snoc hq, h, e]

set_option maxHeartbeats 8000000 in
set_option maxRecDepth 100000 in
theorem Same_any {w : World} {va vb : Value} {ta tb : Tb} (ha : FilesV w va ta) (hb : FilesV w vb tb) (hl : ta.length ≤ 1000000) : Calls Tryz.prog 28 #[va, vb] w (SamePost ta tb w) := by
  obtain ⟨xa, ca, rfl, hxa⟩ := ha
  obtain ⟨xb, cb, rfl, hxb⟩ := hb
  have Ha := Lib.hid hxa; have Hb := Lib.hid hxb
  clear hxa hxb
  by_cases hlen : ta.length = tb.length
  · have hlI : (ta.length : Int) = (tb.length : Int) := by omega
    have Hlen := Lib.hid hlen
    rw [← hlen]
    clear hlI hlen
    go_enter Tryz.func28, Tryz.ntmps28
    go_wp2_with fail
    go_loopw [5] (fun i wr => Below w.heap.size w wr ∧ ∃ k : Nat, k ≤ ta.length ∧ i = .int .i64 k ∧ ta.take k = tb.take k) (fun i _ => ta.length - (intOf i).toNat)
    case atStart => exact ⟨Below.refl _ _, 0, Nat.zero_le _, rfl, rfl⟩
    case round =>
      obtain ⟨hB, k, hk, rfl, heq⟩ := hrel
      by_cases hlt : k < ta.length
      · obtain ⟨p, hp⟩ : ∃ p, ta[k]? = some p := ⟨_, List.getElem?_eq_getElem hlt⟩
        obtain ⟨q, hq⟩ : ∃ q, tb[k]? = some q := ⟨_, List.getElem?_eq_getElem (by have := Hlen.out; omega)⟩
        obtain ⟨b, off, rfl, v, h0, h1, h6⟩ := Ha.out k p hp
        obtain ⟨b', off', rfl, v', h0', h1', h6'⟩ := Hb.out k q hq
        obtain ⟨va, vc, rfl⟩ := h6.slice
        obtain ⟨va', vc', rfl⟩ := h6'.slice
        replace h0 := cell_below' hB h0
        replace h1 := cell_below' hB h1
        replace h0' := cell_below' hB h0'
        replace h1' := cell_below' hB h1'
        have s1 := fun n => str_of (w := wr.drewN n) (v := .slice va p.2.length vc) (b := p.2) (h6.below (hB.trans ((below_drewN wr n).mono hB.size)))
        have s2 := fun n => str_of (w := wr.drewN n) (v := .slice va' q.2.length vc') (b := q.2) (h6'.below (hB.trans ((below_drewN wr n).mono hB.size)))
        rw [add_at] at h1 h1'
        unfold S at h0 h0'
        have Hp := Lib.hid hp; have Hq := Lib.hid hq; have Heq := Lib.hid heq; have HB := Lib.hid hB
        clear hp hq heq hB h6 h6'
        by_cases e1 : p.1 = q.1
        · by_cases e2 : p.2 = q.2
          · have e : p = q := Prod.ext e1 e2
            subst e
            clear e1 e2
            go_wp2_with fail
            go_quiet (fail)
            go_wp2_with fail
            refine ⟨⟨below_two HB.out (below_drewN wr nq), k + 1, hlt, by go_num, take_same Heq.out Hp.out Hq.out rfl⟩, ?_⟩
            simp [intOf]; omega
          · rw [show q.1 = p.1 from e1.symm] at h0'
            have hs1 : (p.2 == q.2) = false := by simpa using e2
            have hne : decide (ta = tb) = false := decide_eq_false fun e => by
              have h1 := Hp.out
              rw [e, Hq.out] at h1
              cases h1
              exact e2 rfl
            have Hne := Lib.hid hne
            clear hne
            go_wp2_with fail
            go_quiet (fail)
            go_wp2_with fail
            go_ret
            exact ⟨(congrArg (fun b => Ending.returned (Value.bool b)) Hne.out).symm, below_two HB.out (below_drewN wr _)⟩
        · have hs1 : (p.1 == q.1) = false := by simpa using e1
          have hne : decide (ta = tb) = false := decide_eq_false fun e => by
            have h1 := Hp.out
            rw [e, Hq.out] at h1
            cases h1
            exact e1 rfl
          have Hne := Lib.hid hne
          clear hne
          go_wp2_with fail
          go_quiet (fail)
          go_wp2_with fail
          go_ret
          exact ⟨(congrArg (fun b => Ending.returned (Value.bool b)) Hne.out).symm, below_two HB.out (below_drewN wr _)⟩
      · obtain rfl : k = ta.length := by omega
        have he : decide (ta = tb) = true := by
          rw [List.take_length, List.take_of_length_le (by have := Hlen.out; omega)] at heq
          exact decide_eq_true heq
        have He := Lib.hid he; have HB := Lib.hid hB
        clear he hB heq
        go_wp2_with fail
        go_ret
        exact ⟨(congrArg (fun b => Ending.returned (Value.bool b)) He.out).symm, HB.out⟩
  · have hne : decide (ta = tb) = false := decide_eq_false fun e => hlen (by rw [e])
    have hlI : ((ta.length : Int) == (tb.length : Int)) = false := by simpa using (show ¬ (ta.length : Int) = tb.length by omega)
    have hlJ : ¬ ((ta.length : Int) = (tb.length : Int)) := by omega
    have hlK : ((ta.length : Int) != (tb.length : Int)) = true := by simpa using hlJ
    have Hne := Lib.hid hne
    clear hne
    go_enter Tryz.func28, Tryz.ntmps28
    go_wp2_with fail
    go_ret
    exact ⟨(congrArg (fun b => Ending.returned (Value.bool b)) Hne.out).symm, Below.refl _ _⟩
end Go.Proofs.YtbibogpeagnjoaaGreatDoor


namespace Go.Proofs.YtbibogpeagnjoaaGreatDoor
open Go Go.RowKit Go.Maps Go.Sort Go.Shelf Go.Deep

/-- One of the files that Files told. -/
theorem FilesIn.at {w : World} {B : Nat} {v : Value} {t : Tb} (h : FilesIn w B v t) {i : Nat} {q : By × By} (hq : t[i]? = some q) :
    ∃ g c, v = .slice (some ⟨g, 0, none⟩) t.length c ∧ ∃ dv, w.cell? ⟨g, i * 2, none⟩ = some (S q.1) ∧ w.cell? ⟨g, i * 2 + 1, none⟩ = some dv ∧ RowIn w B dv q.2 := by
  obtain ⟨vs, hrow, hfs⟩ := h
  have hrow' := hrow
  rcases hrow.2 with ⟨rfl, h0⟩ | ⟨g, cap, cur, rfl, _⟩
  · rw [List.length_eq_zero_iff.1 h0] at hq; simp at hq
  · obtain ⟨pv, e0, e1, h2⟩ := hfs.at i q hq
    have c0 := World.ownsRow.cells hrow' (g := g) rfl _ _ e0
    have c1 := World.ownsRow.cells hrow' (g := g) rfl _ _ e1
    rw [add_at] at c0 c1
    rw [Nat.zero_add] at c0 c1
    exact ⟨g, cap, rfl, pv, c0, c1, h2⟩
theorem row_mono {w : World} {B B' n : Nat} {t : TypeId} {k : Nat} {v : Value} {xs : List Value} (h : w.ownsRow B t k v n xs) (hb : B' ≤ B) : w.ownsRow B' t k v n xs := by
  obtain ⟨h1, h2⟩ := h
  refine ⟨h1, ?_⟩
  rcases h2 with h2 | ⟨g, cap, cur, rfl, hbg, r⟩
  · exact .inl h2
  · exact .inr ⟨g, cap, cur, rfl, Nat.le_trans hb hbg, r⟩

/-- The loop of own, between two rounds. -/
def OwnRel (w : World) (B : Nat) (t : Tb) (l : Value) (wr : World) : Prop := Below w.heap.size w wr ∧ ∃ vs, wr.ownsRow w.heap.size 52 2 l t.length vs ∧ FsIn wr B vs t
theorem OwnRel.next {w wr w3 : World} {B : Nat} {t : Tb} {l : Value} (h : OwnRel w B t l wr) (hB : Below wr.heap.size wr w3) : OwnRel w B t l w3 := by
  obtain ⟨h1, vs, h2, h3⟩ := h
  refine ⟨below_two h1 hB, vs, h2.kept (row := none) ⟨hB.os, hB.tape, hB.output, hB.size, fun k hk _ => hB.block k hk⟩ (Classical.em _), h3.imp fun _ _ hv => hv.keep (K.of_new (base := 0) hB (Nat.zero_le _))⟩
theorem own_round {w w3 w4 : World} {B : Nat} {t : Tb} {l l' dv : Value} {q : By × By} {vs : List Value} {o : Obj} (h1 : Below w.heap.size w w3) (hvs : w3.ownsRow w.heap.size 52 2 l t.length vs) (hfs : FsIn w3 B vs t)
    (hcv : RowIn w3 B dv q.2) (hg : (w3.alloc o).grownBy w4 l.ownBlock) (hown : w4.ownsRow w.heap.size 52 2 l' (t.length + 1) (vs ++ [S q.1, dv])) : OwnRel w B (t ++ [q]) l' w4 := by
  have hrow : ∀ r, l.ownBlock = some r → w.heap.size ≤ r ∧ ∃ cur, w3.heap[r]? = some (Obj.cells cur 52 (0, 0)) := fun r hr => by
    rcases hvs.2 with ⟨e, _⟩ | ⟨g, _, cur, e, hb, hc, _⟩
    · rw [e] at hr; cases hr
    · rw [e] at hr; cases hr; exact ⟨hb, cur, hc⟩
  have hB3o : Below w3.heap.size w3 (w3.alloc o) := below_alloc w3 o
  have hrow4 : ∀ r, l.ownBlock = some r → ∀ cur fz, (w3.alloc o).heap[r]? ≠ some (Obj.cells cur 5 fz) := fun r hr cur fz e => by
    obtain ⟨_, cur', hc⟩ := hrow r hr
    rw [hB3o.block r (lt_of_block hc), hc] at e
    cases e
  have hrows : ∀ v b, RowIn w3 B v b → RowIn w4 B v b := fun v b hv => (hv.keep (K.of_new (base := 0) hB3o (Nat.zero_le _))).grown hg hrow4
  have hsz : w3.heap.size ≤ w4.heap.size := Nat.le_trans hB3o.size hg.size
  refine ⟨⟨hg.os.trans (hB3o.os.trans h1.os), hg.tape.trans (hB3o.tape.trans h1.tape), hg.output.trans (hB3o.output.trans h1.output), Nat.le_trans h1.size hsz, fun i hi => ?_⟩, vs ++ [S q.1, dv], ?_, FsIn.snoc (hrows _ _ hcv) (hfs.imp hrows)⟩
  · rw [hg.block i (by have := hB3o.size; have := h1.size; omega) (fun e => by have := (hrow i e.symm).1; omega), hB3o.block i (by have := h1.size; omega)]; exact h1.block i hi
  · rw [List.length_append]; exact hown

end Go.Proofs.YtbibogpeagnjoaaGreatDoor


namespace Go.Proofs.YtbibogpeagnjoaaGreatDoor
open Go Go.RowKit Go.Maps

set_option maxHeartbeats 4000000 in
set_option maxRecDepth 100000 in
theorem tryRemove {w : World} {base s f y : Nat} {lv : Value} {st : St} (h : Ok w base s f y lv st) {p : By} {bs bp : Value} (hp : p.length ≤ maxLen)
    (hbs : BoxIn w base 27 bs (.pointer (some ⟨s, 0, none⟩))) (hbp : BoxIn w base 9 bp (S p))
    (hl : st.files.length < maxLen) (hk : (st.loose.length + 1) * 24 ≤ 140737488355328) :
    Calls Tryz.prog 49 #[bs, bp] w (TryPost base s f y st (thereErr p st.files) { st with files := tdel p st.files, loose := st.loose ++ [(dirOf p, .remove p)] } w) := by
  have hm := there_any h p hp
  obtain ⟨gs, rfl, _, hgs⟩ := hbs
  obtain ⟨gp, rfl, _, hgp⟩ := hbp
  have cs := cell_of_one hgs; have cp := cell_of_one hgp
  unfold S at cp hm
  have Hm := Lib.hid hm; have Hk := Lib.hid h
  clear hm h
  go_enter Tryz.func49, Tryz.ntmps49
  go_wp2_with fail
  refine Hm.out.mono ?_
  rintro e w1 ⟨hB, ⟨h0, rfl⟩ | ⟨h0, ev, rfl, hf⟩⟩
  · have H0 := Lib.hid h0; clear h0
    have cs1 := (hB.cell (p := ⟨gs, 0, none⟩) (lt_of_block hgs)).trans cs
    have cp1 := (hB.cell (p := ⟨gp, 0, none⟩) (lt_of_block hgp)).trans cp
    unfold S
    have k1 : K base w w1 := K.of_new hB Hk.out.base_le
    have hgs1 := k1.const _ _ _ _ hgs rfl
    have hgp1 := k1.const _ _ _ _ hgp rfl
    have hwr : ∀ (w2 : World), base ≤ w2.heap.size → Calls Tryz.prog 51 #[.string ⟨p.toArray⟩] w2 (MadePost base (.remove p) w2) := fun w2 h1 => remove_any h1
    have hadd : ∀ (w3 : World) (pv : Value), Below w.heap.size w w3 → ActIn w3 base pv (.remove p) → Calls Tryz.prog 41 #[.pointer (some ⟨s, 0, none⟩), .agg #[.string ⟨(dirOf p).toArray⟩, pv]] w3 (AddPost base s f y { st with files := tdel p st.files, loose := st.loose ++ [(dirOf p, .remove p)] } w3) :=
      fun w3 pv h1 h2 => add_any (Hk.out.keep h1) h2 hp hl hk
    have Hwr := Lib.hid hwr; have Hadd := Lib.hid hadd; clear hwr hadd
    have hbw1 : base ≤ w1.heap.size := Nat.le_trans Hk.out.base_le hB.size
    go_wp2_with fail
    go_region_held3 (fun w' => w'.cell? ⟨gs, 0, none⟩ = some (.pointer (some ⟨s, 0, none⟩)) ∧ w'.cell? ⟨gp, 0, none⟩ = some (.string ⟨p.toArray⟩))
      (first | exact ⟨cs1, cp1⟩ | assumption | go_keep)
      (first
        | (go_at_call 51; refine (Hwr.out w1.drew hbw1).mono ?_; rintro e w3 ⟨fn, first, cap, rfl, hact, hB3'⟩; have hB3 := below_undrew hB3'; have hS3 := And.intro (cell_below hB3 cs1) (cell_below hB3 cp1))
        | (go_at_call 41; refine (Hadd.out _ _ (below_two hB hB3) hact).mono ?_; rintro e w4 ⟨rfl, hk4, lv4, hok4⟩; have k14 := (K.of_new hB3 hbw1).trans hk4; have hS4 := And.intro (cell_keep k14 hgs1 rfl) (cell_keep k14 hgp1 rfl)))
    go_wp2
    go_ret
    exact ⟨_, lv4, rfl, k1.trans k14, .inl ⟨H0.out, rfl, hok4⟩⟩
  · obtain ⟨ag, x, rfl, hf⟩ := hf
    have H0 := Lib.hid h0; clear h0
    have Hf := Lib.hid hf; clear hf
    unfold S
    go_wp2_with fail
    go_ret
    exact ⟨_, lv, rfl, K.of_new hB Hk.out.base_le, .inr ⟨H0.out, ⟨_, _, rfl, Hf.out⟩, Hk.out.keep hB⟩⟩

set_option maxHeartbeats 4000000 in
set_option maxRecDepth 100000 in
theorem Remove_any {w : World} {base s f y k : Nat} {lv : Value} {st : St} (h : Ok w base s f y lv st) (hbd : Bd st k) (het : Et w) (hg : 0 < base) {p : By} (hp : p.length ≤ maxLen) :
    Calls Tryz.prog 13 #[.pointer (some ⟨s, 0, none⟩), S p] w (DoPost base s f y (doN st (thereErr p st.files)) (doSt st (thereErr p st.files) (removed p st)) w) := by
  have hmf : ∀ (fn : Fn) (first cap : Array Value) (w : World), (Instr.makeFunc fn first cap).run Tryz.prog w = .ok (.func fn first cap) w := fun _ _ _ _ => rfl
  have hbs := h.base_le
  have B1 := below_alloc w (.cells #[.pointer (some ⟨s, 0, none⟩)] 27)
  have B2 := below_alloc (w.alloc (.cells #[.pointer (some ⟨s, 0, none⟩)] 27)) (.cells #[S p] 9)
  have B := below_two B1 B2
  have kB : K base w _ := K.of_new B hbs
  have x1 := (box_new (t := 27) (.pointer (some ⟨s, 0, none⟩)) hbs).keep (K.of_new (base := base) B2 (by simp; omega)) rfl
  have x2 := box_new2 (t := 9) (.cells #[.pointer (some ⟨s, 0, none⟩)] 27) (S p) hbs
  have ht := tryRemove (h.keep B) hp x1 x2 hbd.len hbd.loose
  have hd := do_any (h.keep B) (het.keep kB hg) hg thereErr_ne (enters_of Tryz.func49 (by kernel_rfl) rfl) ht
  have Hd := Lib.hid hd; have HB := Lib.hid B
  clear hd ht x1 x2 kB B B1 B2 h het hbd
  unfold S at Hd HB ⊢
  go_enter Tryz.func13, Tryz.ntmps13
  go_wp2_with fail
  refine Hd.out.mono ?_
  rintro e w' hD
  have hD' := hD.from HB.out hbs
  obtain ⟨rfl, hD2⟩ := hD'
  have HD := Lib.hid hD2; clear hD2 hD
  go_wp2_with fail
  go_ret
  exact ⟨rfl, HD.out⟩
end Go.Proofs.YtbibogpeagnjoaaGreatDoor


namespace Go.Proofs.YtbibogpeagnjoaaGreatDoor
open Go Go.RowKit Go.Maps Go.Shelf Go.Deep

theorem mem_tins' {x q : By × By} : ∀ {t : Tb}, q ∈ tins x t → q = x ∨ q ∈ t
  | [], h => by simp [tins] at h; exact .inl h
  | z :: r, h => by
    unfold tins at h
    split at h
    · rcases List.mem_cons.1 h with h | h
      · exact .inl h
      · exact .inr h
    · rcases List.mem_cons.1 h with h | h
      · exact .inr (by simp [h])
      · rcases mem_tins' h with h | h
        · exact .inl h
        · exact .inr (List.mem_cons_of_mem _ h)
theorem mem_tdel' {p : By} {q : By × By} {t : Tb} (h : q ∈ tdel p t) : q ∈ t := (List.mem_filter.1 h).1
theorem mem_tput' {p b : By} {q : By × By} {t : Tb} (h : q ∈ tput p b t) : q = (p, b) ∨ q ∈ t := by
  rcases mem_tins' h with h | h
  · exact .inl h
  · exact .inr (mem_tdel' h)
theorem tget_mem' {p b : By} {t : Tb} (h : tget p t = some b) : (p, b) ∈ t := by
  unfold tget at h
  obtain ⟨q, h1, h2⟩ := Option.map_eq_some_iff.1 h
  have h3 := List.find?_some h1
  have h4 := List.mem_of_find?_eq_some h1
  have e : q.1 = p := by simpa using h3
  rw [← e, ← h2]; exact h4

def SmallT (t : Tb) : Prop := ∀ q ∈ t, q.2.length ≤ 262144
def SmallA (a : Act) : Prop := ∀ p b, a = .write p b → b.length ≤ 262144
theorem small_play {a : Act} {t : Tb} (ht : SmallT t) (ha : SmallA a) : SmallT (a.play t) := by
  cases a with
  | write p b =>
    intro q hq
    rcases mem_tput' hq with rfl | hq
    · exact ha p b rfl
    · exact ht q hq
  | rename p q =>
    show SmallT (match tget p t with | none => t | some b => tput q b (tdel p t))
    cases h : tget p t with
    | none => exact ht
    | some b =>
      intro x hx
      rcases mem_tput' hx with rfl | hx
      · exact ht (p, b) (tget_mem' h)
      · exact ht x (mem_tdel' hx)
  | remove p => exact fun q hq => ht q (mem_tdel' hq)
theorem small_syncT {d : By} : ∀ {l : List (By × Act)} {t : Tb}, SmallT t → (∀ a ∈ l, SmallA a.2) → SmallT (syncT d l t)
  | [], _, h, _ => h
  | a :: l, t, h, hl => by
    unfold syncT
    rw [List.foldl_cons]
    refine small_syncT (l := l) ?_ fun x hx => hl x (List.mem_cons_of_mem _ hx)
    split
    · exact small_play h (hl a (by simp))
    · exact h

theorem Bd.bump {st : St} {k : Nat} (h : Bd st k) : Bd (bump st) k := ⟨h.files, h.both, h.small, h.smallS, h.smallL, h.fits, h.lim⟩
theorem Bd.downed {st : St} {k : Nat} (h : Bd st k) (b : Bool) : Bd { st with down := b } k := ⟨h.files, h.both, h.small, h.smallS, h.smallL, h.fits, h.lim⟩
theorem Bd.mono {st : St} {k n : Nat} (h : Bd st k) (hn : k ≤ n) (hl : n ≤ 1000000) : Bd st n := ⟨Nat.le_trans h.files hn, Nat.le_trans h.both hn, h.small, h.smallS, h.smallL, h.fits, hl⟩
theorem Bd.acted {st : St} {k : Nat} (h : Bd st k) (hk : k + 1 ≤ 1000000) {a : Act} (d : By) (hf : a.fits) (hs : SmallA a) : Bd { st with files := a.play st.files, loose := st.loose ++ [(d, a)] } (k + 1) := by
  refine ⟨?_, ?_, small_play h.small hs, h.smallS, fun x hx p b e => ?_, fun x hx => ?_, hk⟩
  · have := play_len a st.files; have := h.files
    show (a.play st.files).length ≤ k + 1
    omega
  · have := h.both
    show st.synced.length + (st.loose ++ [(d, a)]).length ≤ k + 1
    simp; omega
  · rcases List.mem_append.1 hx with hx | hx
    · exact h.smallL x hx p b e
    · simp at hx; subst hx; exact hs p b e
  · rcases List.mem_append.1 hx with hx | hx
    · exact h.fits x hx
    · simp at hx; subst hx; exact hf
theorem Bd.synced {st : St} {k : Nat} (h : Bd st k) (d : By) : Bd (syncedSt d st) k := by
  refine ⟨h.files, ?_, h.small, small_syncT h.smallS (fun a ha => h.smallL a ha), fun x hx => h.smallL x (List.mem_filter.1 hx).1, fun x hx => h.fits x (List.mem_filter.1 hx).1, h.lim⟩
  have := syncT_len d st.loose st.synced; have := h.both
  show (syncT d st.loose st.synced).length + (syncL d st.loose).length ≤ k
  omega
theorem small_crashK {l : List (By × Act)} {ks : List Bool} {t : Tb} (ht : SmallT t) (hl : ∀ a ∈ l, SmallA a.2) : ∀ k, SmallT (crashK l ks t k)
  | 0 => ht
  | k + 1 => by
    have ih := small_crashK (ks := ks) ht hl k
    rw [crashK]
    split
    · rename_i a ha
      split
      · exact small_play ih (hl a (List.mem_of_getElem? ha))
      · exact ih
    · exact ih
theorem Bd.crash {st : St} {k : Nat} (h : Bd st k) (ks : List Bool) : Bd (crashSt ks st) k := by
  have h1 := crashK_len st.loose ks st.synced st.loose.length
  have h2 := h.both
  have h3 := small_crashK (ks := ks) (l := st.loose) h.smallS (fun a ha => h.smallL a ha) st.loose.length
  exact ⟨Nat.le_trans h1 h2, by show (crashK st.loose ks st.synced st.loose.length).length + 0 ≤ k; omega, h3, h3, fun x hx => by simp [crashSt] at hx, fun x hx => by simp [crashSt] at hx, h.lim⟩

/-- What one of the acts answers, and what it makes of a shelf. -/
def doesN (o : OpR) (st : St) : Int :=
  if o.what = 0 ∨ o.what = 1 then doN st (writeErr o.path o.b.length st)
  else if o.what = 2 then doN st (renameErr o.path o.to st.files)
  else if o.what = 3 then doN st (thereErr o.path st.files)
  else if o.what = 4 then doN st (syncErr o.path) else 0
def doesSt (o : OpR) (st : St) : St :=
  if o.what = 0 ∨ o.what = 1 then doSt st (writeErr o.path o.b.length st) (wrote o.path o.b st)
  else if o.what = 2 then doSt st (renameErr o.path o.to st.files) (renamed o.path o.to st)
  else if o.what = 3 then doSt st (thereErr o.path st.files) (removed o.path st)
  else if o.what = 4 then doSt st (syncErr o.path) (syncedSt o.path st) else st

theorem bd_do {st st1 : St} {k : Nat} {er : Int} (h : Bd st k) (h1 : er = 0 → Bd st1 k) : Bd (doSt st er st1) k := by
  unfold doSt
  split
  · split
    · exact (h1 (by assumption)).bump
    · exact h
  · exact h.downed true

theorem writeErr_small {p : By} {n : Int} {st : St} (h : writeErr p n st = 0) : n ≤ 262144 := by
  unfold writeErr at h
  split at h
  · cases h
  · split at h
    · cases h
    · rename_i h2; omega

theorem Bd.does {st : St} {k : Nat} (h : Bd st k) (hk : k + 1 ≤ 1000000) (o : OpR) (hp : o.path.length ≤ maxLen) (ht : o.to.length ≤ maxLen) : Bd (doesSt o st) (k + 1) := by
  have h' := h.mono (Nat.le_succ k) hk
  unfold doesSt
  split
  · exact bd_do h' fun e => h.acted hk (dirOf o.path) (a := .write o.path o.b) hp (fun p b e2 => by cases e2; have := writeErr_small e; omega)
  · split
    · exact bd_do h' fun _ => h.acted hk (dirOf o.path) (a := .rename o.path o.to) ⟨hp, ht⟩ (fun p b e2 => by cases e2)
    · split
      · exact bd_do h' fun _ => h.acted hk (dirOf o.path) (a := .remove o.path) hp (fun p b e2 => by cases e2)
      · split
        · exact bd_do h' fun _ => h'.synced o.path
        · exact h'
end Go.Proofs.YtbibogpeagnjoaaGreatDoor


namespace Go.Proofs.YtbibogpeagnjoaaGreatDoor
open Go Go.RowKit Go.Maps Go.Shelf Go.Deep

set_option maxHeartbeats 1000000 in
theorem Down_any {w : World} {base s f y : Nat} {lv : Value} {st : St} (h : Ok w base s f y lv st) : Calls Tryz.prog 25 #[.pointer (some ⟨s, 0, none⟩)] w fun e w' => e = .returned (.bool st.down) ∧ w = w' := by
  have c6 := h.c6
  clear h
  go_enter Tryz.func25, Tryz.ntmps25
  go_wp2
  go_ret
  exact ⟨rfl, rfl⟩

set_option maxHeartbeats 1000000 in
theorem Fuse_any {w : World} {base s f y : Nat} {lv : Value} {st : St} (h : Ok w base s f y lv st) (n : Int) : Calls Tryz.prog 19 #[.pointer (some ⟨s, 0, none⟩), .int .i64 n] w (UnitPost w (fun w' => Ok w' base s f y lv { st with fuse := max n (-1) }) base) := by
  have c5 := h.c5
  have f5 := h.free 5
  have hk2 := h.field 5 (.int .i64 (max n (-1))) { st with fuse := max n (-1) } rfl rfl rfl rfl
  have k2 : K base w (w.setCell ⟨s, 5, none⟩ (.int .i64 (max n (-1)))) := (K.refl _ _).setShelf h.blk h.base_s 5 _
  have Hk2 := Lib.hid hk2; have K2 := Lib.hid k2
  clear h hk2 k2
  go_enter Tryz.func19, Tryz.ntmps19
  go_wp2
  go_end0
  exact ⟨rfl, K2.out, Hk2.out⟩
end Go.Proofs.YtbibogpeagnjoaaGreatDoor
