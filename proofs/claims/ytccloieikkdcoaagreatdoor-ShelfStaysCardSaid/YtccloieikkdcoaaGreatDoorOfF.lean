/-
  Of: a shelf of files.
-/
import Derived.Test.YtccloieikkdcoaaGreatDoorArgF
namespace Go.Proofs.YtccloieikkdcoaaGreatDoor
open Go Go.RowKit Go.Maps Go.Shelf Go.Deep

/-- Files that a shelf may have at first. -/
def GoodT (t : Tb) : Prop := t.length ≤ 400 ∧ ∀ q ∈ t, q.2.length ≤ 262144 ∧ pathB q.1 = true ∧ q.1.length ≤ maxLen

def OfFPost (base : Nat) (room : Int) (w : World) (e : Ending) (w' : World) : Prop :=
  (e = .returned (.pointer none) ∧ Below w.heap.size w w') ∨ ∃ t, GoodT t ∧ OfPost base (newSt room t) w e w'

/-- 'm[p] = v'. -/
theorem TabIn.put_run {w : World} {base m : Nat} {t : Tb} (h : TabIn w base m t) (hl : t.length < maxLen) {p b : By} {a : Option Addr} {c : Nat} (hp : p.length ≤ maxLen) (hv : RowIn w base (.slice a b.length c) b) :
    ∃ w', (Instr.mapUpdate 60 (.map (some m)) (.string ⟨p.toArray⟩) (.slice a b.length c)).run Tryz.prog w = .ok () w' ∧ TabIn w' base m (tput p b t) ∧ w.grownBy w' (some m) ∧ K base w w' := by
  obtain ⟨hb, hr, es, hown, he⟩ := h
  have hmap : ∃ xs c, w.heap[m]? = some (Obj.map xs c) := by obtain ⟨xs, c, h, _⟩ := hown; exact ⟨xs, c, h⟩
  obtain ⟨w', hrun, hown', hg⟩ := hown.update law9 Tryz.underlying60 hl (keyOf_S hp) (val := .slice a b.length c) (d := .held (.slice a b.length c)) (ps := []) rfl
  have k := keep_turned hg hb hmap
  exact ⟨w', hrun, TabIn.of_put hb hr (he.mono fun _ _ h => h.keep k) (hv.keep k) hown', hg, k⟩

/-- A round of Of. -/
theorem of_round {base : Nat} {w w2 w3 w4 : World} {t : Tb} {p b : By} {k : Nat} (hB : Below w.heap.size w w2) (hB3 : Below w2.heap.size w2 w3) (hg : w3.grownBy w4 (some w.heap.size)) (ht : TabIn w4 base w.heap.size (tput p b t)) (hl : t.length ≤ k)
    (hgood : ∀ q ∈ t, q.2.length ≤ 262144 ∧ pathB q.1 = true ∧ q.1.length ≤ maxLen) (h1 : b.length ≤ 262144) (h2 : pathB p = true) (h3 : p.length ≤ maxLen) :
    TabIn w4 base w.heap.size (tput p b t) ∧ (tput p b t).length ≤ k + 1 ∧ (∀ q ∈ tput p b t, q.2.length ≤ 262144 ∧ pathB q.1 = true ∧ q.1.length ≤ maxLen) ∧ Below w.heap.size w w4 := by
  refine ⟨ht, ?_, fun q hq => ?_, ?_⟩
  · have := tput_length_le p b t; omega
  · unfold tput at hq
    rcases mem_tins.1 hq with rfl | hq
    · exact ⟨h1, h2, h3⟩
    · exact hgood q (mem_tdel.1 hq).1
  · exact (below_two hB hB3).grown hg (Nat.le_trans hB.size hB3.size) (fun r hr => by cases hr; exact Nat.le_refl _)

set_option maxHeartbeats 8000000 in
set_option maxRecDepth 100000 in
theorem Of_any {base : Nat} (room : Int) (w : World) (hb : base ≤ w.heap.size) {v : Value} {l : Tb} (hv : FilesAt w v l) : Calls Tryz.prog 9 #[.int .i64 room, v] w (OfFPost base room w) := by
  have hmm := @run_makeMap Tryz.prog
  have B1 := below_alloc w (.map #[] 0)
  have HB := Lib.hid B1
  have T1 := Lib.hid (tab_empty hb)
  have Hv := Lib.hid hv
  obtain ⟨x, c, rfl, hx⟩ := hv
  have Hx := Lib.hid hx
  clear B1 hx
  by_cases h4 : (l.length : Int) ≤ 400
  · go_enter Tryz.func9, Tryz.ntmps9
    go_wp2_with fail
    go_loopw [18] (fun i wr => ∃ k t, k ≤ l.length ∧ i = .int .i64 (k : Nat) ∧ TabIn wr base w.heap.size t ∧ t.length ≤ k ∧ (∀ q ∈ t, q.2.length ≤ 262144 ∧ pathB q.1 = true ∧ q.1.length ≤ maxLen) ∧ Below w.heap.size w wr) (fun i _ => l.length - (intOf i).toNat)
    case atStart => exact ⟨0, [], Nat.zero_le _, rfl, T1.out, Nat.le_refl _, fun q hq => by simp at hq, HB.out⟩
    case round =>
      obtain ⟨k, t, hk, rfl, ht, htl, hgood, hB⟩ := hrel
      by_cases hlt : k < l.length
      · obtain ⟨o, ho⟩ : ∃ o, l[k]? = some o := ⟨_, List.getElem?_eq_getElem hlt⟩
        obtain ⟨b, off, rfl, v, h0, h1, h6, l1, l2⟩ := Hx.out k o ho
        obtain ⟨va, vc, rfl⟩ := h6.slice
        replace h0 := cell_below' hB h0
        replace h1 := cell_below' hB h1
        rw [add_at] at h1
        unfold S at h0
        have B := below_alloc wr (.cells #[.string ⟨o.1.toArray⟩, .slice va o.2.length vc] 56)
        have ht2 := ht.keep (K.of_new (base := base) B (by have := hB.size; omega)) (B.block _ ht.lt)
        have hd := directory_any o.1 (wr.alloc (.cells #[.string ⟨o.1.toArray⟩, .slice va o.2.length vc] 56)) (Nat.le_trans l1 lim_le)
        unfold S at hd
        have Hd := Lib.hid hd; have Ht2 := Lib.hid ht2; have HB1 := Lib.hid (below_two hB B); have Hg := Lib.hid hgood
        have x0 : (wr.alloc (.cells #[.string ⟨o.1.toArray⟩, .slice va o.2.length vc] 56)).cell? ⟨wr.heap.size, 0, none⟩ = some (.string ⟨o.1.toArray⟩) := cell_of_block (heap_alloc_new wr _) 0
        have x1 : (wr.alloc (.cells #[.string ⟨o.1.toArray⟩, .slice va o.2.length vc] 56)).cell? ⟨wr.heap.size, 1, none⟩ = some (.slice va o.2.length vc) := cell_of_block (heap_alloc_new wr _) 1
        have Hb6 := Lib.hid ((h6.below hB).below B)
        have hltm := ht.lt
        clear hd ht ht2 hB B hgood h6
        have hk400 : l.length ≤ 400 := by omega
        go_wp2_with fail
        refine Hd.out.mono ?_
        rintro e w2 ⟨hB2, ⟨hp, rfl⟩ | ⟨hp, ev, rfl, hf⟩⟩
        · have HP := Lib.hid hp
          have y0 := (hB2.cell (World.block_lt_of_cell? _ _ x0)).trans x0
          have y1 := (hB2.cell (World.block_lt_of_cell? _ _ x1)).trans x1
          have ht3 := Ht2.out.keep (K.of_new (base := base) hB2 (by have := Ht2.out.lt; have := Ht2.out.1; omega)) (hB2.block _ Ht2.out.lt)
          have hlook := ht3.look o.1 (Nat.le_trans l1 lim_le)
          have Ht3 := Lib.hid ht3; have HB2 := Lib.hid (below_two HB1.out hB2)
          have Hb7 := Lib.hid (Hb6.out.below hB2)
          clear hp hB2 ht3 x0 x1
          rcases hlook with ⟨hn, hlook⟩ | ⟨b', a', c', hn, _, hlook⟩
          · have Hn := Lib.hid hn; clear hn
            by_cases hbig : (o.2.length : Int) ≤ 262144
            · have Hcl := Lib.hid (clone_any (w := w2.drew) (v := .slice va o.2.length vc) (b := o.2) Hb7.out (by omega))
              have Ht4 := Lib.hid (Ht3.out.keep ((K.refl base w2).drew) rfl : TabIn w2.drew base w.heap.size t)
              have hpl : o.1.length ≤ maxLen := Nat.le_trans l1 lim_le
              have hne : wr.heap.size ≠ w.heap.size := by have := hltm; omega
              have htm : t.length < maxLen := by unfold maxLen; omega
              go_wp2_with fail
              go_region_held3 (fun w' => w'.cell? ⟨wr.heap.size, 0, none⟩ = some (.string ⟨o.1.toArray⟩) ∧ w'.cell? ⟨wr.heap.size, 1, none⟩ = some (.slice va o.2.length vc))
                (first | exact ⟨y0, y1⟩ | assumption | go_keep)
                (first | (refine Hcl.out.mono ?_; rintro e w3 ⟨cv, rfl, hcv, hB3⟩; obtain ⟨ac, cc, rfl⟩ := hcv.shape; have hS2 := And.intro (cell_below' hB3 y0) (cell_below' hB3 y1); have ht5 := Ht4.out.keep (K.of_new (base := base) hB3 (by have := Ht4.out.lt; have := Ht4.out.1; omega)) (hB3.block _ Ht4.out.lt); obtain ⟨w4, hrun, ht6, hg6, k6⟩ := ht5.put_run htm hpl (hcv.mono (by have := Ht4.out.lt; have := Ht4.out.1; omega)); have hS4 := And.intro (hg6.cell hS2.1 (by intro e; simp at e; omega)) (hg6.cell hS2.2 (by intro e; simp at e; omega))))
              have R := of_round HB2.out ⟨hB3.os, hB3.tape, hB3.output, hB3.size, hB3.block⟩ ⟨hg6.os, hg6.tape, hg6.output, hg6.size, hg6.block⟩ ht6 htl Hg.out (by omega) HP.out hpl
              have HR := Lib.hid R
              clear R
              go_wp2_with fail
              go_roundw
              case rel => exact ⟨k + 1, _, hlt, by go_num, HR.out⟩
              case measure => simp [intOf]; omega
            · go_wp2_with fail
              go_ret
              exact .inl ⟨rfl, HB2.out⟩
          · clear hn
            go_wp2_with fail
            go_ret
            exact .inl ⟨rfl, HB2.out⟩
        · obtain ⟨af, xf, rfl, hfc⟩ := hf
          have y0 := (hB2.cell (World.block_lt_of_cell? _ _ x0)).trans x0
          have ht3 := Ht2.out.keep (K.of_new (base := base) hB2 (by have := Ht2.out.lt; have := Ht2.out.1; omega)) (hB2.block _ Ht2.out.lt)
          have hlook := ht3.look o.1 (Nat.le_trans l1 lim_le)
          have HB2 := Lib.hid (below_two HB1.out hB2)
          clear hp hB2 ht3 x0 x1 hfc
          rcases hlook with ⟨hn, hlook⟩ | ⟨b', a', c', hn, _, hlook⟩
          all_goals clear hn
          all_goals go_wp2_with fail
          all_goals go_ret
          all_goals exact .inl ⟨rfl, HB2.out⟩
      · obtain rfl : k = l.length := by omega
        have Hcl := Lib.hid (mapClone_any ht)
        have Ht := Lib.hid ht; have HBr := Lib.hid hB; have Hg := Lib.hid hgood
        clear ht hB hgood
        go_wp2_with fail
        refine Hcl.out.mono ?_
        rintro e w2 ⟨rfl, ht2, hB2⟩
        have hy := Ht.out.keep (K.of_new (base := base) hB2 (by have := HBr.out.size; omega)) (hB2.block _ Ht.out.lt)
        have R := of_end (room := room) (f := wr.heap.size) (y := w.heap.size) (t := t) (base := base) (w := w) (w2 := w2) (by have := HBr.out.size; have := hB2.size; omega) (by have := Ht.out.lt; omega) ht2 hy (below_two HBr.out hB2)
        have hgt : GoodT t := ⟨by omega, Hg.out⟩
        have HR := Lib.hid R; have HT := Lib.hid hgt; clear R ht2 hy hgt
        go_wp2_with fail
        go_ret
        exact .inr ⟨t, HT.out, _, _, _, rfl, HR.out.1, HR.out.2⟩
  · go_enter Tryz.func9, Tryz.ntmps9
    go_wp2_with fail
    go_ret
    exact .inl ⟨rfl, Below.refl _ _⟩
end Go.Proofs.YtccloieikkdcoaaGreatDoor
