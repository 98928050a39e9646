/-
  ShelfWhole: its walk.
-/
import Derived.Test.YtfinabaeiaebcaaGreatDoorSame
import Derived.Test.YtfinabaeiaebcaaGreatDoorDoesM
namespace Go.Proofs.YtfinabaeiaebcaaGreatDoor
open Go Go.RowKit Go.Maps Go.Shelf Go.Deep

def playAll (l : List (By × Act)) (t : Tb) : Tb := l.foldl (fun t a => a.2.play t) t
theorem playAll_snoc (l : List (By × Act)) (a : By × Act) (t : Tb) : playAll (l ++ [a]) t = a.2.play (playAll l t) := by
  unfold playAll; rw [List.foldl_append]; rfl

/-- Nothing was synced since the shelf had the files t0. -/
structure Inv (t0 : Tb) (st : St) : Prop where
  synced : st.synced = t0
  files : st.files = playAll st.loose t0

theorem Inv.acted {t0 : Tb} {st : St} (h : Inv t0 st) (d : By) (a : Act) : Inv t0 { st with files := a.play st.files, loose := st.loose ++ [(d, a)] } :=
  ⟨h.synced, by show a.play st.files = playAll (st.loose ++ [(d, a)]) t0; rw [playAll_snoc, h.files]⟩
theorem inv_do {t0 : Tb} {st st1 : St} {er : Int} (h : Inv t0 st) (h1 : Inv t0 st1) : Inv t0 (doSt st er st1) := by
  unfold doSt
  split
  · split
    · exact ⟨h1.synced, h1.files⟩
    · exact h
  · exact ⟨h.synced, h.files⟩
theorem Inv.does {t0 : Tb} {st : St} (h : Inv t0 st) {o : OpR} (h4 : ¬ o.what = 4) : Inv t0 (doesSt o st) := by
  unfold doesSt
  split
  · exact inv_do h (h.acted (dirOf o.path) (.write o.path o.b))
  · split
    · exact inv_do h (h.acted (dirOf o.path) (.rename o.path o.to))
    · split
      · exact inv_do h (h.acted (dirOf o.path) (.remove o.path))
      · first | exact h | (rw [if_neg h4]; exact h)

theorem crashK_all {l : List (By × Act)} {t : Tb} {n : Nat} (hn : l.length ≤ n) : ∀ k, k ≤ l.length → crashK l (List.replicate n true) t k = playAll (l.take k) t
  | 0, _ => rfl
  | k + 1, hk => by
    obtain ⟨a, ha⟩ : ∃ a, l[k]? = some a := ⟨_, List.getElem?_eq_getElem (by omega)⟩
    rw [crashK_some ha, crashK_all hn k (by omega), take_snoc ha, playAll_snoc, if_pos]
    simp [List.getD, show k < n by omega]
theorem crashK_none {l : List (By × Act)} {t : Tb} {n : Nat} : ∀ k, crashK l (List.replicate n false) t k = t
  | 0 => rfl
  | k + 1 => by
    rw [crashK, crashK_none k]
    split
    · rw [if_neg]
      simp [List.getD, List.getElem?_replicate]
      split <;> simp
    · rfl

theorem newSt_bdT {r : Int} {t : Tb} (h : GoodT t) : Bd (newSt r t) 400 :=
  ⟨h.1, by show t.length + 0 ≤ 400; exact h.1, fun q hq => (h.2 q hq).1, fun q hq => (h.2 q hq).1, by simp [newSt], by simp [newSt], by decide⟩

theorem infoBool : (Tryz.prog.info? 4).map (fun i => (i.zero, i.size, i.bytes)) = some (some (.bool false), 1, 1) := by kernel_rfl

theorem bools_own {w : World} {B base n : Nat} {v : Value} {b : Bool} (h : w.ownsRow B 4 1 v n (List.replicate n (.bool b))) : BoolsAt w base v (List.replicate n b) := by
  have hrow := h
  rcases h.2 with ⟨rfl, h0⟩ | ⟨g, cap, cur, rfl, _, hc, _⟩
  · exact .inl ⟨rfl, by rw [h0]; rfl⟩
  · refine .inr ⟨⟨g, 0, none⟩, cap, by rw [List.length_replicate], fun i hi => ?_⟩
    rw [List.length_replicate] at hi
    refine ⟨.inr ⟨_, _, _, hc, rfl⟩, ?_⟩
    have := World.ownsRow.cells hrow (g := g) rfl i (.bool b) (by simp [hi])
    rw [this]; simp [hi]

theorem own_block {w : World} {B n : Nat} {t : TypeId} {v : Value} {xs : List Value} (h : w.ownsRow B t 1 v n xs) : ∀ r, v.ownBlock = some r → B ≤ r := fun r hr => by
  rcases h.2 with ⟨rfl, _⟩ | ⟨g, cap, cur, rfl, hb, _⟩
  · cases hr
  · cases hr; exact hb

theorem keep_round {w6 wr w' : World} {o : Obj} {v : Value} {k : Nat} {xs : List Value} (hB : Below w6.heap.size w6 wr) (hown : wr.ownsRow w6.heap.size 4 1 v k xs) (hg : (wr.alloc o).grownBy w' v.ownBlock) : Below w6.heap.size w6 w' :=
  (below_two hB (below_alloc wr o)).grown hg (Nat.le_trans hB.size (below_alloc wr o).size) fun r hr => own_block hown r hr

set_option maxHeartbeats 8000000 in
set_option maxRecDepth 100000 in
theorem Whole_law (w : World) (het : Et w) (hg : 0 < w.heap.size) {vf v : Value} {tf : Tb} {l : List OpR} (hlf : tf.length ≤ lim) (hvf : FilesAt w vf tf) (hl : l.length ≤ lim) (hv : OpsAt w w.heap.size v l) (all : Bool) :
    Calls Tryz.prog 6 #[vf, v, .bool all] w (HeadPost w) := by
  have Hh := Lib.hid (head_any w het hg)
  have Hv := Lib.hid hv
  have Hvf := Lib.hid hvf
  obtain ⟨xf, cf, rfl, _⟩ := hvf
  obtain ⟨x, c, rfl, hx⟩ := hv
  have Hx := Lib.hid hx; clear hx
  have Het := Lib.hid het; clear het
  go_enter Tryz.func6, Tryz.ntmps6
  go_wp2_with fail
  refine Hh.out.mono ?_
  rintro e w1 ⟨rfl, hB1⟩
  have Hof := Lib.hid (Of_any (base := w.heap.size) 4194304 w1 hB1.size (Hvf.out.below hB1))
  have HB1 := Lib.hid hB1; clear hB1
  go_wp2_with fail
  refine Hof.out.mono ?_
  rintro e w2 (⟨rfl, hB2⟩ | ⟨t0, hgt, s, f, y, rfl, hk, hB2⟩)
  · have HB2 := Lib.hid (below_two HB1.out hB2); clear hB2
    go_wp2_with fail
    go_ret
    exact ⟨rfl, HB2.out⟩
  · have hB02 := below_two HB1.out hB2
    have Hgr := Lib.hid (Great_any (Hv.out.below hB02) hl)
    have HB2 := Lib.hid hB02; have Hk := Lib.hid hk; have Hgt := Lib.hid hgt
    clear hB2 hB02 hk hgt
    go_wp2_with fail
    refine Hgr.out.mono ?_
    rintro e w3 ⟨gr, rfl, hB3, hsm⟩
    have Hk3 := Lib.hid (Hk.out.keep hB3)
    have hB03 := below_two HB2.out hB3
    have Hgf := Lib.hid (GreatFiles_any (Hvf.out.below hB03) hlf)
    have HB3 := Lib.hid hB03; have Hsm := Lib.hid hsm
    clear hB3 hsm hB03
    cases gr with
    | true =>
      go_wp2_with fail
      go_ret
      exact ⟨rfl, HB3.out⟩
    | false =>
      have hsm := Hsm.out rfl
      clear Hsm
      go_wp2_with fail
      refine Hgf.out.mono ?_
      rintro e w4 ⟨gf, rfl, hB4, _⟩
      have hk4 := Hk3.out.keep hB4
      have Hfi := Lib.hid (Files_any hk4 (newSt_bdT Hgt.out))
      have HB4 := Lib.hid (below_two HB3.out hB4); have Hk4 := Lib.hid hk4
      clear hB4 hk4
      cases gf with
      | true =>
        go_wp2_with fail
        go_ret
        exact ⟨rfl, HB4.out⟩
      | false =>
        go_wp2_with fail
        refine Hfi.out.mono ?_
        rintro e w5 ⟨was, rfl, hwas, hB5⟩
        obtain ⟨aw, cw, rfl⟩ := hwas.slice
        have Hk5 := Lib.hid (Hk4.out.keep hB5)
        have HK5 := Lib.hid (K.of_new (base := w.heap.size) (below_two HB4.out hB5) (Nat.le_refl _))
        have Hwas := Lib.hid hwas
        have Hinv := Lib.hid (Inv.mk (t0 := t0) (st := newSt 4194304 t0) rfl rfl)
        have Hbd := Lib.hid (newSt_bdT (r := 4194304) Hgt.out)
        clear hB5 hwas
        have hl3 : l.length ≤ 300 := hsm.1
        go_wp2_with fail
        go_loopw [10] (fun i wr => ∃ k lv st, k ≤ l.length ∧ i = .int .i64 (k : Nat) ∧ K w.heap.size w5 wr ∧ Ok wr w.heap.size s f y lv st ∧ Bd st (400 + k) ∧ Inv t0 st) (fun i _ => l.length - (intOf i).toNat)
        case atStart => exact ⟨0, _, _, Nat.zero_le _, rfl, K.refl _ _, Hk5.out, Hbd.out, Hinv.out⟩
        case round =>
          obtain ⟨k, lv, st, hk, rfl, hK, hok, hbd, hinv⟩ := hrel
          by_cases hlt : k < l.length
          · obtain ⟨o, ho⟩ : ∃ o, l[k]? = some o := ⟨_, List.getElem?_eq_getElem hlt⟩
            obtain ⟨b, off, rfl, bvv, kv, h0, h1, h2, h3, h4, h5, h6, h7, _, _, l1, l2, l3, l4⟩ := Hx.out k o ho
            obtain ⟨va, vc, rfl⟩ := h6.slice
            obtain ⟨ka, kc, rfl⟩ := h7.slice
            have hKw := HK5.out.trans hK
            replace h0 := cell_below' hKw.below h0
            replace h1 := cell_below' hKw.below h1
            replace h2 := cell_below' hKw.below h2
            replace h3 := cell_below' hKw.below h3
            replace h4 := cell_below' hKw.below h4
            replace h5 := cell_below' hKw.below h5
            rw [add_at] at h1 h2 h3 h4 h5
            unfold S at h1 h2
            by_cases hw4 : o.what = 4
            · have hw5 : (o.what == 4) = true := by simpa using hw4
              have HK := Lib.hid hK; have Hok := Lib.hid hok; have Hbd2 := Lib.hid (hbd.mono (show 400 + k ≤ 400 + (k + 1) by omega) (by omega)); have Hinv2 := Lib.hid hinv
              clear hK hok hbd hinv hKw h6 h7
              go_wp2_with fail
              go_roundw
              case rel => exact ⟨k + 1, _, _, hlt, by go_num, HK.out, Hok.out, Hbd2.out, Hinv2.out⟩
              case measure => simp [intOf]; omega
            · have hw5 : (o.what == 4) = false := by simpa using hw4
              have hdo := does_any (o := o) (kv := .slice ka o.keep.length kc) hok hbd (Het.out.keep hKw hg) hg (h6.below hKw.below) (Nat.le_trans l1 lim_le) (Nat.le_trans l2 lim_le) (Nat.le_trans l3 lim_le)
              have hbd' := hbd.does (by omega) o (Nat.le_trans l1 lim_le) (Nat.le_trans l2 lim_le)
              have hinv' := hinv.does hw4
              have eo : opV o (.slice va o.b.length vc) (.slice ka o.keep.length kc) = .agg #[.int .i64 o.what, .string ⟨o.path.toArray⟩, .string ⟨o.to.toArray⟩, .slice va o.b.length vc, .int .i64 o.n, .slice ka o.keep.length kc] := rfl
              rw [eo] at hdo
              have Hdo := Lib.hid hdo; have HK := Lib.hid hK; have Hbd2 := Lib.hid hbd'; have Hinv2 := Lib.hid hinv'
              clear hK hok hbd hinv hKw h6 h7 hdo hbd' hinv' eo
              go_wp2_with fail
              refine Hdo.out.mono ?_
              rintro e w6 ⟨rfl, k6, lv6, hok6⟩
              have HK6 := Lib.hid (HK.out.trans k6); have Hok6 := Lib.hid hok6
              clear k6 hok6
              go_wp2_with fail
              go_roundw
              case rel => exact ⟨k + 1, _, _, hlt, by go_num, HK6.out, Hok6.out, Hbd2.out, Hinv2.out⟩
              case measure => simp [intOf]; omega
          · obtain rfl : k = l.length := by omega
            have Hfi2 := Lib.hid (Files_any hok hbd)
            have HK := Lib.hid hK; have Hok := Lib.hid hok; have Hbd2 := Lib.hid hbd; have Hinv2 := Lib.hid hinv
            clear hK hok hbd hinv
            go_wp2_with fail
            refine Hfi2.out.mono ?_
            rintro e w6 ⟨now, rfl, hnow, hB6⟩
            obtain ⟨an, cn, rfl⟩ := hnow.slice
            have hk6 := Hok.out.keep hB6
            have HK6 := Lib.hid (HK.out.trans (K.of_new hB6 (Nat.le_trans HK5.out.size HK.out.size)))
            have Hnow := Lib.hid hnow; have Hk6 := Lib.hid hk6
            clear hnow hk6 hB6
            go_wp2_with fail
            obtain ⟨i0, hi0, hz0, hz1, hz2⟩ := info_parts infoBool
            have hll : st.loose.length ≤ 700 := by have := Hbd2.out.both; omega
            go_loopw [12, 13] (fun kv i wr => ∃ k : Nat, k ≤ st.loose.length ∧ i = .int .i64 k ∧ wr.ownsRow w6.heap.size 4 1 kv k (List.replicate k (.bool all)) ∧ Below w6.heap.size w6 wr) (fun _ i _ => st.loose.length - (intOf i).toNat)
            case atStart => exact ⟨0, Nat.zero_le _, rfl, World.ownsRow_nil _ _ _ _, Below.refl _ _⟩
            case round =>
              obtain ⟨k, hk2, rfl, hown, hB⟩ := hrel
              have Hlo := Lib.hid (Loose_any (Hk6.out.keep hB))
              obtain ⟨ar, nr, cr, rfl⟩ : ∃ ar nr cr, u12 = .slice ar nr cr := by
                rcases hown.2 with ⟨r, _⟩ | ⟨gg, cap, cur, r, _⟩
                · exact ⟨_, _, _, r⟩
                · exact ⟨_, _, _, r⟩
              by_cases hlt2 : k < st.loose.length
              · have hnw := heap_alloc_new wr (.cells #[.bool all] 4)
                have Hnw := Lib.hid hnw; clear hnw
                have hsz := hB.size
                have HB := Lib.hid hB; have Hown := Lib.hid hown; clear hB
                go_wp2_with fail
                refine Hlo.out.mono ?_
                rintro e w' ⟨rfl, rfl⟩
                go_wp2_with (at_builtin; refine wpList_append_own _ rfl _ _ 32 rfl w6.heap.size 4 i0 _ 1 1 Tryz.underlying32 hi0 hz0 hz1 hz2 rfl (by decide) _ _ _ rfl (hown.alloc _) ⟨wr.heap.size, 0, none⟩ 1 1 [.bool all] rfl rfl ?c1 ?c2 ?c3 ?c4 ?c5 ?_)
                case c1 => exact World.news_of_block (cs := #[.bool all]) (t := 4) (fr := (0, 0)) Hnw.out
                case c2 => simp [Value.oneCell']
                case c3 => unfold maxLen; omega
                case c4 => omega
                case c5 => simp; omega
                intro v' w7 hown' hgrow _
                have hB7 : Below w6.heap.size w6 w7 := keep_round HB.out Hown.out hgrow
                have ho7 : w7.ownsRow w6.heap.size 4 1 v' (k + 1) (List.replicate (k + 1) (.bool all)) := by rw [List.replicate_succ']; exact hown'
                have HB7 := Lib.hid hB7; have Ho7 := Lib.hid ho7
                clear hB7 ho7 hown' hgrow hown
                go_wp2_with fail
                go_roundw
                case rel => exact ⟨k + 1, by omega, by go_num, Ho7.out, HB7.out⟩
                case measure => simp [intOf]; omega
              · obtain rfl : k = st.loose.length := by omega
                have hbo := bools_own (base := w.heap.size) hown
                have hKr : K w.heap.size w5 wr := HK6.out.trans (K.of_new hB (Nat.le_trans HK5.out.size HK6.out.size))
                have hcr := Crash_any (Hk6.out.keep hB) Hbd2.out hbo (by rw [List.length_replicate]; unfold maxLen; omega)
                have hbc := Hbd2.out.crash (List.replicate st.loose.length all)
                have Hcr := Lib.hid hcr; have Hbc := Lib.hid hbc; have HB := Lib.hid hB
                clear hbo hKr hcr hbc hB hown
                go_wp2_with fail
                refine Hlo.out.mono ?_
                rintro e w' ⟨rfl, rfl⟩
                go_wp2_with fail
                refine Hcr.out.mono ?_
                rintro e w7 ⟨rfl, k7, f7, hok7⟩
                have Hfi3 := Lib.hid (Files_any hok7 Hbc.out)
                have HK7 := Lib.hid ((K.of_new (base := w.heap.size) HB.out (Nat.le_trans HK5.out.size HK6.out.size)).trans k7)
                clear k7 hok7
                cases all with
                | true =>
                  go_wp2_with fail
                  refine Hfi3.out.mono ?_
                  rintro e w8 ⟨fin, rfl, hfin, hB8⟩
                  have hK8 := HK7.out.trans (K.of_new (base := w.heap.size) hB8 (by have := HK7.out.size; have := HK6.out.size; have := HK5.out.size; omega))
                  have ht : (crashSt (List.replicate st.loose.length true) st).files = st.files := by
                    show crashK st.loose (List.replicate st.loose.length true) st.synced st.loose.length = st.files
                    rw [crashK_all (Nat.le_refl _) _ (Nat.le_refl _), List.take_length, Hinv2.out.files, Hinv2.out.synced]
                  have hsa := Same_any hfin.v (Hnow.out.keep hK8).v (by have := Hbc.out.files; omega)
                  rw [ht] at hsa
                  obtain ⟨af, cf2, rfl⟩ := hfin.slice
                  have Hsa := Lib.hid hsa; have HK8 := Lib.hid ((HK5.out.trans HK6.out).trans hK8)
                  clear hsa hfin hK8 ht hB8
                  go_wp2_with fail
                  refine Hsa.out.mono ?_
                  rintro e w9 ⟨rfl, hB9⟩
                  have HB9 := Lib.hid hB9; clear hB9
                  go_wp2_with fail
                  go_ret
                  exact ⟨by simp, (HK8.out.trans (K.of_new HB9.out HK8.out.size)).below⟩
                | false =>
                  go_wp2_with fail
                  refine Hfi3.out.mono ?_
                  rintro e w8 ⟨fin, rfl, hfin, hB8⟩
                  have hK8 := HK7.out.trans (K.of_new (base := w.heap.size) hB8 (by have := HK7.out.size; have := HK6.out.size; have := HK5.out.size; omega))
                  have ht : (crashSt (List.replicate st.loose.length false) st).files = (newSt 4194304 t0).files := by
                    show crashK st.loose (List.replicate st.loose.length false) st.synced st.loose.length = t0
                    rw [crashK_none, Hinv2.out.synced]
                  have hsa := Same_any hfin.v (Hwas.out.keep (HK6.out.trans hK8)).v (by have := Hbc.out.files; omega)
                  rw [ht] at hsa
                  obtain ⟨af, cf2, rfl⟩ := hfin.slice
                  have Hsa := Lib.hid hsa; have HK8 := Lib.hid ((HK5.out.trans HK6.out).trans hK8)
                  clear hsa hfin hK8 ht hB8
                  go_wp2_with fail
                  refine Hsa.out.mono ?_
                  rintro e w9 ⟨rfl, hB9⟩
                  have HB9 := Lib.hid hB9; clear hB9
                  go_wp2_with fail
                  go_ret
                  exact ⟨by simp, (HK8.out.trans (K.of_new HB9.out HK8.out.size)).below⟩
end Go.Proofs.YtfinabaeiaebcaaGreatDoor
