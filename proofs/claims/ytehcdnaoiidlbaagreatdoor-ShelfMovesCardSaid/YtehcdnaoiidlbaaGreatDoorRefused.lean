/-
  ShelfRefused: its walk.
-/
import Derived.Test.YtehcdnaoiidlbaaGreatDoorRefDir
import Derived.Test.YtehcdnaoiidlbaaGreatDoorDoesM
import Derived.Deep.CutBlock
import Derived.Deep.CutRange
namespace Go.Proofs.YtehcdnaoiidlbaaGreatDoor
open Go Go.RowKit Go.Maps Go.Shelf Go.Deep

theorem newSt_bdF {r : Int} {t : Tb} (h : GoodT t) : Bd (newSt r t) 400 :=
  ⟨h.1, by show t.length + 0 ≤ 400; exact h.1, fun q hq => (h.2 q hq).1, fun q hq => (h.2 q hq).1, by simp [newSt], by simp [newSt], by decide⟩

/-- There is power, and no fuse. -/
def Pw (st : St) : Prop := st.fuse = -1 ∧ st.down = false
theorem Pw.on {st : St} (h : Pw st) : on st = true := by unfold Go.Proofs.YtehcdnaoiidlbaaGreatDoor.on; rw [h.1, h.2]; rfl
theorem pw_do {st st1 : St} {er : Int} (h : Pw st) (h1 : Pw st1) : Pw (doSt st er st1) := by
  unfold doSt
  rw [if_pos h.on]
  split
  · exact ⟨by show burnt st1.fuse = -1; rw [h1.1]; rfl, h1.2⟩
  · exact h
theorem Pw.does {st : St} (h : Pw st) (o : OpR) : Pw (doesSt o st) := by
  unfold doesSt
  split
  · exact pw_do h ⟨h.1, h.2⟩
  · split
    · exact pw_do h ⟨h.1, h.2⟩
    · split
      · exact pw_do h ⟨h.1, h.2⟩
      · split
        · exact pw_do h ⟨h.1, h.2⟩
        · exact h

theorem do_refused {st st1 : St} {er : Int} (h : Pw st) (hn : doN st er ≠ 0) : doSt st er st1 = st := by
  unfold doN at hn
  unfold doSt
  rw [if_pos h.on] at hn ⊢
  rw [if_neg hn]
/-- What is refused changes nothing. -/
theorem does_refused {o : OpR} {st : St} (h : Pw st) (hn : doesN o st ≠ 0) : doesSt o st = st := by
  unfold doesN at hn
  unfold doesSt
  by_cases h1 : o.what = 0 ∨ o.what = 1
  · rw [if_pos h1] at hn ⊢; exact do_refused h hn
  · rw [if_neg h1] at hn ⊢
    by_cases h2 : o.what = 2
    · rw [if_pos h2] at hn ⊢; exact do_refused h hn
    · rw [if_neg h2] at hn ⊢
      by_cases h3 : o.what = 3
      · rw [if_pos h3] at hn ⊢; exact do_refused h hn
      · rw [if_neg h3] at hn ⊢
        by_cases h4 : o.what = 4
        · rw [if_pos h4] at hn ⊢; exact do_refused h hn
        · rw [if_neg h4]
/-- A path that is none is refused. -/
theorem does_none {o : OpR} {st : St} (h : Pw st) (h0 : 0 ≤ o.what) (h4 : o.what < 4) (hp : pathB o.path = false) : doesN o st = 1 := by
  unfold doesN doN
  rw [if_pos h.on, if_pos h.on, if_pos h.on, if_pos h.on]
  by_cases h1 : o.what = 0 ∨ o.what = 1
  · rw [if_pos h1]; exact writeErr_1 hp
  · rw [if_neg h1]
    by_cases h2 : o.what = 2
    · rw [if_pos h2]; unfold renameErr; rw [if_pos hp]; split <;> rfl
    · rw [if_neg h2, if_pos (by omega)]; unfold thereErr; rw [if_pos hp]

set_option maxHeartbeats 8000000 in
set_option maxRecDepth 100000 in
theorem Refused_law (w : World) (het : Et w) (hg : 0 < w.heap.size) (room : Int) {vf v : Value} {tf : Tb} {l : List OpR} (hlf : tf.length ≤ lim) (hvf : FilesAt w vf tf) (hl : l.length ≤ lim) (hv : OpsAt w w.heap.size v l) :
    Calls Tryz.prog 3 #[.int .i64 room, vf, v] w (HeadPost w) := by
  have Hh := Lib.hid (head_any w het hg)
  have Hv := Lib.hid hv
  have Hvf := Lib.hid hvf
  obtain ⟨xf, cf, rfl, _⟩ := hvf
  obtain ⟨x, c, rfl, hx⟩ := hv
  have Hx := Lib.hid hx; clear hx
  have Het := Lib.hid het; clear het
  go_enter Tryz.func3, Tryz.ntmps3
  go_wp2_with fail
  refine Hh.out.mono ?_
  rintro e w1 ⟨rfl, hB1⟩
  have Hof := Lib.hid (Of_any (base := w.heap.size) room w1 hB1.size (Hvf.out.below hB1))
  have HB1 := Lib.hid hB1; clear hB1
  go_wp2_with fail
  refine Hof.out.mono ?_
  rintro e w2 (⟨rfl, hB2⟩ | ⟨t0, hgt, s, f, y, rfl, hk, hB2⟩)
  · have HB2 := Lib.hid (below_two HB1.out hB2); clear hB2
    go_wp2_with fail
    go_ret
    exact ⟨rfl, HB2.out⟩
  · have hB02 := below_two HB1.out hB2
    have Hgr := Lib.hid (Great_any (Hv.out.below hB02) hl)
    have HB2 := Lib.hid hB02; have Hk := Lib.hid hk; have Hgt := Lib.hid hgt
    clear hB2 hB02 hk hgt
    go_wp2_with fail
    refine Hgr.out.mono ?_
    rintro e w3 ⟨gr, rfl, hB3, hsm⟩
    have Hk3 := Lib.hid (Hk.out.keep hB3)
    have hB03 := below_two HB2.out hB3
    have Hgf := Lib.hid (GreatFiles_any (Hvf.out.below hB03) hlf)
    have HB3 := Lib.hid hB03; have Hsm := Lib.hid hsm
    clear hB3 hsm hB03
    cases gr with
    | true =>
      go_wp2_with fail
      go_ret
      exact ⟨rfl, HB3.out⟩
    | false =>
      have hsm := Hsm.out rfl
      clear Hsm
      go_wp2_with fail
      refine Hgf.out.mono ?_
      rintro e w4 ⟨gf, rfl, hB4, _⟩
      have hk4 := Hk3.out.keep hB4
      have HK4 := Lib.hid (K.of_new (base := w.heap.size) (below_two HB3.out hB4) (Nat.le_refl _)); have Hk4 := Lib.hid hk4
      clear hB4 hk4
      cases gf with
      | true =>
        go_wp2_with fail
        go_ret
        exact ⟨rfl, HK4.out.below⟩
      | false =>
        have hl3 : l.length ≤ 300 := hsm.1
        by_cases h40 : (40 : Int) < (l.length : Int)
        · go_wp2_with fail
          go_ret
          exact ⟨rfl, HK4.out.below⟩
        have Hpw : Hid (Pw (newSt room t0)) := Lib.hid ⟨rfl, rfl⟩
        have Hbd := Lib.hid (newSt_bdF (r := room) Hgt.out)
        go_wp2_with fail
        go_loopw [9] (fun i wr => ∃ k lv st, k ≤ l.length ∧ i = .int .i64 (k : Nat) ∧ K w.heap.size w4 wr ∧ Ok wr w.heap.size s f y lv st ∧ Bd st (400 + k) ∧ Pw st) (fun i _ => l.length - (intOf i).toNat)
        case atStart => exact ⟨0, _, _, Nat.zero_le _, rfl, K.refl _ _, Hk4.out, Hbd.out, Hpw.out⟩
        case round =>
          obtain ⟨k, lv, st, hk, rfl, hK, hok, hbd, hpw⟩ := hrel
          by_cases hlt : k < l.length
          · obtain ⟨o, ho⟩ : ∃ o, l[k]? = some o := ⟨_, List.getElem?_eq_getElem hlt⟩
            have hfi := Files_any hok hbd
            have Hfi := Lib.hid hfi; have HKr := Lib.hid hK; have Hok := Lib.hid hok; have Hbd2 := Lib.hid hbd; have Hpw2 := Lib.hid hpw
            clear hfi hK hok hbd hpw
            go_wp2_with fail
            refine Hfi.out.mono ?_
            rintro e w5 ⟨was, rfl, hwas, hB5⟩
            obtain ⟨aw, cw, rfl⟩ := hwas.slice
            have HK5 := Lib.hid (HKr.out.trans (K.of_new (base := w.heap.size) hB5 (by have := HKr.out.size; have := HK4.out.size; omega)))
            have Hok5 := Lib.hid (Hok.out.keep hB5)
            have Hwas := Lib.hid hwas
            clear Hfi HKr Hok hB5 hwas
            go_wp2_with fail
            refine (Acts_any Hok5.out).mono ?_
            rintro e w' ⟨rfl, rfl⟩
            go_wp2_with fail
            refine (Loose_any Hok5.out).mono ?_
            rintro e w' ⟨rfl, rfl⟩
            obtain ⟨b, off, rfl, bvv, kv, h0, h1, h2, h3, h4, h5, h6, h7, _, _, l1, l2, l3, l4⟩ := Hx.out k o ho
            obtain ⟨va, vc, rfl⟩ := h6.slice
            obtain ⟨ka, kc, rfl⟩ := h7.slice
            have H0w := Lib.hid h0
            have h1w := h1
            rw [add_at] at h1w
            unfold S at h1w
            have H1w := Lib.hid h1w
            clear h1w
            have hKw := HK4.out.trans HK5.out
            replace h0 := cell_below' hKw.below h0
            replace h1 := cell_below' hKw.below h1
            replace h2 := cell_below' hKw.below h2
            replace h3 := cell_below' hKw.below h3
            replace h4 := cell_below' hKw.below h4
            replace h5 := cell_below' hKw.below h5
            rw [add_at] at h1 h2 h3 h4 h5
            unfold S at h1 h2
            have hdo := does_any (o := o) (kv := .slice ka o.keep.length kc) Hok5.out Hbd2.out (Het.out.keep hKw hg) hg (h6.below hKw.below) (Nat.le_trans l1 lim_le) (Nat.le_trans l2 lim_le) (Nat.le_trans l3 lim_le)
            have hbd' := Hbd2.out.does (by omega) o (Nat.le_trans l1 lim_le) (Nat.le_trans l2 lim_le)
            have eo : opV o (.slice va o.b.length vc) (.slice ka o.keep.length kc) = .agg #[.int .i64 o.what, .string ⟨o.path.toArray⟩, .string ⟨o.to.toArray⟩, .slice va o.b.length vc, .int .i64 o.n, .slice ka o.keep.length kc] := rfl
            rw [eo] at hdo
            have Hdo := Lib.hid hdo; have Hbd6 := Lib.hid hbd'; have Hpw6 := Lib.hid (Hpw2.out.does o)
            have Href := Lib.hid (does_refused (o := o) Hpw2.out); have Hnone := Lib.hid (does_none (o := o) Hpw2.out)
            clear h6 h7 hdo hbd' eo hKw
            go_upto_region 12 with ((with_reducible refine Hdo.out.mono ?_); rintro e w6 ⟨rfl, k6, lv6, hok6⟩)
            have HK6 := Lib.hid (HK5.out.trans k6); have Hok6 := Lib.hid hok6; have K6 := Lib.hid k6
            clear k6 hok6 h0 h1 h2 h3 h4 h5 Hdo
            obtain ⟨n, hn⟩ : ∃ n, n = doesN o st := ⟨_, rfl⟩
            have Hn := Lib.hid hn
            rw [← hn]
            clear hn
            go_cut [72] from 52 to 71 (fun t wx => t = .bool false ∧ ∃ lv', K w.heap.size w4 wx ∧ Ok wx w.heap.size s f y lv' (doesSt o st))
            case first =>
              by_cases hn0 : n = 0
              · have e0 : (n != 0) = false := by rw [hn0]; rfl
                clear hn0
                go_wp2
                go_meet
                case rel => exact ⟨rfl, _, HK6.out, Hok6.out⟩
              · have e0 : (n != 0) = true := by simpa using hn0
                have hst : doesSt o st = st := Href.out (by rw [← Hn.out]; exact hn0)
                have hok6 := Hok6.out
                rw [hst] at hok6
                have Hok6' := Lib.hid hok6
                have Hfi2 := Lib.hid (Files_any hok6 Hbd2.out)
                have Hst := Lib.hid hst
                have hlf2 : st.files.length ≤ 1000000 := by have := Hbd2.out.files; omega
                clear hok6 hst hn0
                go_wp2_with fail
                refine Hfi2.out.mono ?_
                rintro e w7 ⟨now, rfl, hnow, hB7⟩
                obtain ⟨an, cn, rfl⟩ := hnow.slice
                have hk7 : K w.heap.size w6 w7 := K.of_new hB7 (by have := HK6.out.size; have := HK4.out.size; omega)
                have hsa := Same_any hnow.v (Hwas.out.keep (K6.out.trans hk7)).v hlf2
                unfold SamePost at hsa
                rw [decide_eq_true rfl] at hsa
                have Hsa := Lib.hid hsa
                have Hok7 := Lib.hid (Hok6'.out.keep hB7); have HK7 := Lib.hid (HK6.out.trans hk7)
                clear hsa hk7 hnow hB7 Hfi2
                go_wp2_with fail
                refine Hsa.out.mono ?_
                rintro e w8 ⟨rfl, hB8⟩
                have Hok8 := Lib.hid (Hok7.out.keep hB8)
                have HK8 := Lib.hid (HK7.out.trans (K.of_new (base := w.heap.size) hB8 (by have := HK7.out.size; have := HK4.out.size; omega)))
                clear hB8 Hsa
                go_wp2_with fail
                refine (Acts_any Hok8.out).mono ?_
                rintro e w' ⟨rfl, rfl⟩
                go_wp2_with fail
                refine (Loose_any Hok8.out).mono ?_
                rintro e w' ⟨rfl, rfl⟩
                go_wp2
                go_meet
                case rel => exact ⟨rfl, _, HK8.out, by rw [Hst.out]; exact Hok8.out⟩
            case rest =>
              obtain ⟨rfl, lv9, hK9, hok9⟩ := hcut
              have HK9 := Lib.hid hK9; have Hok9 := Lib.hid hok9
              clear hK9 hok9
              have c0 := cell_below' (HK4.out.trans HK9.out).below H0w.out
              have c1 := cell_below' (HK4.out.trans HK9.out).below H1w.out
              have hcase : decide ((0 : Int) ≤ o.what) = false ∨ (decide ((0 : Int) ≤ o.what) = true ∧ decide (o.what < 4) = false) ∨ (decide ((0 : Int) ≤ o.what) = true ∧ decide (o.what < 4) = true ∧ pathB o.path = true) ∨ (decide ((0 : Int) ≤ o.what) = true ∧ decide (o.what < 4) = true ∧ pathB o.path = false ∧ (n != 1) = false) := by
                by_cases a0 : 0 ≤ o.what
                · by_cases a4 : o.what < 4
                  · cases hp : pathB o.path with
                    | true => exact .inr (.inr (.inl ⟨by simpa using a0, by simpa using a4, rfl⟩))
                    | false => exact .inr (.inr (.inr ⟨by simpa using a0, by simpa using a4, rfl, by rw [Hn.out, Hnone.out a0 a4 hp]; rfl⟩))
                  · exact .inr (.inl ⟨by simpa using a0, by simpa using a4⟩)
                · exact .inl (by simpa using a0)
              have HPa := Lib.hid (fun W => Path_any o.path W l1)
              unfold S at HPa
              rcases hcase with a0 | ⟨a0, a4⟩ | ⟨a0, a4, hp⟩ | ⟨a0, a4, hp, hn1⟩
              · go_wp2_with fail
                go_roundw
                case rel => exact ⟨k + 1, _, _, hlt, by go_num, HK9.out, Hok9.out, Hbd6.out, Hpw6.out⟩
                case measure => simp [intOf]; omega
              · go_wp2_with fail
                go_roundw
                case rel => exact ⟨k + 1, _, _, hlt, by go_num, HK9.out, Hok9.out, Hbd6.out, Hpw6.out⟩
                case measure => simp [intOf]; omega
              · rw [hp] at HPa
                clear hp
                go_wp2_with fail
                refine (HPa.out _).mono ?_
                rintro e w10 ⟨rfl, hB10⟩
                have HK10 := Lib.hid (HK9.out.trans (K.of_new (base := w.heap.size) hB10 (by have := HK9.out.size; have := HK4.out.size; omega)))
                have Hok10 := Lib.hid (Hok9.out.keep hB10)
                clear hB10
                go_wp2
                go_roundw
                case rel => exact ⟨k + 1, _, _, hlt, by go_num, HK10.out, Hok10.out, Hbd6.out, Hpw6.out⟩
                case measure => simp [intOf]; omega
              · rw [hp] at HPa
                clear hp
                go_wp2_with fail
                refine (HPa.out _).mono ?_
                rintro e w10 ⟨rfl, hB10⟩
                have HK10 := Lib.hid (HK9.out.trans (K.of_new (base := w.heap.size) hB10 (by have := HK9.out.size; have := HK4.out.size; omega)))
                have Hok10 := Lib.hid (Hok9.out.keep hB10)
                clear hB10
                go_wp2
                go_roundw
                case rel => exact ⟨k + 1, _, _, hlt, by go_num, HK10.out, Hok10.out, Hbd6.out, Hpw6.out⟩
                case measure => simp [intOf]; omega
          · obtain rfl : k = l.length := by omega
            have HK := Lib.hid hK
            clear hK hok hbd hpw
            go_wp2_with fail
            go_ret
            exact ⟨rfl, (HK4.out.trans HK.out).below⟩
end Go.Proofs.YtehcdnaoiidlbaaGreatDoor
