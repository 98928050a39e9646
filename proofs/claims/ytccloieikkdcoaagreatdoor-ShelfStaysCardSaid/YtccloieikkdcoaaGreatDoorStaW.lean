/-
  ShelfStays: its walk.
-/
import Derived.Test.YtccloieikkdcoaaGreatDoorStaP
namespace Go.Proofs.YtccloieikkdcoaaGreatDoor
open Go Go.RowKit Go.Maps Go.Shelf Go.Deep

theorem sync_one {d : By} (h : partB d = true) : syncErr d = 0 := by unfold syncErr; rw [if_pos h]
theorem sync_bad {d : By} (h : partB d = false) : syncErr d = 1 := by unfold syncErr; rw [if_neg (by rw [h]; decide)]
theorem part_ne {d : By} (h : partB d = true) : d ≠ [] := by rintro rfl; cases h

set_option maxHeartbeats 16000000 in
set_option maxRecDepth 100000 in
theorem Stays_law (w : World) (het : Et w) (hg : 0 < w.heap.size) {vf v vm kv0 : Value} {tf : Tb} {l : List OpR} {dir : By} {more : List OpR} {ks : List Bool} (hlf : tf.length ≤ lim) (hvf : FilesAt w vf tf) (hl : l.length ≤ lim) (hv : OpsAt w w.heap.size v l) (hdl : dir.length ≤ lim) (hlm : more.length ≤ lim) (hvm : OpsAt w w.heap.size vm more) (hkl : ks.length ≤ lim) (hkv : BoolsAt w w.heap.size kv0 ks) :
    Calls Tryz.prog 4 #[vf, v, S dir, vm, kv0] w (HeadPost w) := by
  have Hh := Lib.hid (head_any w het hg)
  have Hv := Lib.hid hv
  have Hvm := Lib.hid hvm
  have Hvf := Lib.hid hvf
  obtain ⟨xf, cf, rfl, _⟩ := hvf
  obtain ⟨x, c, rfl, hx⟩ := hv
  have Hx := Lib.hid hx; clear hx
  obtain ⟨xm, cm, rfl, hxm⟩ := hvm
  have Hxm := Lib.hid hxm; clear hxm
  have Hkv := Lib.hid hkv
  obtain ⟨kva, kvc, rfl⟩ := hkv.slice
  have Het := Lib.hid het; clear het hkv
  have hdl' : dir.length ≤ 140737488355328 := hdl
  unfold S
  go_enter Tryz.func4, Tryz.ntmps4
  go_wp2_with fail
  refine Hh.out.mono ?_
  rintro e w1 ⟨rfl, hB1⟩
  have Hof := Lib.hid (Of_any (base := w.heap.size) 4194304 w1 hB1.size (Hvf.out.below hB1))
  have HB1 := Lib.hid hB1; clear hB1
  go_wp2_with fail
  refine Hof.out.mono ?_
  rintro e w2 (⟨rfl, hB2⟩ | ⟨t0, hgt, s, f, y, rfl, hk, hB2⟩)
  · have HB2 := Lib.hid (below_two HB1.out hB2); clear hB2
    go_wp2_with fail
    go_ret
    exact ⟨rfl, HB2.out⟩
  have hB02 := below_two HB1.out hB2
  have Hgr := Lib.hid (Great_any (Hv.out.below hB02) hl)
  have HB2 := Lib.hid hB02; have Hk := Lib.hid hk; have Hgt := Lib.hid hgt; have Hrise : Hid (Rises t0) := Lib.hid hk.files.2.1
  clear hB2 hB02 hk hgt
  go_wp2_with fail
  refine Hgr.out.mono ?_
  rintro e w3 ⟨gr, rfl, hB3, hsm⟩
  have Hk3 := Lib.hid (Hk.out.keep hB3)
  have hB03 := below_two HB2.out hB3
  have HgrM := Lib.hid (Great_any (Hvm.out.below hB03) hlm)
  have HB3 := Lib.hid hB03; have Hsm := Lib.hid hsm
  clear hB3 hsm hB03
  cases gr with
  | true =>
    go_wp2_with fail
    go_ret
    exact ⟨rfl, HB3.out⟩
  | false =>
    have hsm := Hsm.out rfl
    have hl3 : l.length ≤ 300 := hsm.1
    clear Hsm hsm
    go_wp2_with fail
    refine HgrM.out.mono ?_
    rintro e w3b ⟨grm, rfl, hB3b, hsmm⟩
    have Hk3b := Lib.hid (Hk3.out.keep hB3b)
    have hB03b := below_two HB3.out hB3b
    have Hgf := Lib.hid (GreatFiles_any (Hvf.out.below hB03b) hlf)
    have HB3b := Lib.hid hB03b; have Hsmm := Lib.hid hsmm
    clear hB3b hsmm hB03b Hk3 HgrM
    cases grm with
    | true =>
      go_wp2_with fail
      go_ret
      exact ⟨rfl, HB3b.out⟩
    | false =>
      have hsmm := Hsmm.out rfl
      have hlm3 : more.length ≤ 300 := hsmm.1
      clear Hsmm hsmm
      go_wp2_with fail
      refine Hgf.out.mono ?_
      rintro e w4 ⟨gf, rfl, hB4, _⟩
      have hk4 := Hk3b.out.keep hB4
      have HK4 := Lib.hid (K.of_new (base := w.heap.size) (below_two HB3b.out hB4) (Nat.le_refl _)); have Hk4 := Lib.hid hk4
      clear hB4 hk4 Hk3b
      cases gf with
      | true =>
        go_wp2_with fail
        go_ret
        exact ⟨rfl, HK4.out.below⟩
      | false =>
        by_cases hd1 : 1000 < dir.length
        · go_wp2_with fail
          go_ret
          exact ⟨rfl, HK4.out.below⟩
        have Hpw : Hid (Pw (newSt 4194304 t0)) := Lib.hid ⟨rfl, rfl⟩
        have Hbd := Lib.hid (newSt_bdF (r := 4194304) Hgt.out)
        have Hiv := Lib.hid (InvO.start (r := 4194304) Hrise.out (fun x hx => (Hgt.out.2 x hx).2.1))
        have Hpa := Lib.hid (PaB.start (r := 4194304) (t := t0) (fun x hx => (Hgt.out.2 x hx).2.1))
        go_wp2_with fail
        go_loopw [13] (fun i wr => ∃ k lv st, k ≤ l.length ∧ i = .int .i64 (k : Nat) ∧ K w.heap.size w4 wr ∧ Ok wr w.heap.size s f y lv st ∧ Bd st (400 + k) ∧ Pw st ∧ InvO st ∧ PaB st) (fun i _ => l.length - (intOf i).toNat)
        case atStart => exact ⟨0, _, _, Nat.zero_le _, rfl, K.refl _ _, Hk4.out, Hbd.out, Hpw.out, Hiv.out, Hpa.out⟩
        case round =>
          obtain ⟨k, lv, st, hk, rfl, hK, hok, hbd, hpw, hiv, hpa⟩ := hrel
          by_cases hlt : k < l.length
          · obtain ⟨o, ho⟩ : ∃ o, l[k]? = some o := ⟨_, List.getElem?_eq_getElem hlt⟩
            obtain ⟨b, off, rfl, bvv, kv, h0, h1, h2, h3, h4, h5, h6, h7, _, _, l1, l2, l3, l4⟩ := Hx.out k o ho
            obtain ⟨va, vc, rfl⟩ := h6.slice
            obtain ⟨ka, kc, rfl⟩ := h7.slice
            have hKw := HK4.out.trans hK
            replace h0 := cell_below' hKw.below h0
            replace h1 := cell_below' hKw.below h1
            replace h2 := cell_below' hKw.below h2
            replace h3 := cell_below' hKw.below h3
            replace h4 := cell_below' hKw.below h4
            replace h5 := cell_below' hKw.below h5
            rw [add_at] at h1 h2 h3 h4 h5
            unfold S at h1 h2
            have hdo := does_any (o := o) (kv := .slice ka o.keep.length kc) hok hbd (Het.out.keep hKw hg) hg (h6.below hKw.below) (Nat.le_trans l1 lim_le) (Nat.le_trans l2 lim_le) (Nat.le_trans l3 lim_le)
            have hbd' := hbd.does (by omega) o (Nat.le_trans l1 lim_le) (Nat.le_trans l2 lim_le)
            have eo : opV o (.slice va o.b.length vc) (.slice ka o.keep.length kc) = .agg #[.int .i64 o.what, .string ⟨o.path.toArray⟩, .string ⟨o.to.toArray⟩, .slice va o.b.length vc, .int .i64 o.n, .slice ka o.keep.length kc] := rfl
            rw [eo] at hdo
            have Hdo := Lib.hid hdo; have HK := Lib.hid hK; have Hbd2 := Lib.hid hbd'; have Hpw2 := Lib.hid (hpw.does o); have Hiv2 := Lib.hid (hiv.does o); have Hpa2 := Lib.hid (hpa.does o)
            clear hK hok hbd hpw hiv hpa hKw h6 h7 hdo hbd' eo
            go_wp2_with fail
            refine Hdo.out.mono ?_
            rintro e w6 ⟨rfl, k6, lv6, hok6⟩
            have HK6 := Lib.hid (HK.out.trans k6); have Hok6 := Lib.hid hok6
            clear k6 hok6
            go_wp2_with fail
            go_roundw
            case rel => exact ⟨k + 1, _, _, hlt, by go_num, HK6.out, Hok6.out, Hbd2.out, Hpw2.out, Hiv2.out, Hpa2.out⟩
            case measure => simp [intOf]; omega
          · obtain rfl : k = l.length := by omega
            have hsy := Sync_any hok hbd (Het.out.keep (HK4.out.trans hK) hg) hg (d := dir) (by unfold maxLen; omega)
            unfold S at hsy
            have HKd := Lib.hid (HK4.out.trans hK); have Hok := Lib.hid hok
            clear hK hk hlt
            cases hpb : partB dir with
            | false =>
              have en : doN st (syncErr dir) = 1 := by unfold doN; rw [if_pos hpw.on, sync_bad hpb]
              rw [en] at hsy
              have Hsy := Lib.hid hsy
              clear hsy en hpb hok hbd hpw hiv hpa
              go_wp2_with fail
              refine Hsy.out.mono ?_
              rintro e w5 ⟨rfl, k5, lv5, hok5⟩
              have HL := Lib.hid (HKd.out.trans k5).below
              clear k5 hok5
              go_wp2_with fail
              go_ret
              exact ⟨rfl, HL.out⟩
            | true =>
              have en : doN st (syncErr dir) = 0 := by unfold doN; rw [if_pos hpw.on, sync_one hpb]
              rw [en] at hsy
              have es : doSt st (syncErr dir) (syncedSt dir st) = bump (syncedSt dir st) := by unfold doSt; rw [if_pos hpw.on, if_pos (sync_one hpb)]
              rw [es] at hsy
              obtain ⟨st1, hst1⟩ : ∃ st1, st1 = bump (syncedSt dir st) := ⟨_, rfl⟩
              rw [← hst1] at hsy
              have hbd1 : Bd st1 (400 + l.length) := by rw [hst1, ← es]; exact bd_do hbd fun _ => hbd.synced dir
              have hpw1 : Pw st1 := by rw [hst1, ← es]; exact pw_do hpw ⟨hpw.1, hpw.2⟩
              have hiv1 : InvO st1 := by rw [hst1, ← es]; exact invO_do hiv fun _ => hiv.sync dir
              have hpa1 : PaB st1 := by rw [hst1, ← es]; exact pa_do hpa fun _ => hpa.sync dir
              have hsd1 : SyD st1.synced dir st1 := by rw [hst1]; exact ⟨rfl, (SyD.sync hiv dir).dirs, (SyD.sync hiv dir).far⟩
              have Hsy := Lib.hid hsy; have Hbd1 := Lib.hid hbd1; have Hpw1 := Lib.hid hpw1; have Hiv1 := Lib.hid hiv1; have Hpa1 := Lib.hid hpa1; have Hsd1 := Lib.hid hsd1
              have Hne := Lib.hid (part_ne hpb)
              clear hsy en es hpb hok hbd hpw hiv hpa hst1 hbd1 hpw1 hiv1 hpa1 hsd1
              go_wp2_with fail
              refine Hsy.out.mono ?_
              rintro e w5 ⟨rfl, k5, lv5, hok5⟩
              have HK5 := Lib.hid (HKd.out.trans k5); have Hok5 := Lib.hid hok5
              have Hfi := Lib.hid (Files_any hok5 Hbd1.out)
              have hb5 : w.heap.size ≤ w5.heap.size := hok5.base_le
              clear k5 hok5 Hsy HKd Hok
              go_wp2_with fail
              refine Hfi.out.mono ?_
              rintro e w6 ⟨av, rfl, hav, hB6⟩
              have hk6 : K w.heap.size w5 w6 := K.of_new (base := w.heap.size) hB6 hb5
              have how := own_any hav (by have := hB6.size; omega) (by have := Hbd1.out.files; omega) (fun q hq => by have := path_short (Hiv1.out.paths q hq); unfold lim; omega) dir
              unfold S at how
              obtain ⟨aa, ac, rfl⟩ := hav.slice
              have How := Lib.hid how
              have HK6 := Lib.hid (HK5.out.trans hk6); have Hok6 := Lib.hid (Hok5.out.keep hB6)
              have hb6 : w.heap.size ≤ w6.heap.size := by have := hB6.size; omega
              clear hk6 hav hB6 how Hfi HK5 Hok5
              go_wp2_with fail
              refine How.out.mono ?_
              rintro e w7 ⟨wv, rfl, hwas, hB7⟩
              have HK7 := Lib.hid (HK6.out.trans (K.of_new (base := w.heap.size) hB7 hb6)); have Hok7 := Lib.hid (Hok6.out.keep hB7)
              have Hwas := Lib.hid hwas
              obtain ⟨wa, wc, rfl⟩ := hwas.slice
              clear hwas hB7 How HK6 Hok6
              go_wp2_with fail
              go_loopw [16, 17, 18, 19, 20] (fun iv _a _b _c _d wr => ∃ (k : Nat) (lv : Value) (st : St), k ≤ more.length ∧ iv = .int .i64 k ∧ K w.heap.size w7 wr ∧ Ok wr w.heap.size s f y lv st ∧ Bd st (400 + l.length + k) ∧ PaB st ∧ SyD st1.synced dir st) (fun iv _ _ _ _ _ => more.length - (intOf iv).toNat)
              case atStart => exact ⟨0, _, _, Nat.zero_le _, rfl, K.refl _ _, Hok7.out, Hbd1.out, Hpa1.out, Hsd1.out⟩
              case round =>
                clear Hok7
                obtain ⟨k, lv, st, hk, rfl, hK, hok, hbd, hpa, hsd⟩ := hrel
                by_cases hlt : k < more.length
                · obtain ⟨o, ho⟩ : ∃ o, more[k]? = some o := ⟨_, List.getElem?_eq_getElem hlt⟩
                  obtain ⟨b, off, rfl, bvv, kv, h0, h1, h2, h3, h4, h5, h6, h7, _, _, l1, l2, l3, l4⟩ := Hxm.out k o ho
                  obtain ⟨va, vc, rfl⟩ := h6.slice
                  obtain ⟨ka, kc, rfl⟩ := h7.slice
                  rw [add_at] at h1 h2 h3 h4 h5
                  unfold S at h1 h2
                  have hc : ∀ W, K w.heap.size w W → W.cell? ⟨b, off + k * 6, none⟩ = some (.int .i64 o.what) ∧ W.cell? ⟨b, off + k * 6 + 1, none⟩ = some (.string ⟨o.path.toArray⟩) ∧ W.cell? ⟨b, off + k * 6 + 2, none⟩ = some (.string ⟨o.to.toArray⟩) ∧ W.cell? ⟨b, off + k * 6 + 3, none⟩ = some (.slice va o.b.length vc) ∧ W.cell? ⟨b, off + k * 6 + 4, none⟩ = some (.int .i64 o.n) ∧ W.cell? ⟨b, off + k * 6 + 5, none⟩ = some (.slice ka o.keep.length kc) := fun W hW =>
                    ⟨cell_below' hW.below h0, cell_below' hW.below h1, cell_below' hW.below h2, cell_below' hW.below h3, cell_below' hW.below h4, cell_below' hW.below h5⟩
                  have HC := Lib.hid hc
                  have hd1 := fun W => Dir_any o.path W l1
                  have hd2 := fun W => Dir_any o.to W l2
                  unfold DirRPost S at hd1 hd2
                  obtain ⟨p1, hp1⟩ : ∃ p1, p1 = pathB o.path := ⟨_, rfl⟩
                  obtain ⟨p2, hp2⟩ : ∃ p2, p2 = pathB o.to := ⟨_, rfl⟩
                  obtain ⟨r1, hr1⟩ : ∃ r1, r1 = refDir o.path := ⟨_, rfl⟩
                  obtain ⟨r2, hr2⟩ : ∃ r2, r2 = refDir o.to := ⟨_, rfl⟩
                  rw [← hp1, ← hr1] at hd1
                  rw [← hp2, ← hr2] at hd2
                  have HD1 := Lib.hid hd1; have HD2 := Lib.hid hd2; have HR1 := Lib.hid hr1
                  have eo : opV o (.slice va o.b.length vc) (.slice ka o.keep.length kc) = .agg #[.int .i64 o.what, .string ⟨o.path.toArray⟩, .string ⟨o.to.toArray⟩, .slice va o.b.length vc, .int .i64 o.n, .slice ka o.keep.length kc] := rfl
                  have hdo : ∀ W, K w.heap.size w W → Ok W w.heap.size s f y lv st → Calls Tryz.prog 32 #[.pointer (some ⟨s, 0, none⟩), .agg #[.int .i64 o.what, .string ⟨o.path.toArray⟩, .string ⟨o.to.toArray⟩, .slice va o.b.length vc, .int .i64 o.n, .slice ka o.keep.length kc]] W (DoPost w.heap.size s f y (doesN o st) (doesSt o st) W) := fun W hW ho2 => by
                    have h := does_any (o := o) (kv := .slice ka o.keep.length kc) ho2 hbd (Het.out.keep hW hg) hg (h6.below hW.below) (Nat.le_trans l1 lim_le) (Nat.le_trans l2 lim_le) (Nat.le_trans l3 lim_le)
                    rw [eo] at h; exact h
                  have Hdo := Lib.hid hdo
                  have hbd' := hbd.does (by omega) o (Nat.le_trans l1 lim_le) (Nat.le_trans l2 lim_le)
                  have Hbd2 : Hid (Bd (doesSt o st) (400 + l.length + (k + 1))) := Lib.hid hbd'
                  have Hbdn : Hid (Bd st (400 + l.length + (k + 1))) := Lib.hid (hbd.mono (by omega) (by omega))
                  have Hpa := Lib.hid hpa; have Hsd := Lib.hid hsd; have Hpa2 := Lib.hid (hpa.does o)
                  have Hsd2 : Hid (o.what ≠ 4 → r1 ≠ dir → SyD st1.synced dir (doesSt o st)) := Lib.hid fun e4 e1 => hsd.does o e4 (by rw [← hr1]; exact e1)
                  have HK := Lib.hid (HK7.out.trans hK); have HKr := Lib.hid hK; have Hok := Lib.hid hok
                  have hbw : w.heap.size ≤ wr.heap.size := hok.base_le
                  obtain ⟨c0, c1, c2, c3, c4, c5⟩ := hc _ (HK7.out.trans hK)
                  clear hK hok hbd hpa hsd hdo hbd' eo h0 h1 h2 h3 h4 h5 h6 h7 hc hd1 hd2 hp1 hp2 hr1 hr2
                  go_wp2_with fail
                  refine (HD1.out _).mono ?_
                  rintro e w8 ⟨rfl, hB8⟩
                  have hk8 : K w.heap.size wr w8 := K.of_new (base := w.heap.size) hB8 hbw
                  have HK8 := Lib.hid (HK.out.trans hk8); have HKr8 := Lib.hid (HKr.out.trans hk8); have Hok8 := Lib.hid (Hok.out.keep hB8)
                  have hb8 : w.heap.size ≤ w8.heap.size := by have := hB8.size; omega
                  clear hk8 hB8 c0 c1 c2 c3 c4 c5 HK HKr Hok
                  obtain ⟨c0, c1, c2, c3, c4, c5⟩ := HC.out _ HK8.out
                  go_wp2_with fail
                  refine (HD2.out _).mono ?_
                  rintro e w9 ⟨rfl, hB9⟩
                  have hk9 : K w.heap.size w8 w9 := K.of_new (base := w.heap.size) hB9 hb8
                  have HKw9 := Lib.hid (HK8.out.trans hk9); have HK9 := Lib.hid (HKr8.out.trans hk9); have Hok9 := Lib.hid (Hok8.out.keep hB9)
                  clear hk9 hB9 c0 c1 c2 c3 c4 c5 HK8 HKr8 Hok8
                  obtain ⟨c0, c1, c2, c3, c4, c5⟩ := HC.out _ HKw9.out
                  by_cases e1 : r1 = dir
                  · have q1 : (r1 != dir) = false := by simpa using e1
                    have q2 : (r1 == dir) = true := by simpa using e1
                    clear e1
                    go_wp2_with fail
                    go_roundw
                    case rel => exact ⟨k + 1, _, _, hlt, by go_num, HK9.out, Hok9.out, Hbdn.out, Hpa.out, Hsd.out⟩
                    case measure => simp [intOf]; omega
                  have q1 : (r1 != dir) = true := by simpa using e1
                  have q2 : (r1 == dir) = false := by simpa using e1
                  have HE1 := Lib.hid e1
                  clear e1
                  by_cases e2 : r2 = dir
                  · have q3 : (r2 != dir) = false := by simpa using e2
                    have q4 : (r2 == dir) = true := by simpa using e2
                    clear e2
                    go_wp2_with fail
                    go_roundw
                    case rel => exact ⟨k + 1, _, _, hlt, by go_num, HK9.out, Hok9.out, Hbdn.out, Hpa.out, Hsd.out⟩
                    case measure => simp [intOf]; omega
                  have q3 : (r2 != dir) = true := by simpa using e2
                  have q4 : (r2 == dir) = false := by simpa using e2
                  clear e2
                  by_cases e4 : o.what = 4
                  · have q5 : (o.what != 4) = false := by simpa using e4
                    have q6 : (o.what == 4) = true := by simpa using e4
                    clear e4
                    go_wp2_with fail
                    go_roundw
                    case rel => exact ⟨k + 1, _, _, hlt, by go_num, HK9.out, Hok9.out, Hbdn.out, Hpa.out, Hsd.out⟩
                    case measure => simp [intOf]; omega
                  have q5 : (o.what != 4) = true := by simpa using e4
                  have q6 : (o.what == 4) = false := by simpa using e4
                  have Hsd3 := Lib.hid (Hsd2.out e4 HE1.out)
                  clear e4
                  go_wp2_with fail
                  refine (Hdo.out _ HKw9.out Hok9.out).mono ?_
                  rintro e w10 ⟨rfl, k10, lv10, hok10⟩
                  have HK10 := Lib.hid (HK9.out.trans k10); have Hok10 := Lib.hid hok10
                  clear k10 hok10 c0 c1 c2 c3 c4 c5
                  go_wp2_with fail
                  go_roundw
                  case rel => exact ⟨k + 1, _, _, hlt, by go_num, HK10.out, Hok10.out, Hbd2.out, Hpa2.out, Hsd3.out⟩
                  case measure => simp [intOf]; omega
                · obtain rfl : k = more.length := by omega
                  have hcr := Crash_any hok hbd (Hkv.out.keep (HK7.out.trans hK)) (Nat.le_trans hkl lim_le)
                  have Hcr := Lib.hid hcr
                  have Hbc := Lib.hid (hbd.crash ks)
                  have Hst := Lib.hid (stays (ks := ks) Hne.out Hiv1.out Hsd1.out hsd)
                  have Hcp : Hid (∀ q ∈ (crashSt ks st).files, pathB q.1 = true) := Lib.hid (crashK_paths hpa.acts hpa.syn _)
                  have HK := Lib.hid hK
                  clear hcr hK hok hbd hpa hsd hk hlt
                  go_wp2_with fail
                  refine Hcr.out.mono ?_
                  rintro e w8 ⟨rfl, k8, f8, hok8⟩
                  have HK8 := Lib.hid (HK.out.trans k8)
                  have Hfi2 := Lib.hid (Files_any hok8 Hbc.out)
                  have hb8 : w.heap.size ≤ w8.heap.size := hok8.base_le
                  clear k8 hok8 Hcr HK
                  go_wp2_with fail
                  refine Hfi2.out.mono ?_
                  rintro e w9 ⟨av, rfl, hav, hB9⟩
                  have hb9 : w.heap.size ≤ w9.heap.size := by have := hB9.size; omega
                  have HK9 := Lib.hid (HK8.out.trans (K.of_new (base := w.heap.size) hB9 hb8))
                  have how := own_any hav (by have := hB9.size; omega) (by have := Hbc.out.files; omega) (fun q hq => by have := path_short (Hcp.out q hq); unfold lim; omega) dir
                  unfold S at how
                  obtain ⟨ab, bc, rfl⟩ := hav.slice
                  have How := Lib.hid how
                  clear how hav hB9 Hfi2 HK8
                  go_wp2_with fail
                  refine How.out.mono ?_
                  rintro e w10 ⟨nv, rfl, hnow, hB10⟩
                  have hk10 : K w.heap.size w7 w10 := HK9.out.trans (K.of_new (base := w.heap.size) hB10 hb9)
                  have hnl : (ownT dir (crashSt ks st).files).length ≤ 1000000 := by
                    have h1 : (ownT dir (crashSt ks st).files).length ≤ (crashSt ks st).files.length := by unfold ownT; exact List.length_filter_le _ _
                    have := Hbc.out.files; omega
                  have hsa := Same_any hnow.v (Hwas.out.keep hk10).v hnl
                  unfold SamePost at hsa
                  rw [decide_eq_true Hst.out] at hsa
                  obtain ⟨nb, nc, rfl⟩ := hnow.slice
                  have Hsa := Lib.hid hsa
                  have HK10 := Lib.hid (HK7.out.trans hk10)
                  clear hsa hnow hk10 hnl hB10
                  go_wp2_with fail
                  refine Hsa.out.mono ?_
                  rintro e w11 ⟨rfl, hB11⟩
                  have HL := Lib.hid (HK10.out.trans (K.of_new (base := w.heap.size) hB11 (by have := HK10.out.size; omega))).below
                  clear hB11
                  go_wp2_with fail
                  go_ret
                  exact ⟨rfl, HL.out⟩
end Go.Proofs.YtccloieikkdcoaaGreatDoor
