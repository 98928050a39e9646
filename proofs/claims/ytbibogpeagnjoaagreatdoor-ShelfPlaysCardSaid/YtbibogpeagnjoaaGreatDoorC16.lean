/-
  ShelfPlays: its walk.
-/
import Derived.Deep.CutBlock
import Derived.Test.YtbibogpeagnjoaaGreatDoorC15

namespace Go.Proofs.YtbibogpeagnjoaaGreatDoor
open Go Go.RowKit Go.Maps Go.Sort Go.Shelf Go.Deep

theorem FsIn.mono {w : World} {B B' : Nat} (hb : B' ≤ B) : ∀ {vs : List Value} {t : Tb}, FsIn w B vs t → FsIn w B' vs t
  | [], [], _ => trivial
  | _ :: _ :: _, _ :: _, ⟨h1, h2, h3⟩ => ⟨h1, h2.mono hb, FsIn.mono hb h3⟩
  | [], _ :: _, h => h.elim
  | [_], l, h => by cases l <;> exact h.elim
  | _ :: _ :: _, [], h => h.elim
theorem RaIn.mono {w : World} {B B' : Nat} (hb : B' ≤ B) : ∀ {l : List Act} {vs : List Value}, RaIn w B vs l → RaIn w B' vs l
  | [], [], _ => trivial
  | _ :: _, _ :: _ :: _ :: _ :: _, ⟨h0, h1, h2, h3, h4⟩ => ⟨h0, h1, h2, h3.mono hb, RaIn.mono hb h4⟩
  | _ :: _, [], h => h.elim
  | _ :: _, [_], h => h.elim
  | _ :: _, [_, _], h => h.elim
  | _ :: _, [_, _, _], h => h.elim
  | [], _ :: vs, h => by rcases vs with _ | ⟨_, _ | ⟨_, _ | ⟨_, _⟩⟩⟩ <;> exact h.elim
theorem FilesIn.mono {w : World} {B B' : Nat} {v : Value} {t : Tb} (h : FilesIn w B v t) (hb : B' ≤ B) : FilesIn w B' v t := by
  obtain ⟨vs, h1, h2⟩ := h
  exact ⟨vs, row_mono h1 hb, h2.mono hb⟩
theorem ROk.mono {w : World} {base b2 r : Nat} {vl vo va : Value} {st : St} (h : ROk w base r vl vo va st) (hb : b2 ≤ base) : ROk w b2 r vl vo va st := by
  refine ⟨h.blk, Nat.le_trans hb h.base_r, h.files.mono hb, h.old.mono hb, ?_⟩
  obtain ⟨vs, h1, h2⟩ := h.acts
  exact ⟨vs, row_mono h1 hb, h2.mono hb⟩
theorem bools_below {w W : World} {kv : Value} {ks : List Bool} (h : BoolsAt w w.heap.size kv ks) (hB : Below w.heap.size w W) : BoolsAt W w.heap.size kv ks := by
  rcases h with h | ⟨a, c, rfl, h⟩
  · exact .inl h
  · refine .inr ⟨a, c, rfl, fun i hi => ?_⟩
    obtain ⟨_, h2⟩ := h i hi
    rw [List.getElem?_eq_getElem hi] at h2 ⊢
    have hl := World.block_lt_of_cell? _ _ h2
    rw [add_block] at hl
    exact ⟨.inl hl, cell_below' hB h2⟩
theorem bools_get {w W : World} {ak : Option Addr} {n ck : Nat} {ks : List Bool} (h : BoolsAt w w.heap.size (.slice ak n ck) ks) (hB : Below w.heap.size w W) : ∀ i, i < ks.length → ∃ a, ak = some a ∧ W.cell? (a.add i) = some (.bool (ks.getD i false)) := by
  intro i hi
  rcases h with ⟨_, rfl⟩ | ⟨a, c, e, h⟩
  · simp at hi
  · cases e
    obtain ⟨_, h2⟩ := h i hi
    rw [List.getElem?_eq_getElem hi] at h2
    refine ⟨a, rfl, ?_⟩
    rw [cell_below' hB h2]
    simp [List.getD, List.getElem?_eq_getElem hi]
theorem bools_slice {w : World} {base : Nat} {kv : Value} {ks : List Bool} (h : BoolsAt w base kv ks) : ∃ a c, kv = .slice a ks.length c := by
  rcases h with ⟨rfl, rfl⟩ | ⟨a, c, rfl, _⟩
  · exact ⟨none, 0, rfl⟩
  · exact ⟨_, _, rfl⟩
theorem n_int (W : World) (x : Int) : (binOp .neq 3 (.int .i64 x) (.int .i64 x)).run Tryz.prog W = .ok (.bool false) W := by simp [go_sem]
theorem n_err (W : World) (x : Int) : (binOp .neq 35 (.int .i64 x) (.int .i64 x)).run Tryz.prog W = .ok (.bool false) W := by simp [go_sem]
theorem g_err (W : World) (x y : Int) (s t : Operand) : (eqGuard .neq 35 s t (.int .i64 x) (.int .i64 y)).run Tryz.prog W = .ok () W := by simp [go_sem, eqGuard]
theorem n_bool (W : World) (x : Bool) : (binOp .neq 4 (.bool x) (.bool x)).run Tryz.prog W = .ok (.bool false) W := by cases x <;> simp [go_sem]
theorem g_bool (W : World) (x y : Bool) (s t : Operand) : (eqGuard .neq 4 s t (.bool x) (.bool y)).run Tryz.prog W = .ok () W := by simp [go_sem, eqGuard]
theorem l_bool (W : World) (b o : Nat) (x : Bool) (h : W.cell? ⟨b, o, none⟩ = some (.bool x)) : (Instr.loadAt 4 (.pointer (some ⟨b, o, none⟩))).run Tryz.prog W = .ok (.bool x) W := by go_simp
theorem wf_high {n : Int} (h : (Lit.int .i64 n).wf = true) : n ≤ 9223372036854775807 := ((Lit.wf_int_iff .i64 n).1 h).2

theorem et_below {w W : World} (h : Et w) (hB : Below w.heap.size w W) (hg : 0 < w.heap.size) : Et W := h.keep (K.of_new (base := w.heap.size) hB (Nat.le_refl _)) hg

/-- What stands between two rounds. -/
structure PlR (w : World) (s r : Nat) (k : Nat) (st : St) (wr : World) : Prop where
  below : Below w.heap.size w wr
  ok : ∃ f y lv, Ok wr w.heap.size s f y lv st
  rok : ∃ vl vo va, ROk wr w.heap.size r vl vo va st
  bd : Bd st (400 + k)
  inv : PlI st

set_option maxHeartbeats 32000000 in
set_option maxRecDepth 100000 in
theorem Plays_law (w : World) (het : Et w) (hg : 0 < w.heap.size) (room : Int) {vf v : Value} {tf : Tb} {l : List OpR} (hlf : tf.length ≤ lim) (hvf : FilesAt w vf tf) (hl : l.length ≤ lim) (hv : OpsAt w w.heap.size v l) :
    Calls Tryz.prog 3 #[.int .i64 room, vf, v] w (HeadPost w) := by
  have Hh := Lib.hid (head_any w het hg)
  have Hv := Lib.hid hv
  have Hvf := Lib.hid hvf
  obtain ⟨xf, cf, rfl, _⟩ := hvf
  obtain ⟨x, c, rfl, hx⟩ := hv
  have Hx := Lib.hid hx; clear hx
  have Het := Lib.hid het; clear het
  go_enter Tryz.func3, Tryz.ntmps3
  go_wp2_with fail
  refine Hh.out.mono ?_
  rintro e w1 ⟨rfl, hB1⟩
  have Hgr := Lib.hid (Great_any (Hv.out.below hB1) hl)
  have HB1 := Lib.hid hB1; clear hB1
  go_wp2_with fail
  refine Hgr.out.mono ?_
  rintro e w3 ⟨gr, rfl, hB3, hsm⟩
  have hB03 := below_two HB1.out hB3
  have Hgf := Lib.hid (GreatFiles_any (Hvf.out.below hB03) hlf)
  have HB3 := Lib.hid hB03; have Hsm := Lib.hid hsm
  clear hB3 hsm hB03
  cases gr with
  | true =>
    go_wp2_with fail
    go_ret
    exact ⟨rfl, HB3.out⟩
  | false =>
    have hsm := Hsm.out rfl
    have hl3 : l.length ≤ 300 := hsm.1
    clear Hsm hsm
    go_wp2_with fail
    refine Hgf.out.mono ?_
    rintro e w4 ⟨gf, rfl, hB4, _⟩
    have HB4 := Lib.hid (below_two HB3.out hB4)
    clear hB4
    cases gf with
    | true =>
      go_wp2_with fail
      go_ret
      exact ⟨rfl, HB4.out⟩
    | false =>
      have Hof := Lib.hid (Of_exact (base := w.heap.size) room w4 HB4.out.size (Hvf.out.below HB4.out))
      go_wp2_with fail
      refine Hof.out.mono ?_
      rintro e w5 (⟨hno, rfl, hB5⟩ | ⟨t0, hyes, hgt, s, f, y, rfl, hk, hB5⟩)
      · have HB5 := Lib.hid (below_two HB4.out hB5)
        have Hno := Lib.hid hno
        clear hB5 hno
        have Hrof := Lib.hid (ROf_any room w5 (Hvf.out.below HB5.out))
        go_wp2_with fail
        refine Hrof.out.mono ?_
        rintro e w6 (⟨_, rfl, hB6⟩ | ⟨t1, r, vl, vo, h1, _⟩)
        · have HB6 := Lib.hid (below_two HB5.out hB6)
          clear hB6
          go_wp2_with fail
          go_ret
          exact ⟨rfl, HB6.out⟩
        · rw [Hno.out] at h1; cases h1
      have HB5 := Lib.hid (below_two HB4.out hB5)
      have Hk5 := Lib.hid hk; have Hyes := Lib.hid hyes; have Hgt := Lib.hid hgt
      clear hB5 hk hyes hgt
      have Hrof := Lib.hid (ROf_any room w5 (Hvf.out.below HB5.out))
      go_wp2_with fail
      refine Hrof.out.mono ?_
      rintro e w6 (⟨hno, _⟩ | ⟨t1, r, vl, vo, h1, rfl, hr6, hB6⟩)
      · rw [Hyes.out] at hno; cases hno
      obtain rfl : t0 = t1 := by rw [Hyes.out] at h1; exact Option.some.inj h1
      have HP0 : Hid (PlR w s r 0 (newSt room t0) w6) := Lib.hid ⟨below_two HB5.out hB6, ⟨f, y, _, Hk5.out.keep hB6⟩, ⟨_, _, _, hr6.mono HB5.out.size⟩, newSt_bdF Hgt.out, PlI.start Hk5.out.files.2.1⟩
      clear hr6 hB6 h1 Hk5 Hyes Hgt Hrof Hof Hgf Hgr
      go_wp2_with fail
      go_loopw [10, 11, 12, 13, 14, 15, 16, 17] (fun iv _a _b _c _d _e _f _g wr => ∃ (k : Nat) (st : St), k ≤ l.length ∧ iv = .int .i64 k ∧ Hid (PlR w s r k st wr)) (fun iv _ _ _ _ _ _ _ _ => l.length - (intOf iv).toNat)
      case atStart => exact ⟨0, _, Nat.zero_le _, rfl, HP0⟩
      case round =>
        obtain ⟨k, st, hk, rfl, hrel⟩ := hrel
        by_cases hlt : k < l.length
        · obtain ⟨o, ho⟩ : ∃ o, l[k]? = some o := ⟨_, List.getElem?_eq_getElem hlt⟩
          obtain ⟨b, off, rfl, bvv, kv, h0, h1, h2, h3, h4, h5, h6, h7, _, hwf, l1, l2, l3, l4⟩ := Hx.out k o ho
          obtain ⟨va, vc, rfl⟩ := h6.slice
          obtain ⟨ka, kc, rfl⟩ := bools_slice h7
          have hB := hrel.out.below
          rw [add_at] at h1 h2 h3 h4 h5
          have H6 := Lib.hid h6; have H7 := Lib.hid h7; have Hwf := Lib.hid hwf
          obtain ⟨what, path, pto, bb, n, keep⟩ := o
          unfold S at h1 h2
          replace h0 := cell_below' hB h0
          replace h1 := cell_below' hB h1
          replace h2 := cell_below' hB h2
          replace h3 := cell_below' hB h3
          replace h4 := cell_below' hB h4
          replace h5 := cell_below' hB h5
          change wr.cell? _ = some (.int .i64 what) at h0
          change wr.cell? _ = some (.string ⟨path.toArray⟩) at h1
          change wr.cell? _ = some (.string ⟨pto.toArray⟩) at h2
          change wr.cell? _ = some (.slice va bb.length vc) at h3
          change wr.cell? _ = some (.int .i64 n) at h4
          change wr.cell? _ = some (.slice ka keep.length kc) at h5
          change path.length ≤ lim at l1
          change pto.length ≤ lim at l2
          change bb.length ≤ lim at l3
          change keep.length ≤ lim at l4
          have Hdoes : Hid (Bd (doesSt ⟨what, path, pto, bb, n, keep⟩ st) (400 + (k + 1))) := Lib.hid (hrel.out.bd.does (by omega) _ (Nat.le_trans l1 lim_le) (Nat.le_trans l2 lim_le))
          clear h6 h7 hwf hB ho
          have hBa := below_alloc wr (.cells #[.int .i64 what, .string ⟨path.toArray⟩, .string ⟨pto.toArray⟩, .slice va bb.length vc, .int .i64 n, .slice ka keep.length kc] 34)
          have hbx := heap_alloc_new wr (.cells #[.int .i64 what, .string ⟨path.toArray⟩, .string ⟨pto.toArray⟩, .slice va bb.length vc, .int .i64 n, .slice ka keep.length kc] 34)
          obtain ⟨f1, y1, lv1, hok⟩ := hrel.out.ok
          obtain ⟨vl1, vo1, va1, hrk⟩ := hrel.out.rok
          have hok1 := hok.keep hBa
          have hrk1 := hrk.new hBa
          have hbw := hok.base_le
          have hB1 : Below w.heap.size w _ := hrel.out.below.trans (hBa.mono hbw)
          have Hok1 := Lib.hid hok1; have Hrk1 := Lib.hid hrk1; have HBw := Lib.hid hB1; have Hbx := Lib.hid hbx
          clear hok hrk hok1 hrk1 hB1 hBa hbx
          go_upto_block 2 with fail
          go_cut [12, 13, 14, 15, 16, 17] from 46 to 187 (fun xv yv _a _b _c _d wx => ∃ (nn : Int) (st2 : St), xv = .int .i64 nn ∧ yv = .int .i64 nn ∧ Hid (PlR w s r (k + 1) st2 wx))
          case first =>
            by_cases c0 : what = 0
            · subst c0
              have hnn := Write_any Hok1.out hrel.out.bd (et_below Het.out HBw.out hg) hg (Nat.le_trans l1 lim_le) (Nat.le_trans l3 lim_le) (H6.out.below HBw.out)
              unfold S at hnn
              obtain ⟨nn, hn⟩ : ∃ x, x = doN st (writeErr path bb.length st) := ⟨_, rfl⟩
              obtain ⟨st2, hst2⟩ : ∃ x, x = doSt st (writeErr path bb.length st) (wrote path bb st) := ⟨_, rfl⟩
              rw [← hn, ← hst2] at hnn
              have Hp := Lib.hid hnn; have Hn := Lib.hid hn; have Hst := Lib.hid hst2
              have Hbd7 : Hid (Bd st2 (400 + (k + 1))) := Lib.hid (by rw [hst2]; exact Hdoes.out)
              have Hin7 : Hid (PlI st2) := Lib.hid (by rw [hst2]; exact hrel.out.inv.dos fun e => ⟨(hrel.out.inv.acted (a := .write path bb) (write_zero e)), rfl⟩)
              clear hnn hn hst2
              go_wp2_with fail
              refine Hp.out.mono ?_
              rintro e w5 ⟨rfl, k5, lv5, hok5⟩
              have hrk5 := Hrk1.out.keep k5
              have hB5 := HBw.out.trans k5.below
              have hb5 := k5.const _ _ _ _ Hbx.out rfl
              have x0 := cell_of_block hb5 0; have x1 := cell_of_block hb5 1; have x2 := cell_of_block hb5 2; have x3 := cell_of_block hb5 3; have x4 := cell_of_block hb5 4; have x5 := cell_of_block hb5 5
              have hr := RWrite_any hrk5 hrel.out.inv hrel.out.bd l1 l3 (H6.out.below hB5)
              unfold S at hr
              rw [← Hn.out, ← Hst.out] at hr
              have Hr := Lib.hid hr; have Hok5 := Lib.hid hok5; have HB5 := Lib.hid hB5
              clear hr hok5 hrk5 hB5 hb5 k5
              go_wp2_with fail
              refine Hr.out.mono ?_
              rintro e w7 ⟨rfl, k7, vl7, vo7, va7, hrk7⟩
              have Hok7 := Lib.hid (Hok5.out.keepR k7); have Hrk7 := Lib.hid hrk7; have HB7 := Lib.hid (HB5.out.trans k7.below)
              clear hrk7 k7 x0 x1 x2 x3 x4 x5 h0 h1 h2 h3 h4 h5
              have HN : Hid (PlR w s r (k + 1) st2 w7) := Lib.hid ⟨HB7.out, ⟨_, _, _, Hok7.out⟩, ⟨_, _, _, Hrk7.out⟩, Hbd7.out, Hin7.out⟩
              clear Hok7 Hrk7
              go_wp2
              go_meet
              case rel => exact ⟨nn, st2, rfl, rfl, HN⟩
            by_cases c1 : what = 1
            · subst c1
              have hnn := Write_any Hok1.out hrel.out.bd (et_below Het.out HBw.out hg) hg (Nat.le_trans l1 lim_le) (Nat.le_trans l3 lim_le) (H6.out.below HBw.out)
              unfold S at hnn
              obtain ⟨nn, hn⟩ : ∃ x, x = doN st (writeErr path bb.length st) := ⟨_, rfl⟩
              obtain ⟨st2, hst2⟩ : ∃ x, x = doSt st (writeErr path bb.length st) (wrote path bb st) := ⟨_, rfl⟩
              rw [← hn, ← hst2] at hnn
              have Hp := Lib.hid hnn; have Hn := Lib.hid hn; have Hst := Lib.hid hst2
              have Hbd7 : Hid (Bd st2 (400 + (k + 1))) := Lib.hid (by rw [hst2]; exact Hdoes.out)
              have Hin7 : Hid (PlI st2) := Lib.hid (by rw [hst2]; exact hrel.out.inv.dos fun e => ⟨(hrel.out.inv.acted (a := .write path bb) (write_zero e)), rfl⟩)
              clear hnn hn hst2
              go_wp2_with fail
              refine Hp.out.mono ?_
              rintro e w5 ⟨rfl, k5, lv5, hok5⟩
              have hrk5 := Hrk1.out.keep k5
              have hB5 := HBw.out.trans k5.below
              have hb5 := k5.const _ _ _ _ Hbx.out rfl
              have x0 := cell_of_block hb5 0; have x1 := cell_of_block hb5 1; have x2 := cell_of_block hb5 2; have x3 := cell_of_block hb5 3; have x4 := cell_of_block hb5 4; have x5 := cell_of_block hb5 5
              have hr := RWrite_any hrk5 hrel.out.inv hrel.out.bd l1 l3 (H6.out.below hB5)
              unfold S at hr
              rw [← Hn.out, ← Hst.out] at hr
              have Hr := Lib.hid hr; have Hok5 := Lib.hid hok5; have HB5 := Lib.hid hB5
              clear hr hok5 hrk5 hB5 hb5 k5
              go_wp2_with fail
              refine Hr.out.mono ?_
              rintro e w7 ⟨rfl, k7, vl7, vo7, va7, hrk7⟩
              have Hok7 := Lib.hid (Hok5.out.keepR k7); have Hrk7 := Lib.hid hrk7; have HB7 := Lib.hid (HB5.out.trans k7.below)
              clear hrk7 k7 x0 x1 x2 x3 x4 x5 h0 h1 h2 h3 h4 h5
              have HN : Hid (PlR w s r (k + 1) st2 w7) := Lib.hid ⟨HB7.out, ⟨_, _, _, Hok7.out⟩, ⟨_, _, _, Hrk7.out⟩, Hbd7.out, Hin7.out⟩
              clear Hok7 Hrk7
              go_wp2
              go_meet
              case rel => exact ⟨nn, st2, rfl, rfl, HN⟩
            by_cases c2 : what = 2
            · subst c2
              have hnn := Rename_any Hok1.out hrel.out.bd (et_below Het.out HBw.out hg) hg (Nat.le_trans l1 lim_le) (Nat.le_trans l2 lim_le)
              unfold S at hnn
              obtain ⟨nn, hn⟩ : ∃ x, x = doN st (renameErr path pto st.files) := ⟨_, rfl⟩
              obtain ⟨st2, hst2⟩ : ∃ x, x = doSt st (renameErr path pto st.files) (renamed path pto st) := ⟨_, rfl⟩
              rw [← hn, ← hst2] at hnn
              have Hp := Lib.hid hnn; have Hn := Lib.hid hn; have Hst := Lib.hid hst2
              have Hbd7 : Hid (Bd st2 (400 + (k + 1))) := Lib.hid (by rw [hst2]; exact Hdoes.out)
              have Hin7 : Hid (PlI st2) := Lib.hid (by rw [hst2]; exact hrel.out.inv.dos fun e => ⟨(hrel.out.inv.acted (a := .rename path pto) (rename_path e)), rfl⟩)
              clear hnn hn hst2
              go_wp2_with fail
              refine Hp.out.mono ?_
              rintro e w5 ⟨rfl, k5, lv5, hok5⟩
              have hrk5 := Hrk1.out.keep k5
              have hB5 := HBw.out.trans k5.below
              have hb5 := k5.const _ _ _ _ Hbx.out rfl
              have x0 := cell_of_block hb5 0; have x1 := cell_of_block hb5 1; have x2 := cell_of_block hb5 2; have x3 := cell_of_block hb5 3; have x4 := cell_of_block hb5 4; have x5 := cell_of_block hb5 5
              have hr := RRename_any hrk5 hrel.out.inv hrel.out.bd l1 l2
              unfold S at hr
              rw [← Hn.out, ← Hst.out] at hr
              have Hr := Lib.hid hr; have Hok5 := Lib.hid hok5; have HB5 := Lib.hid hB5
              clear hr hok5 hrk5 hB5 hb5 k5
              go_wp2_with fail
              refine Hr.out.mono ?_
              rintro e w7 ⟨rfl, k7, vl7, vo7, va7, hrk7⟩
              have Hok7 := Lib.hid (Hok5.out.keepR k7); have Hrk7 := Lib.hid hrk7; have HB7 := Lib.hid (HB5.out.trans k7.below)
              clear hrk7 k7 x0 x1 x2 x3 x4 x5 h0 h1 h2 h3 h4 h5
              have HN : Hid (PlR w s r (k + 1) st2 w7) := Lib.hid ⟨HB7.out, ⟨_, _, _, Hok7.out⟩, ⟨_, _, _, Hrk7.out⟩, Hbd7.out, Hin7.out⟩
              clear Hok7 Hrk7
              go_wp2
              go_meet
              case rel => exact ⟨nn, st2, rfl, rfl, HN⟩
            by_cases c3 : what = 3
            · subst c3
              have hnn := Remove_any Hok1.out hrel.out.bd (et_below Het.out HBw.out hg) hg (Nat.le_trans l1 lim_le)
              unfold S at hnn
              obtain ⟨nn, hn⟩ : ∃ x, x = doN st (thereErr path st.files) := ⟨_, rfl⟩
              obtain ⟨st2, hst2⟩ : ∃ x, x = doSt st (thereErr path st.files) (removed path st) := ⟨_, rfl⟩
              rw [← hn, ← hst2] at hnn
              have Hp := Lib.hid hnn; have Hn := Lib.hid hn; have Hst := Lib.hid hst2
              have Hbd7 : Hid (Bd st2 (400 + (k + 1))) := Lib.hid (by rw [hst2]; exact Hdoes.out)
              have Hin7 : Hid (PlI st2) := Lib.hid (by rw [hst2]; exact hrel.out.inv.dos fun e => ⟨(hrel.out.inv.acted (a := .remove path) (there_path e)), rfl⟩)
              clear hnn hn hst2
              go_wp2_with fail
              refine Hp.out.mono ?_
              rintro e w5 ⟨rfl, k5, lv5, hok5⟩
              have hrk5 := Hrk1.out.keep k5
              have hB5 := HBw.out.trans k5.below
              have hb5 := k5.const _ _ _ _ Hbx.out rfl
              have x0 := cell_of_block hb5 0; have x1 := cell_of_block hb5 1; have x2 := cell_of_block hb5 2; have x3 := cell_of_block hb5 3; have x4 := cell_of_block hb5 4; have x5 := cell_of_block hb5 5
              have hr := RRemove_any hrk5 hrel.out.inv hrel.out.bd l1
              unfold S at hr
              rw [← Hn.out, ← Hst.out] at hr
              have Hr := Lib.hid hr; have Hok5 := Lib.hid hok5; have HB5 := Lib.hid hB5
              clear hr hok5 hrk5 hB5 hb5 k5
              go_wp2_with fail
              refine Hr.out.mono ?_
              rintro e w7 ⟨rfl, k7, vl7, vo7, va7, hrk7⟩
              have Hok7 := Lib.hid (Hok5.out.keepR k7); have Hrk7 := Lib.hid hrk7; have HB7 := Lib.hid (HB5.out.trans k7.below)
              clear hrk7 k7 x0 x1 x2 x3 x4 x5 h0 h1 h2 h3 h4 h5
              have HN : Hid (PlR w s r (k + 1) st2 w7) := Lib.hid ⟨HB7.out, ⟨_, _, _, Hok7.out⟩, ⟨_, _, _, Hrk7.out⟩, Hbd7.out, Hin7.out⟩
              clear Hok7 Hrk7
              go_wp2
              go_meet
              case rel => exact ⟨nn, st2, rfl, rfl, HN⟩
            by_cases c4 : what = 4
            · subst c4
              have hnn := Sync_any Hok1.out hrel.out.bd (et_below Het.out HBw.out hg) hg (d := path) (Nat.le_trans l1 lim_le)
              unfold S at hnn
              obtain ⟨nn, hn⟩ : ∃ x, x = doN st (syncErr path) := ⟨_, rfl⟩
              obtain ⟨st2, hst2⟩ : ∃ x, x = doSt st (syncErr path) (syncedSt path st) := ⟨_, rfl⟩
              rw [← hn, ← hst2] at hnn
              have Hp := Lib.hid hnn; have Hn := Lib.hid hn; have Hst := Lib.hid hst2
              have Hbd7 : Hid (Bd st2 (400 + (k + 1))) := Lib.hid (by rw [hst2]; exact Hdoes.out)
              have Hin7 : Hid (PlI st2) := Lib.hid (by rw [hst2]; exact hrel.out.inv.dos fun _ => ⟨hrel.out.inv.synced path, rfl⟩)
              clear hnn hn hst2
              go_wp2_with fail
              refine Hp.out.mono ?_
              rintro e w5 ⟨rfl, k5, lv5, hok5⟩
              have hrk5 := Hrk1.out.keep k5
              have hB5 := HBw.out.trans k5.below
              have hb5 := k5.const _ _ _ _ Hbx.out rfl
              have x0 := cell_of_block hb5 0; have x1 := cell_of_block hb5 1; have x2 := cell_of_block hb5 2; have x3 := cell_of_block hb5 3; have x4 := cell_of_block hb5 4; have x5 := cell_of_block hb5 5
              have hr := RSync_any hrk5 hrel.out.inv hrel.out.bd (d := path) l1
              unfold S at hr
              rw [← Hn.out, ← Hst.out] at hr
              have Hr := Lib.hid hr; have Hok5 := Lib.hid hok5; have HB5 := Lib.hid hB5
              clear hr hok5 hrk5 hB5 hb5 k5
              go_wp2_with fail
              refine Hr.out.mono ?_
              rintro e w7 ⟨rfl, k7, vl7, vo7, va7, hrk7⟩
              have Hok7 := Lib.hid (Hok5.out.keepR k7); have Hrk7 := Lib.hid hrk7; have HB7 := Lib.hid (HB5.out.trans k7.below)
              clear hrk7 k7 x0 x1 x2 x3 x4 x5 h0 h1 h2 h3 h4 h5
              have HN : Hid (PlR w s r (k + 1) st2 w7) := Lib.hid ⟨HB7.out, ⟨_, _, _, Hok7.out⟩, ⟨_, _, _, Hrk7.out⟩, Hbd7.out, Hin7.out⟩
              clear Hok7 Hrk7
              go_wp2
              go_meet
              case rel => exact ⟨nn, st2, rfl, rfl, HN⟩
            by_cases c5 : what = 5
            · subst c5
              have hnn := Read_any Hok1.out hrel.out.bd (et_below Het.out HBw.out hg) hg (p := path) (Nat.le_trans l1 lim_le)
              unfold S at hnn
              have Hp := Lib.hid hnn
              clear hnn
              go_wp2_with fail
              refine Hp.out.mono ?_
              rintro e w5 ⟨hB5, hcase⟩
              have k5 : K w.heap.size _ w5 := K.of_new hB5 Hok1.out.base_le
              have hok5 := Hok1.out.keep hB5
              have hrk5 := Hrk1.out.keep k5
              have hB05 := HBw.out.trans k5.below
              have hb5 := k5.const _ _ _ _ Hbx.out rfl
              have x0 := cell_of_block hb5 0; have x1 := cell_of_block hb5 1; have x2 := cell_of_block hb5 2; have x3 := cell_of_block hb5 3; have x4 := cell_of_block hb5 4; have x5 := cell_of_block hb5 5
              have hr := RRead_any hrk5 hrel.out.bd (p := path) l1
              unfold S at hr
              have Hr := Lib.hid hr; have Hok5 := Lib.hid hok5; have Hrk5 := Lib.hid hrk5; have HB5 := Lib.hid hB05; have Hcase := Lib.hid hcase
              clear hr hok5 hrk5 hB05 hb5 k5 hcase hB5
              obtain ⟨st2, hst2⟩ : ∃ x, x = st := ⟨_, rfl⟩
              subst hst2
              have Hbd7 : Hid (Bd st2 (400 + (k + 1))) := Lib.hid (hrel.out.bd.mono (by omega) (by omega))
              have Hin7 : Hid (PlI st2) := Lib.hid hrel.out.inv
              rcases Hcase.out with ⟨ob, oa, oc, hg1, he1, rfl, hrow⟩ | ⟨he1, rfl⟩
              · have Hg1 := Lib.hid hg1; have He1 := Lib.hid he1; have Hrow := Lib.hid hrow
                have hobl : ob.length ≤ 262144 := hrel.out.bd.small (path, ob) (tget_mem' hg1)
                clear hg1 he1 hrow
                go_wp2_with fail
                refine Hr.out.mono ?_
                rintro e w7 ⟨hB7, ⟨ob2, oa2, oc2, hg2, he2, rfl, hrow2⟩ | ⟨he2, _⟩⟩
                · obtain rfl : ob = ob2 := by rw [Hg1.out] at hg2; exact Option.some.inj hg2
                  have s1 := str_of (w := w7) (v := .slice oa ob.length oc) (b := ob) (Hrow.out.bytes.below hB7)
                  have s2 := str_of (w := w7) (v := .slice oa2 ob.length oc2) (b := ob) hrow2.bytes
                  have Hok7 := Lib.hid (Hok5.out.keep hB7); have Hrk7 := Lib.hid (Hrk5.out.new hB7)
                  have HB7 := Lib.hid (HB5.out.trans (hB7.mono Hok5.out.base_le))
                  obtain ⟨nn, hn⟩ : ∃ x : Int, x = 0 := ⟨_, rfl⟩
                  have hself : (ob == ob) = true := by simp
                  have hself2 : (ob != ob) = false := by simp
                  clear hB7 hrow2 hg2 he2 x0 x1 x2 x3 x4 x5 h0 h1 h2 h3 h4 h5
                  have HN : Hid (PlR w s r (k + 1) st2 w7) := Lib.hid ⟨HB7.out, ⟨_, _, _, Hok7.out⟩, ⟨_, _, _, Hrk7.out⟩, Hbd7.out, Hin7.out⟩
                  clear Hok7 Hrk7
                  go_wp2
                  go_meet
                  case rel => exact ⟨0, st2, rfl, rfl, HN⟩
                · exact absurd He1.out he2
              · obtain ⟨nn, hn⟩ : ∃ x, x = readErr path st2 := ⟨_, rfl⟩
                have He1 := Lib.hid he1
                rw [← hn]
                have Hn := Lib.hid hn
                clear he1 hn
                go_wp2_with fail
                refine Hr.out.mono ?_
                rintro e w7 ⟨hB7, ⟨ob2, oa2, oc2, hg2, he2, rfl, hrow2⟩ | ⟨he2, rfl⟩⟩
                · exact absurd he2 He1.out
                · have s1 := str_of (w := w7) (v := .slice none 0 0) (b := []) (.inl ⟨rfl, rfl⟩)
                  rw [← Hn.out]
                  have Hok7 := Lib.hid (Hok5.out.keep hB7); have Hrk7 := Lib.hid (Hrk5.out.new hB7)
                  have HB7 := Lib.hid (HB5.out.trans (hB7.mono Hok5.out.base_le))
                  clear hB7 he2 x0 x1 x2 x3 x4 x5 h0 h1 h2 h3 h4 h5
                  have HN : Hid (PlR w s r (k + 1) st2 w7) := Lib.hid ⟨HB7.out, ⟨_, _, _, Hok7.out⟩, ⟨_, _, _, Hrk7.out⟩, Hbd7.out, Hin7.out⟩
                  clear Hok7 Hrk7
                  go_wp2
                  go_meet
                  case rel => exact ⟨nn, st2, rfl, rfl, HN⟩
            by_cases c6 : what = 6
            · subst c6
              have Hp := Lib.hid (Fuse_any Hok1.out n)
              obtain ⟨st2, hst2⟩ : ∃ x, x = ({ st with fuse := max n (-1) } : St) := ⟨_, rfl⟩
              have Hbd7 : Hid (Bd st2 (400 + (k + 1))) := Lib.hid (by rw [hst2]; have h := hrel.out.bd.mono (n := 400 + (k + 1)) (by omega) (by omega); exact ⟨h.files, h.both, h.small, h.smallS, h.smallL, h.fits, h.lim⟩)
              have Hin7 : Hid (PlI st2) := Lib.hid (by rw [hst2]; exact hrel.out.inv.fused (wf_high Hwf.out))
              rw [← hst2] at Hp
              have Hst := Lib.hid hst2
              clear hst2
              go_wp2_with fail
              refine Hp.out.mono ?_
              rintro e w5 ⟨rfl, k5, hok5⟩
              have hrk5 := Hrk1.out.keep k5
              have hB5 := HBw.out.trans k5.below
              have hb5 := k5.const _ _ _ _ Hbx.out rfl
              have x0 := cell_of_block hb5 0; have x1 := cell_of_block hb5 1; have x2 := cell_of_block hb5 2; have x3 := cell_of_block hb5 3; have x4 := cell_of_block hb5 4; have x5 := cell_of_block hb5 5
              have hr := RFuse_any hrk5 n
              rw [← Hst.out] at hr
              have Hr := Lib.hid hr; have Hok5 := Lib.hid hok5; have HB5 := Lib.hid hB5
              clear hr hok5 hrk5 hB5 hb5 k5
              go_wp2_with fail
              refine Hr.out.mono ?_
              rintro e w7 ⟨rfl, k7, vl7, vo7, va7, hrk7⟩
              have Hok7 := Lib.hid (Hok5.out.keepR k7); have Hrk7 := Lib.hid hrk7; have HB7 := Lib.hid (HB5.out.trans k7.below)
              clear hrk7 k7 x0 x1 x2 x3 x4 x5 h0 h1 h2 h3 h4 h5
              have HN : Hid (PlR w s r (k + 1) st2 w7) := Lib.hid ⟨HB7.out, ⟨_, _, _, Hok7.out⟩, ⟨_, _, _, Hrk7.out⟩, Hbd7.out, Hin7.out⟩
              clear Hok7 Hrk7
              go_wp2
              go_meet
              case rel => exact ⟨0, st2, rfl, rfl, HN⟩
            by_cases c7 : what = 7
            · subst c7
              have Hp := Lib.hid (Crash_any Hok1.out hrel.out.bd (bools_below H7.out HBw.out) (Nat.le_trans l4 lim_le))
              obtain ⟨st2, hst2⟩ : ∃ x, x = crashSt keep st := ⟨_, rfl⟩
              have Hbd7 : Hid (Bd st2 (400 + (k + 1))) := Lib.hid (by rw [hst2]; exact (hrel.out.bd.mono (n := 400 + (k + 1)) (by omega) (by omega)).crash keep)
              have Hin7 : Hid (PlI st2) := Lib.hid (by rw [hst2]; exact hrel.out.inv.crash keep)
              rw [← hst2] at Hp
              have Hst := Lib.hid hst2
              clear hst2
              go_wp2_with fail
              refine Hp.out.mono ?_
              rintro e w5 ⟨rfl, k5, f5, hok5⟩
              have hrk5 := Hrk1.out.keep k5
              have hB5 := HBw.out.trans k5.below
              have hb5 := k5.const _ _ _ _ Hbx.out rfl
              have x0 := cell_of_block hb5 0; have x1 := cell_of_block hb5 1; have x2 := cell_of_block hb5 2; have x3 := cell_of_block hb5 3; have x4 := cell_of_block hb5 4; have x5 := cell_of_block hb5 5
              have hr := RCrash_any hrk5 hrel.out.inv hrel.out.bd l4 (ck := kc) rfl (fun W hW => bools_get H7.out (hB5.trans hW.below))
              rw [← Hst.out] at hr
              have Hr := Lib.hid hr; have Hok5 := Lib.hid hok5; have HB5 := Lib.hid hB5
              clear hr hok5 hrk5 hB5 hb5 k5
              go_wp2_with fail
              refine Hr.out.mono ?_
              rintro e w7 ⟨rfl, k7, vl7, vo7, va7, hrk7⟩
              have Hok7 := Lib.hid (Hok5.out.keepR k7); have Hrk7 := Lib.hid hrk7; have HB7 := Lib.hid (HB5.out.trans k7.below)
              clear hrk7 k7 x0 x1 x2 x3 x4 x5 h0 h1 h2 h3 h4 h5
              have HN : Hid (PlR w s r (k + 1) st2 w7) := Lib.hid ⟨HB7.out, ⟨_, _, _, Hok7.out⟩, ⟨_, _, _, Hrk7.out⟩, Hbd7.out, Hin7.out⟩
              clear Hok7 Hrk7
              go_wp2
              go_meet
              case rel => exact ⟨0, st2, rfl, rfl, HN⟩
            obtain ⟨st2, hst2⟩ : ∃ x, x = st := ⟨_, rfl⟩
            subst hst2
            have Hbd7 : Hid (Bd st2 (400 + (k + 1))) := Lib.hid (hrel.out.bd.mono (by omega) (by omega))
            have Hin7 : Hid (PlI st2) := Lib.hid hrel.out.inv
            obtain ⟨w7, hw7⟩ : ∃ w7, w7 = wr.alloc (.cells #[.int .i64 what, .string ⟨path.toArray⟩, .string ⟨pto.toArray⟩, .slice va bb.length vc, .int .i64 n, .slice ka keep.length kc] 34) := ⟨_, rfl⟩
            have Hok7 := Hok1; have Hrk7 := Hrk1; have HB7 := HBw
            rw [← hw7] at Hok7 Hrk7 HB7 ⊢
            clear hw7 Hok1 Hrk1 HBw Hbx
            have HN : Hid (PlR w s r (k + 1) st2 w7) := Lib.hid ⟨HB7.out, ⟨_, _, _, Hok7.out⟩, ⟨_, _, _, Hrk7.out⟩, Hbd7.out, Hin7.out⟩
            clear Hok7 Hrk7
            go_wp2
            go_meet
            case rel => exact ⟨0, st2, rfl, rfl, HN⟩
          case rest =>
            obtain ⟨nn, st2, rfl, rfl, HN7⟩ := hcut
            obtain ⟨w7, hw7⟩ : ∃ w7, w7 = wc := ⟨_, rfl⟩
            subst hw7
            obtain ⟨f7, y7, lv7, hok7⟩ := HN7.out.ok
            obtain ⟨vl7, vo7, va7, hrk7⟩ := HN7.out.rok
            have Hok7 := Lib.hid hok7; have Hrk7 := Lib.hid hrk7; have HB7 := Lib.hid HN7.out.below; have Hbd7 := Lib.hid HN7.out.bd; have Hin7 := Lib.hid HN7.out.inv
            clear hok7 hrk7 HN7 Hok1 Hrk1 HBw Hbx h0 h1 h2 h3 h4 h5
            obtain ⟨aa7, ac7, hva7⟩ := Hrk7.out.acts.slice
            rw [List.length_map] at hva7
            subst hva7
            have HC : Hid (∀ W, Below w7.heap.size w7 W → ROk W w.heap.size r _ _ _ st2) := Lib.hid fun W hW => Hrk7.out.new hW
            have HO : Hid (∀ W, Below w7.heap.size w7 W → Ok W w.heap.size s _ _ _ st2) := Lib.hid fun W hW => Hok7.out.keep hW
            go_wp2_with fail
            have hS7 : Below w7.heap.size w7 w7.drew := ⟨rfl, rfl, rfl, Nat.le_refl _, fun _ _ => rfl⟩
            refine h_start (fun W => Below w7.heap.size w7 W) (by kernel_rfl) ?_
            refine h_tk 0 (.int .i64 nn) hS7 rfl (fun W hW => by kernel_rfl) ?_
            refine h_tk 1 (.int .i64 nn) hS7 rfl (fun W hW => by kernel_rfl) ?_
            refine h_tk 2 (.bool false) hS7 rfl (fun W hW => y_bin rfl (by kernel_rfl) (by kernel_rfl) (g_err W nn nn _ _) (n_err W nn)) ?_
            refine h_tk 3 (.bool false) hS7 rfl (fun W hW => by kernel_rfl) ?_
            refine h_tk 4 (.pointer (some ⟨s, 0, none⟩)) hS7 rfl (fun W hW => by kernel_rfl) ?_
            refine h_tk 6 (.pointer (some ⟨r, 0, none⟩)) hS7 rfl (fun W hW => by kernel_rfl) ?_
            refine h_tk 7 (.pointer (some ⟨r, 0, none⟩)) hS7 rfl (fun W hW => y_nil rfl (by kernel_rfl)) ?_
            refine h_tk 8 (.pointer (some ⟨r, 4, none⟩)) hS7 rfl (fun W hW => y_field rfl (by kernel_rfl) (f_sh W r 4 (by decide))) ?_
            refine h_tk 9 (.int .i64 st2.acts) hS7 rfl (fun W hW => y_load rfl (by kernel_rfl) (l_int W r 4 _ (HC.out W hW).c4)) ?_
            refine h_call 5 23 #[.pointer (some ⟨s, 0, none⟩)] (by kernel_rfl) rfl (by kernel_rfl) (by kernel_rfl) ?_
            refine (Acts_any (HO.out _ hS7)).mono ?_
            rintro e w8 hh
            obtain ⟨rfl, hw⟩ := hh
            subst hw
            refine ⟨_, rfl, hS7, ?_⟩
            refine h_tk 10 (.bool false) hS7 rfl (fun W hW => y_bin rfl (by kernel_rfl) (by kernel_rfl) (g_int W st2.acts st2.acts _ _ _) (n_int W st2.acts)) ?_
            refine h_tk 11 (.bool false) hS7 rfl (fun W hW => by kernel_rfl) ?_
            refine h_tk 12 (.bool false) hS7 rfl (fun W hW => by kernel_rfl) ?_
            refine h_tk 13 (.pointer (some ⟨s, 0, none⟩)) hS7 rfl (fun W hW => by kernel_rfl) ?_
            refine h_tk 15 (.pointer (some ⟨r, 0, none⟩)) hS7 rfl (fun W hW => by kernel_rfl) ?_
            refine h_tk 16 (.pointer (some ⟨r, 0, none⟩)) hS7 rfl (fun W hW => y_nil rfl (by kernel_rfl)) ?_
            refine h_tk 17 (.pointer (some ⟨r, 2, none⟩)) hS7 rfl (fun W hW => y_field rfl (by kernel_rfl) (f_sh W r 2 (by decide))) ?_
            refine h_tk 18 (.slice aa7 st2.loose.length ac7) hS7 rfl (fun W hW => y_load rfl (by kernel_rfl) (l_acts W r 2 _ _ _ (HC.out W hW).c2)) ?_
            refine h_tk 19 (.int .i64 (st2.loose.length : Int)) hS7 rfl (fun W hW => by kernel_rfl) ?_
            refine h_call 14 24 #[.pointer (some ⟨s, 0, none⟩)] (by kernel_rfl) rfl (by kernel_rfl) (by kernel_rfl) ?_
            refine (Loose_any (HO.out _ hS7)).mono ?_
            rintro e w8 hh
            obtain ⟨rfl, hw⟩ := hh
            subst hw
            refine ⟨_, rfl, hS7, ?_⟩
            refine h_tk 20 (.bool false) hS7 rfl (fun W hW => y_bin rfl (by kernel_rfl) (by kernel_rfl) (g_int W (st2.loose.length : Int) (st2.loose.length : Int) _ _ _) (n_int W (st2.loose.length : Int))) ?_
            refine h_tk 21 (.bool false) hS7 rfl (fun W hW => by kernel_rfl) ?_
            refine h_tk 22 (.bool false) hS7 rfl (fun W hW => by kernel_rfl) ?_
            refine h_tk 23 (.pointer (some ⟨s, 0, none⟩)) hS7 rfl (fun W hW => by kernel_rfl) ?_
            refine h_tk 25 (.pointer (some ⟨r, 0, none⟩)) hS7 rfl (fun W hW => by kernel_rfl) ?_
            refine h_tk 26 (.pointer (some ⟨r, 0, none⟩)) hS7 rfl (fun W hW => y_nil rfl (by kernel_rfl)) ?_
            refine h_tk 27 (.pointer (some ⟨r, 7, none⟩)) hS7 rfl (fun W hW => y_field rfl (by kernel_rfl) (f_sh W r 7 (by decide))) ?_
            refine h_tk 28 (.bool st2.down) hS7 rfl (fun W hW => y_load rfl (by kernel_rfl) (l_bool W r 7 _ (HC.out W hW).c7)) ?_
            refine h_call 24 25 #[.pointer (some ⟨s, 0, none⟩)] (by kernel_rfl) rfl (by kernel_rfl) (by kernel_rfl) ?_
            refine (Down_any (HO.out _ hS7)).mono ?_
            rintro e w8 hh
            obtain ⟨rfl, hw⟩ := hh
            subst hw
            refine ⟨_, rfl, hS7, ?_⟩
            refine h_tk 29 (.bool false) hS7 rfl (fun W hW => y_bin rfl (by kernel_rfl) (by kernel_rfl) (g_bool W st2.down st2.down _ _) (n_bool W st2.down)) ?_
            refine h_tk 30 (.bool false) hS7 rfl (fun W hW => by kernel_rfl) ?_
            refine h_tk 31 (.bool false) hS7 rfl (fun W hW => by kernel_rfl) ?_
            refine h_tk 32 (.pointer (some ⟨s, 0, none⟩)) hS7 rfl (fun W hW => by kernel_rfl) ?_
            refine h_tk 34 (.pointer (some ⟨r, 0, none⟩)) hS7 rfl (fun W hW => by kernel_rfl) ?_
            refine h_call 33 26 #[.pointer (some ⟨s, 0, none⟩)] (by kernel_rfl) rfl (by kernel_rfl) (by kernel_rfl) ?_
            refine (Used_any (HO.out _ hS7) Hbd7.out.size).mono ?_
            rintro e w8 ⟨rfl, hB8⟩
            have hS8 : Below w7.heap.size w7 w8 := hS7.trans (hB8.mono hS7.size)
            refine ⟨_, rfl, hS8, ?_⟩
            refine h_call 35 27 #[.pointer (some ⟨r, 0, none⟩)] (by kernel_rfl) rfl (by kernel_rfl) (by kernel_rfl) ?_
            refine (RUsed_any (HC.out _ hS8) Hbd7.out).mono ?_
            rintro e w9 hh
            obtain ⟨rfl, hw⟩ := hh
            subst hw
            refine ⟨_, rfl, hS8, ?_⟩
            refine h_tk 36 (.bool false) hS8 rfl (fun W hW => y_bin rfl (by kernel_rfl) (by kernel_rfl) (g_int W (tsize st2.files : Int) (tsize st2.files : Int) _ _ _) (n_int W (tsize st2.files : Int))) ?_
            refine h_tk 37 (.bool false) hS8 rfl (fun W hW => by kernel_rfl) ?_
            refine h_done _ (by kernel_rfl) ?_
            have HN : Hid (PlR w s r (k + 1) st2 w8) := Lib.hid ⟨HB7.out.trans (hS8.mono (by have := HB7.out.size; omega)), ⟨_, _, _, HO.out _ hS8⟩, ⟨_, _, _, HC.out _ hS8⟩, Hbd7.out, Hin7.out⟩
            clear hS7 hS8 hB8 HC HO Hok7 Hrk7
            go_simp
            go_wp2_with fail
            go_roundw
            case rel => exact ⟨k + 1, _, hlt, by go_num, HN⟩
            case measure => simp [intOf]; omega
        · obtain rfl : k = l.length := by omega
          obtain ⟨f1, y1, lv1, hok⟩ := hrel.out.ok
          obtain ⟨vl1, vo1, va1, hrk⟩ := hrel.out.rok
          obtain ⟨la, lc, hla⟩ := hrk.files.slice
          subst hla
          have hbw := hok.base_le
          have hB0 := hrel.out.below
          have hok' : Ok wr.drew w.heap.size s f1 y1 lv1 st := hok.keep (w' := wr.drew) ⟨rfl, rfl, rfl, Nat.le_refl _, fun _ _ => rfl⟩
          have Hfi := Lib.hid (Files_any hok' hrel.out.bd)
          have Hrk := Lib.hid hrk; have HB0 := Lib.hid hB0
          have HC : Hid (∀ W, Below wr.heap.size wr W → W.cell? ⟨r, 0, none⟩ = some (.slice la st.files.length lc)) := Lib.hid fun W hW => (hrk.new hW).c0
          have hlf2 : st.files.length ≤ 1000000 := by have := hrel.out.bd.files; omega
          clear hok hrk hB0 hok' hrel
          go_wp2_with fail
          have hS7 : Below wr.heap.size wr wr.drew := ⟨rfl, rfl, rfl, Nat.le_refl _, fun _ _ => rfl⟩
          refine h_start (fun W => Below wr.heap.size wr W) (by kernel_rfl) ?_
          refine h_tk 0 (.bool true) hS7 rfl (fun W hW => by kernel_rfl) ?_
          refine h_tk 1 (.bool true) hS7 rfl (fun W hW => by kernel_rfl) ?_
          refine h_tk 2 (.pointer (some ⟨s, 0, none⟩)) hS7 rfl (fun W hW => by kernel_rfl) ?_
          refine h_tk 4 (.pointer (some ⟨r, 0, none⟩)) hS7 rfl (fun W hW => by kernel_rfl) ?_
          refine h_tk 5 (.pointer (some ⟨r, 0, none⟩)) hS7 rfl (fun W hW => y_nil rfl (by kernel_rfl)) ?_
          refine h_tk 6 (.pointer (some ⟨r, 0, none⟩)) hS7 rfl (fun W hW => y_field rfl (by kernel_rfl) (f_sh W r 0 (by decide))) ?_
          refine h_tk 7 (.slice la st.files.length lc) hS7 rfl (fun W hW => y_load rfl (by kernel_rfl) (l_files W r 0 _ _ _ (HC.out W hW))) ?_
          refine h_call 3 29 #[.pointer (some ⟨s, 0, none⟩)] (by kernel_rfl) rfl (by kernel_rfl) (by kernel_rfl) ?_
          refine Hfi.out.mono ?_
          rintro e w8 ⟨v8, rfl, hf8, hB8d⟩
          have hB8 : Below wr.heap.size wr w8 := ⟨hB8d.os, hB8d.tape, hB8d.output, hB8d.size, hB8d.block⟩
          refine ⟨_, rfl, hB8, ?_⟩
          obtain ⟨fa8, fc8, rfl⟩ := hf8.slice
          have hsa := Same_any hf8.v (Hrk.out.new hB8).files.v hlf2
          unfold SamePost at hsa
          rw [decide_eq_true rfl] at hsa
          refine h_call 8 28 #[.slice fa8 st.files.length fc8, .slice la st.files.length lc] (by kernel_rfl) rfl (by kernel_rfl) (by kernel_rfl) ?_
          refine hsa.mono ?_
          rintro e w9 ⟨rfl, hB9⟩
          have hB9' : Below wr.heap.size wr w9 := below_two hB8 hB9
          refine ⟨_, rfl, hB9', ?_⟩
          refine h_tk 9 (.bool true) hB9' rfl (fun W hW => by kernel_rfl) ?_
          refine h_tk 10 (.bool true) hB9' rfl (fun W hW => by kernel_rfl) ?_
          refine h_done _ (by kernel_rfl) ?_
          have HE := Lib.hid (HB0.out.trans (hB9'.mono hbw))
          clear hB9' hB9 hB8 hB8d hS7 hf8 hsa HC
          go_simp
          go_wp2_with fail
          go_ret
          exact ⟨rfl, HE.out⟩
end Go.Proofs.YtbibogpeagnjoaaGreatDoor
