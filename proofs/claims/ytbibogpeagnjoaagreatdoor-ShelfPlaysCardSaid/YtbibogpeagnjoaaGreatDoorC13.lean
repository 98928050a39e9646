/-
  The document's Write.
  The document's Rename, Remove.
-/
import Derived.Test.YtbibogpeagnjoaaGreatDoorC12

namespace Go.Proofs.YtbibogpeagnjoaaGreatDoor
open Go Go.RowKit Go.Maps Go.Sort Go.Shelf Go.Deep

theorem RDoPost.new {base r : Nat} {n : Int} {st : St} {w w1 : World} (hB : Below w.heap.size w w1) (hb : base ≤ w.heap.size) {e : Ending} {w' : World} (h : RDoPost base r n st w1 e w') : RDoPost base r n st w e w' :=
  ⟨h.1, (KR.of_new hB hb).trans h.2.1, h.2.2⟩
theorem do_off' {st st1 : St} {er : Int} (h : on st = false) : doN st er = 13 ∧ doSt st er st1 = { st with down := true } := by
  unfold doN doSt; rw [if_neg (by rw [h]; decide), if_neg (by rw [h]; decide)]; exact ⟨rfl, rfl⟩
theorem do_bad' {st st1 : St} {er : Int} (h : on st = true) (he : er ≠ 0) : doN st er = er ∧ doSt st er st1 = st := by
  unfold doN doSt; rw [if_pos h, if_pos h, if_neg he]; exact ⟨rfl, rfl⟩
theorem do_good' {st st1 : St} {er : Int} (h : on st = true) (he : er = 0) : doN st er = 0 ∧ doSt st er st1 = bump st1 := by
  unfold doN doSt; rw [if_pos h, if_pos h, if_pos he]; exact ⟨he, rfl⟩

set_option maxHeartbeats 8000000 in
set_option maxRecDepth 100000 in
theorem RWrite_any {w : World} {base r k0 : Nat} {vl vo va bw : Value} {st : St} (h : ROk w base r vl vo va st) (hp : PlI st) (hbd : Bd st k0) {p b : By} (hpl : p.length ≤ lim) (hbl : b.length ≤ lim) (hc : BytesAt w bw b) :
    Calls Tryz.prog 10 #[.pointer (some ⟨r, 0, none⟩), S p, bw] w (RDoPost base r (doN st (writeErr p b.length st)) (doSt st (writeErr p b.length st) (wrote p b st)) w) := by
  obtain ⟨ba, bc, rfl⟩ := hc.slice
  have Hpw := Lib.hid (RPower_any h hp)
  have H := Lib.hid h; have Hp := Lib.hid hp; have Hbd := Lib.hid hbd; have Hc := Lib.hid hc
  have hbl' : b.length ≤ 140737488355328 := hbl
  have Hpl := Lib.hid hpl
  have hbw := h.base_le
  clear h hp hbd hc hpl hbl
  cases ho : on st with
  | false =>
    obtain ⟨e1, e2⟩ := do_off' (st1 := wrote p b st) (er := writeErr p b.length st) ho
    rw [e1, e2]
    have Ho := Lib.hid ho
    clear e1 e2 ho
    unfold S
    go_enter Tryz.func10, Tryz.ntmps10
    go_wp2_with fail
    refine Hpw.out.mono ?_
    rintro e w1 (⟨h1, _⟩ | ⟨_, rfl, hk, hr⟩)
    · rw [Ho.out] at h1; cases h1
    have HK := Lib.hid hk; have HR := Lib.hid hr
    clear hk hr
    go_wp2_with fail
    go_ret
    exact ⟨rfl, HK.out, _, _, _, HR.out⟩
  | true =>
    have hpw : Calls Tryz.prog 43 #[.pointer (some ⟨r, 0, none⟩)] w fun e w' => e = .returned (.bool true) ∧ w = w' := Hpw.out.mono fun e w' hh => by
      rcases hh with ⟨_, h1, h2⟩ | ⟨h1, _⟩
      · exact ⟨h1, h2⟩
      · rw [ho] at h1; cases h1
    have Hpw2 := Lib.hid hpw
    have Ho := Lib.hid ho
    clear hpw Hpw ho
    have hpa := Path_any p w Hpl.out
    unfold S at hpa
    cases hpb : pathB p with
    | false =>
      rw [hpb] at hpa
      have Hpa := Lib.hid hpa
      obtain ⟨e1, e2⟩ := do_bad' (st1 := wrote p b st) (er := writeErr p b.length st) Ho.out (by rw [writeErr_1 hpb]; decide)
      rw [e1, e2, writeErr_1 hpb]
      clear e1 e2 hpb hpa
      unfold S
      go_enter Tryz.func10, Tryz.ntmps10
      go_wp2_with fail
      refine Hpw2.out.mono ?_
      rintro e w1 hh
      obtain ⟨rfl, hw⟩ := hh
      subst hw
      go_wp2_with fail
      refine Hpa.out.mono ?_
      rintro e w2 ⟨rfl, hB2⟩
      have HB2 := Lib.hid hB2
      clear hB2
      go_wp2_with fail
      go_ret
      exact ⟨rfl, KR.of_new HB2.out hbw, _, _, _, H.out.new HB2.out⟩
    | true =>
      rw [hpb] at hpa
      have Hpa := Lib.hid hpa
      have Hpb := Lib.hid hpb
      clear hpb hpa
      obtain ⟨la, lc, hla⟩ := H.out.files.slice
      subst hla
      have hl6 : st.files.length ≤ 1000000 := by have := Hbd.out.files; have := Hbd.out.lim; omega
      cases hg : tget p st.files with
      | none =>
        have htl : tlen p st.files = 0 := by unfold tlen; rw [hg]; rfl
        have hfi := fun W (hW : Below w.heap.size w W) => Find_any (w := W) (H.out.new hW).files.v hl6 p
        rw [findI_gone hg] at hfi
        unfold S at hfi
        have Hfi := Lib.hid hfi; have Hg := Lib.hid hg; have Htl := Lib.hid htl
        clear hfi hg htl
        by_cases h1 : (262144 : Int) < (b.length : Int)
        · have hbad : writeErr p b.length st = 2 := writeErr_2 Hpb.out (.inl h1)
          obtain ⟨e1, e2⟩ := do_bad' (st1 := wrote p b st) (er := writeErr p b.length st) Ho.out (by rw [hbad]; decide)
          rw [e1, e2, hbad]
          clear e1 e2 hbad
          unfold S
          go_enter Tryz.func10, Tryz.ntmps10
          go_wp2_with fail
          refine Hpw2.out.mono ?_
          rintro e w1 hh
          obtain ⟨rfl, hw⟩ := hh
          subst hw
          go_wp2_with fail
          refine Hpa.out.mono ?_
          rintro e w2 ⟨rfl, hB2⟩
          have hr2 := H.out.new hB2
          have c0 := hr2.c0
          have HR2 := Lib.hid hr2; have HB2 := Lib.hid hB2
          clear hB2 hr2
          go_wp2_with fail
          refine (Hfi.out _ HB2.out).mono ?_
          rintro e w3 hh
          obtain ⟨rfl, hw⟩ := hh
          subst hw
          go_wp2_with fail
          go_ret
          exact ⟨rfl, KR.of_new HB2.out hbw, _, _, _, HR2.out⟩
        by_cases h2 : (400 : Int) ≤ (st.files.length : Int)
        · have hbad : writeErr p b.length st = 2 := writeErr_2 Hpb.out (.inr ⟨Hg.out, by omega⟩)
          obtain ⟨e1, e2⟩ := do_bad' (st1 := wrote p b st) (er := writeErr p b.length st) Ho.out (by rw [hbad]; decide)
          rw [e1, e2, hbad]
          clear e1 e2 hbad
          unfold S
          go_enter Tryz.func10, Tryz.ntmps10
          go_wp2_with fail
          refine Hpw2.out.mono ?_
          rintro e w1 hh
          obtain ⟨rfl, hw⟩ := hh
          subst hw
          go_wp2_with fail
          refine Hpa.out.mono ?_
          rintro e w2 ⟨rfl, hB2⟩
          have hr2 := H.out.new hB2
          have c0 := hr2.c0
          have HR2 := Lib.hid hr2; have HB2 := Lib.hid hB2
          clear hB2 hr2
          go_wp2_with fail
          refine (Hfi.out _ HB2.out).mono ?_
          rintro e w3 hh
          obtain ⟨rfl, hw⟩ := hh
          subst hw
          go_wp2_with fail
          go_ret
          exact ⟨rfl, KR.of_new HB2.out hbw, _, _, _, HR2.out⟩
        have hnot : ¬ ((262144 : Int) < b.length ∨ (tget p st.files = none ∧ 400 ≤ st.files.length)) := by rintro (x | ⟨_, x⟩) <;> omega
        have Hnot := Lib.hid hnot
        have HRm := Lib.hid (writeErr_11 (n := (b.length : Int)) Hpb.out hnot)
        have HOk := Lib.hid (writeErr_0 (n := (b.length : Int)) Hpb.out hnot)
        rw [Htl.out] at HRm HOk
        clear hnot
        have hsz := Hbd.out.size
        obtain ⟨T, hT⟩ : ∃ T, T = tsize st.files := ⟨_, rfl⟩
        have hus := fun W (hW : Below w.heap.size w W) => RUsed_any (w := W) (H.out.new hW) Hbd.out
        rw [← hT] at hus HRm HOk hsz
        have Hus := Lib.hid hus
        clear hus hT
        by_cases h3 : st.room < (T : Int) - ((0 : Nat) : Int) + (b.length : Int)
        · have hbad : writeErr p b.length st = 11 := HRm.out h3
          obtain ⟨e1, e2⟩ := do_bad' (st1 := wrote p b st) (er := writeErr p b.length st) Ho.out (by rw [hbad]; decide)
          rw [e1, e2, hbad]
          clear e1 e2 hbad
          have hdec : decide (st.room < (T : Int) - 0 + (b.length : Int)) = true := by simpa using h3
          clear h3 HRm HOk
          unfold S
          go_enter Tryz.func10, Tryz.ntmps10
          go_wp2_with fail
          refine Hpw2.out.mono ?_
          rintro e w1 hh
          obtain ⟨rfl, hw⟩ := hh
          subst hw
          go_wp2_with fail
          refine Hpa.out.mono ?_
          rintro e w2 ⟨rfl, hB2⟩
          have hr2 := H.out.new hB2
          have c0 := hr2.c0
          have HR2 := Lib.hid hr2; have HB2 := Lib.hid hB2
          clear hB2 hr2
          go_wp2_with fail
          refine (Hfi.out _ HB2.out).mono ?_
          rintro e w3 hh
          obtain ⟨rfl, hw⟩ := hh
          subst hw
          go_wp2_with fail
          have c3 := HR2.out.c3
          have HS0 : w2.drew.cell? ⟨r, 3, none⟩ = some (.int .i64 st.room) := c3
          refine h_start (fun W => W.cell? ⟨r, 3, none⟩ = some (.int .i64 st.room)) (by kernel_rfl) ?_
          refine h_tk 0 (.pointer (some ⟨r, 0, none⟩)) HS0 rfl (fun W hW => by kernel_rfl) ?_
          refine h_tk 2 (.int .i64 0) HS0 rfl (fun W hW => by kernel_rfl) ?_
          refine h_tk 4 (.slice ba b.length bc) HS0 rfl (fun W hW => by kernel_rfl) ?_
          refine h_tk 5 (.int .i64 (b.length : Int)) HS0 rfl (fun W hW => by kernel_rfl) ?_
          refine h_tk 7 (.pointer (some ⟨r, 0, none⟩)) HS0 rfl (fun W hW => by kernel_rfl) ?_
          refine h_tk 8 (.pointer (some ⟨r, 0, none⟩)) HS0 rfl (fun W hW => y_nil rfl (by kernel_rfl)) ?_
          refine h_tk 9 (.pointer (some ⟨r, 3, none⟩)) HS0 rfl (fun W hW => y_field rfl (by kernel_rfl) (f_sh W r 3 (by decide))) ?_
          refine h_tk 10 (.int .i64 st.room) HS0 rfl (fun W hW => y_load rfl (by kernel_rfl) (l_int W _ _ _ hW)) ?_
          refine h_call 1 27 #[.pointer (some ⟨r, 0, none⟩)] (by kernel_rfl) rfl (by kernel_rfl) (by kernel_rfl) ?_
          refine (Hus.out w2.drew ⟨HB2.out.os, HB2.out.tape, HB2.out.output, HB2.out.size, HB2.out.block⟩).mono ?_
          rintro e w4 hh
          obtain ⟨rfl, hw⟩ := hh
          subst hw
          refine ⟨_, rfl, HS0, ?_⟩
          refine h_tk 3 (.int .i64 ((T : Int) - 0)) HS0 rfl (fun W hW => y_bin rfl (by kernel_rfl) (by kernel_rfl) (g_int W _ _ _ _ _) (run_sub W _ _ (by omega))) ?_
          refine h_tk 6 (.int .i64 ((T : Int) - 0 + (b.length : Int))) HS0 rfl (fun W hW => y_bin rfl (by kernel_rfl) (by kernel_rfl) (g_int W _ _ _ _ _) (run_add W _ _ (by omega))) ?_
          refine h_tk 11 (.bool true) HS0 rfl (fun W hW => y_bin rfl (by kernel_rfl) (by kernel_rfl) (g_int W _ _ _ _ _) (by rw [run_gtr, hdec])) ?_
          refine h_done _ (by kernel_rfl) ?_
          go_simp
          clear HS0 c3 c0
          go_wp2_with fail
          go_ret
          exact ⟨rfl, KR.of_new ⟨HB2.out.os, HB2.out.tape, HB2.out.output, HB2.out.size, HB2.out.block⟩ hbw, _, _, _, HR2.out.keep ((K.refl 0 _).drew)⟩
        · have hgood := HOk.out h3
          obtain ⟨e1, e2⟩ := do_good' (st1 := wrote p b st) (er := writeErr p b.length st) Ho.out hgood
          rw [e1, e2]
          clear e1 e2 hgood
          have hdec : decide (st.room < (T : Int) - 0 + (b.length : Int)) = false := by simpa using h3
          clear h3 HRm HOk
          unfold S
          go_enter Tryz.func10, Tryz.ntmps10
          go_wp2_with fail
          refine Hpw2.out.mono ?_
          rintro e w1 hh
          obtain ⟨rfl, hw⟩ := hh
          subst hw
          go_wp2_with fail
          refine Hpa.out.mono ?_
          rintro e w2 ⟨rfl, hB2⟩
          have hr2 := H.out.new hB2
          have c0 := hr2.c0
          have HR2 := Lib.hid hr2; have HB2 := Lib.hid hB2
          clear hB2 hr2
          go_wp2_with fail
          refine (Hfi.out _ HB2.out).mono ?_
          rintro e w3 hh
          obtain ⟨rfl, hw⟩ := hh
          subst hw
          go_wp2_with fail
          have c3 := HR2.out.c3
          have HS0 : w2.drew.cell? ⟨r, 3, none⟩ = some (.int .i64 st.room) := c3
          refine h_start (fun W => W.cell? ⟨r, 3, none⟩ = some (.int .i64 st.room)) (by kernel_rfl) ?_
          refine h_tk 0 (.pointer (some ⟨r, 0, none⟩)) HS0 rfl (fun W hW => by kernel_rfl) ?_
          refine h_tk 2 (.int .i64 0) HS0 rfl (fun W hW => by kernel_rfl) ?_
          refine h_tk 4 (.slice ba b.length bc) HS0 rfl (fun W hW => by kernel_rfl) ?_
          refine h_tk 5 (.int .i64 (b.length : Int)) HS0 rfl (fun W hW => by kernel_rfl) ?_
          refine h_tk 7 (.pointer (some ⟨r, 0, none⟩)) HS0 rfl (fun W hW => by kernel_rfl) ?_
          refine h_tk 8 (.pointer (some ⟨r, 0, none⟩)) HS0 rfl (fun W hW => y_nil rfl (by kernel_rfl)) ?_
          refine h_tk 9 (.pointer (some ⟨r, 3, none⟩)) HS0 rfl (fun W hW => y_field rfl (by kernel_rfl) (f_sh W r 3 (by decide))) ?_
          refine h_tk 10 (.int .i64 st.room) HS0 rfl (fun W hW => y_load rfl (by kernel_rfl) (l_int W _ _ _ hW)) ?_
          refine h_call 1 27 #[.pointer (some ⟨r, 0, none⟩)] (by kernel_rfl) rfl (by kernel_rfl) (by kernel_rfl) ?_
          refine (Hus.out w2.drew ⟨HB2.out.os, HB2.out.tape, HB2.out.output, HB2.out.size, HB2.out.block⟩).mono ?_
          rintro e w4 hh
          obtain ⟨rfl, hw⟩ := hh
          subst hw
          refine ⟨_, rfl, HS0, ?_⟩
          refine h_tk 3 (.int .i64 ((T : Int) - 0)) HS0 rfl (fun W hW => y_bin rfl (by kernel_rfl) (by kernel_rfl) (g_int W _ _ _ _ _) (run_sub W _ _ (by omega))) ?_
          refine h_tk 6 (.int .i64 ((T : Int) - 0 + (b.length : Int))) HS0 rfl (fun W hW => y_bin rfl (by kernel_rfl) (by kernel_rfl) (g_int W _ _ _ _ _) (run_add W _ _ (by omega))) ?_
          refine h_tk 11 (.bool false) HS0 rfl (fun W hW => y_bin rfl (by kernel_rfl) (by kernel_rfl) (g_int W _ _ _ _ _) (by rw [run_gtr, hdec])) ?_
          refine h_done _ (by kernel_rfl) ?_
          go_simp
          clear HS0 c3 c0
          have hB3 : Below w.heap.size w w2.drew := ⟨HB2.out.os, HB2.out.tape, HB2.out.output, HB2.out.size, HB2.out.block⟩
          have HR3 := Lib.hid (HR2.out.keep ((K.refl 0 w2).drew))
          obtain ⟨w3, hw3⟩ : ∃ w3, w3 = w2.drew := ⟨_, rfl⟩
          rw [← hw3] at hB3 HR3 ⊢
          have HB3 := Lib.hid hB3
          clear hw3 hB3 HR2 HB2
          have hlb : b.length ≤ 262144 := by omega
          go_wp2_with (at_builtin; refine wpList_appB rfl _ _ rfl w3.heap.size _ _ [] b rfl rfl (row_new w3 _ (Nat.le_refl _)) ((Hc.out.below HB3.out).below (below_alloc w3 _)) (by simpa using hbl') (by simp) ?_)
          intro dv w4 hd hB4
          have hB4b : Below w3.heap.size w3 w4 := (below_alloc w3 _).trans hB4
          obtain ⟨da, dc, rfl⟩ := hd.shape
          have hlo := Rloose_any (HR3.out.new hB4b) Hp.out Hbd.out Ho.out (.write p b) (dv := .slice da b.length dc) (hd.mono (Nat.le_trans hbw HB3.out.size)) hlb (.int .i64 0) ⟨p.toArray⟩ ⟨#[]⟩ rfl rfl rfl
          have Hlo := Lib.hid hlo; have HB4 := Lib.hid (below_two HB3.out hB4b)
          clear hlo hd hB4 hB4b
          go_wp2_with fail
          refine Hlo.out.mono ?_
          rintro e w5 hh
          have hh := hh.new HB4.out hbw
          obtain ⟨rfl, h5⟩ := hh
          have H5 := Lib.hid h5
          clear h5
          go_wp2_with fail
          go_ret
          exact ⟨rfl, H5.out⟩
      | some ob =>
        obtain ⟨k, hk, hkt⟩ := findI_get hg
        have hkl : k < st.files.length := (List.getElem?_eq_some_iff.1 hkt).1
        have Hkt := Lib.hid hkt
        have htl : tlen p st.files = ob.length := by unfold tlen; rw [hg]; rfl
        have hob : ob.length ≤ 262144 := Hbd.out.small (p, ob) (List.mem_of_getElem? hkt)
        have hfi := fun W (hW : Below w.heap.size w W) => Find_any (w := W) (H.out.new hW).files.v hl6 p
        rw [hk] at hfi
        unfold S at hfi
        have Hfi := Lib.hid hfi; have Hg := Lib.hid hg; have Htl := Lib.hid htl
        clear hfi hg htl hk hkt
        by_cases h1 : (262144 : Int) < (b.length : Int)
        · have hbad : writeErr p b.length st = 2 := writeErr_2 Hpb.out (.inl h1)
          obtain ⟨e1, e2⟩ := do_bad' (st1 := wrote p b st) (er := writeErr p b.length st) Ho.out (by rw [hbad]; decide)
          rw [e1, e2, hbad]
          clear e1 e2 hbad
          unfold S
          go_enter Tryz.func10, Tryz.ntmps10
          go_wp2_with fail
          refine Hpw2.out.mono ?_
          rintro e w1 hh
          obtain ⟨rfl, hw⟩ := hh
          subst hw
          go_wp2_with fail
          refine Hpa.out.mono ?_
          rintro e w2 ⟨rfl, hB2⟩
          have hr2 := H.out.new hB2
          have c0 := hr2.c0
          have HR2 := Lib.hid hr2; have HB2 := Lib.hid hB2
          clear hB2 hr2
          go_wp2_with fail
          refine (Hfi.out _ HB2.out).mono ?_
          rintro e w3 hh
          obtain ⟨rfl, hw⟩ := hh
          subst hw
          go_wp2_with fail
          go_ret
          exact ⟨rfl, KR.of_new HB2.out hbw, _, _, _, HR2.out⟩
        have hnot : ¬ ((262144 : Int) < b.length ∨ (tget p st.files = none ∧ 400 ≤ st.files.length)) := by
          rintro (x | ⟨x, _⟩)
          · omega
          · rw [Hg.out] at x; cases x
        have Hnot := Lib.hid hnot
        have HRm := Lib.hid (writeErr_11 (n := (b.length : Int)) Hpb.out hnot)
        have HOk := Lib.hid (writeErr_0 (n := (b.length : Int)) Hpb.out hnot)
        rw [Htl.out] at HRm HOk
        clear hnot
        have hsz := Hbd.out.size
        have hown : ob.length ≤ tsize st.files := by rw [← Htl.out]; exact tlen_le Hp.out.rises
        obtain ⟨T, hT⟩ : ∃ T, T = tsize st.files := ⟨_, rfl⟩
        have hus := fun W (hW : Below w.heap.size w W) => RUsed_any (w := W) (H.out.new hW) Hbd.out
        rw [← hT] at hus HRm HOk hsz hown
        have Hus := Lib.hid hus
        clear hus hT
        by_cases h3 : st.room < (T : Int) - ((ob.length : Nat) : Int) + (b.length : Int)
        · have hbad : writeErr p b.length st = 11 := HRm.out h3
          obtain ⟨e1, e2⟩ := do_bad' (st1 := wrote p b st) (er := writeErr p b.length st) Ho.out (by rw [hbad]; decide)
          rw [e1, e2, hbad]
          clear e1 e2 hbad
          have hdec : decide (st.room < (T : Int) - (ob.length : Int) + (b.length : Int)) = true := by simpa using h3
          clear h3 HRm HOk
          unfold S
          go_enter Tryz.func10, Tryz.ntmps10
          go_wp2_with fail
          refine Hpw2.out.mono ?_
          rintro e w1 hh
          obtain ⟨rfl, hw⟩ := hh
          subst hw
          go_wp2_with fail
          refine Hpa.out.mono ?_
          rintro e w2 ⟨rfl, hB2⟩
          have hr2 := H.out.new hB2
          have c0 := hr2.c0
          have HR2 := Lib.hid hr2; have HB2 := Lib.hid hB2
          clear hB2 hr2
          go_wp2_with fail
          refine (Hfi.out _ HB2.out).mono ?_
          rintro e w3 hh
          obtain ⟨rfl, hw⟩ := hh
          subst hw
          obtain ⟨g, c, hv, dv, d0, d1, hrw⟩ := HR2.out.files.at Hkt.out
          cases hv
          obtain ⟨oa, oc, rfl⟩ := hrw.shape
          unfold S at d0
          clear hrw
          go_wp2_with fail
          have c3 := HR2.out.c3
          have HS0 : w2.drew.cell? ⟨r, 3, none⟩ = some (.int .i64 st.room) := c3
          refine h_start (fun W => W.cell? ⟨r, 3, none⟩ = some (.int .i64 st.room)) (by kernel_rfl) ?_
          refine h_tk 0 (.pointer (some ⟨r, 0, none⟩)) HS0 rfl (fun W hW => by kernel_rfl) ?_
          refine h_tk 2 (.int .i64 (ob.length : Int)) HS0 rfl (fun W hW => by kernel_rfl) ?_
          refine h_tk 4 (.slice ba b.length bc) HS0 rfl (fun W hW => by kernel_rfl) ?_
          refine h_tk 5 (.int .i64 (b.length : Int)) HS0 rfl (fun W hW => by kernel_rfl) ?_
          refine h_tk 7 (.pointer (some ⟨r, 0, none⟩)) HS0 rfl (fun W hW => by kernel_rfl) ?_
          refine h_tk 8 (.pointer (some ⟨r, 0, none⟩)) HS0 rfl (fun W hW => y_nil rfl (by kernel_rfl)) ?_
          refine h_tk 9 (.pointer (some ⟨r, 3, none⟩)) HS0 rfl (fun W hW => y_field rfl (by kernel_rfl) (f_sh W r 3 (by decide))) ?_
          refine h_tk 10 (.int .i64 st.room) HS0 rfl (fun W hW => y_load rfl (by kernel_rfl) (l_int W _ _ _ hW)) ?_
          refine h_call 1 27 #[.pointer (some ⟨r, 0, none⟩)] (by kernel_rfl) rfl (by kernel_rfl) (by kernel_rfl) ?_
          refine (Hus.out w2.drew ⟨HB2.out.os, HB2.out.tape, HB2.out.output, HB2.out.size, HB2.out.block⟩).mono ?_
          rintro e w4 hh
          obtain ⟨rfl, hw⟩ := hh
          subst hw
          refine ⟨_, rfl, HS0, ?_⟩
          refine h_tk 3 (.int .i64 ((T : Int) - (ob.length : Int))) HS0 rfl (fun W hW => y_bin rfl (by kernel_rfl) (by kernel_rfl) (g_int W _ _ _ _ _) (run_sub W _ _ (by omega))) ?_
          refine h_tk 6 (.int .i64 ((T : Int) - (ob.length : Int) + (b.length : Int))) HS0 rfl (fun W hW => y_bin rfl (by kernel_rfl) (by kernel_rfl) (g_int W _ _ _ _ _) (run_add W _ _ (by omega))) ?_
          refine h_tk 11 (.bool true) HS0 rfl (fun W hW => y_bin rfl (by kernel_rfl) (by kernel_rfl) (g_int W _ _ _ _ _) (by rw [run_gtr, hdec])) ?_
          refine h_done _ (by kernel_rfl) ?_
          go_simp
          clear HS0 c3 c0
          go_wp2_with fail
          go_ret
          exact ⟨rfl, KR.of_new ⟨HB2.out.os, HB2.out.tape, HB2.out.output, HB2.out.size, HB2.out.block⟩ hbw, _, _, _, HR2.out.keep ((K.refl 0 _).drew)⟩
        · have hgood := HOk.out h3
          obtain ⟨e1, e2⟩ := do_good' (st1 := wrote p b st) (er := writeErr p b.length st) Ho.out hgood
          rw [e1, e2]
          clear e1 e2 hgood
          have hdec : decide (st.room < (T : Int) - (ob.length : Int) + (b.length : Int)) = false := by simpa using h3
          clear h3 HRm HOk
          unfold S
          go_enter Tryz.func10, Tryz.ntmps10
          go_wp2_with fail
          refine Hpw2.out.mono ?_
          rintro e w1 hh
          obtain ⟨rfl, hw⟩ := hh
          subst hw
          go_wp2_with fail
          refine Hpa.out.mono ?_
          rintro e w2 ⟨rfl, hB2⟩
          have hr2 := H.out.new hB2
          have c0 := hr2.c0
          have HR2 := Lib.hid hr2; have HB2 := Lib.hid hB2
          clear hB2 hr2
          go_wp2_with fail
          refine (Hfi.out _ HB2.out).mono ?_
          rintro e w3 hh
          obtain ⟨rfl, hw⟩ := hh
          subst hw
          obtain ⟨g, c, hv, dv, d0, d1, hrw⟩ := HR2.out.files.at Hkt.out
          cases hv
          obtain ⟨oa, oc, rfl⟩ := hrw.shape
          unfold S at d0
          clear hrw
          go_wp2_with fail
          have c3 := HR2.out.c3
          have HS0 : w2.drew.cell? ⟨r, 3, none⟩ = some (.int .i64 st.room) := c3
          refine h_start (fun W => W.cell? ⟨r, 3, none⟩ = some (.int .i64 st.room)) (by kernel_rfl) ?_
          refine h_tk 0 (.pointer (some ⟨r, 0, none⟩)) HS0 rfl (fun W hW => by kernel_rfl) ?_
          refine h_tk 2 (.int .i64 (ob.length : Int)) HS0 rfl (fun W hW => by kernel_rfl) ?_
          refine h_tk 4 (.slice ba b.length bc) HS0 rfl (fun W hW => by kernel_rfl) ?_
          refine h_tk 5 (.int .i64 (b.length : Int)) HS0 rfl (fun W hW => by kernel_rfl) ?_
          refine h_tk 7 (.pointer (some ⟨r, 0, none⟩)) HS0 rfl (fun W hW => by kernel_rfl) ?_
          refine h_tk 8 (.pointer (some ⟨r, 0, none⟩)) HS0 rfl (fun W hW => y_nil rfl (by kernel_rfl)) ?_
          refine h_tk 9 (.pointer (some ⟨r, 3, none⟩)) HS0 rfl (fun W hW => y_field rfl (by kernel_rfl) (f_sh W r 3 (by decide))) ?_
          refine h_tk 10 (.int .i64 st.room) HS0 rfl (fun W hW => y_load rfl (by kernel_rfl) (l_int W _ _ _ hW)) ?_
          refine h_call 1 27 #[.pointer (some ⟨r, 0, none⟩)] (by kernel_rfl) rfl (by kernel_rfl) (by kernel_rfl) ?_
          refine (Hus.out w2.drew ⟨HB2.out.os, HB2.out.tape, HB2.out.output, HB2.out.size, HB2.out.block⟩).mono ?_
          rintro e w4 hh
          obtain ⟨rfl, hw⟩ := hh
          subst hw
          refine ⟨_, rfl, HS0, ?_⟩
          refine h_tk 3 (.int .i64 ((T : Int) - (ob.length : Int))) HS0 rfl (fun W hW => y_bin rfl (by kernel_rfl) (by kernel_rfl) (g_int W _ _ _ _ _) (run_sub W _ _ (by omega))) ?_
          refine h_tk 6 (.int .i64 ((T : Int) - (ob.length : Int) + (b.length : Int))) HS0 rfl (fun W hW => y_bin rfl (by kernel_rfl) (by kernel_rfl) (g_int W _ _ _ _ _) (run_add W _ _ (by omega))) ?_
          refine h_tk 11 (.bool false) HS0 rfl (fun W hW => y_bin rfl (by kernel_rfl) (by kernel_rfl) (g_int W _ _ _ _ _) (by rw [run_gtr, hdec])) ?_
          refine h_done _ (by kernel_rfl) ?_
          go_simp
          clear HS0 c3 c0
          have hB3 : Below w.heap.size w w2.drew := ⟨HB2.out.os, HB2.out.tape, HB2.out.output, HB2.out.size, HB2.out.block⟩
          have HR3 := Lib.hid (HR2.out.keep ((K.refl 0 w2).drew))
          obtain ⟨w3, hw3⟩ : ∃ w3, w3 = w2.drew := ⟨_, rfl⟩
          rw [← hw3] at hB3 HR3 ⊢
          have HB3 := Lib.hid hB3
          clear hw3 hB3 HR2 HB2 d0 d1
          have hlb : b.length ≤ 262144 := by omega
          go_wp2_with (at_builtin; refine wpList_appB rfl _ _ rfl w3.heap.size _ _ [] b rfl rfl (row_new w3 _ (Nat.le_refl _)) ((Hc.out.below HB3.out).below (below_alloc w3 _)) (by simpa using hbl') (by simp) ?_)
          intro dv w4 hd hB4
          have hB4b : Below w3.heap.size w3 w4 := (below_alloc w3 _).trans hB4
          obtain ⟨da, dc, rfl⟩ := hd.shape
          have hlo := Rloose_any (HR3.out.new hB4b) Hp.out Hbd.out Ho.out (.write p b) (dv := .slice da b.length dc) (hd.mono (Nat.le_trans hbw HB3.out.size)) hlb (.int .i64 0) ⟨p.toArray⟩ ⟨#[]⟩ rfl rfl rfl
          have Hlo := Lib.hid hlo; have HB4 := Lib.hid (below_two HB3.out hB4b)
          clear hlo hd hB4 hB4b
          go_wp2_with fail
          refine Hlo.out.mono ?_
          rintro e w5 hh
          have hh := hh.new HB4.out hbw
          obtain ⟨rfl, h5⟩ := hh
          have H5 := Lib.hid h5
          clear h5
          go_wp2_with fail
          go_ret
          exact ⟨rfl, H5.out⟩
end Go.Proofs.YtbibogpeagnjoaaGreatDoor


namespace Go.Proofs.YtbibogpeagnjoaaGreatDoor
open Go Go.RowKit Go.Maps Go.Sort Go.Shelf Go.Deep

theorem ren_bad {p q : By} {t : Tb} (h : pathB p = false ∨ pathB q = false ∨ (pathB p = true ∧ pathB q = true ∧ refDir p ≠ refDir q)) : renameErr p q t = 1 := by
  unfold renameErr
  rcases h with h | h | ⟨h1, h2, h⟩
  · by_cases hq : pathB q = false
    · rw [if_pos hq]
    · rw [if_neg hq, if_pos h]
  · rw [if_pos h]
  · rw [refDir_path h1, refDir_path h2] at h
    rw [if_neg (by rw [h2]; decide), if_neg (by rw [h1]; decide), if_pos (by simpa using h)]
theorem ren_none {p q : By} {t : Tb} (h1 : pathB p = true) (h2 : pathB q = true) (h : refDir p = refDir q) (hg : tget p t = none) : renameErr p q t = 12 := by
  rw [refDir_path h1, refDir_path h2] at h
  unfold renameErr
  rw [if_neg (by rw [h2]; decide), if_neg (by rw [h1]; decide), if_neg (by simp [h]), if_pos hg]
theorem ren_ok {p q b : By} {t : Tb} (h1 : pathB p = true) (h2 : pathB q = true) (h : refDir p = refDir q) (hg : tget p t = some b) : renameErr p q t = 0 :=
  rename_zero.2 ⟨by unfold thereErr; rw [if_neg (by rw [h1]; decide), if_neg (by rw [hg]; simp)], h2, by simp [h]⟩

set_option maxHeartbeats 8000000 in
set_option maxRecDepth 100000 in
theorem RRename_any {w : World} {base r k0 : Nat} {vl vo va : Value} {st : St} (h : ROk w base r vl vo va st) (hp : PlI st) (hbd : Bd st k0) {p q : By} (hpl : p.length ≤ lim) (hql : q.length ≤ lim) :
    Calls Tryz.prog 12 #[.pointer (some ⟨r, 0, none⟩), S p, S q] w (RDoPost base r (doN st (renameErr p q st.files)) (doSt st (renameErr p q st.files) (renamed p q st)) w) := by
  have Hpw := Lib.hid (RPower_any h hp)
  have H := Lib.hid h; have Hp := Lib.hid hp; have Hbd := Lib.hid hbd
  have hbw := h.base_le
  have hd1 := fun W => Dir_any p W hpl
  have hd2 := fun W => Dir_any q W hql
  have hp1 := fun W => Path_any p W hpl
  have hp2 := fun W => Path_any q W hql
  unfold DirRPost S at hd1 hd2
  unfold S at hp1 hp2
  have HD1 := Lib.hid hd1; have HD2 := Lib.hid hd2; have HP1 := Lib.hid hp1; have HP2 := Lib.hid hp2
  clear h hp hbd hpl hql hd1 hd2 hp1 hp2
  cases ho : on st with
  | false =>
    obtain ⟨e1, e2⟩ := do_off' (st1 := renamed p q st) (er := renameErr p q st.files) ho
    rw [e1, e2]
    have Ho := Lib.hid ho
    clear e1 e2 ho
    unfold S
    go_enter Tryz.func12, Tryz.ntmps12
    go_wp2_with fail
    refine Hpw.out.mono ?_
    rintro e w1 (⟨h1, _⟩ | ⟨_, rfl, hk, hr⟩)
    · rw [Ho.out] at h1; cases h1
    have HK := Lib.hid hk; have HR := Lib.hid hr
    clear hk hr
    go_wp2_with fail
    go_ret
    exact ⟨rfl, HK.out, _, _, _, HR.out⟩
  | true =>
    have hpw : Calls Tryz.prog 43 #[.pointer (some ⟨r, 0, none⟩)] w fun e w' => e = .returned (.bool true) ∧ w = w' := Hpw.out.mono fun e w' hh => by
      rcases hh with ⟨_, h1, h2⟩ | ⟨h1, _⟩
      · exact ⟨h1, h2⟩
      · rw [ho] at h1; cases h1
    have Hpw2 := Lib.hid hpw
    have Ho := Lib.hid ho
    clear hpw Hpw ho
    obtain ⟨rp, hrp⟩ : ∃ x, x = refDir p := ⟨_, rfl⟩
    obtain ⟨rq, hrq⟩ : ∃ x, x = refDir q := ⟨_, rfl⟩
    rw [← hrp] at HD1
    rw [← hrq] at HD2
    have HRp := Lib.hid hrp; have HRq := Lib.hid hrq
    clear hrp hrq
    cases hpb : pathB p with
    | false =>
      rw [hpb] at HD1 HP1
      have hbad : renameErr p q st.files = 1 := ren_bad (.inl hpb)
      obtain ⟨e1, e2⟩ := do_bad' (st1 := renamed p q st) (er := renameErr p q st.files) Ho.out (by rw [hbad]; decide)
      rw [e1, e2, hbad]
      clear e1 e2 hbad
      clear hpb
      unfold S
      go_enter Tryz.func12, Tryz.ntmps12
      go_wp2_with fail
      refine Hpw2.out.mono ?_
      rintro e w1 hh
      obtain ⟨rfl, hw⟩ := hh
      subst hw
      go_wp2_with fail
      refine (HD1.out _).mono ?_
      rintro e w2 ⟨rfl, hB2⟩
      have HB2 := Lib.hid hB2
      clear hB2
      go_wp2_with fail
      refine (HD2.out _).mono ?_
      rintro e w3 ⟨rfl, hB3⟩
      have HB3 := Lib.hid (below_two HB2.out hB3)
      clear hB3
      go_wp2_with fail
      refine (HP1.out _).mono ?_
      rintro e w4 ⟨rfl, hB4⟩
      have HB4 := Lib.hid (below_two HB3.out hB4)
      clear hB4
      go_wp2_with fail
      go_ret
      exact ⟨rfl, KR.of_new HB4.out hbw, _, _, _, H.out.new HB4.out⟩
    | true =>
      rw [hpb] at HD1 HP1
      have Hpb := Lib.hid hpb
      clear hpb
      cases hqb : pathB q with
      | false =>
        rw [hqb] at HD2 HP2
        have hbad : renameErr p q st.files = 1 := ren_bad (.inr (.inl hqb))
        obtain ⟨e1, e2⟩ := do_bad' (st1 := renamed p q st) (er := renameErr p q st.files) Ho.out (by rw [hbad]; decide)
        rw [e1, e2, hbad]
        clear e1 e2 hbad
        clear hqb
        unfold S
        go_enter Tryz.func12, Tryz.ntmps12
        go_wp2_with fail
        refine Hpw2.out.mono ?_
        rintro e w1 hh
        obtain ⟨rfl, hw⟩ := hh
        subst hw
        go_wp2_with fail
        refine (HD1.out _).mono ?_
        rintro e w2 ⟨rfl, hB2⟩
        have HB2 := Lib.hid hB2
        clear hB2
        go_wp2_with fail
        refine (HD2.out _).mono ?_
        rintro e w3 ⟨rfl, hB3⟩
        have HB3 := Lib.hid (below_two HB2.out hB3)
        clear hB3
        go_wp2_with fail
        refine (HP1.out _).mono ?_
        rintro e w4 ⟨rfl, hB4⟩
        have HB4 := Lib.hid (below_two HB3.out hB4)
        clear hB4
        go_wp2_with fail
        refine (HP2.out _).mono ?_
        rintro e w5 ⟨rfl, hB5⟩
        have HB5 := Lib.hid (below_two HB4.out hB5)
        clear hB5
        go_wp2_with fail
        go_ret
        exact ⟨rfl, KR.of_new HB5.out hbw, _, _, _, H.out.new HB5.out⟩
      | true =>
        rw [hqb] at HD2 HP2
        have Hqb := Lib.hid hqb
        clear hqb
        cases hrr : (rp == rq) with
        | false =>
          have hne : (rp != rq) = true := by unfold bne; rw [hrr]; rfl
          have hbad : renameErr p q st.files = 1 := ren_bad (.inr (.inr ⟨Hpb.out, Hqb.out, by rw [← HRp.out, ← HRq.out]; simpa using hrr⟩))
          obtain ⟨e1, e2⟩ := do_bad' (st1 := renamed p q st) (er := renameErr p q st.files) Ho.out (by rw [hbad]; decide)
          rw [e1, e2, hbad]
          clear e1 e2 hbad
          unfold S
          go_enter Tryz.func12, Tryz.ntmps12
          go_wp2_with fail
          refine Hpw2.out.mono ?_
          rintro e w1 hh
          obtain ⟨rfl, hw⟩ := hh
          subst hw
          go_wp2_with fail
          refine (HD1.out _).mono ?_
          rintro e w2 ⟨rfl, hB2⟩
          have HB2 := Lib.hid hB2
          clear hB2
          go_wp2_with fail
          refine (HD2.out _).mono ?_
          rintro e w3 ⟨rfl, hB3⟩
          have HB3 := Lib.hid (below_two HB2.out hB3)
          clear hB3
          go_wp2_with fail
          refine (HP1.out _).mono ?_
          rintro e w4 ⟨rfl, hB4⟩
          have HB4 := Lib.hid (below_two HB3.out hB4)
          clear hB4
          go_wp2_with fail
          refine (HP2.out _).mono ?_
          rintro e w5 ⟨rfl, hB5⟩
          have HB5 := Lib.hid (below_two HB4.out hB5)
          clear hB5
          go_wp2_with fail
          go_ret
          exact ⟨rfl, KR.of_new HB5.out hbw, _, _, _, H.out.new HB5.out⟩
        | true =>
          have hne : (rp != rq) = false := by unfold bne; rw [hrr]; rfl
          have Hrr : Hid (refDir p = refDir q) := Lib.hid (by rw [← HRp.out, ← HRq.out]; simpa using hrr)
          obtain ⟨la, lc, hla⟩ := H.out.files.slice
          subst hla
          have hl6 : st.files.length ≤ 1000000 := by have := Hbd.out.files; have := Hbd.out.lim; omega
          have hfi := fun W (hW : Below w.heap.size w W) => Find_any (w := W) (H.out.new hW).files.v hl6 p
          cases hg : tget p st.files with
          | none =>
            rw [findI_gone hg] at hfi
            unfold S at hfi
            have Hfi := Lib.hid hfi
            have hbad : renameErr p q st.files = 12 := ren_none Hpb.out Hqb.out Hrr.out hg
            obtain ⟨e1, e2⟩ := do_bad' (st1 := renamed p q st) (er := renameErr p q st.files) Ho.out (by rw [hbad]; decide)
            rw [e1, e2, hbad]
            clear e1 e2 hbad
            clear hfi hg hl6
            unfold S
            go_enter Tryz.func12, Tryz.ntmps12
            go_wp2_with fail
            refine Hpw2.out.mono ?_
            rintro e w1 hh
            obtain ⟨rfl, hw⟩ := hh
            subst hw
            go_wp2_with fail
            refine (HD1.out _).mono ?_
            rintro e w2 ⟨rfl, hB2⟩
            have HB2 := Lib.hid hB2
            clear hB2
            go_wp2_with fail
            refine (HD2.out _).mono ?_
            rintro e w3 ⟨rfl, hB3⟩
            have HB3 := Lib.hid (below_two HB2.out hB3)
            clear hB3
            go_wp2_with fail
            refine (HP1.out _).mono ?_
            rintro e w4 ⟨rfl, hB4⟩
            have HB4 := Lib.hid (below_two HB3.out hB4)
            clear hB4
            go_wp2_with fail
            refine (HP2.out _).mono ?_
            rintro e w5 ⟨rfl, hB5⟩
            have HB5 := Lib.hid (below_two HB4.out hB5)
            clear hB5
            have hr5 := H.out.new HB5.out
            have c0 := hr5.c0
            have HR5 := Lib.hid hr5
            clear hr5
            go_wp2_with fail
            refine (Hfi.out _ HB5.out).mono ?_
            rintro e w6 hh
            obtain ⟨rfl, hw⟩ := hh
            subst hw
            go_wp2_with fail
            go_ret
            exact ⟨rfl, KR.of_new HB5.out hbw, _, _, _, H.out.new HB5.out⟩
          | some ob =>
            obtain ⟨k, hk, hkt⟩ := findI_get hg
            rw [hk] at hfi
            unfold S at hfi
            have Hfi := Lib.hid hfi
            have hgood := ren_ok Hpb.out Hqb.out Hrr.out hg
            obtain ⟨e1, e2⟩ := do_good' (st1 := renamed p q st) (er := renameErr p q st.files) Ho.out hgood
            rw [e1, e2]
            clear e1 e2 hgood hfi hg hk hkt hl6
            unfold S
            go_enter Tryz.func12, Tryz.ntmps12
            go_wp2_with fail
            refine Hpw2.out.mono ?_
            rintro e w1 hh
            obtain ⟨rfl, hw⟩ := hh
            subst hw
            go_wp2_with fail
            refine (HD1.out _).mono ?_
            rintro e w2 ⟨rfl, hB2⟩
            have HB2 := Lib.hid hB2
            clear hB2
            go_wp2_with fail
            refine (HD2.out _).mono ?_
            rintro e w3 ⟨rfl, hB3⟩
            have HB3 := Lib.hid (below_two HB2.out hB3)
            clear hB3
            go_wp2_with fail
            refine (HP1.out _).mono ?_
            rintro e w4 ⟨rfl, hB4⟩
            have HB4 := Lib.hid (below_two HB3.out hB4)
            clear hB4
            go_wp2_with fail
            refine (HP2.out _).mono ?_
            rintro e w5 ⟨rfl, hB5⟩
            have HB5 := Lib.hid (below_two HB4.out hB5)
            clear hB5
            have hr5 := H.out.new HB5.out
            have c0 := hr5.c0
            have HR5 := Lib.hid hr5
            clear hr5
            go_wp2_with fail
            refine (Hfi.out _ HB5.out).mono ?_
            rintro e w6 hh
            obtain ⟨rfl, hw⟩ := hh
            subst hw
            have hlo := Rloose_any HR5.out Hp.out Hbd.out Ho.out (.rename p q) (dv := .slice none 0 0) (World.ownsRow_nil _ _ _ _) (by show 0 ≤ 262144; omega) (.int .i64 1) ⟨p.toArray⟩ ⟨q.toArray⟩ rfl rfl rfl
            have Hlo := Lib.hid hlo
            clear hlo
            go_wp2_with fail
            refine Hlo.out.mono ?_
            rintro e w7 hh
            have hh := hh.new HB5.out hbw
            obtain ⟨rfl, h5⟩ := hh
            have H5 := Lib.hid h5
            clear h5
            go_wp2_with fail
            go_ret
            exact ⟨rfl, H5.out⟩

theorem there_bad {p : By} {t : Tb} (h : pathB p = false) : thereErr p t = 1 := by unfold thereErr; rw [if_pos h]
theorem there_none {p : By} {t : Tb} (h : pathB p = true) (hg : tget p t = none) : thereErr p t = 12 := by unfold thereErr; rw [if_neg (by rw [h]; decide), if_pos hg]
theorem there_ok {p b : By} {t : Tb} (h : pathB p = true) (hg : tget p t = some b) : thereErr p t = 0 := by unfold thereErr; rw [if_neg (by rw [h]; decide), if_neg (by rw [hg]; simp)]

set_option maxHeartbeats 8000000 in
set_option maxRecDepth 100000 in
theorem RRemove_any {w : World} {base r k0 : Nat} {vl vo va : Value} {st : St} (h : ROk w base r vl vo va st) (hp : PlI st) (hbd : Bd st k0) {p : By} (hpl : p.length ≤ lim) :
    Calls Tryz.prog 14 #[.pointer (some ⟨r, 0, none⟩), S p] w (RDoPost base r (doN st (thereErr p st.files)) (doSt st (thereErr p st.files) (removed p st)) w) := by
  have Hpw := Lib.hid (RPower_any h hp)
  have H := Lib.hid h; have Hp := Lib.hid hp; have Hbd := Lib.hid hbd
  have hbw := h.base_le
  have hp1 := fun W => Path_any p W hpl
  unfold S at hp1
  have HP1 := Lib.hid hp1
  clear h hp hbd hpl hp1
  cases ho : on st with
  | false =>
    obtain ⟨e1, e2⟩ := do_off' (st1 := removed p st) (er := thereErr p st.files) ho
    rw [e1, e2]
    have Ho := Lib.hid ho
    clear e1 e2 ho
    unfold S
    go_enter Tryz.func14, Tryz.ntmps14
    go_wp2_with fail
    refine Hpw.out.mono ?_
    rintro e w1 (⟨h1, _⟩ | ⟨_, rfl, hk, hr⟩)
    · rw [Ho.out] at h1; cases h1
    have HK := Lib.hid hk; have HR := Lib.hid hr
    clear hk hr
    go_wp2_with fail
    go_ret
    exact ⟨rfl, HK.out, _, _, _, HR.out⟩
  | true =>
    have hpw : Calls Tryz.prog 43 #[.pointer (some ⟨r, 0, none⟩)] w fun e w' => e = .returned (.bool true) ∧ w = w' := Hpw.out.mono fun e w' hh => by
      rcases hh with ⟨_, h1, h2⟩ | ⟨h1, _⟩
      · exact ⟨h1, h2⟩
      · rw [ho] at h1; cases h1
    have Hpw2 := Lib.hid hpw
    have Ho := Lib.hid ho
    clear hpw Hpw ho
    cases hpb : pathB p with
    | false =>
      rw [hpb] at HP1
      have hbad : thereErr p st.files = 1 := there_bad hpb
      obtain ⟨e1, e2⟩ := do_bad' (st1 := removed p st) (er := thereErr p st.files) Ho.out (by rw [hbad]; decide)
      rw [e1, e2, hbad]
      clear e1 e2 hbad
      clear hpb
      unfold S
      go_enter Tryz.func14, Tryz.ntmps14
      go_wp2_with fail
      refine Hpw2.out.mono ?_
      rintro e w1 hh
      obtain ⟨rfl, hw⟩ := hh
      subst hw
      go_wp2_with fail
      refine (HP1.out _).mono ?_
      rintro e w5 ⟨rfl, hB5⟩
      have HB5 := Lib.hid hB5
      clear hB5
      go_wp2_with fail
      go_ret
      exact ⟨rfl, KR.of_new HB5.out hbw, _, _, _, H.out.new HB5.out⟩
    | true =>
      rw [hpb] at HP1
      have Hpb := Lib.hid hpb
      clear hpb
      obtain ⟨la, lc, hla⟩ := H.out.files.slice
      subst hla
      have hl6 : st.files.length ≤ 1000000 := by have := Hbd.out.files; have := Hbd.out.lim; omega
      have hfi := fun W (hW : Below w.heap.size w W) => Find_any (w := W) (H.out.new hW).files.v hl6 p
      cases hg : tget p st.files with
      | none =>
        rw [findI_gone hg] at hfi
        unfold S at hfi
        have Hfi := Lib.hid hfi
        have hbad : thereErr p st.files = 12 := there_none Hpb.out hg
        obtain ⟨e1, e2⟩ := do_bad' (st1 := removed p st) (er := thereErr p st.files) Ho.out (by rw [hbad]; decide)
        rw [e1, e2, hbad]
        clear e1 e2 hbad
        clear hfi hg hl6
        unfold S
        go_enter Tryz.func14, Tryz.ntmps14
        go_wp2_with fail
        refine Hpw2.out.mono ?_
        rintro e w1 hh
        obtain ⟨rfl, hw⟩ := hh
        subst hw
        go_wp2_with fail
        refine (HP1.out _).mono ?_
        rintro e w5 ⟨rfl, hB5⟩
        have HB5 := Lib.hid hB5
        clear hB5
        have hr5 := H.out.new HB5.out
        have c0 := hr5.c0
        have HR5 := Lib.hid hr5
        clear hr5
        go_wp2_with fail
        refine (Hfi.out _ HB5.out).mono ?_
        rintro e w6 hh
        obtain ⟨rfl, hw⟩ := hh
        subst hw
        go_wp2_with fail
        go_ret
        exact ⟨rfl, KR.of_new HB5.out hbw, _, _, _, H.out.new HB5.out⟩
      | some ob =>
        obtain ⟨k, hk, hkt⟩ := findI_get hg
        rw [hk] at hfi
        unfold S at hfi
        have Hfi := Lib.hid hfi
        have hgood := there_ok Hpb.out hg
        obtain ⟨e1, e2⟩ := do_good' (st1 := removed p st) (er := thereErr p st.files) Ho.out hgood
        rw [e1, e2]
        clear e1 e2 hgood hfi hg hk hkt hl6
        unfold S
        go_enter Tryz.func14, Tryz.ntmps14
        go_wp2_with fail
        refine Hpw2.out.mono ?_
        rintro e w1 hh
        obtain ⟨rfl, hw⟩ := hh
        subst hw
        go_wp2_with fail
        refine (HP1.out _).mono ?_
        rintro e w5 ⟨rfl, hB5⟩
        have HB5 := Lib.hid hB5
        clear hB5
        have hr5 := H.out.new HB5.out
        have c0 := hr5.c0
        have HR5 := Lib.hid hr5
        clear hr5
        go_wp2_with fail
        refine (Hfi.out _ HB5.out).mono ?_
        rintro e w6 hh
        obtain ⟨rfl, hw⟩ := hh
        subst hw
        have hlo := Rloose_any HR5.out Hp.out Hbd.out Ho.out (.remove p) (dv := .slice none 0 0) (World.ownsRow_nil _ _ _ _) (by show 0 ≤ 262144; omega) (.int .i64 2) ⟨p.toArray⟩ ⟨#[]⟩ rfl rfl rfl
        have Hlo := Lib.hid hlo
        clear hlo
        go_wp2_with fail
        refine Hlo.out.mono ?_
        rintro e w7 hh
        have hh := hh.new HB5.out hbw
        obtain ⟨rfl, h5⟩ := hh
        have H5 := Lib.hid h5
        clear h5
        go_wp2_with fail
        go_ret
        exact ⟨rfl, H5.out⟩
end Go.Proofs.YtbibogpeagnjoaaGreatDoor
