/-
  The document's Read, New, Of.
-/
import Derived.Test.YtbibogpeagnjoaaGreatDoorC14

namespace Go.Proofs.YtbibogpeagnjoaaGreatDoor
open Go Go.RowKit Go.Maps Go.Sort Go.Shelf Go.Deep

set_option maxHeartbeats 8000000 in
set_option maxRecDepth 100000 in
theorem RRead_any {w : World} {base r k0 : Nat} {vl vo va : Value} {st : St} (h : ROk w base r vl vo va st) (hbd : Bd st k0) {p : By} (hpl : p.length ≤ lim) :
    Calls Tryz.prog 18 #[.pointer (some ⟨r, 0, none⟩), S p] w (ReadPost p st w) := by
  have H := Lib.hid h; have Hbd := Lib.hid hbd
  have c7 := h.c7
  have hp1 := fun W => Path_any p W hpl
  unfold S at hp1
  have HP1 := Lib.hid hp1
  clear h hbd hpl hp1
  cases hd : st.down with
  | true =>
    have he : readErr p st = 13 := by unfold readErr; rw [hd]; rfl
    rw [hd] at c7
    have He := Lib.hid he
    clear hd he
    unfold S
    go_enter Tryz.func18, Tryz.ntmps18
    go_wp2
    go_ret2
    exact ⟨Below.refl _ _, .inr ⟨by rw [He.out]; decide, by rw [He.out]; rfl⟩⟩
  | false =>
    have he : readErr p st = thereErr p st.files := by unfold readErr; rw [hd]; rfl
    rw [hd] at c7
    have He := Lib.hid he
    clear hd he
    cases hpb : pathB p with
    | false =>
      rw [hpb] at HP1
      have Hb := Lib.hid (there_bad (t := st.files) hpb)
      clear hpb
      unfold S
      go_enter Tryz.func18, Tryz.ntmps18
      go_wp2_with fail
      refine (HP1.out _).mono ?_
      rintro e w1 ⟨rfl, hB1⟩
      have HB1 := Lib.hid hB1
      clear hB1
      go_wp2_with fail
      go_ret2
      exact ⟨HB1.out, .inr ⟨by rw [He.out, Hb.out]; decide, by rw [He.out, Hb.out]; rfl⟩⟩
    | true =>
      rw [hpb] at HP1
      obtain ⟨la, lc, hla⟩ := H.out.files.slice
      subst hla
      have hl6 : st.files.length ≤ 1000000 := by have := Hbd.out.files; have := Hbd.out.lim; omega
      have hfi := fun W (hW : Below w.heap.size w W) => Find_any (w := W) (H.out.new hW).files.v hl6 p
      cases hg : tget p st.files with
      | none =>
        rw [findI_gone hg] at hfi
        unfold S at hfi
        have Hfi := Lib.hid hfi
        have Hb := Lib.hid (there_none hpb hg)
        clear hpb hfi hg hl6
        unfold S
        go_enter Tryz.func18, Tryz.ntmps18
        go_wp2_with fail
        refine (HP1.out _).mono ?_
        rintro e w1 ⟨rfl, hB1⟩
        have c0 := (H.out.new hB1).c0
        have HB1 := Lib.hid hB1
        clear hB1
        go_wp2_with fail
        refine (Hfi.out _ HB1.out).mono ?_
        rintro e w6 hh
        obtain ⟨rfl, hw⟩ := hh
        subst hw
        go_wp2_with fail
        go_ret2
        exact ⟨HB1.out, .inr ⟨by rw [He.out, Hb.out]; decide, by rw [He.out, Hb.out]; rfl⟩⟩
      | some b =>
        obtain ⟨k, hk, hkt⟩ := findI_get hg
        rw [hk] at hfi
        unfold S at hfi
        have Hfi := Lib.hid hfi
        have Hb := Lib.hid (there_ok hpb hg)
        have Hg := Lib.hid hg
        have hkl : k < st.files.length := (List.getElem?_eq_some_iff.1 hkt).1
        have hbl : b.length ≤ 262144 := Hbd.out.small (p, b) (List.mem_of_getElem? hkt)
        have Hkt := Lib.hid hkt
        clear hpb hfi hg hk hkt
        unfold S
        go_enter Tryz.func18, Tryz.ntmps18
        go_wp2_with fail
        refine (HP1.out _).mono ?_
        rintro e w1 ⟨rfl, hB1⟩
        have hr1 := H.out.new hB1
        have c0 := hr1.c0
        have HB1 := Lib.hid hB1; have HR1 := Lib.hid hr1
        clear hB1 hr1
        go_wp2_with fail
        refine (Hfi.out _ HB1.out).mono ?_
        rintro e w6 hh
        obtain ⟨rfl, hw⟩ := hh
        subst hw
        obtain ⟨g, c, hv, dv, d0, d1, hrw⟩ := HR1.out.files.at Hkt.out
        cases hv
        obtain ⟨oa, oc, rfl⟩ := hrw.shape
        have HRw := Lib.hid hrw
        have hgl := World.block_lt_of_cell? _ _ d1
        have hrl := lt_of_block HR1.out.blk
        unfold S at d0
        clear hrw
        go_wp2_with (at_builtin; refine wpList_appB rfl _ _ rfl w1.heap.size _ _ [] b rfl rfl (row_new w1 _ (Nat.le_refl _)) (HRw.out.bytes.below (below_alloc w1 _)) (by simp; omega) (by simp) ?_)
        intro dv w4 hd hB4
        have hB4b : Below w1.heap.size w1 w4 := (below_alloc w1 _).trans hB4
        obtain ⟨da, dc, rfl⟩ := hd.shape
        have HD := Lib.hid hd; have HB4 := Lib.hid hB4b
        clear hd hB4 hB4b d0 d1 c0
        go_wp2_with fail
        go_ret2
        exact ⟨below_two HB1.out HB4.out, .inl ⟨b, da, dc, Hg.out, by rw [He.out]; exact Hb.out, rfl, HD.out.mono HB1.out.size⟩⟩

def RNewPost (room : Int) (w : World) (e : Ending) (w' : World) : Prop := e = .returned (.pointer (some ⟨w.heap.size, 0, none⟩)) ∧ ROk w' w.heap.size w.heap.size (.slice none 0 0) (.slice none 0 0) (.slice none 0 0) (newSt room []) ∧ Below w.heap.size w w'

set_option maxHeartbeats 1000000 in
theorem RNew_any (room : Int) (w : World) : Calls Tryz.prog 34 #[.int .i64 room] w (RNewPost room w) := by
  go_enter Tryz.func34, Tryz.ntmps34
  go_wp2
  go_ret
  exact ⟨rfl, ⟨heap_alloc_new w _, Nat.le_refl _, ⟨[], World.ownsRow_nil _ _ _ _, trivial⟩, ⟨[], World.ownsRow_nil _ _ _ _, trivial⟩, RActs.nil _ _⟩, below_alloc w _⟩

def ROfPost (room : Int) (l : Tb) (w : World) (e : Ending) (w' : World) : Prop :=
  (ofL l = none ∧ e = .returned (.pointer none) ∧ Below w.heap.size w w') ∨ ∃ t r vl vo, ofL l = some t ∧ e = .returned (.pointer (some ⟨r, 0, none⟩)) ∧ ROk w' w.heap.size r vl vo (.slice none 0 0) (newSt room t) ∧ Below w.heap.size w w'

theorem ge_int (W : World) (x : Int) (b : Bool) (h : decide (0 ≤ x) = b) : (binOp .geq 3 (.int .i64 x) (.int .i64 0)).run Tryz.prog W = .ok (.bool b) W := by
  subst h; simp [go_sem]

set_option maxHeartbeats 16000000 in
set_option maxRecDepth 100000 in
theorem ROf_any (room : Int) (w : World) {v : Value} {l : Tb} (hv : FilesAt w v l) : Calls Tryz.prog 8 #[.int .i64 room, v] w (ROfPost room l w) := by
  have Hv := Lib.hid hv
  obtain ⟨x, c, rfl, hx⟩ := hv
  have Hx := Lib.hid hx
  clear hx
  by_cases h4 : (l.length : Int) ≤ 400
  · go_enter Tryz.func8, Tryz.ntmps8
    go_wp2_with fail
    refine (RNew_any room w).mono ?_
    rintro e w1 ⟨rfl, hr1, hB1⟩
    have HR1 := Lib.hid hr1; have HB1 := Lib.hid hB1
    obtain ⟨r, hr⟩ : ∃ r, r = w.heap.size := ⟨_, rfl⟩
    have Hr := Lib.hid hr
    rw [← hr]
    have HR2 : Hid (ROk w1 w.heap.size r (.slice none 0 0) (.slice none 0 0) (.slice none 0 0) (newSt room [])) := Lib.hid (by rw [hr]; exact hr1)
    clear hr1 hB1 hr HR1
    go_wp2_with fail
    go_loopw [6] (fun i wr => ∃ (k : Nat) (t : Tb) (vl : Value), k ≤ l.length ∧ i = .int .i64 k ∧ Hid (ROk wr w.heap.size r vl (.slice none 0 0) (.slice none 0 0) { newSt room t with synced := [] } ∧ Below w.heap.size w wr ∧ ofK l k = some t ∧ Rises t ∧ t.length ≤ k ∧ ∀ q ∈ t, q.2.length ≤ 262144)) (fun i _ => l.length - (intOf i).toNat)
    case atStart => exact ⟨0, [], _, Nat.zero_le _, rfl, Lib.hid ⟨HR2.out, HB1.out, rfl, Rises.nil, Nat.le_refl _, fun q hq => by simp at hq⟩⟩
    case round =>
      obtain ⟨k, t, vl, hk, rfl, hrel⟩ := hrel
      by_cases hlt : k < l.length
      · obtain ⟨q, hq⟩ : ∃ q, l[k]? = some q := ⟨_, List.getElem?_eq_getElem hlt⟩
        obtain ⟨hr, hB, hof, hris, htl, hsm⟩ := hrel.out
        have Hbad := Lib.hid (ofL_bad hq hof)
        have Hgo := Lib.hid (ofK_good hq hof)
        obtain ⟨fb, fo, rfl, fv, h0, h1, h6, l1, l2⟩ := Hx.out k q hq
        obtain ⟨fa, fc, rfl⟩ := h6.slice
        obtain ⟨la, lc, hla⟩ := hr.files.slice
        change vl = Value.slice la t.length lc at hla
        subst hla
        have hfl := World.block_lt_of_cell? _ _ h0
        have hfl : fb < w.heap.size := hfl
        rw [add_at] at h1
        unfold S at h0
        have y0 := cell_below' hB h0
        have y1 := cell_below' hB h1
        have HY0 := Lib.hid y0; have HY1 := Lib.hid y1
        have hl6 : t.length ≤ 1000000 := by omega
        have hpa := fun W => Path_any q.1 W l1
        unfold S at hpa
        have Hpa := Lib.hid hpa
        have hfi := fun W (hW : Below wr.heap.size wr W) => Find_any (w := W) (t := t) (hr.new hW).files.v hl6 q.1
        unfold S at hfi
        have c0 := hr.c0
        have C0 : Hid (∀ W, Below wr.heap.size wr W → W.cell? ⟨r, 0, none⟩ = some (.slice la t.length lc)) := Lib.hid fun W hW => (hr.new hW).c0
        have Hb6 := Lib.hid (h6.below hB)
        have HRr := Lib.hid hr; have HB := Lib.hid hB; have Hris := Lib.hid hris; have Hsm := Lib.hid hsm
        have hBd : Below wr.heap.size wr wr.drew := ⟨rfl, rfl, rfl, Nat.le_refl _, fun _ _ => rfl⟩
        clear hr hB hof hris hsm hrel h0 h1 h6 hpa y0 y1 c0
        cases hpb : pathB q.1 with
        | false =>
          rw [hpb] at Hpa
          have Hpb := Lib.hid hpb
          clear hpb
          go_wp2_with fail
          refine h_start (fun W => Below wr.heap.size wr W) (by kernel_rfl) ?_
          refine h_tk 0 (.slice (some ⟨fb, fo, none⟩) l.length c) hBd rfl (fun W hW => by kernel_rfl) ?_
          refine h_tk 1 (.int .i64 (k : Int)) hBd rfl (fun W hW => by kernel_rfl) ?_
          refine h_tk 2 (.pointer (some ⟨fb, fo + k * 2, none⟩)) hBd rfl (fun W hW => y_index rfl (by kernel_rfl) (by kernel_rfl) (i_files W fb fo l.length c k hlt)) ?_
          refine h_tk 3 (.pointer (some ⟨fb, fo + k * 2, none⟩)) hBd rfl (fun W hW => y_field rfl (by kernel_rfl) (f_path W fb (fo + k * 2))) ?_
          refine h_tk 4 (.string ⟨q.1.toArray⟩) hBd rfl (fun W hW => y_load rfl (by kernel_rfl) (l_str W _ _ _ (cell_below' hW HY0.out))) ?_
          refine h_call 5 35 #[.string ⟨q.1.toArray⟩] (by kernel_rfl) rfl (by kernel_rfl) (by kernel_rfl) ?_
          refine (Hpa.out _).mono ?_
          rintro e w2 ⟨rfl, hB2d⟩
          have hB2 : Below wr.heap.size wr w2 := ⟨hB2d.os, hB2d.tape, hB2d.output, hB2d.size, hB2d.block⟩
          refine ⟨_, rfl, hB2, ?_⟩
          refine h_tk 6 (.bool true) hB2 rfl (fun W hW => by kernel_rfl) ?_
          refine h_tk 7 (.bool true) hB2 rfl (fun W hW => by kernel_rfl) ?_
          refine h_sk 8 hB2 rfl ?_
          refine h_sk 9 hB2 rfl ?_
          refine h_sk 10 hB2 rfl ?_
          refine h_sk 11 hB2 rfl ?_
          refine h_sk 12 hB2 rfl ?_
          refine h_sk 13 hB2 rfl ?_
          refine h_sk 14 hB2 rfl ?_
          refine h_sk 15 hB2 rfl ?_
          refine h_sk 16 hB2 rfl ?_
          refine h_sk 17 hB2 rfl ?_
          refine h_sk 18 hB2 rfl ?_
          refine h_tk 19 (.bool true) hB2 rfl (fun W hW => by kernel_rfl) ?_
          refine h_tk 20 (.bool true) hB2 rfl (fun W hW => by kernel_rfl) ?_
          refine h_sk 21 hB2 rfl ?_
          refine h_sk 22 hB2 rfl ?_
          refine h_sk 23 hB2 rfl ?_
          refine h_sk 24 hB2 rfl ?_
          refine h_sk 25 hB2 rfl ?_
          refine h_sk 26 hB2 rfl ?_
          refine h_sk 27 hB2 rfl ?_
          refine h_tk 28 (.bool true) hB2 rfl (fun W hW => by kernel_rfl) ?_
          refine h_done _ (by kernel_rfl) ?_
          have HB3 := Lib.hid (below_two HB.out hB2)
          go_simp
          go_wp2_with fail
          go_ret
          exact .inl ⟨Hbad.out (fun h => by rw [Hpb.out] at h; cases h.1), rfl, HB3.out⟩
        | true =>
          rw [hpb] at Hpa
          have Hpb := Lib.hid hpb
          clear hpb
          cases hg : tget q.1 t with
          | some ob =>
            obtain ⟨kk, hkk, _⟩ := findI_get hg
            rw [hkk] at hfi
            have Hfi := Lib.hid hfi; have Hg := Lib.hid hg
            clear hfi hg hkk
            go_wp2_with fail
            refine h_start (fun W => Below wr.heap.size wr W) (by kernel_rfl) ?_
            refine h_tk 0 (.slice (some ⟨fb, fo, none⟩) l.length c) hBd rfl (fun W hW => by kernel_rfl) ?_
            refine h_tk 1 (.int .i64 (k : Int)) hBd rfl (fun W hW => by kernel_rfl) ?_
            refine h_tk 2 (.pointer (some ⟨fb, fo + k * 2, none⟩)) hBd rfl (fun W hW => y_index rfl (by kernel_rfl) (by kernel_rfl) (i_files W fb fo l.length c k hlt)) ?_
            refine h_tk 3 (.pointer (some ⟨fb, fo + k * 2, none⟩)) hBd rfl (fun W hW => y_field rfl (by kernel_rfl) (f_path W fb (fo + k * 2))) ?_
            refine h_tk 4 (.string ⟨q.1.toArray⟩) hBd rfl (fun W hW => y_load rfl (by kernel_rfl) (l_str W _ _ _ (cell_below' hW HY0.out))) ?_
            refine h_call 5 35 #[.string ⟨q.1.toArray⟩] (by kernel_rfl) rfl (by kernel_rfl) (by kernel_rfl) ?_
            refine (Hpa.out _).mono ?_
            rintro e w2 ⟨rfl, hB2d⟩
            have hB2 : Below wr.heap.size wr w2 := ⟨hB2d.os, hB2d.tape, hB2d.output, hB2d.size, hB2d.block⟩
            refine ⟨_, rfl, hB2, ?_⟩
            refine h_tk 6 (.bool false) hB2 rfl (fun W hW => by kernel_rfl) ?_
            refine h_tk 7 (.bool false) hB2 rfl (fun W hW => by kernel_rfl) ?_
            refine h_tk 8 (.pointer (some ⟨r, 0, none⟩)) hB2 rfl (fun W hW => by kernel_rfl) ?_
            refine h_tk 9 (.pointer (some ⟨r, 0, none⟩)) hB2 rfl (fun W hW => y_nil rfl (by kernel_rfl)) ?_
            refine h_tk 10 (.pointer (some ⟨r, 0, none⟩)) hB2 rfl (fun W hW => y_field rfl (by kernel_rfl) (f_sh W r 0 (by decide))) ?_
            refine h_tk 11 (.slice la t.length lc) hB2 rfl (fun W hW => y_load rfl (by kernel_rfl) (l_files W r 0 _ _ _ (C0.out W hW))) ?_
            refine h_tk 12 (.slice (some ⟨fb, fo, none⟩) l.length c) hB2 rfl (fun W hW => by kernel_rfl) ?_
            refine h_tk 13 (.int .i64 (k : Int)) hB2 rfl (fun W hW => by kernel_rfl) ?_
            refine h_tk 14 (.pointer (some ⟨fb, fo + k * 2, none⟩)) hB2 rfl (fun W hW => y_index rfl (by kernel_rfl) (by kernel_rfl) (i_files W fb fo l.length c k hlt)) ?_
            refine h_tk 15 (.pointer (some ⟨fb, fo + k * 2, none⟩)) hB2 rfl (fun W hW => y_field rfl (by kernel_rfl) (f_path W fb (fo + k * 2))) ?_
            refine h_tk 16 (.string ⟨q.1.toArray⟩) hB2 rfl (fun W hW => y_load rfl (by kernel_rfl) (l_str W _ _ _ (cell_below' hW HY0.out))) ?_
            refine h_call 17 36 #[.slice la t.length lc, .string ⟨q.1.toArray⟩] (by kernel_rfl) rfl (by kernel_rfl) (by kernel_rfl) ?_
            refine (Hfi.out _ hB2).mono ?_
            rintro e w3 hh
            obtain ⟨rfl, hw⟩ := hh
            subst hw
            refine ⟨_, rfl, hB2, ?_⟩
            refine h_tk 18 (.bool true) hB2 rfl (fun W hW => y_bin rfl (by kernel_rfl) (by kernel_rfl) (g_int W _ _ _ _ _) (ge_int W (kk : Int) true (by simp))) ?_
            refine h_tk 19 (.bool true) hB2 rfl (fun W hW => by kernel_rfl) ?_
            refine h_tk 20 (.bool true) hB2 rfl (fun W hW => by kernel_rfl) ?_
            refine h_sk 21 hB2 rfl ?_
            refine h_sk 22 hB2 rfl ?_
            refine h_sk 23 hB2 rfl ?_
            refine h_sk 24 hB2 rfl ?_
            refine h_sk 25 hB2 rfl ?_
            refine h_sk 26 hB2 rfl ?_
            refine h_sk 27 hB2 rfl ?_
            refine h_tk 28 (.bool true) hB2 rfl (fun W hW => by kernel_rfl) ?_
            refine h_done _ (by kernel_rfl) ?_
            have HB3 := Lib.hid (below_two HB.out hB2)
            go_simp
            go_wp2_with fail
            go_ret
            exact .inl ⟨Hbad.out (fun h => by rw [Hg.out] at h; cases h.2.1), rfl, HB3.out⟩
          | none =>
            rw [findI_gone hg] at hfi
            have Hfi := Lib.hid hfi; have Hg := Lib.hid hg
            clear hfi hg
            by_cases hbig : (262144 : Int) < (q.2.length : Int)
            · have hdec : decide ((262144 : Int) < (q.2.length : Int)) = true := by simpa using hbig
              have Hbig : Hid (¬ q.2.length ≤ 262144) := Lib.hid (by omega)
              clear hbig
              go_wp2_with fail
              refine h_start (fun W => Below wr.heap.size wr W) (by kernel_rfl) ?_
              refine h_tk 0 (.slice (some ⟨fb, fo, none⟩) l.length c) hBd rfl (fun W hW => by kernel_rfl) ?_
              refine h_tk 1 (.int .i64 (k : Int)) hBd rfl (fun W hW => by kernel_rfl) ?_
              refine h_tk 2 (.pointer (some ⟨fb, fo + k * 2, none⟩)) hBd rfl (fun W hW => y_index rfl (by kernel_rfl) (by kernel_rfl) (i_files W fb fo l.length c k hlt)) ?_
              refine h_tk 3 (.pointer (some ⟨fb, fo + k * 2, none⟩)) hBd rfl (fun W hW => y_field rfl (by kernel_rfl) (f_path W fb (fo + k * 2))) ?_
              refine h_tk 4 (.string ⟨q.1.toArray⟩) hBd rfl (fun W hW => y_load rfl (by kernel_rfl) (l_str W _ _ _ (cell_below' hW HY0.out))) ?_
              refine h_call 5 35 #[.string ⟨q.1.toArray⟩] (by kernel_rfl) rfl (by kernel_rfl) (by kernel_rfl) ?_
              refine (Hpa.out _).mono ?_
              rintro e w2 ⟨rfl, hB2d⟩
              have hB2 : Below wr.heap.size wr w2 := ⟨hB2d.os, hB2d.tape, hB2d.output, hB2d.size, hB2d.block⟩
              refine ⟨_, rfl, hB2, ?_⟩
              refine h_tk 6 (.bool false) hB2 rfl (fun W hW => by kernel_rfl) ?_
              refine h_tk 7 (.bool false) hB2 rfl (fun W hW => by kernel_rfl) ?_
              refine h_tk 8 (.pointer (some ⟨r, 0, none⟩)) hB2 rfl (fun W hW => by kernel_rfl) ?_
              refine h_tk 9 (.pointer (some ⟨r, 0, none⟩)) hB2 rfl (fun W hW => y_nil rfl (by kernel_rfl)) ?_
              refine h_tk 10 (.pointer (some ⟨r, 0, none⟩)) hB2 rfl (fun W hW => y_field rfl (by kernel_rfl) (f_sh W r 0 (by decide))) ?_
              refine h_tk 11 (.slice la t.length lc) hB2 rfl (fun W hW => y_load rfl (by kernel_rfl) (l_files W r 0 _ _ _ (C0.out W hW))) ?_
              refine h_tk 12 (.slice (some ⟨fb, fo, none⟩) l.length c) hB2 rfl (fun W hW => by kernel_rfl) ?_
              refine h_tk 13 (.int .i64 (k : Int)) hB2 rfl (fun W hW => by kernel_rfl) ?_
              refine h_tk 14 (.pointer (some ⟨fb, fo + k * 2, none⟩)) hB2 rfl (fun W hW => y_index rfl (by kernel_rfl) (by kernel_rfl) (i_files W fb fo l.length c k hlt)) ?_
              refine h_tk 15 (.pointer (some ⟨fb, fo + k * 2, none⟩)) hB2 rfl (fun W hW => y_field rfl (by kernel_rfl) (f_path W fb (fo + k * 2))) ?_
              refine h_tk 16 (.string ⟨q.1.toArray⟩) hB2 rfl (fun W hW => y_load rfl (by kernel_rfl) (l_str W _ _ _ (cell_below' hW HY0.out))) ?_
              refine h_call 17 36 #[.slice la t.length lc, .string ⟨q.1.toArray⟩] (by kernel_rfl) rfl (by kernel_rfl) (by kernel_rfl) ?_
              refine (Hfi.out _ hB2).mono ?_
              rintro e w3 hh
              obtain ⟨rfl, hw⟩ := hh
              subst hw
              refine ⟨_, rfl, hB2, ?_⟩
              refine h_tk 18 (.bool false) hB2 rfl (fun W hW => y_bin rfl (by kernel_rfl) (by kernel_rfl) (g_int W _ _ _ _ _) (ge_int W (-1) false rfl)) ?_
              refine h_tk 19 (.bool false) hB2 rfl (fun W hW => by kernel_rfl) ?_
              refine h_tk 20 (.bool false) hB2 rfl (fun W hW => by kernel_rfl) ?_
              refine h_tk 21 (.slice (some ⟨fb, fo, none⟩) l.length c) hB2 rfl (fun W hW => by kernel_rfl) ?_
              refine h_tk 22 (.int .i64 (k : Int)) hB2 rfl (fun W hW => by kernel_rfl) ?_
              refine h_tk 23 (.pointer (some ⟨fb, fo + k * 2, none⟩)) hB2 rfl (fun W hW => y_index rfl (by kernel_rfl) (by kernel_rfl) (i_files W fb fo l.length c k hlt)) ?_
              refine h_tk 24 (.pointer (some ⟨fb, fo + k * 2 + 1, none⟩)) hB2 rfl (fun W hW => y_field rfl (by kernel_rfl) (f_data W fb (fo + k * 2))) ?_
              refine h_tk 25 (.slice fa q.2.length fc) hB2 rfl (fun W hW => y_load rfl (by kernel_rfl) (l_bytes W _ _ _ _ _ (cell_below' hW HY1.out))) ?_
              refine h_tk 26 (.int .i64 (q.2.length : Int)) hB2 rfl (fun W hW => by kernel_rfl) ?_
              refine h_tk 27 (.bool true) hB2 rfl (fun W hW => y_bin rfl (by kernel_rfl) (by kernel_rfl) (g_int W _ _ _ _ _) (by rw [run_gtr, hdec])) ?_
              refine h_tk 28 (.bool true) hB2 rfl (fun W hW => by kernel_rfl) ?_
              refine h_done _ (by kernel_rfl) ?_
              have HB3 := Lib.hid (below_two HB.out hB2)
              go_simp
              go_wp2_with fail
              go_ret
              exact .inl ⟨Hbad.out (fun h => by exact Hbig.out h.2.2), rfl, HB3.out⟩
            · have hdec : decide ((262144 : Int) < (q.2.length : Int)) = false := by simpa using hbig
              have hql : q.2.length ≤ 262144 := by omega
              clear hbig
              go_wp2_with fail
              refine h_start (fun W => Below wr.heap.size wr W) (by kernel_rfl) ?_
              refine h_tk 0 (.slice (some ⟨fb, fo, none⟩) l.length c) hBd rfl (fun W hW => by kernel_rfl) ?_
              refine h_tk 1 (.int .i64 (k : Int)) hBd rfl (fun W hW => by kernel_rfl) ?_
              refine h_tk 2 (.pointer (some ⟨fb, fo + k * 2, none⟩)) hBd rfl (fun W hW => y_index rfl (by kernel_rfl) (by kernel_rfl) (i_files W fb fo l.length c k hlt)) ?_
              refine h_tk 3 (.pointer (some ⟨fb, fo + k * 2, none⟩)) hBd rfl (fun W hW => y_field rfl (by kernel_rfl) (f_path W fb (fo + k * 2))) ?_
              refine h_tk 4 (.string ⟨q.1.toArray⟩) hBd rfl (fun W hW => y_load rfl (by kernel_rfl) (l_str W _ _ _ (cell_below' hW HY0.out))) ?_
              refine h_call 5 35 #[.string ⟨q.1.toArray⟩] (by kernel_rfl) rfl (by kernel_rfl) (by kernel_rfl) ?_
              refine (Hpa.out _).mono ?_
              rintro e w2 ⟨rfl, hB2d⟩
              have hB2 : Below wr.heap.size wr w2 := ⟨hB2d.os, hB2d.tape, hB2d.output, hB2d.size, hB2d.block⟩
              refine ⟨_, rfl, hB2, ?_⟩
              refine h_tk 6 (.bool false) hB2 rfl (fun W hW => by kernel_rfl) ?_
              refine h_tk 7 (.bool false) hB2 rfl (fun W hW => by kernel_rfl) ?_
              refine h_tk 8 (.pointer (some ⟨r, 0, none⟩)) hB2 rfl (fun W hW => by kernel_rfl) ?_
              refine h_tk 9 (.pointer (some ⟨r, 0, none⟩)) hB2 rfl (fun W hW => y_nil rfl (by kernel_rfl)) ?_
              refine h_tk 10 (.pointer (some ⟨r, 0, none⟩)) hB2 rfl (fun W hW => y_field rfl (by kernel_rfl) (f_sh W r 0 (by decide))) ?_
              refine h_tk 11 (.slice la t.length lc) hB2 rfl (fun W hW => y_load rfl (by kernel_rfl) (l_files W r 0 _ _ _ (C0.out W hW))) ?_
              refine h_tk 12 (.slice (some ⟨fb, fo, none⟩) l.length c) hB2 rfl (fun W hW => by kernel_rfl) ?_
              refine h_tk 13 (.int .i64 (k : Int)) hB2 rfl (fun W hW => by kernel_rfl) ?_
              refine h_tk 14 (.pointer (some ⟨fb, fo + k * 2, none⟩)) hB2 rfl (fun W hW => y_index rfl (by kernel_rfl) (by kernel_rfl) (i_files W fb fo l.length c k hlt)) ?_
              refine h_tk 15 (.pointer (some ⟨fb, fo + k * 2, none⟩)) hB2 rfl (fun W hW => y_field rfl (by kernel_rfl) (f_path W fb (fo + k * 2))) ?_
              refine h_tk 16 (.string ⟨q.1.toArray⟩) hB2 rfl (fun W hW => y_load rfl (by kernel_rfl) (l_str W _ _ _ (cell_below' hW HY0.out))) ?_
              refine h_call 17 36 #[.slice la t.length lc, .string ⟨q.1.toArray⟩] (by kernel_rfl) rfl (by kernel_rfl) (by kernel_rfl) ?_
              refine (Hfi.out _ hB2).mono ?_
              rintro e w3 hh
              obtain ⟨rfl, hw⟩ := hh
              subst hw
              refine ⟨_, rfl, hB2, ?_⟩
              refine h_tk 18 (.bool false) hB2 rfl (fun W hW => y_bin rfl (by kernel_rfl) (by kernel_rfl) (g_int W _ _ _ _ _) (ge_int W (-1) false rfl)) ?_
              refine h_tk 19 (.bool false) hB2 rfl (fun W hW => by kernel_rfl) ?_
              refine h_tk 20 (.bool false) hB2 rfl (fun W hW => by kernel_rfl) ?_
              refine h_tk 21 (.slice (some ⟨fb, fo, none⟩) l.length c) hB2 rfl (fun W hW => by kernel_rfl) ?_
              refine h_tk 22 (.int .i64 (k : Int)) hB2 rfl (fun W hW => by kernel_rfl) ?_
              refine h_tk 23 (.pointer (some ⟨fb, fo + k * 2, none⟩)) hB2 rfl (fun W hW => y_index rfl (by kernel_rfl) (by kernel_rfl) (i_files W fb fo l.length c k hlt)) ?_
              refine h_tk 24 (.pointer (some ⟨fb, fo + k * 2 + 1, none⟩)) hB2 rfl (fun W hW => y_field rfl (by kernel_rfl) (f_data W fb (fo + k * 2))) ?_
              refine h_tk 25 (.slice fa q.2.length fc) hB2 rfl (fun W hW => y_load rfl (by kernel_rfl) (l_bytes W _ _ _ _ _ (cell_below' hW HY1.out))) ?_
              refine h_tk 26 (.int .i64 (q.2.length : Int)) hB2 rfl (fun W hW => by kernel_rfl) ?_
              refine h_tk 27 (.bool false) hB2 rfl (fun W hW => y_bin rfl (by kernel_rfl) (by kernel_rfl) (g_int W _ _ _ _ _) (by rw [run_gtr, hdec])) ?_
              refine h_tk 28 (.bool false) hB2 rfl (fun W hW => by kernel_rfl) ?_
              refine h_done _ (by kernel_rfl) ?_
              have HB2 := Lib.hid hB2
              clear hB2 hB2d hBd
              go_simp
              have hr2 := HRr.out.new HB2.out
              have hrd := hr2.keep ((K.refl 0 w2).drew)
              have hby := (Hb6.out.below HB2.out)
              have hsz2 : w.heap.size ≤ w2.heap.size := by have := HB.out.size; have := HB2.out.size; omega
              have hpu := Put_any (w := w2.drew) (t := t) hrd.files Hris.out hsz2 hl6 q.1 (b := q.2) (by omega) hby
              unfold S at hpu
              have Hpu := Lib.hid hpu; have Hrd := Lib.hid hrd; have c0 := hr2.c0
              have z0 := cell_below' HB2.out HY0.out
              have z1 := cell_below' HB2.out HY1.out
              have HZ := And.intro z0 z1
              clear hpu hrd hr2 hby z0 z1
              go_wp2_with fail
              refine h_start (fun W => W.cell? ⟨fb, fo + k * 2, none⟩ = some (.string ⟨q.1.toArray⟩) ∧ W.cell? ⟨fb, fo + k * 2 + 1, none⟩ = some (.slice fa q.2.length fc)) (by kernel_rfl) ?_
              have hS0 : w2.drew.cell? ⟨fb, fo + k * 2, none⟩ = some (.string ⟨q.1.toArray⟩) ∧ w2.drew.cell? ⟨fb, fo + k * 2 + 1, none⟩ = some (.slice fa q.2.length fc) := HZ
              refine h_tk 0 (.pointer (some ⟨r, 0, none⟩)) hS0 rfl (fun W hW => by kernel_rfl) ?_
              refine h_tk 1 (.pointer (some ⟨r, 0, none⟩)) hS0 rfl (fun W hW => by kernel_rfl) ?_
              refine h_tk 2 (.pointer (some ⟨r, 0, none⟩)) hS0 rfl (fun W hW => y_nil rfl (by kernel_rfl)) ?_
              refine h_tk 3 (.pointer (some ⟨r, 0, none⟩)) hS0 rfl (fun W hW => y_field rfl (by kernel_rfl) (f_sh W r 0 (by decide))) ?_
              refine h_tk 5 (.slice (some ⟨fb, fo, none⟩) l.length c) hS0 rfl (fun W hW => by kernel_rfl) ?_
              refine h_tk 6 (.int .i64 (k : Int)) hS0 rfl (fun W hW => by kernel_rfl) ?_
              refine h_tk 7 (.pointer (some ⟨fb, fo + k * 2, none⟩)) hS0 rfl (fun W hW => y_index rfl (by kernel_rfl) (by kernel_rfl) (i_files W fb fo l.length c k hlt)) ?_
              refine h_tk 8 (.pointer (some ⟨fb, fo + k * 2, none⟩)) hS0 rfl (fun W hW => y_field rfl (by kernel_rfl) (f_path W fb (fo + k * 2))) ?_
              refine h_tk 9 (.string ⟨q.1.toArray⟩) hS0 rfl (fun W hW => y_load rfl (by kernel_rfl) (l_str W _ _ _ hW.1)) ?_
              refine h_tk 10 (.slice (some ⟨fb, fo, none⟩) l.length c) hS0 rfl (fun W hW => by kernel_rfl) ?_
              refine h_tk 11 (.int .i64 (k : Int)) hS0 rfl (fun W hW => by kernel_rfl) ?_
              refine h_tk 12 (.pointer (some ⟨fb, fo + k * 2, none⟩)) hS0 rfl (fun W hW => y_index rfl (by kernel_rfl) (by kernel_rfl) (i_files W fb fo l.length c k hlt)) ?_
              refine h_tk 13 (.pointer (some ⟨fb, fo + k * 2 + 1, none⟩)) hS0 rfl (fun W hW => y_field rfl (by kernel_rfl) (f_data W fb (fo + k * 2))) ?_
              refine h_tk 14 (.slice fa q.2.length fc) hS0 rfl (fun W hW => y_load rfl (by kernel_rfl) (l_bytes W _ _ _ _ _ hW.2)) ?_
              refine h_op 4 (.slice la t.length lc) w2.drew (by kernel_rfl) rfl (by kernel_rfl) (y_load rfl (by kernel_rfl) (l_files _ r 0 _ _ _ c0)) hS0 ?_
              refine h_call 15 37 #[.slice la t.length lc, .string ⟨q.1.toArray⟩, .slice fa q.2.length fc] (by kernel_rfl) rfl (by kernel_rfl) (by kernel_rfl) ?_
              refine Hpu.out.mono ?_
              rintro e w4 ⟨v4, rfl, hf4, hB4⟩
              have hr4 := Hrd.out.new hB4
              have hs4 := hr4.set (st' := { newSt room (tput q.1 q.2 t) with synced := [] }) 0 v4 rfl hf4 hr4.old hr4.acts
              have hS4 := And.intro (cell_below' hB4 hS0.1) (cell_below' hB4 hS0.2)
              obtain ⟨l4, m4, rfl⟩ := hf4.slice
              refine ⟨_, rfl, hS4, ?_⟩
              have hrw : w.heap.size ≤ r := HRr.out.base_r
              have hne : fb ≠ r := by omega
              have hbk := Below.heap_setCell w4 ⟨r, 0, none⟩ (.slice l4 (tput q.1 q.2 t).length m4) fb hne
              have hS5 : (w4.setCell ⟨r, 0, none⟩ (.slice l4 (tput q.1 q.2 t).length m4)).cell? ⟨fb, fo + k * 2, none⟩ = some (.string ⟨q.1.toArray⟩) ∧ (w4.setCell ⟨r, 0, none⟩ (.slice l4 (tput q.1 q.2 t).length m4)).cell? ⟨fb, fo + k * 2 + 1, none⟩ = some (.slice fa q.2.length fc) := by
                rw [World.cell?_of_block (w := w4) (a := ⟨fb, fo + k * 2, none⟩) hbk, World.cell?_of_block (w := w4) (a := ⟨fb, fo + k * 2 + 1, none⟩) hbk]; exact hS4
              refine h_tk 16 (.pointer (some ⟨r, 0, none⟩)) hS4 rfl (fun W hW => y_nil rfl (by kernel_rfl)) ?_
              refine h_tk 17 (.pointer (some ⟨r, 0, none⟩)) hS4 rfl (fun W hW => y_field rfl (by kernel_rfl) (f_sh W r 0 (by decide))) ?_
              refine h_sto 18 (w4.setCell ⟨r, 0, none⟩ (.slice l4 (tput q.1 q.2 t).length m4)) (by kernel_rfl) rfl (by kernel_rfl) (y_sto rfl (by kernel_rfl) (by kernel_rfl) (st_files _ r 0 _ _ _ _ hr4.c0 (hr4.free 0))) hS5 ?_
              refine h_done _ (by kernel_rfl) ?_
              have hB5 : Below w.heap.size w (w4.setCell ⟨r, 0, none⟩ (.slice l4 (tput q.1 q.2 t).length m4)) := ((below_two (below_two HB.out HB2.out) ⟨hB4.os, hB4.tape, hB4.output, hB4.size, hB4.block⟩).setCell (p := ⟨r, 0, none⟩) hrw _)
              have hsm : ∀ x ∈ tput q.1 q.2 t, x.2.length ≤ 262144 := fun x hx => by
                rcases mem_tput' hx with rfl | hx
                · exact hql
                · exact Hsm.out x hx
              have HN := Lib.hid (And.intro hs4.1 (And.intro hB5 (And.intro (Hgo.out Hpb.out Hg.out hql) (And.intro (Hris.out.tput (p := q.1) (b := q.2)) (And.intro (Nat.le_trans (tput_length_le q.1 q.2 t) (Nat.succ_le_succ htl)) hsm)))))
              obtain ⟨w5, hw5⟩ : ∃ w5, w4.setCell ⟨r, 0, none⟩ (.slice l4 (tput q.1 q.2 t).length m4) = w5 := ⟨_, rfl⟩
              rw [hw5] at HN ⊢
              clear hw5 hbk hS5 hS4 hS0 hs4 hr4 hf4 hB4 hB5 hsm c0 HZ hne hrw
              go_simp
              go_wp2_with fail
              go_roundw
              case rel => exact ⟨k + 1, _, _, hlt, by go_num, HN⟩
              case measure => simp [intOf]; omega
      · obtain rfl : k = l.length := by omega
        obtain ⟨hr, hB, hof, _, _, _⟩ := hrel.out
        obtain ⟨la, lc, hla⟩ := hr.files.slice
        change vl = Value.slice la t.length lc at hla
        subst hla
        have c0 := hr.c0; have c1 := hr.c1; have f1 := hr.free 1
        have hs := hr.set (st' := newSt room t) 1 (.slice la t.length lc) rfl hr.files hr.files hr.acts
        have hrw : w.heap.size ≤ r := hr.base_r
        have HS := Lib.hid (And.intro hs.1 (hB.setCell (p := ⟨r, 1, none⟩) hrw (.slice la t.length lc)))
        have Hof := Lib.hid (ofL_all (by omega) hof)
        clear hs hr hB hof hrel
        go_wp2_with fail
        go_ret
        exact .inr ⟨t, r, _, _, Hof.out, rfl, HS.out.1, HS.out.2⟩
  · go_enter Tryz.func8, Tryz.ntmps8
    go_wp2_with fail
    go_ret
    exact .inl ⟨ofL_many (by omega), rfl, Below.refl _ _⟩
end Go.Proofs.YtbibogpeagnjoaaGreatDoor
