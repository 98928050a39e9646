/-
  ShelfMoves: its walk.
-/
import Derived.Test.YtehcdnaoiidlbaaGreatDoorRead
import Derived.Test.YtehcdnaoiidlbaaGreatDoorRefused
namespace Go.Proofs.YtehcdnaoiidlbaaGreatDoor
open Go Go.RowKit Go.Maps Go.Shelf Go.Deep

theorem refDir_path {p : By} (h : pathB p = true) : refDir p = dirOf p := by
  unfold pathB at h
  unfold refDir
  simp only [Bool.and_eq_true] at h
  rw [if_pos h.1.1]
theorem there_zero {p : By} {t : Tb} (h : thereErr p t = 0) : pathB p = true ∧ ∃ b, tget p t = some b := by
  unfold thereErr at h
  split at h
  · cases h
  · rename_i hp
    split at h
    · cases h
    · rename_i hb
      exact ⟨by simpa using hp, Option.ne_none_iff_exists'.1 hb⟩
theorem rename_zero {p q : By} {t : Tb} : renameErr p q t = 0 ↔ thereErr p t = 0 ∧ pathB q = true ∧ (refDir p == refDir q) = true := by
  constructor
  · intro h
    unfold renameErr at h
    split at h
    · cases h
    · rename_i hq
      split at h
      · cases h
      · rename_i hp
        split at h
        · cases h
        · rename_i hd
          split at h
          · cases h
          · rename_i hb
            have hq : pathB q = true := by simpa using hq
            have hp' : pathB p = true := by simpa using hp
            refine ⟨?_, hq, ?_⟩
            · unfold thereErr; rw [if_neg hp, if_neg hb]
            · rw [refDir_path hp', refDir_path hq]; simpa using hd
  · rintro ⟨h1, h2, h3⟩
    obtain ⟨hp, b, hb⟩ := there_zero h1
    rw [refDir_path hp, refDir_path h2] at h3
    unfold renameErr
    rw [if_neg (by rw [h2]; decide), if_neg (by rw [hp]; decide), if_neg (by rw [h3]; decide), if_neg (by rw [hb]; simp)]

/-- What the files are behind a Rename. -/
theorem moved_to {p q b : By} {t : Tb} (h : tget p t = some b) : tget q ((Act.rename p q).play t) = some b := by
  show tget q (match tget p t with | none => t | some b => tput q b (tdel p t)) = some b
  rw [h]
  exact tget_tput_same
theorem moved_from {p q b : By} {t : Tb} (h : tget p t = some b) (hne : p ≠ q) : tget p ((Act.rename p q).play t) = none := by
  show tget p (match tget p t with | none => t | some b => tput q b (tdel p t)) = none
  rw [h]
  show tget p (tput q b (tdel p t)) = none
  rw [tget_tput_other hne]
  exact tget_tdel_same
theorem moved_other {p q r b : By} {t : Tb} (h : tget p t = some b) (hp : r ≠ p) (hq : r ≠ q) : tget r ((Act.rename p q).play t) = tget r t := by
  show tget r (match tget p t with | none => t | some b => tput q b (tdel p t)) = tget r t
  rw [h]
  show tget r (tput q b (tdel p t)) = tget r t
  rw [tget_tput_other hq, tget_tdel_other hp]

theorem i_files (W : World) (b o n c k : Nat) (h : k < n) : (Instr.indexAt 22 (.slice (some ⟨b, o, none⟩) n c) (.int .i64 (k : Int))).run Tryz.prog W = .ok (.pointer (some ⟨b, o + k * 2, none⟩)) W := by
  have h1 : (0 : Int) ≤ (k : Int) := by omega
  have h2 : (k : Int) < (n : Int) := by omega
  simp [go_sem, h1, h2, Tryz.underlying22]
theorem f_path (W : World) (b o : Nat) : (Instr.fieldAt 47 (.pointer (some ⟨b, o, none⟩)) 0).run Tryz.prog W = .ok (.pointer (some ⟨b, o, none⟩)) W := by
  simp [go_sem]
theorem f_data (W : World) (b o : Nat) : (Instr.fieldAt 47 (.pointer (some ⟨b, o, none⟩)) 1).run Tryz.prog W = .ok (.pointer (some ⟨b, o + 1, none⟩)) W := by
  simp [go_sem]
theorem l_str (W : World) (b o : Nat) (s : ByteArray) (h : W.cell? ⟨b, o, none⟩ = some (.string s)) : (Instr.loadAt 9 (.pointer (some ⟨b, o, none⟩))).run Tryz.prog W = .ok (.string s) W := by
  go_simp
theorem l_bytes (W : World) (b o : Nat) (x : Option Addr) (n c : Nat) (h : W.cell? ⟨b, o, none⟩ = some (.slice x n c)) : (Instr.loadAt 33 (.pointer (some ⟨b, o, none⟩))).run Tryz.prog W = .ok (.slice x n c) W := by
  go_simp
theorem n_str (W : World) (x y : By) (b : Bool) (h : (x != y) = b) : (binOp .neq 9 (.string ⟨x.toArray⟩) (.string ⟨y.toArray⟩)).run Tryz.prog W = .ok (.bool b) W := by
  subst h
  simp [go_sem, bne]
theorem g_str (W : World) (x y : By) (s t : Operand) : (eqGuard .neq 9 s t (.string ⟨x.toArray⟩) (.string ⟨y.toArray⟩)).run Tryz.prog W = .ok () W := by
  simp [go_sem]
theorem lt_zero (W : World) (m : Nat) : (binOp .lss 3 (.int .i64 (m : Int)) (.int .i64 0)).run Tryz.prog W = .ok (.bool false) W := by
  have h : decide ((m : Int) < 0) = false := by simp
  simp [go_sem, h]

set_option maxHeartbeats 16000000 in
set_option maxRecDepth 100000 in
theorem Moves_law (w : World) (het : Et w) (hg : 0 < w.heap.size) {vf : Value} {tf : Tb} (hlf : tf.length ≤ lim) (hvf : FilesAt w vf tf) {p q : By} (hlp : p.length ≤ lim) (hlq : q.length ≤ lim) :
    Calls Tryz.prog 4 #[vf, S p, S q] w (HeadPost w) := by
  have Hh := Lib.hid (head_any w het hg)
  have Hvf := Lib.hid hvf
  obtain ⟨xf, cf, rfl, _⟩ := hvf
  have Het := Lib.hid het; clear het
  unfold lim at hlp hlq
  unfold S
  have hp1 : (⟨p.toArray⟩ : ByteArray).size = p.length := rfl
  have hq1 : (⟨q.toArray⟩ : ByteArray).size = q.length := rfl
  go_enter Tryz.func4, Tryz.ntmps4
  go_wp2_with fail
  refine Hh.out.mono ?_
  rintro e w1 ⟨rfl, hB1⟩
  have Hof := Lib.hid (Of_any (base := w.heap.size) 4194304 w1 hB1.size (Hvf.out.below hB1))
  have HB1 := Lib.hid hB1; clear hB1
  go_wp2_with fail
  refine Hof.out.mono ?_
  rintro e w2 (⟨rfl, hB2⟩ | ⟨t0, hgt, s, f, y, rfl, hk, hB2⟩)
  · have HB2 := Lib.hid (below_two HB1.out hB2); clear hB2
    go_wp2_with fail
    go_ret
    exact ⟨rfl, HB2.out⟩
  · have hB02 := below_two HB1.out hB2
    have Hgf := Lib.hid (GreatFiles_any (Hvf.out.below hB02) hlf)
    have HB2 := Lib.hid hB02; have Hk := Lib.hid hk; have Hgt := Lib.hid hgt
    clear hB2 hB02 hk hgt
    go_wp2_with fail
    refine Hgf.out.mono ?_
    rintro e w3 ⟨gf, rfl, hB3, _⟩
    have Hk3 := Lib.hid (Hk.out.keep hB3)
    have HK3 := Lib.hid (K.of_new (base := w.heap.size) (below_two HB2.out hB3) (Nat.le_refl _))
    clear hB3
    cases gf with
    | true =>
      go_wp2_with fail
      go_ret
      exact ⟨rfl, HK3.out.below⟩
    | false =>
      by_cases h1 : (1000 : Int) < (p.length : Int)
      · go_wp2_with fail
        go_ret
        exact ⟨rfl, HK3.out.below⟩
      by_cases h2 : (1000 : Int) < (q.length : Int)
      · go_wp2_with fail
        go_ret
        exact ⟨rfl, HK3.out.below⟩
      have hp3 : p.length ≤ 1000 := by omega
      have hq3 : q.length ≤ 1000 := by omega
      have Hbd := Lib.hid (newSt_bdF (r := 4194304) Hgt.out)
      have Hri : Hid (Rises t0) := Lib.hid Hk3.out.files.2.1
      have hrd := Read_any Hk3.out Hbd.out (Het.out.keep HK3.out hg) hg (p := p) (by unfold maxLen; omega)
      unfold S at hrd
      have Hrd := Lib.hid hrd
      clear hrd
      go_wp2_with fail
      refine Hrd.out.mono ?_
      rintro e w4 ⟨hB4, ⟨b, a4, c4, hb, he, rfl, hrow⟩ | ⟨he, rfl⟩⟩
      · have Hrow := Lib.hid hrow; have Hb := Lib.hid (show tget p t0 = some b from hb)
        have Hth : Hid (thereErr p t0 = 0) := Lib.hid (show readErr p (newSt 4194304 t0) = 0 from he)
        clear hrow hb he
        have Hk4 := Lib.hid (Hk3.out.keep hB4)
        have HK4 := Lib.hid (HK3.out.trans (K.of_new (base := w.heap.size) hB4 HK3.out.size))
        have Hfi := Lib.hid (show Calls _ _ _ _ (FilesPost t0 w4) from Files_any Hk4.out Hbd.out)
        clear hB4 Hrd
        go_wp2_with fail
        refine Hfi.out.mono ?_
        rintro e w5 ⟨was, rfl, hwas, hB5⟩
        obtain ⟨aw, cw, rfl⟩ := hwas.slice
        have Hk5 := Lib.hid (Hk4.out.keep hB5)
        have HK5 := Lib.hid (HK4.out.trans (K.of_new (base := w.heap.size) hB5 HK4.out.size))
        have K45 := Lib.hid (K.of_new (base := w.heap.size) hB5 HK4.out.size)
        have Hwas := Lib.hid hwas
        have hre := Rename_any Hk5.out Hbd.out (Het.out.keep HK5.out hg) hg (p := p) (q := q) (by unfold maxLen; omega) (by unfold maxLen; omega)
        unfold S at hre
        have hon : on (newSt 4194304 t0) = true := rfl
        have hn1 : doN (newSt 4194304 t0) (renameErr p q (newSt 4194304 t0).files) = renameErr p q t0 := by unfold doN; rw [if_pos hon]; rfl
        rw [hn1] at hre
        obtain ⟨n, hn⟩ : ∃ n, n = renameErr p q t0 := ⟨_, rfl⟩
        obtain ⟨st1, hst1⟩ : ∃ st1, st1 = doSt (newSt 4194304 t0) (renameErr p q (newSt 4194304 t0).files) (renamed p q (newSt 4194304 t0)) := ⟨_, rfl⟩
        rw [← hn, ← hst1] at hre
        have Hre := Lib.hid hre; have Hn := Lib.hid hn; have Hst1 := Lib.hid hst1
        have HDp := Lib.hid (fun W => Dir_any p W (by unfold lim; omega))
        have HDq := Lib.hid (fun W => Dir_any q W (by unfold lim; omega))
        unfold S DirRPost S at HDp HDq
        clear hwas hB5 Hfi hre hn hst1 hn1 hon
        obtain ⟨dp, hdp⟩ : ∃ d, d = refDir p := ⟨_, rfl⟩
        obtain ⟨dq, hdq⟩ : ∃ d, d = refDir q := ⟨_, rfl⟩
        rw [← hdp] at HDp
        rw [← hdq] at HDq
        have Hdp := Lib.hid hdp; have Hdq := Lib.hid hdq
        clear hdp hdq
        go_wp2_with fail
        refine Hre.out.mono ?_
        rintro e w6 ⟨rfl, k6, lv6, hok6⟩
        have HK6 := Lib.hid (HK5.out.trans k6); have K56 := Lib.hid k6; have Hok6 := Lib.hid hok6
        clear k6 hok6 Hre
        go_wp2_with fail
        refine (HDp.out _).mono ?_
        rintro e w7 ⟨rfl, hB7⟩
        have HK7 := Lib.hid (HK6.out.trans (K.of_new (base := w.heap.size) hB7 HK6.out.size)); have Hok7 := Lib.hid (Hok6.out.keep hB7)
        have K57 := Lib.hid (K56.out.trans (K.of_new (base := w.heap.size) hB7 HK6.out.size))
        clear hB7 HDp
        go_wp2_with fail
        refine (HDq.out _).mono ?_
        rintro e w8 ⟨rfl, hB8⟩
        have HK8 := Lib.hid (HK7.out.trans (K.of_new (base := w.heap.size) hB8 HK7.out.size)); have Hok8 := Lib.hid (Hok7.out.keep hB8)
        have K58 := Lib.hid (K57.out.trans (K.of_new (base := w.heap.size) hB8 HK7.out.size))
        clear hB8 HDq
        have HPa := Lib.hid (fun W => Path_any q W (by unfold lim; omega))
        unfold S at HPa
        by_cases hne : n = 0
        · obtain rfl : n = 0 := hne
          obtain ⟨_, hq, hd⟩ := rename_zero.1 Hn.out.symm
          rw [← Hdp.out, ← Hdq.out] at hd
          have hst : st1 = bump (renamed p q (newSt 4194304 t0)) := by
            rw [Hst1.out]
            unfold doSt
            rw [if_pos (show on (newSt 4194304 t0) = true from rfl), if_pos (show renameErr p q (newSt 4194304 t0).files = 0 from Hn.out.symm)]
          have hbd1 : Bd st1 401 := by
            rw [Hst1.out]
            exact bd_do (Hbd.out.mono (by omega) (by omega)) fun _ => Hbd.out.acted (by omega) (dirOf p) (a := .rename p q) ⟨by unfold maxLen; omega, by unfold maxLen; omega⟩ (fun p b e2 => by cases e2)
          obtain ⟨F, hF⟩ : ∃ F, F = (Act.rename p q).play t0 := ⟨_, rfl⟩
          have hfi : st1.files = F := by rw [hst, hF]; rfl
          have hdn : st1.down = false := by rw [hst]; rfl
          have hgq : tget q F = some b := by rw [hF]; exact moved_to Hb.out
          have hrq : readErr q st1 = 0 := by
            unfold readErr thereErr
            rw [hdn, hfi, hq, hgq]; rfl
          have hrp : p = q ∨ (¬ p = q ∧ readErr p st1 = 12) := by
            by_cases h : p = q
            · exact .inl h
            · refine .inr ⟨h, ?_⟩
              unfold readErr thereErr
              rw [hdn, hfi, (there_zero Hth.out).1, hF, moved_from Hb.out h]; rfl
          have Hbd1 := Lib.hid hbd1; have Hfi1 := Lib.hid hfi; have Hgq := Lib.hid hgq; have Hrq := Lib.hid hrq; have HF := Lib.hid hF
          rw [hq] at HPa
          clear hq hst hbd1 hfi hdn hgq hrq hF
          go_wp2_with fail
          refine (HPa.out _).mono ?_
          rintro e w9 ⟨rfl, hB9⟩
          have HK9 := Lib.hid (HK8.out.trans (K.of_new (base := w.heap.size) hB9 HK8.out.size)); have Hok9 := Lib.hid (Hok8.out.keep hB9)
          have K59 := Lib.hid (K58.out.trans (K.of_new (base := w.heap.size) hB9 HK8.out.size))
          have hrd := Read_any Hok9.out Hbd1.out (Het.out.keep HK9.out hg) hg (p := q) (by unfold maxLen; omega)
          unfold S at hrd
          have Hrd2 := Lib.hid hrd
          clear hB9 HPa hrd
          go_wp2_with fail
          refine Hrd2.out.mono ?_
          rintro e w10 ⟨hB10, ⟨b', a10, c10, hb', _, rfl, hrow10⟩ | ⟨he10, _⟩⟩
          · rw [Hfi1.out, Hgq.out] at hb'
            obtain rfl : b = b' := Option.some.inj hb'
            have HK10 := Lib.hid (HK9.out.trans (K.of_new (base := w.heap.size) hB10 HK9.out.size)); have Hok10 := Lib.hid (Hok9.out.keep hB10)
            have K5x := Lib.hid (K59.out.trans (K.of_new (base := w.heap.size) hB10 HK9.out.size))
            have Hrow10 := Lib.hid hrow10
            have hrd := Read_any Hok10.out Hbd1.out (Het.out.keep HK10.out hg) hg (p := p) (by unfold maxLen; omega)
            unfold S at hrd
            have Hrd3 := Lib.hid hrd
            clear hB10 hrd hb' hrow10 Hrd2
            have hlast : Calls Tryz.prog 16 #[.pointer (some ⟨s, 0, none⟩), .string ⟨p.toArray⟩] w10 fun e w' => ∃ (vr : Value) (er : Int), e = .returned (.tuple #[vr, .int .i64 er]) ∧ ((p == q) = true ∨ ((p == q) = false ∧ er = 12)) ∧ Below w10.heap.size w10 w' := by
              refine Hrd3.out.mono ?_
              rintro e w' ⟨hB, ⟨b', a, c, hb', he, rfl, _⟩ | ⟨he, rfl⟩⟩
              · refine ⟨_, _, rfl, ?_, hB⟩
                rcases hrp with h | ⟨h, h2⟩
                · exact .inl (by simpa using h)
                · rw [h2] at he; cases he
              · refine ⟨_, _, rfl, ?_, hB⟩
                rcases hrp with h | ⟨h, h2⟩
                · exact .inl (by simpa using h)
                · exact .inr ⟨by simpa using h, h2⟩
            have Hlast := Lib.hid hlast
            clear hlast Hrd3 hrp
            go_wp2_with fail
            refine Hlast.out.mono ?_
            rintro e w11 ⟨vr, er, rfl, hpq, hB11⟩
            have HK11 := Lib.hid (HK10.out.trans (K.of_new (base := w.heap.size) hB11 HK10.out.size)); have Hok11 := Lib.hid (Hok10.out.keep hB11)
            have K5y := Lib.hid (K5x.out.trans (K.of_new (base := w.heap.size) hB11 HK10.out.size))
            have K1y := Lib.hid (K.of_new (base := w.heap.size) hB11 HK10.out.size)
            have hfi2 := Files_any Hok11.out Hbd1.out
            rw [Hfi1.out] at hfi2
            have Hfi2 := Lib.hid hfi2
            clear hB11 Hlast hfi2
            go_wp2_with fail
            refine Hfi2.out.mono ?_
            rintro e w12 ⟨now, rfl, hnow, hB12⟩
            obtain ⟨an, cn, rfl⟩ := hnow.slice
            have k12 : K w.heap.size w11 w12 := K.of_new hB12 HK11.out.size
            have HK12 := Lib.hid (HK11.out.trans k12)
            have hwv := (Hwas.out.keep (K5y.out.trans k12)).v
            have hnv := hnow.v
            have Hwv := Lib.hid hwv; have Hnv := Lib.hid hnv
            have Hr12 := Lib.hid ((Hrow10.out.keep K1y.out).keep k12)
            have Hr4 := Lib.hid ((Hrow.out.keep K45.out).keep (K5y.out.trans k12))
            have hFl : F.length ≤ 1000000 := by have := Hbd1.out.files; rw [Hfi1.out] at this; omega
            have htl : t0.length ≤ 400 := Hgt.out.1
            clear hB12 k12 hwv hnv hnow Hfi2
            go_wp2_with fail
            go_loopw [22] (fun i wr => ∃ k : Nat, k ≤ t0.length ∧ i = .int .i64 k ∧ Below w12.heap.size w12 wr) (fun i _ => t0.length - (intOf i).toNat)
            case atStart => exact ⟨0, Nat.zero_le _, rfl, Below.refl _ _⟩
            case round =>
              obtain ⟨k, hk, rfl, hB⟩ := hrel
              by_cases hlt : k < t0.length
              · obtain ⟨z, hz⟩ : ∃ z, t0[k]? = some z := ⟨_, List.getElem?_eq_getElem hlt⟩
                obtain ⟨xw, cw', hvw, hxw⟩ := Hwv.out
                simp only [Value.slice.injEq] at hvw
                obtain ⟨rfl, _, hcw⟩ := hvw
                clear hcw
                obtain ⟨bw, ow, rfl, vw, w0, w1', w2'⟩ := hxw k z hz
                obtain ⟨va, vc, rfl⟩ := w2'.slice
                have hlz : z.1.length ≤ maxLen := (Hgt.out.2 z (List.mem_of_getElem? hz)).2.2
                have hgz : tget z.1 t0 = some z.2 := tget_of_mem Hri.out (List.mem_of_getElem? hz)
                replace w0 := cell_below' hB w0
                replace w1' := cell_below' hB w1'
                rw [add_at] at w1'
                unfold S at w0
                have hfd := Find_any (Hnv.out.below hB) hFl z.1
                unfold S at hfd
                have Hfd := Lib.hid hfd; have HBr := Lib.hid hB; have Hgz := Lib.hid hgz
                clear hfd hz hgz
                have C0 : Hid (∀ W, Below wr.drew.heap.size wr.drew W → W.cell? ⟨bw, ow + k * 2, none⟩ = some (.string ⟨z.1.toArray⟩)) := Lib.hid fun W h => cell_below' h (cell_below' ((Below.refl _ _).drew) w0)
                have C1 : Hid (∀ W, Below wr.drew.heap.size wr.drew W → W.cell? ⟨bw, ow + k * 2 + 1, none⟩ = some (.slice va z.2.length vc)) := Lib.hid fun W h => cell_below' h (cell_below' ((Below.refl _ _).drew) w1')
                have S1 : Hid (∀ W, Below wr.drew.heap.size wr.drew W → (convert 33 9 (.slice va z.2.length vc)).run Tryz.prog W = .ok (.string ⟨z.2.toArray⟩) W) := Lib.hid fun W h => str_of ((w2'.below (hB.trans ((Below.refl _ _).drew.mono hB.size))).below h)
                clear w1' w2'
                by_cases zp : z.1 = p
                · have E2 : Hid ((z.1 != p) = false) := Lib.hid (by simpa using zp)
                  clear zp hB
                  go_wp2_with fail
                  refine Hfd.out.mono ?_
                  intro e w' hh
                  rw [hh.1, ← hh.2]
                  clear hh w' Hfd w0
                  go_wp2_with fail
                  refine AnyB.start (by kernel_rfl) ?_
                  refine AnyB.take 0 (.slice (some ⟨bw, ow, none⟩) t0.length cw) rfl (by kernel_rfl) (by kernel_rfl) (by kernel_rfl) (fun _ _ _ h => h) (by kernel_rfl) (fun W hW => by kernel_rfl) ?_
                  refine AnyB.take 1 (.int .i64 (k : Int)) rfl (by kernel_rfl) (by kernel_rfl) (by kernel_rfl) (fun _ _ _ h => h) (by kernel_rfl) (fun W hW => by kernel_rfl) ?_
                  refine AnyB.take 2 (.pointer (some ⟨bw, ow + k * 2, none⟩)) rfl (by kernel_rfl) (by kernel_rfl) (by kernel_rfl) (fun _ _ _ h => h) (by kernel_rfl) (fun W hW => y_index rfl (by kernel_rfl) (by kernel_rfl) (i_files W bw ow t0.length cw k hlt)) ?_
                  refine AnyB.take 3 (.pointer (some ⟨bw, ow + k * 2, none⟩)) rfl (by kernel_rfl) (by kernel_rfl) (by kernel_rfl) (fun _ _ _ h => h) (by kernel_rfl) (fun W hW => y_field rfl (by kernel_rfl) (f_path W bw (ow + k * 2))) ?_
                  refine AnyB.take 4 (.string ⟨z.1.toArray⟩) rfl (by kernel_rfl) (by kernel_rfl) (by kernel_rfl) (fun _ _ _ h => h) (by kernel_rfl) (fun W hW => y_load rfl (by kernel_rfl) (l_str W bw (ow + k * 2) _ (C0.out W hW))) ?_
                  refine AnyB.take 5 (.string ⟨p.toArray⟩) rfl (by kernel_rfl) (by kernel_rfl) (by kernel_rfl) (fun _ _ _ h => h) (by kernel_rfl) (fun W hW => by kernel_rfl) ?_
                  refine AnyB.take 6 (.bool false) rfl (by kernel_rfl) (by kernel_rfl) (by kernel_rfl) (fun _ _ _ h => h) (by kernel_rfl) (fun W hW => y_bin rfl (by kernel_rfl) (by kernel_rfl) (g_str W z.1 p _ _) (n_str W z.1 p _ E2.out)) ?_
                  refine AnyB.take 7 (.bool false) rfl (by kernel_rfl) (by kernel_rfl) (by kernel_rfl) (fun _ _ _ h => h) (by kernel_rfl) (fun W hW => by kernel_rfl) ?_
                  refine AnyB.skip 8 rfl (by kernel_rfl) (by kernel_rfl) (by kernel_rfl) (fun _ _ _ h => h) (by kernel_rfl) ?_
                  refine AnyB.skip 9 rfl (by kernel_rfl) (by kernel_rfl) (by kernel_rfl) (fun _ _ _ h => h) (by kernel_rfl) ?_
                  refine AnyB.skip 10 rfl (by kernel_rfl) (by kernel_rfl) (by kernel_rfl) (fun _ _ _ h => h) (by kernel_rfl) ?_
                  refine AnyB.skip 11 rfl (by kernel_rfl) (by kernel_rfl) (by kernel_rfl) (fun _ _ _ h => h) (by kernel_rfl) ?_
                  refine AnyB.skip 12 rfl (by kernel_rfl) (by kernel_rfl) (by kernel_rfl) (fun _ _ _ h => h) (by kernel_rfl) ?_
                  refine AnyB.skip 13 rfl (by kernel_rfl) (by kernel_rfl) (by kernel_rfl) (fun _ _ _ h => h) (by kernel_rfl) ?_
                  refine AnyB.skip 14 rfl (by kernel_rfl) (by kernel_rfl) (by kernel_rfl) (fun _ _ _ h => h) (by kernel_rfl) ?_
                  refine AnyB.take 15 (.bool false) rfl (by kernel_rfl) (by kernel_rfl) (by kernel_rfl) (fun _ _ _ h => h) (by kernel_rfl) (fun W hW => by kernel_rfl) ?_
                  refine AnyB.take 16 (.bool false) rfl (by kernel_rfl) (by kernel_rfl) (by kernel_rfl) (fun _ _ _ h => h) (by kernel_rfl) (fun W hW => by kernel_rfl) ?_
                  refine AnyB.skip 17 rfl (by kernel_rfl) (by kernel_rfl) (by kernel_rfl) (fun _ _ _ h => h) (by kernel_rfl) ?_
                  refine AnyB.skip 18 rfl (by kernel_rfl) (by kernel_rfl) (by kernel_rfl) (fun _ _ _ h => h) (by kernel_rfl) ?_
                  refine AnyB.skip 19 rfl (by kernel_rfl) (by kernel_rfl) (by kernel_rfl) (fun _ _ _ h => h) (by kernel_rfl) ?_
                  refine AnyB.skip 20 rfl (by kernel_rfl) (by kernel_rfl) (by kernel_rfl) (fun _ _ _ h => h) (by kernel_rfl) ?_
                  refine AnyB.skip 21 rfl (by kernel_rfl) (by kernel_rfl) (by kernel_rfl) (fun _ _ _ h => h) (by kernel_rfl) ?_
                  refine AnyB.skip 22 rfl (by kernel_rfl) (by kernel_rfl) (by kernel_rfl) (fun _ _ _ h => h) (by kernel_rfl) ?_
                  refine AnyB.skip 23 rfl (by kernel_rfl) (by kernel_rfl) (by kernel_rfl) (fun _ _ _ h => h) (by kernel_rfl) ?_
                  refine AnyB.skip 24 rfl (by kernel_rfl) (by kernel_rfl) (by kernel_rfl) (fun _ _ _ h => h) (by kernel_rfl) ?_
                  refine AnyB.skip 25 rfl (by kernel_rfl) (by kernel_rfl) (by kernel_rfl) (fun _ _ _ h => h) (by kernel_rfl) ?_
                  refine AnyB.skip 26 rfl (by kernel_rfl) (by kernel_rfl) (by kernel_rfl) (fun _ _ _ h => h) (by kernel_rfl) ?_
                  refine AnyB.skip 27 rfl (by kernel_rfl) (by kernel_rfl) (by kernel_rfl) (fun _ _ _ h => h) (by kernel_rfl) ?_
                  refine AnyB.skip 28 rfl (by kernel_rfl) (by kernel_rfl) (by kernel_rfl) (fun _ _ _ h => h) (by kernel_rfl) ?_
                  refine AnyB.skip 29 rfl (by kernel_rfl) (by kernel_rfl) (by kernel_rfl) (fun _ _ _ h => h) (by kernel_rfl) ?_
                  refine AnyB.skip 30 rfl (by kernel_rfl) (by kernel_rfl) (by kernel_rfl) (fun _ _ _ h => h) (by kernel_rfl) ?_
                  refine AnyB.skip 31 rfl (by kernel_rfl) (by kernel_rfl) (by kernel_rfl) (fun _ _ _ h => h) (by kernel_rfl) ?_
                  refine AnyB.skip 32 rfl (by kernel_rfl) (by kernel_rfl) (by kernel_rfl) (fun _ _ _ h => h) (by kernel_rfl) ?_
                  refine AnyB.skip 33 rfl (by kernel_rfl) (by kernel_rfl) (by kernel_rfl) (fun _ _ _ h => h) (by kernel_rfl) ?_
                  refine AnyB.take 34 (.bool false) rfl (by kernel_rfl) (by kernel_rfl) (by kernel_rfl) (fun _ _ _ h => h) (by kernel_rfl) (fun W hW => by kernel_rfl) ?_
                  refine AnyB.done _ (by kernel_rfl) ?_
                  go_simp
                  go_wp2
                  go_roundw
                  case rel => exact ⟨k + 1, by omega, by go_num, HBr.out.trans ((Below.refl _ _).drew.mono HBr.out.size)⟩
                  case measure => simp [intOf]; omega
                · have E2 : Hid ((z.1 != p) = true) := Lib.hid (by simpa using zp)
                  by_cases zq : z.1 = q
                  · have E4 : Hid ((z.1 != q) = false) := Lib.hid (by simpa using zq)
                    clear zp zq hB
                    go_wp2_with fail
                    refine Hfd.out.mono ?_
                    intro e w' hh
                    rw [hh.1, ← hh.2]
                    clear hh w' Hfd w0
                    go_wp2_with fail
                    refine AnyB.start (by kernel_rfl) ?_
                    refine AnyB.take 0 (.slice (some ⟨bw, ow, none⟩) t0.length cw) rfl (by kernel_rfl) (by kernel_rfl) (by kernel_rfl) (fun _ _ _ h => h) (by kernel_rfl) (fun W hW => by kernel_rfl) ?_
                    refine AnyB.take 1 (.int .i64 (k : Int)) rfl (by kernel_rfl) (by kernel_rfl) (by kernel_rfl) (fun _ _ _ h => h) (by kernel_rfl) (fun W hW => by kernel_rfl) ?_
                    refine AnyB.take 2 (.pointer (some ⟨bw, ow + k * 2, none⟩)) rfl (by kernel_rfl) (by kernel_rfl) (by kernel_rfl) (fun _ _ _ h => h) (by kernel_rfl) (fun W hW => y_index rfl (by kernel_rfl) (by kernel_rfl) (i_files W bw ow t0.length cw k hlt)) ?_
                    refine AnyB.take 3 (.pointer (some ⟨bw, ow + k * 2, none⟩)) rfl (by kernel_rfl) (by kernel_rfl) (by kernel_rfl) (fun _ _ _ h => h) (by kernel_rfl) (fun W hW => y_field rfl (by kernel_rfl) (f_path W bw (ow + k * 2))) ?_
                    refine AnyB.take 4 (.string ⟨z.1.toArray⟩) rfl (by kernel_rfl) (by kernel_rfl) (by kernel_rfl) (fun _ _ _ h => h) (by kernel_rfl) (fun W hW => y_load rfl (by kernel_rfl) (l_str W bw (ow + k * 2) _ (C0.out W hW))) ?_
                    refine AnyB.take 5 (.string ⟨p.toArray⟩) rfl (by kernel_rfl) (by kernel_rfl) (by kernel_rfl) (fun _ _ _ h => h) (by kernel_rfl) (fun W hW => by kernel_rfl) ?_
                    refine AnyB.take 6 (.bool true) rfl (by kernel_rfl) (by kernel_rfl) (by kernel_rfl) (fun _ _ _ h => h) (by kernel_rfl) (fun W hW => y_bin rfl (by kernel_rfl) (by kernel_rfl) (g_str W z.1 p _ _) (n_str W z.1 p _ E2.out)) ?_
                    refine AnyB.take 7 (.bool true) rfl (by kernel_rfl) (by kernel_rfl) (by kernel_rfl) (fun _ _ _ h => h) (by kernel_rfl) (fun W hW => by kernel_rfl) ?_
                    refine AnyB.take 8 (.slice (some ⟨bw, ow, none⟩) t0.length cw) rfl (by kernel_rfl) (by kernel_rfl) (by kernel_rfl) (fun _ _ _ h => h) (by kernel_rfl) (fun W hW => by kernel_rfl) ?_
                    refine AnyB.take 9 (.int .i64 (k : Int)) rfl (by kernel_rfl) (by kernel_rfl) (by kernel_rfl) (fun _ _ _ h => h) (by kernel_rfl) (fun W hW => by kernel_rfl) ?_
                    refine AnyB.take 10 (.pointer (some ⟨bw, ow + k * 2, none⟩)) rfl (by kernel_rfl) (by kernel_rfl) (by kernel_rfl) (fun _ _ _ h => h) (by kernel_rfl) (fun W hW => y_index rfl (by kernel_rfl) (by kernel_rfl) (i_files W bw ow t0.length cw k hlt)) ?_
                    refine AnyB.take 11 (.pointer (some ⟨bw, ow + k * 2, none⟩)) rfl (by kernel_rfl) (by kernel_rfl) (by kernel_rfl) (fun _ _ _ h => h) (by kernel_rfl) (fun W hW => y_field rfl (by kernel_rfl) (f_path W bw (ow + k * 2))) ?_
                    refine AnyB.take 12 (.string ⟨z.1.toArray⟩) rfl (by kernel_rfl) (by kernel_rfl) (by kernel_rfl) (fun _ _ _ h => h) (by kernel_rfl) (fun W hW => y_load rfl (by kernel_rfl) (l_str W bw (ow + k * 2) _ (C0.out W hW))) ?_
                    refine AnyB.take 13 (.string ⟨q.toArray⟩) rfl (by kernel_rfl) (by kernel_rfl) (by kernel_rfl) (fun _ _ _ h => h) (by kernel_rfl) (fun W hW => by kernel_rfl) ?_
                    refine AnyB.take 14 (.bool false) rfl (by kernel_rfl) (by kernel_rfl) (by kernel_rfl) (fun _ _ _ h => h) (by kernel_rfl) (fun W hW => y_bin rfl (by kernel_rfl) (by kernel_rfl) (g_str W z.1 q _ _) (n_str W z.1 q _ E4.out)) ?_
                    refine AnyB.take 15 (.bool false) rfl (by kernel_rfl) (by kernel_rfl) (by kernel_rfl) (fun _ _ _ h => h) (by kernel_rfl) (fun W hW => by kernel_rfl) ?_
                    refine AnyB.take 16 (.bool false) rfl (by kernel_rfl) (by kernel_rfl) (by kernel_rfl) (fun _ _ _ h => h) (by kernel_rfl) (fun W hW => by kernel_rfl) ?_
                    refine AnyB.skip 17 rfl (by kernel_rfl) (by kernel_rfl) (by kernel_rfl) (fun _ _ _ h => h) (by kernel_rfl) ?_
                    refine AnyB.skip 18 rfl (by kernel_rfl) (by kernel_rfl) (by kernel_rfl) (fun _ _ _ h => h) (by kernel_rfl) ?_
                    refine AnyB.skip 19 rfl (by kernel_rfl) (by kernel_rfl) (by kernel_rfl) (fun _ _ _ h => h) (by kernel_rfl) ?_
                    refine AnyB.skip 20 rfl (by kernel_rfl) (by kernel_rfl) (by kernel_rfl) (fun _ _ _ h => h) (by kernel_rfl) ?_
                    refine AnyB.skip 21 rfl (by kernel_rfl) (by kernel_rfl) (by kernel_rfl) (fun _ _ _ h => h) (by kernel_rfl) ?_
                    refine AnyB.skip 22 rfl (by kernel_rfl) (by kernel_rfl) (by kernel_rfl) (fun _ _ _ h => h) (by kernel_rfl) ?_
                    refine AnyB.skip 23 rfl (by kernel_rfl) (by kernel_rfl) (by kernel_rfl) (fun _ _ _ h => h) (by kernel_rfl) ?_
                    refine AnyB.skip 24 rfl (by kernel_rfl) (by kernel_rfl) (by kernel_rfl) (fun _ _ _ h => h) (by kernel_rfl) ?_
                    refine AnyB.skip 25 rfl (by kernel_rfl) (by kernel_rfl) (by kernel_rfl) (fun _ _ _ h => h) (by kernel_rfl) ?_
                    refine AnyB.skip 26 rfl (by kernel_rfl) (by kernel_rfl) (by kernel_rfl) (fun _ _ _ h => h) (by kernel_rfl) ?_
                    refine AnyB.skip 27 rfl (by kernel_rfl) (by kernel_rfl) (by kernel_rfl) (fun _ _ _ h => h) (by kernel_rfl) ?_
                    refine AnyB.skip 28 rfl (by kernel_rfl) (by kernel_rfl) (by kernel_rfl) (fun _ _ _ h => h) (by kernel_rfl) ?_
                    refine AnyB.skip 29 rfl (by kernel_rfl) (by kernel_rfl) (by kernel_rfl) (fun _ _ _ h => h) (by kernel_rfl) ?_
                    refine AnyB.skip 30 rfl (by kernel_rfl) (by kernel_rfl) (by kernel_rfl) (fun _ _ _ h => h) (by kernel_rfl) ?_
                    refine AnyB.skip 31 rfl (by kernel_rfl) (by kernel_rfl) (by kernel_rfl) (fun _ _ _ h => h) (by kernel_rfl) ?_
                    refine AnyB.skip 32 rfl (by kernel_rfl) (by kernel_rfl) (by kernel_rfl) (fun _ _ _ h => h) (by kernel_rfl) ?_
                    refine AnyB.skip 33 rfl (by kernel_rfl) (by kernel_rfl) (by kernel_rfl) (fun _ _ _ h => h) (by kernel_rfl) ?_
                    refine AnyB.take 34 (.bool false) rfl (by kernel_rfl) (by kernel_rfl) (by kernel_rfl) (fun _ _ _ h => h) (by kernel_rfl) (fun W hW => by kernel_rfl) ?_
                    refine AnyB.done _ (by kernel_rfl) ?_
                    go_simp
                    go_wp2
                    go_roundw
                    case rel => exact ⟨k + 1, by omega, by go_num, HBr.out.trans ((Below.refl _ _).drew.mono HBr.out.size)⟩
                    case measure => simp [intOf]; omega
                  · have E4 : Hid ((z.1 != q) = true) := Lib.hid (by simpa using zq)
                    obtain ⟨m, hm1, hm2⟩ := findI_get (t := F) (p := z.1) (b := z.2) (by rw [HF.out, moved_other Hb.out zp zq]; exact Hgz.out)
                    obtain ⟨xn, cn', hvn, hxn⟩ := Hnv.out
                    simp only [Value.slice.injEq] at hvn
                    obtain ⟨rfl, _, hcn⟩ := hvn
                    clear hcn
                    obtain ⟨bn, on', rfl, vn, n0, n1, n2⟩ := hxn m _ hm2
                    obtain ⟨vna, vnc, rfl⟩ := n2.slice
                    replace n1 := cell_below' hB n1
                    rw [add_at] at n1
                    have C2 : Hid (∀ W, Below wr.drew.heap.size wr.drew W → W.cell? ⟨bn, on' + m * 2 + 1, none⟩ = some (.slice vna z.2.length vnc)) := Lib.hid fun W h => cell_below' h (cell_below' ((Below.refl _ _).drew) n1)
                    have S2 : Hid (∀ W, Below wr.drew.heap.size wr.drew W → (convert 33 9 (.slice vna z.2.length vnc)).run Tryz.prog W = .ok (.string ⟨z.2.toArray⟩) W) := Lib.hid fun W h => str_of ((n2.below (hB.trans ((Below.refl _ _).drew.mono hB.size))).below h)
                    rw [hm1] at Hfd
                    have m1 : m < F.length := (List.getElem?_eq_some_iff.1 hm2).1
                    clear zp zq hB hm1 hm2 n0 n1 n2
                    go_wp2_with fail
                    refine Hfd.out.mono ?_
                    intro e w' hh
                    rw [hh.1, ← hh.2]
                    clear hh w' Hfd w0
                    go_wp2_with fail
                    refine AnyB.start (by kernel_rfl) ?_
                    refine AnyB.take 0 (.slice (some ⟨bw, ow, none⟩) t0.length cw) rfl (by kernel_rfl) (by kernel_rfl) (by kernel_rfl) (fun _ _ _ h => h) (by kernel_rfl) (fun W hW => by kernel_rfl) ?_
                    refine AnyB.take 1 (.int .i64 (k : Int)) rfl (by kernel_rfl) (by kernel_rfl) (by kernel_rfl) (fun _ _ _ h => h) (by kernel_rfl) (fun W hW => by kernel_rfl) ?_
                    refine AnyB.take 2 (.pointer (some ⟨bw, ow + k * 2, none⟩)) rfl (by kernel_rfl) (by kernel_rfl) (by kernel_rfl) (fun _ _ _ h => h) (by kernel_rfl) (fun W hW => y_index rfl (by kernel_rfl) (by kernel_rfl) (i_files W bw ow t0.length cw k hlt)) ?_
                    refine AnyB.take 3 (.pointer (some ⟨bw, ow + k * 2, none⟩)) rfl (by kernel_rfl) (by kernel_rfl) (by kernel_rfl) (fun _ _ _ h => h) (by kernel_rfl) (fun W hW => y_field rfl (by kernel_rfl) (f_path W bw (ow + k * 2))) ?_
                    refine AnyB.take 4 (.string ⟨z.1.toArray⟩) rfl (by kernel_rfl) (by kernel_rfl) (by kernel_rfl) (fun _ _ _ h => h) (by kernel_rfl) (fun W hW => y_load rfl (by kernel_rfl) (l_str W bw (ow + k * 2) _ (C0.out W hW))) ?_
                    refine AnyB.take 5 (.string ⟨p.toArray⟩) rfl (by kernel_rfl) (by kernel_rfl) (by kernel_rfl) (fun _ _ _ h => h) (by kernel_rfl) (fun W hW => by kernel_rfl) ?_
                    refine AnyB.take 6 (.bool true) rfl (by kernel_rfl) (by kernel_rfl) (by kernel_rfl) (fun _ _ _ h => h) (by kernel_rfl) (fun W hW => y_bin rfl (by kernel_rfl) (by kernel_rfl) (g_str W z.1 p _ _) (n_str W z.1 p _ E2.out)) ?_
                    refine AnyB.take 7 (.bool true) rfl (by kernel_rfl) (by kernel_rfl) (by kernel_rfl) (fun _ _ _ h => h) (by kernel_rfl) (fun W hW => by kernel_rfl) ?_
                    refine AnyB.take 8 (.slice (some ⟨bw, ow, none⟩) t0.length cw) rfl (by kernel_rfl) (by kernel_rfl) (by kernel_rfl) (fun _ _ _ h => h) (by kernel_rfl) (fun W hW => by kernel_rfl) ?_
                    refine AnyB.take 9 (.int .i64 (k : Int)) rfl (by kernel_rfl) (by kernel_rfl) (by kernel_rfl) (fun _ _ _ h => h) (by kernel_rfl) (fun W hW => by kernel_rfl) ?_
                    refine AnyB.take 10 (.pointer (some ⟨bw, ow + k * 2, none⟩)) rfl (by kernel_rfl) (by kernel_rfl) (by kernel_rfl) (fun _ _ _ h => h) (by kernel_rfl) (fun W hW => y_index rfl (by kernel_rfl) (by kernel_rfl) (i_files W bw ow t0.length cw k hlt)) ?_
                    refine AnyB.take 11 (.pointer (some ⟨bw, ow + k * 2, none⟩)) rfl (by kernel_rfl) (by kernel_rfl) (by kernel_rfl) (fun _ _ _ h => h) (by kernel_rfl) (fun W hW => y_field rfl (by kernel_rfl) (f_path W bw (ow + k * 2))) ?_
                    refine AnyB.take 12 (.string ⟨z.1.toArray⟩) rfl (by kernel_rfl) (by kernel_rfl) (by kernel_rfl) (fun _ _ _ h => h) (by kernel_rfl) (fun W hW => y_load rfl (by kernel_rfl) (l_str W bw (ow + k * 2) _ (C0.out W hW))) ?_
                    refine AnyB.take 13 (.string ⟨q.toArray⟩) rfl (by kernel_rfl) (by kernel_rfl) (by kernel_rfl) (fun _ _ _ h => h) (by kernel_rfl) (fun W hW => by kernel_rfl) ?_
                    refine AnyB.take 14 (.bool true) rfl (by kernel_rfl) (by kernel_rfl) (by kernel_rfl) (fun _ _ _ h => h) (by kernel_rfl) (fun W hW => y_bin rfl (by kernel_rfl) (by kernel_rfl) (g_str W z.1 q _ _) (n_str W z.1 q _ E4.out)) ?_
                    refine AnyB.take 15 (.bool true) rfl (by kernel_rfl) (by kernel_rfl) (by kernel_rfl) (fun _ _ _ h => h) (by kernel_rfl) (fun W hW => by kernel_rfl) ?_
                    refine AnyB.take 16 (.bool true) rfl (by kernel_rfl) (by kernel_rfl) (by kernel_rfl) (fun _ _ _ h => h) (by kernel_rfl) (fun W hW => by kernel_rfl) ?_
                    refine AnyB.take 17 (.int .i64 (m : Int)) rfl (by kernel_rfl) (by kernel_rfl) (by kernel_rfl) (fun _ _ _ h => h) (by kernel_rfl) (fun W hW => by kernel_rfl) ?_
                    refine AnyB.take 18 (.bool false) rfl (by kernel_rfl) (by kernel_rfl) (by kernel_rfl) (fun _ _ _ h => h) (by kernel_rfl) (fun W hW => y_bin (x := .int .i64 (m : Int)) (y := .int .i64 0) rfl (by kernel_rfl) (by kernel_rfl) rfl (lt_zero W m)) ?_
                    refine AnyB.take 19 (.bool false) rfl (by kernel_rfl) (by kernel_rfl) (by kernel_rfl) (fun _ _ _ h => h) (by kernel_rfl) (fun W hW => by kernel_rfl) ?_
                    refine AnyB.take 20 (.slice (some ⟨bn, on', none⟩) F.length cn) rfl (by kernel_rfl) (by kernel_rfl) (by kernel_rfl) (fun _ _ _ h => h) (by kernel_rfl) (fun W hW => by kernel_rfl) ?_
                    refine AnyB.take 21 (.int .i64 (m : Int)) rfl (by kernel_rfl) (by kernel_rfl) (by kernel_rfl) (fun _ _ _ h => h) (by kernel_rfl) (fun W hW => by kernel_rfl) ?_
                    refine AnyB.take 22 (.pointer (some ⟨bn, on' + m * 2, none⟩)) rfl (by kernel_rfl) (by kernel_rfl) (by kernel_rfl) (fun _ _ _ h => h) (by kernel_rfl) (fun W hW => y_index rfl (by kernel_rfl) (by kernel_rfl) (i_files W bn on' F.length cn m m1)) ?_
                    refine AnyB.take 23 (.pointer (some ⟨bn, on' + m * 2 + 1, none⟩)) rfl (by kernel_rfl) (by kernel_rfl) (by kernel_rfl) (fun _ _ _ h => h) (by kernel_rfl) (fun W hW => y_field rfl (by kernel_rfl) (f_data W bn (on' + m * 2))) ?_
                    refine AnyB.take 24 (.slice vna z.2.length vnc) rfl (by kernel_rfl) (by kernel_rfl) (by kernel_rfl) (fun _ _ _ h => h) (by kernel_rfl) (fun W hW => y_load rfl (by kernel_rfl) (l_bytes W bn (on' + m * 2 + 1) vna z.2.length vnc (C2.out W hW))) ?_
                    refine AnyB.take 25 (.string ⟨z.2.toArray⟩) rfl (by kernel_rfl) (by kernel_rfl) (by kernel_rfl) (fun _ _ _ h => h) (by kernel_rfl) (fun W hW => y_conv rfl (by kernel_rfl) (S2.out W hW)) ?_
                    refine AnyB.take 26 (.slice (some ⟨bw, ow, none⟩) t0.length cw) rfl (by kernel_rfl) (by kernel_rfl) (by kernel_rfl) (fun _ _ _ h => h) (by kernel_rfl) (fun W hW => by kernel_rfl) ?_
                    refine AnyB.take 27 (.int .i64 (k : Int)) rfl (by kernel_rfl) (by kernel_rfl) (by kernel_rfl) (fun _ _ _ h => h) (by kernel_rfl) (fun W hW => by kernel_rfl) ?_
                    refine AnyB.take 28 (.pointer (some ⟨bw, ow + k * 2, none⟩)) rfl (by kernel_rfl) (by kernel_rfl) (by kernel_rfl) (fun _ _ _ h => h) (by kernel_rfl) (fun W hW => y_index rfl (by kernel_rfl) (by kernel_rfl) (i_files W bw ow t0.length cw k hlt)) ?_
                    refine AnyB.take 29 (.pointer (some ⟨bw, ow + k * 2 + 1, none⟩)) rfl (by kernel_rfl) (by kernel_rfl) (by kernel_rfl) (fun _ _ _ h => h) (by kernel_rfl) (fun W hW => y_field rfl (by kernel_rfl) (f_data W bw (ow + k * 2))) ?_
                    refine AnyB.take 30 (.slice va z.2.length vc) rfl (by kernel_rfl) (by kernel_rfl) (by kernel_rfl) (fun _ _ _ h => h) (by kernel_rfl) (fun W hW => y_load rfl (by kernel_rfl) (l_bytes W bw (ow + k * 2 + 1) va z.2.length vc (C1.out W hW))) ?_
                    refine AnyB.take 31 (.string ⟨z.2.toArray⟩) rfl (by kernel_rfl) (by kernel_rfl) (by kernel_rfl) (fun _ _ _ h => h) (by kernel_rfl) (fun W hW => y_conv rfl (by kernel_rfl) (S1.out W hW)) ?_
                    refine AnyB.take 32 (.bool false) rfl (by kernel_rfl) (by kernel_rfl) (by kernel_rfl) (fun _ _ _ h => h) (by kernel_rfl) (fun W hW => y_bin rfl (by kernel_rfl) (by kernel_rfl) (g_str W z.2 z.2 _ _) (n_str W z.2 z.2 false (by simp))) ?_
                    refine AnyB.take 33 (.bool false) rfl (by kernel_rfl) (by kernel_rfl) (by kernel_rfl) (fun _ _ _ h => h) (by kernel_rfl) (fun W hW => by kernel_rfl) ?_
                    refine AnyB.take 34 (.bool false) rfl (by kernel_rfl) (by kernel_rfl) (by kernel_rfl) (fun _ _ _ h => h) (by kernel_rfl) (fun W hW => by kernel_rfl) ?_
                    refine AnyB.done _ (by kernel_rfl) ?_
                    go_simp
                    go_wp2
                    go_roundw
                    case rel => exact ⟨k + 1, by omega, by go_num, HBr.out.trans ((Below.refl _ _).drew.mono HBr.out.size)⟩
                    case measure => simp [intOf]; omega
              · obtain rfl : k = t0.length := by omega
                have hK : K w.heap.size w12 wr := K.of_new hB HK12.out.size
                have HKx := Lib.hid (HK12.out.trans hK)
                have s1 := str_of (Hr12.out.keep hK).bytes
                have s2 := str_of (Hr4.out.keep hK).bytes
                clear hK hB
                rcases hpq with h | ⟨h, rfl⟩
                all_goals
                  go_wp2
                  go_ret
                  exact ⟨rfl, HKx.out.below⟩
          · exact absurd Hrq.out he10
        · have hq2 : pathB q = false ∨ (pathB q = true ∧ (dp == dq) = false) := by
            cases hq : pathB q with
            | false => exact .inl rfl
            | true =>
              refine .inr ⟨rfl, ?_⟩
              cases hd : (dp == dq) with
              | false => rfl
              | true => exact absurd (Hn.out.trans (rename_zero.2 ⟨Hth.out, hq, by rw [← Hdp.out, ← Hdq.out]; exact hd⟩)) hne
          rcases hq2 with hq | ⟨hq, hd⟩
          all_goals
            rw [hq] at HPa
            clear hq
            have hst : st1 = newSt 4194304 t0 := by
              rw [Hst1.out]
              unfold doSt
              rw [if_pos (show on (newSt 4194304 t0) = true from rfl), if_neg (by show ¬ renameErr p q t0 = 0; rw [← Hn.out]; exact hne)]
            subst hst
            have e1 : (n == 0) = false := beq_eq_false_iff_ne.2 hne
            have e2 : (n != 0) = true := by rw [bne, e1]; rfl
            go_wp2_with fail
            refine (HPa.out _).mono ?_
            rintro e w8p ⟨rfl, hB8p⟩
            have Hok8p := Lib.hid (Hok8.out.keep hB8p)
            have k8p : K w.heap.size w8 w8p := K.of_new hB8p HK8.out.size
            have HK8p := Lib.hid (HK8.out.trans k8p); have K58p := Lib.hid (K58.out.trans k8p)
            clear hB8p k8p
            have Hfi2 := Lib.hid (show Calls _ _ _ _ (FilesPost t0 w8p) from Files_any Hok8p.out Hbd.out)
            go_wp2_with fail
            refine Hfi2.out.mono ?_
            rintro e w9 ⟨now, rfl, hnow, hB9⟩
            obtain ⟨an, cn, rfl⟩ := hnow.slice
            have hk9 : K w.heap.size w8p w9 := K.of_new hB9 HK8p.out.size
            have hsa := Same_any hnow.v (Hwas.out.keep (K58p.out.trans hk9)).v (by have := Hgt.out.1; show t0.length ≤ 1000000; omega)
            unfold SamePost at hsa
            rw [decide_eq_true rfl] at hsa
            have Hsa := Lib.hid hsa; have HK9 := Lib.hid (HK8p.out.trans hk9)
            clear hsa hnow hB9 hk9 Hfi2
            go_wp2_with fail
            refine Hsa.out.mono ?_
            rintro e w10 ⟨rfl, hB10⟩
            have HB10 := Lib.hid hB10; clear hB10
            go_wp2
            go_ret
            exact ⟨rfl, (HK9.out.trans (K.of_new (base := w.heap.size) HB10.out HK9.out.size)).below⟩
      · have Hk4 := Lib.hid (Hk3.out.keep hB4)
        have HK4 := Lib.hid (HK3.out.trans (K.of_new (base := w.heap.size) hB4 HK3.out.size))
        have Hfi := Lib.hid (show Calls _ _ _ _ (FilesPost t0 w4) from Files_any Hk4.out Hbd.out)
        clear hB4 Hrd
        go_wp2_with fail
        refine Hfi.out.mono ?_
        rintro e w5 ⟨was, rfl, hwas, hB5⟩
        obtain ⟨aw, cw, rfl⟩ := hwas.slice
        have Hk5 := Lib.hid (Hk4.out.keep hB5)
        have HK5 := Lib.hid (HK4.out.trans (K.of_new (base := w.heap.size) hB5 HK4.out.size))
        have K45 := Lib.hid (K.of_new (base := w.heap.size) hB5 HK4.out.size)
        have Hwas := Lib.hid hwas
        have hre := Rename_any Hk5.out Hbd.out (Het.out.keep HK5.out hg) hg (p := p) (q := q) (by unfold maxLen; omega) (by unfold maxLen; omega)
        unfold S at hre
        have hon : on (newSt 4194304 t0) = true := rfl
        have hn1 : doN (newSt 4194304 t0) (renameErr p q (newSt 4194304 t0).files) = renameErr p q t0 := by unfold doN; rw [if_pos hon]; rfl
        rw [hn1] at hre
        obtain ⟨n, hn⟩ : ∃ n, n = renameErr p q t0 := ⟨_, rfl⟩
        obtain ⟨st1, hst1⟩ : ∃ st1, st1 = doSt (newSt 4194304 t0) (renameErr p q (newSt 4194304 t0).files) (renamed p q (newSt 4194304 t0)) := ⟨_, rfl⟩
        rw [← hn, ← hst1] at hre
        have Hre := Lib.hid hre; have Hn := Lib.hid hn; have Hst1 := Lib.hid hst1
        have HDp := Lib.hid (fun W => Dir_any p W (by unfold lim; omega))
        have HDq := Lib.hid (fun W => Dir_any q W (by unfold lim; omega))
        unfold S DirRPost S at HDp HDq
        clear hwas hB5 Hfi hre hn hst1 hn1 hon
        obtain ⟨dp, hdp⟩ : ∃ d, d = refDir p := ⟨_, rfl⟩
        obtain ⟨dq, hdq⟩ : ∃ d, d = refDir q := ⟨_, rfl⟩
        rw [← hdp] at HDp
        rw [← hdq] at HDq
        have Hdp := Lib.hid hdp; have Hdq := Lib.hid hdq
        clear hdp hdq
        go_wp2_with fail
        refine Hre.out.mono ?_
        rintro e w6 ⟨rfl, k6, lv6, hok6⟩
        have HK6 := Lib.hid (HK5.out.trans k6); have K56 := Lib.hid k6; have Hok6 := Lib.hid hok6
        clear k6 hok6 Hre
        go_wp2_with fail
        refine (HDp.out _).mono ?_
        rintro e w7 ⟨rfl, hB7⟩
        have HK7 := Lib.hid (HK6.out.trans (K.of_new (base := w.heap.size) hB7 HK6.out.size)); have Hok7 := Lib.hid (Hok6.out.keep hB7)
        have K57 := Lib.hid (K56.out.trans (K.of_new (base := w.heap.size) hB7 HK6.out.size))
        clear hB7 HDp
        go_wp2_with fail
        refine (HDq.out _).mono ?_
        rintro e w8 ⟨rfl, hB8⟩
        have HK8 := Lib.hid (HK7.out.trans (K.of_new (base := w.heap.size) hB8 HK7.out.size)); have Hok8 := Lib.hid (Hok7.out.keep hB8)
        have K58 := Lib.hid (K57.out.trans (K.of_new (base := w.heap.size) hB8 HK7.out.size))
        clear hB8 HDq
        have hne : ¬ n = 0 := fun h => by
          have h1 := (rename_zero.1 (Hn.out.symm.trans h)).1
          refine he ?_
          show (if (newSt 4194304 t0).down = true then 13 else thereErr p (newSt 4194304 t0).files) = 0
          exact h1
        obtain ⟨er, her⟩ : ∃ er, er = readErr p (newSt 4194304 t0) := ⟨_, rfl⟩
        rw [← her] at he ⊢
        have e3 : (er == 0) = false := beq_eq_false_iff_ne.2 he
        clear her he
        have hst : st1 = newSt 4194304 t0 := by
          rw [Hst1.out]
          unfold doSt
          rw [if_pos (show on (newSt 4194304 t0) = true from rfl), if_neg (by show ¬ renameErr p q t0 = 0; rw [← Hn.out]; exact hne)]
        subst hst
        have e1 : (n == 0) = false := beq_eq_false_iff_ne.2 hne
        have e2 : (n != 0) = true := by rw [bne, e1]; rfl
        have Hfi2 := Lib.hid (show Calls _ _ _ _ (FilesPost t0 w8) from Files_any Hok8.out Hbd.out)
        go_wp2_with fail
        refine Hfi2.out.mono ?_
        rintro e w9 ⟨now, rfl, hnow, hB9⟩
        obtain ⟨an, cn, rfl⟩ := hnow.slice
        have hk9 : K w.heap.size w8 w9 := K.of_new hB9 HK8.out.size
        have hsa := Same_any hnow.v (Hwas.out.keep (K58.out.trans hk9)).v (by have := Hgt.out.1; show t0.length ≤ 1000000; omega)
        unfold SamePost at hsa
        rw [decide_eq_true rfl] at hsa
        have Hsa := Lib.hid hsa; have HK9 := Lib.hid (HK8.out.trans hk9)
        clear hsa hnow hB9 hk9 Hfi2
        go_wp2_with fail
        refine Hsa.out.mono ?_
        rintro e w10 ⟨rfl, hB10⟩
        have HB10 := Lib.hid hB10; clear hB10
        go_wp2
        go_ret
        exact ⟨rfl, (HK9.out.trans (K.of_new (base := w.heap.size) HB10.out HK9.out.size)).below⟩
end Go.Proofs.YtehcdnaoiidlbaaGreatDoor
