/-
  ShelfOrder: its walk.
-/
import Derived.Test.YtccloieikkdcoaaGreatDoorOrdP
import Derived.Test.YtccloieikkdcoaaGreatDoorMovesP
namespace Go.Proofs.YtccloieikkdcoaaGreatDoor
open Go Go.RowKit Go.Maps Go.Shelf Go.Deep

/-! ### The plain side: all is synced, directory by directory -/
theorem path_dir {p : By} (h : pathB p = true) : partB (dirOf p) = true ∧ partB (nameOf p) = true ∧ p.contains 47 = true := by
  unfold pathB at h
  simp only [Bool.and_eq_true] at h
  exact ⟨h.1.2, h.2, h.1.1⟩
theorem cut_whole : ∀ {p : By}, p.contains 47 = true → (dirOf p).length + (nameOf p).length + 1 = p.length
  | [], h => by simp at h
  | c :: p, h => by
    by_cases hc : c = 47
    · subst hc; simp [dirOf, nameOf]
    · have h2 : p.contains 47 = true := by
        rw [List.contains_cons] at h
        have : (47 == c) = false := by rw [beq_eq_false_iff_ne]; exact fun e => hc e.symm
        rw [this, Bool.false_or] at h; exact h
      have ih := cut_whole h2
      have hb : (c != 47) = true := by simpa using hc
      unfold dirOf nameOf at ih ⊢
      simp only [List.takeWhile_cons, List.dropWhile_cons, hb, ↓reduceIte, List.length_cons]
      omega
theorem path_short {p : By} (h : pathB p = true) : p.length ≤ 141 := by
  obtain ⟨h1, h2, h3⟩ := path_dir h
  have := cut_whole h3
  unfold partB at h1 h2
  simp only [Bool.and_eq_true, decide_eq_true_eq] at h1 h2
  omega
theorem refDir_len (p : By) : (refDir p).length ≤ p.length := by
  unfold refDir
  split
  · unfold dirOf; exact (List.takeWhile_sublist _).length_le
  · simp
theorem sync_zero {p : By} (h : pathB p = true) : syncErr (refDir p) = 0 := by
  rw [refDir_path h]
  unfold syncErr
  rw [if_pos (path_dir h).1]

/-- What holds of the shelf while all is synced. -/
structure Sh (t : Tb) (B : Nat) (st : St) : Prop where
  inv : InvO st
  files : st.files = t
  bd : Bd st B
  pw : Pw st
theorem sync_files (st : St) (d : By) (er : Int) : (doSt st er (syncedSt d st)).files = st.files := by
  unfold doSt; split
  · split <;> rfl
  · rfl
theorem Sh.sync {t : Tb} {B : Nat} {st : St} (h : Sh t B st) (d : By) : Sh t B (doSt st (syncErr d) (syncedSt d st)) :=
  ⟨invO_do h.inv fun _ => h.inv.sync d, (sync_files st d _).trans h.files, bd_do h.bd fun _ => h.bd.synced d, pw_do h.pw ⟨h.pw.1, h.pw.2⟩⟩
theorem From.synced {ps : List By} {st : St} (h : From ps st) (d : By) : From ps (doSt st (syncErr d) (syncedSt d st)) :=
  from_do h fun _ x hx => h x (List.mem_filter.1 hx).1
/-- The next path's directory is synced: what is loose is of those behind. -/
theorem From.next {p : By} {ps : List By} {st : St} (h : From (p :: ps) st) (hp : Pw st) : From ps (doSt st (syncErr (refDir p)) (syncedSt (refDir p) st)) := by
  cases hb : pathB p with
  | true =>
    have e : doSt st (syncErr (refDir p)) (syncedSt (refDir p) st) = bump (syncedSt (refDir p) st) := by
      unfold doSt; rw [if_pos hp.on, if_pos (sync_zero hb)]
    rw [e]
    intro x hx
    have hx2 : x ∈ syncL (refDir p) st.loose := hx
    have hm := List.mem_filter.1 hx2
    obtain ⟨q, hq, h2, h3⟩ := h x hm.1
    rcases List.mem_cons.1 hq with rfl | hq
    · have := hm.2
      rw [h3, refDir_path hb] at this
      simp at this
    · exact ⟨q, hq, h2, h3⟩
  | false =>
    intro x hx
    obtain ⟨q, hq, h2, h3⟩ := h.synced (refDir p) x hx
    rcases List.mem_cons.1 hq with rfl | hq
    · rw [hb] at h2; cases h2
    · exact ⟨q, hq, h2, h3⟩
theorem From.none {st : St} (h : From [] st) : st.loose = [] := by
  cases hl : st.loose with
  | nil => rfl
  | cons a l => obtain ⟨q, hq, _⟩ := h a (by rw [hl]; simp); cases hq
theorem Sh.crash {t : Tb} {B : Nat} {st : St} (h : Sh t B st) (hl : st.loose = []) : (crashSt [] st).files = t := by
  show crashK st.loose [] st.synced st.loose.length = t
  have hf := h.inv.files
  rw [hl] at hf ⊢
  rw [← h.files, hf]; rfl
theorem tsize_snoc {t : Tb} {k : Nat} {q : By × By} (h : t[k]? = some q) : tsize (t.take (k + 1)) = tsize (t.take k) + q.2.length := by
  rw [take_snoc h]; unfold tsize; rw [List.map_append, List.sum_append]; simp
theorem tsize_app (a b : Tb) : tsize (a ++ b) = tsize a + tsize b := by unfold tsize; rw [List.map_append, List.sum_append]
theorem tsize_take (t : Tb) (k : Nat) : tsize (t.take k) ≤ tsize t := by
  have h : tsize (t.take k ++ t.drop k) = tsize (t.take k) + tsize (t.drop k) := tsize_app _ _
  rw [List.take_append_drop] at h
  omega
theorem rises_two {t : Tb} (h : Rises t) {j : Nat} {p q : By × By} (hp : t[j]? = some p) (hq : t[j + 1]? = some q) : bytesBefore p.1 q.1 = true := by
  obtain ⟨h1, e1⟩ := List.getElem?_eq_some_iff.1 hp
  obtain ⟨h2, e2⟩ := List.getElem?_eq_some_iff.1 hq
  have := List.pairwise_iff_getElem.1 h j (j + 1) h1 h2 (by omega)
  rw [e1, e2] at this; exact this
theorem less_bef : ∀ (a b : List UInt8), Op.bytesLess a b = bytesBefore a b
  | [], [] => rfl
  | [], _ :: _ => rfl
  | _ :: _, [] => rfl
  | x :: a, y :: b => by rw [Op.bytesLess, bytesBefore, less_bef a b]
theorem paths_take {l : List OpR} {k : Nat} {o : OpR} (h : l[k]? = some o) : (l.take (k + 1)).map OpR.path = (l.take k).map OpR.path ++ [o.path] := by
  rw [take_snoc h, List.map_append]; rfl
theorem paths_drop {l : List OpR} {k : Nat} {o : OpR} (h : l[k]? = some o) : (l.drop k).map OpR.path = o.path :: (l.drop (k + 1)).map OpR.path := by
  obtain ⟨hk, e⟩ := List.getElem?_eq_some_iff.1 h
  rw [List.drop_eq_getElem_cons hk, e, List.map_cons]

theorem gt_i64 (W : World) (a b : Int) (r : Bool) (h : decide (b < a) = r) : (binOp .gtr 3 (.int .i64 a) (.int .i64 b)).run Tryz.prog W = .ok (.bool r) W := by
  subst h; simp [go_sem]
theorem sub_i64 (W : World) (a b r : Int) (h : IntKind.i64.wrap (a - b) = r) : (binOp .sub 3 (.int .i64 a) (.int .i64 b)).run Tryz.prog W = .ok (.int .i64 r) W := by
  simp [go_sem, h]
theorem ge_str (W : World) (x y : List UInt8) (h : Op.bytesLess x y = true) : (binOp .geq 9 (.string ⟨x.toArray⟩) (.string ⟨y.toArray⟩)).run Tryz.prog W = .ok (.bool false) W := by
  show (Op.stringOp .geq ⟨x.toArray⟩ ⟨y.toArray⟩).run Tryz.prog W = _
  simp [go_sem, Op.stringOp, h]

set_option maxHeartbeats 16000000 in
set_option maxRecDepth 100000 in
theorem Order_law (w : World) (het : Et w) (hg : 0 < w.heap.size) {vf v : Value} {tf : Tb} {l : List OpR} (hlf : tf.length ≤ lim) (hvf : FilesAt w vf tf) (hl : l.length ≤ lim) (hv : OpsAt w w.heap.size v l) :
    Calls Tryz.prog 5 #[vf, v] w (HeadPost w) := by
  have Hh := Lib.hid (head_any w het hg)
  have Hv := Lib.hid hv
  have Hvf := Lib.hid hvf
  obtain ⟨xf, cf, rfl, _⟩ := hvf
  obtain ⟨x, c, rfl, hx⟩ := hv
  have Hx := Lib.hid hx; clear hx
  have Het := Lib.hid het; clear het
  go_enter Tryz.func5, Tryz.ntmps5
  go_wp2_with fail
  refine Hh.out.mono ?_
  rintro e w1 ⟨rfl, hB1⟩
  have Hof := Lib.hid (Of_any (base := w.heap.size) 4194304 w1 hB1.size (Hvf.out.below hB1))
  have HB1 := Lib.hid hB1; clear hB1
  go_wp2_with fail
  refine Hof.out.mono ?_
  rintro e w2 (⟨rfl, hB2⟩ | ⟨t0, hgt, s, f, y, rfl, hk, hB2⟩)
  · have HB2 := Lib.hid (below_two HB1.out hB2); clear hB2
    go_wp2_with fail
    go_ret
    exact ⟨rfl, HB2.out⟩
  · have hB02 := below_two HB1.out hB2
    have Hgr := Lib.hid (Great_any (Hv.out.below hB02) hl)
    have HB2 := Lib.hid hB02; have Hk := Lib.hid hk; have Hgt := Lib.hid hgt; have Hrise : Hid (Rises t0) := Lib.hid hk.files.2.1
    clear hB2 hB02 hk hgt
    go_wp2_with fail
    refine Hgr.out.mono ?_
    rintro e w3 ⟨gr, rfl, hB3, hsm⟩
    have Hk3 := Lib.hid (Hk.out.keep hB3)
    have hB03 := below_two HB2.out hB3
    have Hgf := Lib.hid (GreatFiles_any (Hvf.out.below hB03) hlf)
    have HB3 := Lib.hid hB03; have Hsm := Lib.hid hsm
    clear hB3 hsm hB03
    cases gr with
    | true =>
      go_wp2_with fail
      go_ret
      exact ⟨rfl, HB3.out⟩
    | false =>
      have hsm := Hsm.out rfl
      clear Hsm
      go_wp2_with fail
      refine Hgf.out.mono ?_
      rintro e w4 ⟨gf, rfl, hB4, _⟩
      have hk4 := Hk3.out.keep hB4
      have HK4 := Lib.hid (K.of_new (base := w.heap.size) (below_two HB3.out hB4) (Nat.le_refl _)); have Hk4 := Lib.hid hk4
      clear hB4 hk4
      cases gf with
      | true =>
        go_wp2_with fail
        go_ret
        exact ⟨rfl, HK4.out.below⟩
      | false =>
        have hl3 : l.length ≤ 300 := hsm.1
        have Hpw : Hid (Pw (newSt 4194304 t0)) := Lib.hid ⟨rfl, rfl⟩
        have Hbd := Lib.hid (newSt_bdF (r := 4194304) Hgt.out)
        have Hiv := Lib.hid (InvO.start (r := 4194304) Hrise.out (fun x hx => (Hgt.out.2 x hx).2.1))
        go_wp2_with fail
        go_loopw [7] (fun i wr => ∃ k lv st, k ≤ l.length ∧ i = .int .i64 (k : Nat) ∧ K w.heap.size w4 wr ∧ Ok wr w.heap.size s f y lv st ∧ Bd st (400 + k) ∧ Pw st ∧ InvO st ∧ From ((l.take k).map OpR.path) st) (fun i _ => l.length - (intOf i).toNat)
        case atStart => exact ⟨0, _, _, Nat.zero_le _, rfl, K.refl _ _, Hk4.out, Hbd.out, Hpw.out, Hiv.out, fun x hx => by simp [newSt] at hx⟩
        case round =>
          obtain ⟨k, lv, st, hk, rfl, hK, hok, hbd, hpw, hiv, hfr⟩ := hrel
          by_cases hlt : k < l.length
          · obtain ⟨o, ho⟩ : ∃ o, l[k]? = some o := ⟨_, List.getElem?_eq_getElem hlt⟩
            obtain ⟨b, off, rfl, bvv, kv, h0, h1, h2, h3, h4, h5, h6, h7, _, _, l1, l2, l3, l4⟩ := Hx.out k o ho
            obtain ⟨va, vc, rfl⟩ := h6.slice
            obtain ⟨ka, kc, rfl⟩ := h7.slice
            have hKw := HK4.out.trans hK
            replace h0 := cell_below' hKw.below h0
            replace h1 := cell_below' hKw.below h1
            replace h2 := cell_below' hKw.below h2
            replace h3 := cell_below' hKw.below h3
            replace h4 := cell_below' hKw.below h4
            replace h5 := cell_below' hKw.below h5
            rw [add_at] at h1 h2 h3 h4 h5
            unfold S at h1 h2
            have hdo := does_any (o := o) (kv := .slice ka o.keep.length kc) hok hbd (Het.out.keep hKw hg) hg (h6.below hKw.below) (Nat.le_trans l1 lim_le) (Nat.le_trans l2 lim_le) (Nat.le_trans l3 lim_le)
            have hbd' := hbd.does (by omega) o (Nat.le_trans l1 lim_le) (Nat.le_trans l2 lim_le)
            have hfr' := hfr.does o
            rw [← paths_take ho] at hfr'
            have eo : opV o (.slice va o.b.length vc) (.slice ka o.keep.length kc) = .agg #[.int .i64 o.what, .string ⟨o.path.toArray⟩, .string ⟨o.to.toArray⟩, .slice va o.b.length vc, .int .i64 o.n, .slice ka o.keep.length kc] := rfl
            rw [eo] at hdo
            have Hdo := Lib.hid hdo; have HK := Lib.hid hK; have Hbd2 := Lib.hid hbd'; have Hpw2 := Lib.hid (hpw.does o); have Hiv2 := Lib.hid (hiv.does o); have Hfr2 := Lib.hid hfr'
            clear hK hok hbd hpw hiv hfr hKw h6 h7 hdo hbd' hfr' eo
            go_wp2_with fail
            refine Hdo.out.mono ?_
            rintro e w6 ⟨rfl, k6, lv6, hok6⟩
            have HK6 := Lib.hid (HK.out.trans k6); have Hok6 := Lib.hid hok6
            clear k6 hok6
            go_wp2_with fail
            go_roundw
            case rel => exact ⟨k + 1, _, _, hlt, by go_num, HK6.out, Hok6.out, Hbd2.out, Hpw2.out, Hiv2.out, Hfr2.out⟩
            case measure => simp [intOf]; omega
          · obtain rfl : k = l.length := by omega
            have Hfi := Lib.hid (Files_any hok hbd)
            have HKd := Lib.hid (HK4.out.trans hK); have Hok := Lib.hid hok
            obtain ⟨t, ht⟩ : ∃ t, t = st.files := ⟨_, rfl⟩
            have Hsh : Hid (Sh t (400 + l.length) st) := Lib.hid ⟨hiv, ht.symm, hbd, hpw⟩
            have Hfr : Hid (From ((l.drop 0).map OpR.path) st) := Lib.hid (by have h := hfr; rw [List.take_length] at h; rw [List.drop_zero]; exact h)
            have Hri : Hid (Rises t) := Lib.hid (by rw [ht, hiv.files]; exact playL_rises _ hiv.rises)
            have Hpa : Hid (∀ x ∈ t, pathB x.1 = true) := Lib.hid (by rw [ht]; exact hiv.paths)
            have htl : t.length ≤ 700 := by have := hbd.files; rw [ht]; omega
            have hts : tsize t ≤ 700 * 262144 := by
              have h1 := tsize_small (t := t) (by rw [ht]; exact hbd.small)
              exact Nat.le_trans h1 (Nat.mul_le_mul_right _ htl)
            rw [← ht] at Hfi
            clear hK hok hbd hpw hiv hfr ht hk hlt
            go_wp2_with fail
            refine Hfi.out.mono ?_
            rintro e w5 ⟨av, rfl, hav, hB5⟩
            have HKa := Lib.hid (HKd.out.trans (K.of_new (base := w.heap.size) hB5 (by have := HKd.out.size; omega)))
            have Hoka := Lib.hid (Hok.out.keep hB5)
            have Hav := Lib.hid hav
            obtain ⟨aa, ac, rfl⟩ := hav.slice
            clear hav hB5 Hfi HKd Hok
            go_wp2_with fail
            go_loopw [9, 10, 11, 12] (fun nv iv _d _is wr => ∃ (k : Nat) (m : Nat) (lv : Value) (st : St), k ≤ t.length ∧ iv = .int .i64 k ∧ nv = .int .i64 m ∧ Hid (m = tsize (t.take k)) ∧ K w.heap.size w5 wr ∧ Ok wr w.heap.size s f y lv st ∧ Sh t (400 + l.length) st ∧ From ((l.drop 0).map OpR.path) st) (fun _ iv _ _ _ => t.length - (intOf iv).toNat)
            case atStart => exact ⟨0, 0, _, _, Nat.zero_le _, rfl, rfl, Lib.hid (by simp [tsize]), K.refl _ _, Hoka.out, Hsh.out, Hfr.out⟩
            case round =>
              clear Hsh Hfr Hoka
              obtain ⟨k, m, lv, st, hk, rfl, rfl, hm, hK, hok, hsh, hfr⟩ := hrel
              by_cases hlt : k < t.length
              · obtain ⟨q, hq⟩ : ∃ q, t[k]? = some q := ⟨_, List.getElem?_eq_getElem hlt⟩
                have hpq := Hpa.out q (List.mem_of_getElem? hq)
                have hshort := path_short hpq
                obtain ⟨xa, xc, hva, hxa⟩ := (Hav.out.keep hK).v
                simp only [Value.slice.injEq] at hva
                obtain ⟨rfl, _, rfl⟩ := hva
                have Hxa := Lib.hid hxa
                obtain ⟨b, off, rfl, dv, h0, h1, h6⟩ := hxa k q hq
                obtain ⟨va, vc, rfl⟩ := h6.slice
                have Ck := Lib.hid h0
                rw [add_at] at h1
                unfold S at h0
                have hsn := tsize_snoc hq
                have htk := tsize_take t (k + 1)
                have HT : Hid (m + q.2.length = tsize (t.take (k + 1))) := Lib.hid (by rw [hsn, hm.out])
                have hmb : m + q.2.length ≤ 700 * 262144 := by rw [HT.out]; omega
                have hdir := fun W => Dir_any q.1 W (by unfold lim; omega)
                unfold DirRPost at hdir
                rw [hpq] at hdir
                unfold S at hdir
                have HDir := Lib.hid hdir
                have hz := hsh.sync (refDir q.1)
                have hfz := hfr.synced (refDir q.1)
                have hdl : (refDir q.1).length ≤ maxLen := by have := refDir_len q.1; unfold maxLen; omega
                have hsy : ∀ W, K w.heap.size w5 W → Ok W w.heap.size s f y lv st → Calls Tryz.prog 17 #[.pointer (some ⟨s, 0, none⟩), .string ⟨(refDir q.1).toArray⟩] W (DoPost w.heap.size s f y (doN st (syncErr (refDir q.1))) (doSt st (syncErr (refDir q.1)) (syncedSt (refDir q.1) st)) W) := fun W hW ho => Sync_any ho hsh.bd (Het.out.keep (HKa.out.trans hW) hg) hg hdl
                have Hsy := Lib.hid hsy; have Hsh2 := Lib.hid hz; have Hfr2 := Lib.hid hfz; have HK := Lib.hid hK; have Hok := Lib.hid hok
                have HQ := Lib.hid hq
                clear hsy hz hfz hK hok hsh hfr hdir hdl hsn htk hpq hshort h6 hxa hq
                go_wp2_with fail
                refine (HDir.out _).mono ?_
                rintro e w6 ⟨rfl, hB6⟩
                have HK7 := Lib.hid (HK.out.trans (K.of_new (base := w.heap.size) (hB6.drew) (by have := HK.out.size; have := HKa.out.size; omega)))
                have Hok7 := Lib.hid (Hok.out.keep hB6.drew)
                have CK : Hid (∀ W, Below w6.drew.heap.size w6.drew W → W.cell? ⟨b, off + k * 2, none⟩ = some (.string ⟨q.1.toArray⟩)) := Lib.hid fun W h => cell_below' h (cell_below' hB6 (by have h2 := Ck.out; unfold S at h2; exact h2))
                by_cases hk0 : k = 0
                · have d0 : decide ((0 : Int) < (k : Int)) = false := decide_eq_false (by omega)
                  clear hB6 h0 h1 hk0
                  go_wp2_with fail
                  refine AnyB.start (by kernel_rfl) ?_
                  refine AnyB.take 0 (.bool true) rfl (by kernel_rfl) (by kernel_rfl) (by kernel_rfl) (fun _ _ _ h => h) (by kernel_rfl) (fun W hW => by kernel_rfl) ?_
                  refine AnyB.take 1 (.bool false) rfl (by kernel_rfl) (by kernel_rfl) (by kernel_rfl) (fun _ _ _ h => h) (by kernel_rfl) (fun W hW => by kernel_rfl) ?_
                  refine AnyB.take 2 (.bool false) rfl (by kernel_rfl) (by kernel_rfl) (by kernel_rfl) (fun _ _ _ h => h) (by kernel_rfl) (fun W hW => by kernel_rfl) ?_
                  refine AnyB.take 3 (.int .i64 (k : Int)) rfl (by kernel_rfl) (by kernel_rfl) (by kernel_rfl) (fun _ _ _ h => h) (by kernel_rfl) (fun W hW => by kernel_rfl) ?_
                  refine AnyB.take 4 (.bool false) rfl (by kernel_rfl) (by kernel_rfl) (by kernel_rfl) (fun _ _ _ h => h) (by kernel_rfl) (fun W hW => y_bin (x := .int .i64 (k : Int)) (y := .int .i64 0) rfl (by kernel_rfl) (by kernel_rfl) rfl (gt_i64 W _ _ _ d0)) ?_
                  refine AnyB.take 5 (.bool false) rfl (by kernel_rfl) (by kernel_rfl) (by kernel_rfl) (fun _ _ _ h => h) (by kernel_rfl) (fun W hW => by kernel_rfl) ?_
                  refine AnyB.skip 6 rfl (by kernel_rfl) (by kernel_rfl) (by kernel_rfl) (fun _ _ _ h => h) (by kernel_rfl) ?_
                  refine AnyB.skip 7 rfl (by kernel_rfl) (by kernel_rfl) (by kernel_rfl) (fun _ _ _ h => h) (by kernel_rfl) ?_
                  refine AnyB.skip 8 rfl (by kernel_rfl) (by kernel_rfl) (by kernel_rfl) (fun _ _ _ h => h) (by kernel_rfl) ?_
                  refine AnyB.skip 9 rfl (by kernel_rfl) (by kernel_rfl) (by kernel_rfl) (fun _ _ _ h => h) (by kernel_rfl) ?_
                  refine AnyB.skip 10 rfl (by kernel_rfl) (by kernel_rfl) (by kernel_rfl) (fun _ _ _ h => h) (by kernel_rfl) ?_
                  refine AnyB.skip 11 rfl (by kernel_rfl) (by kernel_rfl) (by kernel_rfl) (fun _ _ _ h => h) (by kernel_rfl) ?_
                  refine AnyB.skip 12 rfl (by kernel_rfl) (by kernel_rfl) (by kernel_rfl) (fun _ _ _ h => h) (by kernel_rfl) ?_
                  refine AnyB.skip 13 rfl (by kernel_rfl) (by kernel_rfl) (by kernel_rfl) (fun _ _ _ h => h) (by kernel_rfl) ?_
                  refine AnyB.skip 14 rfl (by kernel_rfl) (by kernel_rfl) (by kernel_rfl) (fun _ _ _ h => h) (by kernel_rfl) ?_
                  refine AnyB.skip 15 rfl (by kernel_rfl) (by kernel_rfl) (by kernel_rfl) (fun _ _ _ h => h) (by kernel_rfl) ?_
                  refine AnyB.skip 16 rfl (by kernel_rfl) (by kernel_rfl) (by kernel_rfl) (fun _ _ _ h => h) (by kernel_rfl) ?_
                  refine AnyB.skip 17 rfl (by kernel_rfl) (by kernel_rfl) (by kernel_rfl) (fun _ _ _ h => h) (by kernel_rfl) ?_
                  refine AnyB.take 18 (.bool false) rfl (by kernel_rfl) (by kernel_rfl) (by kernel_rfl) (fun _ _ _ h => h) (by kernel_rfl) (fun W hW => by kernel_rfl) ?_
                  refine AnyB.take 19 (.bool false) rfl (by kernel_rfl) (by kernel_rfl) (by kernel_rfl) (fun _ _ _ h => h) (by kernel_rfl) (fun W hW => by kernel_rfl) ?_
                  refine AnyB.done _ (by kernel_rfl) ?_
                  go_simp
                  go_wp2_with fail
                  refine (Hsy.out _ HK7.out Hok7.out).mono ?_
                  rintro e w8 ⟨rfl, k8, lv8, hok8⟩
                  have HK8 := Lib.hid (HK7.out.trans k8); have Hok8 := Lib.hid hok8
                  clear k8 hok8
                  go_wp2_with fail
                  go_roundw
                  case rel => exact ⟨k + 1, m + q.2.length, lv8, _, hlt, by go_num, by go_num, HT, HK8.out, Hok8.out, Hsh2.out, Hfr2.out⟩
                  case measure => simp [intOf]; omega
                · obtain ⟨j, hj⟩ : ∃ j, k = j + 1 := ⟨k - 1, by omega⟩
                  obtain ⟨p, hp⟩ : ∃ p, t[j]? = some p := ⟨_, List.getElem?_eq_getElem (by omega)⟩
                  obtain ⟨b', off', hbo, dv', g0, g1, g6⟩ := Hxa.out j p hp
                  simp only [Option.some.injEq, Addr.mk.injEq, and_true] at hbo
                  obtain ⟨rfl, rfl⟩ := hbo
                  have HL : Hid (Op.bytesLess p.1 q.1 = true) := Lib.hid (by rw [less_bef]; exact rises_two Hri.out hp (by rw [← hj]; exact HQ.out))
                  have CJ : Hid (∀ W, Below w6.drew.heap.size w6.drew W → W.cell? ⟨b, off + j * 2, none⟩ = some (.string ⟨p.1.toArray⟩)) := Lib.hid fun W h => cell_below' h (cell_below' hB6 (by have h2 := g0; unfold S at h2; exact h2))
                  have d0 : decide ((0 : Int) < (k : Int)) = true := decide_eq_true (by omega)
                  have e1 : IntKind.i64.wrap ((k : Int) - 1) = (j : Int) := by rw [IntWalk.i64_in _ (by omega)]; omega
                  have hjt : j < t.length := by omega
                  clear hB6 h0 h1 g0 g1 g6 hp hk0 hj
                  go_wp2_with fail
                  refine AnyB.start (by kernel_rfl) ?_
                  refine AnyB.take 0 (.bool true) rfl (by kernel_rfl) (by kernel_rfl) (by kernel_rfl) (fun _ _ _ h => h) (by kernel_rfl) (fun W hW => by kernel_rfl) ?_
                  refine AnyB.take 1 (.bool false) rfl (by kernel_rfl) (by kernel_rfl) (by kernel_rfl) (fun _ _ _ h => h) (by kernel_rfl) (fun W hW => by kernel_rfl) ?_
                  refine AnyB.take 2 (.bool false) rfl (by kernel_rfl) (by kernel_rfl) (by kernel_rfl) (fun _ _ _ h => h) (by kernel_rfl) (fun W hW => by kernel_rfl) ?_
                  refine AnyB.take 3 (.int .i64 (k : Int)) rfl (by kernel_rfl) (by kernel_rfl) (by kernel_rfl) (fun _ _ _ h => h) (by kernel_rfl) (fun W hW => by kernel_rfl) ?_
                  refine AnyB.take 4 (.bool true) rfl (by kernel_rfl) (by kernel_rfl) (by kernel_rfl) (fun _ _ _ h => h) (by kernel_rfl) (fun W hW => y_bin (x := .int .i64 (k : Int)) (y := .int .i64 0) rfl (by kernel_rfl) (by kernel_rfl) rfl (gt_i64 W _ _ _ d0)) ?_
                  refine AnyB.take 5 (.bool true) rfl (by kernel_rfl) (by kernel_rfl) (by kernel_rfl) (fun _ _ _ h => h) (by kernel_rfl) (fun W hW => by kernel_rfl) ?_
                  refine AnyB.take 6 (.slice (some ⟨b, off, none⟩) t.length ac) rfl (by kernel_rfl) (by kernel_rfl) (by kernel_rfl) (fun _ _ _ h => h) (by kernel_rfl) (fun W hW => by kernel_rfl) ?_
                  refine AnyB.take 7 (.int .i64 (k : Int)) rfl (by kernel_rfl) (by kernel_rfl) (by kernel_rfl) (fun _ _ _ h => h) (by kernel_rfl) (fun W hW => by kernel_rfl) ?_
                  refine AnyB.take 8 (.int .i64 (j : Int)) rfl (by kernel_rfl) (by kernel_rfl) (by kernel_rfl) (fun _ _ _ h => h) (by kernel_rfl) (fun W hW => y_bin (x := .int .i64 (k : Int)) (y := .int .i64 1) rfl (by kernel_rfl) (by kernel_rfl) rfl (sub_i64 W _ _ _ e1)) ?_
                  refine AnyB.take 9 (.pointer (some ⟨b, off + j * 2, none⟩)) rfl (by kernel_rfl) (by kernel_rfl) (by kernel_rfl) (fun _ _ _ h => h) (by kernel_rfl) (fun W hW => y_index (sv := .slice (some ⟨b, off, none⟩) t.length ac) (iv := .int .i64 (j : Int)) rfl (by kernel_rfl) (by kernel_rfl) (i_files W b off t.length ac j hjt)) ?_
                  refine AnyB.take 10 (.pointer (some ⟨b, off + j * 2, none⟩)) rfl (by kernel_rfl) (by kernel_rfl) (by kernel_rfl) (fun _ _ _ h => h) (by kernel_rfl) (fun W hW => y_field (sv := .pointer (some ⟨b, off + j * 2, none⟩)) rfl (by kernel_rfl) (f_path W b (off + j * 2))) ?_
                  refine AnyB.take 11 (.string ⟨p.1.toArray⟩) rfl (by kernel_rfl) (by kernel_rfl) (by kernel_rfl) (fun _ _ _ h => h) (by kernel_rfl) (fun W hW => y_load (sv := .pointer (some ⟨b, off + j * 2, none⟩)) rfl (by kernel_rfl) (l_str W b (off + j * 2) _ (CJ.out W hW))) ?_
                  refine AnyB.take 12 (.slice (some ⟨b, off, none⟩) t.length ac) rfl (by kernel_rfl) (by kernel_rfl) (by kernel_rfl) (fun _ _ _ h => h) (by kernel_rfl) (fun W hW => by kernel_rfl) ?_
                  refine AnyB.take 13 (.int .i64 (k : Int)) rfl (by kernel_rfl) (by kernel_rfl) (by kernel_rfl) (fun _ _ _ h => h) (by kernel_rfl) (fun W hW => by kernel_rfl) ?_
                  refine AnyB.take 14 (.pointer (some ⟨b, off + k * 2, none⟩)) rfl (by kernel_rfl) (by kernel_rfl) (by kernel_rfl) (fun _ _ _ h => h) (by kernel_rfl) (fun W hW => y_index (sv := .slice (some ⟨b, off, none⟩) t.length ac) (iv := .int .i64 (k : Int)) rfl (by kernel_rfl) (by kernel_rfl) (i_files W b off t.length ac k hlt)) ?_
                  refine AnyB.take 15 (.pointer (some ⟨b, off + k * 2, none⟩)) rfl (by kernel_rfl) (by kernel_rfl) (by kernel_rfl) (fun _ _ _ h => h) (by kernel_rfl) (fun W hW => y_field (sv := .pointer (some ⟨b, off + k * 2, none⟩)) rfl (by kernel_rfl) (f_path W b (off + k * 2))) ?_
                  refine AnyB.take 16 (.string ⟨q.1.toArray⟩) rfl (by kernel_rfl) (by kernel_rfl) (by kernel_rfl) (fun _ _ _ h => h) (by kernel_rfl) (fun W hW => y_load (sv := .pointer (some ⟨b, off + k * 2, none⟩)) rfl (by kernel_rfl) (l_str W b (off + k * 2) _ (CK.out W hW))) ?_
                  refine AnyB.take 17 (.bool false) rfl (by kernel_rfl) (by kernel_rfl) (by kernel_rfl) (fun _ _ _ h => h) (by kernel_rfl) (fun W hW => y_bin (x := .string ⟨p.1.toArray⟩) (y := .string ⟨q.1.toArray⟩) rfl (by kernel_rfl) (by kernel_rfl) rfl (ge_str W _ _ HL.out)) ?_
                  refine AnyB.take 18 (.bool false) rfl (by kernel_rfl) (by kernel_rfl) (by kernel_rfl) (fun _ _ _ h => h) (by kernel_rfl) (fun W hW => by kernel_rfl) ?_
                  refine AnyB.take 19 (.bool false) rfl (by kernel_rfl) (by kernel_rfl) (by kernel_rfl) (fun _ _ _ h => h) (by kernel_rfl) (fun W hW => by kernel_rfl) ?_
                  refine AnyB.done _ (by kernel_rfl) ?_
                  go_simp
                  go_wp2_with fail
                  refine (Hsy.out _ HK7.out Hok7.out).mono ?_
                  rintro e w8 ⟨rfl, k8, lv8, hok8⟩
                  have HK8 := Lib.hid (HK7.out.trans k8); have Hok8 := Lib.hid hok8
                  clear k8 hok8
                  go_wp2_with fail
                  go_roundw
                  case rel => exact ⟨k + 1, m + q.2.length, lv8, _, hlt, by go_num, by go_num, HT, HK8.out, Hok8.out, Hsh2.out, Hfr2.out⟩
                  case measure => simp [intOf]; omega
              · obtain rfl : k = t.length := by omega
                have Hm : Hid (m = tsize t) := Lib.hid (by have := hm.out; rwa [List.take_length] at this)
                have hmb : m ≤ 700 * 262144 := by rw [Hm.out]; omega
                have HK := Lib.hid (HKa.out.trans hK); have Hok := Lib.hid hok; have Hsh := Lib.hid hsh; have Hfr := Lib.hid hfr
                have Havr := Lib.hid (Hav.out.keep hK)
                have HKr := Lib.hid hK
                clear hK hok hsh hfr hlt hk
                go_wp2_with fail
                have hl0 : l.length ≤ 300 := hl3
                go_loopw [13, 14, 15] (fun iv _d _e wr => ∃ (k : Nat) (lv : Value) (st : St), k ≤ l.length ∧ iv = .int .i64 k ∧ K w.heap.size w wr ∧ K w.heap.size w5 wr ∧ Ok wr w.heap.size s f y lv st ∧ Sh t (400 + l.length) st ∧ From ((l.drop k).map OpR.path) st) (fun iv _ _ _ => l.length - (intOf iv).toNat)
                case atStart => exact ⟨0, _, _, Nat.zero_le _, rfl, HK.out, HKr.out, Hok.out, Hsh.out, Hfr.out⟩
                case round =>
                  clear Hsh Hfr Hok HK HKr Havr
                  obtain ⟨k, lv, st, hk, rfl, hK, hKr, hok, hsh, hfr⟩ := hrel
                  by_cases hlt : k < l.length
                  · obtain ⟨o, ho⟩ : ∃ o, l[k]? = some o := ⟨_, List.getElem?_eq_getElem hlt⟩
                    obtain ⟨b, off, rfl, bvv, kv, h0, h1, h2, h3, h4, h5, h6, h7, _, _, l1, l2, l3, l4⟩ := Hx.out k o ho
                    replace h1 := cell_below' hK.below h1
                    rw [add_at] at h1
                    unfold S at h1
                    have hdir := fun W => Dir_any o.path W l1
                    unfold DirRPost S at hdir
                    obtain ⟨pb, hpb⟩ : ∃ pb, pb = pathB o.path := ⟨_, rfl⟩
                    rw [← hpb] at hdir
                    have HDir := Lib.hid hdir
                    have hz := hsh.sync (refDir o.path)
                    rw [paths_drop ho] at hfr
                    have hfz := hfr.next hsh.pw
                    have hdl : (refDir o.path).length ≤ maxLen := Nat.le_trans (refDir_len _) (Nat.le_trans l1 lim_le)
                    have hsy : ∀ W, K w.heap.size w W → Ok W w.heap.size s f y lv st → Calls Tryz.prog 17 #[.pointer (some ⟨s, 0, none⟩), .string ⟨(refDir o.path).toArray⟩] W (DoPost w.heap.size s f y (doN st (syncErr (refDir o.path))) (doSt st (syncErr (refDir o.path)) (syncedSt (refDir o.path) st)) W) := fun W hW ho2 => Sync_any ho2 hsh.bd (Het.out.keep hW hg) hg hdl
                    have Hsy := Lib.hid hsy; have Hsh2 := Lib.hid hz; have Hfr2 := Lib.hid hfz; have HK := Lib.hid hK; have HKr := Lib.hid hKr; have Hok := Lib.hid hok
                    have hsz : w.heap.size ≤ wr.heap.size := hok.base_le
                    clear hsy hz hfz hK hKr hok hsh hfr hdir hdl h0 h2 h3 h4 h5 h6 h7 hpb
                    go_wp2_with fail
                    refine (HDir.out _).mono ?_
                    rintro e w6 ⟨rfl, hB6⟩
                    have hk6 : K w.heap.size wr w6 := K.of_new (base := w.heap.size) hB6 hsz
                    have HK6 := Lib.hid (HK.out.trans hk6); have HKr6 := Lib.hid (HKr.out.trans hk6)
                    have Hok6 := Lib.hid (Hok.out.keep hB6)
                    clear hk6 hB6 h1
                    go_wp2_with fail
                    refine (Hsy.out _ HK6.out Hok6.out).mono ?_
                    rintro e w8 ⟨rfl, k8, lv8, hok8⟩
                    have HK8 := Lib.hid (HK6.out.trans k8); have HKr8 := Lib.hid (HKr6.out.trans k8); have Hok8 := Lib.hid hok8
                    clear k8 hok8
                    go_wp2_with fail
                    go_roundw
                    case rel => exact ⟨k + 1, lv8, _, hlt, by go_num, HK8.out, HKr8.out, Hok8.out, Hsh2.out, Hfr2.out⟩
                    case measure => simp [intOf]; omega
                  · obtain rfl : k = l.length := by omega
                    have hnone : st.loose = [] := by rw [List.drop_length] at hfr; exact hfr.none
                    have hlo := Loose_any hok
                    rw [hnone] at hlo
                    have Hlo := Lib.hid hlo
                    have hus := Used_any hok (by rw [hsh.files]; omega)
                    rw [hsh.files, ← Hm.out] at hus
                    have Hus := Lib.hid hus
                    have HK := Lib.hid hK; have HKr := Lib.hid hKr; have Hok := Lib.hid hok
                    have Hcr := Lib.hid (hsh.crash hnone)
                    have Hbd2 := Lib.hid hsh.bd
                    clear hlo hus hK hKr hok hsh hfr hnone hlt hk
                    go_wp2_with fail
                    refine Hlo.out.mono ?_
                    intro e w' hh
                    rw [hh.1, ← hh.2]
                    clear hh w'
                    go_wp2_with fail
                    refine Hus.out.mono ?_
                    rintro e w9 ⟨rfl, hB9⟩
                    have hk9 : K w.heap.size wr w9 := K.of_new (base := w.heap.size) hB9 Hok.out.base_le
                    have HK9 := Lib.hid (HK.out.trans hk9); have HKr9 := Lib.hid (HKr.out.trans hk9)
                    have hok9 := Hok.out.keep hB9
                    have Hcra := Lib.hid (Crash_any hok9 Hbd2.out (kv := .slice none 0 0) (ks := []) (.inl ⟨rfl, rfl⟩) (by unfold maxLen; simp))
                    have Hbc := Lib.hid (Hbd2.out.crash [])
                    clear hk9 hB9 hok9
                    go_wp2_with fail
                    refine Hcra.out.mono ?_
                    rintro e w10 ⟨rfl, k10, f10, hok10⟩
                    have HK10 := Lib.hid (HK9.out.trans k10); have HKr10 := Lib.hid (HKr9.out.trans k10)
                    have hfi := Files_any hok10 Hbc.out
                    rw [Hcr.out] at hfi
                    have Hfi2 := Lib.hid hfi
                    have hb10 : w.heap.size ≤ w10.heap.size := hok10.base_le
                    clear k10 hok10 hfi
                    go_wp2_with fail
                    refine Hfi2.out.mono ?_
                    rintro e w11 ⟨fin, rfl, hfin, hB11⟩
                    have hk11 : K w.heap.size w10 w11 := K.of_new (base := w.heap.size) hB11 hb10
                    have hsa := Same_any hfin.v (Hav.out.keep (HKr10.out.trans hk11)).v (by omega)
                    unfold SamePost at hsa
                    rw [decide_eq_true rfl] at hsa
                    obtain ⟨af, cf2, rfl⟩ := hfin.slice
                    have Hsa := Lib.hid hsa
                    have HK11 := Lib.hid (HK10.out.trans hk11)
                    clear hsa hfin hk11 hB11
                    go_wp2_with fail
                    refine Hsa.out.mono ?_
                    rintro e w12 ⟨rfl, hB12⟩
                    have HL12 := Lib.hid ((HK11.out.trans (K.of_new (base := w.heap.size) hB12 (by have := HK11.out.size; omega))).below)
                    clear hB12
                    go_wp2_with fail
                    go_ret
                    exact ⟨rfl, HL12.out⟩
end Go.Proofs.YtccloieikkdcoaaGreatDoor
