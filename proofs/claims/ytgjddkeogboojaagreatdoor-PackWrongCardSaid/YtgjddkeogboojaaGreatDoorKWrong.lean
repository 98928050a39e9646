/-
  Entries that may not be have no bytes, and are not resolved.
-/
import Derived.Test.YtgjddkeogboojaaGreatDoorKBack
import Derived.Test.YtgjddkeogboojaaGreatDoorC23
import Derived.Test.YtgjddkeogboojaaGreatDoorC24

namespace Go.Proofs.YtgjddkeogboojaaGreatDoor.Pk
open Go.Proofs.YtgjddkeogboojaaGreatDoor
open Go Go.RowKit Go.Maps

theorem eb0 (W : World) : (Instr.buildSlice 22 0 #[]).run Tryz.prog W = .ok (.slice (some ⟨W.heap.size, 0, none⟩) 0 0) (W.alloc (.cells #[] 51)) := by
  simp [go_sem]
theorem eb1 (W : World) (k b : Int) (s d : Bs) : (Instr.buildSlice 22 1 #[(0, .agg #[.int .i64 k, .int .i64 b, .string ⟨s.toArray⟩, .string ⟨d.toArray⟩])]).run Tryz.prog W = .ok (.slice (some ⟨W.heap.size, 0, none⟩) 1 1) (W.alloc (.cells #[.int .i64 k, .int .i64 b, .string ⟨s.toArray⟩, .string ⟨d.toArray⟩] 51)) := by
  simp [go_sem]
def LitE (W : World) (g : Nat) (x : Ent) : Prop := ∀ j u, (([x] : List Ent).flatMap entC)[j]? = some u → W.cell? ((⟨g, 0, none⟩ : Addr).add j) = some u
theorem lit_e (W : World) (k b : Int) (s d : Bs) : LitE (W.alloc (.cells #[.int .i64 k, .int .i64 b, .string ⟨s.toArray⟩, .string ⟨d.toArray⟩] 51)) W.heap.size ⟨k, b, s, d⟩ := fun j u hj => by
  rw [add_none', Nat.zero_add, cell_of_row (W.alloc _) W.heap.size j _ _ _ (heap_alloc_new W _)]
  simpa [entC, SV] using hj
theorem LitE.block {W W' : World} {g : Nat} {x : Ent} (h : LitE W g x) (hb : W'.heap[g]? = W.heap[g]?) : LitE W' g x := fun j u hj => by
  have h1 := h j u hj
  rw [add_none'] at h1 ⊢
  rw [← h1]
  exact World.cell?_of_block (w := W) (a := ⟨g, 0 + j, none⟩) hb
theorem right_snoc {l : List Ent} {x : Ent} (hl : rightL l = true) : rightL (l ++ [x]) = (okE l.length x && decide (l.length + 1 ≤ 512)) := by
  rw [Bool.eq_iff_iff, rightL_iff, Bool.and_eq_true, decide_eq_true_eq, List.length_append, List.length_singleton]
  have hh := (rightL_iff.1 hl).2
  constructor
  · rintro ⟨h1, h2⟩
    refine ⟨?_, h1⟩
    have := h2 l.length (by omega)
    rwa [List.getD_eq_getElem?_getD, List.getElem?_append_right (Nat.le_refl _), Nat.sub_self] at this
  · rintro ⟨h1, h2⟩
    refine ⟨h2, fun j hj => ?_⟩
    rcases Nat.lt_or_ge j l.length with h | h
    · rw [List.getD_eq_getElem?_getD, List.getElem?_append_left h, ← List.getD_eq_getElem?_getD]
      exact hh j h
    · obtain rfl : j = l.length := by omega
      rwa [List.getD_eq_getElem?_getD, List.getElem?_append_right (Nat.le_refl _), Nat.sub_self]
theorem res_shape {l : List Ent} {w w' : World} {e : Ending} (h : RsOP l [] w e w') : ∃ v n, e = .returned (.tuple #[v, .int .i64 n]) ∧ Below w.heap.size w w' ∧ (rightL l = false → n = 1) := by
  obtain ⟨hb, h⟩ := h
  cases hr : resolveE l [] with
  | ok T =>
    rw [hr] at h
    obtain ⟨v, rfl, -⟩ := h
    exact ⟨v, 0, rfl, hb, fun hf => by rw [resolve_wrong hf] at hr; cases hr⟩
  | error n =>
    rw [hr] at h
    exact ⟨_, n, h, hb, fun hf => by rw [resolve_wrong hf] at hr; cases hr; rfl⟩
theorem small_snoc {l : List Ent} {x : Ent} (h : SmallE l) (hx : SmallE [x]) : Smal (l ++ [x]) ∧ (∀ e ∈ l ++ [x], e.data.length ≤ 10000) ∧ (rightL (l ++ [x]) = true → (packL (l ++ [x])).length ≤ 40000) := by
  have hm : ∀ e ∈ l ++ [x], e.data.length < 9000 ∧ e.base.length < 9000 := fun e he => by
    rcases List.mem_append.1 he with he | he
    · exact h.mem he
    · exact hx.mem he
  have hlen := h.len
  refine ⟨⟨by simp; omega, fun e he => by have := hm e he; omega⟩, fun e he => by have := hm e he; omega, fun hr => ?_⟩
  have := (packL_len hr).1
  have hc : costs (l ++ [x]) = costs l + costs [x] := by unfold costs; simp
  unfold SmallE at h hx
  simp only [List.length_append, List.length_singleton] at this hx
  omega
theorem str_nil (b : Bool) (s : Bs) (hb : b = decide (s = [])) (W : World) : (binOp .eql 9 (.string ⟨s.toArray⟩) (.string ⟨#[]⟩)).run Tryz.prog W = .ok (.bool b) W := by
  have := nil_dec s
  cases s <;> simp_all [go_sem]
set_option maxHeartbeats 16000000 in
set_option maxRecDepth 100000 in
theorem Wrong_law (w : World) (hw : Wd w) (v : Value) (l : List Ent) (h : EntsR w v l) (hl : l.length ≤ limW) (kd bk : Int) (bs dt : Bs) (hbs : bs.length ≤ maxLen) :
    Calls Tryz.prog 9 #[v, .agg #[.int .i64 kd, .int .i64 bk, .string ⟨bs.toArray⟩, .string ⟨dt.toArray⟩]] w (RetBelow (.bool true) w) := by
  obtain ⟨w0, hw0⟩ : ∃ z, z = w.alloc (.cells #[.int .i64 kd, .int .i64 bk, .string ⟨bs.toArray⟩, .string ⟨dt.toArray⟩] 51) := ⟨_, rfl⟩
  have b0 : Below w.heap.size w w0 := by rw [hw0]; exact below_new w _
  have km0 : w0.heap[w.heap.size]? = some (.cells #[.int .i64 kd, .int .i64 bk, .string ⟨bs.toArray⟩, .string ⟨dt.toArray⟩] 51 (0, 0)) := by rw [hw0]; exact heap_alloc_new w _
  obtain ⟨x0, x1, x2, x3⟩ := cells4 km0
  have HX := Lib.hid (And.intro x0 (And.intro x1 (And.intro x2 x3)))
  have hw' := hw.below b0
  have hx' := h.below b0 (Nat.le_refl _)
  have HH := Lib.hid (head_any w0 hw')
  have HG := Lib.hid (fun W (hW : Below w0.heap.size w0 W) => Great_any' (hx'.below hW (Nat.le_refl _)) hl)
  obtain ⟨A, ca, rfl⟩ := h.shape
  have Hx := Lib.hid hx'; have Hw := Lib.hid hw'; have HB0 := Lib.hid b0; have HW0 := Lib.hid hw0; have Hbs := Lib.hid hbs
  obtain ⟨p, hp⟩ : ∃ p, p = w.heap.size := ⟨_, rfl⟩
  have HP : Hid (w.heap.size = p) := Lib.hid hp.symm
  rw [← hp] at HX
  clear h hw hw' hx' b0 km0 x0 x1 x2 x3 hw0 hl hp hbs
  go_enter Tryz.func9, Tryz.ntmps9
  go_upto_region 1 with fail
  rw [← HW0.out, HP.out]
  clear HW0
  go_wp2_with fail
  refine HH.out.mono ?_
  rintro e w1 ⟨rfl, b1⟩
  have H1 := Lib.hid b1
  have HG1 := Lib.hid (HG.out w1 b1)
  have HX1 := Lib.hid (And.intro (cell_to HX.out.1 b1) (And.intro (cell_to HX.out.2.1 b1) (And.intro (cell_to HX.out.2.2.1 b1) (cell_to HX.out.2.2.2 b1))))
  clear b1 HH HG
  go_wp2_with fail
  refine HG1.out.mono ?_
  rintro e w2 ⟨gr, rfl, b2, hsm⟩
  have H2 := Lib.hid (H1.out.trans (b2.mono H1.out.size))
  obtain ⟨x0, x1, x2, x3⟩ : w2.cell? ⟨p, 0, none⟩ = some (.int .i64 kd) ∧ w2.cell? ⟨p, 1, none⟩ = some (.int .i64 bk) ∧ w2.cell? ⟨p, 2, none⟩ = some (.string ⟨bs.toArray⟩) ∧ w2.cell? ⟨p, 3, none⟩ = some (.string ⟨dt.toArray⟩) := ⟨cell_to HX1.out.1 b2, cell_to HX1.out.2.1 b2, cell_to HX1.out.2.2.1 b2, cell_to HX1.out.2.2.2 b2⟩
  clear b2 HG1 HX1 HX
  cases gr with
  | true =>
    clear hsm
    go_wp2_with fail
    go_ret
    exact ⟨rfl, HB0.out.trans (H2.out.mono HB0.out.size)⟩
  | false =>
    replace hsm := hsm rfl
    have HG2 := Lib.hid (Great_any' (ents_one w2 ⟨kd, bk, bs, dt⟩) (by show 1 ≤ _; unfold limW; omega))
    have Hsm := Lib.hid hsm
    have HXX := Lib.hid (And.intro x0 (And.intro x1 (And.intro x2 x3)))
    clear hsm
    go_wp2_with fail
    refine HG2.out.mono ?_
    rintro e w3 ⟨g2, rfl, b3, hs2⟩
    have b23 := (below_new w2 (.cells #[.int .i64 kd, .int .i64 bk, .string ⟨bs.toArray⟩, .string ⟨dt.toArray⟩] 51)).trans (b3.mono (by simp))
    have H3 := Lib.hid (H2.out.trans (b23.mono H2.out.size))
    clear x0 x1 x2 x3
    obtain ⟨x0, x1, x2, x3⟩ : w3.cell? ⟨p, 0, none⟩ = some (.int .i64 kd) ∧ w3.cell? ⟨p, 1, none⟩ = some (.int .i64 bk) ∧ w3.cell? ⟨p, 2, none⟩ = some (.string ⟨bs.toArray⟩) ∧ w3.cell? ⟨p, 3, none⟩ = some (.string ⟨dt.toArray⟩) := ⟨cell_to HXX.out.1 b23, cell_to HXX.out.2.1 b23, cell_to HXX.out.2.2.1 b23, cell_to HXX.out.2.2.2 b23⟩
    clear b3 b23 HG2 HXX
    cases g2 with
    | true =>
      clear hs2
      go_wp2_with fail
      go_ret
      exact ⟨rfl, HB0.out.trans (H3.out.mono HB0.out.size)⟩
    | false =>
      replace hs2 := hs2 rfl
      have Hs2 := Lib.hid hs2
      have HRi := Lib.hid (Right_any' (Hx.out.below H3.out (Nat.le_refl _)) Hsm.out.smal)
      obtain ⟨rr, hrr⟩ : ∃ rr, rr = rightL l := ⟨_, rfl⟩
      rw [← hrr] at HRi
      have HXX := Lib.hid (And.intro x0 (And.intro x1 (And.intro x2 x3)))
      have Hrr := Lib.hid hrr
      clear hs2 hrr x0 x1 x2 x3
      go_wp2_with fail
      refine HRi.out.mono ?_
      rintro e w4 ⟨rfl, b4⟩
      have H4 := Lib.hid (H3.out.trans (b4.mono H3.out.size))
      obtain ⟨x0, x1, x2, x3⟩ : w4.cell? ⟨p, 0, none⟩ = some (.int .i64 kd) ∧ w4.cell? ⟨p, 1, none⟩ = some (.int .i64 bk) ∧ w4.cell? ⟨p, 2, none⟩ = some (.string ⟨bs.toArray⟩) ∧ w4.cell? ⟨p, 3, none⟩ = some (.string ⟨dt.toArray⟩) := ⟨cell_to HXX.out.1 b4, cell_to HXX.out.2.1 b4, cell_to HXX.out.2.2.1 b4, cell_to HXX.out.2.2.2 b4⟩
      clear b4 HRi HXX
      cases rr with
      | false =>
        go_wp2_with fail
        go_ret
        exact ⟨rfl, HB0.out.trans (H4.out.mono HB0.out.size)⟩
      | true =>
        have HXX := Lib.hid (And.intro x0 (And.intro x1 (And.intro x2 x3)))
        clear x0 x1 x2 x3
        go_upto_region 4 with fail
        go_cut [6] from 29 to 34 (fun v6 wx => ∃ A6 c6, v6 = .slice A6 (l.length + 1) c6 ∧ Hid (EntsR wx (.slice A6 (l.length + 1) c6) (l ++ [⟨kd, bk, bs, dt⟩]) ∧ Below w4.heap.size w4 wx))
        case first =>
          have hll := Hsm.out.len
          have HR4 := Lib.hid (fun W (hW : Below w4.heap.size w4 W) => (Hx.out.below H4.out (Nat.le_refl _)).below hW (Nat.le_refl _))
          have HLd : Hid (∀ W, Below w4.heap.size w4 W → (Instr.loadAt 51 (.pointer (some ⟨p, 0, none⟩))).run Tryz.prog W = .ok (.agg #[.int .i64 kd, .int .i64 bk, .string ⟨bs.toArray⟩, .string ⟨dt.toArray⟩]) W) := Lib.hid fun W hW => by
            have p0 := cell_to HXX.out.1 hW; have p1 := cell_to HXX.out.2.1 hW; have p2 := cell_to HXX.out.2.2.1 hW; have p3 := cell_to HXX.out.2.2.2 hW
            simp [go_sem, p0, p1, p2, p3]
          refine AnyK.start w4.heap.size w4 (by kernel_rfl) ?_
          have LD := Lib.hid (show Below w4.heap.size w4 w4.drew from (Below.refl _ _).drew)
          generalize w4.drew = wd at LD ⊢
          refine AnyK.take 1 (.slice A l.length ca) (LD.out) rfl (by kernel_rfl) (by kernel_rfl) (by kernel_rfl) (fun _ _ _ h => h) (by kernel_rfl) (fun W hW => by kernel_rfl) ?_
          refine AnyK.take 3 (.agg #[.int .i64 kd, .int .i64 bk, .string ⟨bs.toArray⟩, .string ⟨dt.toArray⟩]) (LD.out) rfl (by kernel_rfl) (by kernel_rfl) (by kernel_rfl) (fun _ _ _ h => h) (by kernel_rfl) (fun W hW => y_load (sv := .pointer (some ⟨p, 0, none⟩)) rfl (by kernel_rfl) (HLd.out W hW)) ?_
          have P0 := below_new wd (.cells #[] 51)
          have P1 := below_new wd (.cells #[.int .i64 kd, .int .i64 bk, .string ⟨bs.toArray⟩, .string ⟨dt.toArray⟩] 51)
          refine AnyK.two 0 4 (by kernel_rfl) (.slice (some ⟨wd.heap.size, 0, none⟩) 0 0) (.slice (some ⟨wd.heap.size, 0, none⟩) 1 1) (wd.alloc (.cells #[] 51)) (wd.alloc (.cells #[.int .i64 kd, .int .i64 bk, .string ⟨bs.toArray⟩, .string ⟨dt.toArray⟩] 51)) rfl rfl (by kernel_rfl) (by kernel_rfl) (y_build rfl (by kernel_rfl) (eb0 wd)) (y_build rfl (by kernel_rfl) (eb1 wd kd bk bs dt)) (LD.out.trans (P0.mono LD.out.size)) (LD.out.trans (P1.mono LD.out.size)) ?_ ?_
          · have hn := OwK.new0 (t := 51) (k := 4) (f := entC) wd wd.heap.size (Nat.le_refl _)
            have hlt4 : wd.heap.size < (wd.alloc (.cells #[] 51)).heap.size := by simp
            generalize wd.alloc (.cells #[] 51) = w5 at P0 hn hlt4 ⊢
            clear P1
            obtain ⟨v1, wa, g1, o1, b1, r1⟩ := run_all entK hn (HR4.out w5 (LD.out.trans (P0.mono LD.out.size))) (by simp; omega) (by decide) P0.size 22
            refine AnyK.two 2 4 (by kernel_rfl) v1 (.slice (some ⟨w5.heap.size, 0, none⟩) 1 1) wa (w5.alloc (.cells #[.int .i64 kd, .int .i64 bk, .string ⟨bs.toArray⟩, .string ⟨dt.toArray⟩] 51)) rfl rfl (by kernel_rfl) (by kernel_rfl) (y_append rfl (by kernel_rfl) (by kernel_rfl) g1) (y_build rfl (by kernel_rfl) (eb1 w5 kd bk bs dt)) (LD.out.trans ((P0.trans b1).mono LD.out.size)) (LD.out.trans ((P0.trans ((below_new w5 _).mono P0.size)).mono LD.out.size)) ?_ ?_
            · have P2 := P0.trans b1
              refine AnyK.op 4 (.slice (some ⟨wa.heap.size, 0, none⟩) 1 1) (wa.alloc (.cells #[.int .i64 kd, .int .i64 bk, .string ⟨bs.toArray⟩, .string ⟨dt.toArray⟩] 51)) (by kernel_rfl) rfl (by kernel_rfl) (y_build rfl (by kernel_rfl) (eb1 wa kd bk bs dt)) (LD.out.trans ((P2.trans ((below_new wa _).mono P2.size)).mono LD.out.size)) ?_
              have P3 := P2.trans ((below_new wa (.cells #[.int .i64 kd, .int .i64 bk, .string ⟨bs.toArray⟩, .string ⟨dt.toArray⟩] 51)).mono P2.size)
              have o2 := o1.below (below_new wa (.cells #[.int .i64 kd, .int .i64 bk, .string ⟨bs.toArray⟩, .string ⟨dt.toArray⟩] 51)) (Nat.le_refl _)
              have k2 := lit_e wa kd bk bs dt
              clear g1 o1 b1 r1 hn
              obtain ⟨v3, we, g3, o3, b3, _⟩ := run_appK entK o2 ⟨wa.heap.size, 0, none⟩ 1 1 (m := [⟨kd, bk, bs, dt⟩]) rfl k2 (by simp; omega) (by decide) P3.size 22
              refine AnyK.op 5 v3 we (by kernel_rfl) rfl (by kernel_rfl) (y_append rfl (by kernel_rfl) (by kernel_rfl) g3) (LD.out.trans ((P3.trans b3).mono LD.out.size)) ?_
              have ME := Lib.hid (LD.out.trans ((P3.trans b3).mono LD.out.size))
              have o3' : NewE wd.heap.size we v3 (l ++ [⟨kd, bk, bs, dt⟩]) := by rw [List.nil_append] at o3; exact OwK.mono o3 (Nat.le_refl _)
              have hr3 := o3'.rd
              obtain ⟨A3, c3, e3⟩ := hr3.shape
              have e3' : v3 = .slice A3 (l.length + 1) c3 := by rw [e3]; simp
              subst e3'
              have HFin := Lib.hid (And.intro hr3 ME.out)
              refine AnyK.take 6 (.slice A3 (l.length + 1) c3) (ME.out) rfl (by kernel_rfl) (by kernel_rfl) (by kernel_rfl) (fun _ _ _ h => h) (by kernel_rfl) (fun W hW => by kernel_rfl) ?_
              refine AnyK.done _ (by kernel_rfl) ?_
              clear g3 o3 o3' b3 hr3 e3
              go_simp
              go_wp2
              go_meet
              case rel => exact ⟨A3, c3, rfl, HFin⟩
            · clear g1 o1 b1 r1 v1 wa
              have k1 := lit_e w5 kd bk bs dt
              have hn2 := hn.below (below_new w5 (.cells #[.int .i64 kd, .int .i64 bk, .string ⟨bs.toArray⟩, .string ⟨dt.toArray⟩] 51)) (Nat.le_refl _)
              have P2 := P0.trans ((below_new w5 (.cells #[.int .i64 kd, .int .i64 bk, .string ⟨bs.toArray⟩, .string ⟨dt.toArray⟩] 51)).mono P0.size)
              have h5 : w5.heap.size < (w5.alloc (.cells #[.int .i64 kd, .int .i64 bk, .string ⟨bs.toArray⟩, .string ⟨dt.toArray⟩] 51)).heap.size := by simp
              generalize w5.alloc (.cells #[.int .i64 kd, .int .i64 bk, .string ⟨bs.toArray⟩, .string ⟨dt.toArray⟩] 51) = w6 at P2 hn2 k1 h5 ⊢
              obtain ⟨v1, wa, g1, o1, b1, r1⟩ := run_all entK hn2 (HR4.out w6 (LD.out.trans (P2.mono LD.out.size))) (by simp; omega) (by decide) P2.size 22
              refine AnyK.op 2 v1 wa (by kernel_rfl) rfl (by kernel_rfl) (y_append rfl (by kernel_rfl) (by kernel_rfl) g1) (LD.out.trans ((P2.trans b1).mono LD.out.size)) ?_
              have P3 := P2.trans b1
              have k2 := k1.block (r1.block w5.heap.size h5 (fun e => by have e2 : w5.heap.size = wd.heap.size := Option.some.inj e; omega))
              obtain ⟨v3, we, g3, o3, b3, _⟩ := run_appK entK o1 ⟨w5.heap.size, 0, none⟩ 1 1 (m := [⟨kd, bk, bs, dt⟩]) rfl k2 (by simp; omega) (by decide) P3.size 22
              refine AnyK.op 5 v3 we (by kernel_rfl) rfl (by kernel_rfl) (y_append rfl (by kernel_rfl) (by kernel_rfl) g3) (LD.out.trans ((P3.trans b3).mono LD.out.size)) ?_
              have ME := Lib.hid (LD.out.trans ((P3.trans b3).mono LD.out.size))
              have o3' : NewE wd.heap.size we v3 (l ++ [⟨kd, bk, bs, dt⟩]) := by rw [List.nil_append] at o3; exact OwK.mono o3 (Nat.le_refl _)
              have hr3 := o3'.rd
              obtain ⟨A3, c3, e3⟩ := hr3.shape
              have e3' : v3 = .slice A3 (l.length + 1) c3 := by rw [e3]; simp
              subst e3'
              have HFin := Lib.hid (And.intro hr3 ME.out)
              refine AnyK.take 6 (.slice A3 (l.length + 1) c3) (ME.out) rfl (by kernel_rfl) (by kernel_rfl) (by kernel_rfl) (fun _ _ _ h => h) (by kernel_rfl) (fun W hW => by kernel_rfl) ?_
              refine AnyK.done _ (by kernel_rfl) ?_
              clear g3 o3 o3' b3 hr3 e3
              go_simp
              go_wp2
              go_meet
              case rel => exact ⟨A3, c3, rfl, HFin⟩
          · have k1 := lit_e wd kd bk bs dt
            have h5 : wd.heap.size < (wd.alloc (.cells #[.int .i64 kd, .int .i64 bk, .string ⟨bs.toArray⟩, .string ⟨dt.toArray⟩] 51)).heap.size := by simp
            generalize wd.alloc (.cells #[.int .i64 kd, .int .i64 bk, .string ⟨bs.toArray⟩, .string ⟨dt.toArray⟩] 51) = w5 at P1 k1 h5 ⊢
            clear P0
            refine AnyK.op 0 (.slice (some ⟨w5.heap.size, 0, none⟩) 0 0) (w5.alloc (.cells #[] 51)) (by kernel_rfl) rfl (by kernel_rfl) (y_build rfl (by kernel_rfl) (eb0 w5)) (LD.out.trans ((P1.trans ((below_new w5 _).mono P1.size)).mono LD.out.size)) ?_
            have hn := OwK.new0 (t := 51) (k := 4) (f := entC) w5 w5.heap.size (Nat.le_refl _)
            have Q0 := below_new w5 (.cells #[] 51)
            have P2 := P1.trans (Q0.mono P1.size)
            generalize w5.alloc (.cells #[] 51) = w6 at P2 Q0 hn ⊢
            obtain ⟨v1, wa, g1, o1, b1, r1⟩ := run_all entK hn (HR4.out w6 (LD.out.trans (P2.mono LD.out.size))) (by simp; omega) (by decide) Q0.size 22
            refine AnyK.op 2 v1 wa (by kernel_rfl) rfl (by kernel_rfl) (y_append rfl (by kernel_rfl) (by kernel_rfl) g1) (LD.out.trans ((P1.trans ((Q0.trans b1).mono P1.size)).mono LD.out.size)) ?_
            have P3 := Q0.trans b1
            have k2 := k1.block (P3.block _ h5)
            have P4 := P1.trans (P3.mono P1.size)
            obtain ⟨v3, we, g3, o3, b3, _⟩ := run_appK entK o1 ⟨wd.heap.size, 0, none⟩ 1 1 (m := [⟨kd, bk, bs, dt⟩]) rfl k2 (by simp; omega) (by decide) P3.size 22
            refine AnyK.op 5 v3 we (by kernel_rfl) rfl (by kernel_rfl) (y_append rfl (by kernel_rfl) (by kernel_rfl) g3) (LD.out.trans ((P4.trans (b3.mono P1.size)).mono LD.out.size)) ?_
            have ME := Lib.hid (LD.out.trans ((P4.trans (b3.mono P1.size)).mono LD.out.size))
            have o3' : NewE wd.heap.size we v3 (l ++ [⟨kd, bk, bs, dt⟩]) := by rw [List.nil_append] at o3; exact OwK.mono o3 P1.size
            have hr3 := o3'.rd
            obtain ⟨A3, c3, e3⟩ := hr3.shape
            have e3' : v3 = .slice A3 (l.length + 1) c3 := by rw [e3]; simp
            subst e3'
            have HFin := Lib.hid (And.intro hr3 ME.out)
            refine AnyK.take 6 (.slice A3 (l.length + 1) c3) (ME.out) rfl (by kernel_rfl) (by kernel_rfl) (by kernel_rfl) (fun _ _ _ h => h) (by kernel_rfl) (fun W hW => by kernel_rfl) ?_
            refine AnyK.done _ (by kernel_rfl) ?_
            clear g3 o3 o3' b3 hr3 e3
            go_simp
            go_wp2
            go_meet
            case rel => exact ⟨A3, c3, rfl, HFin⟩
        case rest =>
          obtain ⟨A6, c6, rfl, HI⟩ := hcut
          obtain ⟨wz, hwz⟩ : ∃ z, z = wc := ⟨_, rfl⟩
          subst hwz
          have p0 := cell_to HXX.out.1 HI.out.2; have p1 := cell_to HXX.out.2.1 HI.out.2; have p2 := cell_to HXX.out.2.2.1 HI.out.2; have p3 := cell_to HXX.out.2.2.2 HI.out.2
          obtain ⟨b, hb⟩ : ∃ b, b = decide (bs = []) := ⟨_, rfl⟩
          have hnd := nil_dec bs
          rw [← hb] at hnd
          obtain ⟨nb, hnb⟩ : ∃ nb, nb = namedB bs := ⟨_, rfl⟩
          have HNm := Lib.hid (fun W => RNamed_any bs W Hbs.out)
          rw [← hnb] at HNm
          unfold SV at HNm
          have hdl : dt.length < 9000 := (Hs2.out.mem (x := ⟨kd, bk, bs, dt⟩) (by simp)).1
          have HB := Lib.hid hb; have HNb := Lib.hid hnb; have Hdl := Lib.hid hdl
          clear hb hnb hdl HXX
          go_upto_region 5 with fail
          go_cut [7] from 35 to 52 (fun v7 wx => v7 = .bool (decide (1 ≤ kd) && (decide (kd ≤ 4) && (decide (bk = 0) && b))) ∧ wz = wx)
          case first =>
            by_cases k1 : 1 ≤ kd
            · by_cases k4 : kd ≤ 4
              · by_cases k0 : bk = 0
                · have e0 : (bk == 0) = true := by simpa using k0
                  have HE := Lib.hid (show (decide (1 ≤ kd) && (decide (kd ≤ 4) && (decide (bk = 0) && b))) = b by simp [k1, k4, k0])
                  clear k0
                  go_wp2
                  go_meet
                  case rel => exact ⟨by rw [HE.out], rfl⟩
                · have e0 : (bk == 0) = false := by simpa using k0
                  have HE := Lib.hid (show (decide (1 ≤ kd) && (decide (kd ≤ 4) && (decide (bk = 0) && b))) = false by simp [k0])
                  clear k0
                  go_wp2
                  go_meet
                  case rel => exact ⟨by rw [HE.out], rfl⟩
              · skip
                have HE := Lib.hid (show (decide (1 ≤ kd) && (decide (kd ≤ 4) && (decide (bk = 0) && b))) = false by simp [k4])
                go_wp2
                go_meet
                case rel => exact ⟨by rw [HE.out], rfl⟩
            · skip
              have HE := Lib.hid (show (decide (1 ≤ kd) && (decide (kd ≤ 4) && (decide (bk = 0) && b))) = false by simp [k1])
              go_wp2
              go_meet
              case rel => exact ⟨by rw [HE.out], rfl⟩
          case rest =>
          obtain ⟨rfl, hz⟩ := hcut
          subst hz
          obtain ⟨wh, hwh⟩ : ∃ wh, wh = (decide (1 ≤ kd) && (decide (kd ≤ 4) && (decide (bk = 0) && b))) := ⟨_, rfl⟩
          rw [← hwh]
          have HWh := Lib.hid hwh
          clear hwh
          go_upto_region 6 with fail
          go_cut [8] from 53 to 72 (fun v8 wx => v8 = .bool (decide (kd = 6) && (decide (1 ≤ bk) && (decide (bk ≤ (l.length : Int)) && b))) ∧ wz = wx)
          case first =>
            by_cases k6 : kd = 6
            · have e6 : (kd == 6) = true := by simpa using k6
              by_cases k1 : 1 ≤ bk
              · by_cases k2 : bk ≤ (l.length : Int)
                · skip
                  have HE := Lib.hid (show (decide (kd = 6) && (decide (1 ≤ bk) && (decide (bk ≤ (l.length : Int)) && b))) = b by simp [k6, k1, k2])
                  clear k6
                  go_wp2
                  go_meet
                  case rel => exact ⟨by rw [HE.out], rfl⟩
                · skip
                  have HE := Lib.hid (show (decide (kd = 6) && (decide (1 ≤ bk) && (decide (bk ≤ (l.length : Int)) && b))) = false by simp [k2])
                  clear k6
                  go_wp2
                  go_meet
                  case rel => exact ⟨by rw [HE.out], rfl⟩
              · skip
                have HE := Lib.hid (show (decide (kd = 6) && (decide (1 ≤ bk) && (decide (bk ≤ (l.length : Int)) && b))) = false by simp [k1])
                clear k6
                go_wp2
                go_meet
                case rel => exact ⟨by rw [HE.out], rfl⟩
            · have e6 : (kd == 6) = false := by simpa using k6
              have HE := Lib.hid (show (decide (kd = 6) && (decide (1 ≤ bk) && (decide (bk ≤ (l.length : Int)) && b))) = false by simp [k6])
              clear k6
              go_wp2
              go_meet
              case rel => exact ⟨by rw [HE.out], rfl⟩
          case rest =>
          obtain ⟨rfl, hz⟩ := hcut
          subst hz
          obtain ⟨bc, hbc⟩ : ∃ bc, bc = (decide (kd = 6) && (decide (1 ≤ bk) && (decide (bk ≤ (l.length : Int)) && b))) := ⟨_, rfl⟩
          rw [← hbc]
          have HBc := Lib.hid hbc
          clear hbc
          go_upto_region 7 with fail
          go_cut [9] from 73 to 85 (fun v9 wx => v9 = .bool (decide (kd = 7) && (decide (bk = 0) && nb)) ∧ wz = wx)
          case first =>
            by_cases k7 : kd = 7
            · have e7 : (kd == 7) = true := by simpa using k7
              by_cases k0 : bk = 0
              · have e0 : (bk == 0) = true := by simpa using k0
                have HE := Lib.hid (show (decide (kd = 7) && (decide (bk = 0) && nb)) = nb by simp [k7, k0])
                clear k7 k0
                go_wp2_with fail
                refine (HNm.out _).mono ?_
                rintro e wn ⟨rfl, rfl⟩
                go_wp2
                go_meet
                case rel => exact ⟨by rw [HE.out], rfl⟩
              · have e0 : (bk == 0) = false := by simpa using k0
                have HE := Lib.hid (show (decide (kd = 7) && (decide (bk = 0) && nb)) = false by simp [k0])
                clear k7 k0
                go_wp2
                go_meet
                case rel => exact ⟨by rw [HE.out], rfl⟩
            · have e7 : (kd == 7) = false := by simpa using k7
              have HE := Lib.hid (show (decide (kd = 7) && (decide (bk = 0) && nb)) = false by simp [k7])
              clear k7
              go_wp2
              go_meet
              case rel => exact ⟨by rw [HE.out], rfl⟩
          case rest =>
          obtain ⟨rfl, hz⟩ := hcut
          subst hz
          obtain ⟨ba, hba⟩ : ∃ ba, ba = (decide (kd = 7) && (decide (bk = 0) && nb)) := ⟨_, rfl⟩
          rw [← hba]
          have HBa := Lib.hid hba
          clear hba
          go_upto_region 8 with fail
          go_cut [10] from 86 to 103 (fun v10 wx => v10 = .bool ((wh || (bc || ba)) && decide (l.length + 1 ≤ 512)) ∧ wz = wx)
          case first =>
            have hdl : (dt.length : Int) ≤ 65536 := by have := Hdl.out; omega
            have HF : Hid (((decide (((l.length + 1 : Nat) : Int) ≤ 512)) = decide (l.length + 1 ≤ 512))) := Lib.hid (by rw [decide_eq_decide]; omega)
            by_cases hq : l.length + 1 ≤ 512
            · have hqI : (l.length : Int) + 1 ≤ 512 := by omega
              have HE := Lib.hid (decide_eq_true hq)
              clear hq
              cases wh <;> cases bc <;> cases ba
              all_goals
                go_wp2
                go_meet
                case rel => exact ⟨by first | (rw [HE.out]; rfl) | (rw [HE.out]; simp [hqI]), rfl⟩
            · have hqI : ¬ (l.length : Int) + 1 ≤ 512 := by omega
              have HE := Lib.hid (decide_eq_false hq)
              clear hq
              cases wh <;> cases bc <;> cases ba
              all_goals
                go_wp2
                go_meet
                case rel => exact ⟨by first | (rw [HE.out]; rfl) | (rw [HE.out]; simp [hqI]), rfl⟩
          case rest =>
          obtain ⟨rfl, hz⟩ := hcut
          subst hz
          obtain ⟨fi, hfi⟩ : ∃ fi, fi = ((wh || (bc || ba)) && decide (l.length + 1 ≤ 512)) := ⟨_, rfl⟩
          rw [← hfi]
          have HFi : Hid (rightL (l ++ [⟨kd, bk, bs, dt⟩]) = fi) := Lib.hid (by
            rw [right_snoc Hrr.out.symm, hfi]
            congr 1
            unfold okE standsB
            simp only
            have hd : decide (dt.length ≤ 65536) = true := decide_eq_true (by have := Hdl.out; omega)
            rw [hd, Bool.true_and, HWh.out, HBc.out, HBa.out, HB.out, HNb.out]
            clear hfi HWh HBc HBa HB HNb
            by_cases a1 : kd = 1 ∨ kd = 2 ∨ kd = 3 ∨ kd = 4
            · rw [if_pos a1]
              rcases a1 with rfl | rfl | rfl | rfl <;> simp
            · rw [if_neg a1]
              have a2 : ¬ (1 ≤ kd ∧ kd ≤ 4) := by omega
              by_cases a6 : kd = 6
              · subst a6; simp
              · rw [if_neg a6]
                by_cases a7 : kd = 7
                · subst a7; simp
                · rw [if_neg a7]
                  have a3 : (decide (1 ≤ kd) && (decide (kd ≤ 4) && (decide (bk = 0) && decide (bs = [])))) = false := by
                    by_cases z1 : 1 ≤ kd
                    · have z4 : ¬ kd ≤ 4 := fun z => a2 ⟨z1, z⟩
                      simp [z4]
                    · simp [z1]
                  rw [a3]
                  simp [a6, a7])
          obtain ⟨hsl, hsd, hsp⟩ := small_snoc Hsm.out Hs2.out
          have H5 := Lib.hid (H4.out.trans (HI.out.2.mono H4.out.size))
          have HPut := Lib.hid (Put_any HI.out.1 hsl hsp (Hw.out.below H5.out).ob.pr (Hw.out.below H5.out).et)
          have Hsl := Lib.hid hsl; have Hsd := Lib.hid hsd
          clear hfi hsl hsd hsp HWh HBc HBa HB HNb p0 p1 p2 p3 hnd HNm
          go_wp2_with fail
          refine HPut.out.mono ?_
          rintro e w7 ⟨b7, ⟨hr, rfl⟩ | ⟨hr, A9, N9, c9, rfl, -, -⟩⟩
          · have hf : fi = false := HFi.out.symm.trans hr
            subst hf
            have H7 := Lib.hid (H5.out.trans (b7.mono H5.out.size)); have HI7 := Lib.hid (HI.out.1.below b7 (Nat.le_refl _))
            have HRs := Lib.hid (Resolve_nil HI7.out Hsl.out Hsd.out (Hw.out.below H7.out))
            have Hr := Lib.hid hr
            clear b7 hr HPut
            go_wp2_with fail
            refine HRs.out.mono ?_
            intro e w8 hh
            obtain ⟨v8, n8, he, b8, hn8⟩ := res_shape hh
            rw [he, hn8 Hr.out]
            have H8 := Lib.hid (H7.out.trans (b8.mono H7.out.size)); have HI8 := Lib.hid (HI7.out.below b8 (Nat.le_refl _))
            have HRi := Lib.hid (Right_any' HI8.out Hsl.out)
            rw [HFi.out] at HRi
            clear he hh b8 hn8 HRs
            go_wp2_with fail
            refine HRi.out.mono ?_
            rintro e w9 ⟨rfl, b9⟩
            have H9 := Lib.hid (H8.out.trans (b9.mono H8.out.size))
            clear b9 HRi
            go_wp2
            go_ret
            exact ⟨rfl, HB0.out.trans (H9.out.mono HB0.out.size)⟩
          · have hf : fi = true := HFi.out.symm.trans hr
            subst hf
            have H7 := Lib.hid (H5.out.trans (b7.mono H5.out.size)); have HI7 := Lib.hid (HI.out.1.below b7 (Nat.le_refl _))
            have HRs := Lib.hid (Resolve_nil HI7.out Hsl.out Hsd.out (Hw.out.below H7.out))
            clear b7 hr HPut
            go_wp2_with fail
            refine HRs.out.mono ?_
            intro e w8 hh
            obtain ⟨v8, n8, he, b8, -⟩ := res_shape hh
            rw [he]
            have H8 := Lib.hid (H7.out.trans (b8.mono H7.out.size)); have HI8 := Lib.hid (HI7.out.below b8 (Nat.le_refl _))
            have HRi := Lib.hid (Right_any' HI8.out Hsl.out)
            rw [HFi.out] at HRi
            clear he hh b8 HRs
            go_wp2_with fail
            refine HRi.out.mono ?_
            rintro e w9 ⟨rfl, b9⟩
            have H9 := Lib.hid (H8.out.trans (b9.mono H8.out.size))
            clear b9 HRi
            go_wp2
            go_ret
            exact ⟨rfl, HB0.out.trans (H9.out.mono HB0.out.size)⟩
end Go.Proofs.YtgjddkeogboojaaGreatDoor.Pk
