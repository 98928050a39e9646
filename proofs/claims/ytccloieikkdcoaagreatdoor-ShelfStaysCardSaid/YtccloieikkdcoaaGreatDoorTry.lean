/-
  What Write, Rename and Remove do, if there is power: their closures.
-/
import Derived.Test.YtccloieikkdcoaaGreatDoorAdd
import Derived.Test.YtccloieikkdcoaaGreatDoorClone
namespace Go.Proofs.YtccloieikkdcoaaGreatDoor
open Go Go.RowKit Go.Maps

/-- What a closure that tries an act comes to: er tells the error, 0 none; then the shelf is st'. -/
def TryPost (base s f y : Nat) (st : St) (er : Int) (st' : St) (w : World) (e : Ending) (w' : World) : Prop :=
  ∃ ev lv, e = .returned ev ∧ K base w w' ∧ ((er = 0 ∧ ev = .nilIface ∧ Ok w' base s f y lv st') ∨ (er ≠ 0 ∧ FaultIn w' ev er ∧ Ok w' base s f y lv st))

theorem RowIn.mono {w : World} {base b' : Nat} {v : Value} {b : By} (h : RowIn w base v b) (hb : b' ≤ base) : RowIn w b' v b := by
  obtain ⟨h1, h2⟩ := h
  refine ⟨h1, ?_⟩
  rcases h2 with h2 | ⟨g, cap, cur, e, hg, r⟩
  · exact .inl h2
  · exact .inr ⟨g, cap, cur, e, Nat.le_trans hb hg, r⟩

theorem below_undrew {w w' : World} (h : Below w.drew.heap.size w.drew w') : Below w.heap.size w w' := ⟨h.os, h.tape, h.output, h.size, h.block⟩
theorem cell_below {w w' : World} (h : Below w.heap.size w w') {a : Addr} {v : Value} (hc : w.cell? a = some v) : w'.cell? a = some v := (h.cell (World.block_lt_of_cell? w a hc)).trans hc
theorem cell_keep {w w' : World} {base : Nat} (k : K base w w') {b : Nat} {v : Value} {t : TypeId} (hb : w.heap[b]? = some (.cells #[v] t (0, 0))) (ht : mutT t = false) : w'.cell? ⟨b, 0, none⟩ = some v := cell_of_one (k.const _ _ _ _ hb ht)

theorem fits_write {p b : By} (h : p.length ≤ maxLen) : (Act.write p b).fits := h

set_option maxHeartbeats 4000000 in
set_option maxRecDepth 100000 in
theorem tryWrite {w : World} {base s f y : Nat} {lv : Value} {st : St} (h : Ok w base s f y lv st) {p b : By} {bs bp bb v : Value} (hp : p.length ≤ maxLen) (hb : b.length ≤ maxLen)
    (hbs : BoxIn w base 27 bs (.pointer (some ⟨s, 0, none⟩))) (hbp : BoxIn w base 9 bp (S p)) (hbb : BoxIn w base 31 bb v) (hv : BytesAt w v b)
    (hsz : tsize st.files ≤ 4611686018427387904) (hl : st.files.length < maxLen) (hk : (st.loose.length + 1) * 24 ≤ 140737488355328) :
    Calls Tryz.prog 44 #[bs, bp, bb] w (TryPost base s f y st (writeErr p b.length st) { st with files := tput p b st.files, loose := st.loose ++ [(dirOf p, .write p b)] } w) := by
  have hm := mayWrite_any h p b.length hp hb hsz
  obtain ⟨gs, rfl, _, hgs⟩ := hbs
  obtain ⟨gp, rfl, _, hgp⟩ := hbp
  obtain ⟨gb, rfl, _, hgb⟩ := hbb
  have cs := cell_of_one hgs; have cp := cell_of_one hgp; have cb := cell_of_one hgb
  have hvn : ∃ a c, v = .slice a b.length c := by
    rcases hv with ⟨rfl, rfl⟩ | ⟨a, c, rfl, _⟩
    · exact ⟨none, 0, rfl⟩
    · exact ⟨_, _, rfl⟩
  obtain ⟨a, c, rfl⟩ := hvn
  unfold S at cp hm
  have Hm := Lib.hid hm; have Hk := Lib.hid h; have Hv := Lib.hid hv
  clear hm h hv
  have e0 := (show (0 : Int) ≤ (b.length : Int) from by omega)
  go_enter Tryz.func44, Tryz.ntmps44
  go_wp2_with fail
  refine Hm.out.mono ?_
  rintro e w1 ⟨hB, ⟨h0, rfl⟩ | ⟨h0, ev, rfl, hf⟩⟩
  · have H0 := Lib.hid h0; clear h0
    have cs1 := (hB.cell (p := ⟨gs, 0, none⟩) (lt_of_block hgs)).trans cs
    have cp1 := (hB.cell (p := ⟨gp, 0, none⟩) (lt_of_block hgp)).trans cp
    have cb1 := (hB.cell (p := ⟨gb, 0, none⟩) (lt_of_block hgb)).trans cb
    unfold S
    have k1 : K base w w1 := K.of_new hB Hk.out.base_le
    have hgs1 := k1.const _ _ _ _ hgs rfl
    have hgp1 := k1.const _ _ _ _ hgp rfl
    have hgb1 := k1.const _ _ _ _ hgb rfl
    have hv1 : BytesAt w1.drew (.slice a b.length c) b := by
      rcases Hv.out with ⟨h1, h2⟩ | ⟨a', c', h1, h2⟩
      · exact .inl ⟨h1, h2⟩
      · cases h1
        refine .inr ⟨_, _, rfl, fun i hi => ?_⟩
        have e := h2 i hi
        rw [List.getElem?_eq_getElem hi] at e ⊢
        exact cell_below hB e
    have hble : b.length ≤ 140737488355328 := by
      have := H0.out
      unfold writeErr at this
      split at this
      · cases this
      · split at this
        · cases this
        · rename_i hno; omega
    have Hcl := Lib.hid (clone_any hv1 hble)
    have hwr : ∀ (w2 : World) (v2 : Value), base ≤ w2.heap.size → RowIn w2 base v2 b → Calls Tryz.prog 47 #[.string ⟨p.toArray⟩, v2] w2 (MadePost base (.write p b) w2) := fun w2 v2 h1 h2 => write_any h1 h2
    have hadd : ∀ (w3 : World) (pv : Value), Below w.heap.size w w3 → ActIn w3 base pv (.write p b) → Calls Tryz.prog 46 #[.pointer (some ⟨s, 0, none⟩), .agg #[.string ⟨(dirOf p).toArray⟩, pv]] w3 (AddPost base s f y { st with files := tput p b st.files, loose := st.loose ++ [(dirOf p, .write p b)] } w3) :=
      fun w3 pv h1 h2 => add_any (Hk.out.keep h1) h2 hp hl hk
    have Hwr := Lib.hid hwr; have Hadd := Lib.hid hadd; clear hwr hadd hv1
    have hbw1 : base ≤ w1.heap.size := Nat.le_trans Hk.out.base_le hB.size
    go_wp2_with fail
    go_region_held3 (fun w' => w'.cell? ⟨gs, 0, none⟩ = some (.pointer (some ⟨s, 0, none⟩)) ∧ w'.cell? ⟨gp, 0, none⟩ = some (.string ⟨p.toArray⟩) ∧ w'.cell? ⟨gb, 0, none⟩ = some (.slice a b.length c))
      (first | exact ⟨cs1, cp1, cb1⟩ | assumption | go_keep)
      (first
        | (go_at_call 37; refine Hcl.out.mono ?_; rintro e w2 ⟨v2, rfl, hr2, hB2'⟩; have hB2 := below_undrew hB2'; have hS2 := And.intro (cell_below hB2 cs1) (And.intro (cell_below hB2 cp1) (cell_below hB2 cb1)); have hr3 := hr2.mono (b' := base) hbw1; have hbw2 := Nat.le_trans hbw1 hB2.size)
        | (go_at_call 47; refine (Hwr.out _ _ hbw2 hr3).mono ?_; rintro e w3 ⟨fn, first, cap, rfl, hact, hB3⟩; have hS3 := And.intro (cell_below hB3 hS2.1) (And.intro (cell_below hB3 hS2.2.1) (cell_below hB3 hS2.2.2)))
        | (go_at_call 46; refine (Hadd.out _ _ (below_two hB (below_two (w' := w2) hB2 hB3)) hact).mono ?_; rintro e w4 ⟨rfl, hk4, lv4, hok4⟩; have k14 := ((K.of_new hB2 hbw1).trans (K.of_new hB3 hbw2)).trans hk4; have hS4 := And.intro (cell_keep k14 hgs1 rfl) (And.intro (cell_keep k14 hgp1 rfl) (cell_keep k14 hgb1 rfl))))
    go_wp2
    go_ret
    exact ⟨_, lv4, rfl, k1.trans k14, .inl ⟨H0.out, rfl, hok4⟩⟩
  · obtain ⟨ag, x, rfl, hf⟩ := hf
    have H0 := Lib.hid h0; clear h0
    have Hf := Lib.hid hf; clear hf
    unfold S
    go_wp2_with fail
    go_ret
    exact ⟨_, lv, rfl, K.of_new hB Hk.out.base_le, .inr ⟨H0.out, ⟨_, _, rfl, Hf.out⟩, Hk.out.keep hB⟩⟩

set_option maxHeartbeats 4000000 in
set_option maxRecDepth 100000 in
theorem tryRename {w : World} {base s f y : Nat} {lv : Value} {st : St} (h : Ok w base s f y lv st) {p q : By} {bs bp bq : Value} (hp : p.length ≤ maxLen) (hq : q.length ≤ maxLen)
    (hbs : BoxIn w base 27 bs (.pointer (some ⟨s, 0, none⟩))) (hbp : BoxIn w base 9 bp (S p)) (hbq : BoxIn w base 9 bq (S q))
    (hl : st.files.length < maxLen) (hk : (st.loose.length + 1) * 24 ≤ 140737488355328) :
    Calls Tryz.prog 50 #[bs, bp, bq] w (TryPost base s f y st (renameErr p q st.files) { st with files := (Act.rename p q).play st.files, loose := st.loose ++ [(dirOf p, .rename p q)] } w) := by
  have hm := mayRename_any h p q hp hq
  obtain ⟨gs, rfl, _, hgs⟩ := hbs
  obtain ⟨gp, rfl, _, hgp⟩ := hbp
  obtain ⟨gq, rfl, _, hgq⟩ := hbq
  have cs := cell_of_one hgs; have cp := cell_of_one hgp; have cq := cell_of_one hgq
  unfold S at cp cq hm
  have Hm := Lib.hid hm; have Hk := Lib.hid h
  clear hm h
  go_enter Tryz.func50, Tryz.ntmps50
  go_wp2_with fail
  refine Hm.out.mono ?_
  rintro e w1 ⟨hB, ⟨h0, rfl⟩ | ⟨h0, ev, rfl, hf⟩⟩
  · have H0 := Lib.hid h0; clear h0
    have cs1 := (hB.cell (p := ⟨gs, 0, none⟩) (lt_of_block hgs)).trans cs
    have cp1 := (hB.cell (p := ⟨gp, 0, none⟩) (lt_of_block hgp)).trans cp
    have cq1 := (hB.cell (p := ⟨gq, 0, none⟩) (lt_of_block hgq)).trans cq
    unfold S
    have k1 : K base w w1 := K.of_new hB Hk.out.base_le
    have hgs1 := k1.const _ _ _ _ hgs rfl
    have hgp1 := k1.const _ _ _ _ hgp rfl
    have hgq1 := k1.const _ _ _ _ hgq rfl
    have hwr : ∀ (w2 : World), base ≤ w2.heap.size → Calls Tryz.prog 52 #[.string ⟨p.toArray⟩, .string ⟨q.toArray⟩] w2 (MadePost base (.rename p q) w2) := fun w2 h1 => rename_any h1
    have hadd : ∀ (w3 : World) (pv : Value), Below w.heap.size w w3 → ActIn w3 base pv (.rename p q) → Calls Tryz.prog 46 #[.pointer (some ⟨s, 0, none⟩), .agg #[.string ⟨(dirOf p).toArray⟩, pv]] w3 (AddPost base s f y { st with files := (Act.rename p q).play st.files, loose := st.loose ++ [(dirOf p, .rename p q)] } w3) :=
      fun w3 pv h1 h2 => add_any (Hk.out.keep h1) h2 ⟨hp, hq⟩ hl hk
    have Hwr := Lib.hid hwr; have Hadd := Lib.hid hadd; clear hwr hadd
    have hbw1 : base ≤ w1.heap.size := Nat.le_trans Hk.out.base_le hB.size
    go_wp2_with fail
    go_region_held3 (fun w' => w'.cell? ⟨gs, 0, none⟩ = some (.pointer (some ⟨s, 0, none⟩)) ∧ w'.cell? ⟨gp, 0, none⟩ = some (.string ⟨p.toArray⟩) ∧ w'.cell? ⟨gq, 0, none⟩ = some (.string ⟨q.toArray⟩))
      (first | exact ⟨cs1, cp1, cq1⟩ | assumption | go_keep)
      (first
        | (go_at_call 52; refine (Hwr.out w1.drew hbw1).mono ?_; rintro e w3 ⟨fn, first, cap, rfl, hact, hB3'⟩; have hB3 := below_undrew hB3'; have hS3 := And.intro (cell_below hB3 cs1) (And.intro (cell_below hB3 cp1) (cell_below hB3 cq1)))
        | (go_at_call 46; refine (Hadd.out _ _ (below_two hB hB3) hact).mono ?_; rintro e w4 ⟨rfl, hk4, lv4, hok4⟩; have k14 := (K.of_new hB3 hbw1).trans hk4; have hS4 := And.intro (cell_keep k14 hgs1 rfl) (And.intro (cell_keep k14 hgp1 rfl) (cell_keep k14 hgq1 rfl))))
    go_wp2
    go_ret
    exact ⟨_, lv4, rfl, k1.trans k14, .inl ⟨H0.out, rfl, hok4⟩⟩
  · obtain ⟨ag, x, rfl, hf⟩ := hf
    have H0 := Lib.hid h0; clear h0
    have Hf := Lib.hid hf; clear hf
    unfold S
    go_wp2_with fail
    go_ret
    exact ⟨_, lv, rfl, K.of_new hB Hk.out.base_le, .inr ⟨H0.out, ⟨_, _, rfl, Hf.out⟩, Hk.out.keep hB⟩⟩
end Go.Proofs.YtccloieikkdcoaaGreatDoor
