/-
  What Remove does, if there is power: its closure.
-/
import Derived.Test.YtccloieikkdcoaaGreatDoorActs
namespace Go.Proofs.YtccloieikkdcoaaGreatDoor
open Go Go.RowKit Go.Maps

set_option maxHeartbeats 4000000 in
set_option maxRecDepth 100000 in
theorem tryRemove {w : World} {base s f y : Nat} {lv : Value} {st : St} (h : Ok w base s f y lv st) {p : By} {bs bp : Value} (hp : p.length ≤ maxLen)
    (hbs : BoxIn w base 27 bs (.pointer (some ⟨s, 0, none⟩))) (hbp : BoxIn w base 9 bp (S p))
    (hl : st.files.length < maxLen) (hk : (st.loose.length + 1) * 24 ≤ 140737488355328) :
    Calls Tryz.prog 53 #[bs, bp] w (TryPost base s f y st (thereErr p st.files) { st with files := tdel p st.files, loose := st.loose ++ [(dirOf p, .remove p)] } w) := by
  have hm := there_any h p hp
  obtain ⟨gs, rfl, _, hgs⟩ := hbs
  obtain ⟨gp, rfl, _, hgp⟩ := hbp
  have cs := cell_of_one hgs; have cp := cell_of_one hgp
  unfold S at cp hm
  have Hm := Lib.hid hm; have Hk := Lib.hid h
  clear hm h
  go_enter Tryz.func53, Tryz.ntmps53
  go_wp2_with fail
  refine Hm.out.mono ?_
  rintro e w1 ⟨hB, ⟨h0, rfl⟩ | ⟨h0, ev, rfl, hf⟩⟩
  · have H0 := Lib.hid h0; clear h0
    have cs1 := (hB.cell (p := ⟨gs, 0, none⟩) (lt_of_block hgs)).trans cs
    have cp1 := (hB.cell (p := ⟨gp, 0, none⟩) (lt_of_block hgp)).trans cp
    unfold S
    have k1 : K base w w1 := K.of_new hB Hk.out.base_le
    have hgs1 := k1.const _ _ _ _ hgs rfl
    have hgp1 := k1.const _ _ _ _ hgp rfl
    have hwr : ∀ (w2 : World), base ≤ w2.heap.size → Calls Tryz.prog 55 #[.string ⟨p.toArray⟩] w2 (MadePost base (.remove p) w2) := fun w2 h1 => remove_any h1
    have hadd : ∀ (w3 : World) (pv : Value), Below w.heap.size w w3 → ActIn w3 base pv (.remove p) → Calls Tryz.prog 46 #[.pointer (some ⟨s, 0, none⟩), .agg #[.string ⟨(dirOf p).toArray⟩, pv]] w3 (AddPost base s f y { st with files := tdel p st.files, loose := st.loose ++ [(dirOf p, .remove p)] } w3) :=
      fun w3 pv h1 h2 => add_any (Hk.out.keep h1) h2 hp hl hk
    have Hwr := Lib.hid hwr; have Hadd := Lib.hid hadd; clear hwr hadd
    have hbw1 : base ≤ w1.heap.size := Nat.le_trans Hk.out.base_le hB.size
    go_wp2_with fail
    go_region_held3 (fun w' => w'.cell? ⟨gs, 0, none⟩ = some (.pointer (some ⟨s, 0, none⟩)) ∧ w'.cell? ⟨gp, 0, none⟩ = some (.string ⟨p.toArray⟩))
      (first | exact ⟨cs1, cp1⟩ | assumption | go_keep)
      (first
        | (go_at_call 55; refine (Hwr.out w1.drew hbw1).mono ?_; rintro e w3 ⟨fn, first, cap, rfl, hact, hB3'⟩; have hB3 := below_undrew hB3'; have hS3 := And.intro (cell_below hB3 cs1) (cell_below hB3 cp1))
        | (go_at_call 46; refine (Hadd.out _ _ (below_two hB hB3) hact).mono ?_; rintro e w4 ⟨rfl, hk4, lv4, hok4⟩; have k14 := (K.of_new hB3 hbw1).trans hk4; have hS4 := And.intro (cell_keep k14 hgs1 rfl) (cell_keep k14 hgp1 rfl)))
    go_wp2
    go_ret
    exact ⟨_, lv4, rfl, k1.trans k14, .inl ⟨H0.out, rfl, hok4⟩⟩
  · obtain ⟨ag, x, rfl, hf⟩ := hf
    have H0 := Lib.hid h0; clear h0
    have Hf := Lib.hid hf; clear hf
    unfold S
    go_wp2_with fail
    go_ret
    exact ⟨_, lv, rfl, K.of_new hB Hk.out.base_le, .inr ⟨H0.out, ⟨_, _, rfl, Hf.out⟩, Hk.out.keep hB⟩⟩

set_option maxHeartbeats 4000000 in
set_option maxRecDepth 100000 in
theorem Remove_any {w : World} {base s f y k : Nat} {lv : Value} {st : St} (h : Ok w base s f y lv st) (hbd : Bd st k) (het : Et w) (hg : 0 < base) {p : By} (hp : p.length ≤ maxLen) :
    Calls Tryz.prog 15 #[.pointer (some ⟨s, 0, none⟩), S p] w (DoPost base s f y (doN st (thereErr p st.files)) (doSt st (thereErr p st.files) (removed p st)) w) := by
  have hmf : ∀ (fn : Fn) (first cap : Array Value) (w : World), (Instr.makeFunc fn first cap).run Tryz.prog w = .ok (.func fn first cap) w := fun _ _ _ _ => rfl
  have hbs := h.base_le
  have B1 := below_alloc w (.cells #[.pointer (some ⟨s, 0, none⟩)] 27)
  have B2 := below_alloc (w.alloc (.cells #[.pointer (some ⟨s, 0, none⟩)] 27)) (.cells #[S p] 9)
  have B := below_two B1 B2
  have kB : K base w _ := K.of_new B hbs
  have x1 := (box_new (t := 27) (.pointer (some ⟨s, 0, none⟩)) hbs).keep (K.of_new (base := base) B2 (by simp; omega)) rfl
  have x2 := box_new2 (t := 9) (.cells #[.pointer (some ⟨s, 0, none⟩)] 27) (S p) hbs
  have ht := tryRemove (h.keep B) hp x1 x2 hbd.len hbd.loose
  have hd := do_any (h.keep B) (het.keep kB hg) hg thereErr_ne (enters_of Tryz.func53 (by kernel_rfl) rfl) ht
  have Hd := Lib.hid hd; have HB := Lib.hid B
  clear hd ht x1 x2 kB B B1 B2 h het hbd
  unfold S at Hd HB ⊢
  go_enter Tryz.func15, Tryz.ntmps15
  go_wp2_with fail
  refine Hd.out.mono ?_
  rintro e w' hD
  have hD' := hD.from HB.out hbs
  obtain ⟨rfl, hD2⟩ := hD'
  have HD := Lib.hid hD2; clear hD2 hD
  go_wp2_with fail
  go_ret
  exact ⟨rfl, HD.out⟩
end Go.Proofs.YtccloieikkdcoaaGreatDoor
