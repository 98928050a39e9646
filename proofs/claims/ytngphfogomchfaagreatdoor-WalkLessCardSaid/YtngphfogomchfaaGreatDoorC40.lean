/-
  Sound.
-/
import Derived.Test.YtngphfogomchfaaGreatDoorC39

namespace Go.Proofs.YtngphfogomchfaaGreatDoor
open Go Go.RowKit Go.Maps Go.Shelf
attribute [local go_sem] Oper.semAt_some

/-- What the loop over them answers so far. -/
def ansI (L : List Hld) (pre : List Bs) : Int := if (pre.all fun x => agreeB L (wfL L x)) = true then 0 else 3
theorem ansI_snoc (L : List Hld) (pre : List Bs) (x : Bs) : ansI L (pre ++ [x]) = if agreeB L (wfL L x) = true then ansI L pre else 3 := by
  unfold ansI
  rw [List.all_append]
  cases h1 : pre.all fun x => agreeB L (wfL L x) <;> cases h2 : agreeB L (wfL L x) <;> simp [h2]
structure SouI (L : List Hld) (w0 : World) (rb ab ob m nn : Nat) (pre : List Bs) (C : Nat → Prop) (W : World) : Prop where
  br : Boxed W rb 34 (.int .i64 0)
  ba : Boxed W ab 34 (.int .i64 (ansI L pre))
  bo : Boxed W ob 64 (.map (some m))
  mp : MapS W m nn (ofF L)
  al : ∀ x ∈ pre, thB L x = true
  c : ∀ k, C k ↔ k = rb ∨ k = ab
  ne : rb ≠ ab ∧ ob ≠ rb ∧ ob ≠ ab ∧ m ≠ rb ∧ m ≠ ab
  lo : w0.heap.size ≤ rb ∧ w0.heap.size ≤ ab
  bl : Below w0.heap.size w0 W
theorem SouI.but {L : List Hld} {w0 : World} {rb ab ob m nn : Nat} {pre : List Bs} {C : Nat → Prop} {W W' : World} {S : Nat → Prop} (h : SouI L w0 rb ab ob m nn pre C W) (hb : But S W W') (hn : ∀ k, S k → w0.heap.size ≤ k ∧ ¬ C k ∧ k ≠ ob ∧ k ≠ m) : SouI L w0 rb ab ob m nn pre C W' :=
  ⟨boxed_but h.br hb (fun hk => (hn _ hk).2.1 ((h.c _).2 (.inl rfl))), boxed_but h.ba hb (fun hk => (hn _ hk).2.1 ((h.c _).2 (.inr rfl))), boxed_but h.bo hb (fun hk => (hn _ hk).2.2.1 rfl), h.mp.but hb (fun hk => (hn _ hk).2.2.2 rfl), h.al, h.c, h.ne, h.lo, h.bl.trans (hb.below (fun k _ hk => (hn k hk).1) h.bl.size)⟩

/-- What Sound answers. -/
def SouPost (l : List Hld) (tips : List Bs) (w : World) (e : Ending) (w' : World) : Prop :=
  ∃ r : Int, e = .returned (.int .i64 r) ∧ IsSound (wfL l) (thB l) (kindB l) tips r ∧ Below w.heap.size w w'

set_option maxHeartbeats 8000000 in
set_option maxRecDepth 100000 in
theorem Sound_any {w : World} {v tv : Value} {L : List Hld} {tips : List Bs} (h : HldsR w v L) (ht : StrsR w tv tips) (he : Eb w) (htb : Tb w)
    (hL : L.length ≤ 2000) (hT : tips.length ≤ 1000) (hd : ∀ x ∈ L, x.id.length ≤ 10000 ∧ x.data.length ≤ 10000) (hs : ∀ x ∈ tips, x.length ≤ 10000) :
    Calls Tryz.prog 19 #[v, tv] w (SouPost L tips w) := by
  obtain ⟨A0, c0, rfl⟩ := h.shape
  obtain ⟨A, ct, rfl⟩ := ht.shape
  obtain ⟨w1, hw1⟩ : ∃ w1, w1 = w.alloc (.cells #[.int .i64 0] 34) := ⟨_, rfl⟩
  have hb1 : Below w.heap.size w w1 := by rw [hw1]; exact below_new w _
  have HO := Lib.hid (objects_any (h.below hb1 (Nat.le_refl _)) (by omega) (fun x hx => by have := (hd x hx).1; omega))
  have HW1 := Lib.hid hw1; have HB1 := Lib.hid hb1; have HT := Lib.hid ht; have HE := Lib.hid (And.intro he htb); have HD := Lib.hid hd; have HS := Lib.hid hs
  clear h ht he htb hd hs hw1 hb1
  refine (callsIn_wide (n := 5)).1 (callsIn_of_wp_marks Tryz.func19 rfl trivial ?_ rfl)
  refine wpIn_wide.2 ?_
  simp only [Tryz.ntmps19, List.size_toArray, List.length_cons, List.length_nil, Nat.reduceAdd, Nat.reduceSub, Array.replicate_succ, Array.replicate_zero, List.push_toArray, List.append_toArray, List.nil_append, List.cons_append]
  go_wp2_with fail
  rw [← HW1.out]
  refine HO.out.mono ?_
  rintro e w2 ⟨rfl, hM, hb2⟩
  have HM := Lib.hid hM; have HB2 := Lib.hid (HB1.out.trans (hb2.mono HB1.out.size)); have HB12 := Lib.hid hb2
  clear hM hb2
  go_upto_region 3 with fail
  obtain ⟨o1, ho1⟩ : ∃ o1, o1 = w2.heap.size := ⟨_, rfl⟩
  rw [← ho1]
  obtain ⟨w3, hw3⟩ : ∃ w3, w3 = (w2.alloc (.cells #[.map (some w1.heap.size)] 64)).alloc (.cells #[.int .i64 0] 34) := ⟨_, rfl⟩
  rw [← hw3]
  have hb3 : Below w2.heap.size w2 w3 := by rw [hw3]; exact (below_new w2 _).alloc (by simp) _
  have k1 : Boxed w3 o1 64 (.map (some w1.heap.size)) := by rw [hw3, ho1]; exact (Boxed.new w2 _ _).alloc _
  have k2 : Boxed w3 (o1 + 1) 34 (.int .i64 0) := by
    have := Boxed.new (w2.alloc (.cells #[.map (some w1.heap.size)] 64)) 34 (.int .i64 0)
    rw [hw3, ho1]; simpa using this
  have k3 : Boxed w3 w.heap.size 34 (.int .i64 0) := by
    have h1 : Boxed w1 w.heap.size 34 (.int .i64 0) := by rw [HW1.out]; exact Boxed.new w _ _
    have h2 : Boxed w2 w.heap.size 34 (.int .i64 0) := boxed_but h1 (But.of_below HB12.out) (by have := h1.lt; omega)
    exact boxed_but h2 (But.of_below hb3) (by have := h2.lt; omega)
  have z1 : w1.heap.size = w.heap.size + 1 := by rw [HW1.out]; simp
  have z2 := HB12.out.size
  have zm := HM.out.lt
  have hm3 := HM.out.below hb3 HM.out.lt
  have HB3 : Hid (Below w.heap.size w w3) := Lib.hid (HB2.out.trans (hb3.mono HB2.out.size))
  have h0 : SouI L w w.heap.size (o1 + 1) o1 w1.heap.size L.length [] (fun k => k = w.heap.size ∨ k = o1 + 1) w3 :=
    ⟨k3, k2, k1, hm3, (fun x hx => by cases hx), fun k => Iff.rfl, ⟨by omega, by omega, by omega, by omega, by omega⟩, ⟨Nat.le_refl _, by omega⟩, HB3.out⟩
  have c1 := k1.cell
  obtain ⟨ob, hob⟩ : ∃ ob, ob = w3.heap.size := ⟨_, rfl⟩
  have HA := Lib.hid (after_any w1.heap.size A tips.length ct w3)
  rw [← hob] at HA
  have HOb := Lib.hid hob; have H0 := Lib.hid h0; have HO1 := Lib.hid ho1; have HM3 := Lib.hid hm3
  have HZ := Lib.hid (And.intro z1 (And.intro z2 zm)); have HZ3 := Lib.hid (And.intro k1.lt k2.lt)
  clear hob h0 ho1 hw3 hb3 k1 k2 k3 z1 z2 zm hm3
  go_wp2_with fail
  refine HA.out.mono ?_
  rintro e w4 ⟨rfl, hw4⟩
  have hob := HOb.out
  have hb4 : Below w3.heap.size w3 w4 := by rw [← hw4]; exact (below_new w3 _).alloc (by simp) _
  have obx : Boxed w4 ob 64 (.map (some w1.heap.size)) := by rw [← hw4, hob]; exact (Boxed.new w3 _ _).alloc _
  have tbx : Boxed w4 (ob + 1) 23 (.slice A tips.length ct) := by
    have := Boxed.new (w3.alloc (.cells #[.map (some w1.heap.size)] 64)) 23 (.slice A tips.length ct)
    rw [hw4] at this
    rw [hob]; simpa using this
  have HB4 : Hid (Below w.heap.size w w4) := Lib.hid (HB3.out.trans (hb4.mono HB3.out.size))
  have hfix : Fix L tips (ob + 1) ob w1.heap.size L.length A ct w4 := ⟨tbx, obx, HT.out.below HB4.out (Nat.le_refl _), HM3.out.below hb4 HM3.out.lt⟩
  have hz := HZ.out
  have hz3 := HZ3.out
  have ho1 := HO1.out
  have hCS : ∀ k, Still tips (ob + 1) ob w1.heap.size A k → ¬ (k = w.heap.size ∨ k = o1 + 1) := by
    rintro k (rfl | rfl | rfl | ⟨hp, a, rfl, rfl⟩) (e | e)
    all_goals try omega
    all_goals
      obtain ⟨g, o, c, e2, _, hg⟩ := RdK.pos HT.out hp
      cases e2
      simp only at e
      omega
  have H04 : Hid (SouI L w w.heap.size (o1 + 1) o1 w1.heap.size L.length [] (fun k => k = w.heap.size ∨ k = o1 + 1) w4) := Lib.hid (H0.out.but (But.of_new (S := fun _ => False) hb4) (fun _ h => h.elim))
  have HZ4 : Hid (w.heap.size ≤ w4.heap.size ∧ o1 < w4.heap.size ∧ w1.heap.size < w4.heap.size) := Lib.hid ⟨HB4.out.size, by have := hb4.size; omega, by have := hb4.size; omega⟩
  have HF := Lib.hid hfix; have HCS := Lib.hid hCS
  clear hw4 hob hb4 obx tbx hfix hCS hz hz3 ho1 c1
  go_wp2_with fail
  refine range_after (w0 := w) rfl HE.out.1 HE.out.2 HF.out HCS.out hL hT HD.out HS.out (fun pre C W => SouI L w w.heap.size (o1 + 1) o1 w1.heap.size L.length pre C W)
    (fun C W => Boxed W w.heap.size 34 (.int .i64 51) ∧ C w.heap.size ∧ Below w.heap.size w W ∧ ∃ x, Reach (wfL L) tips x ∧ thB L x = false)
    (fun pre C W W' h hb => h.but hb fun k hk => ⟨Nat.le_trans HZ4.out.1 hk.1, hk.2, by have := HZ4.out.2.1; omega, by have := HZ4.out.2.2; omega⟩)
    (fun C W W' h hb => ⟨boxed_but h.1 hb (fun hk => hk.2 h.2.1), h.2.1, h.2.2.1.trans (hb.below (fun k _ hk => Nat.le_trans HZ4.out.1 hk.1) h.2.2.1.size), h.2.2.2⟩)
    (fun pre C W h k hk => ((h.c k).1 hk).elim (fun e => by rw [e]; exact h.br.lt) (fun e => by rw [e]; exact h.ba.lt)) (fun pre C W h => h.bl) H04.out
    (fun mv bp => { tmps := #[.slice A0 L.length c0, .slice A tips.length ct, undef, undef, .pointer (some ⟨w.heap.size, 0, none⟩), .pointer (some ⟨o1, 0, none⟩), .pointer (some ⟨o1 + 1, 0, none⟩), bp, .slice A0 L.length c0, .map (some w1.heap.size), .map (some w1.heap.size), .slice A tips.length ct, .func (.func 52) #[] #[.pointer (some ⟨ob + 1, 0, none⟩), .pointer (some ⟨ob, 0, none⟩)], mv, undef, undef, undef, undef, undef, undef, undef, undef, undef], defers := [] }) ?assign ?body ?done ?stop
  case assign =>
    intro l x t B n c W K hK
    gi_wp2
    exact hK
  case body =>
    rintro l pre x B c b C W hI hCb hre hpl hxl hk hw
    have q0 : W.cell? ⟨b, 0, none⟩ = some (.string ⟨x.toArray⟩) := (cell_of_row W _ 0 _ _ _ hk).trans rfl
    have q1 : W.cell? ⟨b, 1, none⟩ = some (.bool (thB L x)) := (cell_of_row W _ 1 _ _ _ hk).trans rfl
    have q2 : W.cell? ⟨b, 2, none⟩ = some (.slice B (wfL L x).length c) := (cell_of_row W _ 2 _ _ _ hk).trans rfl
    have c1 := hI.br.cell
    have f1 := hI.br.frozen
    cases hth : thB L x with
    | false =>
      rw [hth] at q1
      have HI := Lib.hid hI; have HR := Lib.hid hre; have HTh := Lib.hid hth
      clear hk hw hI hre hth q0 q2
      gi_wp2
      refine ⟨C, ⟨HI.out.br.set _, (HI.out.c _).2 (.inl rfl), HI.out.bl.setCell (p := ⟨w.heap.size, 0, none⟩) (Nat.le_refl _) _, x, HR.out, HTh.out⟩, (But.refl C W).setCell (p := ⟨w.heap.size, 0, none⟩) ((HI.out.c _).2 (.inl rfl)) _, fun k hk => .inl hk⟩
    | true =>
      rw [hth] at q1
      have c2 := hI.bo.cell
      have hwl : ∀ p ∈ wfL L x, p.1.length ≤ 1000000 := fun p hp => by
        obtain ⟨u, _, hu⟩ := wfL_mem hp
        have := wants_mem hu
        omega
      have HG := Lib.hid (agree_any hw (by have := wfL_le L x; omega) hwl hI.mp)
      have HI := Lib.hid hI; have HTh := Lib.hid hth
      have hn1 : 1 ≤ 5 := by omega
      clear hk hw hI hre hth q0 hwl c1 f1
      gi_wp2_with fail
      refine ⟨trivial, (CallsIn.inRound l (callsIn_wide.2 HG.out)).mono ?_⟩
      rintro e W2 ⟨rfl, hb2⟩
      have hI2 : SouI L w w.heap.size (o1 + 1) o1 w1.heap.size L.length pre C W2 := HI.out.but (But.of_new (S := fun _ => False) hb2) (fun _ h => h.elim)
      have c3 := hI2.ba.cell
      have f3 := hI2.ba.frozen
      have HI2 := Lib.hid hI2; have HB2 := Lib.hid (But.of_new (S := C) hb2)
      have HAn := Lib.hid (ansI_snoc L pre x)
      clear hI2 hb2 c2 q1 q2 HG
      cases hg : agreeB L (wfL L x) with
      | true =>
        have HS : Hid (ansI L (pre ++ [x]) = ansI L pre) := Lib.hid (by rw [HAn.out, if_pos hg])
        clear hg HAn
        gi_wp2
        refine ⟨C, ⟨HI2.out.br, by rw [HS.out]; exact HI2.out.ba, HI2.out.bo, HI2.out.mp, fun y hy => ?_, HI2.out.c, HI2.out.ne, HI2.out.lo, HI2.out.bl⟩, HB2.out, fun k hk => .inl hk⟩
        rcases List.mem_append.1 hy with hy | hy
        · exact HI.out.al y hy
        · rw [List.mem_singleton] at hy; rw [hy]; exact HTh.out
      | false =>
        have HS : Hid (ansI L (pre ++ [x]) = 3) := Lib.hid (by rw [HAn.out, if_neg (by rw [hg]; simp)])
        clear hg HAn
        gi_wp2
        have hbs : But (fun k => k = o1 + 1) W2 (W2.setCell ⟨o1 + 1, 0, none⟩ (.int .i64 3)) := (But.refl (fun k => k = o1 + 1) W2).setCell (p := ⟨o1 + 1, 0, none⟩) rfl _
        refine ⟨C, ⟨boxed_but HI2.out.br hbs HI2.out.ne.1, by rw [HS.out]; exact HI2.out.ba.set _, boxed_but HI2.out.bo hbs HI2.out.ne.2.2.1, HI2.out.mp.but hbs HI2.out.ne.2.2.2.2, fun y hy => ?_, HI2.out.c, HI2.out.ne, HI2.out.lo, HI2.out.bl.trans (hbs.below (fun k _ e => by rw [e]; exact HI2.out.lo.2) HI2.out.bl.size)⟩, HB2.out.trans (hbs.mono fun k _ e => (HI2.out.c k).2 (.inr e)), fun k hk => .inl hk⟩
        rcases List.mem_append.1 hy with hy | hy
        · exact HI.out.al y hy
        · rw [List.mem_singleton] at hy; rw [hy]; exact HTh.out
  case done =>
    rintro D row C W hD hCD hrow hI hK
    have c1 := hI.br.cell
    have f1 := hI.br.frozen
    have c2 := hI.ba.cell
    have HS : Hid (IsSound (wfL L) (thB L) (kindB L) tips (ansI L row)) := Lib.hid (by
      refine .inr ⟨fun x hx => hI.al x ((hrow.done (Nat.le_refl _) x).1 hx), ?_⟩
      unfold ansI
      by_cases ha : (row.all fun x => agreeB L (wfL L x)) = true
      · rw [if_pos ha]
        refine .inr ⟨rfl, fun x y k hx hm => ?_⟩
        have h1 := List.all_eq_true.1 ha x ((hrow.done (Nat.le_refl _) x).1 hx)
        have h2 := List.all_eq_true.1 (show ((wfL L x).all fun p => kindB L p.1 == p.2) = true from h1) _ hm
        simpa using h2
      · rw [if_neg ha]
        refine .inl ⟨rfl, ?_⟩
        rw [Bool.not_eq_true, List.all_eq_false] at ha
        obtain ⟨x, hx, h1⟩ := ha
        rw [Bool.not_eq_true] at h1
        have h2 := List.all_eq_false.1 (show ((wfL L x).all fun p => kindB L p.1 == p.2) = false from h1)
        obtain ⟨p, hp, h3⟩ := h2
        exact ⟨x, p.1, p.2, (hrow.done (Nat.le_refl _) x).2 hx, hp, by simpa using h3⟩)
    obtain ⟨r, hr⟩ : ∃ r, r = ansI L row := ⟨_, rfl⟩
    rw [← hr] at c2 HS
    have HI := Lib.hid hI; have HK := Lib.hid hK; have HCD := Lib.hid hCD
    clear hrow hI hK hCD hr
    go_wp2_with fail
    have hKd : (W.setCell ⟨w.heap.size, 0, none⟩ (.int .i64 r)).heap[D]? = some (.deferred (some [])) := (Below.heap_setCell _ _ _ _ (fun e => HCD.out ((HI.out.c D).2 (.inl e)))).trans HK.out
    refine ⟨by simp, .inl ⟨_, _, rfl, run_takeDeferred hKd, ?_⟩⟩
    have hbx : Boxed ((W.setCell ⟨w.heap.size, 0, none⟩ (.int .i64 r)).putObj D (.deferred none)) w.heap.size 34 (.int .i64 r) := boxed_but (HI.out.br.set (.int .i64 r)) (but_putObj (S := fun k => k = D) _ D _ rfl) (fun e => HCD.out ((HI.out.c D).2 (.inl e.symm)))
    have c5 := hbx.cell
    refine ⟨.int .i64 r, by simp [results, Tryz.results19, go_sem, c5], r, rfl, HS.out, ?_⟩
    exact below_put _ (HI.out.bl.setCell (p := ⟨w.heap.size, 0, none⟩) (Nat.le_refl _) _) (Nat.le_trans HZ4.out.1 hD) _
  case stop =>
    rintro D C W hD hCD ⟨hbx, hc, hbl, x, hx1, hx2⟩ hK
    have HI := Lib.hid (And.intro hbx (And.intro hc hbl)); have HX := Lib.hid (And.intro hx1 hx2); have HK := Lib.hid hK; have HCD := Lib.hid hCD
    clear hbx hc hbl hx1 hx2 hK hCD
    go_wp2_with fail
    refine ⟨by simp, .inl ⟨_, _, rfl, run_takeDeferred HK.out, ?_⟩⟩
    have hbx : Boxed (W.putObj D (.deferred none)) w.heap.size 34 (.int .i64 51) := boxed_but HI.out.1 (but_putObj (S := fun k => k = D) _ D _ rfl) (fun e => HCD.out (by rw [← e]; exact HI.out.2.1))
    have c5 := hbx.cell
    refine ⟨.int .i64 51, by simp [results, Tryz.results19, go_sem, c5], 51, rfl, .inl ⟨rfl, x, HX.out.1, HX.out.2⟩, ?_⟩
    exact below_put _ HI.out.2.2 (Nat.le_trans HZ4.out.1 hD) _
end Go.Proofs.YtngphfogomchfaaGreatDoor
