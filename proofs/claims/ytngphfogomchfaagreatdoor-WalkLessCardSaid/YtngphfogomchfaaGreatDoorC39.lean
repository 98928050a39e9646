/-
  Closure.
-/
import Derived.Test.YtngphfogomchfaaGreatDoorC38
import Derived.Test.YtngphfogomchfaaGreatDoorC09

namespace Go.Proofs.YtngphfogomchfaaGreatDoor
open Go Go.RowKit Go.Maps Go.Shelf Go.Sort
attribute [local go_sem] Oper.semAt_some

theorem flat_str (l : List Bs) : l.flatMap strC = l.map encStr := by
  induction l with
  | nil => rfl
  | cons x l ih => rw [List.flatMap_cons, ih, List.map_cons]; rfl
/-- The library's Sort at a slice of the call's own. -/
theorem sort_own {w : World} {B : Nat} {v : Value} {zs : List Bs} (h : OwK 9 1 strC w B v zs) (hl : zs.length ≤ 1000000) :
    Calls Tryz.prog 35 #[v] w fun e w' => e = .returned (.tuple #[]) ∧ OwK 9 1 strC w' B v (zs.mergeSort leB) ∧ But (fun k => v.ownBlock = some k) w w' := by
  unfold OwK at h ⊢
  rw [flat_str] at h
  have h1' := h
  obtain ⟨h0, ⟨rfl, hz⟩ | ⟨gb, cap, cur, rfl, hbase, hgb, r1, r2, r3, r4⟩⟩ := h
  · have hss : zs = [] := List.eq_nil_of_length_eq_zero hz
    subst hss
    refine (AnyM.slices_Sort_string_none Tryz.sortA none 0 w).mono ?_
    rintro e w2 ⟨rfl, rfl⟩
    exact ⟨rfl, by simpa using h1', But.refl _ _⟩
  · have hH : Holds encStr w gb 0 zs.toArray := holds_of_block hgb (by simpa using r4)
    refine (AnyM.slices_Sort_string Tryz.sortA gb 0 cap zs w hH (lt_heap hgb) (by omega)).mono ?_
    rintro e w2 ⟨rfl, k, os, rfl⟩
    refine ⟨rfl, ?_, But.of_grown (grownBy_sorted _)⟩
    have hlen : (zs.mergeSort leB).length = zs.length := List.length_mergeSort zs
    have := ownsRow_sorted (n := k) (os := os) (ss := zs) (ts := zs.mergeSort leB) hlen hbase hgb r1 r2 r3
    rw [flat_str, hlen]
    exact this

/-- Two rows of names, each in a box of its own. -/
structure TwoI (w0 : World) (hb kb : Nat) (vh vl : Value) (a b : List Bs) (C : Nat → Prop) (W : World) : Prop where
  bh : Boxed W hb 23 vh
  oh : OwK 9 1 strC W w0.heap.size vh a
  bk : Boxed W kb 23 vl
  ol : OwK 9 1 strC W w0.heap.size vl b
  c : ∀ k, C k ↔ k = hb ∨ k = kb ∨ vh.ownBlock = some k ∨ vl.ownBlock = some k
  ne : hb ≠ kb ∧ ∀ g, vh.ownBlock = some g → vl.ownBlock ≠ some g
  lo : w0.heap.size ≤ hb ∧ w0.heap.size ≤ kb
  bl : Below w0.heap.size w0 W
theorem TwoI.swap {w0 : World} {hb kb : Nat} {vh vl : Value} {a b : List Bs} {C : Nat → Prop} {W : World} (h : TwoI w0 hb kb vh vl a b C W) : TwoI w0 kb hb vl vh b a C W :=
  ⟨h.bk, h.ol, h.bh, h.oh, fun k => (h.c k).trans ⟨fun h => h.elim (fun h => .inr (.inl h)) (fun h => h.elim .inl (fun h => h.elim (fun h => .inr (.inr (.inr h))) (fun h => .inr (.inr (.inl h))))), fun h => h.elim (fun h => .inr (.inl h)) (fun h => h.elim .inl (fun h => h.elim (fun h => .inr (.inr (.inr h))) (fun h => .inr (.inr (.inl h)))))⟩,
    ⟨fun e => h.ne.1 e.symm, fun g h1 h2 => h.ne.2 g h2 h1⟩, ⟨h.lo.2, h.lo.1⟩, h.bl⟩
theorem TwoI.lt {w0 : World} {hb kb : Nat} {vh vl : Value} {a b : List Bs} {C : Nat → Prop} {W : World} (h : TwoI w0 hb kb vh vl a b C W) (k : Nat) (hk : C k) : w0.heap.size ≤ k ∧ k < W.heap.size := by
  rcases (h.c k).1 hk with rfl | rfl | hk | hk
  · exact ⟨h.lo.1, h.bh.lt⟩
  · exact ⟨h.lo.2, h.bk.lt⟩
  · obtain ⟨h1, h2, _⟩ := own_block h.oh hk; exact ⟨h1, h2⟩
  · obtain ⟨h1, h2, _⟩ := own_block h.ol hk; exact ⟨h1, h2⟩
theorem TwoI.but {w0 : World} {hb kb : Nat} {vh vl : Value} {a b : List Bs} {C : Nat → Prop} {W W' : World} {S : Nat → Prop} (h : TwoI w0 hb kb vh vl a b C W) (hw : But S W W') (hn : ∀ k, S k → w0.heap.size ≤ k ∧ ¬ C k) : TwoI w0 hb kb vh vl a b C W' :=
  ⟨boxed_but h.bh hw (fun hk => (hn _ hk).2 ((h.c _).2 (.inl rfl))), h.oh.but hw (fun _ hg hk => (hn _ hk).2 ((h.c _).2 (.inr (.inr (.inl hg))))), boxed_but h.bk hw (fun hk => (hn _ hk).2 ((h.c _).2 (.inr (.inl rfl)))), h.ol.but hw (fun _ hg hk => (hn _ hk).2 ((h.c _).2 (.inr (.inr (.inr hg))))), h.c, h.ne, h.lo,
    h.bl.trans (hw.below (fun k _ hk => (hn k hk).1) h.bl.size)⟩

/-- One more name in a box. -/
theorem box_app {W w1 : World} {hb base g cap : Nat} {vh : Value} {zs : List Bs} {x : Bs} (h : Boxed W hb 23 vh) (ho : OwK 9 1 strC W base vh zs)
    (hown : w1.ownsRow base 9 1 (.slice (some ⟨g, 0, none⟩) (zs.length + 1) cap) (zs.length + 1) (zs.flatMap strC ++ [.string ⟨x.toArray⟩]))
    (hgrow : (W.alloc (.cells #[.string ⟨x.toArray⟩] 9)).grownBy w1 vh.ownBlock) (hat : vh.ownBlock = some g ∨ g = (W.alloc (.cells #[.string ⟨x.toArray⟩] 9)).heap.size) :
    Boxed w1 hb 23 vh ∧ Boxed (w1.setCell ⟨hb, 0, none⟩ (.slice (some ⟨g, 0, none⟩) (zs.length + 1) cap)) hb 23 (.slice (some ⟨g, 0, none⟩) (zs.length + 1) cap) ∧
      OwK 9 1 strC (w1.setCell ⟨hb, 0, none⟩ (.slice (some ⟨g, 0, none⟩) (zs.length + 1) cap)) base (.slice (some ⟨g, 0, none⟩) (zs.length + 1) cap) (zs ++ [x]) ∧
      But (fun k => k = hb ∨ vh.ownBlock = some k) W (w1.setCell ⟨hb, 0, none⟩ (.slice (some ⟨g, 0, none⟩) (zs.length + 1) cap)) ∧ (vh.ownBlock = some g ∨ W.heap.size ≤ g) := by
  have hown' : OwK 9 1 strC w1 base (.slice (some ⟨g, 0, none⟩) (zs.length + 1) cap) (zs ++ [x]) := by
    unfold OwK; rw [List.length_append, List.flatMap_append]; exact hown
  have hb2 := (But.of_new (S := fun k => vh.ownBlock = some k) (below_new W (.cells #[.string ⟨x.toArray⟩] 9))).trans ((But.of_grown hgrow).mono fun _ _ e => e)
  have r2 := boxed_but h hb2 (fun e => row_ne_box ho h (by decide) e)
  have hne : hb ≠ g := fun e => row_ne_box hown' r2 (by decide) (by rw [e]; rfl)
  have hb3 : But (fun k => k = hb) w1 (w1.setCell ⟨hb, 0, none⟩ (.slice (some ⟨g, 0, none⟩) (zs.length + 1) cap)) := (But.refl (fun k => k = hb) w1).setCell (p := ⟨hb, 0, none⟩) rfl _
  refine ⟨r2, r2.set _, hown'.but hb3 (fun _ hg e => hne (by cases hg; exact e.symm)), (hb2.mono fun _ _ e => .inr e).trans (hb3.mono fun _ _ e => .inl e), hat.imp id fun e => ?_⟩
  rw [e]; simp

theorem TwoI.app {w0 W w1 : World} {hb kb g cap : Nat} {vh vl : Value} {a b : List Bs} {C : Nat → Prop} {x : Bs} (h : TwoI w0 hb kb vh vl a b C W)
    (hown : w1.ownsRow w0.heap.size 9 1 (.slice (some ⟨g, 0, none⟩) (a.length + 1) cap) (a.length + 1) (a.flatMap strC ++ [.string ⟨x.toArray⟩]))
    (hgrow : (W.alloc (.cells #[.string ⟨x.toArray⟩] 9)).grownBy w1 vh.ownBlock) (hat : vh.ownBlock = some g ∨ g = (W.alloc (.cells #[.string ⟨x.toArray⟩] 9)).heap.size) :
    Boxed w1 hb 23 vh ∧ ∃ C', TwoI w0 hb kb (.slice (some ⟨g, 0, none⟩) (a.length + 1) cap) vl (a ++ [x]) b C' (w1.setCell ⟨hb, 0, none⟩ (.slice (some ⟨g, 0, none⟩) (a.length + 1) cap)) ∧
      But C W (w1.setCell ⟨hb, 0, none⟩ (.slice (some ⟨g, 0, none⟩) (a.length + 1) cap)) ∧ ∀ k, C' k → C k ∨ W.heap.size ≤ k := by
  obtain ⟨b1, b2, o2, bt, hg⟩ := box_app h.bh h.oh hown hgrow hat
  have hC : ∀ k, k = hb ∨ vh.ownBlock = some k → C k := fun k hk => (h.c k).2 (hk.elim .inl (fun h => .inr (.inr (.inl h))))
  refine ⟨b1, fun k => k = hb ∨ k = kb ∨ g = k ∨ vl.ownBlock = some k, ⟨b2, o2, boxed_but h.bk bt ?_, h.ol.but bt ?_, fun k => ?_, ⟨h.ne.1, ?_⟩, h.lo, h.bl.trans (bt.below (fun k _ hk => (h.lt k (hC k hk)).1) h.bl.size)⟩, bt.mono fun k _ hk => hC k hk, ?_⟩
  · rintro (e | e)
    · exact h.ne.1 e.symm
    · exact row_ne_box h.oh h.bk (by decide) e
  · rintro k hk (e | e)
    · exact row_ne_box h.ol h.bh (by decide) (by rw [hk, e])
    · exact h.ne.2 k e hk
  · simp [Value.ownBlock]
  · intro k hk hl
    cases hk
    rcases hg with e | e
    · exact h.ne.2 _ e hl
    · have := (own_block h.ol hl).2.1; simp only at this; omega
  · rintro k (e | e | e | e)
    · exact .inl ((h.c k).2 (.inl e))
    · exact .inl ((h.c k).2 (.inr (.inl e)))
    · rcases hg with e2 | e2
      · exact .inl ((h.c k).2 (.inr (.inr (.inl (by rw [e2, e])))))
      · exact .inr (by omega)
    · exact .inl ((h.c k).2 (.inr (.inr (.inr e))))

theorem filter_snoc_yes {p : Bs → Bool} {pre : List Bs} {x : Bs} (h : p x = true) : (pre ++ [x]).filter p = pre.filter p ++ [x] := by
  rw [List.filter_append]; simp [h]
theorem filter_snoc_no {p : Bs → Bool} {pre : List Bs} {x : Bs} (h : p x = false) : (pre ++ [x]).filter p = pre.filter p := by
  rw [List.filter_append]; simp [h]

/-- What Closure answers. -/
def CloPost (l : List Hld) (tips : List Bs) (w : World) (e : Ending) (w' : World) : Prop :=
  ∃ va vb a b, e = .returned (.tuple #[va, vb]) ∧ StrsR w' va a ∧ StrsR w' vb b ∧ IsClo (wfL l) (thB l) tips a b ∧ a.length ≤ 600000 ∧ b.length ≤ 600000 ∧ Below w.heap.size w w'

set_option maxHeartbeats 8000000 in
set_option maxRecDepth 100000 in
theorem Closure_any {w : World} {v tv : Value} {L : List Hld} {tips : List Bs} (h : HldsR w v L) (ht : StrsR w tv tips) (he : Eb w) (htb : Tb w)
    (hL : L.length ≤ 2000) (hT : tips.length ≤ 1000) (hd : ∀ x ∈ L, x.id.length ≤ 10000 ∧ x.data.length ≤ 10000) (hs : ∀ x ∈ tips, x.length ≤ 10000) :
    Calls Tryz.prog 14 #[v, tv] w (CloPost L tips w) := by
  obtain ⟨A0, c0, rfl⟩ := h.shape
  obtain ⟨A, ct, rfl⟩ := ht.shape
  obtain ⟨w1, hw1⟩ : ∃ w1, w1 = (w.alloc (.cells #[.slice none 0 0] 23)).alloc (.cells #[.slice none 0 0] 23) := ⟨_, rfl⟩
  have hb1 : Below w.heap.size w w1 := by rw [hw1]; exact (below_new w _).alloc (by simp) _
  have HO := Lib.hid (objects_any (h.below hb1 (Nat.le_refl _)) (by omega) (fun x hx => by have := (hd x hx).1; omega))
  have HW1 := Lib.hid hw1; have HB1 := Lib.hid hb1; have HT := Lib.hid ht; have HE := Lib.hid (And.intro he htb); have HD := Lib.hid hd; have HS := Lib.hid hs
  clear h ht he htb hd hs hw1 hb1
  refine (callsIn_wide (n := 5)).1 (callsIn_of_wp_marks Tryz.func14 rfl trivial ?_ rfl)
  refine wpIn_wide.2 ?_
  simp only [Tryz.ntmps14, List.size_toArray, List.length_cons, List.length_nil, Nat.reduceAdd, Nat.reduceSub, Array.replicate_succ, Array.replicate_zero, List.push_toArray, List.append_toArray, List.nil_append, List.cons_append]
  go_wp2_with fail
  rw [← HW1.out]
  refine HO.out.mono ?_
  rintro e w2 ⟨rfl, hM, hb2⟩
  have HM := Lib.hid hM; have HB2 := Lib.hid (HB1.out.trans (hb2.mono HB1.out.size)); have HB12 := Lib.hid hb2
  obtain ⟨ob, hob⟩ : ∃ ob, ob = w2.heap.size := ⟨_, rfl⟩
  have HA := Lib.hid (after_any w1.heap.size A tips.length ct w2)
  rw [← hob] at HA
  have HOb := Lib.hid hob
  clear hM hb2 hob
  go_wp2_with fail
  refine HA.out.mono ?_
  rintro e w3 ⟨rfl, hw3⟩
  have hob := HOb.out
  have hz3 : w3.heap.size = ob + 1 + 1 := by rw [← hw3, hob]; simp
  have hb3 : Below w2.heap.size w2 w3 := by rw [← hw3]; exact (below_new w2 _).alloc (by simp) _
  have obx : Boxed w3 ob 64 (.map (some w1.heap.size)) := by rw [← hw3, hob]; exact (Boxed.new w2 _ _).alloc _
  have tbx : Boxed w3 (ob + 1) 23 (.slice A tips.length ct) := by
    have := Boxed.new (w2.alloc (.cells #[.map (some w1.heap.size)] 64)) 23 (.slice A tips.length ct)
    rw [hw3] at this
    rw [hob]; simpa using this
  have HB3 : Hid (Below w.heap.size w w3) := Lib.hid (HB2.out.trans (hb3.mono HB2.out.size))
  have hfix : Fix L tips (ob + 1) ob w1.heap.size L.length A ct w3 := ⟨tbx, obx, HT.out.below HB3.out (Nat.le_refl _), HM.out.below hb3 HM.out.lt⟩
  have hbx : ∀ W, Below w1.heap.size w1 W → Boxed W w.heap.size 23 (.slice none 0 0) ∧ Boxed W (w.heap.size + 1) 23 (.slice none 0 0) := fun W hW => by
    have k1 : Boxed w1 w.heap.size 23 (.slice none 0 0) := by rw [HW1.out]; exact (Boxed.new w _ _).alloc _
    have k2 : Boxed w1 (w.heap.size + 1) 23 (.slice none 0 0) := by
      have := Boxed.new (w.alloc (.cells #[.slice none 0 0] 23)) 23 (.slice none 0 0)
      rw [HW1.out]; simpa using this
    exact ⟨boxed_but k1 (But.of_below hW) (by have := k1.lt; omega), boxed_but k2 (But.of_below hW) (by have := k2.lt; omega)⟩
  obtain ⟨x1, x2⟩ := hbx w3 (HB12.out.trans (hb3.mono HB12.out.size))
  have h0 : TwoI w w.heap.size (w.heap.size + 1) (.slice none 0 0) (.slice none 0 0) [] [] (fun k => k = w.heap.size ∨ k = w.heap.size + 1) w3 :=
    ⟨x1, OwK.nil _ _ _ _ _, x2, OwK.nil _ _ _ _ _, fun k => by simp [Value.ownBlock], ⟨by omega, fun g hg => by cases hg⟩, ⟨Nat.le_refl _, Nat.le_succ _⟩, HB3.out⟩
  have hCS : ∀ k, Still tips (ob + 1) ob w1.heap.size A k → ¬ (k = w.heap.size ∨ k = w.heap.size + 1) := by
    have z1 : w1.heap.size = w.heap.size + 1 + 1 := by rw [HW1.out]; simp
    have z2 := HB12.out.size
    rintro k (rfl | rfl | rfl | ⟨hp, a, rfl, rfl⟩) (e | e)
    all_goals try omega
    all_goals
      obtain ⟨g, o, c, e2, _, hg⟩ := RdK.pos HT.out hp
      cases e2
      simp only at e
      omega
  have H0 := Lib.hid h0; have HF := Lib.hid hfix; have HCS := Lib.hid hCS
  have HZ3 : Hid (w.heap.size ≤ w3.heap.size) := Lib.hid HB3.out.size
  clear hw3 hz3 hob hb3 obx tbx hfix hbx x1 x2 h0 hCS
  go_wp2_with fail
  refine range_after (w0 := w) rfl HE.out.1 HE.out.2 HF.out HCS.out hL hT HD.out HS.out (fun pre C W => ∃ vh vl, TwoI w w.heap.size (w.heap.size + 1) vh vl (pre.filter fun x => thB L x) (pre.filter fun x => !thB L x) C W) (fun _ _ => False)
    (fun pre C W W' h hb => by obtain ⟨vh, vl, h⟩ := h; exact ⟨vh, vl, h.but hb fun k hk => ⟨Nat.le_trans HZ3.out hk.1, hk.2⟩⟩) (fun _ _ _ h _ => h) (fun pre C W h k hk => by obtain ⟨vh, vl, h⟩ := h; exact (h.lt k hk).2) (fun pre C W h => by obtain ⟨vh, vl, h⟩ := h; exact h.bl) ⟨_, _, H0.out⟩
    (fun mv bp => { tmps := #[.slice A0 L.length c0, .slice A tips.length ct, undef, undef, .slice none 0 0, .slice none 0 0, .pointer (some ⟨w.heap.size, 0, none⟩), .pointer (some ⟨w.heap.size + 1, 0, none⟩), bp, .slice A0 L.length c0, .map (some w1.heap.size), .slice A tips.length ct, .func (.func 52) #[] #[.pointer (some ⟨ob + 1, 0, none⟩), .pointer (some ⟨ob, 0, none⟩)], mv, undef, undef, undef, undef, undef, undef, undef, undef, undef, undef, undef, undef, undef, undef, undef, undef, undef, undef], defers := [] }) ?assign ?body ?done ?stop
  case assign =>
    intro l x t B n c W K hK
    gi_wp2
    exact hK
  case body =>
    rintro l pre x B c b C W ⟨vh, vl, hI⟩ hCb _ hpl hxl hk hw
    have q0 : W.cell? ⟨b, 0, none⟩ = some (.string ⟨x.toArray⟩) := (cell_of_row W _ 0 _ _ _ hk).trans rfl
    have q1 : W.cell? ⟨b, 1, none⟩ = some (.bool (thB L x)) := (cell_of_row W _ 1 _ _ _ hk).trans rfl
    have hfl : ∀ p : Bs → Bool, (pre.filter p).length ≤ 1000000 := fun p => Nat.le_trans (List.length_filter_le _ _) hpl
    have c1 := hI.bh.cell
    have c2 := hI.bk.cell
    have hbl := hI.bl.size
    obtain ⟨i0, hi0, hz0, hz1, hz2⟩ := info_parts infoW
    cases hth : thB L x with
    | true =>
      rw [hth] at q1
      have hl0 := hfl (fun x => thB L x)
      have HN : Hid (((pre ++ [x]).filter fun x => thB L x) = (pre.filter fun x => thB L x) ++ [x] ∧ ((pre ++ [x]).filter fun x => !thB L x) = (pre.filter fun x => !thB L x)) := Lib.hid ⟨filter_snoc_yes hth, filter_snoc_no (by rw [hth]; rfl)⟩
      obtain ⟨zs, hzs⟩ : ∃ zs, zs = pre.filter fun x => thB L x := ⟨_, rfl⟩
      rw [← hzs] at hI hl0 HN
      have HI := Lib.hid hI
      clear hfl hth hk hw hzs hI
      gi_wp2_with (gi_at_builtin; refine wpListIn_append_own_at _ rfl _ _ 23 rfl w.heap.size 9 i0 _ 1 16 Tryz.underlying23 hi0 hz0 hz1 hz2 rfl (by decide) _ zs.length _ rfl (World.ownsRow.alloc HI.out.oh _) ⟨W.heap.size, 0, none⟩ 1 1 [.string ⟨x.toArray⟩] rfl rfl (cell_one_new _ _ _) (by simp [Value.oneCell']) (by unfold maxLen; omega) (by omega) (by simp; omega) ?_; intro v' w9 hown' hgrow _ hat; obtain ⟨g, cap, rfl⟩ := ownsRow_succ hown'; obtain ⟨b9, C', hN, hbN, hcN⟩ := HI.out.app hown' hgrow (hat.imp (fun e => e.symm) (fun e => by cases e; rfl)); have c9 := b9.cell; have f9 := b9.frozen)
      have hN2 := hN
      rw [← HN.out.1, ← HN.out.2] at hN2
      exact ⟨C', ⟨_, _, hN2⟩, hbN, hcN⟩
    | false =>
      rw [hth] at q1
      have hl0 := hfl (fun x => !thB L x)
      have HN : Hid (((pre ++ [x]).filter fun x => thB L x) = (pre.filter fun x => thB L x) ∧ ((pre ++ [x]).filter fun x => !thB L x) = (pre.filter fun x => !thB L x) ++ [x]) := Lib.hid ⟨filter_snoc_no hth, filter_snoc_yes (by rw [hth]; rfl)⟩
      obtain ⟨zs, hzs⟩ : ∃ zs, zs = pre.filter fun x => !thB L x := ⟨_, rfl⟩
      rw [← hzs] at hI hl0 HN
      have HI := Lib.hid hI.swap
      clear hfl hth hk hw hzs hI
      gi_wp2_with (gi_at_builtin; refine wpListIn_append_own_at _ rfl _ _ 23 rfl w.heap.size 9 i0 _ 1 16 Tryz.underlying23 hi0 hz0 hz1 hz2 rfl (by decide) _ zs.length _ rfl (World.ownsRow.alloc HI.out.oh _) ⟨W.heap.size, 0, none⟩ 1 1 [.string ⟨x.toArray⟩] rfl rfl (cell_one_new _ _ _) (by simp [Value.oneCell']) (by unfold maxLen; omega) (by omega) (by simp; omega) ?_; intro v' w9 hown' hgrow _ hat; obtain ⟨g, cap, rfl⟩ := ownsRow_succ hown'; obtain ⟨b9, C', hN, hbN, hcN⟩ := HI.out.app hown' hgrow (hat.imp (fun e => e.symm) (fun e => by cases e; rfl)); have c9 := b9.cell; have f9 := b9.frozen)
      have hN2 := hN.swap
      rw [← HN.out.1, ← HN.out.2] at hN2
      exact ⟨C', ⟨_, _, hN2⟩, hbN, hcN⟩
  case done =>
    rintro D row C W hD hCD hrow ⟨vh, vl, hI⟩ hK
    have hlen : row.length ≤ 600000 := by have := rowI_len hrow; omega
    have hfl : ∀ p : Bs → Bool, (row.filter p).length ≤ 600000 := fun p => Nat.le_trans (List.length_filter_le _ _) hlen
    have hl1 := hfl (fun x => thB L x)
    have hl2 := hfl (fun x => !thB L x)
    have c1 := hI.bh.cell
    obtain ⟨Ah, ch, eh⟩ := own_slice hI.oh
    obtain ⟨Al, cl, el⟩ := own_slice hI.ol
    have HS1 := Lib.hid (sort_own hI.oh (by omega))
    have HI := Lib.hid hI; have HRow := Lib.hid hrow; have HKD := Lib.hid hK; have HCD := Lib.hid hCD
    have HL1 := Lib.hid hl1; have HL2 := Lib.hid hl2
    obtain ⟨za, hza⟩ : ∃ za, za = row.filter fun x => thB L x := ⟨_, rfl⟩
    obtain ⟨zb, hzb⟩ : ∃ zb, zb = row.filter fun x => !thB L x := ⟨_, rfl⟩
    have HZa := Lib.hid hza; have HZb := Lib.hid hzb
    rw [← hza] at HS1 HL1 eh
    rw [← hzb] at HL2 el
    rw [← hza, ← hzb] at HI
    clear hI hrow hK hCD hfl hl1 hl2 hlen hza hzb HO HB1 HM HB2 HB12 HA HB3 H0 HF HCS
    subst eh el
    go_wp2_with fail
    refine HS1.out.mono ?_
    rintro e W2 ⟨rfl, o1, b1⟩
    have k2 : Boxed W2 (w.heap.size + 1) 23 (.slice Al zb.length cl) := boxed_but HI.out.bk b1 (fun e => row_ne_box HI.out.oh HI.out.bk (by decide) e)
    have k1 : Boxed W2 w.heap.size 23 (.slice Ah za.length ch) := boxed_but HI.out.bh b1 (fun e => row_ne_box HI.out.oh HI.out.bh (by decide) e)
    have o2 : OwK 9 1 strC W2 w.heap.size (.slice Al zb.length cl) zb := HI.out.ol.but b1 (fun g hg e => HI.out.ne.2 g e hg)
    have HS2 := Lib.hid (sort_own o2 (by have := HL2.out; omega))
    have c2 := k2.cell
    have HO1 := Lib.hid o1; have HB1 := Lib.hid b1; have HK1 := Lib.hid k1; have HK2 := Lib.hid k2; have HO2 := Lib.hid o2
    clear o1 b1 k1 k2 o2 c1 HS1
    go_wp2_with fail
    refine HS2.out.mono ?_
    rintro e W3 ⟨rfl, o2, b2⟩
    have k1 : Boxed W3 w.heap.size 23 (.slice Ah za.length ch) := boxed_but HK1.out b2 (fun e => row_ne_box HO2.out HK1.out (by decide) e)
    have k2 : Boxed W3 (w.heap.size + 1) 23 (.slice Al zb.length cl) := boxed_but HK2.out b2 (fun e => row_ne_box HO2.out HK2.out (by decide) e)
    have o1 : OwK 9 1 strC W3 w.heap.size (.slice Ah za.length ch) (za.mergeSort leB) := HO1.out.but b2 (fun g hg e => HI.out.ne.2 g hg e)
    have hKD : W3.heap[D]? = some (.deferred (some [])) := by
      have hD2 : D < W.heap.size := lt_heap HKD.out
      have n1 : (Value.slice Ah za.length ch).ownBlock ≠ some D := fun e => by
        obtain ⟨_, _, cur, h⟩ := own_block HI.out.oh e
        rw [HKD.out] at h; cases h
      have n2 : (Value.slice Al zb.length cl).ownBlock ≠ some D := fun e => by
        obtain ⟨_, _, cur, h⟩ := own_block HI.out.ol e
        rw [HKD.out] at h; cases h
      rw [b2.block D (Nat.lt_of_lt_of_le hD2 HB1.out.size) n2, HB1.out.block D hD2 n1]; exact HKD.out
    have hBl : Below w.heap.size w W3 := (HI.out.bl.trans (HB1.out.below (fun k _ hk => (own_block HI.out.oh hk).1) HI.out.bl.size)).trans (b2.below (fun k _ hk => (own_block HO2.out hk).1) (Nat.le_trans HI.out.bl.size HB1.out.size))
    have c1 := k1.cell
    have c2 := k2.cell
    have HO1 := Lib.hid o1; have HO2 := Lib.hid o2; have HKD := Lib.hid hKD; have HBl := Lib.hid hBl
    clear o1 o2 k1 k2 b2 hKD hBl HS2
    go_wp2_with fail
    go_quiet (fail)
    go_wp2_with fail
    have hKd : (W3.drewN nq).heap[D]? = some (.deferred (some [])) := HKD.out
    refine ⟨by simp, .inl ⟨_, _, rfl, run_takeDeferred hKd, ?_⟩⟩
    have hbt : But (fun k => k = D) W3 ((W3.drewN nq).putObj D (.deferred none)) := ((But.refl (fun k => k = D) W3).drewN nq).trans (but_putObj _ D _ rfl)
    have hne : ∀ {v : Value} {zs : List Bs}, OwK 9 1 strC W3 w.heap.size v zs → ∀ g, v.ownBlock = some g → ¬ g = D := fun h g hg e => by
      obtain ⟨_, _, cur, h2⟩ := own_block h hg
      rw [e, HKD.out] at h2; cases h2
    have hR : IsClo (wfL L) (thB L) tips (za.mergeSort leB) (zb.mergeSort leB) := by
      have pa := List.mergeSort_perm za leB
      have pb := List.mergeSort_perm zb leB
      rw [HZa.out] at pa ⊢
      rw [HZb.out] at pb ⊢
      exact HRow.out.clo (Nat.le_refl _) (sorted_leB _) (sorted_leB _) pa pb
    refine ⟨.tuple #[.slice Ah za.length ch, .slice Al zb.length cl], by simp [results, Tryz.results14, go_sem], _, _, za.mergeSort leB, zb.mergeSort leB, rfl, ?_, ?_, hR, ?_, ?_, ?_⟩
    · exact (HO1.out.rd strC_len).but hbt (hne HO1.out)
    · exact (HO2.out.rd strC_len).but hbt (hne HO2.out)
    · rw [List.length_mergeSort]; exact HL1.out
    · rw [List.length_mergeSort]; exact HL2.out
    · exact HBl.out.trans (hbt.below (fun k _ e => by rw [e]; exact Nat.le_trans HZ3.out hD) HBl.out.size)
  case stop =>
    intro D C W _ _ h _
    exact h.elim
end Go.Proofs.YtngphfogomchfaaGreatDoor
