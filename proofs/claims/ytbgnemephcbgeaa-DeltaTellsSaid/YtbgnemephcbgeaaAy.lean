/-
  made, Apply.
-/
import Derived.Test.YtbgnemephcbgeaaBd
namespace Go.Proofs.Ytbgnemephcbgeaa
open Go Go.RowKit Go.Shelf
attribute [local go_sem] Oper.semAt_some

theorem conv_bytes (W : World) (l : List UInt8) : ∃ A c W', (convert 9 29 (.string ⟨l.toArray⟩)).run Try.prog W = .ok (.slice A l.length c) W' ∧ Rb W' (.slice A l.length c) l ∧ Below W.heap.size W W' := by
  have hge := grownCap_ge W (⟨l.toArray⟩ : ByteArray).size 0 5
  have hsz : (⟨l.toArray⟩ : ByteArray).size = l.length := rfl
  refine ⟨_, _, _, run_bytes_of_string W _ _ 5 _ Try.underlying9 Try.underlying29 Try.underlying5, ?_, ?_⟩
  · refine .inr ⟨W.heap.size, 0, _, rfl, by rw [← hsz]; exact hge, by simp, fun j hj => ?_⟩
    rw [Nat.zero_add]
    have h1 := bytesRow_at ⟨l.toArray⟩ (grownCap W (⟨l.toArray⟩ : ByteArray).size 0 5) j (by simpa using hj)
    have h2 := cell_of_row (W.drew.alloc (.cells (bytesRow ⟨l.toArray⟩ (grownCap W (⟨l.toArray⟩ : ByteArray).size 0 5)) 5 ((bytesRow ⟨l.toArray⟩ (grownCap W (⟨l.toArray⟩ : ByteArray).size 0 5)).size, (bytesRow ⟨l.toArray⟩ (grownCap W (⟨l.toArray⟩ : ByteArray).size 0 5)).size + 1))) W.heap.size j _ _ _ (heap_alloc_new W.drew _)
    rw [h2, h1, List.getD_eq_getElem?_getD, List.getElem?_eq_getElem hj]
    simp
  · exact (Below.refl _ _).drew.alloc (Nat.le_refl _) _
theorem wpList_conv {ops : Array Oper} {rest : List Oper} {o : Oper} {a : Act} {w : World} {Q : Exit → Act → World → Prop} (hgd : o.guard = none) (s : Operand)
    (ho : o.op = .convert 9 29 s) (l : Bs) (hs : a.eval s = .string ⟨l.toArray⟩)
    (k : ∀ A c w', Rb w' (.slice A l.length c) l → Below w.heap.size w w' → wpList Try.prog ops Q rest (a.put o.dst (.slice A l.length c)) w') : wpList Try.prog ops Q (o :: rest) a w := by
  refine wpList_plain hgd fun K hK => ?_
  obtain ⟨A, c, w', h1, h2, h3⟩ := conv_bytes w l
  unfold Oper.wp
  simp only [execOp, ho, hs]
  simp [h1, Result.andThen]
  exact hK _ _ (k A c w' h2 h3)

structure BdI (base r : Bs) (w0 : World) (β : Nat) (s : Option Bs) (C : Nat → Prop) (W : World) : Prop where
  st : ∃ b t0 v, s = some b ∧ stepsL base r = (stepsL base b).map (t0 ++ ·) ∧ W.heap[β]? = some (.cells #[.pointer (some ⟨β, 0, none⟩), v] 57 (0, 0)) ∧ Ow W β v t0 ∧ v.ownBlock ≠ some β ∧ ∀ k, C k ↔ k = β ∨ v.ownBlock = some k
  bl : Below w0.heap.size w0 W
def MadeP (base d : Bs) (w : World) (e : Ending) (w' : World) : Prop := Below w.heap.size w w' ∧ ((applyL base d = none ∧ ∃ ev, e = .returned (.tuple #[.string ⟨#[]⟩, ev]) ∧ FaultIn w' ev 3) ∨
  (∃ t, applyL base d = some t ∧ e = .returned (.tuple #[.string ⟨t.toArray⟩, .nilIface])))

set_option maxHeartbeats 8000000 in
set_option maxRecDepth 100000 in
theorem made_any (base d : Bs) (hd : d.length ≤ 10000) (hb : base.length ≤ 10000) (w : World) :
    Calls Try.prog 15 #[.string ⟨base.toArray⟩, .string ⟨d.toArray⟩] w (MadeP base d w) := by
  have q1 := neqFN
  refine (callsIn_wide (n := 5)).1 (callsIn_of_wp_marks Try.func15 rfl trivial ?_ rfl)
  refine wpIn_wide.2 ?_
  simp only [Try.ntmps15, List.size_toArray, List.length_cons, List.length_nil, Nat.reduceAdd, Nat.reduceSub, Array.replicate_succ, Array.replicate_zero, List.push_toArray, List.append_toArray, List.nil_append, List.cons_append]
  go_wp2_with (refine wpList_conv (o := ⟨some 15, _, _, _, _, _⟩) rfl _ rfl d rfl ?_)
  intro A0 c0 w1 hr1 hb1
  have H1 := Lib.hid (dhead_any (base := base) hr1 (by omega))
  have HB1 := Lib.hid hb1; have HR1 := Lib.hid hr1
  clear hr1 hb1
  go_wp2_with fail
  refine H1.out.mono ?_
  clear H1
  rintro e w2 ⟨b2, ⟨hn, ev, rfl, hf⟩ | ⟨len, r, A, N, c, hn, hN, rfl, hr, ho⟩⟩
  · have hf' := hf
    obtain ⟨a, x, rfl, -⟩ := hf'
    have HF : Hid (MadeP base d w (.returned (.tuple #[.string ⟨#[]⟩, .iface 95 (.pointer (some ⟨a, 0, none⟩))])) w2) := Lib.hid ⟨HB1.out.trans (b2.mono HB1.out.size), .inl ⟨by rw [applyL_eq, hn], _, rfl, hf⟩⟩
    clear b2 hn hf
    go_wp2_with fail
    exact ⟨.tuple #[.string ⟨#[]⟩, .iface 95 (.pointer (some ⟨a, 0, none⟩))], by simp [results, Try.results15, go_sem], HF.out⟩
  · have hrl : r.length ≤ 10000 := by
      unfold headL at hn
      split at hn
      · cases hn
      · split at hn
        · cases hn
        · split at hn
          · cases hn
          · simp only [Option.some.injEq, Prod.mk.injEq] at hn
            rw [← hn.2]; simp; omega
    have hlen : len ≤ 1099511627776 := by
      unfold headL at hn
      split at hn
      · cases hn
      · split at hn
        · cases hn
        · split at hn
          · cases hn
          · rename_i hg
            simp only [Option.some.injEq, Prod.mk.injEq] at hn
            rw [← hn.1]; exact (getL_some hg).1
    have HAp : Hid (applyL base d = match stepsL base r with | none => none | some t => if t.length = len then some t else none) := Lib.hid (by rw [applyL_eq, hn]; rfl)
    have H2 := Lib.hid (long_any hr hN hrl hb len)
    have HB2 : Hid (Below w.heap.size w w2) := Lib.hid (HB1.out.trans (b2.mono HB1.out.size))
    have HR2 := Lib.hid (And.intro hr hN)
    clear b2 hn hN hr ho
    go_wp2_with fail
    refine H2.out.mono ?_
    clear H2
    rintro e w3 ⟨b3, ⟨rfl, t, hst, htl⟩ | ⟨ev, rfl, hf, hno⟩⟩
    · have HT := Lib.hid (And.intro hst htl)
      have HB3 : Hid (Below w.heap.size w w3) := Lib.hid (HB2.out.trans (b3.mono HB2.out.size))
      have HR3 := Lib.hid (HR2.out.1.below b3 (Nat.le_refl _))
      clear b3 hst htl
      go_upto_region 8 with fail
      obtain ⟨β, hβ⟩ : ∃ β, β = w3.heap.size := ⟨_, rfl⟩
      obtain ⟨w4, hw4⟩ : ∃ z, z = w3.alloc (.cells #[.pointer none, .slice none 0 0] 57) := ⟨_, rfl⟩
      rw [← hw4]
      rw [← hβ]
      have k4 : w4.heap[β]? = some (.cells #[.pointer none, .slice none 0 0] 57 (0, 0)) := heap_alloc_at hw4 hβ.symm
      have b34 : Below w3.heap.size w3 w4 := by rw [hw4]; exact below_new _ _
      have HGr := Lib.hid (bgrow_any len β w4 k4 (by omega))
      have HB4 : Hid (Below w.heap.size w w4) := Lib.hid (HB3.out.trans (b34.mono HB3.out.size))
      have HR4 : Hid (Rb w4 (.slice A N c) r) := Lib.hid (HR3.out.below b34 (Nat.le_refl _))
      have HOl : Hid (r ≠ [] → ∀ g, (Value.slice A N c).ownBlock = some g → g < β) := Lib.hid (fun h0 g hg => by rw [hβ]; exact HR3.out.own_lt h0 g hg)
      have Hβw : Hid (w.heap.size ≤ β) := Lib.hid (by rw [hβ]; exact HB3.out.size)
      have Hβ4 : Hid (β < w4.heap.size) := Lib.hid (lt_heap k4)
      clear hw4 hβ k4 b34
      go_wp2_with fail
      refine HGr.out.mono ?_
      rintro e w5 ⟨rfl, hbd, hb5⟩
      have HB5 : Hid (Below w.heap.size w w5) := Lib.hid (HB4.out.trans (hb5.mono Hβw.out))
      have HN5 := Lib.hid HR2.out.2
      have HR5 : Hid (Rb w5 (.slice A N c) r) := Lib.hid (by
        rcases Nat.eq_zero_or_pos r.length with h0 | h0
        · obtain rfl := List.length_eq_zero_iff.1 h0
          have := HN5.out
          rcases HR4.out with h | ⟨g, o, c', e, _⟩
          · exact .inl h
          · cases e
            have hr4 := HR4.out
            rcases hr4 with ⟨⟨A', e⟩, _⟩ | ⟨g', o', c'', e, hc, hg, hcell⟩
            · cases e; exact .inl ⟨⟨_, rfl⟩, rfl⟩
            · cases e; exact .inr ⟨g, o, c, rfl, by simp, Nat.lt_of_lt_of_le hg hb5.size, fun j hj => by simp at hj⟩
        · have hne : r ≠ [] := fun h => by rw [h] at h0; simp at h0
          exact HR4.out.but (S := fun k => β ≤ k) (But.of_below hb5) (fun g hg h => by have := HOl.out hne g hg; omega))
      obtain ⟨_, v5, kb5, ow5, ne5⟩ := hbd
      have Hβ5 : Hid (β < w5.heap.size) := Lib.hid (lt_heap kb5)
      have HM := Lib.hid (parts_any base A N c w5)
      have H0 : Hid (∀ w6, (w5.alloc (.cells #[.string ⟨base.toArray⟩] 9)).alloc (.cells #[.slice A N c] 29) = w6 → w6.heap.size = w5.heap.size + 2 ∧ w6.cell? ⟨w5.heap.size, 0, none⟩ = some (.string ⟨base.toArray⟩) ∧ w6.cell? ⟨w5.heap.size + 1, 0, none⟩ = some (.slice A N c) ∧ Rb w6 (.slice A N c) r ∧ BdI base r w β (some r) (fun k => k = β ∨ v5.ownBlock = some k) w6) := Lib.hid (by
        intro w6 hw6
        obtain ⟨wb, hwb⟩ : ∃ z, z = w5.alloc (.cells #[.string ⟨base.toArray⟩] 9) := ⟨_, rfl⟩
        rw [← hwb] at hw6
        have sb := heap_alloc_sz hwb rfl
        have s3 := heap_alloc_sz hw6.symm rfl
        have bb : Below w5.heap.size w5 wb := by rw [hwb]; exact below_new _ _
        have b3 : Below wb.heap.size wb w6 := by rw [← hw6]; exact below_new _ _
        have b13 : Below w5.heap.size w5 w6 := bb.trans (b3.mono bb.size)
        have kb : wb.heap[w5.heap.size]? = some _ := heap_alloc_at hwb rfl
        have ks : w6.heap[wb.heap.size]? = some _ := heap_alloc_at hw6.symm rfl
        refine ⟨by omega, (cell_of_row _ _ 0 _ _ _ ((b3.block _ (by omega)).trans kb)).trans rfl, ?_, HR5.out.below b13 (Nat.le_refl _), ⟨⟨r, [], v5, rfl, by simp, (b13.block _ (lt_heap kb5)).trans kb5, ow5.below b13 (Nat.le_refl _), ne5, fun k => Iff.rfl⟩, HB5.out.trans (b13.mono HB5.out.size)⟩⟩
        rw [← sb]
        exact (cell_of_row _ _ 0 _ _ _ ks).trans rfl)
      have Hown : Hid (∀ g, v5.ownBlock = some g → β ≤ g ∧ g < w5.heap.size) := Lib.hid fun g hg => ow5.lt g hg
      clear hb5 HGr kb5 ow5 ne5
      go_wp2_with fail
      refine HM.out.mono ?_
      intro e w6 hh
      rw [hh.1]
      have HF := Lib.hid (H0.out w6 hh.2)
      clear hh e HM H0
      go_wp2_with fail
      refine range_gen (Step := PStep base) (End := PEnd) (s0 := some r) (C0 := fun k => k = β ∨ v5.ownBlock = some k) rfl (enters_of Try.func43 (by kernel_rfl) rfl) ?hps ?hit (fun s C W => BdI base r w β s C W) (fun _ _ => False) ?hst (fun _ _ _ _ _ h _ _ => h) ?hlt HF.out.2.2.2.2 ?round ?done (fun _ _ _ _ _ h _ => h.elim)
      case hps =>
        rintro s vs s' W ⟨b, _, ⟨p, r, _, rfl, _⟩ | ⟨ev, _, _, rfl, _⟩⟩
        · rfl
        · rfl
      case hit =>
        obtain ⟨f1, f2, f3, f4, f5⟩ := HF.out
        have hβ5 := Hβ5.out
        exact parts_iter (by omega) (by omega) f2 f3 f4 HN5.out (by omega) (fun h => h.elim (fun h => by omega) (fun h => by have := (Hown.out _ h).2; omega)) (fun h0 g hg => by
          have h1 := HOl.out h0 g hg
          exact ⟨by omega, fun h => h.elim (fun h => by omega) (fun h => by have := (Hown.out _ h).1; omega)⟩)
      case hst =>
        rintro s C W W' ⟨⟨b, t0, v, h1, h2, h3, h4, h5, h6⟩, h7⟩ hbt
        have n1 : ∀ k, C k → ¬ (w6.heap.size ≤ k ∧ ¬ C k) := fun k hk h => h.2 hk
        have hw6 := HF.out.2.2.2.2.bl.size
        exact ⟨⟨b, t0, v, h1, h2, (hbt.block _ (lt_heap h3) (n1 _ ((h6 _).2 (.inl rfl)))).trans h3, row_but h4 hbt (fun g hg => n1 g ((h6 g).2 (.inr hg))), h5, h6⟩, h7.trans (hbt.below (fun k _ hk => by have := hk.1; omega) h7.size)⟩
      case hlt =>
        rintro s C W ⟨⟨b, t0, v, h1, h2, h3, h4, h5, h6⟩, h7⟩ k hk
        rcases (h6 k).1 hk with rfl | hk
        · exact lt_heap h3
        · exact (h4.lt k hk).2
      case round =>
        rintro l s C vs s' W ⟨⟨b, t0, v, h1, h2, h3, h4, h5, h6⟩, h7⟩ ⟨b2, rfl, hcase⟩ hl1 hl2 hCl ⟨lr, hlr⟩
        obtain rfl : b2 = b := Option.some.inj h1
        clear h1
        rcases hcase with ⟨p, r2, hst, rfl, rfl⟩ | ⟨ev, hst, hne, rfl, hf, rfl⟩
        · have hlen2 : t0.length + p.length ≤ 1099511627776 := by
            have e1 := HT.out.1
            rw [h2, stepsL_some hst] at e1
            cases hx : stepsL base r2 with
            | none => rw [hx] at e1; cases e1
            | some y =>
              rw [hx] at e1
              have e2 := congrArg List.length (Option.some.inj e1)
              have e3 := HT.out.2
              simp only [List.length_append] at e2
              omega
          have hfin : Hid (∀ Wb, But (fun k => k = l) W Wb → Calls Try.prog 30 #[.pointer (some ⟨β, 0, none⟩), .string ⟨p.toArray⟩] Wb fun e W' => (∃ v, e = .returned v) ∧ ∀ ac : Go.Act, bpost (fun s C W => BdI base r w β s C W) (fun _ _ => False) (some r2) C Wb .normal ac W') := Lib.hid fun Wb hbb => by
            have nl : ∀ k, C k → k ≠ l := fun k hk e => hCl (by rw [← e]; exact hk)
            have k3 := (hbb.block β (lt_heap h3) (nl β ((h6 β).2 (.inl rfl)))).trans h3
            have o3 : Ow Wb β v t0 := row_but h4 hbb (fun g hg => nl g ((h6 g).2 (.inr hg)))
            refine (write_any β β t0 p Wb ⟨Nat.le_refl _, v, k3, o3, h5⟩ (by omega)).mono ?_
            rintro e W' ⟨he, ⟨_, v', k4, o4, n4⟩, hfr⟩
            obtain ⟨f1, f2⟩ := hfr v k3
            refine ⟨he, fun ac => ⟨fun k => k = β ∨ v'.ownBlock = some k, ⟨⟨r2, t0 ++ p, v', rfl, ?_, k4, o4, n4, fun k => Iff.rfl⟩, ?_⟩, f1.mono fun k _ hk => (h6 k).2 hk, ?_⟩⟩
            · rw [h2, stepsL_some hst, Option.map_map]
              congr 1; funext x; simp
            · have hw6 := HF.out.2.2.2.2.bl.size
              refine (h7.trans (hbb.below (fun k _ hk => by omega) h7.size)).trans (f1.below (fun k _ hk => ?_) (by have := h7.size; have := hbb.size; omega))
              rcases hk with rfl | hk
              · exact Hβw.out
              · have := (o3.lt k hk).1; have := Hβw.out; omega
            · rintro k (rfl | hk)
              · exact .inl ((h6 _).2 (.inl rfl))
              · exact (f2 v' k4 k hk).imp (fun h => (h6 k).2 (.inr h)) id
          clear h2 h3 h4 h5 h6 h7 hst hlr hCl hlen2 hl1 hl2
          gi_wp2
          refine ⟨Below.refl _ _, fun Wb hbb => ?_⟩
          have HP := Lib.hid (hfin.out Wb hbb)
          have hn1 : 1 ≤ 5 := by omega
          clear hbb hfin
          gi_wp2_with fail
          refine ⟨trivial, (CallsIn.inRound l (callsIn_wide.2 HP.out)).mono ?_⟩
          rintro e W2 ⟨⟨rv, rfl⟩, hpost⟩
          have HQ := Lib.hid hpost
          clear hpost HP
          gi_wp2
          exact HQ.out _
        · exfalso
          have e1 := HT.out.1
          rw [h2, stepsL_none hne hst] at e1
          cases e1
      case done =>
        rintro De s C W hDe hCD hend ⟨⟨b, t0, v, rfl, h2, h3, h4, h5, h6⟩, h7⟩ hK
        obtain rfl : b = [] := by
          rcases hend with h | h
          · exact Option.some.inj h
          · cases h
        rw [stepsL_nil] at h2
        have ht : t0 = t := by
          have e1 := HT.out.1
          rw [h2] at e1
          simpa using e1
        subst ht
        have hw6 := HF.out.2.2.2.2.bl.size
        have HS := Lib.hid (bstring_any β β t0 W ⟨Nat.le_refl _, v, h3, h4, h5⟩ (Nat.le_of_lt (lt_heap h3)))
        have HK : Hid (∀ W2, Below β W W2 → Lib.OthersKept 5 (some β) W W2 → W2.heap[De]? = some (.deferred (some [])) ∧ Below w.heap.size w (W2.putObj De (.deferred none))) := Lib.hid fun W2 hb2 hok => ⟨hok De _ hK (fun e => by injection e with e; have := Hβ5.out; have := HF.out.1; omega) (fun c fz e => by cases e), (h7.trans (hb2.mono Hβw.out)).trans ⟨rfl, rfl, rfl, by simp, fun k hk => World.putObj_heap_other (by omega)⟩⟩
        have HA : Hid (applyL base d = some t0) := Lib.hid (by rw [HAp.out, HT.out.1]; simp only; rw [if_pos HT.out.2])
        clear h2 h3 h4 h5 h6 h7 hend
        go_wp2_with fail
        refine HS.out.mono ?_
        rintro e W2 ⟨rfl, hb2, hok⟩
        obtain ⟨k1, k2⟩ := HK.out W2 hb2 hok
        have HK1 := Lib.hid k1; have HK2 := Lib.hid k2
        clear hb2 hok k1 k2 HK HS
        go_wp2_with fail
        refine ⟨by simp, .inl ⟨_, _, rfl, run_takeDeferred HK1.out, ?_⟩⟩
        exact ⟨.tuple #[.string ⟨t0.toArray⟩, .nilIface], by simp [results, Try.results15, go_sem], HK2.out, .inr ⟨t0, HA.out, rfl⟩⟩
    · have hf' := hf
      obtain ⟨a, x, rfl, -⟩ := hf'
      have HF : Hid (MadeP base d w (.returned (.tuple #[.string ⟨#[]⟩, .iface 95 (.pointer (some ⟨a, 0, none⟩))])) w3) := Lib.hid ⟨HB2.out.trans (b3.mono HB2.out.size), .inl ⟨by
        rw [HAp.out]
        cases hs : stepsL base r with
        | none => rfl
        | some t => simp only; rw [if_neg (hno t hs)], _, rfl, hf⟩⟩
      clear b3 hno hf
      go_wp2_with fail
      exact ⟨.tuple #[.string ⟨#[]⟩, .iface 95 (.pointer (some ⟨a, 0, none⟩))], by simp [results, Try.results15, go_sem], HF.out⟩

def applyR (base d : Bs) : Value := match applyL base d with
  | none => .tuple #[.string ⟨#[]⟩, .int .i64 3]
  | some t => .tuple #[.string ⟨t.toArray⟩, .int .i64 0]
set_option maxHeartbeats 2000000 in
set_option maxRecDepth 100000 in
theorem Apply_any (base d : Bs) (hd : d.length ≤ 10000) (hb : base.length ≤ 10000) (w : World) :
    Calls Try.prog 10 #[.string ⟨base.toArray⟩, .string ⟨d.toArray⟩] w fun e w' => e = .returned (applyR base d) ∧ Below w.heap.size w w' := by
  have HM := Lib.hid (made_any base d hd hb w)
  go_enter Try.func10, Try.ntmps10
  go_wp2_with fail
  refine HM.out.mono ?_
  clear HM
  rintro e w1 ⟨b1, ⟨hn, ev, rfl, hf⟩ | ⟨t, hn, rfl⟩⟩
  · have HT := Lib.hid (told_fault hf)
    have HE : Hid (applyR base d = .tuple #[.string ⟨#[]⟩, .int .i64 3]) := Lib.hid (by unfold applyR; rw [hn])
    have HB := Lib.hid b1
    clear hn hf b1
    go_wp2_with fail
    refine HT.out.mono ?_
    intro e w' hh
    rw [hh.1, ← hh.2]
    clear hh e w' HT
    go_wp2
    go_ret2
    exact ⟨by rw [HE.out]; rfl, HB.out⟩
  · have HT := Lib.hid (told_nil w1)
    have HE : Hid (applyR base d = .tuple #[.string ⟨t.toArray⟩, .int .i64 0]) := Lib.hid (by unfold applyR; rw [hn])
    have HB := Lib.hid b1
    clear hn b1
    go_wp2_with fail
    refine HT.out.mono ?_
    intro e w' hh
    rw [hh.1, ← hh.2]
    clear hh e w' HT
    go_wp2
    go_ret2
    exact ⟨by rw [HE.out]; rfl, HB.out⟩
end Go.Proofs.Ytbgnemephcbgeaa
