/-
  The reader: a fork, and all that it has.
  The reader: the end.
-/
import Derived.Test.YtnboagmibhllpaaGreatDoorC15

namespace Go.Proofs.YtnboagmibhllpaaGreatDoor.Ro
open Go.Proofs.YtnboagmibhllpaaGreatDoor
open Go.Proofs.YtnboagmibhllpaaGreatDoor.Rf (BoolB Ref RefsR OwR OwS refC elRef)
open Go Go.RowKit

noncomputable def restO (q : Op) (r : Bs) : Option (Fk × Bs) := (refsR q.refs r).bind fun p => (packsO q.packs [] p.2).bind fun t => some (⟨q.name, q.linked, q.head, p.1, t.1⟩, t.2)
open Classical in
theorem forkO_yes {ahead : List Fk} {s l r : Bs} {q : Op} (h : cutAt 10 s = some (l, r)) (ho : openO l = some q) (hf : follows ahead q.name q.head) : forkO ahead s = restO q r := by
  unfold forkO restO refsR
  rw [h]
  simp only [ho, if_pos hf]
  cases h1 : refsO q.refs [] r with
  | none => rfl
  | some p =>
    obtain ⟨rs, r2⟩ := p
    by_cases hr : Rf.Right rs
    · simp only [if_pos hr, Option.bind]
      cases packsO q.packs [] r2 <;> rfl
    · simp only [if_neg hr]; rfl
open Classical in
theorem forkO_no {ahead : List Fk} {s l r : Bs} (h : cutAt 10 s = some (l, r)) (ho : openO l = none ∨ ∃ q, openO l = some q ∧ ¬ follows ahead q.name q.head) : forkO ahead s = none := by
  unfold forkO
  rw [h]
  rcases ho with ho | ⟨q, ho, hf⟩
  · simp only [ho]
  · simp only [ho, if_neg hf]
theorem forkO_cut {ahead : List Fk} {s : Bs} (h : cutAt 10 s = none) : forkO ahead s = none := by
  unfold forkO; rw [h]
/-- Behind the line of a fork. -/
def LfP (w0 : World) (a bo : Nat) (t : Option (Fk × Bs)) (w : World) (e : Ending) (w' : World) : Prop :=
  e = .returned (.tuple #[]) ∧ ∃ (q : Op) (o4 : Option Bs), w'.heap[bo]? = some (.cells q.cs 109 (0, 0)) ∧ q.refs ≤ 64 ∧ q.packs ≤ 24 ∧ St w0 w' a o4 ∧ (∀ s, o4 = some s → s.length ≤ 900000) ∧ But (fun k => k = a ∨ k = bo) w w' ∧ t = o4.bind (restO q)
theorem op0_cs : op0 = (⟨[], false, [], 0, 0⟩ : Op).cs := rfl
set_option maxHeartbeats 8000000 in
set_option maxRecDepth 100000 in
theorem lineF_p {w0 w : World} {E : ErA} (hp : PrA E w0) {a : Nat} {o : Option Bs} (hs : St w0 w a o) (hsl : ∀ s, o = some s → s.length ≤ 900000) {bo ba B : Nat} {A : Option Addr} {n c : Nat} {ahead : List Fk} (h1 : w.heap[bo]? = some (.cells op0 109 (0, 0))) (h2 : w.heap[ba]? = some (.cells #[.slice A n c] 23 (0, 0))) (hv : FksO w B (.slice A n c) ahead) (ha : ahead.length ≤ 1000000) (hlo : w0.heap.size ≤ bo) :
    Calls Tryz.prog 72 #[.pointer (some ⟨a, 0, none⟩), .func (.func 78) #[] #[.pointer (some ⟨bo, 0, none⟩), .pointer (some ⟨ba, 0, none⟩)]] w (LfP w0 a bo (o.bind (forkO ahead)) w) := by
  obtain ⟨cs, hcs⟩ := hs.blkt
  have hba : bo ≠ a := fun e => by subst e; rw [h1] at hcs; cases hcs
  have hbb : ba ≠ bo := fun e => by subst e; rw [h1] at h2; cases h2
  have hbc : ba ≠ a := fun e => by subst e; rw [h2] at hcs; cases hcs
  cases o with
  | none =>
    obtain ⟨v, hv'⟩ := hs
    refine (line_has hv' _).mono ?_
    rintro e w2 ⟨rfl, rfl⟩
    exact ⟨rfl, ⟨[], false, [], 0, 0⟩, none, h1, Nat.zero_le _, Nat.zero_le _, ⟨v, hv'⟩, (fun s h => by cases h), But.refl _ _, rfl⟩
  | some s =>
    have hrd : Rd w0 w a s := hs
    cases hc : cutAt 10 s with
    | none =>
      refine (line_end hrd hp.er hc _).mono ?_
      rintro e w2 ⟨rfl, r2, t2⟩
      exact ⟨rfl, ⟨[], false, [], 0, 0⟩, none, (t2.block bo (lt_heap h1) hba).trans h1, Nat.zero_le _, Nat.zero_le _, ⟨_, r2⟩, (fun s h => by cases h), t2.mono fun k _ h => .inl h, forkO_cut hc⟩
    | some p =>
      obtain ⟨l, r⟩ := p
      have hll := cutAt_len hc
      have hl9 := hsl s rfl
      refine (line_take hrd hc 78 #[.pointer (some ⟨bo, 0, none⟩), .pointer (some ⟨ba, 0, none⟩)] (enters_of Tryz.func78 (by kernel_rfl) rfl)
        (fun v W' => But (fun k => k = a ∨ k = bo) w W' ∧ Rd w0 W' a r ∧ ∃ q : Op, W'.heap[bo]? = some (.cells q.cs 109 (0, 0)) ∧ q.refs ≤ 64 ∧ q.packs ≤ 24 ∧
    ((openO l = some q ∧ follows ahead q.name q.head ∧ v = .nilIface) ∨ ((openO l = none ∨ ∃ q', openO l = some q' ∧ ¬ follows ahead q'.name q'.head) ∧ ∃ x, v = ev x)))
        (fun W hW hT => ?_)).mono ?_
      · have hk1 := (hT.block _ (lt_heap h1) hba).trans h1
        have hk2 := (hT.block _ (lt_heap h2) hbc).trans h2
        have hT' : But (fun k => k = a ∨ k = bo) w W := hT.mono fun k _ h => .inl h
        refine (fk1_p (E := E) (hp.below hW.low) hk1 hk2 (fun W' hW' => (hv.but (hT'.trans (hW'.mono fun k _ h => .inr h)) fun g _ hg hS => ?_).rd) (fun W' hW' => (hp.er.below (hW.low.trans (hW'.below (fun k _ hk => by omega) hW.low.size)))) ha hbb l (by omega)).mono ?_
        · rcases hS with rfl | rfl
          · rcases hg with ⟨cs', fr, hg⟩ | ⟨cs', fr, hg⟩ | ⟨cs', fr, hg⟩ <;> (rw [hcs] at hg; cases hg)
          · rcases hg with ⟨cs', fr, hg⟩ | ⟨cs', fr, hg⟩ | ⟨cs', fr, hg⟩ <;> (rw [h1] at hg; cases hg)
        · rintro e W' ⟨v, rfl, hb, q, hq, hq1, hq2, hq3⟩
          have hch : Ch w0 a W W' := Ch.box hb hk1 (by decide) hba hlo
          refine ⟨v, rfl, ?_, hch, hT'.trans (hb.mono fun k _ h => .inr h), hW.ch hch, q, hq, hq1, hq2, hq3⟩
          rcases hq3 with ⟨_, _, rfl⟩ | ⟨_, x, rfl⟩
          · exact .inl rfl
          · exact .inr ⟨_, _, rfl⟩
      · rintro e w2 ⟨rfl, v, W', ⟨hb, hr, q, hq, hq1, hq2, hq3⟩, t2, hst⟩
        have hq' : w2.heap[bo]? = some (.cells q.cs 109 (0, 0)) := (t2.block bo (lt_heap hq) hba).trans hq
        have hb' : But (fun k => k = a ∨ k = bo) w w2 := hb.trans (t2.mono fun k _ h => .inl h)
        rcases hq3 with ⟨h3, h4, rfl⟩ | ⟨h3, x, rfl⟩
        · refine ⟨rfl, q, some r, hq', hq1, hq2, ?_, fun s' h => ?_, hb', forkO_yes hc h3 h4⟩
          · rcases hst with ⟨_, h⟩ | ⟨h, _⟩
            · exact h
            · exact absurd rfl h
          · cases h; omega
        · refine ⟨rfl, q, none, hq', hq1, hq2, ?_, (fun s' h => by cases h), hb', forkO_no hc h3⟩
          rcases hst with ⟨h, _⟩ | ⟨_, h⟩
          · cases h
          · exact ⟨_, h⟩
def FkP (w0 : World) (a : Nat) (o : Option (Fk × Bs)) (w : World) (e : Ending) (w' : World) : Prop :=
  ∃ x : Fs, e = .returned (fkV x.fc) ∧ But (fun k => k = a) w w' ∧ ((∃ f r, o = some (f, r) ∧ FkO w' w.heap.size x f ∧ Rd w0 w' a r) ∨ (o = none ∧ (∃ f, FkO w' w.heap.size x f) ∧ ∃ v, RdE w0 w' a v))
structure Row5 (w : World) (g : Nat) : Prop where
  c0 : w.cell? ⟨g, 0, none⟩ = some (.string ⟨#[]⟩)
  f0 : w.frozen? ⟨g, 0, none⟩ = false
  c1 : w.cell? ⟨g, 1, none⟩ = some (.bool false)
  f1 : w.frozen? ⟨g, 1, none⟩ = false
  c2 : w.cell? ⟨g, 2, none⟩ = some (.string ⟨#[]⟩)
  f2 : w.frozen? ⟨g, 2, none⟩ = false
  c3 : w.cell? ⟨g, 3, none⟩ = some (.slice none 0 0)
  f3 : w.frozen? ⟨g, 3, none⟩ = false
  c4 : w.cell? ⟨g, 4, none⟩ = some (.slice none 0 0)
  f4 : w.frozen? ⟨g, 4, none⟩ = false
def fk0 : Array Value := #[.string ⟨#[]⟩, .bool false, .string ⟨#[]⟩, .slice none 0 0, .slice none 0 0]
theorem Row5.of {w : World} {g : Nat} (h : w.heap[g]? = some (.cells fk0 42 (0, 0))) : Row5 w g := by
  have f : ∀ j, w.frozen? ⟨g, j, none⟩ = false := fun j => by unfold World.frozen?; simp only [h]; rfl
  exact ⟨(cell_of_row w g 0 _ _ _ h).trans rfl, f 0, (cell_of_row w g 1 _ _ _ h).trans rfl, f 1, (cell_of_row w g 2 _ _ _ h).trans rfl, f 2, (cell_of_row w g 3 _ _ _ h).trans rfl, f 3, (cell_of_row w g 4 _ _ _ h).trans rfl, f 4⟩
def set5 (w : World) (g : Nat) (a b c d e : Value) : World := ((((w.setCell ⟨g, 0, none⟩ a).setCell ⟨g, 1, none⟩ b).setCell ⟨g, 2, none⟩ c).setCell ⟨g, 3, none⟩ d).setCell ⟨g, 4, none⟩ e
theorem set5_blk {w : World} {g : Nat} {t : TypeId} {fr : Nat × Nat} (h : w.heap[g]? = some (.cells fk0 t fr)) (a b c d e : Value) : (set5 w g a b c d e).heap[g]? = some (.cells #[a, b, c, d, e] t fr) :=
  (blk_set (blk_set (blk_set (blk_set (blk_set h a) b) c) d) e).trans rfl
theorem set5_but (w : World) (g : Nat) (a b c d e : Value) : But (fun k => k = g) w (set5 w g a b c d e) :=
  ((((but_set w g 0 a).trans (but_set _ g 1 b)).trans (but_set _ g 2 c)).trans (but_set _ g 3 d)).trans (but_set _ g 4 e)
theorem frz {w : World} {g j : Nat} {cs : Array Value} {t : TypeId} (h : w.heap[g]? = some (.cells cs t (0, 0))) : w.frozen? ⟨g, j, none⟩ = false := by unfold World.frozen?; simp only [h]; rfl
/-- A row of one's own is none of these blocks. -/
theorem ownNe {α : Type} {t t' : TypeId} {k : Nat} {f : α → List Value} {w : World} {base b : Nat} {v : Value} {l : List α} {cs : Array Value} {fr : Nat × Nat} (h : OwK t k f w base v l) (hb : w.heap[b]? = some (.cells cs t' fr)) (ht : t' ≠ t) : ∀ g, v.ownBlock = some g → ¬ (g = b) := fun g hg e => by
  subst e
  obtain ⟨_, _, cur, hc⟩ := own_block h hg
  rw [hb] at hc; cases hc; exact ht rfl
theorem lowBut {w x : World} {a : Nat} (h : But (fun k => k = a ∨ w.heap.size ≤ k) w x) : But (fun k => k = a) w x :=
  h.mono fun k hk hs => by rcases hs with hs | hs; exact hs; omega
set_option maxHeartbeats 8000000 in
set_option maxRecDepth 100000 in
theorem fork_p {w0 w : World} {E : ErA} (hp : PrA E w0) {a : Nat} {o : Option Bs} (hs : St w0 w a o) (hsl : ∀ s, o = some s → s.length ≤ 900000) {B : Nat} {A : Option Addr} {n c : Nat} {ahead : List Fk} (hv : FksO w B (.slice A n c) ahead) (ha : ahead.length ≤ 1000000) :
    Calls Tryz.prog 54 #[.pointer (some ⟨a, 0, none⟩), .slice A n c] w (FkP w0 a (o.bind (forkO ahead)) w) := by
  obtain ⟨wa, hwa⟩ : ∃ y, y = w.alloc (.cells #[.slice A n c] 23) := ⟨_, rfl⟩
  obtain ⟨wb, hwb⟩ : ∃ y, y = wa.alloc (.cells fk0 42) := ⟨_, rfl⟩
  obtain ⟨wc, hwc⟩ : ∃ y, y = wb.alloc (.cells op0 109) := ⟨_, rfl⟩
  have sa : wa.heap.size = w.heap.size + 1 := by rw [hwa]; simp
  have sb : wb.heap.size = w.heap.size + 1 + 1 := by rw [hwb, ← sa]; simp
  have la : Below w.heap.size w wa := by rw [hwa]; exact below_new _ _
  have lb : Below wa.heap.size wa wb := by rw [hwb]; exact below_new _ _
  have lc : Below wb.heap.size wb wc := by rw [hwc]; exact below_new _ _
  obtain ⟨ba, hba⟩ : ∃ z, z = w.heap.size := ⟨_, rfl⟩
  obtain ⟨br, hbr⟩ : ∃ z, z = w.heap.size + 1 := ⟨_, rfl⟩
  obtain ⟨bo, hbo⟩ : ∃ z, z = w.heap.size + 1 + 1 := ⟨_, rfl⟩
  have ka : wc.heap[ba]? = some (.cells #[.slice A n c] 23 (0, 0)) := by
    have h : wa.heap[ba]? = some (.cells #[.slice A n c] 23 (0, 0)) := by rw [hwa, hba]; exact heap_alloc_new _ _
    have h2 := (lb.block _ (lt_heap h)).trans h
    exact (lc.block _ (lt_heap h2)).trans h2
  have kr : wc.heap[br]? = some (.cells fk0 42 (0, 0)) := by
    have h : wb.heap[br]? = some (.cells fk0 42 (0, 0)) := by rw [hwb, hbr, ← sa]; exact heap_alloc_new _ _
    exact (lc.block _ (lt_heap h)).trans h
  have ko : wc.heap[bo]? = some (.cells op0 109 (0, 0)) := by rw [hwc, hbo, ← sb]; exact heap_alloc_new _ _
  have l3 : Below w.heap.size w wc := la.trans ((lb.mono (by omega)).trans (lc.mono (by omega)))
  have hs3 := hs.ch (Ch.new l3)
  have hv3 := hv.but (But.of_new (S := fun _ => False) l3) (fun _ _ _ h => h)
  have HN : Hid (a < ba ∧ ba < br ∧ br < bo ∧ w0.heap.size ≤ a ∧ ba = w.heap.size) := Lib.hid ⟨by have := hs.lt; omega, by omega, by omega, hs.lo, hba⟩
  have HLf := Lib.hid (lineF_p hp hs3 hsl ko ka hv3 ha (by have := HN.out; omega))
  have T0 : Hid (But (fun k => k = a ∨ w.heap.size ≤ k) w wc) := Lib.hid (But.of_new l3)
  have HP := Lib.hid hp; have KR := Lib.hid kr
  have HW : Hid (wc = ((w.alloc (.cells #[.slice A n c] 23)).alloc (.cells #[.string ⟨#[]⟩, .bool false, .string ⟨#[]⟩, .slice none 0 0, .slice none 0 0] 42)).alloc (.cells #[.string ⟨#[]⟩, .bool false, .string ⟨#[]⟩, .slice none 0 0, .slice none 0 0, .int .i64 0, .int .i64 0] 109)) := Lib.hid (by rw [hwc, hwb, hwa]; rfl)
  clear hwa hwb hwc sa sb la lb lc ka kr ko l3 hs3 hv3 hs hv hsl ha hp
  go_enter Tryz.func54, Tryz.ntmps54
  go_upto_region 2 with fail
  rw [← HW.out, ← hbo, ← hbr, ← hba]
  clear hbo hbr hba HW
  go_wp2_with fail
  refine HLf.out.mono ?_
  rintro e w4 ⟨rfl, q, o4, hq, hq1, hq2, hst, hsl4, t4, hfo⟩
  have T4 : Hid (But (fun k => k = a ∨ w.heap.size ≤ k) w w4) := Lib.hid (T0.out.trans (t4.mono fun k _ h => by
    rcases h with h | h
    · exact .inl h
    · exact .inr (by have := HN.out; omega)))
  have KR4 : Hid (w4.heap[br]? = some (.cells fk0 42 (0, 0))) := Lib.hid ((t4.block br (lt_heap KR.out) (fun h => by have := HN.out; omega)).trans KR.out)
  have HRf := Lib.hid (refs_p HP.out hst hsl4 q.refs (by omega))
  have c5 : w4.cell? ⟨bo, 5, none⟩ = some (.int .i64 (q.refs : Int)) := (cell_of_row w4 bo 5 _ _ _ hq).trans rfl
  have HQ := Lib.hid hq; have HQ2 := Lib.hid hq2; have HFo := Lib.hid hfo
  clear hq hq1 hq2 hst hsl4 t4 hfo HLf T0 KR
  go_wp2_with fail
  refine HRf.out.mono ?_
  rintro e w5 ⟨Ar, nr, cr, rfl, t5, hout⟩
  obtain ⟨rl, o6, ho5, hst5, hu⟩ : ∃ (rl : List Ref) (o6 : Option Bs), OwR w5 w4.heap.size (.slice Ar nr cr) rl ∧ St w0 w5 a o6 ∧ o4.bind (restO q) = o6.bind fun r => (packsO q.packs [] r).bind fun t => some (⟨q.name, q.linked, q.head, rl, t.1⟩, t.2) := by
    unfold restO
    rw [← Option.bind_assoc]
    rcases hout with ⟨l, r, hu, hn, ho, hr⟩ | ⟨hu, ⟨l, hn, ho⟩, v, hr⟩
    · exact ⟨l, some r, ho, hr, by rw [hu]; rfl⟩
    · exact ⟨l, none, ho, ⟨v, hr⟩, by rw [hu]; rfl⟩
  have hq5 := (t5.block bo (lt_heap HQ.out) (fun h => by have := HN.out; omega)).trans HQ.out
  have c3 : w5.cell? ⟨bo, 3, none⟩ = some (.slice none 0 0) := (cell_of_row w5 bo 3 _ _ _ hq5).trans rfl
  have g3 : w5.frozen? ⟨bo, 3, none⟩ = false := frz hq5
  obtain ⟨w6, hw6⟩ : ∃ y, y = w5.setCell ⟨bo, 3, none⟩ (.slice Ar nr cr) := ⟨_, rfl⟩
  have t6 : But (fun k => k = bo) w5 w6 := by rw [hw6]; exact but_set _ _ _ _
  have hq6 : w6.heap[bo]? = some (.cells #[.string ⟨q.name.toArray⟩, .bool q.linked, .string ⟨q.head.toArray⟩, .slice Ar nr cr, .slice none 0 0, .int .i64 (q.refs : Int), .int .i64 (q.packs : Int)] 109 (0, 0)) := by rw [hw6]; exact (blk_set hq5 _).trans rfl
  have hst6 := hst5.ch (Ch.box t6 hq5 (by decide) (by have := HN.out; omega) (by have := HN.out; have := T4.out.size; omega))
  have ho6 := row_but ho5 t6 (ownNe ho5 hq5 (by decide))
  have T6 : Hid (But (fun k => k = a ∨ w.heap.size ≤ k) w w6) := Lib.hid (T4.out.trans ((t5.mono fun k _ h => .inl h).trans (t6.mono fun k _ h => .inr (by have := HN.out; omega))))
  have KR6 : Hid (w6.heap[br]? = some (.cells fk0 42 (0, 0))) := Lib.hid (by
    have h := (t5.block br (lt_heap KR4.out) (fun h => by have := HN.out; omega)).trans KR4.out
    exact (t6.block br (lt_heap h) (fun h => by have := HN.out; omega)).trans h)
  have RD6 := Lib.hid hst6.blkt
  have HPk := Lib.hid (packs_p HP.out hst6 q.packs (by have := HQ2.out; omega))
  have c6 : w6.cell? ⟨bo, 6, none⟩ = some (.int .i64 (q.packs : Int)) := (cell_of_row w6 bo 6 _ _ _ hq6).trans rfl
  have HQ6 := Lib.hid hq6; have HO6 := Lib.hid ho6; have HU := Lib.hid hu; have S4 := Lib.hid T4.out.size; have HW6 := Lib.hid hw6
  clear hout ho5 hst5 hu hq5 hw6 t6 hq6 hst6 ho6 t5 HRf HQ HQ2 T4 KR4 c5
  go_upto_region 4 with fail
  rw [← HW6.out]
  clear HW6 c3 g3
  go_wp2_with fail
  refine HPk.out.mono ?_
  rintro e w7 ⟨Ap, np, cp, rfl, t7, hout⟩
  obtain ⟨cs7, hcs7⟩ : ∃ cs, w6.heap[a]? = some (.cells cs 82 (0, 0)) := RD6.out
  have hq7 := (t7.block bo (lt_heap HQ6.out) (fun h => by have := HN.out; omega)).trans HQ6.out
  have c4 : w7.cell? ⟨bo, 4, none⟩ = some (.slice none 0 0) := (cell_of_row w7 bo 4 _ _ _ hq7).trans rfl
  have g4 : w7.frozen? ⟨bo, 4, none⟩ = false := frz hq7
  obtain ⟨w8, hw8⟩ : ∃ y, y = w7.setCell ⟨bo, 4, none⟩ (.slice Ap np cp) := ⟨_, rfl⟩
  have t8 : But (fun k => k = bo) w7 w8 := by rw [hw8]; exact but_set _ _ _ _
  have hq8 : w8.heap[bo]? = some (.cells #[.string ⟨q.name.toArray⟩, .bool q.linked, .string ⟨q.head.toArray⟩, .slice Ar nr cr, .slice Ap np cp, .int .i64 (q.refs : Int), .int .i64 (q.packs : Int)] 109 (0, 0)) := by rw [hw8]; exact (blk_set hq7 _).trans rfl
  have ho7 := row_but HO6.out t7 (ownNe HO6.out hcs7 (by decide))
  have ho8 := row_but ho7 t8 (ownNe ho7 hq7 (by decide))
  have kr7 := (t7.block br (lt_heap KR6.out) (fun h => by have := HN.out; omega)).trans KR6.out
  have kr8 := (t8.block br (lt_heap kr7) (fun h => by have := HN.out; omega)).trans kr7
  obtain ⟨w9, hw9⟩ : ∃ y, y = set5 w8 br (.string ⟨q.name.toArray⟩) (.bool q.linked) (.string ⟨q.head.toArray⟩) (.slice Ar nr cr) (.slice Ap np cp) := ⟨_, rfl⟩
  have t9 : But (fun k => k = br) w8 w9 := by rw [hw9]; exact set5_but _ _ _ _ _ _ _
  have kr9 : w9.heap[br]? = some (.cells #[.string ⟨q.name.toArray⟩, .bool q.linked, .string ⟨q.head.toArray⟩, .slice Ar nr cr, .slice Ap np cp] 42 (0, 0)) := by rw [hw9]; exact set5_blk kr8 _ _ _ _ _
  have ho9 : OwR w9 w4.heap.size (.slice Ar nr cr) rl := row_but ho8 t9 (ownNe ho8 kr8 (by decide))
  have T9 : But (fun k => k = a) w w9 := lowBut (T6.out.trans ((t7.mono fun k _ h => .inl h).trans ((t8.mono fun k _ h => .inr (by have := HN.out; omega)).trans (t9.mono fun k _ h => .inr (by have := HN.out; omega)))))
  have HF : Hid (FkP w0 a (o.bind (forkO ahead)) w (.returned (fkV (⟨q.name, q.linked, q.head, Ar, nr, cr, Ap, np, cp⟩ : Fs).fc)) w9) := Lib.hid (by
    have hps : ∀ l, OwS w7 w6.heap.size (.slice Ap np cp) l → FkO w9 w.heap.size ⟨q.name, q.linked, q.head, Ar, nr, cr, Ap, np, cp⟩ ⟨q.name, q.linked, q.head, rl, l⟩ := fun l h7 => by
      have h8 := row_but h7 t8 (ownNe h7 hq7 (by decide))
      have h9 := row_but h8 t9 (ownNe h8 kr8 (by decide))
      exact ⟨rfl, rfl, rfl, ho9.mono (S4.out), OwK.mono h9 (T6.out.size)⟩
    have hrs : ∀ oo, St w0 w7 a oo → St w0 w9 a oo := fun oo h => (h.ch (Ch.box t8 hq7 (by decide) (by have := HN.out; omega) (by have := HN.out; have := h.low.size; omega))).ch (Ch.box t9 kr8 (by decide) (by have := HN.out; omega) (by have := HN.out; have := h.low.size; omega))
    refine ⟨⟨q.name, q.linked, q.head, Ar, nr, cr, Ap, np, cp⟩, rfl, T9, ?_⟩
    rw [HFo.out, HU.out, ← Option.bind_assoc]
    rcases hout with ⟨l, r, hu, hn, ho, hr⟩ | ⟨hu, ⟨l, hn, ho⟩, v, hr⟩
    · exact .inl ⟨_, r, by rw [hu]; rfl, hps l ho, hrs (some r) hr⟩
    · exact .inr ⟨by rw [hu]; rfl, ⟨_, hps l ho⟩, hrs none ⟨v, hr⟩⟩)
  have HW8 := Lib.hid hw8; have KR9 := Lib.hid kr9
  obtain ⟨d0, e0, d1, e1, d2, e2, d3, e3, d4, e4⟩ := Row5.of kr8
  have x0 : w8.cell? ⟨bo, 0, none⟩ = some (.string ⟨q.name.toArray⟩) := (cell_of_row w8 bo 0 _ _ _ hq8).trans rfl
  have x1 : w8.cell? ⟨bo, 1, none⟩ = some (.bool q.linked) := (cell_of_row w8 bo 1 _ _ _ hq8).trans rfl
  have x2 : w8.cell? ⟨bo, 2, none⟩ = some (.string ⟨q.head.toArray⟩) := (cell_of_row w8 bo 2 _ _ _ hq8).trans rfl
  have x3 : w8.cell? ⟨bo, 3, none⟩ = some (.slice Ar nr cr) := (cell_of_row w8 bo 3 _ _ _ hq8).trans rfl
  have x4 : w8.cell? ⟨bo, 4, none⟩ = some (.slice Ap np cp) := (cell_of_row w8 bo 4 _ _ _ hq8).trans rfl
  unfold set5 at hw9
  have HW9 := Lib.hid hw9
  clear hout hcs7 hq7 hw8 t8 hq8 ho7 ho8 kr7 kr8 hw9 t9 kr9 ho9 T9 t7 HPk HQ6 HO6 HU S4 c6
  go_upto_region 5 with fail
  rw [← HW8.out]
  clear HW8 c4 g4
  go_wp2_with fail
  rw [← HW9.out]
  exact bodyPost_ret (v := .agg #[.string ⟨q.name.toArray⟩, .bool q.linked, .string ⟨q.head.toArray⟩, .slice Ar nr cr, .slice Ap np cp]) (results_cell_row rfl _ _ br 42 _ (0, 0) _ rfl KR9.out Tryz.underlying42 rfl (by kernel_rfl)) rfl HF.out
end Go.Proofs.YtnboagmibhllpaaGreatDoor.Ro


namespace Go.Proofs.YtnboagmibhllpaaGreatDoor.Ro
open Go.Proofs.YtnboagmibhllpaaGreatDoor
open Go Go.RowKit

set_option maxHeartbeats 1000000 in
theorem end1_p {w : World} {E : ErA} (h : Er E w) (l : Bs) : Calls Tryz.prog 81 #[.string ⟨l.toArray⟩] w fun e w' => e = .returned (ev E.more) ∧ w = w' := by
  have e0 := h.more
  unfold ev at e0 ⊢
  clear h
  go_enter Tryz.func81, Tryz.ntmps81
  go_wp2_with fail
  go_ret
  exact ⟨rfl, rfl⟩
/-- What end's own line leaves. -/
def LastP (w0 : World) (E : ErA) (a : Nat) (s : Bs) (w : World) (e : Ending) (w' : World) : Prop :=
  e = .returned (.tuple #[]) ∧ ∃ x b, RdE w0 w' a (ev x) ∧ But (fun k => k = a) w w' ∧ ((s = [] ∧ b = true ∧ x = E.fin) ∨ (s ≠ [] ∧ b = false ∧ (x = E.form ∨ x = E.more)))
theorem last_p {w0 w : World} {E : ErA} (hp : PrA E w0) {a : Nat} {s : Bs} (hr : Rd w0 w a s) :
    Calls Tryz.prog 72 #[.pointer (some ⟨a, 0, none⟩), .func (.func 81) #[] #[]] w (LastP w0 E a s w) := by
  cases hc : cutAt 10 s with
  | none =>
    refine (line_end hr hp.er hc _).mono ?_
    rintro e w2 ⟨rfl, r2, t2⟩
    by_cases h0 : s = []
    · rw [if_pos h0] at r2
      exact ⟨rfl, E.fin, true, r2, t2, .inl ⟨h0, rfl, rfl⟩⟩
    · rw [if_neg h0] at r2
      exact ⟨rfl, E.form, false, r2, t2, .inr ⟨h0, rfl, .inl rfl⟩⟩
  | some p =>
    obtain ⟨l, r⟩ := p
    have h0 : s ≠ [] := fun h => by have := cutAt_len hc; rw [h, List.length_nil] at this; omega
    refine (line_take hr hc 81 #[] (enters_of Tryz.func81 (by kernel_rfl) rfl) (fun v W' => v = ev E.more ∧ But (fun k => k = a) w W') (fun W hW hT => ?_)).mono ?_
    · refine (end1_p (hp.er.below hW.low) l).mono ?_
      rintro e W' ⟨rfl, rfl⟩
      exact ⟨_, rfl, .inr ⟨_, _, rfl⟩, But.refl _ _, rfl, hT⟩
    · rintro e w2 ⟨rfl, v, W', ⟨rfl, hb⟩, t2, hst⟩
      refine ⟨rfl, E.more, false, ?_, hb.trans t2, .inr ⟨h0, rfl, .inr rfl⟩⟩
      rcases hst with ⟨h, _⟩ | ⟨_, h⟩
      · cases h
      · exact h
def EndP (o : Option Bs) (a : Nat) (w : World) (e : Ending) (w' : World) : Prop :=
  ((o = some [] ∧ e = .returned .nilIface) ∨ (o ≠ some [] ∧ ∃ p, e = .returned (.iface 146 (.pointer (some p))))) ∧ But (fun k => k = a) w w'
set_option maxHeartbeats 4000000 in
set_option maxRecDepth 100000 in
theorem end_p {w0 w : World} {E : ErA} (hp : PrA E w0) {a : Nat} {o : Option Bs} (hs : St w0 w a o) : Calls Tryz.prog 55 #[.pointer (some ⟨a, 0, none⟩)] w (EndP o a w) := by
  cases o with
  | none =>
    obtain ⟨v, hv⟩ := hs
    obtain ⟨A, n, c, k, p, j, h1, h2⟩ := hv.blk
    have c2 : w.cell? ⟨a, 2, none⟩ = some (.iface 146 (.pointer (some ⟨p, 0, none⟩))) := (cell_of_row w a 2 _ _ _ h1).trans rfl
    clear h1 h2 hv hp
    go_enter Tryz.func55, Tryz.ntmps55
    go_wp2_with fail
    go_ret
    exact ⟨.inr ⟨fun h => by (cases h), _, rfl⟩, But.refl _ _⟩
  | some s =>
    have hr : Rd w0 w a s := hs
    obtain ⟨A, n, c, k, h1, _⟩ := hr.blk
    have c2 : w.cell? ⟨a, 2, none⟩ = some .nilIface := (cell_of_row w a 2 _ _ _ h1).trans rfl
    have HL := Lib.hid (last_p hp hr)
    have HP := Lib.hid hp
    clear h1 hr hp hs
    go_enter Tryz.func55, Tryz.ntmps55
    go_wp2_with fail
    refine HL.out.mono ?_
    rintro e w2 ⟨rfl, x, b, hrd, hb, hx⟩
    obtain ⟨A2, n2, k2, i2, p, j, h1, h2⟩ := hrd.blk
    have c3 : w2.cell? ⟨a, 2, none⟩ = some (.iface 146 (.pointer (some ⟨p, 0, none⟩))) := (cell_of_row w2 a 2 _ _ _ h1).trans rfl
    have hE := HP.out.er.below hrd.low
    have e0 := hE.fin
    have HIs : Hid (∀ N, Calls Tryz.prog 82 #[.iface 146 (.pointer (some ⟨p, 0, none⟩)), .iface 206 (.pointer (some E.fin))] (w2.drewN N) fun e w' => e = .returned (.bool b) ∧ w' = w2.drewN N) := Lib.hid fun N => by
      refine (errIs_ofO p E.fin b (w2.drewN N) ?_).mono fun _ _ h => ⟨h.1, h.2.symm⟩
      rcases hx with ⟨_, rfl, rfl⟩ | ⟨_, rfl, rfl | rfl⟩
      · exact is_sameO p E.fin j (w2.drewN N) h2
      · obtain ⟨cs, t, hk⟩ := hE.bf
        obtain ⟨cs', t', hk'⟩ := hE.be
        exact is_otherO p E.fin E.form j (w2.drewN N) h2 hE.nf hk hk'
      · obtain ⟨cs, t, hk⟩ := hE.bm
        obtain ⟨cs', t', hk'⟩ := hE.be
        exact is_otherO p E.fin E.more j (w2.drewN N) h2 hE.nm hk hk'
    have HB := Lib.hid hb; have HX := Lib.hid hx
    unfold ev at e0
    clear hrd hb h1 h2 hE HL c2 hx HP
    go_upto_region 4 with fail
    go_quiet (exact Calls.quiet_of_same (HIs.out _))
    rcases HX.out with ⟨h0, rfl, -⟩ | ⟨h0, rfl, -⟩
    · go_wp2_with fail
      go_ret
      exact ⟨.inl ⟨by first | rfl | rw [h0], rfl⟩, HB.out.drewN _⟩
    · go_wp2_with fail
      go_ret
      exact ⟨.inr ⟨fun h => h0 (Option.some.inj h), _, rfl⟩, HB.out.drewN _⟩
end Go.Proofs.YtnboagmibhllpaaGreatDoor.Ro
