/-
  The reader: a root.
-/
import Derived.Test.YtnboagmibhllpaaGreatDoorC16

namespace Go.Proofs.YtnboagmibhllpaaGreatDoor.Ro
open Go.Proofs.YtnboagmibhllpaaGreatDoor
open Go.Proofs.YtnboagmibhllpaaGreatDoor.Rf (BoolB Ref RefsR OwR OwS refC elRef)
open Go Go.RowKit

theorem getS_eq (s : Bs) : getS s = (numO bNet 1099511627776 s).bind fun p => (numO bPool 24 p.2).bind fun q => (packsO q.1 [] q.2).bind fun t => (numO bForks 16 t.2).bind fun u => (forksO u.1 [] u.2).bind fun v => some (⟨(p.1 : Int), t.1, v.1⟩, v.2) := by
  unfold getS
  cases h1 : numO bNet 1099511627776 s with
  | none => rfl
  | some p =>
    obtain ⟨c, s1⟩ := p
    simp only [Option.bind_some]
    cases h2 : numO bPool 24 s1 with
    | none => rfl
    | some p =>
      obtain ⟨np, s2⟩ := p
      simp only [Option.bind_some]
      cases h3 : packsO np [] s2 with
      | none => rfl
      | some p =>
        obtain ⟨pool, s3⟩ := p
        simp only [Option.bind_some]
        cases h4 : numO bForks 16 s3 with
        | none => rfl
        | some p =>
          obtain ⟨nf, s4⟩ := p
          simp only [Option.bind_some]
          cases h5 : forksO nf [] s4 with
          | none => rfl
          | some p => rfl
theorem forksO_succ (n : Nat) (acc : List Fk) (s : Bs) : forksO (n + 1) acc s = (forkO acc s).bind fun p => forksO n (acc ++ [p.1]) p.2 := by
  rw [forksO]
  cases forkO acc s with
  | none => rfl
  | some p => rfl
theorem num_un {X : Type} {w0 w w' : World} {a most : Nat} {word : Bs} {o : Option Bs} {e : Ending} (h : NumP w0 a (o.bind (numO word most)) w e w') (hs : ∀ s, o = some s → s.length ≤ 900000) :
    ∃ (m : Nat) (o2 : Option Bs), m ≤ most ∧ e = .returned (.int .i64 (m : Int)) ∧ St w0 w' a o2 ∧ (∀ s, o2 = some s → s.length ≤ 900000) ∧ But (fun k => k = a) w w' ∧ ∀ G : Nat → Bs → Option X, (o.bind (numO word most)).bind (fun p => G p.1 p.2) = o2.bind (G m) := by
  obtain ⟨h, hb⟩ := h
  rcases h with ⟨n, r, h1, h2, h3⟩ | ⟨h1, h2, v, h3⟩
  · obtain ⟨s, rfl, hn⟩ := Option.bind_eq_some_iff.1 h1
    obtain ⟨hs1, hs2⟩ := numO_some hn
    refine ⟨n, some r, hs2, h2, h3, fun s' h => ?_, hb, fun G => by rw [h1]; rfl⟩
    cases h
    have := hs s rfl
    rw [hs1, List.length_append] at this; omega
  · exact ⟨0, none, Nat.zero_le _, h2, ⟨v, h3⟩, (fun s h => by cases h), hb, fun G => by rw [h1]; rfl⟩
theorem pks_un {X : Type} {w0 w w' : World} {a n : Nat} {o : Option Bs} {e : Ending} (h : PksP w0 a (o.bind (packsO n [])) w e w') (hs : ∀ s, o = some s → s.length ≤ 900000) :
    ∃ (A : Option Addr) (m c : Nat) (l : List Bs) (o2 : Option Bs), e = .returned (.slice A m c) ∧ OwS w' w.heap.size (.slice A m c) l ∧ St w0 w' a o2 ∧ (∀ s, o2 = some s → s.length ≤ 900000) ∧ But (fun k => k = a) w w' ∧ ∀ G : List Bs → Bs → Option X, (o.bind (packsO n [])).bind (fun p => G p.1 p.2) = o2.bind (G l) := by
  obtain ⟨A, m, c, h2, hb, h⟩ := h
  rcases h with ⟨l, r, h1, hm, ho, h3⟩ | ⟨h1, ⟨l, hm, ho⟩, v, h3⟩
  · obtain ⟨s, rfl, hn⟩ := Option.bind_eq_some_iff.1 h1
    obtain ⟨u, hs1, hs2, hs3, _⟩ := packsO_some _ _ _ _ _ hn
    refine ⟨A, m, c, l, some r, h2, ho, h3, fun s' h => ?_, hb, fun G => by rw [h1]; rfl⟩
    cases h
    have := hs s rfl
    rw [hs3, List.length_append] at this; omega
  · exact ⟨A, m, c, l, none, h2, ho, ⟨v, h3⟩, (fun s h => by cases h), hb, fun G => by rw [h1]; rfl⟩
theorem fk_un {X : Type} {w0 w w' : World} {a : Nat} {ahead : List Fk} {o : Option Bs} {e : Ending} (h : FkP w0 a (o.bind (forkO ahead)) w e w') (hs : ∀ s, o = some s → s.length ≤ 900000) :
    ∃ (x : Fs) (f : Fk) (o2 : Option Bs), e = .returned (fkV x.fc) ∧ FkO w' w.heap.size x f ∧ St w0 w' a o2 ∧ (∀ s, o2 = some s → s.length ≤ 900000) ∧ But (fun k => k = a) w w' ∧ ∀ G : Fk → Bs → Option X, (o.bind (forkO ahead)).bind (fun p => G p.1 p.2) = o2.bind (G f) := by
  obtain ⟨x, h2, hb, h⟩ := h
  rcases h with ⟨f, r, h1, ho, h3⟩ | ⟨h1, ⟨f, ho⟩, v, h3⟩
  · obtain ⟨s, rfl, hn⟩ := Option.bind_eq_some_iff.1 h1
    obtain ⟨hs1, _⟩ := forkO_some hn
    refine ⟨x, f, some r, h2, ho, h3, fun s' h => ?_, hb, fun G => by rw [h1]; rfl⟩
    cases h
    have := hs s rfl
    rw [hs1, List.length_append] at this; omega
  · exact ⟨x, f, none, h2, ho, ⟨v, h3⟩, (fun s h => by cases h), hb, fun G => by rw [h1]; rfl⟩
def rt0 : Array Value := #[.int .i64 0, .slice none 0 0, .slice none 0 0]
theorem l_Rt (W : World) (b : Nat) (x0 x1 x2 : Value) (h : W.heap[b]? = some (.cells #[x0, x1, x2] 25 (0, 0))) : (Instr.loadAt 25 (.pointer (some ⟨b, 0, none⟩))).run Tryz.prog W = .ok (.agg #[x0, x1, x2]) W := by
  simp only [Instr.loadAt, Instr.sureAddr, Sem.run_bind, Sem.run_pure, Result.andThen_ok]
  exact run_loadVar_row W b 25 25 _ (0, 0) _ h Tryz.underlying25 rfl (by kernel_rfl)
theorem s_Rt (W : World) (b : Nat) (x0 x1 x2 : Value) (h0 : x0.oneCell' = true) (h1 : x1.oneCell' = true) (h2 : x2.oneCell' = true) (h : W.heap[b]? = some (.cells rt0 25 (0, 0))) : (Instr.storeAt 25 (.pointer (some ⟨b, 0, none⟩)) (.agg #[x0, x1, x2])).run Tryz.prog W = .ok () (W.setRow b #[x0, x1, x2]) := by
  simp only [Instr.storeAt, Instr.sureAddr, Sem.run_bind, Sem.run_pure, Result.andThen_ok]
  exact run_storeVar_row W b 25 25 rt0 #[x0, x1, x2] h (by kernel_rfl) rfl (by simp [h0, h1, h2])
/-- A root of one's own. -/
def RtO (w : World) (base : Nat) (v : Value) (r : Rt) : Prop := ∃ pv fv, v = .agg #[.int .i64 r.count, pv, fv] ∧ OwS w base pv r.pool ∧ FksO w base fv r.forks
theorem RtO.rd {w : World} {base : Nat} {v : Value} {r : Rt} (h : RtO w base v r) : RtR w v r := by
  obtain ⟨pv, fv, e, h1, h2⟩ := h
  exact ⟨pv, fv, e, OwK.rd strC_len h1, h2.rd⟩
theorem RtO.but {w w' : World} {base : Nat} {v : Value} {r : Rt} {S : Nat → Prop} (h : RtO w base v r) (hb : But S w w') (hS : ∀ g, base ≤ g → ¬ S g) : RtO w' base v r := by
  obtain ⟨pv, fv, e, h1, h2⟩ := h
  exact ⟨pv, fv, e, row_but h1 hb (fun g hg => hS g (own_block h1 hg).1), h2.but hb fun g hg _ => hS g hg⟩
theorem but_row (w : World) (b : Nat) (cs : Array Value) : But (fun k => k = b) w (w.setRow b cs) :=
  ⟨rfl, rfl, rfl, by simp, fun k _ hk => by
    simp only [World.setRow, Array.getElem?_modify]
    rw [if_neg (fun e => hk e.symm)]⟩
/-- What stands while forks are read. -/
structure RdSt (w wr : World) (b0 b1 ba m : Nat) (Ap : Option Addr) (np cp : Nat) (pool : List Bs) (Af : Option Addr) (nf' cf : Nat) (acc : List Fk) (o' : Option Bs) : Prop where
  k1 : wr.heap[b1]? = some (.cells #[.int .i64 (m : Int), .slice Ap np cp, .slice Af nf' cf] 25 (0, 0))
  k0 : wr.heap[b0]? = some (.cells rt0 25 (0, 0))
  fs : FksO wr w.heap.size (.slice Af nf' cf) acc
  op : OwS wr w.heap.size (.slice Ap np cp) pool
  st : St w wr ba o'
  sl : ∀ s, o' = some s → s.length ≤ 900000
theorem RdSt.but {w wr wd : World} {b0 b1 ba m : Nat} {Ap : Option Addr} {np cp : Nat} {pool : List Bs} {Af : Option Addr} {nf' cf : Nat} {acc : List Fk} {o' : Option Bs} (h : RdSt w wr b0 b1 ba m Ap np cp pool Af nf' cf acc o') (hb : But (fun _ => False) wr wd) : RdSt w wd b0 b1 ba m Ap np cp pool Af nf' cf acc o' :=
  ⟨(hb.block _ (lt_heap h.k1) (fun h => h)).trans h.k1, (hb.block _ (lt_heap h.k0) (fun h => h)).trans h.k0, h.fs.but hb (fun _ _ _ h => h), row_but h.op hb (fun _ _ h => h), h.st.ch (hb.mono fun _ _ h => h.elim), h.sl⟩
theorem bs_fk (W : World) (x0 x1 x2 x3 x4 : Value) : (Instr.buildSlice 23 1 #[(0, .agg #[x0, x1, x2, x3, x4])]).run Tryz.prog W = .ok (.slice (some ⟨W.heap.size, 0, none⟩) 1 1) (W.alloc (.cells #[x0, x1, x2, x3, x4] 42)) := by
  simp [go_sem]
theorem s_Fl (W : World) (b o : Nat) (A : Option Addr) (n c : Nat) (v : Value) (h : W.cell? ⟨b, o, none⟩ = some v) (hf : W.frozen? ⟨b, o, none⟩ = false) : (Instr.storeAt 23 (.pointer (some ⟨b, o, none⟩)) (.slice A n c)).run Tryz.prog W = .ok () (W.setCell ⟨b, o, none⟩ (.slice A n c)) := by
  simp [go_sem, h, hf]
set_option maxHeartbeats 2000000 in
/-- A fork more. -/
theorem RdSt.step {w wd w7 : World} {b0 b1 ba m : Nat} {Ap : Option Addr} {np cp : Nat} {pool : List Bs} {Af : Option Addr} {nf' cf : Nat} {acc : List Fk} {o' : Option Bs} {n : Nat} {e : Ending} (h : RdSt w wd b0 b1 ba m Ap np cp pool Af nf' cf acc o') (h7 : FkP w ba (o'.bind (forkO acc)) wd e w7) (hal : acc.length ≤ 1000) (h01 : b0 ≠ b1) (h0a : b0 ≠ ba) (h1a : b1 ≠ ba) (h1 : w.heap.size ≤ b1) (hwd : w.heap.size ≤ wd.heap.size) :
    ∃ (x : Fs) (f : Fk) (o7 : Option Bs) (w8 : World) (A9 : Option Addr) (n9 q9 : Nat) (w9 w10 : World), e = .returned (fkV x.fc) ∧ (w7.cell? ⟨b1, 2, none⟩ = some (.slice Af nf' cf) ∧ w8.cell? ⟨b1, 2, none⟩ = some (.slice Af nf' cf)) ∧
      (Instr.buildSlice 23 1 #[(0, fkV x.fc)]).run Tryz.prog w7 = .ok (.slice (some ⟨w7.heap.size, 0, none⟩) 1 1) w8 ∧
      (∀ ty, (Builtin.append_ #[23, 23] ty #[.slice Af nf' cf, .slice (some ⟨w7.heap.size, 0, none⟩) 1 1]).run Tryz.prog w8 = .ok (.slice A9 n9 q9) w9) ∧
      (Instr.storeAt 23 (.pointer (some ⟨b1, 2, none⟩)) (.slice A9 n9 q9)).run Tryz.prog w9 = .ok () w10 ∧
      RdSt w w10 b0 b1 ba m Ap np cp pool A9 n9 q9 (acc ++ [f]) o7 ∧ o'.bind (forksO (n + 1) acc) = o7.bind (forksO n (acc ++ [f])) := by
  obtain ⟨x, f, o7, rfl, hx, hst, hsl, t7, hG⟩ := fk_un (X := List Fk × Bs) h7 h.sl
  have hrel : o'.bind (forksO (n + 1) acc) = o7.bind (forksO n (acc ++ [f])) := by
    rw [← hG fun g r => forksO n (acc ++ [g]) r, Option.bind_assoc]
    congr 1
    funext s
    exact forksO_succ n acc s
  obtain ⟨cs, hcs⟩ := h.st.blkt
  have k1 := (t7.block b1 (lt_heap h.k1) h1a).trans h.k1
  have k0 := (t7.block b0 (lt_heap h.k0) h0a).trans h.k0
  have fs7 : FksO w7 w.heap.size (.slice Af nf' cf) acc := h.fs.but t7 fun g _ hg e => by
    subst e
    rcases hg with ⟨cs', fr, hg⟩ | ⟨cs', fr, hg⟩ | ⟨cs', fr, hg⟩ <;> (rw [hcs] at hg; cases hg)
  have op7 : OwS w7 w.heap.size (.slice Ap np cp) pool := row_but h.op t7 (ownNe h.op hcs (by decide))
  have hw7 : w.heap.size ≤ w7.heap.size := Nat.le_trans hwd t7.size
  -- the new one
  obtain ⟨w8, hw8⟩ : ∃ y, y = w7.alloc (.cells (fsC x).toArray 42) := ⟨_, rfl⟩
  have hb8 : (Instr.buildSlice 23 1 #[(0, fkV x.fc)]).run Tryz.prog w7 = .ok (.slice (some ⟨w7.heap.size, 0, none⟩) 1 1) w8 := by
    rw [hw8]; exact bs_fk w7 _ _ _ _ _
  have l8 : Below w7.heap.size w7 w8 := by rw [hw8]; exact below_new _ _
  have rd8 : RdK 5 fsC w8 (.slice (some ⟨w7.heap.size, 0, none⟩) 1 1) [x] := by rw [hw8]; exact Rf.row_new fsC_len w7 _ [x] _ (by simp) 1 rfl
  have t8 : But (fun _ => False) w7 w8 := But.of_new l8
  have k1' := (l8.block b1 (lt_heap k1)).trans k1
  have k0' := (l8.block b0 (lt_heap k0)).trans k0
  have fs8 := fs7.but t8 (fun _ _ _ h => h)
  have op8 := row_but op7 t8 (fun _ _ h => h)
  have hx8 := hx.but t8 (fun _ _ _ h => h)
  have st8 := hst.ch (t8.mono (T := fun k => w.heap.size ≤ k ∧ k ≠ ba ∧ ¬ ∃ cs fr, w7.heap[k]? = some (.cells cs 148 fr)) fun _ _ h => h.elim)
  -- the append
  obtain ⟨xs, ho, hlen, hel⟩ := fs8
  obtain ⟨v9, w9, hr9, ho9, hg9⟩ := run_all' elFork ho rd8 (by rw [hlen]; simp; omega) (by decide) (Nat.le_trans hw7 l8.size)
  obtain ⟨A9, n9, q9, rfl, -⟩ := Rf.OwK.shape ho9
  have fs9 : FksO w9 w.heap.size (.slice A9 n9 q9) (acc ++ [f]) := FksO.snoc ho hlen hel (hx8.mono hwd) ho9 hg9
  have t9 : But (fun k => (Value.slice Af nf' cf).ownBlock = some k) w8 w9 := (But.of_grown hg9).mono fun k _ h => h
  have nb : ∀ b cs t fr, w8.heap[b]? = some (.cells cs t fr) → t ≠ 42 → ¬ ((Value.slice Af nf' cf).ownBlock = some b) := fun b cs t fr hb ht e => ownNe ho hb ht b e rfl
  have k1'' := (t9.block b1 (lt_heap k1') (nb _ _ _ _ k1' (by decide))).trans k1'
  have k0'' := (t9.block b0 (lt_heap k0') (nb _ _ _ _ k0' (by decide))).trans k0'
  have op9 := row_but op8 t9 fun g hg e => by
    obtain ⟨_, _, cur, hc⟩ := own_block op8 hg
    exact nb _ _ _ _ hc (by decide) e
  have st9 := st8.ch (t9.mono (T := fun k => w.heap.size ≤ k ∧ k ≠ ba ∧ ¬ ∃ cs fr, w8.heap[k]? = some (.cells cs 148 fr)) fun k _ e => by
    obtain ⟨hlo, _, cur, hc⟩ := own_block ho e
    obtain ⟨cs', hcs'⟩ := st8.blkt
    refine ⟨hlo, fun e => ?_, fun ⟨cs2, fr2, h2⟩ => ?_⟩
    · subst e; rw [hcs'] at hc; cases hc
    · rw [hc] at h2; cases h2)
  -- the store
  have c9 : w9.cell? ⟨b1, 2, none⟩ = some (.slice Af nf' cf) := (cell_of_row w9 b1 2 _ _ _ k1'').trans rfl
  have t10 := but_set w9 b1 2 (.slice A9 n9 q9)
  refine ⟨x, f, o7, w8, A9, n9, q9, w9, w9.setCell ⟨b1, 2, none⟩ (.slice A9 n9 q9), rfl, ⟨(cell_of_row w7 b1 2 _ _ _ k1).trans rfl, (cell_of_row w8 b1 2 _ _ _ k1').trans rfl⟩, hb8, hr9, s_Fl w9 b1 2 A9 n9 q9 _ c9 (frz k1''), ?_, hrel⟩
  refine ⟨(blk_set k1'' _).trans rfl, (t10.block b0 (lt_heap k0'') h01).trans k0'', fs9.but t10 fun g _ hg e => ?_, row_but op9 t10 (ownNe op9 k1'' (by decide)), st9.ch (Ch.box t10 k1'' (by decide) h1a h1), hsl⟩
  subst e
  rcases hg with ⟨cs', fr, hg⟩ | ⟨cs', fr, hg⟩ | ⟨cs', fr, hg⟩ <;> (rw [k1''] at hg; cases hg)
/-- What is read of a text. -/
def ReadP (s : Bs) (w : World) (e : Ending) (w' : World) : Prop :=
  ∃ (m : Nat) (pv fv ve : Value), (∃ A n c, pv = .slice A n c) ∧ (∃ A n c, fv = .slice A n c) ∧ e = .returned (.tuple #[.agg #[.int .i64 (m : Int), pv, fv], ve]) ∧ Below w.heap.size w w' ∧
    ((∃ r : Rt, getO s = some r ∧ ve = .nilIface ∧ RtO w' w.heap.size (.agg #[.int .i64 (m : Int), pv, fv]) r) ∨ (getO s = none ∧ ∃ p, ve = .iface 146 (.pointer (some p))))
set_option maxHeartbeats 8000000 in
set_option maxRecDepth 100000 in
theorem read_p {w : World} {E : ErA} (hp : PrA E w) (s : Bs) (hl : s.length ≤ 900000) {A : Option Addr} {n c : Nat} (hn : n = s.length) (hb : Rb w (.slice A n c) s) : Calls Tryz.prog 29 #[.slice A n c] w (ReadP s w) := by
  obtain ⟨wa, hwa⟩ : ∃ y, y = w.alloc (.cells rt0 25) := ⟨_, rfl⟩
  obtain ⟨wb, hwb⟩ : ∃ y, y = wa.alloc (.cells rt0 25) := ⟨_, rfl⟩
  obtain ⟨wc, hwc⟩ : ∃ y, y = wb.alloc (.cells #[.slice A n c, .int .i64 0, .nilIface] 82) := ⟨_, rfl⟩
  have sa : wa.heap.size = w.heap.size + 1 := by rw [hwa]; simp
  have sb : wb.heap.size = w.heap.size + 1 + 1 := by rw [hwb, ← sa]; simp
  have la : Below w.heap.size w wa := by rw [hwa]; exact below_new _ _
  have lb : Below wa.heap.size wa wb := by rw [hwb]; exact below_new _ _
  have lc : Below wb.heap.size wb wc := by rw [hwc]; exact below_new _ _
  obtain ⟨b0, hb0⟩ : ∃ z, z = w.heap.size := ⟨_, rfl⟩
  obtain ⟨b1, hb1⟩ : ∃ z, z = w.heap.size + 1 := ⟨_, rfl⟩
  obtain ⟨ba, hba⟩ : ∃ z, z = w.heap.size + 1 + 1 := ⟨_, rfl⟩
  have k0 : wc.heap[b0]? = some (.cells rt0 25 (0, 0)) := by
    have h : wa.heap[b0]? = some (.cells rt0 25 (0, 0)) := by rw [hwa, hb0]; exact heap_alloc_new _ _
    have h2 := (lb.block _ (lt_heap h)).trans h
    exact (lc.block _ (lt_heap h2)).trans h2
  have k1 : wc.heap[b1]? = some (.cells rt0 25 (0, 0)) := by
    have h : wb.heap[b1]? = some (.cells rt0 25 (0, 0)) := by rw [hwb, hb1, ← sa]; exact heap_alloc_new _ _
    exact (lc.block _ (lt_heap h)).trans h
  have ka : wc.heap[ba]? = some (.cells #[.slice A n c, .int .i64 0, .nilIface] 82 (0, 0)) := by rw [hwc, hba, ← sb]; exact heap_alloc_new _ _
  have l3 : Below w.heap.size w wc := la.trans ((lb.mono (by omega)).trans (lc.mono (by omega)))
  have hrd : Rd w wc ba s := ⟨⟨A, n, c, 0, ka, hn, hb, by omega⟩, l3, by omega⟩
  have HN : Hid (b0 < b1 ∧ b1 < ba ∧ b0 = w.heap.size) := Lib.hid ⟨by omega, by omega, hb0⟩
  have HP := Lib.hid hp
  have HN1 : Hid (Calls Tryz.prog 52 #[.pointer (some ⟨ba, 0, none⟩), .string ⟨#[110, 101, 116]⟩, .int .i64 1099511627776] wc (NumP w ba ((some s).bind (numO bNet 1099511627776)) wc)) := Lib.hid (number_p hp (o := some s) hrd bNet 1099511627776 (by decide))
  have K0 := Lib.hid k0; have K1 := Lib.hid k1; have HL := Lib.hid hl
  have HW : Hid (wc = ((w.alloc (.cells #[.int .i64 0, .slice none 0 0, .slice none 0 0] 25)).alloc (.cells #[.int .i64 0, .slice none 0 0, .slice none 0 0] 25)).alloc (.cells #[.slice A n c, .int .i64 0, .nilIface] 82)) := Lib.hid (by rw [hwc, hwb, hwa]; rfl)
  clear hwa hwb hwc sa sb la lb lc k0 k1 ka l3 hrd hb hn hl hp
  go_enter Tryz.func29, Tryz.ntmps29
  go_upto_region 3 with fail
  rw [← HW.out, ← hba, ← hb1, ← hb0]
  clear hba hb1 hb0 HW
  go_wp2_with fail
  refine HN1.out.mono ?_
  rintro e w1 h1
  obtain ⟨m, o2, hm, rfl, hst, hsl, t1, hG⟩ := num_un (X := Rt × Bs) h1 (fun s' h => by cases h; exact HL.out)
  have G1 : Hid (getS s = o2.bind fun s1 => (numO bPool 24 s1).bind fun q => (packsO q.1 [] q.2).bind fun t => (numO bForks 16 t.2).bind fun u => (forksO u.1 [] u.2).bind fun v => some (⟨(m : Int), t.1, v.1⟩, v.2)) := Lib.hid ((getS_eq s).trans (hG fun p s1 => (numO bPool 24 s1).bind fun q => (packsO q.1 [] q.2).bind fun t => (numO bForks 16 t.2).bind fun u => (forksO u.1 [] u.2).bind fun v => some (⟨(p : Int), t.1, v.1⟩, v.2)))
  have k1 := (t1.block b1 (lt_heap K1.out) (fun h => by have := HN.out; omega)).trans K1.out
  have k0 := (t1.block b0 (lt_heap K0.out) (fun h => by have := HN.out; omega)).trans K0.out
  have c0 : w1.cell? ⟨b1, 0, none⟩ = some (.int .i64 0) := (cell_of_row w1 b1 0 _ _ _ k1).trans rfl
  have g0 : w1.frozen? ⟨b1, 0, none⟩ = false := frz k1
  obtain ⟨w2, hw2⟩ : ∃ y, y = w1.setCell ⟨b1, 0, none⟩ (.int .i64 (m : Int)) := ⟨_, rfl⟩
  have t2 : But (fun k => k = b1) w1 w2 := by rw [hw2]; exact but_set _ _ _ _
  have k1' : w2.heap[b1]? = some (.cells #[.int .i64 (m : Int), .slice none 0 0, .slice none 0 0] 25 (0, 0)) := by rw [hw2]; exact (blk_set k1 _).trans rfl
  have k0' := (t2.block b0 (lt_heap k0) (fun h => by have := HN.out; omega)).trans k0
  have hst' := hst.ch (Ch.box t2 k1 (by decide) (by have := HN.out; omega) (by have := HN.out; omega))
  have HN2 : Hid (Calls Tryz.prog 52 #[.pointer (some ⟨ba, 0, none⟩), .string ⟨#[112, 111, 111, 108]⟩, .int .i64 24] w2 (NumP w ba (o2.bind (numO bPool 24)) w2)) := Lib.hid (number_p HP.out hst' bPool 24 (by decide))
  have HW2 := Lib.hid hw2; have HSl := Lib.hid hsl; have K1b := Lib.hid k1'; have K0b := Lib.hid k0'
  clear h1 hst hsl t1 hG k1 k0 hw2 t2 k1' k0' hst' HN1 K0 K1 hm
  go_upto_region 4 with fail
  rw [← HW2.out]
  clear HW2 c0 g0
  go_wp2_with fail
  refine HN2.out.mono ?_
  rintro e w3 h1
  obtain ⟨m2, o3, hm2, rfl, hst, hsl, t1, hG⟩ := num_un (X := Rt × Bs) h1 HSl.out
  have G2 : Hid (getS s = o3.bind fun s2 => (packsO m2 [] s2).bind fun t => (numO bForks 16 t.2).bind fun u => (forksO u.1 [] u.2).bind fun v => some (⟨(m : Int), t.1, v.1⟩, v.2)) := Lib.hid ((G1.out.trans (by rw [← Option.bind_assoc])).trans (hG fun q s2 => (packsO q [] s2).bind fun t => (numO bForks 16 t.2).bind fun u => (forksO u.1 [] u.2).bind fun v => some (⟨(m : Int), t.1, v.1⟩, v.2)))
  have K1c := Lib.hid ((t1.block b1 (lt_heap K1b.out) (fun h => by have := HN.out; omega)).trans K1b.out)
  have K0c := Lib.hid ((t1.block b0 (lt_heap K0b.out) (fun h => by have := HN.out; omega)).trans K0b.out)
  have HPk := Lib.hid (packs_p HP.out hst m2 (by omega))
  have HSl2 := Lib.hid hsl
  clear h1 hst hsl t1 hG HN2 HSl K1b K0b G1 hm2
  go_wp2_with fail
  refine HPk.out.mono ?_
  rintro e w4 h1
  obtain ⟨Ap, np, cp, pool, o4, rfl, ho, hst, hsl, t1, hG⟩ := pks_un (X := Rt × Bs) h1 HSl2.out
  have G3 : Hid (getS s = o4.bind fun s3 => (numO bForks 16 s3).bind fun u => (forksO u.1 [] u.2).bind fun v => some (⟨(m : Int), pool, v.1⟩, v.2)) := Lib.hid ((G2.out.trans (by rw [← Option.bind_assoc])).trans (hG fun t s3 => (numO bForks 16 s3).bind fun u => (forksO u.1 [] u.2).bind fun v => some (⟨(m : Int), t, v.1⟩, v.2)))
  have k1 := (t1.block b1 (lt_heap K1c.out) (fun h => by have := HN.out; omega)).trans K1c.out
  have k0 := (t1.block b0 (lt_heap K0c.out) (fun h => by have := HN.out; omega)).trans K0c.out
  have c0 : w4.cell? ⟨b1, 1, none⟩ = some (.slice none 0 0) := (cell_of_row w4 b1 1 _ _ _ k1).trans rfl
  have g0 : w4.frozen? ⟨b1, 1, none⟩ = false := frz k1
  obtain ⟨w5, hw5⟩ : ∃ y, y = w4.setCell ⟨b1, 1, none⟩ (.slice Ap np cp) := ⟨_, rfl⟩
  have t2 : But (fun k => k = b1) w4 w5 := by rw [hw5]; exact but_set _ _ _ _
  have k1' : w5.heap[b1]? = some (.cells #[.int .i64 (m : Int), .slice Ap np cp, .slice none 0 0] 25 (0, 0)) := by rw [hw5]; exact (blk_set k1 _).trans rfl
  have k0' := (t2.block b0 (lt_heap k0) (fun h => by have := HN.out; omega)).trans k0
  have hst' := hst.ch (Ch.box t2 k1 (by decide) (by have := HN.out; omega) (by have := HN.out; omega))
  have ho' := row_but ho t2 (ownNe ho k1 (by decide))
  have RD5 := Lib.hid hst'.blkt
  have HN3 : Hid (Calls Tryz.prog 52 #[.pointer (some ⟨ba, 0, none⟩), .string ⟨#[102, 111, 114, 107, 115]⟩, .int .i64 16] w5 (NumP w ba (o4.bind (numO bForks 16)) w5)) := Lib.hid (number_p HP.out hst' bForks 16 (by decide))
  have SZ3 : Hid (w.heap.size ≤ w3.heap.size) := Lib.hid (Nat.le_trans (Nat.le_of_lt (by have := lt_heap K0c.out; have := HN.out; omega)) (Nat.le_refl _))
  have OP := Lib.hid (OwK.mono ho' SZ3.out)
  have HW5 := Lib.hid hw5; have HSl := Lib.hid hsl; have K1b := Lib.hid k1'; have K0b := Lib.hid k0'
  clear h1 hst hsl t1 hG k1 k0 hw5 t2 k1' k0' hst' ho ho' HPk K1c K0c HSl2 G2 SZ3
  go_upto_region 5 with fail
  rw [← HW5.out]
  clear HW5 c0 g0
  go_wp2_with fail
  refine HN3.out.mono ?_
  rintro e w6 h1
  obtain ⟨nf, o5, hm3, rfl, hst, hsl, t1, hG⟩ := num_un (X := Rt × Bs) h1 HSl.out
  have G4 : Hid (getS s = (o5.bind (forksO nf [])).bind fun v => some (⟨(m : Int), pool, v.1⟩, v.2)) := Lib.hid (((G3.out.trans (by rw [← Option.bind_assoc])).trans (hG fun q s2 => (forksO q [] s2).bind fun v => some (⟨(m : Int), pool, v.1⟩, v.2))).trans (by rw [Option.bind_assoc]))
  have K1c := Lib.hid ((t1.block b1 (lt_heap K1b.out) (fun h => by have := HN.out; omega)).trans K1b.out)
  have K0c := Lib.hid ((t1.block b0 (lt_heap K0b.out) (fun h => by have := HN.out; omega)).trans K0b.out)
  have OP6 : Hid (OwS w6 w.heap.size (.slice Ap np cp) pool) := Lib.hid (by
    obtain ⟨cs, hcs⟩ := RD5.out
    exact row_but OP.out t1 (ownNe OP.out hcs (by decide)))
  have HS6 := Lib.hid hst; have HSl6 := Lib.hid hsl
  clear h1 hst hsl t1 hG HN3 HSl K1b K0b G3 OP RD5
  go_wp2_with fail
  go_loopw [19] (fun i wr => ∃ (k : Nat) (acc : List Fk) (o' : Option Bs) (Af : Option Addr) (nf' cf : Nat), k ≤ nf ∧ i = .int .i64 k ∧ Hid (RdSt w wr b0 b1 ba m Ap np cp pool Af nf' cf acc o' ∧ acc.length ≤ k ∧ o5.bind (forksO nf []) = o'.bind (forksO (nf - k) acc))) (fun i _ => nf - (intOf i).toNat)
  case atStart => exact ⟨0, [], o5, none, 0, 0, Nat.zero_le _, rfl, Lib.hid ⟨⟨K1c.out, K0c.out, FksO.nil _ _, OP6.out, HS6.out, HSl6.out⟩, Nat.le_refl _, by rw [Nat.sub_zero]⟩⟩
  case round =>
    obtain ⟨wo, hwo⟩ : ∃ wo, wo = wr := ⟨_, rfl⟩
    subst hwo
    clear K1c K0c OP6 HS6 HSl6
    obtain ⟨k, acc, o', Af, nf', cf, hk, rfl, hX⟩ := hrel
    by_cases hlt : k < nf
    case neg =>
      have hkn : k = nf := by omega
      obtain ⟨wd, hwd⟩ : ∃ y, y = wo.drew := ⟨_, rfl⟩
      have hXd : RdSt w wd b0 b1 ba m Ap np cp pool Af nf' cf acc o' := by rw [hwd]; exact hX.out.1.but (But.refl _ _).drew
      have hrel : getS s = o'.bind fun r => some (⟨(m : Int), pool, acc⟩, r) := by
        rw [G4.out, hX.out.2.2, hkn, Nat.sub_self, Option.bind_assoc]
        rfl
      obtain ⟨row, hrow⟩ : ∃ r : Array Value, r = #[.int .i64 (m : Int), .slice Ap np cp, .slice Af nf' cf] := ⟨_, rfl⟩
      have HEn := Lib.hid (end_p HP.out hXd.st)
      have HS1 : Hid (wd.heap[b1]? = some (.cells #[.int .i64 (m : Int), .slice Ap np cp, .slice Af nf' cf] 25 (0, 0))) := Lib.hid hXd.k1
      have HXd := Lib.hid hXd; have HRel := Lib.hid hrel
      clear hkn hX hXd hrel G4
      go_upto_region 9 with fail
      refine held_start (fun W => W.heap[b1]? = some (.cells #[.int .i64 (m : Int), .slice Ap np cp, .slice Af nf' cf] 25 (0, 0))) (by kernel_rfl) ?_
      rw [← hwd]
      refine held_take 0 (.agg #[.int .i64 (m : Int), .slice Ap np cp, .slice Af nf' cf]) rfl (by kernel_rfl) (by kernel_rfl) (by kernel_rfl) (fun _ _ _ h => h) (by kernel_rfl) (fun W hW => y_load (sv := .pointer (some ⟨b1, 0, none⟩)) rfl (by kernel_rfl) (l_Rt W b1 _ _ _ hW)) (HS1.out) ?_
      refine held_take 1 (.pointer (some ⟨ba, 0, none⟩)) rfl (by kernel_rfl) (by kernel_rfl) (by kernel_rfl) (fun _ _ _ h => h) (by kernel_rfl) (fun W hW => by kernel_rfl) (HS1.out) ?_
      refine held_one (i := 2) (by kernel_rfl) ?_
      refine held_call 55 #[.pointer (some ⟨ba, 0, none⟩)] rfl (by kernel_rfl) (by kernel_rfl) ?_
      refine HEn.out.mono ?_
      rintro e w7 ⟨he, t7⟩
      have k1 := (t7.block b1 (lt_heap HXd.out.k1) (fun h => by have := HN.out; omega)).trans HXd.out.k1
      have k0 := (t7.block b0 (lt_heap HXd.out.k0) (fun h => by have := HN.out; omega)).trans HXd.out.k0
      obtain ⟨w8, hw8⟩ : ∃ y, y = w7.setRow b0 #[.int .i64 (m : Int), .slice Ap np cp, .slice Af nf' cf] := ⟨_, rfl⟩
      have t8 : But (fun k => k = b0) w7 w8 := by rw [hw8]; exact but_row _ _ _
      have k0' : w8.heap[b0]? = some (.cells #[.int .i64 (m : Int), .slice Ap np cp, .slice Af nf' cf] 25 (0, 0)) := by rw [hw8]; exact setRow_heap _ _ _ _ _ _ k0
      have k1' := (t8.block b1 (lt_heap k1) (fun h => by have := HN.out; omega)).trans k1
      have hs8 := s_Rt w7 b0 (.int .i64 (m : Int)) (.slice Ap np cp) (.slice Af nf' cf) rfl rfl rfl k0
      rw [← hw8] at hs8
      obtain ⟨ve, rfl, hve⟩ : ∃ ve, e = .returned ve ∧ ((o' = some [] ∧ ve = .nilIface) ∨ (o' ≠ some [] ∧ ∃ p, ve = .iface 146 (.pointer (some p)))) := by
        rcases he with ⟨h1, rfl⟩ | ⟨h1, p, rfl⟩
        · exact ⟨_, rfl, .inl ⟨h1, rfl⟩⟩
        · exact ⟨_, rfl, .inr ⟨h1, p, rfl⟩⟩
      have HF : Hid (ReadP s w (.returned (.tuple #[.agg #[.int .i64 (m : Int), .slice Ap np cp, .slice Af nf' cf], ve])) w8) := Lib.hid (by
        obtain ⟨cs, hcs⟩ := HXd.out.st.blkt
        have lw : Below w.heap.size w w8 := (HXd.out.st.low.trans (t7.below (fun k _ h => by have := HXd.out.st.lo; omega) HXd.out.st.low.size)).trans (t8.below (fun k _ h => by have := HN.out; omega) (Nat.le_trans HXd.out.st.low.size t7.size))
        refine ⟨m, _, _, ve, ⟨_, _, _, rfl⟩, ⟨_, _, _, rfl⟩, rfl, lw, ?_⟩
        rcases hve with ⟨h1, rfl⟩ | ⟨h1, p, rfl⟩
        · refine .inl ⟨⟨(m : Int), pool, acc⟩, ?_, rfl, ?_⟩
          · unfold getO; rw [HRel.out, h1]; rfl
          · have op7 : OwS w7 w.heap.size (.slice Ap np cp) pool := row_but HXd.out.op t7 (ownNe HXd.out.op hcs (by decide))
            have op8 : OwS w8 w.heap.size (.slice Ap np cp) pool := row_but op7 t8 (ownNe op7 k0 (by decide))
            have fs7 : FksO w7 w.heap.size (.slice Af nf' cf) acc := HXd.out.fs.but t7 fun g _ hg e => by
              subst e
              rcases hg with ⟨cs', fr, hg⟩ | ⟨cs', fr, hg⟩ | ⟨cs', fr, hg⟩ <;> (rw [hcs] at hg; cases hg)
            have fs8 : FksO w8 w.heap.size (.slice Af nf' cf) acc := fs7.but t8 fun g _ hg e => by
              subst e
              rcases hg with ⟨cs', fr, hg⟩ | ⟨cs', fr, hg⟩ | ⟨cs', fr, hg⟩ <;> (rw [k0] at hg; cases hg)
            exact ⟨_, _, rfl, op8, fs8⟩
        · refine .inr ⟨?_, p, rfl⟩
          unfold getO
          rw [HRel.out]
          cases o' with
          | none => rfl
          | some r =>
            cases r with
            | nil => exact absurd rfl h1
            | cons c r => rfl)
      have HK := Lib.hid k0'
      clear he hve t7 t8 hw8 HEn HXd HRel k0 k0'
      refine ⟨_, rfl, k1, ?_⟩
      refine held_one (i := 3) (by kernel_rfl) ?_
      refine held_store w8 rfl (by kernel_rfl) (y_store (sv := .pointer (some ⟨b0, 0, none⟩)) (xv := .agg #[.int .i64 (m : Int), .slice Ap np cp, .slice Af nf' cf]) rfl (by kernel_rfl) (by kernel_rfl) hs8) k1' ?_
      refine held_take 4 (ve) rfl (by kernel_rfl) (by kernel_rfl) (by kernel_rfl) (fun _ _ _ h => h) (by kernel_rfl) (fun W hW => by kernel_rfl) (k1') ?_
      refine held_done _ (by kernel_rfl) ?_
      go_simp
      clear hs8 k1 k1' HS1
      go_wp2_with fail
      exact bodyPost_ret (v := .tuple #[.agg #[.int .i64 (m : Int), .slice Ap np cp, .slice Af nf' cf], ve]) (results_two rfl _ _ b0 25 _ (0, 0) _ rfl HK.out Tryz.underlying25 rfl (by kernel_rfl) rfl) rfl HF.out
    obtain ⟨d, hd⟩ : ∃ d, nf - k = d + 1 := ⟨nf - k - 1, by omega⟩
    have hd2 : nf - (k + 1) = d := by omega
    obtain ⟨wd, hwd⟩ : ∃ y, y = wo.drew := ⟨_, rfl⟩
    have hXd : RdSt w wd b0 b1 ba m Ap np cp pool Af nf' cf acc o' := by rw [hwd]; exact hX.out.1.but (But.refl _ _).drew
    have hwz : w.heap.size ≤ wd.heap.size := by have := lt_heap hXd.k0; have := HN.out; omega
    have CFd : Hid (wd.cell? ⟨b1, 2, none⟩ = some (.slice Af nf' cf)) := Lib.hid ((cell_of_row wd b1 2 _ _ _ hXd.k1).trans rfl)
    have hac : acc.length ≤ k := hX.out.2.1
    have HFk := Lib.hid (fork_p HP.out hXd.st hXd.sl hXd.fs (by omega))
    have HST : Hid (∀ e w7, FkP w ba (o'.bind (forkO acc)) wd e w7 → ∃ (x : Fs) (f : Fk) (o7 : Option Bs) (w8 : World) (A9 : Option Addr) (n9 q9 : Nat) (w9 w10 : World), e = .returned (fkV x.fc) ∧ (w7.cell? ⟨b1, 2, none⟩ = some (.slice Af nf' cf) ∧ w8.cell? ⟨b1, 2, none⟩ = some (.slice Af nf' cf)) ∧
      (Instr.buildSlice 23 1 #[(0, fkV x.fc)]).run Tryz.prog w7 = .ok (.slice (some ⟨w7.heap.size, 0, none⟩) 1 1) w8 ∧
      (∀ ty, (Builtin.append_ #[23, 23] ty #[.slice Af nf' cf, .slice (some ⟨w7.heap.size, 0, none⟩) 1 1]).run Tryz.prog w8 = .ok (.slice A9 n9 q9) w9) ∧
      (Instr.storeAt 23 (.pointer (some ⟨b1, 2, none⟩)) (.slice A9 n9 q9)).run Tryz.prog w9 = .ok () w10 ∧
      (RdSt w w10 b0 b1 ba m Ap np cp pool A9 n9 q9 (acc ++ [f]) o7 ∧ (acc ++ [f]).length ≤ k + 1 ∧ o5.bind (forksO nf []) = o7.bind (forksO (nf - (k + 1)) (acc ++ [f])))) := Lib.hid fun e w7 h7 => by
      obtain ⟨x, f, o7, w8, A9, n9, q9, w9, w10, h1, h2, h3, h4, h5, h6, h8⟩ := hXd.step (n := d) h7 (by omega) (by have := HN.out; omega) (by have := HN.out; omega) (by have := HN.out; omega) (by have := HN.out; omega) hwz
      exact ⟨x, f, o7, w8, A9, n9, q9, w9, w10, h1, h2, h3, h4, h5, h6, by simp; omega, by rw [hX.out.2.2, hd, h8, hd2]⟩
    clear hd hd2 hX hXd hwz hac
    go_upto_region 7 with fail
    refine held_start (fun _ => True) (by kernel_rfl) ?_
    rw [← hwd]
    refine held_take 0 (.pointer (some ⟨b1, 2, none⟩)) rfl (by kernel_rfl) (by kernel_rfl) (by kernel_rfl) (fun _ _ _ h => h) (by kernel_rfl) (fun W hW => by kernel_rfl) (trivial) ?_
    refine held_take 2 (.pointer (some ⟨ba, 0, none⟩)) rfl (by kernel_rfl) (by kernel_rfl) (by kernel_rfl) (fun _ _ _ h => h) (by kernel_rfl) (fun W hW => by kernel_rfl) (trivial) ?_
    refine held_take 3 (.pointer (some ⟨b1, 2, none⟩)) rfl (by kernel_rfl) (by kernel_rfl) (by kernel_rfl) (fun _ _ _ h => h) (by kernel_rfl) (fun W hW => by kernel_rfl) (trivial) ?_
    refine held_two (i := 1) (j := 4) (by kernel_rfl) ?_ ?_
    · refine held_op (.slice Af nf' cf) wd rfl (by kernel_rfl) (y_load (sv := .pointer (some ⟨b1, 2, none⟩)) rfl (by kernel_rfl) (l_Fl wd b1 2 Af nf' cf CFd.out)) trivial ?_
      refine held_one (i := 4) (by kernel_rfl) ?_
      refine held_op (.slice Af nf' cf) wd rfl (by kernel_rfl) (y_load (sv := .pointer (some ⟨b1, 2, none⟩)) rfl (by kernel_rfl) (l_Fl wd b1 2 Af nf' cf CFd.out)) trivial ?_
      refine held_one (i := 5) (by kernel_rfl) ?_
      refine held_call 54 #[.pointer (some ⟨ba, 0, none⟩), .slice Af nf' cf] rfl (by kernel_rfl) (by kernel_rfl) ?_
      refine HFk.out.mono ?_
      rintro e w7 h7
      obtain ⟨x, f, o7, w8, A9, n9, q9, w9, w10, rfl, hc7, hb8, hr9, hs10, hfin⟩ := HST.out e w7 h7
      refine ⟨_, rfl, trivial, ?_⟩
      refine held_one (i := 6) (by kernel_rfl) ?_
      refine held_op (.slice (some ⟨w7.heap.size, 0, none⟩) 1 1) w8 rfl (by kernel_rfl) (y_build (vs := #[(0, fkV x.fc)]) rfl (by kernel_rfl) hb8) trivial ?_
      refine held_one (i := 7) (by kernel_rfl) ?_
      refine held_op (.slice A9 n9 q9) w9 rfl (by kernel_rfl) (y_append rfl (by kernel_rfl) (by kernel_rfl) (hr9 _)) trivial ?_
      refine held_take 8 (.pointer (some ⟨b1, 2, none⟩)) rfl (by kernel_rfl) (by kernel_rfl) (by kernel_rfl) (fun _ _ _ h => h) (by kernel_rfl) (fun W hW => by kernel_rfl) (trivial) ?_
      refine held_one (i := 9) (by kernel_rfl) ?_
      refine held_store w10 rfl (by kernel_rfl) (y_store (sv := .pointer (some ⟨b1, 2, none⟩)) (xv := .slice A9 n9 q9) rfl (by kernel_rfl) (by kernel_rfl) hs10) trivial ?_
      refine held_done _ (by kernel_rfl) ?_
      go_simp
      have HFin := Lib.hid hfin
      clear hc7 hb8 hr9 hs10 hfin HFk HST CFd
      go_wp2_with fail
      go_roundw
      case rel => exact ⟨k + 1, acc ++ [f], o7, A9, n9, q9, by omega, by go_num, Lib.hid HFin.out⟩
      case measure => simp [intOf]; omega
    · refine held_op (.slice Af nf' cf) wd rfl (by kernel_rfl) (y_load (sv := .pointer (some ⟨b1, 2, none⟩)) rfl (by kernel_rfl) (l_Fl wd b1 2 Af nf' cf CFd.out)) trivial ?_
      refine held_two (i := 1) (j := 5) (by kernel_rfl) ?_ ?_
      · refine held_op (.slice Af nf' cf) wd rfl (by kernel_rfl) (y_load (sv := .pointer (some ⟨b1, 2, none⟩)) rfl (by kernel_rfl) (l_Fl wd b1 2 Af nf' cf CFd.out)) trivial ?_
        refine held_one (i := 5) (by kernel_rfl) ?_
        refine held_call 54 #[.pointer (some ⟨ba, 0, none⟩), .slice Af nf' cf] rfl (by kernel_rfl) (by kernel_rfl) ?_
        refine HFk.out.mono ?_
        rintro e w7 h7
        obtain ⟨x, f, o7, w8, A9, n9, q9, w9, w10, rfl, hc7, hb8, hr9, hs10, hfin⟩ := HST.out e w7 h7
        refine ⟨_, rfl, trivial, ?_⟩
        refine held_one (i := 6) (by kernel_rfl) ?_
        refine held_op (.slice (some ⟨w7.heap.size, 0, none⟩) 1 1) w8 rfl (by kernel_rfl) (y_build (vs := #[(0, fkV x.fc)]) rfl (by kernel_rfl) hb8) trivial ?_
        refine held_one (i := 7) (by kernel_rfl) ?_
        refine held_op (.slice A9 n9 q9) w9 rfl (by kernel_rfl) (y_append rfl (by kernel_rfl) (by kernel_rfl) (hr9 _)) trivial ?_
        refine held_take 8 (.pointer (some ⟨b1, 2, none⟩)) rfl (by kernel_rfl) (by kernel_rfl) (by kernel_rfl) (fun _ _ _ h => h) (by kernel_rfl) (fun W hW => by kernel_rfl) (trivial) ?_
        refine held_one (i := 9) (by kernel_rfl) ?_
        refine held_store w10 rfl (by kernel_rfl) (y_store (sv := .pointer (some ⟨b1, 2, none⟩)) (xv := .slice A9 n9 q9) rfl (by kernel_rfl) (by kernel_rfl) hs10) trivial ?_
        refine held_done _ (by kernel_rfl) ?_
        go_simp
        have HFin := Lib.hid hfin
        clear hc7 hb8 hr9 hs10 hfin HFk HST CFd
        go_wp2_with fail
        go_roundw
        case rel => exact ⟨k + 1, acc ++ [f], o7, A9, n9, q9, by omega, by go_num, Lib.hid HFin.out⟩
        case measure => simp [intOf]; omega
      · refine held_call 54 #[.pointer (some ⟨ba, 0, none⟩), .slice Af nf' cf] rfl (by kernel_rfl) (by kernel_rfl) ?_
        refine HFk.out.mono ?_
        rintro e w7 h7
        obtain ⟨x, f, o7, w8, A9, n9, q9, w9, w10, rfl, hc7, hb8, hr9, hs10, hfin⟩ := HST.out e w7 h7
        refine ⟨_, rfl, trivial, ?_⟩
        refine held_two (i := 1) (j := 6) (by kernel_rfl) ?_ ?_
        · refine held_op (.slice Af nf' cf) w7 rfl (by kernel_rfl) (y_load (sv := .pointer (some ⟨b1, 2, none⟩)) rfl (by kernel_rfl) (l_Fl w7 b1 2 Af nf' cf hc7.1)) trivial ?_
          refine held_one (i := 6) (by kernel_rfl) ?_
          refine held_op (.slice (some ⟨w7.heap.size, 0, none⟩) 1 1) w8 rfl (by kernel_rfl) (y_build (vs := #[(0, fkV x.fc)]) rfl (by kernel_rfl) hb8) trivial ?_
          refine held_one (i := 7) (by kernel_rfl) ?_
          refine held_op (.slice A9 n9 q9) w9 rfl (by kernel_rfl) (y_append rfl (by kernel_rfl) (by kernel_rfl) (hr9 _)) trivial ?_
          refine held_take 8 (.pointer (some ⟨b1, 2, none⟩)) rfl (by kernel_rfl) (by kernel_rfl) (by kernel_rfl) (fun _ _ _ h => h) (by kernel_rfl) (fun W hW => by kernel_rfl) (trivial) ?_
          refine held_one (i := 9) (by kernel_rfl) ?_
          refine held_store w10 rfl (by kernel_rfl) (y_store (sv := .pointer (some ⟨b1, 2, none⟩)) (xv := .slice A9 n9 q9) rfl (by kernel_rfl) (by kernel_rfl) hs10) trivial ?_
          refine held_done _ (by kernel_rfl) ?_
          go_simp
          have HFin := Lib.hid hfin
          clear hc7 hb8 hr9 hs10 hfin HFk HST CFd
          go_wp2_with fail
          go_roundw
          case rel => exact ⟨k + 1, acc ++ [f], o7, A9, n9, q9, by omega, by go_num, Lib.hid HFin.out⟩
          case measure => simp [intOf]; omega
        · refine held_op (.slice (some ⟨w7.heap.size, 0, none⟩) 1 1) w8 rfl (by kernel_rfl) (y_build (vs := #[(0, fkV x.fc)]) rfl (by kernel_rfl) hb8) trivial ?_
          refine held_one (i := 1) (by kernel_rfl) ?_
          have hc8 : w8.cell? ⟨b1, 2, none⟩ = some (.slice Af nf' cf) := hc7.2
          refine held_op (.slice Af nf' cf) w8 rfl (by kernel_rfl) (y_load (sv := .pointer (some ⟨b1, 2, none⟩)) rfl (by kernel_rfl) (l_Fl w8 b1 2 Af nf' cf hc8)) trivial ?_
          refine held_one (i := 7) (by kernel_rfl) ?_
          refine held_op (.slice A9 n9 q9) w9 rfl (by kernel_rfl) (y_append rfl (by kernel_rfl) (by kernel_rfl) (hr9 _)) trivial ?_
          refine held_take 8 (.pointer (some ⟨b1, 2, none⟩)) rfl (by kernel_rfl) (by kernel_rfl) (by kernel_rfl) (fun _ _ _ h => h) (by kernel_rfl) (fun W hW => by kernel_rfl) (trivial) ?_
          refine held_one (i := 9) (by kernel_rfl) ?_
          refine held_store w10 rfl (by kernel_rfl) (y_store (sv := .pointer (some ⟨b1, 2, none⟩)) (xv := .slice A9 n9 q9) rfl (by kernel_rfl) (by kernel_rfl) hs10) trivial ?_
          refine held_done _ (by kernel_rfl) ?_
          go_simp
          have HFin := Lib.hid hfin
          clear hc8 hc7 hb8 hr9 hs10 hfin HFk HST CFd
          go_wp2_with fail
          go_roundw
          case rel => exact ⟨k + 1, acc ++ [f], o7, A9, n9, q9, by omega, by go_num, Lib.hid HFin.out⟩
          case measure => simp [intOf]; omega
end Go.Proofs.YtnboagmibhllpaaGreatDoor.Ro
