/-
  Find, Pick.
  A range over the names that are gone after: the loop, out of its body.
-/
import Derived.Test.YtngphfogomchfaaGreatDoorC26
import Derived.Test.YtngphfogomchfaaGreatDoorC17
import Derived.Test.YtngphfogomchfaaGreatDoorC32

namespace Go.Proofs.YtngphfogomchfaaGreatDoor
open Go Go.RowKit Go.Maps

theorem pred_any (x : Hld) (sb : Nat) (s : Bs) (b : Bool) (hb : (x.id == s) = b) (W : World) (hs : W.cell? ⟨sb, 0, none⟩ = some (.string ⟨s.toArray⟩)) :
    Calls Tryz.prog 38 #[.agg #[.string ⟨x.id.toArray⟩, .int .i64 x.kind, .string ⟨x.data.toArray⟩], .pointer (some ⟨sb, 0, none⟩)] W (RetBelow (.bool b) W) := by
  have hlt := World.block_lt_of_cell? W _ hs
  have hne : ¬ sb = W.heap.size := by simp only at hlt; omega
  obtain ⟨xi, xk, xd⟩ := x
  simp only at hb ⊢
  have h1 : (W.alloc (.cells #[.string ⟨xi.toArray⟩, .int .i64 xk, .string ⟨xd.toArray⟩] 51)).cell? ⟨sb, 0, none⟩ = some (.string ⟨s.toArray⟩) := cell_to hs (below_new W _)
  have hb2 : (xi == s) = b := hb
  clear hs hb hlt
  cases b with
  | true =>
    have e : xi = s := by simpa using hb2
    subst e
    clear hb2
    go_enter Tryz.func38, Tryz.ntmps38
    go_wp2_with fail
    go_ret
    exact ⟨by simp, below_new W _⟩
  | false =>
    have e : ¬ xi = s := by simpa using hb2
    go_enter Tryz.func38, Tryz.ntmps38
    go_wp2_with fail
    go_ret
    exact ⟨by simp, below_new W _⟩

/-- Where the first of a name stands. -/
def IdxPost (l : List Hld) (s : Bs) (w : World) (e : Ending) (w' : World) : Prop :=
  Below w.heap.size w w' ∧ ((e = .returned (.int .i64 (-1)) ∧ findL l s = none) ∨ ∃ i : Nat, e = .returned (.int .i64 i) ∧ i < l.length ∧ findL l s = some (l.getD i noHld))
set_option maxHeartbeats 4000000 in
set_option maxRecDepth 100000 in
theorem idx_any {w : World} {A : Option Addr} {c sb : Nat} {l : List Hld} (h : HldsR w (.slice A l.length c) l) (hl : l.length ≤ 1000000) (s : Bs) (hs : w.cell? ⟨sb, 0, none⟩ = some (.string ⟨s.toArray⟩)) :
    Calls Tryz.prog 37 #[.slice A l.length c, .func (.func 38) #[] #[.pointer (some ⟨sb, 0, none⟩)]] w (IdxPost l s w) := by
  have Hx := Lib.hid h; have Hs := Lib.hid hs; clear h hs
  go_enter Tryz.func37, Tryz.ntmps37
  go_wp2_with fail
  go_loopw [8] (fun i wr => Hid (Below w.heap.size w wr) ∧ ∃ k : Nat, k ≤ l.length ∧ i = .int .i64 k ∧ Hid (findL (l.take k) s = none)) (fun i _ => l.length - (intOf i).toNat)
  case atStart => exact ⟨Lib.hid (Below.refl _ _), 0, Nat.zero_le _, rfl, Lib.hid rfl⟩
  case round =>
    obtain ⟨hB, k, hk, rfl, hno⟩ := hrel
    by_cases hlt : k < l.length
    · obtain ⟨g, o, c', e, _, hg⟩ := Hx.out.pos (by omega)
      cases e
      obtain ⟨p0, p1, p2⟩ := HldsR.cells (Hx.out.below hB.out (Nat.le_refl _)) k hlt
      have hsn := findL_snoc (x := s) hlt
      rw [hno.out] at hsn
      have HX : Hid (l.getD k noHld = l.getD k noHld) := Lib.hid rfl
      obtain ⟨x, hx⟩ : ∃ x, x = l.getD k noHld := ⟨_, rfl⟩
      rw [← hx] at p0 p1 p2 hsn
      have HXe := Lib.hid hx
      have HP := fun b hb => Lib.hid (pred_any x sb s b hb wr (cell_to Hs.out hB.out))
      obtain ⟨xi, xk, xd⟩ := x
      unfold SV at p0 p2
      simp only at p0 p1 p2 hsn HP
      clear hx HX
      by_cases e : xi = s
      · have hp := HP true (by simpa using e)
        have HF : Hid (findL l s = some (l.getD k noHld)) := Lib.hid (by rw [← HXe.out]; exact findL_hit (by rw [hsn, if_pos e]; rfl))
        clear HP hsn e
        go_wp2_with fail
        refine hp.out.mono ?_
        rintro e w2 ⟨rfl, hb2⟩
        have HB := Lib.hid (hB.out.trans (hb2.mono hB.out.size))
        clear hb2 p0 p1 p2
        go_wp2_with fail
        go_ret
        exact ⟨HB.out, .inr ⟨k, rfl, hlt, HF.out⟩⟩
      · have hp := HP false (by simpa using e)
        have HF : Hid (findL (l.take (k + 1)) s = none) := Lib.hid (by rw [hsn, if_neg e]; rfl)
        clear HP hsn e
        go_wp2_with fail
        refine hp.out.mono ?_
        rintro e w2 ⟨rfl, hb2⟩
        have HB := Lib.hid (hB.out.trans (hb2.mono hB.out.size))
        clear hb2 p0 p1 p2
        go_wp2_with fail
        go_roundw
        case rel => exact ⟨HB, k + 1, hlt, by go_num, HF⟩
        case measure => simp [intOf]; omega
    · obtain rfl : k = l.length := by omega
      rw [List.take_length] at hno
      go_wp2_with fail
      go_ret
      exact ⟨hB.out, .inl ⟨rfl, hno.out⟩⟩

set_option maxHeartbeats 4000000 in
set_option maxRecDepth 100000 in
theorem Find_any {w : World} {v : Value} {l : List Hld} (h : HldsR w v l) (hl : l.length ≤ 1000000) (s : Bs) : Calls Tryz.prog 16 #[v, .string ⟨s.toArray⟩] w (RetBelow (findV l s) w) := by
  obtain ⟨A, c, rfl⟩ := h.shape
  obtain ⟨w1, hw1⟩ : ∃ w1, w1 = (w.alloc (.cells #[.string ⟨s.toArray⟩] 9)).alloc (.cells #[.int .i64 0, .string ⟨#[]⟩] 30) := ⟨_, rfl⟩
  have hb1 : Below w.heap.size w w1 := by rw [hw1]; exact (below_new w _).alloc (by simp) _
  have hk0 : w1.heap[w.heap.size]? = some (.cells #[.string ⟨s.toArray⟩] 9 (0, 0)) := by
    rw [hw1, Below.heap_alloc _ _ _ (by simp)]; exact heap_alloc_new w _
  have hk1 : w1.heap[w.heap.size + 1]? = some (.cells #[.int .i64 0, .string ⟨#[]⟩] 30 (0, 0)) := by
    rw [hw1]
    have := heap_alloc_new (w.alloc (.cells #[.string ⟨s.toArray⟩] 9)) (.cells #[.int .i64 0, .string ⟨#[]⟩] 30)
    simpa using this
  have HI := Lib.hid (idx_any (sb := w.heap.size) (h.below hb1 (Nat.le_refl _)) hl s ((cell_of_row w1 _ 0 _ _ _ hk0).trans rfl))
  have HW1 := Lib.hid hw1; have HB1 := Lib.hid hb1; have HK1 := Lib.hid hk1; have Hx := Lib.hid h
  clear h hw1 hb1 hk0 hk1
  go_enter Tryz.func16, Tryz.ntmps16
  go_wp2_with fail
  rw [← HW1.out]
  refine HI.out.mono ?_
  rintro e w2 ⟨hb2, hr⟩
  have hk2 := (hb2.block _ (lt_heap HK1.out)).trans HK1.out
  have hB2 := HB1.out.trans (hb2.mono HB1.out.size)
  have z0 : w2.cell? ⟨w.heap.size + 1, 0, none⟩ = some (.int .i64 0) := (cell_of_row w2 _ 0 _ _ _ hk2).trans rfl
  have z1 : w2.cell? ⟨w.heap.size + 1, 1, none⟩ = some (.string ⟨#[]⟩) := (cell_of_row w2 _ 1 _ _ _ hk2).trans rfl
  have f0 := frozen_of (i := 0) hk2
  have f1 := frozen_of (i := 1) hk2
  have HB2 := Lib.hid hB2
  rcases hr with ⟨rfl, hf⟩ | ⟨i, rfl, hlt, hf⟩
  · have HV : Hid (findV l s = .tuple #[.agg #[.int .i64 0, .string ⟨#[]⟩], .bool false]) := Lib.hid (by unfold findV thB; rw [hf]; rfl)
    clear hf hb2 hk2 hB2
    go_wp2_with fail
    rw [HV.out]
    exact bodyPost_ret (v := .tuple #[.agg #[.int .i64 0, .string ⟨#[]⟩], .bool false]) (by simp [results, Tryz.results16, go_sem, z0, z1]) rfl ⟨rfl, (HB2.out.setCell (p := ⟨w.heap.size + 1, 0, none⟩) (Nat.le_succ _) _).setCell (p := ⟨w.heap.size + 1, 1, none⟩) (Nat.le_succ _) _⟩
  · obtain ⟨g, o, c', e, _, hg⟩ := Hx.out.pos (by omega)
    cases e
    obtain ⟨p0, p1, p2⟩ := HldsR.cells (Hx.out.below hB2 (Nat.le_refl _)) i hlt
    have HV : Hid (findV l s = .tuple #[.agg #[.int .i64 (l.getD i noHld).kind, .string ⟨(l.getD i noHld).data.toArray⟩], .bool true]) := Lib.hid (by unfold findV thB; rw [hf]; rfl)
    obtain ⟨x, hx⟩ : ∃ x, x = l.getD i noHld := ⟨_, rfl⟩
    rw [← hx] at p0 p1 p2 HV
    obtain ⟨xi, xk, xd⟩ := x
    unfold SV at p0 p2
    simp only at p0 p1 p2 HV
    have hne : ¬ g = w.heap.size + 1 := by omega
    clear hf hb2 hk2 hB2 hx p0
    go_wp2_with fail
    rw [HV.out]
    exact bodyPost_ret (v := .tuple #[.agg #[.int .i64 xk, .string ⟨xd.toArray⟩], .bool true]) (by simp [results, Tryz.results16, go_sem, z0, z1]) rfl ⟨rfl, (HB2.out.setCell (p := ⟨w.heap.size + 1, 0, none⟩) (Nat.le_succ _) _).setCell (p := ⟨w.heap.size + 1, 1, none⟩) (Nat.le_succ _) _⟩
end Go.Proofs.YtngphfogomchfaaGreatDoor


namespace Go.Proofs.YtngphfogomchfaaGreatDoor
open Go Go.RowKit Go.Maps Go.Shelf

/-- How a round's body may be left. -/
def bpost (I : List Bs → (Nat → Prop) → World → Prop) (Ix : (Nat → Prop) → World → Prop) (pre : List Bs) (C : Nat → Prop) (W : World) : Exit → Go.Act → World → Prop
  | .normal, _, W' => ∃ C', I pre C' W' ∧ But C W W' ∧ ∀ k, C' k → C k ∨ W.heap.size ≤ k
  | .ret, _, W' => ∃ C', Ix C' W' ∧ But C W W' ∧ ∀ k, C' k → C k ∨ W.heap.size ≤ k
  | _, _, _ => False

theorem below_put {w : World} {b : Nat} (W : World) (h : Below b w W) {l : Nat} (hl : b ≤ l) (o : Obj) : Below b w (W.putObj l o) :=
  h.trans ⟨rfl, rfl, rfl, by simp, fun k hk => World.putObj_heap_other (by omega)⟩

/-- The range. -/
theorem range_after {L : List Hld} {tips : List Bs} {tb ob m nn : Nat} {A : Option Addr} {ct : Nat} {w w0 : World} {C0 : Nat → Prop} {g : Operand} {p : Tmp} {assign body : Code} {Q : Exit → Go.Act → World → Prop} {a : Go.Act}
    (hg : a.eval g = .func (.func 52) #[] #[.pointer (some ⟨tb, 0, none⟩), .pointer (some ⟨ob, 0, none⟩)])
    (he : Eb w0) (ht : Tb w0) (hf : Fix L tips tb ob m nn A ct w) (hC : ∀ k, Still tips tb ob m A k → ¬ C0 k)
    (hL : L.length ≤ 2000) (hT : tips.length ≤ 1000) (hd : ∀ x ∈ L, x.id.length ≤ 10000 ∧ x.data.length ≤ 10000) (hs : ∀ x ∈ tips, x.length ≤ 10000)
    (I : List Bs → (Nat → Prop) → World → Prop) (Ix : (Nat → Prop) → World → Prop)
    (hst : ∀ pre C W W', I pre C W → But (fun k => w.heap.size ≤ k ∧ ¬ C k) W W' → I pre C W') (hstx : ∀ C W W', Ix C W → But (fun k => w.heap.size ≤ k ∧ ¬ C k) W W' → Ix C W')
    (hlt : ∀ pre C W, I pre C W → ∀ k, C k → k < W.heap.size) (hbl : ∀ pre C W, I pre C W → Below w0.heap.size w0 W) (h0 : I [] C0 w)
    (fr : Value → Value → Go.Act)
    (hassign : ∀ (l : Nat) (x : Bs) (t : Bool) (B : Option Addr) (n c : Nat) (W : World) (K : Go.Act → World → Prop), K (fr (.agg #[.string ⟨x.toArray⟩, .bool t, .slice B n c]) (.pointer (some ⟨W.heap.size, 0, none⟩))) (W.alloc (.cells #[.string ⟨x.toArray⟩, .bool t, .slice B n c] 67)) →
      assign.wpIn (Fence.wide.inRound l) 5 Tryz.prog (Exit.then K (fun _ _ _ => False)) { tmps := a.tmps.setIfInBounds p (.agg #[.string ⟨x.toArray⟩, .bool t, .slice B n c]), defers := [] } W)
    (hbody : ∀ (l : Nat) (pre : List Bs) (x : Bs) (B : Option Addr) (c b : Nat) (C : Nat → Prop) (W : World), I pre C W → ¬ C b → Reach (wfL L) tips x → pre.length ≤ 1000000 → x.length ≤ 1000000 → W.heap[b]? = some (.cells #[.string ⟨x.toArray⟩, .bool (thB L x), .slice B (wfL L x).length c] 67 (0, 0)) → WantsR W (.slice B (wfL L x).length c) (wfL L x) →
      body.wpIn (Fence.wide.inRound l) 5 Tryz.prog (bpost I Ix (pre ++ [x]) C W) (fr (.agg #[.string ⟨x.toArray⟩, .bool (thB L x), .slice B (wfL L x).length c]) (.pointer (some ⟨b, 0, none⟩))) W)
    (hdone : ∀ (D : Nat) (row : List Bs) (C : Nat → Prop) (W : World), w.heap.size ≤ D → ¬ C D → RowI (wfL L) tips row row.length → I row C W → W.heap[D]? = some (.deferred (some [])) → Q .normal { a with defers := { target := .collected D, args := #[] } :: a.defers } W)
    (hstop : ∀ (D : Nat) (C : Nat → Prop) (W : World), w.heap.size ≤ D → ¬ C D → Ix C W → W.heap[D]? = some (.deferred (some [])) → Code.ret.wp Tryz.prog Q { a with defers := { target := .collected D, args := #[] } :: a.defers } W) :
    (Code.rangeFunc g #[p] assign body).wp Tryz.prog Q a w := by
  refine (wpIn_wide (n := 7)).1 (wpIn_rangeFunc fun fn hfn => ?_)
  obtain ⟨rec, hrec⟩ : ∃ rec : LoopState → Option Code → Loop, rec = fun st pe => { state := st, pending := pe, fn, tmps := a.tmps, params := #[p], assign, body, defers := w.heap.size } := ⟨_, rfl⟩
  obtain ⟨l, hl⟩ : ∃ l, l = w.heap.size + 1 := ⟨_, rfl⟩
  obtain ⟨W1, hW1⟩ : ∃ W1, W1 = (w.alloc (.deferred (some []))).alloc (.loop (rec .ready none)) := ⟨_, rfl⟩
  have hz1 : W1.heap.size = l + 1 := by rw [hW1, hl]; simp
  have hbW : Below w.heap.size w W1 := by rw [hW1]; exact (below_new w _).alloc (by simp) _
  have hL1 : W1.heap[l]? = some (.loop (rec .ready none)) := by
    rw [hW1, hl]; have := World.alloc_heap_new (w.alloc (.deferred (some []))) (.loop (rec .ready none)); rwa [World.size_alloc] at this
  have hD1 : W1.heap[w.heap.size]? = some (.deferred (some [])) := by
    rw [hW1]; exact (Below.heap_alloc _ _ _ (by simp)).trans (World.alloc_heap_new w _)
  have hC0 : ∀ k, C0 k → k < w.heap.size := fun k hk => hlt _ _ _ h0 k hk
  -- what the iterator is told of the loop
  refine ⟨l, [{ target := .collected w.heap.size, args := #[] }], W1, { target := .fn (.func 52) #[.pointer (some ⟨tb, 0, none⟩), .pointer (some ⟨ob, 0, none⟩)], args := #[.func (.yield l) #[] #[]] }, W1, 52,
    #[.func (.yield l) #[] #[], .pointer (some ⟨tb, 0, none⟩), .pointer (some ⟨ob, 0, none⟩)], W1, ?_, ?_, fun _ _ => trivial, ?_, fun _ => by omega, callsIn_wide.2 ?_⟩
  · rw [hW1, hrec, hl]; exact run_enterLoop_outer _ _ _ _ _
  · simp only [resolve, hg]
    simp [go_sem]
  · simp [invoke, go_sem]
  have hrd : Rnd L tips l w0 W1.heap.size
      (fun pre C' W => ∃ C, (∀ k, C' k ↔ C k ∨ k = l) ∧ I pre C W ∧ W.heap[l]? = some (.loop (rec .ready none)) ∧ W.heap[w.heap.size]? = some (.deferred (some [])) ∧ ¬ C l ∧ ¬ C w.heap.size)
      (fun W => ∃ C, Ix C W ∧ W.heap[l]? = some (.loop (rec .done (some .ret))) ∧ W.heap[w.heap.size]? = some (.deferred (some [])) ∧ ¬ C l ∧ ¬ C w.heap.size) := by
    refine ⟨?_, ?_, ?_, ?_⟩
    · rintro pre C' W W' ⟨C, h1, h2, h3, h4, h5, h6⟩ hb
      have hlW := lt_heap h3
      have hDW := lt_heap h4
      refine ⟨C, h1, hst _ _ _ _ h2 (hb.mono fun k _ hk => ⟨by omega, fun hc => hk.2 ((h1 k).2 (.inl hc))⟩), (hb.block l hlW (fun hk => by omega)).trans h3, (hb.block _ hDW (fun hk => by omega)).trans h4, h5, h6⟩
    · rintro pre C' W ⟨C, h1, h2, h3, _⟩ k hk
      rcases (h1 k).1 hk with hk | rfl
      · exact hlt _ _ _ h2 k hk
      · exact lt_heap h3
    · rintro pre C' W ⟨C, h1, h2, _⟩
      exact hbl _ _ _ h2
    · rintro pre x B c C' W ⟨C, h1, h2, h3, h4, h5, h6⟩ hre hpl hx hw
      have hlW := lt_heap h3
      have hDW := lt_heap h4
      have hy : (Instr.yield l #[metV L x (.slice B (wfL L x).length c)]).run Tryz.prog W = .ok (.round l fn (a.tmps.setIfInBounds p (metV L x (.slice B (wfL L x).length c))) assign body) W := by
        have := run_yield (P := Tryz.prog) (args := #[metV L x (.slice B (wfL L x).length c)]) h3 (by rw [hrec]; rfl)
        rw [hrec] at this
        simpa using this
      refine ⟨fn, _, assign, body, hy, roundIn_of_wpIn hfn ?_⟩
      refine hassign l x (thB L x) B _ c W _ ?_
      obtain ⟨Wa, hWa⟩ : ∃ Wa, Wa = W.alloc (.cells #[.string ⟨x.toArray⟩, .bool (thB L x), .slice B (wfL L x).length c] 67) := ⟨_, rfl⟩
      rw [← hWa]
      have hba : Below W.heap.size W Wa := by rw [hWa]; exact below_new W _
      have hka : Wa.heap[W.heap.size]? = some (.cells #[.string ⟨x.toArray⟩, .bool (thB L x), .slice B (wfL L x).length c] 67 (0, 0)) := by rw [hWa]; exact heap_alloc_new W _
      have hla : Wa.heap[l]? = some (.loop (rec .ready none)) := (hba.block l hlW).trans h3
      have hDa : Wa.heap[w.heap.size]? = some (.deferred (some [])) := (hba.block _ hDW).trans h4
      have hbr := run_beginRound (P := Tryz.prog) hla (by rw [hrec])
      obtain ⟨Wb, hWb⟩ : ∃ Wb, Wb = Wa.putObj l (.loop { rec .ready none with state := .busy }) := ⟨_, rfl⟩
      refine ⟨Wb, by rw [hWb]; exact hbr, ?_⟩
      have hbb : But (fun k => k = l) Wa Wb := by rw [hWb]; exact but_putObj Wa l _ rfl
      have hbab : But (fun k => k = l) W Wb := (But.of_new hba).trans hbb
      have hlb : Wb.heap[l]? = some (.loop { rec .ready none with state := .busy }) := by rw [hWb]; exact World.putObj_heap_same (lt_heap hla)
      have hDb : Wb.heap[w.heap.size]? = some (.deferred (some [])) := (hbb.block _ (lt_heap hDa) (by omega)).trans hDa
      have hkb : Wb.heap[W.heap.size]? = some (.cells #[.string ⟨x.toArray⟩, .bool (thB L x), .slice B (wfL L x).length c] 67 (0, 0)) := (hbb.block _ (lt_heap hka) (by omega)).trans hka
      have hIb : I pre C Wb := hst _ _ _ _ h2 (hbab.mono fun k _ hk => ⟨by omega, by rw [hk]; exact h5⟩)
      have hwb : WantsR Wb (.slice B (wfL L x).length c) (wfL L x) := by
        refine RdK.but2 (hw.below hba (Nat.le_refl _)) hbb fun h7 gg hgg e => ?_
        rcases hw with ⟨_, h8⟩ | ⟨g9, o9, c9, h8, _, hg9, hcell⟩
        · rw [h8] at h7; simp at h7
        · cases h8
          cases hgg
          have h10 := hcell 0 h7 _ (List.getElem?_eq_getElem h7) 0 (by omega)
          rw [show g9 = l from e] at h10
          simp [World.cell?, h3, wantV] at h10
      refine wpIn_mono (hbody l pre x B c W.heap.size C Wb hIb (fun hc => by have := hlt _ _ _ h2 _ hc; omega) hre hpl hx hkb hwb) ?_
      have fin : ∀ (jump : Option Code) (W3 : World), But C Wb W3 →
          (Instr.endRound l jump).run Tryz.prog W3 = .ok (.bool jump.isNone) (W3.putObj l (.loop (rec (if jump.isNone then .ready else .done) jump))) ∧
          (W3.putObj l (.loop (rec (if jump.isNone then .ready else .done) jump))).heap[l]? = some (.loop (rec (if jump.isNone then .ready else .done) jump)) ∧
          (W3.putObj l (.loop (rec (if jump.isNone then .ready else .done) jump))).heap[w.heap.size]? = some (.deferred (some [])) := fun jump W3 h => by
        have hl3 := (h.block l (lt_heap hlb) h5).trans hlb
        have := run_endRound (P := Tryz.prog) jump hl3
        rw [hrec] at this ⊢
        exact ⟨this, World.putObj_heap_same (lt_heap hl3), (World.putObj_heap_other (by omega)).trans ((h.block _ (lt_heap hDb) h6).trans hDb)⟩
      rintro e a3 W3 hp
      cases e with
      | normal =>
        obtain ⟨C2, hi3, hb3, hc3⟩ := hp
        obtain ⟨hr, hl4, hk4⟩ := fin none W3 hb3
        have hn2 : ∀ k, k < Wb.heap.size → ¬ C k → ¬ C2 k := fun k hk hn hc => (hc3 k hc).elim hn (fun h => by omega)
        have hl5 := hn2 l (lt_heap hlb) h5
        have hD5 := hn2 _ (lt_heap hDb) h6
        have hbe : But (fun k => k = l) W3 (W3.putObj l (.loop (rec (if (none : Option Code).isNone then .ready else .done) none))) := but_putObj W3 l _ rfl
        refine ⟨_, _, hr, .inl ⟨rfl, fun k => C2 k ∨ k = l, ⟨C2, fun k => Iff.rfl, hst _ _ _ _ hi3 (hbe.mono fun k _ hk => ⟨by omega, by rw [hk]; exact hl5⟩), hl4, hk4, hl5, hD5⟩, ?_, ?_⟩⟩
        · exact ((hbab.mono fun k _ hk => (h1 k).2 (.inr hk)).trans (hb3.mono fun k _ hk => (h1 k).2 (.inl hk))).trans (hbe.mono fun k _ hk => (h1 k).2 (.inr hk))
        · rintro k (hk | hk)
          · rcases hc3 k hk with h | h
            · exact .inl ((h1 k).2 (.inl h))
            · exact .inr (Nat.le_trans hbab.size h)
          · exact .inl ((h1 k).2 (.inr hk))
      | ret =>
        obtain ⟨C2, hi3, hb3, hc3⟩ := hp
        obtain ⟨hr, hl4, hk4⟩ := fin (some .ret) W3 hb3
        have hn2 : ∀ k, k < Wb.heap.size → ¬ C k → ¬ C2 k := fun k hk hn hc => (hc3 k hc).elim hn (fun h => by omega)
        have hl5 := hn2 l (lt_heap hlb) h5
        have hbe : But (fun k => k = l) W3 (W3.putObj l (.loop (rec (if (some Code.ret).isNone then .ready else .done) (some .ret)))) := but_putObj W3 l _ rfl
        exact ⟨_, _, hr, .inr ⟨rfl, C2, hstx _ _ _ hi3 (hbe.mono fun k _ hk => ⟨by omega, by rw [hk]; exact hl5⟩), hl4, hk4, hl5, hn2 _ (lt_heap hDb) h6⟩⟩
      | exit id => exact hp.elim
      | goto t => exact hp.elim
      | panic ch => exact hp.elim
      | outgrown => exact hp.elim
  refine (seq_any (C0 := fun k => C0 k ∨ k = l) hrd he ht (hf.but (But.of_new (S := fun _ => False) hbW) (fun _ _ h => h)) ⟨C0, fun k => Iff.rfl, hst _ _ _ _ h0 (But.of_new hbW), hL1, hD1, fun h => by have := hC0 _ h; omega, fun h => by have := hC0 _ h; omega⟩ (fun k hk hc => hc.elim (hC k hk) (fun e => by have := hf.lt k hk; omega)) hL hT hd hs).mono ?_
  rintro e W2 ⟨⟨v, rfl⟩, ⟨row, C', hrow, C, h1, h2, h3, h4, h5, h6⟩ | ⟨C, h2, h3, h4, h5, h6⟩⟩
  · have hbe : But (fun k => k = l) W2 (W2.putObj l (.loop { rec .ready none with state := .exhausted })) := but_putObj W2 l _ rfl
    refine ⟨none, W2.putObj l (.loop { rec .ready none with state := .exhausted }), by have := run_endLoop (P := Tryz.prog) h3 (by rw [hrec]; simp); rw [hrec] at this ⊢; exact this, ?_⟩
    exact hdone w.heap.size row C _ (Nat.le_refl _) h6 hrow (hst _ _ _ _ h2 (hbe.mono fun k _ hk => ⟨by omega, by rw [hk]; exact h5⟩)) ((World.putObj_heap_other (by omega)).trans h4)
  · have hbe : But (fun k => k = l) W2 (W2.putObj l (.loop { rec .done (some .ret) with state := .exhausted })) := but_putObj W2 l _ rfl
    refine ⟨some .ret, W2.putObj l (.loop { rec .done (some .ret) with state := .exhausted }), by have := run_endLoop (P := Tryz.prog) h3 (by rw [hrec]; simp); rw [hrec] at this ⊢; exact this, ?_⟩
    exact wpIn_wide.2 (hstop w.heap.size C _ (Nat.le_refl _) h6 (hstx _ _ _ h2 (hbe.mono fun k _ hk => ⟨by omega, by rw [hk]; exact h5⟩)) ((World.putObj_heap_other (by omega)).trans h4))
end Go.Proofs.YtngphfogomchfaaGreatDoor
