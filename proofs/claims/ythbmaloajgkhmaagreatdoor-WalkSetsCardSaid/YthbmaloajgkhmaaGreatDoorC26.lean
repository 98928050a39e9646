/-
  Find, Pick.
  A range over the names that are gone after: the loop, out of its body.
  Closure.
  Sound.
-/
import Derived.Test.YthbmaloajgkhmaaGreatDoorC15
import Derived.Test.YthbmaloajgkhmaaGreatDoorC09
import Derived.Test.YthbmaloajgkhmaaGreatDoorC25
import Derived.Test.YthbmaloajgkhmaaGreatDoorC05

namespace Go.Proofs.YthbmaloajgkhmaaGreatDoor
open Go Go.RowKit Go.Maps
theorem pred_any (x : Hld) (sb : Nat) (s : Bs) (b : Bool) (hb : (x.id == s) = b) (W : World) (hs : W.cell? ⟨sb, 0, none⟩ = some (.string ⟨s.toArray⟩)) :
    Calls Tryz.prog 24 #[.agg #[.string ⟨x.id.toArray⟩, .int .i64 x.kind, .string ⟨x.data.toArray⟩], .pointer (some ⟨sb, 0, none⟩)] W (RetBelow (.bool b) W) := by
  have hlt := World.block_lt_of_cell? W _ hs
  have hne : ¬ sb = W.heap.size := by simp only at hlt; omega
  obtain ⟨xi, xk, xd⟩ := x
  simp only at hb ⊢
  have h1 : (W.alloc (.cells #[.string ⟨xi.toArray⟩, .int .i64 xk, .string ⟨xd.toArray⟩] 35)).cell? ⟨sb, 0, none⟩ = some (.string ⟨s.toArray⟩) := cell_to hs (below_new W _)
  have hb2 : (xi == s) = b := hb
  clear hs hb hlt
  cases b with
  | true =>
    have e : xi = s := by simpa using hb2
    subst e
    clear hb2
    go_enter Tryz.func24, Tryz.ntmps24
    go_wp2_with fail
    go_ret
    exact ⟨by simp, below_new W _⟩
  | false =>
    have e : ¬ xi = s := by simpa using hb2
    go_enter Tryz.func24, Tryz.ntmps24
    go_wp2_with fail
    go_ret
    exact ⟨by simp, below_new W _⟩
/-- Where the first of a name stands. -/
def IdxPost (l : List Hld) (s : Bs) (w : World) (e : Ending) (w' : World) : Prop :=
  Below w.heap.size w w' ∧ ((e = .returned (.int .i64 (-1)) ∧ findL l s = none) ∨ ∃ i : Nat, e = .returned (.int .i64 i) ∧ i < l.length ∧ findL l s = some (l.getD i noHld))
set_option maxHeartbeats 4000000 in
set_option maxRecDepth 100000 in
theorem idx_any {w : World} {A : Option Addr} {c sb : Nat} {l : List Hld} (h : HldsR w (.slice A l.length c) l) (hl : l.length ≤ 1000000) (s : Bs) (hs : w.cell? ⟨sb, 0, none⟩ = some (.string ⟨s.toArray⟩)) :
    Calls Tryz.prog 23 #[.slice A l.length c, .func (.func 24) #[] #[.pointer (some ⟨sb, 0, none⟩)]] w (IdxPost l s w) := by
  have Hx := Lib.hid h; have Hs := Lib.hid hs; clear h hs
  go_enter Tryz.func23, Tryz.ntmps23
  go_wp2_with fail
  go_loopw [8] (fun i wr => Hid (Below w.heap.size w wr) ∧ ∃ k : Nat, k ≤ l.length ∧ i = .int .i64 k ∧ Hid (findL (l.take k) s = none)) (fun i _ => l.length - (intOf i).toNat)
  case atStart => exact ⟨Lib.hid (Below.refl _ _), 0, Nat.zero_le _, rfl, Lib.hid rfl⟩
  case round =>
    obtain ⟨hB, k, hk, rfl, hno⟩ := hrel
    by_cases hlt : k < l.length
    · obtain ⟨g, o, c', e, _, hg⟩ := Hx.out.pos (by omega)
      cases e
      obtain ⟨p0, p1, p2⟩ := HldsR.cells (Hx.out.below hB.out (Nat.le_refl _)) k hlt
      have hsn := findL_snoc (x := s) hlt
      rw [hno.out] at hsn
      have HX : Hid (l.getD k noHld = l.getD k noHld) := Lib.hid rfl
      obtain ⟨x, hx⟩ : ∃ x, x = l.getD k noHld := ⟨_, rfl⟩
      rw [← hx] at p0 p1 p2 hsn
      have HXe := Lib.hid hx
      have HP := fun b hb => Lib.hid (pred_any x sb s b hb wr (cell_to Hs.out hB.out))
      obtain ⟨xi, xk, xd⟩ := x
      unfold SV at p0 p2
      simp only at p0 p1 p2 hsn HP
      clear hx HX
      by_cases e : xi = s
      · have hp := HP true (by simpa using e)
        have HF : Hid (findL l s = some (l.getD k noHld)) := Lib.hid (by rw [← HXe.out]; exact findL_hit (by rw [hsn, if_pos e]; rfl))
        clear HP hsn e
        go_wp2_with fail
        refine hp.out.mono ?_
        rintro e w2 ⟨rfl, hb2⟩
        have HB := Lib.hid (hB.out.trans (hb2.mono hB.out.size))
        clear hb2 p0 p1 p2
        go_wp2_with fail
        go_ret
        exact ⟨HB.out, .inr ⟨k, rfl, hlt, HF.out⟩⟩
      · have hp := HP false (by simpa using e)
        have HF : Hid (findL (l.take (k + 1)) s = none) := Lib.hid (by rw [hsn, if_neg e]; rfl)
        clear HP hsn e
        go_wp2_with fail
        refine hp.out.mono ?_
        rintro e w2 ⟨rfl, hb2⟩
        have HB := Lib.hid (hB.out.trans (hb2.mono hB.out.size))
        clear hb2 p0 p1 p2
        go_wp2_with fail
        go_roundw
        case rel => exact ⟨HB, k + 1, hlt, by go_num, HF⟩
        case measure => simp [intOf]; omega
    · obtain rfl : k = l.length := by omega
      rw [List.take_length] at hno
      go_wp2_with fail
      go_ret
      exact ⟨hB.out, .inl ⟨rfl, hno.out⟩⟩
set_option maxHeartbeats 4000000 in
set_option maxRecDepth 100000 in
theorem Find_any {w : World} {v : Value} {l : List Hld} (h : HldsR w v l) (hl : l.length ≤ 1000000) (s : Bs) : Calls Tryz.prog 12 #[v, .string ⟨s.toArray⟩] w (RetBelow (findV l s) w) := by
  obtain ⟨A, c, rfl⟩ := h.shape
  obtain ⟨w1, hw1⟩ : ∃ w1, w1 = (w.alloc (.cells #[.string ⟨s.toArray⟩] 9)).alloc (.cells #[.int .i64 0, .string ⟨#[]⟩] 26) := ⟨_, rfl⟩
  have hb1 : Below w.heap.size w w1 := by rw [hw1]; exact (below_new w _).alloc (by simp) _
  have hk0 : w1.heap[w.heap.size]? = some (.cells #[.string ⟨s.toArray⟩] 9 (0, 0)) := by
    rw [hw1, Below.heap_alloc _ _ _ (by simp)]; exact heap_alloc_new w _
  have hk1 : w1.heap[w.heap.size + 1]? = some (.cells #[.int .i64 0, .string ⟨#[]⟩] 26 (0, 0)) := by
    rw [hw1]
    have := heap_alloc_new (w.alloc (.cells #[.string ⟨s.toArray⟩] 9)) (.cells #[.int .i64 0, .string ⟨#[]⟩] 26)
    simpa using this
  have HI := Lib.hid (idx_any (sb := w.heap.size) (h.below hb1 (Nat.le_refl _)) hl s ((cell_of_row w1 _ 0 _ _ _ hk0).trans rfl))
  have HW1 := Lib.hid hw1; have HB1 := Lib.hid hb1; have HK1 := Lib.hid hk1; have Hx := Lib.hid h
  clear h hw1 hb1 hk0 hk1
  go_enter Tryz.func12, Tryz.ntmps12
  go_wp2_with fail
  rw [← HW1.out]
  refine HI.out.mono ?_
  rintro e w2 ⟨hb2, hr⟩
  have hk2 := (hb2.block _ (lt_heap HK1.out)).trans HK1.out
  have hB2 := HB1.out.trans (hb2.mono HB1.out.size)
  have z0 : w2.cell? ⟨w.heap.size + 1, 0, none⟩ = some (.int .i64 0) := (cell_of_row w2 _ 0 _ _ _ hk2).trans rfl
  have z1 : w2.cell? ⟨w.heap.size + 1, 1, none⟩ = some (.string ⟨#[]⟩) := (cell_of_row w2 _ 1 _ _ _ hk2).trans rfl
  have f0 := frozen_of (i := 0) hk2
  have f1 := frozen_of (i := 1) hk2
  have HB2 := Lib.hid hB2
  rcases hr with ⟨rfl, hf⟩ | ⟨i, rfl, hlt, hf⟩
  · have HV : Hid (findV l s = .tuple #[.agg #[.int .i64 0, .string ⟨#[]⟩], .bool false]) := Lib.hid (by unfold findV thB; rw [hf]; rfl)
    clear hf hb2 hk2 hB2
    go_wp2_with fail
    rw [HV.out]
    exact bodyPost_ret (v := .tuple #[.agg #[.int .i64 0, .string ⟨#[]⟩], .bool false]) (by simp [results, Tryz.results12, go_sem, z0, z1]) rfl ⟨rfl, (HB2.out.setCell (p := ⟨w.heap.size + 1, 0, none⟩) (Nat.le_succ _) _).setCell (p := ⟨w.heap.size + 1, 1, none⟩) (Nat.le_succ _) _⟩
  · obtain ⟨g, o, c', e, _, hg⟩ := Hx.out.pos (by omega)
    cases e
    obtain ⟨p0, p1, p2⟩ := HldsR.cells (Hx.out.below hB2 (Nat.le_refl _)) i hlt
    have HV : Hid (findV l s = .tuple #[.agg #[.int .i64 (l.getD i noHld).kind, .string ⟨(l.getD i noHld).data.toArray⟩], .bool true]) := Lib.hid (by unfold findV thB; rw [hf]; rfl)
    obtain ⟨x, hx⟩ : ∃ x, x = l.getD i noHld := ⟨_, rfl⟩
    rw [← hx] at p0 p1 p2 HV
    obtain ⟨xi, xk, xd⟩ := x
    unfold SV at p0 p2
    simp only at p0 p1 p2 HV
    have hne : ¬ g = w.heap.size + 1 := by omega
    clear hf hb2 hk2 hB2 hx p0
    go_wp2_with fail
    rw [HV.out]
    exact bodyPost_ret (v := .tuple #[.agg #[.int .i64 xk, .string ⟨xd.toArray⟩], .bool true]) (by simp [results, Tryz.results12, go_sem, z0, z1]) rfl ⟨rfl, (HB2.out.setCell (p := ⟨w.heap.size + 1, 0, none⟩) (Nat.le_succ _) _).setCell (p := ⟨w.heap.size + 1, 1, none⟩) (Nat.le_succ _) _⟩
end Go.Proofs.YthbmaloajgkhmaaGreatDoor


namespace Go.Proofs.YthbmaloajgkhmaaGreatDoor
open Go Go.RowKit Go.Maps Go.Shelf
/-- How a round's body may be left. -/
def bpost (I : List Bs → (Nat → Prop) → World → Prop) (Ix : (Nat → Prop) → World → Prop) (pre : List Bs) (C : Nat → Prop) (W : World) : Exit → Go.Act → World → Prop
  | .normal, _, W' => ∃ C', I pre C' W' ∧ But C W W' ∧ ∀ k, C' k → C k ∨ W.heap.size ≤ k
  | .ret, _, W' => ∃ C', Ix C' W' ∧ But C W W' ∧ ∀ k, C' k → C k ∨ W.heap.size ≤ k
  | _, _, _ => False
theorem below_put {w : World} {b : Nat} (W : World) (h : Below b w W) {l : Nat} (hl : b ≤ l) (o : Obj) : Below b w (W.putObj l o) :=
  h.trans ⟨rfl, rfl, rfl, by simp, fun k hk => World.putObj_heap_other (by omega)⟩
/-- The range. -/
theorem range_after {L : List Hld} {tips : List Bs} {tb ob m nn : Nat} {A : Option Addr} {ct : Nat} {w w0 : World} {C0 : Nat → Prop} {g : Operand} {p : Tmp} {assign body : Code} {Q : Exit → Go.Act → World → Prop} {a : Go.Act}
    (hg : a.eval g = .func (.func 49) #[] #[.pointer (some ⟨tb, 0, none⟩), .pointer (some ⟨ob, 0, none⟩)])
    (he : Eb w0) (ht : Tb w0) (hf : Fix L tips tb ob m nn A ct w) (hC : ∀ k, Still tips tb ob m A k → ¬ C0 k)
    (hL : L.length ≤ 2000) (hT : tips.length ≤ 1000) (hd : ∀ x ∈ L, x.id.length ≤ 10000 ∧ x.data.length ≤ 10000) (hs : ∀ x ∈ tips, x.length ≤ 10000)
    (I : List Bs → (Nat → Prop) → World → Prop) (Ix : (Nat → Prop) → World → Prop)
    (hst : ∀ pre C W W', I pre C W → But (fun k => w.heap.size ≤ k ∧ ¬ C k) W W' → I pre C W') (hstx : ∀ C W W', Ix C W → But (fun k => w.heap.size ≤ k ∧ ¬ C k) W W' → Ix C W')
    (hlt : ∀ pre C W, I pre C W → ∀ k, C k → k < W.heap.size) (hbl : ∀ pre C W, I pre C W → Below w0.heap.size w0 W) (h0 : I [] C0 w)
    (fr : Value → Value → Go.Act)
    (hassign : ∀ (l : Nat) (x : Bs) (t : Bool) (B : Option Addr) (n c : Nat) (W : World) (K : Go.Act → World → Prop), K (fr (.agg #[.string ⟨x.toArray⟩, .bool t, .slice B n c]) (.pointer (some ⟨W.heap.size, 0, none⟩))) (W.alloc (.cells #[.string ⟨x.toArray⟩, .bool t, .slice B n c] 67)) →
      assign.wpIn (Fence.wide.inRound l) 5 Tryz.prog (Exit.then K (fun _ _ _ => False)) { tmps := a.tmps.setIfInBounds p (.agg #[.string ⟨x.toArray⟩, .bool t, .slice B n c]), defers := [] } W)
    (hbody : ∀ (l : Nat) (pre : List Bs) (x : Bs) (B : Option Addr) (c b : Nat) (C : Nat → Prop) (W : World), I pre C W → ¬ C b → Reach (wfL L) tips x → pre.length ≤ 1000000 → x.length ≤ 1000000 → W.heap[b]? = some (.cells #[.string ⟨x.toArray⟩, .bool (thB L x), .slice B (wfL L x).length c] 67 (0, 0)) → WantsR W (.slice B (wfL L x).length c) (wfL L x) →
      body.wpIn (Fence.wide.inRound l) 5 Tryz.prog (bpost I Ix (pre ++ [x]) C W) (fr (.agg #[.string ⟨x.toArray⟩, .bool (thB L x), .slice B (wfL L x).length c]) (.pointer (some ⟨b, 0, none⟩))) W)
    (hdone : ∀ (D : Nat) (row : List Bs) (C : Nat → Prop) (W : World), w.heap.size ≤ D → ¬ C D → RowI (wfL L) tips row row.length → I row C W → W.heap[D]? = some (.deferred (some [])) → Q .normal { a with defers := { target := .collected D, args := #[] } :: a.defers } W)
    (hstop : ∀ (D : Nat) (C : Nat → Prop) (W : World), w.heap.size ≤ D → ¬ C D → Ix C W → W.heap[D]? = some (.deferred (some [])) → Code.ret.wp Tryz.prog Q { a with defers := { target := .collected D, args := #[] } :: a.defers } W) :
    (Code.rangeFunc g #[p] assign body).wp Tryz.prog Q a w := by
  refine (wpIn_wide (n := 7)).1 (wpIn_rangeFunc fun fn hfn => ?_)
  obtain ⟨rec, hrec⟩ : ∃ rec : LoopState → Option Code → Loop, rec = fun st pe => { state := st, pending := pe, fn, tmps := a.tmps, params := #[p], assign, body, defers := w.heap.size } := ⟨_, rfl⟩
  obtain ⟨l, hl⟩ : ∃ l, l = w.heap.size + 1 := ⟨_, rfl⟩
  obtain ⟨W1, hW1⟩ : ∃ W1, W1 = (w.alloc (.deferred (some []))).alloc (.loop (rec .ready none)) := ⟨_, rfl⟩
  have hz1 : W1.heap.size = l + 1 := by rw [hW1, hl]; simp
  have hbW : Below w.heap.size w W1 := by rw [hW1]; exact (below_new w _).alloc (by simp) _
  have hL1 : W1.heap[l]? = some (.loop (rec .ready none)) := by
    rw [hW1, hl]; have := World.alloc_heap_new (w.alloc (.deferred (some []))) (.loop (rec .ready none)); rwa [World.size_alloc] at this
  have hD1 : W1.heap[w.heap.size]? = some (.deferred (some [])) := by
    rw [hW1]; exact (Below.heap_alloc _ _ _ (by simp)).trans (World.alloc_heap_new w _)
  have hC0 : ∀ k, C0 k → k < w.heap.size := fun k hk => hlt _ _ _ h0 k hk
  -- what the iterator is told of the loop
  refine ⟨l, [{ target := .collected w.heap.size, args := #[] }], W1, { target := .fn (.func 49) #[.pointer (some ⟨tb, 0, none⟩), .pointer (some ⟨ob, 0, none⟩)], args := #[.func (.yield l) #[] #[]] }, W1, 49,
    #[.func (.yield l) #[] #[], .pointer (some ⟨tb, 0, none⟩), .pointer (some ⟨ob, 0, none⟩)], W1, ?_, ?_, fun _ _ => trivial, ?_, fun _ => by omega, callsIn_wide.2 ?_⟩
  · rw [hW1, hrec, hl]; exact run_enterLoop_outer _ _ _ _ _
  · simp only [resolve, hg]
    simp [go_sem]
  · simp [invoke, go_sem]
  have hrd : Rnd L tips l w0 W1.heap.size
      (fun pre C' W => ∃ C, (∀ k, C' k ↔ C k ∨ k = l) ∧ I pre C W ∧ W.heap[l]? = some (.loop (rec .ready none)) ∧ W.heap[w.heap.size]? = some (.deferred (some [])) ∧ ¬ C l ∧ ¬ C w.heap.size)
      (fun W => ∃ C, Ix C W ∧ W.heap[l]? = some (.loop (rec .done (some .ret))) ∧ W.heap[w.heap.size]? = some (.deferred (some [])) ∧ ¬ C l ∧ ¬ C w.heap.size) := by
    refine ⟨?_, ?_, ?_, ?_⟩
    · rintro pre C' W W' ⟨C, h1, h2, h3, h4, h5, h6⟩ hb
      have hlW := lt_heap h3
      have hDW := lt_heap h4
      refine ⟨C, h1, hst _ _ _ _ h2 (hb.mono fun k _ hk => ⟨by omega, fun hc => hk.2 ((h1 k).2 (.inl hc))⟩), (hb.block l hlW (fun hk => by omega)).trans h3, (hb.block _ hDW (fun hk => by omega)).trans h4, h5, h6⟩
    · rintro pre C' W ⟨C, h1, h2, h3, _⟩ k hk
      rcases (h1 k).1 hk with hk | rfl
      · exact hlt _ _ _ h2 k hk
      · exact lt_heap h3
    · rintro pre C' W ⟨C, h1, h2, _⟩
      exact hbl _ _ _ h2
    · rintro pre x B c C' W ⟨C, h1, h2, h3, h4, h5, h6⟩ hre hpl hx hw
      have hlW := lt_heap h3
      have hDW := lt_heap h4
      have hy : (Instr.yield l #[metV L x (.slice B (wfL L x).length c)]).run Tryz.prog W = .ok (.round l fn (a.tmps.setIfInBounds p (metV L x (.slice B (wfL L x).length c))) assign body) W := by
        have := run_yield (P := Tryz.prog) (args := #[metV L x (.slice B (wfL L x).length c)]) h3 (by rw [hrec]; rfl)
        rw [hrec] at this
        simpa using this
      refine ⟨fn, _, assign, body, hy, roundIn_of_wpIn hfn ?_⟩
      refine hassign l x (thB L x) B _ c W _ ?_
      obtain ⟨Wa, hWa⟩ : ∃ Wa, Wa = W.alloc (.cells #[.string ⟨x.toArray⟩, .bool (thB L x), .slice B (wfL L x).length c] 67) := ⟨_, rfl⟩
      rw [← hWa]
      have hba : Below W.heap.size W Wa := by rw [hWa]; exact below_new W _
      have hka : Wa.heap[W.heap.size]? = some (.cells #[.string ⟨x.toArray⟩, .bool (thB L x), .slice B (wfL L x).length c] 67 (0, 0)) := by rw [hWa]; exact heap_alloc_new W _
      have hla : Wa.heap[l]? = some (.loop (rec .ready none)) := (hba.block l hlW).trans h3
      have hDa : Wa.heap[w.heap.size]? = some (.deferred (some [])) := (hba.block _ hDW).trans h4
      have hbr := run_beginRound (P := Tryz.prog) hla (by rw [hrec])
      obtain ⟨Wb, hWb⟩ : ∃ Wb, Wb = Wa.putObj l (.loop { rec .ready none with state := .busy }) := ⟨_, rfl⟩
      refine ⟨Wb, by rw [hWb]; exact hbr, ?_⟩
      have hbb : But (fun k => k = l) Wa Wb := by rw [hWb]; exact but_putObj Wa l _ rfl
      have hbab : But (fun k => k = l) W Wb := (But.of_new hba).trans hbb
      have hlb : Wb.heap[l]? = some (.loop { rec .ready none with state := .busy }) := by rw [hWb]; exact World.putObj_heap_same (lt_heap hla)
      have hDb : Wb.heap[w.heap.size]? = some (.deferred (some [])) := (hbb.block _ (lt_heap hDa) (by omega)).trans hDa
      have hkb : Wb.heap[W.heap.size]? = some (.cells #[.string ⟨x.toArray⟩, .bool (thB L x), .slice B (wfL L x).length c] 67 (0, 0)) := (hbb.block _ (lt_heap hka) (by omega)).trans hka
      have hIb : I pre C Wb := hst _ _ _ _ h2 (hbab.mono fun k _ hk => ⟨by omega, by rw [hk]; exact h5⟩)
      have hwb : WantsR Wb (.slice B (wfL L x).length c) (wfL L x) := by
        refine RdK.but2 (hw.below hba (Nat.le_refl _)) hbb fun h7 gg hgg e => ?_
        rcases hw with ⟨_, h8⟩ | ⟨g9, o9, c9, h8, _, hg9, hcell⟩
        · rw [h8] at h7; simp at h7
        · cases h8
          cases hgg
          have h10 := hcell 0 h7 _ (List.getElem?_eq_getElem h7) 0 (by omega)
          rw [show g9 = l from e] at h10
          simp [World.cell?, h3, wantV] at h10
      refine wpIn_mono (hbody l pre x B c W.heap.size C Wb hIb (fun hc => by have := hlt _ _ _ h2 _ hc; omega) hre hpl hx hkb hwb) ?_
      have fin : ∀ (jump : Option Code) (W3 : World), But C Wb W3 →
          (Instr.endRound l jump).run Tryz.prog W3 = .ok (.bool jump.isNone) (W3.putObj l (.loop (rec (if jump.isNone then .ready else .done) jump))) ∧
          (W3.putObj l (.loop (rec (if jump.isNone then .ready else .done) jump))).heap[l]? = some (.loop (rec (if jump.isNone then .ready else .done) jump)) ∧
          (W3.putObj l (.loop (rec (if jump.isNone then .ready else .done) jump))).heap[w.heap.size]? = some (.deferred (some [])) := fun jump W3 h => by
        have hl3 := (h.block l (lt_heap hlb) h5).trans hlb
        have := run_endRound (P := Tryz.prog) jump hl3
        rw [hrec] at this ⊢
        exact ⟨this, World.putObj_heap_same (lt_heap hl3), (World.putObj_heap_other (by omega)).trans ((h.block _ (lt_heap hDb) h6).trans hDb)⟩
      rintro e a3 W3 hp
      cases e with
      | normal =>
        obtain ⟨C2, hi3, hb3, hc3⟩ := hp
        obtain ⟨hr, hl4, hk4⟩ := fin none W3 hb3
        have hn2 : ∀ k, k < Wb.heap.size → ¬ C k → ¬ C2 k := fun k hk hn hc => (hc3 k hc).elim hn (fun h => by omega)
        have hl5 := hn2 l (lt_heap hlb) h5
        have hD5 := hn2 _ (lt_heap hDb) h6
        have hbe : But (fun k => k = l) W3 (W3.putObj l (.loop (rec (if (none : Option Code).isNone then .ready else .done) none))) := but_putObj W3 l _ rfl
        refine ⟨_, _, hr, .inl ⟨rfl, fun k => C2 k ∨ k = l, ⟨C2, fun k => Iff.rfl, hst _ _ _ _ hi3 (hbe.mono fun k _ hk => ⟨by omega, by rw [hk]; exact hl5⟩), hl4, hk4, hl5, hD5⟩, ?_, ?_⟩⟩
        · exact ((hbab.mono fun k _ hk => (h1 k).2 (.inr hk)).trans (hb3.mono fun k _ hk => (h1 k).2 (.inl hk))).trans (hbe.mono fun k _ hk => (h1 k).2 (.inr hk))
        · rintro k (hk | hk)
          · rcases hc3 k hk with h | h
            · exact .inl ((h1 k).2 (.inl h))
            · exact .inr (Nat.le_trans hbab.size h)
          · exact .inl ((h1 k).2 (.inr hk))
      | ret =>
        obtain ⟨C2, hi3, hb3, hc3⟩ := hp
        obtain ⟨hr, hl4, hk4⟩ := fin (some .ret) W3 hb3
        have hn2 : ∀ k, k < Wb.heap.size → ¬ C k → ¬ C2 k := fun k hk hn hc => (hc3 k hc).elim hn (fun h => by omega)
        have hl5 := hn2 l (lt_heap hlb) h5
        have hbe : But (fun k => k = l) W3 (W3.putObj l (.loop (rec (if (some Code.ret).isNone then .ready else .done) (some .ret)))) := but_putObj W3 l _ rfl
        exact ⟨_, _, hr, .inr ⟨rfl, C2, hstx _ _ _ hi3 (hbe.mono fun k _ hk => ⟨by omega, by rw [hk]; exact hl5⟩), hl4, hk4, hl5, hn2 _ (lt_heap hDb) h6⟩⟩
      | exit id => exact hp.elim
      | goto t => exact hp.elim
      | panic ch => exact hp.elim
      | outgrown => exact hp.elim
  refine (seq_any (C0 := fun k => C0 k ∨ k = l) hrd he ht (hf.but (But.of_new (S := fun _ => False) hbW) (fun _ _ h => h)) ⟨C0, fun k => Iff.rfl, hst _ _ _ _ h0 (But.of_new hbW), hL1, hD1, fun h => by have := hC0 _ h; omega, fun h => by have := hC0 _ h; omega⟩ (fun k hk hc => hc.elim (hC k hk) (fun e => by have := hf.lt k hk; omega)) hL hT hd hs).mono ?_
  rintro e W2 ⟨⟨v, rfl⟩, ⟨row, C', hrow, C, h1, h2, h3, h4, h5, h6⟩ | ⟨C, h2, h3, h4, h5, h6⟩⟩
  · have hbe : But (fun k => k = l) W2 (W2.putObj l (.loop { rec .ready none with state := .exhausted })) := but_putObj W2 l _ rfl
    refine ⟨none, W2.putObj l (.loop { rec .ready none with state := .exhausted }), by have := run_endLoop (P := Tryz.prog) h3 (by rw [hrec]; simp); rw [hrec] at this ⊢; exact this, ?_⟩
    exact hdone w.heap.size row C _ (Nat.le_refl _) h6 hrow (hst _ _ _ _ h2 (hbe.mono fun k _ hk => ⟨by omega, by rw [hk]; exact h5⟩)) ((World.putObj_heap_other (by omega)).trans h4)
  · have hbe : But (fun k => k = l) W2 (W2.putObj l (.loop { rec .done (some .ret) with state := .exhausted })) := but_putObj W2 l _ rfl
    refine ⟨some .ret, W2.putObj l (.loop { rec .done (some .ret) with state := .exhausted }), by have := run_endLoop (P := Tryz.prog) h3 (by rw [hrec]; simp); rw [hrec] at this ⊢; exact this, ?_⟩
    exact wpIn_wide.2 (hstop w.heap.size C _ (Nat.le_refl _) h6 (hstx _ _ _ h2 (hbe.mono fun k _ hk => ⟨by omega, by rw [hk]; exact h5⟩)) ((World.putObj_heap_other (by omega)).trans h4))
end Go.Proofs.YthbmaloajgkhmaaGreatDoor


namespace Go.Proofs.YthbmaloajgkhmaaGreatDoor
open Go Go.RowKit Go.Maps Go.Shelf Go.Sort
attribute [local go_sem] Oper.semAt_some
theorem flat_str (l : List Bs) : l.flatMap strC = l.map encStr := by
  induction l with
  | nil => rfl
  | cons x l ih => rw [List.flatMap_cons, ih, List.map_cons]; rfl
/-- The library's Sort at a slice of the call's own. -/
theorem sort_own {w : World} {B : Nat} {v : Value} {zs : List Bs} (h : OwK 9 1 strC w B v zs) (hl : zs.length ≤ 1000000) :
    Calls Tryz.prog 32 #[v] w fun e w' => e = .returned (.tuple #[]) ∧ OwK 9 1 strC w' B v (zs.mergeSort leB) ∧ But (fun k => v.ownBlock = some k) w w' := by
  unfold OwK at h ⊢
  rw [flat_str] at h
  have h1' := h
  obtain ⟨h0, ⟨rfl, hz⟩ | ⟨gb, cap, cur, rfl, hbase, hgb, r1, r2, r3, r4⟩⟩ := h
  · have hss : zs = [] := List.eq_nil_of_length_eq_zero hz
    subst hss
    refine (AnyM.slices_Sort_string_none Tryz.sortA none 0 w).mono ?_
    rintro e w2 ⟨rfl, rfl⟩
    exact ⟨rfl, by simpa using h1', But.refl _ _⟩
  · have hH : Holds encStr w gb 0 zs.toArray := holds_of_block hgb (by simpa using r4)
    refine (AnyM.slices_Sort_string Tryz.sortA gb 0 cap zs w hH (lt_heap hgb) (by omega)).mono ?_
    rintro e w2 ⟨rfl, k, os, rfl⟩
    refine ⟨rfl, ?_, But.of_grown (grownBy_sorted _)⟩
    have hlen : (zs.mergeSort leB).length = zs.length := List.length_mergeSort zs
    have := ownsRow_sorted (n := k) (os := os) (ss := zs) (ts := zs.mergeSort leB) hlen hbase hgb r1 r2 r3
    rw [flat_str, hlen]
    exact this
/-- Two rows of names, each in a box of its own. -/
structure TwoI (w0 : World) (hb kb : Nat) (vh vl : Value) (a b : List Bs) (C : Nat → Prop) (W : World) : Prop where
  bh : Boxed W hb 44 vh
  oh : OwK 9 1 strC W w0.heap.size vh a
  bk : Boxed W kb 44 vl
  ol : OwK 9 1 strC W w0.heap.size vl b
  c : ∀ k, C k ↔ k = hb ∨ k = kb ∨ vh.ownBlock = some k ∨ vl.ownBlock = some k
  ne : hb ≠ kb ∧ ∀ g, vh.ownBlock = some g → vl.ownBlock ≠ some g
  lo : w0.heap.size ≤ hb ∧ w0.heap.size ≤ kb
  bl : Below w0.heap.size w0 W
theorem TwoI.swap {w0 : World} {hb kb : Nat} {vh vl : Value} {a b : List Bs} {C : Nat → Prop} {W : World} (h : TwoI w0 hb kb vh vl a b C W) : TwoI w0 kb hb vl vh b a C W :=
  ⟨h.bk, h.ol, h.bh, h.oh, fun k => (h.c k).trans ⟨fun h => h.elim (fun h => .inr (.inl h)) (fun h => h.elim .inl (fun h => h.elim (fun h => .inr (.inr (.inr h))) (fun h => .inr (.inr (.inl h))))), fun h => h.elim (fun h => .inr (.inl h)) (fun h => h.elim .inl (fun h => h.elim (fun h => .inr (.inr (.inr h))) (fun h => .inr (.inr (.inl h)))))⟩,
    ⟨fun e => h.ne.1 e.symm, fun g h1 h2 => h.ne.2 g h2 h1⟩, ⟨h.lo.2, h.lo.1⟩, h.bl⟩
theorem TwoI.lt {w0 : World} {hb kb : Nat} {vh vl : Value} {a b : List Bs} {C : Nat → Prop} {W : World} (h : TwoI w0 hb kb vh vl a b C W) (k : Nat) (hk : C k) : w0.heap.size ≤ k ∧ k < W.heap.size := by
  rcases (h.c k).1 hk with rfl | rfl | hk | hk
  · exact ⟨h.lo.1, h.bh.lt⟩
  · exact ⟨h.lo.2, h.bk.lt⟩
  · obtain ⟨h1, h2, _⟩ := own_block h.oh hk; exact ⟨h1, h2⟩
  · obtain ⟨h1, h2, _⟩ := own_block h.ol hk; exact ⟨h1, h2⟩
theorem TwoI.but {w0 : World} {hb kb : Nat} {vh vl : Value} {a b : List Bs} {C : Nat → Prop} {W W' : World} {S : Nat → Prop} (h : TwoI w0 hb kb vh vl a b C W) (hw : But S W W') (hn : ∀ k, S k → w0.heap.size ≤ k ∧ ¬ C k) : TwoI w0 hb kb vh vl a b C W' :=
  ⟨boxed_but h.bh hw (fun hk => (hn _ hk).2 ((h.c _).2 (.inl rfl))), h.oh.but hw (fun _ hg hk => (hn _ hk).2 ((h.c _).2 (.inr (.inr (.inl hg))))), boxed_but h.bk hw (fun hk => (hn _ hk).2 ((h.c _).2 (.inr (.inl rfl)))), h.ol.but hw (fun _ hg hk => (hn _ hk).2 ((h.c _).2 (.inr (.inr (.inr hg))))), h.c, h.ne, h.lo,
    h.bl.trans (hw.below (fun k _ hk => (hn k hk).1) h.bl.size)⟩
/-- One more name in a box. -/
theorem box_app {W w1 : World} {hb base g cap : Nat} {vh : Value} {zs : List Bs} {x : Bs} (h : Boxed W hb 44 vh) (ho : OwK 9 1 strC W base vh zs)
    (hown : w1.ownsRow base 9 1 (.slice (some ⟨g, 0, none⟩) (zs.length + 1) cap) (zs.length + 1) (zs.flatMap strC ++ [.string ⟨x.toArray⟩]))
    (hgrow : (W.alloc (.cells #[.string ⟨x.toArray⟩] 9)).grownBy w1 vh.ownBlock) (hat : vh.ownBlock = some g ∨ g = (W.alloc (.cells #[.string ⟨x.toArray⟩] 9)).heap.size) :
    Boxed w1 hb 44 vh ∧ Boxed (w1.setCell ⟨hb, 0, none⟩ (.slice (some ⟨g, 0, none⟩) (zs.length + 1) cap)) hb 44 (.slice (some ⟨g, 0, none⟩) (zs.length + 1) cap) ∧
      OwK 9 1 strC (w1.setCell ⟨hb, 0, none⟩ (.slice (some ⟨g, 0, none⟩) (zs.length + 1) cap)) base (.slice (some ⟨g, 0, none⟩) (zs.length + 1) cap) (zs ++ [x]) ∧
      But (fun k => k = hb ∨ vh.ownBlock = some k) W (w1.setCell ⟨hb, 0, none⟩ (.slice (some ⟨g, 0, none⟩) (zs.length + 1) cap)) ∧ (vh.ownBlock = some g ∨ W.heap.size ≤ g) := by
  have hown' : OwK 9 1 strC w1 base (.slice (some ⟨g, 0, none⟩) (zs.length + 1) cap) (zs ++ [x]) := by
    unfold OwK; rw [List.length_append, List.flatMap_append]; exact hown
  have hb2 := (But.of_new (S := fun k => vh.ownBlock = some k) (below_new W (.cells #[.string ⟨x.toArray⟩] 9))).trans ((But.of_grown hgrow).mono fun _ _ e => e)
  have r2 := boxed_but h hb2 (fun e => row_ne_box ho h (by decide) e)
  have hne : hb ≠ g := fun e => row_ne_box hown' r2 (by decide) (by rw [e]; rfl)
  have hb3 : But (fun k => k = hb) w1 (w1.setCell ⟨hb, 0, none⟩ (.slice (some ⟨g, 0, none⟩) (zs.length + 1) cap)) := (But.refl (fun k => k = hb) w1).setCell (p := ⟨hb, 0, none⟩) rfl _
  refine ⟨r2, r2.set _, hown'.but hb3 (fun _ hg e => hne (by cases hg; exact e.symm)), (hb2.mono fun _ _ e => .inr e).trans (hb3.mono fun _ _ e => .inl e), hat.imp id fun e => ?_⟩
  rw [e]; simp
theorem TwoI.app {w0 W w1 : World} {hb kb g cap : Nat} {vh vl : Value} {a b : List Bs} {C : Nat → Prop} {x : Bs} (h : TwoI w0 hb kb vh vl a b C W)
    (hown : w1.ownsRow w0.heap.size 9 1 (.slice (some ⟨g, 0, none⟩) (a.length + 1) cap) (a.length + 1) (a.flatMap strC ++ [.string ⟨x.toArray⟩]))
    (hgrow : (W.alloc (.cells #[.string ⟨x.toArray⟩] 9)).grownBy w1 vh.ownBlock) (hat : vh.ownBlock = some g ∨ g = (W.alloc (.cells #[.string ⟨x.toArray⟩] 9)).heap.size) :
    Boxed w1 hb 44 vh ∧ ∃ C', TwoI w0 hb kb (.slice (some ⟨g, 0, none⟩) (a.length + 1) cap) vl (a ++ [x]) b C' (w1.setCell ⟨hb, 0, none⟩ (.slice (some ⟨g, 0, none⟩) (a.length + 1) cap)) ∧
      But C W (w1.setCell ⟨hb, 0, none⟩ (.slice (some ⟨g, 0, none⟩) (a.length + 1) cap)) ∧ ∀ k, C' k → C k ∨ W.heap.size ≤ k := by
  obtain ⟨b1, b2, o2, bt, hg⟩ := box_app h.bh h.oh hown hgrow hat
  have hC : ∀ k, k = hb ∨ vh.ownBlock = some k → C k := fun k hk => (h.c k).2 (hk.elim .inl (fun h => .inr (.inr (.inl h))))
  refine ⟨b1, fun k => k = hb ∨ k = kb ∨ g = k ∨ vl.ownBlock = some k, ⟨b2, o2, boxed_but h.bk bt ?_, h.ol.but bt ?_, fun k => ?_, ⟨h.ne.1, ?_⟩, h.lo, h.bl.trans (bt.below (fun k _ hk => (h.lt k (hC k hk)).1) h.bl.size)⟩, bt.mono fun k _ hk => hC k hk, ?_⟩
  · rintro (e | e)
    · exact h.ne.1 e.symm
    · exact row_ne_box h.oh h.bk (by decide) e
  · rintro k hk (e | e)
    · exact row_ne_box h.ol h.bh (by decide) (by rw [hk, e])
    · exact h.ne.2 k e hk
  · simp [Value.ownBlock]
  · intro k hk hl
    cases hk
    rcases hg with e | e
    · exact h.ne.2 _ e hl
    · have := (own_block h.ol hl).2.1; simp only at this; omega
  · rintro k (e | e | e | e)
    · exact .inl ((h.c k).2 (.inl e))
    · exact .inl ((h.c k).2 (.inr (.inl e)))
    · rcases hg with e2 | e2
      · exact .inl ((h.c k).2 (.inr (.inr (.inl (by rw [e2, e])))))
      · exact .inr (by omega)
    · exact .inl ((h.c k).2 (.inr (.inr (.inr e))))
theorem filter_snoc_yes {p : Bs → Bool} {pre : List Bs} {x : Bs} (h : p x = true) : (pre ++ [x]).filter p = pre.filter p ++ [x] := by
  rw [List.filter_append]; simp [h]
theorem filter_snoc_no {p : Bs → Bool} {pre : List Bs} {x : Bs} (h : p x = false) : (pre ++ [x]).filter p = pre.filter p := by
  rw [List.filter_append]; simp [h]
/-- What Closure answers. -/
def CloPost (l : List Hld) (tips : List Bs) (w : World) (e : Ending) (w' : World) : Prop :=
  ∃ va vb a b, e = .returned (.tuple #[va, vb]) ∧ StrsR w' va a ∧ StrsR w' vb b ∧ IsClo (wfL l) (thB l) tips a b ∧ a.length ≤ 600000 ∧ b.length ≤ 600000 ∧ Below w.heap.size w w'
set_option maxHeartbeats 8000000 in
set_option maxRecDepth 100000 in
theorem Closure_any {w : World} {v tv : Value} {L : List Hld} {tips : List Bs} (h : HldsR w v L) (ht : StrsR w tv tips) (he : Eb w) (htb : Tb w)
    (hL : L.length ≤ 2000) (hT : tips.length ≤ 1000) (hd : ∀ x ∈ L, x.id.length ≤ 10000 ∧ x.data.length ≤ 10000) (hs : ∀ x ∈ tips, x.length ≤ 10000) :
    Calls Tryz.prog 16 #[v, tv] w (CloPost L tips w) := by
  obtain ⟨A0, c0, rfl⟩ := h.shape
  obtain ⟨A, ct, rfl⟩ := ht.shape
  obtain ⟨w1, hw1⟩ : ∃ w1, w1 = (w.alloc (.cells #[.slice none 0 0] 44)).alloc (.cells #[.slice none 0 0] 44) := ⟨_, rfl⟩
  have hb1 : Below w.heap.size w w1 := by rw [hw1]; exact (below_new w _).alloc (by simp) _
  have HO := Lib.hid (objects_any (h.below hb1 (Nat.le_refl _)) (by omega) (fun x hx => by have := (hd x hx).1; omega))
  have HW1 := Lib.hid hw1; have HB1 := Lib.hid hb1; have HT := Lib.hid ht; have HE := Lib.hid (And.intro he htb); have HD := Lib.hid hd; have HS := Lib.hid hs
  clear h ht he htb hd hs hw1 hb1
  refine (callsIn_wide (n := 5)).1 (callsIn_of_wp_marks Tryz.func16 rfl trivial ?_ rfl)
  refine wpIn_wide.2 ?_
  simp only [Tryz.ntmps16, List.size_toArray, List.length_cons, List.length_nil, Nat.reduceAdd, Nat.reduceSub, Array.replicate_succ, Array.replicate_zero, List.push_toArray, List.append_toArray, List.nil_append, List.cons_append]
  go_wp2_with fail
  rw [← HW1.out]
  refine HO.out.mono ?_
  rintro e w2 ⟨rfl, hM, hb2⟩
  have HM := Lib.hid hM; have HB2 := Lib.hid (HB1.out.trans (hb2.mono HB1.out.size)); have HB12 := Lib.hid hb2
  obtain ⟨ob, hob⟩ : ∃ ob, ob = w2.heap.size := ⟨_, rfl⟩
  have HA := Lib.hid (after_any w1.heap.size A tips.length ct w2)
  rw [← hob] at HA
  have HOb := Lib.hid hob
  clear hM hb2 hob
  go_wp2_with fail
  refine HA.out.mono ?_
  rintro e w3 ⟨rfl, hw3⟩
  have hob := HOb.out
  have hz3 : w3.heap.size = ob + 1 + 1 := by rw [← hw3, hob]; simp
  have hb3 : Below w2.heap.size w2 w3 := by rw [← hw3]; exact (below_new w2 _).alloc (by simp) _
  have obx : Boxed w3 ob 63 (.map (some w1.heap.size)) := by rw [← hw3, hob]; exact (Boxed.new w2 _ _).alloc _
  have tbx : Boxed w3 (ob + 1) 44 (.slice A tips.length ct) := by
    have := Boxed.new (w2.alloc (.cells #[.map (some w1.heap.size)] 63)) 44 (.slice A tips.length ct)
    rw [hw3] at this
    rw [hob]; simpa using this
  have HB3 : Hid (Below w.heap.size w w3) := Lib.hid (HB2.out.trans (hb3.mono HB2.out.size))
  have hfix : Fix L tips (ob + 1) ob w1.heap.size L.length A ct w3 := ⟨tbx, obx, HT.out.below HB3.out (Nat.le_refl _), HM.out.below hb3 HM.out.lt⟩
  have hbx : ∀ W, Below w1.heap.size w1 W → Boxed W w.heap.size 44 (.slice none 0 0) ∧ Boxed W (w.heap.size + 1) 44 (.slice none 0 0) := fun W hW => by
    have k1 : Boxed w1 w.heap.size 44 (.slice none 0 0) := by rw [HW1.out]; exact (Boxed.new w _ _).alloc _
    have k2 : Boxed w1 (w.heap.size + 1) 44 (.slice none 0 0) := by
      have := Boxed.new (w.alloc (.cells #[.slice none 0 0] 44)) 44 (.slice none 0 0)
      rw [HW1.out]; simpa using this
    exact ⟨boxed_but k1 (But.of_below hW) (by have := k1.lt; omega), boxed_but k2 (But.of_below hW) (by have := k2.lt; omega)⟩
  obtain ⟨x1, x2⟩ := hbx w3 (HB12.out.trans (hb3.mono HB12.out.size))
  have h0 : TwoI w w.heap.size (w.heap.size + 1) (.slice none 0 0) (.slice none 0 0) [] [] (fun k => k = w.heap.size ∨ k = w.heap.size + 1) w3 :=
    ⟨x1, OwK.nil _ _ _ _ _, x2, OwK.nil _ _ _ _ _, fun k => by simp [Value.ownBlock], ⟨by omega, fun g hg => by cases hg⟩, ⟨Nat.le_refl _, Nat.le_succ _⟩, HB3.out⟩
  have hCS : ∀ k, Still tips (ob + 1) ob w1.heap.size A k → ¬ (k = w.heap.size ∨ k = w.heap.size + 1) := by
    have z1 : w1.heap.size = w.heap.size + 1 + 1 := by rw [HW1.out]; simp
    have z2 := HB12.out.size
    rintro k (rfl | rfl | rfl | ⟨hp, a, rfl, rfl⟩) (e | e)
    all_goals try omega
    all_goals
      obtain ⟨g, o, c, e2, _, hg⟩ := RdK.pos HT.out hp
      cases e2
      simp only at e
      omega
  have H0 := Lib.hid h0; have HF := Lib.hid hfix; have HCS := Lib.hid hCS
  have HZ3 : Hid (w.heap.size ≤ w3.heap.size) := Lib.hid HB3.out.size
  clear hw3 hz3 hob hb3 obx tbx hfix hbx x1 x2 h0 hCS
  go_wp2_with fail
  refine range_after (w0 := w) rfl HE.out.1 HE.out.2 HF.out HCS.out hL hT HD.out HS.out (fun pre C W => ∃ vh vl, TwoI w w.heap.size (w.heap.size + 1) vh vl (pre.filter fun x => thB L x) (pre.filter fun x => !thB L x) C W) (fun _ _ => False)
    (fun pre C W W' h hb => by obtain ⟨vh, vl, h⟩ := h; exact ⟨vh, vl, h.but hb fun k hk => ⟨Nat.le_trans HZ3.out hk.1, hk.2⟩⟩) (fun _ _ _ h _ => h) (fun pre C W h k hk => by obtain ⟨vh, vl, h⟩ := h; exact (h.lt k hk).2) (fun pre C W h => by obtain ⟨vh, vl, h⟩ := h; exact h.bl) ⟨_, _, H0.out⟩
    (fun mv bp => { tmps := #[.slice A0 L.length c0, .slice A tips.length ct, undef, undef, .slice none 0 0, .slice none 0 0, .pointer (some ⟨w.heap.size, 0, none⟩), .pointer (some ⟨w.heap.size + 1, 0, none⟩), bp, .slice A0 L.length c0, .map (some w1.heap.size), .slice A tips.length ct, .func (.func 49) #[] #[.pointer (some ⟨ob + 1, 0, none⟩), .pointer (some ⟨ob, 0, none⟩)], mv, undef, undef, undef, undef, undef, undef, undef, undef, undef, undef, undef, undef, undef, undef, undef, undef, undef, undef], defers := [] }) ?assign ?body ?done ?stop
  case assign =>
    intro l x t B n c W K hK
    gi_wp2
    exact hK
  case body =>
    rintro l pre x B c b C W ⟨vh, vl, hI⟩ hCb _ hpl hxl hk hw
    have q0 : W.cell? ⟨b, 0, none⟩ = some (.string ⟨x.toArray⟩) := (cell_of_row W _ 0 _ _ _ hk).trans rfl
    have q1 : W.cell? ⟨b, 1, none⟩ = some (.bool (thB L x)) := (cell_of_row W _ 1 _ _ _ hk).trans rfl
    have hfl : ∀ p : Bs → Bool, (pre.filter p).length ≤ 1000000 := fun p => Nat.le_trans (List.length_filter_le _ _) hpl
    have c1 := hI.bh.cell
    have c2 := hI.bk.cell
    have hbl := hI.bl.size
    obtain ⟨i0, hi0, hz0, hz1, hz2⟩ := info_parts infoW
    cases hth : thB L x with
    | true =>
      rw [hth] at q1
      have hl0 := hfl (fun x => thB L x)
      have HN : Hid (((pre ++ [x]).filter fun x => thB L x) = (pre.filter fun x => thB L x) ++ [x] ∧ ((pre ++ [x]).filter fun x => !thB L x) = (pre.filter fun x => !thB L x)) := Lib.hid ⟨filter_snoc_yes hth, filter_snoc_no (by rw [hth]; rfl)⟩
      obtain ⟨zs, hzs⟩ : ∃ zs, zs = pre.filter fun x => thB L x := ⟨_, rfl⟩
      rw [← hzs] at hI hl0 HN
      have HI := Lib.hid hI
      clear hfl hth hk hw hzs hI
      gi_wp2_with (gi_at_builtin; refine wpListIn_append_own_at _ rfl _ _ 44 rfl w.heap.size 9 i0 _ 1 16 Tryz.underlying44 hi0 hz0 hz1 hz2 rfl (by decide) _ zs.length _ rfl (World.ownsRow.alloc HI.out.oh _) ⟨W.heap.size, 0, none⟩ 1 1 [.string ⟨x.toArray⟩] rfl rfl (cell_one_new _ _ _) (by simp [Value.oneCell']) (by unfold maxLen; omega) (by omega) (by simp; omega) ?_; intro v' w9 hown' hgrow _ hat; obtain ⟨g, cap, rfl⟩ := ownsRow_succ hown'; obtain ⟨b9, C', hN, hbN, hcN⟩ := HI.out.app hown' hgrow (hat.imp (fun e => e.symm) (fun e => by cases e; rfl)); have c9 := b9.cell; have f9 := b9.frozen)
      have hN2 := hN
      rw [← HN.out.1, ← HN.out.2] at hN2
      exact ⟨C', ⟨_, _, hN2⟩, hbN, hcN⟩
    | false =>
      rw [hth] at q1
      have hl0 := hfl (fun x => !thB L x)
      have HN : Hid (((pre ++ [x]).filter fun x => thB L x) = (pre.filter fun x => thB L x) ∧ ((pre ++ [x]).filter fun x => !thB L x) = (pre.filter fun x => !thB L x) ++ [x]) := Lib.hid ⟨filter_snoc_no hth, filter_snoc_yes (by rw [hth]; rfl)⟩
      obtain ⟨zs, hzs⟩ : ∃ zs, zs = pre.filter fun x => !thB L x := ⟨_, rfl⟩
      rw [← hzs] at hI hl0 HN
      have HI := Lib.hid hI.swap
      clear hfl hth hk hw hzs hI
      gi_wp2_with (gi_at_builtin; refine wpListIn_append_own_at _ rfl _ _ 44 rfl w.heap.size 9 i0 _ 1 16 Tryz.underlying44 hi0 hz0 hz1 hz2 rfl (by decide) _ zs.length _ rfl (World.ownsRow.alloc HI.out.oh _) ⟨W.heap.size, 0, none⟩ 1 1 [.string ⟨x.toArray⟩] rfl rfl (cell_one_new _ _ _) (by simp [Value.oneCell']) (by unfold maxLen; omega) (by omega) (by simp; omega) ?_; intro v' w9 hown' hgrow _ hat; obtain ⟨g, cap, rfl⟩ := ownsRow_succ hown'; obtain ⟨b9, C', hN, hbN, hcN⟩ := HI.out.app hown' hgrow (hat.imp (fun e => e.symm) (fun e => by cases e; rfl)); have c9 := b9.cell; have f9 := b9.frozen)
      have hN2 := hN.swap
      rw [← HN.out.1, ← HN.out.2] at hN2
      exact ⟨C', ⟨_, _, hN2⟩, hbN, hcN⟩
  case done =>
    rintro D row C W hD hCD hrow ⟨vh, vl, hI⟩ hK
    have hlen : row.length ≤ 600000 := by have := rowI_len hrow; omega
    have hfl : ∀ p : Bs → Bool, (row.filter p).length ≤ 600000 := fun p => Nat.le_trans (List.length_filter_le _ _) hlen
    have hl1 := hfl (fun x => thB L x)
    have hl2 := hfl (fun x => !thB L x)
    have c1 := hI.bh.cell
    obtain ⟨Ah, ch, eh⟩ := own_slice hI.oh
    obtain ⟨Al, cl, el⟩ := own_slice hI.ol
    have HS1 := Lib.hid (sort_own hI.oh (by omega))
    have HI := Lib.hid hI; have HRow := Lib.hid hrow; have HKD := Lib.hid hK; have HCD := Lib.hid hCD
    have HL1 := Lib.hid hl1; have HL2 := Lib.hid hl2
    obtain ⟨za, hza⟩ : ∃ za, za = row.filter fun x => thB L x := ⟨_, rfl⟩
    obtain ⟨zb, hzb⟩ : ∃ zb, zb = row.filter fun x => !thB L x := ⟨_, rfl⟩
    have HZa := Lib.hid hza; have HZb := Lib.hid hzb
    rw [← hza] at HS1 HL1 eh
    rw [← hzb] at HL2 el
    rw [← hza, ← hzb] at HI
    clear hI hrow hK hCD hfl hl1 hl2 hlen hza hzb HO HB1 HM HB2 HB12 HA HB3 H0 HF HCS
    subst eh el
    go_wp2_with fail
    refine HS1.out.mono ?_
    rintro e W2 ⟨rfl, o1, b1⟩
    have k2 : Boxed W2 (w.heap.size + 1) 44 (.slice Al zb.length cl) := boxed_but HI.out.bk b1 (fun e => row_ne_box HI.out.oh HI.out.bk (by decide) e)
    have k1 : Boxed W2 w.heap.size 44 (.slice Ah za.length ch) := boxed_but HI.out.bh b1 (fun e => row_ne_box HI.out.oh HI.out.bh (by decide) e)
    have o2 : OwK 9 1 strC W2 w.heap.size (.slice Al zb.length cl) zb := HI.out.ol.but b1 (fun g hg e => HI.out.ne.2 g e hg)
    have HS2 := Lib.hid (sort_own o2 (by have := HL2.out; omega))
    have c2 := k2.cell
    have HO1 := Lib.hid o1; have HB1 := Lib.hid b1; have HK1 := Lib.hid k1; have HK2 := Lib.hid k2; have HO2 := Lib.hid o2
    clear o1 b1 k1 k2 o2 c1 HS1
    go_wp2_with fail
    refine HS2.out.mono ?_
    rintro e W3 ⟨rfl, o2, b2⟩
    have k1 : Boxed W3 w.heap.size 44 (.slice Ah za.length ch) := boxed_but HK1.out b2 (fun e => row_ne_box HO2.out HK1.out (by decide) e)
    have k2 : Boxed W3 (w.heap.size + 1) 44 (.slice Al zb.length cl) := boxed_but HK2.out b2 (fun e => row_ne_box HO2.out HK2.out (by decide) e)
    have o1 : OwK 9 1 strC W3 w.heap.size (.slice Ah za.length ch) (za.mergeSort leB) := HO1.out.but b2 (fun g hg e => HI.out.ne.2 g hg e)
    have hKD : W3.heap[D]? = some (.deferred (some [])) := by
      have hD2 : D < W.heap.size := lt_heap HKD.out
      have n1 : (Value.slice Ah za.length ch).ownBlock ≠ some D := fun e => by
        obtain ⟨_, _, cur, h⟩ := own_block HI.out.oh e
        rw [HKD.out] at h; cases h
      have n2 : (Value.slice Al zb.length cl).ownBlock ≠ some D := fun e => by
        obtain ⟨_, _, cur, h⟩ := own_block HI.out.ol e
        rw [HKD.out] at h; cases h
      rw [b2.block D (Nat.lt_of_lt_of_le hD2 HB1.out.size) n2, HB1.out.block D hD2 n1]; exact HKD.out
    have hBl : Below w.heap.size w W3 := (HI.out.bl.trans (HB1.out.below (fun k _ hk => (own_block HI.out.oh hk).1) HI.out.bl.size)).trans (b2.below (fun k _ hk => (own_block HO2.out hk).1) (Nat.le_trans HI.out.bl.size HB1.out.size))
    have c1 := k1.cell
    have c2 := k2.cell
    have HO1 := Lib.hid o1; have HO2 := Lib.hid o2; have HKD := Lib.hid hKD; have HBl := Lib.hid hBl
    clear o1 o2 k1 k2 b2 hKD hBl HS2
    go_wp2_with fail
    go_quiet (fail)
    go_wp2_with fail
    have hKd : (W3.drewN nq).heap[D]? = some (.deferred (some [])) := HKD.out
    refine ⟨by simp, .inl ⟨_, _, rfl, run_takeDeferred hKd, ?_⟩⟩
    have hbt : But (fun k => k = D) W3 ((W3.drewN nq).putObj D (.deferred none)) := ((But.refl (fun k => k = D) W3).drewN nq).trans (but_putObj _ D _ rfl)
    have hne : ∀ {v : Value} {zs : List Bs}, OwK 9 1 strC W3 w.heap.size v zs → ∀ g, v.ownBlock = some g → ¬ g = D := fun h g hg e => by
      obtain ⟨_, _, cur, h2⟩ := own_block h hg
      rw [e, HKD.out] at h2; cases h2
    have hR : IsClo (wfL L) (thB L) tips (za.mergeSort leB) (zb.mergeSort leB) := by
      have pa := List.mergeSort_perm za leB
      have pb := List.mergeSort_perm zb leB
      rw [HZa.out] at pa ⊢
      rw [HZb.out] at pb ⊢
      exact HRow.out.clo (Nat.le_refl _) (sorted_leB _) (sorted_leB _) pa pb
    refine ⟨.tuple #[.slice Ah za.length ch, .slice Al zb.length cl], by simp [results, Tryz.results16, go_sem], _, _, za.mergeSort leB, zb.mergeSort leB, rfl, ?_, ?_, hR, ?_, ?_, ?_⟩
    · exact (HO1.out.rd strC_len).but hbt (hne HO1.out)
    · exact (HO2.out.rd strC_len).but hbt (hne HO2.out)
    · rw [List.length_mergeSort]; exact HL1.out
    · rw [List.length_mergeSort]; exact HL2.out
    · exact HBl.out.trans (hbt.below (fun k _ e => by rw [e]; exact Nat.le_trans HZ3.out hD) HBl.out.size)
  case stop =>
    intro D C W _ _ h _
    exact h.elim
end Go.Proofs.YthbmaloajgkhmaaGreatDoor


namespace Go.Proofs.YthbmaloajgkhmaaGreatDoor
open Go Go.RowKit Go.Maps Go.Shelf
attribute [local go_sem] Oper.semAt_some
/-- What the loop over them answers so far. -/
def ansI (L : List Hld) (pre : List Bs) : Int := if (pre.all fun x => agreeB L (wfL L x)) = true then 0 else 3
theorem ansI_snoc (L : List Hld) (pre : List Bs) (x : Bs) : ansI L (pre ++ [x]) = if agreeB L (wfL L x) = true then ansI L pre else 3 := by
  unfold ansI
  rw [List.all_append]
  cases h1 : pre.all fun x => agreeB L (wfL L x) <;> cases h2 : agreeB L (wfL L x) <;> simp [h2]
structure SouI (L : List Hld) (w0 : World) (rb ab ob m nn : Nat) (pre : List Bs) (C : Nat → Prop) (W : World) : Prop where
  br : Boxed W rb 48 (.int .i64 0)
  ba : Boxed W ab 48 (.int .i64 (ansI L pre))
  bo : Boxed W ob 63 (.map (some m))
  mp : MapS W m nn (ofF L)
  al : ∀ x ∈ pre, thB L x = true
  c : ∀ k, C k ↔ k = rb ∨ k = ab
  ne : rb ≠ ab ∧ ob ≠ rb ∧ ob ≠ ab ∧ m ≠ rb ∧ m ≠ ab
  lo : w0.heap.size ≤ rb ∧ w0.heap.size ≤ ab
  bl : Below w0.heap.size w0 W
theorem SouI.but {L : List Hld} {w0 : World} {rb ab ob m nn : Nat} {pre : List Bs} {C : Nat → Prop} {W W' : World} {S : Nat → Prop} (h : SouI L w0 rb ab ob m nn pre C W) (hb : But S W W') (hn : ∀ k, S k → w0.heap.size ≤ k ∧ ¬ C k ∧ k ≠ ob ∧ k ≠ m) : SouI L w0 rb ab ob m nn pre C W' :=
  ⟨boxed_but h.br hb (fun hk => (hn _ hk).2.1 ((h.c _).2 (.inl rfl))), boxed_but h.ba hb (fun hk => (hn _ hk).2.1 ((h.c _).2 (.inr rfl))), boxed_but h.bo hb (fun hk => (hn _ hk).2.2.1 rfl), h.mp.but hb (fun hk => (hn _ hk).2.2.2 rfl), h.al, h.c, h.ne, h.lo, h.bl.trans (hb.below (fun k _ hk => (hn k hk).1) h.bl.size)⟩
/-- What Sound answers. -/
def SouPost (l : List Hld) (tips : List Bs) (w : World) (e : Ending) (w' : World) : Prop :=
  ∃ r : Int, e = .returned (.int .i64 r) ∧ IsSound (wfL l) (thB l) (kindB l) tips r ∧ Below w.heap.size w w'
set_option maxHeartbeats 8000000 in
set_option maxRecDepth 100000 in
theorem Sound_any {w : World} {v tv : Value} {L : List Hld} {tips : List Bs} (h : HldsR w v L) (ht : StrsR w tv tips) (he : Eb w) (htb : Tb w)
    (hL : L.length ≤ 2000) (hT : tips.length ≤ 1000) (hd : ∀ x ∈ L, x.id.length ≤ 10000 ∧ x.data.length ≤ 10000) (hs : ∀ x ∈ tips, x.length ≤ 10000) :
    Calls Tryz.prog 18 #[v, tv] w (SouPost L tips w) := by
  obtain ⟨A0, c0, rfl⟩ := h.shape
  obtain ⟨A, ct, rfl⟩ := ht.shape
  obtain ⟨w1, hw1⟩ : ∃ w1, w1 = w.alloc (.cells #[.int .i64 0] 48) := ⟨_, rfl⟩
  have hb1 : Below w.heap.size w w1 := by rw [hw1]; exact below_new w _
  have HO := Lib.hid (objects_any (h.below hb1 (Nat.le_refl _)) (by omega) (fun x hx => by have := (hd x hx).1; omega))
  have HW1 := Lib.hid hw1; have HB1 := Lib.hid hb1; have HT := Lib.hid ht; have HE := Lib.hid (And.intro he htb); have HD := Lib.hid hd; have HS := Lib.hid hs
  clear h ht he htb hd hs hw1 hb1
  refine (callsIn_wide (n := 5)).1 (callsIn_of_wp_marks Tryz.func18 rfl trivial ?_ rfl)
  refine wpIn_wide.2 ?_
  simp only [Tryz.ntmps18, List.size_toArray, List.length_cons, List.length_nil, Nat.reduceAdd, Nat.reduceSub, Array.replicate_succ, Array.replicate_zero, List.push_toArray, List.append_toArray, List.nil_append, List.cons_append]
  go_wp2_with fail
  rw [← HW1.out]
  refine HO.out.mono ?_
  rintro e w2 ⟨rfl, hM, hb2⟩
  have HM := Lib.hid hM; have HB2 := Lib.hid (HB1.out.trans (hb2.mono HB1.out.size)); have HB12 := Lib.hid hb2
  clear hM hb2
  go_upto_region 3 with fail
  obtain ⟨o1, ho1⟩ : ∃ o1, o1 = w2.heap.size := ⟨_, rfl⟩
  rw [← ho1]
  obtain ⟨w3, hw3⟩ : ∃ w3, w3 = (w2.alloc (.cells #[.map (some w1.heap.size)] 63)).alloc (.cells #[.int .i64 0] 48) := ⟨_, rfl⟩
  rw [← hw3]
  have hb3 : Below w2.heap.size w2 w3 := by rw [hw3]; exact (below_new w2 _).alloc (by simp) _
  have k1 : Boxed w3 o1 63 (.map (some w1.heap.size)) := by rw [hw3, ho1]; exact (Boxed.new w2 _ _).alloc _
  have k2 : Boxed w3 (o1 + 1) 48 (.int .i64 0) := by
    have := Boxed.new (w2.alloc (.cells #[.map (some w1.heap.size)] 63)) 48 (.int .i64 0)
    rw [hw3, ho1]; simpa using this
  have k3 : Boxed w3 w.heap.size 48 (.int .i64 0) := by
    have h1 : Boxed w1 w.heap.size 48 (.int .i64 0) := by rw [HW1.out]; exact Boxed.new w _ _
    have h2 : Boxed w2 w.heap.size 48 (.int .i64 0) := boxed_but h1 (But.of_below HB12.out) (by have := h1.lt; omega)
    exact boxed_but h2 (But.of_below hb3) (by have := h2.lt; omega)
  have z1 : w1.heap.size = w.heap.size + 1 := by rw [HW1.out]; simp
  have z2 := HB12.out.size
  have zm := HM.out.lt
  have hm3 := HM.out.below hb3 HM.out.lt
  have HB3 : Hid (Below w.heap.size w w3) := Lib.hid (HB2.out.trans (hb3.mono HB2.out.size))
  have h0 : SouI L w w.heap.size (o1 + 1) o1 w1.heap.size L.length [] (fun k => k = w.heap.size ∨ k = o1 + 1) w3 :=
    ⟨k3, k2, k1, hm3, (fun x hx => by cases hx), fun k => Iff.rfl, ⟨by omega, by omega, by omega, by omega, by omega⟩, ⟨Nat.le_refl _, by omega⟩, HB3.out⟩
  have c1 := k1.cell
  obtain ⟨ob, hob⟩ : ∃ ob, ob = w3.heap.size := ⟨_, rfl⟩
  have HA := Lib.hid (after_any w1.heap.size A tips.length ct w3)
  rw [← hob] at HA
  have HOb := Lib.hid hob; have H0 := Lib.hid h0; have HO1 := Lib.hid ho1; have HM3 := Lib.hid hm3
  have HZ := Lib.hid (And.intro z1 (And.intro z2 zm)); have HZ3 := Lib.hid (And.intro k1.lt k2.lt)
  clear hob h0 ho1 hw3 hb3 k1 k2 k3 z1 z2 zm hm3
  go_wp2_with fail
  refine HA.out.mono ?_
  rintro e w4 ⟨rfl, hw4⟩
  have hob := HOb.out
  have hb4 : Below w3.heap.size w3 w4 := by rw [← hw4]; exact (below_new w3 _).alloc (by simp) _
  have obx : Boxed w4 ob 63 (.map (some w1.heap.size)) := by rw [← hw4, hob]; exact (Boxed.new w3 _ _).alloc _
  have tbx : Boxed w4 (ob + 1) 44 (.slice A tips.length ct) := by
    have := Boxed.new (w3.alloc (.cells #[.map (some w1.heap.size)] 63)) 44 (.slice A tips.length ct)
    rw [hw4] at this
    rw [hob]; simpa using this
  have HB4 : Hid (Below w.heap.size w w4) := Lib.hid (HB3.out.trans (hb4.mono HB3.out.size))
  have hfix : Fix L tips (ob + 1) ob w1.heap.size L.length A ct w4 := ⟨tbx, obx, HT.out.below HB4.out (Nat.le_refl _), HM3.out.below hb4 HM3.out.lt⟩
  have hz := HZ.out
  have hz3 := HZ3.out
  have ho1 := HO1.out
  have hCS : ∀ k, Still tips (ob + 1) ob w1.heap.size A k → ¬ (k = w.heap.size ∨ k = o1 + 1) := by
    rintro k (rfl | rfl | rfl | ⟨hp, a, rfl, rfl⟩) (e | e)
    all_goals try omega
    all_goals
      obtain ⟨g, o, c, e2, _, hg⟩ := RdK.pos HT.out hp
      cases e2
      simp only at e
      omega
  have H04 : Hid (SouI L w w.heap.size (o1 + 1) o1 w1.heap.size L.length [] (fun k => k = w.heap.size ∨ k = o1 + 1) w4) := Lib.hid (H0.out.but (But.of_new (S := fun _ => False) hb4) (fun _ h => h.elim))
  have HZ4 : Hid (w.heap.size ≤ w4.heap.size ∧ o1 < w4.heap.size ∧ w1.heap.size < w4.heap.size) := Lib.hid ⟨HB4.out.size, by have := hb4.size; omega, by have := hb4.size; omega⟩
  have HF := Lib.hid hfix; have HCS := Lib.hid hCS
  clear hw4 hob hb4 obx tbx hfix hCS hz hz3 ho1 c1
  go_wp2_with fail
  refine range_after (w0 := w) rfl HE.out.1 HE.out.2 HF.out HCS.out hL hT HD.out HS.out (fun pre C W => SouI L w w.heap.size (o1 + 1) o1 w1.heap.size L.length pre C W)
    (fun C W => Boxed W w.heap.size 48 (.int .i64 51) ∧ C w.heap.size ∧ Below w.heap.size w W ∧ ∃ x, Reach (wfL L) tips x ∧ thB L x = false)
    (fun pre C W W' h hb => h.but hb fun k hk => ⟨Nat.le_trans HZ4.out.1 hk.1, hk.2, by have := HZ4.out.2.1; omega, by have := HZ4.out.2.2; omega⟩)
    (fun C W W' h hb => ⟨boxed_but h.1 hb (fun hk => hk.2 h.2.1), h.2.1, h.2.2.1.trans (hb.below (fun k _ hk => Nat.le_trans HZ4.out.1 hk.1) h.2.2.1.size), h.2.2.2⟩)
    (fun pre C W h k hk => ((h.c k).1 hk).elim (fun e => by rw [e]; exact h.br.lt) (fun e => by rw [e]; exact h.ba.lt)) (fun pre C W h => h.bl) H04.out
    (fun mv bp => { tmps := #[.slice A0 L.length c0, .slice A tips.length ct, undef, undef, .pointer (some ⟨w.heap.size, 0, none⟩), .pointer (some ⟨o1, 0, none⟩), .pointer (some ⟨o1 + 1, 0, none⟩), bp, .slice A0 L.length c0, .map (some w1.heap.size), .map (some w1.heap.size), .slice A tips.length ct, .func (.func 49) #[] #[.pointer (some ⟨ob + 1, 0, none⟩), .pointer (some ⟨ob, 0, none⟩)], mv, undef, undef, undef, undef, undef, undef, undef, undef, undef], defers := [] }) ?assign ?body ?done ?stop
  case assign =>
    intro l x t B n c W K hK
    gi_wp2
    exact hK
  case body =>
    rintro l pre x B c b C W hI hCb hre hpl hxl hk hw
    have q0 : W.cell? ⟨b, 0, none⟩ = some (.string ⟨x.toArray⟩) := (cell_of_row W _ 0 _ _ _ hk).trans rfl
    have q1 : W.cell? ⟨b, 1, none⟩ = some (.bool (thB L x)) := (cell_of_row W _ 1 _ _ _ hk).trans rfl
    have q2 : W.cell? ⟨b, 2, none⟩ = some (.slice B (wfL L x).length c) := (cell_of_row W _ 2 _ _ _ hk).trans rfl
    have c1 := hI.br.cell
    have f1 := hI.br.frozen
    cases hth : thB L x with
    | false =>
      rw [hth] at q1
      have HI := Lib.hid hI; have HR := Lib.hid hre; have HTh := Lib.hid hth
      clear hk hw hI hre hth q0 q2
      gi_wp2
      refine ⟨C, ⟨HI.out.br.set _, (HI.out.c _).2 (.inl rfl), HI.out.bl.setCell (p := ⟨w.heap.size, 0, none⟩) (Nat.le_refl _) _, x, HR.out, HTh.out⟩, (But.refl C W).setCell (p := ⟨w.heap.size, 0, none⟩) ((HI.out.c _).2 (.inl rfl)) _, fun k hk => .inl hk⟩
    | true =>
      rw [hth] at q1
      have c2 := hI.bo.cell
      have hwl : ∀ p ∈ wfL L x, p.1.length ≤ 1000000 := fun p hp => by
        obtain ⟨u, _, hu⟩ := wfL_mem hp
        have := wants_mem hu
        omega
      have HG := Lib.hid (agree_any hw (by have := wfL_le L x; omega) hwl hI.mp)
      have HI := Lib.hid hI; have HTh := Lib.hid hth
      have hn1 : 1 ≤ 5 := by omega
      clear hk hw hI hre hth q0 hwl c1 f1
      gi_wp2_with fail
      refine ⟨trivial, (CallsIn.inRound l (callsIn_wide.2 HG.out)).mono ?_⟩
      rintro e W2 ⟨rfl, hb2⟩
      have hI2 : SouI L w w.heap.size (o1 + 1) o1 w1.heap.size L.length pre C W2 := HI.out.but (But.of_new (S := fun _ => False) hb2) (fun _ h => h.elim)
      have c3 := hI2.ba.cell
      have f3 := hI2.ba.frozen
      have HI2 := Lib.hid hI2; have HB2 := Lib.hid (But.of_new (S := C) hb2)
      have HAn := Lib.hid (ansI_snoc L pre x)
      clear hI2 hb2 c2 q1 q2 HG
      cases hg : agreeB L (wfL L x) with
      | true =>
        have HS : Hid (ansI L (pre ++ [x]) = ansI L pre) := Lib.hid (by rw [HAn.out, if_pos hg])
        clear hg HAn
        gi_wp2
        refine ⟨C, ⟨HI2.out.br, by rw [HS.out]; exact HI2.out.ba, HI2.out.bo, HI2.out.mp, fun y hy => ?_, HI2.out.c, HI2.out.ne, HI2.out.lo, HI2.out.bl⟩, HB2.out, fun k hk => .inl hk⟩
        rcases List.mem_append.1 hy with hy | hy
        · exact HI.out.al y hy
        · rw [List.mem_singleton] at hy; rw [hy]; exact HTh.out
      | false =>
        have HS : Hid (ansI L (pre ++ [x]) = 3) := Lib.hid (by rw [HAn.out, if_neg (by rw [hg]; simp)])
        clear hg HAn
        gi_wp2
        have hbs : But (fun k => k = o1 + 1) W2 (W2.setCell ⟨o1 + 1, 0, none⟩ (.int .i64 3)) := (But.refl (fun k => k = o1 + 1) W2).setCell (p := ⟨o1 + 1, 0, none⟩) rfl _
        refine ⟨C, ⟨boxed_but HI2.out.br hbs HI2.out.ne.1, by rw [HS.out]; exact HI2.out.ba.set _, boxed_but HI2.out.bo hbs HI2.out.ne.2.2.1, HI2.out.mp.but hbs HI2.out.ne.2.2.2.2, fun y hy => ?_, HI2.out.c, HI2.out.ne, HI2.out.lo, HI2.out.bl.trans (hbs.below (fun k _ e => by rw [e]; exact HI2.out.lo.2) HI2.out.bl.size)⟩, HB2.out.trans (hbs.mono fun k _ e => (HI2.out.c k).2 (.inr e)), fun k hk => .inl hk⟩
        rcases List.mem_append.1 hy with hy | hy
        · exact HI.out.al y hy
        · rw [List.mem_singleton] at hy; rw [hy]; exact HTh.out
  case done =>
    rintro D row C W hD hCD hrow hI hK
    have c1 := hI.br.cell
    have f1 := hI.br.frozen
    have c2 := hI.ba.cell
    have HS : Hid (IsSound (wfL L) (thB L) (kindB L) tips (ansI L row)) := Lib.hid (by
      refine .inr ⟨fun x hx => hI.al x ((hrow.done (Nat.le_refl _) x).1 hx), ?_⟩
      unfold ansI
      by_cases ha : (row.all fun x => agreeB L (wfL L x)) = true
      · rw [if_pos ha]
        refine .inr ⟨rfl, fun x y k hx hm => ?_⟩
        have h1 := List.all_eq_true.1 ha x ((hrow.done (Nat.le_refl _) x).1 hx)
        have h2 := List.all_eq_true.1 (show ((wfL L x).all fun p => kindB L p.1 == p.2) = true from h1) _ hm
        simpa using h2
      · rw [if_neg ha]
        refine .inl ⟨rfl, ?_⟩
        rw [Bool.not_eq_true, List.all_eq_false] at ha
        obtain ⟨x, hx, h1⟩ := ha
        rw [Bool.not_eq_true] at h1
        have h2 := List.all_eq_false.1 (show ((wfL L x).all fun p => kindB L p.1 == p.2) = false from h1)
        obtain ⟨p, hp, h3⟩ := h2
        exact ⟨x, p.1, p.2, (hrow.done (Nat.le_refl _) x).2 hx, hp, by simpa using h3⟩)
    obtain ⟨r, hr⟩ : ∃ r, r = ansI L row := ⟨_, rfl⟩
    rw [← hr] at c2 HS
    have HI := Lib.hid hI; have HK := Lib.hid hK; have HCD := Lib.hid hCD
    clear hrow hI hK hCD hr
    go_wp2_with fail
    have hKd : (W.setCell ⟨w.heap.size, 0, none⟩ (.int .i64 r)).heap[D]? = some (.deferred (some [])) := (Below.heap_setCell _ _ _ _ (fun e => HCD.out ((HI.out.c D).2 (.inl e)))).trans HK.out
    refine ⟨by simp, .inl ⟨_, _, rfl, run_takeDeferred hKd, ?_⟩⟩
    have hbx : Boxed ((W.setCell ⟨w.heap.size, 0, none⟩ (.int .i64 r)).putObj D (.deferred none)) w.heap.size 48 (.int .i64 r) := boxed_but (HI.out.br.set (.int .i64 r)) (but_putObj (S := fun k => k = D) _ D _ rfl) (fun e => HCD.out ((HI.out.c D).2 (.inl e.symm)))
    have c5 := hbx.cell
    refine ⟨.int .i64 r, by simp [results, Tryz.results18, go_sem, c5], r, rfl, HS.out, ?_⟩
    exact below_put _ (HI.out.bl.setCell (p := ⟨w.heap.size, 0, none⟩) (Nat.le_refl _) _) (Nat.le_trans HZ4.out.1 hD) _
  case stop =>
    rintro D C W hD hCD ⟨hbx, hc, hbl, x, hx1, hx2⟩ hK
    have HI := Lib.hid (And.intro hbx (And.intro hc hbl)); have HX := Lib.hid (And.intro hx1 hx2); have HK := Lib.hid hK; have HCD := Lib.hid hCD
    clear hbx hc hbl hx1 hx2 hK hCD
    go_wp2_with fail
    refine ⟨by simp, .inl ⟨_, _, rfl, run_takeDeferred HK.out, ?_⟩⟩
    have hbx : Boxed (W.putObj D (.deferred none)) w.heap.size 48 (.int .i64 51) := boxed_but HI.out.1 (but_putObj (S := fun k => k = D) _ D _ rfl) (fun e => HCD.out (by rw [← e]; exact HI.out.2.1))
    have c5 := hbx.cell
    refine ⟨.int .i64 51, by simp [results, Tryz.results18, go_sem, c5], 51, rfl, .inl ⟨rfl, x, HX.out.1, HX.out.2⟩, ?_⟩
    exact below_put _ HI.out.2.2 (Nat.le_trans HZ4.out.1 hD) _
end Go.Proofs.YthbmaloajgkhmaaGreatDoor
