/-
  line: what a line has behind its word.
-/
import Derived.Test.YtngphfogomchfaaGreatDoorC07

namespace Go.Proofs.YtngphfogomchfaaGreatDoor
open Go Go.RowKit Go.Shelf
/-- A fault that was made behind W0, of errWrong or of errOther. -/
def ErrAt (W0 : World) (pre : Bool) (v : Value) (W : World) : Prop :=
  ∃ (a : Nat) (c : Addr) (ab : ByteArray), v = .iface 134 (.pointer (some ⟨a, 0, none⟩)) ∧ W.heap[a]? = some (.cells #[.string ab, .iface 266 (.pointer (some c))] 144 (0, 0)) ∧ W0.heap.size ≤ a
    ∧ (pre = true → W0.cell? ⟨1, 0, none⟩ = some (.iface 266 (.pointer (some c)))) ∧ (pre = false → W0.cell? ⟨5, 0, none⟩ = some (.iface 266 (.pointer (some c))))
/-- What a line comes to. -/
def LineOk (w : World) (word s : List UInt8) (tb o : Nat) (r : List UInt8) (w' : World) : Prop := ∃ a, lineP word s = some (a, r) ∧ Turned w w' tb o (SV a)
def LineNo (w : World) (word s : List UInt8) (tb : Nat) (v : Value) (w' : World) : Prop := lineP word s = none ∧ w.grownBy w' (some tb) ∧ ErrAt w (word.isPrefixOf s) v w'
theorem lineP_pre {word s : List UInt8} (h : word.isPrefixOf s = true) : lineP word s = cutAt 10 (s.drop word.length) := by unfold lineP; rw [if_pos h]
theorem lineP_nopre {word s : List UInt8} (h : word.isPrefixOf s = false) : lineP word s = none := by unfold lineP; rw [if_neg (by rw [h]; simp)]
theorem turned_below {w W w' : World} {tb o : Nat} {x : Value} (hb : Below w.heap.size w W) (ht : tb < w.heap.size) (h : Turned W w' tb o x) : Turned w w' tb o x :=
  ⟨⟨h.1.os.trans hb.os, h.1.tape.trans hb.tape, h.1.output.trans hb.output, Nat.le_trans hb.size h.1.size, fun k hk hkt => (h.1.block k (Nat.lt_of_lt_of_le hk hb.size) hkt).trans (hb.block k hk)⟩,
    fun cs t hc => h.2 cs t ((hb.block tb ht).trans hc)⟩
theorem grown_before {w W w' : World} {g : Option Nat} (hb : Below w.heap.size w W) (h : W.grownBy w' g) : w.grownBy w' g :=
  ⟨h.os.trans hb.os, h.tape.trans hb.tape, h.output.trans hb.output, Nat.le_trans hb.size h.size, fun k hk hkt => (h.block k (Nat.lt_of_lt_of_le hk hb.size) hkt).trans (hb.block k hk)⟩
theorem ErrAt.before {w W w' : World} {pre : Bool} {v : Value} (hb : Below w.heap.size w W) (he : Er w) (h : ErrAt W pre v w') : ErrAt w pre v w' := by
  obtain ⟨a, c, ab, rfl, h1, h2, h3, h4⟩ := h
  obtain ⟨ea, eb, _, e1, e2⟩ := he.two
  refine ⟨a, c, ab, rfl, h1, Nat.le_trans hb.size h2, fun hp => ?_, fun hp => ?_⟩
  · rw [e1, ← cell_to e1 hb]; exact h3 hp
  · rw [e2, ← cell_to e2 hb]; exact h4 hp
theorem LineOk.before {w W w' : World} {word s r : List UInt8} {tb o : Nat} (hb : Below w.heap.size w W) (ht : tb < w.heap.size) (h : LineOk W word s tb o r w') : LineOk w word s tb o r w' := by
  obtain ⟨a, h1, h2⟩ := h; exact ⟨a, h1, turned_below hb ht h2⟩
theorem LineNo.before {w W w' : World} {word s : List UInt8} {tb : Nat} {v : Value} (hb : Below w.heap.size w W) (he : Er w) (h : LineNo W word s tb v w') : LineNo w word s tb v w' :=
  ⟨h.1, grown_before hb h.2.1, h.2.2.before hb he⟩
def lnP (W0 : World) (word s : List UInt8) (tb o : Nat) : Nat → List UInt8 → World → Prop
  | 0, s', W => s' = s ∧ W = W0
  | 1, s', W => word.isPrefixOf s = true ∧ s' = s.drop word.length ∧ W = W0
  | _, s', W => LineOk W0 word s tb o s' W
def lnG : Nat → FuncId
  | 0 => 161
  | _ => 174
def lnL (p0 p1 p2 : Nat) : Nat → Array Value
  | 0 => #[.pointer (some ⟨p0, 0, none⟩)]
  | _ => #[.pointer (some ⟨p1, 0, none⟩), .pointer (some ⟨p2, 0, none⟩)]
/-- read with the two steps of a line. -/
theorem line_read (s word : List UInt8) (hs : s.length ≤ 1000000) (W0 : World) (he : Er W0) (blk p0 p1 p2 tb o : Nat) (old : Value)
    (c0 : W0.cell? ⟨blk, 0, none⟩ = some (.func (.func 161) #[] #[.pointer (some ⟨p0, 0, none⟩)]))
    (c1 : W0.cell? ⟨blk, 1, none⟩ = some (.func (.func 174) #[] #[.pointer (some ⟨p1, 0, none⟩), .pointer (some ⟨p2, 0, none⟩)]))
    (d0 : W0.cell? ⟨p0, 0, none⟩ = some (.string ⟨word.toArray⟩)) (d1 : W0.cell? ⟨p1, 0, none⟩ = some (.string ⟨#[10]⟩)) (d2 : W0.cell? ⟨p2, 0, none⟩ = some (.pointer (some ⟨tb, o, none⟩)))
    (ht : W0.cell? ⟨tb, o, none⟩ = some old) (hf : W0.frozen? ⟨tb, o, none⟩ = false) (hg : 1 ≠ tb) :
    Calls Tryz.prog 140 #[.string ⟨s.toArray⟩, .slice (some ⟨blk, 0, none⟩) 2 2] W0 (StepPost (LineOk W0 word s tb o) (LineNo W0 word s tb)) := by
  refine read_gen 2 2 blk (by decide) lnG (lnL p0 p1 p2) (lnP W0 word s tb o) (LineNo W0 word s tb) ?_ ?_ ?_ s W0 ⟨rfl, rfl⟩
  · intro i r W hi hP
    match i, hi, hP with
    | 0, _, hP => obtain ⟨_, rfl⟩ := hP; exact c0
    | 1, _, hP => obtain ⟨_, _, rfl⟩ := hP; exact c1
  · intro i hi
    match i, hi with
    | 0, _ => exact enters_of Tryz.func161 (by kernel_rfl) rfl
    | 1, _ => exact enters_of Tryz.func174 (by kernel_rfl) rfl
  · intro i r W hi hP
    obtain ⟨ea, eb, _, e1, e2⟩ := he.two
    match i, hi, hP with
    | 0, _, hP =>
      obtain ⟨rfl, rfl⟩ := hP
      cases hp : word.isPrefixOf r
      · refine (past_no r word p0 W d0 _ e2 hp).mono ?_
        rintro e w' ⟨rfl, rfl⟩
        refine .inr ⟨_, _, rfl, lineP_nopre hp, World.grownBy_alloc _ _ _, W.heap.size, eb, _, rfl, heap_alloc_new _ _, Nat.le_refl _, fun h => ?_, fun _ => e2⟩
        rw [hp] at h; cases h
      · refine (past_yes r word p0 W d0 he hp).mono ?_
        rintro e w' ⟨rfl, rfl⟩
        exact .inl ⟨_, rfl, hp, rfl, rfl⟩
    | 1, _, hP =>
      obtain ⟨hp, rfl, rfl⟩ := hP
      have hl : (s.drop word.length).length ≤ 1000000 := by rw [List.length_drop]; omega
      cases hc : cutAt 10 (s.drop word.length) with
      | none =>
        refine (until_no _ hl 10 p1 p2 tb o old W d1 d2 ht hf ea e1 hg hc).mono ?_
        rintro e w' ⟨rfl, h1, h2⟩
        refine .inr ⟨_, _, rfl, by rw [lineP_pre hp, hc], h1.1, W.heap.size, ea, _, rfl, h2, Nat.le_refl _, fun _ => e1, fun h => ?_⟩
        rw [hp] at h; cases h
      | some p =>
        obtain ⟨a, q⟩ := p
        refine (until_yes _ a q hl 10 p1 p2 tb o old W d1 d2 ht hf he hg hc).mono ?_
        rintro e w' ⟨rfl, h1⟩
        exact .inl ⟨q, rfl, a, by rw [lineP_pre hp, hc], h1⟩
theorem alloc_heapL (w : World) (o : Obj) : (w.alloc o).heap = w.heap.push o := rfl
/-- The blocks that line lays, ahead of read. -/
theorem line_blocks (w W : World) (word : List UInt8) (tp : Option Addr) (hb : Below w.heap.size w W) :
    let W0 := (((W.alloc (.cells #[.string ⟨word.toArray⟩] 9)).alloc (.cells #[.string ⟨#[10]⟩] 9)).alloc (.cells #[.pointer tp] 217)).alloc (.cells #[.func (.func 161) #[] #[.pointer (some ⟨W.heap.size, 0, none⟩)], .func (.func 174) #[] #[.pointer (some ⟨W.heap.size + 1, 0, none⟩), .pointer (some ⟨W.heap.size + 2, 0, none⟩)]] 215)
    Below w.heap.size w W0 ∧ W0.cell? ⟨W.heap.size + 3, 0, none⟩ = some (.func (.func 161) #[] #[.pointer (some ⟨W.heap.size, 0, none⟩)])
      ∧ W0.cell? ⟨W.heap.size + 3, 1, none⟩ = some (.func (.func 174) #[] #[.pointer (some ⟨W.heap.size + 1, 0, none⟩), .pointer (some ⟨W.heap.size + 2, 0, none⟩)])
      ∧ W0.cell? ⟨W.heap.size, 0, none⟩ = some (.string ⟨word.toArray⟩) ∧ W0.cell? ⟨W.heap.size + 1, 0, none⟩ = some (.string ⟨#[10]⟩) ∧ W0.cell? ⟨W.heap.size + 2, 0, none⟩ = some (.pointer tp) := by
  have hz := hb.size
  refine ⟨(((hb.alloc hz _).alloc (by simp; omega) _).alloc (by simp; omega) _).alloc (by simp; omega) _, ?_, ?_, ?_, ?_, ?_⟩
  all_goals (simp only [World.cell?, alloc_heapL, Array.getElem?_push, Array.size_push, Nat.add_assoc, Nat.reduceAdd]; simp)
theorem StepPost.ret {Q : List UInt8 → World → Prop} {F : Value → World → Prop} {e : Ending} {w' : World} (h : StepPost Q F e w') : ∃ a b, e = .returned (.tuple #[a, b]) := by
  obtain ⟨s', rfl, _⟩ | ⟨s', p, rfl, _⟩ := h <;> exact ⟨_, _, rfl⟩
theorem line_grown {w w' : World} {word s : List UInt8} {tb o : Nat} {e : Ending} (h : StepPost (LineOk w word s tb o) (LineNo w word s tb) e w') : w.grownBy w' (some tb) := by
  obtain ⟨s', _, a, _, h⟩ | ⟨s', p, _, _, h, _⟩ := h
  · exact h.1
  · exact h
set_option maxRecDepth 100000 in
set_option maxHeartbeats 4000000 in
theorem line_any (s word : List UInt8) (hs : s.length ≤ 1000000) (w : World) (he : Er w) (b1 b2 tb o : Nat) (old : Value)
    (h1 : w.cell? ⟨b1, 0, none⟩ = some (.string ⟨word.toArray⟩)) (h2 : w.cell? ⟨b2, 0, none⟩ = some (.pointer (some ⟨tb, o, none⟩)))
    (ht : w.cell? ⟨tb, o, none⟩ = some old) (hf : w.frozen? ⟨tb, o, none⟩ = false) (hg : 1 ≠ tb) (n1 : b1 ≠ tb) (n2 : b2 ≠ tb) :
    Calls Tryz.prog 158 #[.string ⟨s.toArray⟩, .pointer (some ⟨b1, 0, none⟩), .pointer (some ⟨b2, 0, none⟩)] w (StepPost (LineOk w word s tb o) (LineNo w word s tb)) := by
  have htl : tb < w.heap.size := World.block_lt_of_cell? w _ ht
  have hread : ∀ W, Below w.heap.size w W → Calls Tryz.prog 140 #[.string ⟨s.toArray⟩, .slice (some ⟨W.heap.size + 1 + 1 + 1, 0, none⟩) 2 2]
      ((((W.alloc (.cells #[.string ⟨word.toArray⟩] 9)).alloc (.cells #[.string ⟨#[10]⟩] 9)).alloc (.cells #[.pointer (some ⟨tb, o, none⟩)] 217)).alloc (.cells #[.func (.func 161) #[] #[.pointer (some ⟨W.heap.size, 0, none⟩)], .func (.func 174) #[] #[.pointer (some ⟨W.heap.size + 1, 0, none⟩), .pointer (some ⟨W.heap.size + 1 + 1, 0, none⟩)]] 215))
      (StepPost (LineOk w word s tb o) (LineNo w word s tb)) := fun W hW => by
    obtain ⟨k0, k1, k2, k3, k4, k5⟩ := line_blocks w W word (some ⟨tb, o, none⟩) hW
    refine (line_read s word hs _ (he.below k0) _ _ _ _ tb o old k1 k2 k3 k4 k5 ((k0.cell (p := ⟨tb, o, none⟩) htl).trans ht) ((World.frozen?_of_block (w := w) (a := ⟨tb, o, none⟩) (k0.block tb htl)).trans hf) hg).mono ?_
    rintro e w' (⟨r, rfl, h⟩ | ⟨r, p, rfl, h⟩)
    · exact .inl ⟨r, rfl, h.before k0 htl⟩
    · exact .inr ⟨r, p, rfl, h.before k0 he⟩
  have HR := Lib.hid hread
  have hsb : ∀ W, Below w.heap.size w W → W.cell? ⟨b1, 0, none⟩ = some (.string ⟨word.toArray⟩) ∧ W.cell? ⟨b2, 0, none⟩ = some (.pointer (some ⟨tb, o, none⟩)) := fun W hW => ⟨cell_to h1 hW, cell_to h2 hW⟩
  have HSB := Lib.hid hsb
  have hsg : ∀ W, w.grownBy W (some tb) → W.cell? ⟨b1, 0, none⟩ = some (.string ⟨word.toArray⟩) ∧ W.cell? ⟨b2, 0, none⟩ = some (.pointer (some ⟨tb, o, none⟩)) := fun W hW =>
    ⟨(World.cell?_of_block (w := w) (a := ⟨b1, 0, none⟩) (hW.block b1 (World.block_lt_of_cell? w _ h1) (fun e => n1 (Option.some.inj e)))).trans h1, (World.cell?_of_block (w := w) (a := ⟨b2, 0, none⟩) (hW.block b2 (World.block_lt_of_cell? w _ h2) (fun e => n2 (Option.some.inj e)))).trans h2⟩
  have HSG := Lib.hid hsg
  have B0 := Lib.hid (Below.refl w.heap.size w)
  clear he hs hsb hsg n1 n2 hread ht hf hg htl
  go_enter Tryz.func158, Tryz.ntmps158
  go_wp2_with fail
  have hS0 := And.intro h1 h2
  go_region_held3 (fun W => W.cell? ⟨b1, 0, none⟩ = some (.string ⟨word.toArray⟩) ∧ W.cell? ⟨b2, 0, none⟩ = some (.pointer (some ⟨tb, o, none⟩)))
    (first | exact hS0 | assumption | exact HSB.out _ (Below.drew ((((B0.out.alloc (Nat.le_refl _) _).alloc (by simp) _).alloc (by simp; omega) _).alloc (by simp; omega) _)) | go_keep)
    (first
      | (go_at_call 143; refine (past_mk _ _).mono ?_; rintro e w2 ⟨rfl, rfl⟩; have hS2 := HSB.out _ ((B0.out.drew).alloc (Nat.le_refl _) (.cells #[.string ⟨word.toArray⟩] 9)))
      | (go_at_call 154; refine (until_mk _ _ _).mono ?_; rintro e w2 ⟨rfl, rfl⟩; have hS3 := HSB.out _ ((((B0.out.drew).alloc (Nat.le_refl _) (.cells #[.string ⟨word.toArray⟩] 9)).alloc (by simp) (.cells #[.string ⟨#[10]⟩] 9)).alloc (by simp; omega) (.cells #[.pointer (some ⟨tb, o, none⟩)] 217)))
      | (go_at_call 140; refine (HR.out w.drew B0.out.drew).mono ?_; intro e w2 hQ; have HQ := Lib.hid hQ; obtain ⟨va, vb, rfl⟩ := hQ.ret; clear hQ; have hS4 := HSG.out w2 (line_grown HQ.out)))
  go_wp2_with fail
  go_ret2
  exact HQ.out
end Go.Proofs.YtngphfogomchfaaGreatDoor
