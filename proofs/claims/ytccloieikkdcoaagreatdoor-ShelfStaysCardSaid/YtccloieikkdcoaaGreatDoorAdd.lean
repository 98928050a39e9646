/-
  add: an act is played on the files as they are, and is loose.
-/
import Derived.Test.YtccloieikkdcoaaGreatDoorPlay
import Derived.Deep.RegionLaw
import Derived.Deep.AppendLies
import Derived.Deep.RegionHeld3
import Derived.Shelf.Abstract
namespace Go.Proofs.YtccloieikkdcoaaGreatDoor
open Go Go.RowKit Go.Maps Go.Shelf

theorem infoAct : (Tryz.prog.info? 81).map (fun i => (i.zero, i.size, i.bytes)) = some (some (.agg #[.string ⟨#[]⟩, .nilFunc]), 2, 24) := by kernel_rfl

/-- The paths of an act are no longer than may be. -/
def Act.fits : Act → Prop
  | .write p _ => p.length ≤ maxLen
  | .rename p q => p.length ≤ maxLen ∧ q.length ≤ maxLen
  | .remove p => p.length ≤ maxLen

/-- An act's function, called on a map. -/
theorem play_any {w : World} {base m : Nat} {t : Tb} {pv : Value} {a : Act} (ha : ActIn w base pv a) (hf : a.fits) (h : TabIn w base m t) (hl : t.length < maxLen) :
    ∃ g cap, pv = .func (.func g) #[] cap ∧ (∀ args w, (callFunc g args).run Tryz.prog w = .ok (.enter g args) w) ∧ Calls Tryz.prog g (#[.map (some m)] ++ cap) w (PlayPost base m (a.play t) w) := by
  cases a with
  | write p b =>
    obtain ⟨x, y, v, rfl, h1, h2, h3⟩ := ha
    exact ⟨_, _, rfl, enters_of Tryz.func70 (by kernel_rfl) rfl, playWrite h hl hf h1 h2 h3⟩
  | rename p q =>
    obtain ⟨x, y, rfl, h1, h2⟩ := ha
    exact ⟨_, _, rfl, enters_of Tryz.func71 (by kernel_rfl) rfl, playRename h hl hf.1 hf.2 h1 h2⟩
  | remove p =>
    obtain ⟨x, rfl, h1⟩ := ha
    exact ⟨_, _, rfl, enters_of Tryz.func72 (by kernel_rfl) rfl, playRemove h hf h1⟩

theorem cell_of_block {w : World} {b : Nat} {cs : Array Value} {t : TypeId} {fz : Nat × Nat} (h : w.heap[b]? = some (.cells cs t fz)) (i : Nat) : w.cell? ⟨b, i, none⟩ = cs[i]? := by simp [World.cell?, h]

theorem ownBlock_row {w : World} {base n : Nat} {lv : Value} {vs : List Value} (h : w.ownsRow base 81 2 lv n vs) {r : Nat} (hr : lv.ownBlock = some r) : base ≤ r ∧ ∃ cur, w.heap[r]? = some (.cells cur 81 (0, 0)) := by
  rcases h.2 with ⟨hn, _⟩ | ⟨gg, _, cur, hv, hb, hgg, _⟩
  · rw [hn] at hr; cases hr
  · rw [hv] at hr; cases hr; exact ⟨hb, cur, hgg⟩

/-- Behind add: what is loose has one act more. -/
theorem add_end {w w1 w2 w3 : World} {base s f y gg cap2 : Nat} {lv pv : Value} {st : St} {a : Act} {d : By} {t : Tb} {vs : List Value} {o : Obj} (hk1 : K base w w1) (h1 : Ok w1 base s f y lv st) (ha1 : ActIn w1 base pv a)
    (hg2 : w1.grownBy w2 (some f)) (ht2 : TabIn w2 base f t) (hown2 : w2.ownsRow base 81 2 lv st.loose.length vs) (hacts : ActsIn w1 base vs st.loose)
    (hgrow3 : (w2.alloc o).drew.grownBy w3 lv.ownBlock) (hown3 : w3.ownsRow base 81 2 (.slice (some ⟨gg, 0, none⟩) (st.loose.length + 1) cap2) (st.loose.length + 1) (vs ++ [S d, pv])) :
    K base w (w3.setCell ⟨s, 2, none⟩ (.slice (some ⟨gg, 0, none⟩) (st.loose.length + 1) cap2)) ∧
      Ok (w3.setCell ⟨s, 2, none⟩ (.slice (some ⟨gg, 0, none⟩) (st.loose.length + 1) cap2)) base s f y (.slice (some ⟨gg, 0, none⟩) (st.loose.length + 1) cap2) { st with files := t, loose := st.loose ++ [(d, a)] } := by
  have hbs := h1.base_le
  have k2 : K base w1 w2 := (K.refl _ _).turned hg2 hbs h1.files.1 h1.files.isMap
  have hbw : base ≤ w2.heap.size := Nat.le_trans hbs hg2.size
  have k3 : K base w1 (w2.alloc o).drew := (k2.alloc hbw o).drew
  have hgo : ∀ i, i < w2.heap.size → (w2.alloc o).drew.heap[i]? = w2.heap[i]? := fun i hi => Below.heap_alloc w2 o i hi
  have k4 : K base w1 w3 := k3.grown hgrow3 (by show base ≤ (w2.alloc o).heap.size; simp; omega) fun r hr => by
    obtain ⟨hb, cur, hc⟩ := ownBlock_row hown2 hr
    refine ⟨hb, fun c e fz h => ?_⟩
    rw [hgo r (lt_of_block hc), hc] at h
    cases h; rfl
  -- blocks that are as they were
  have hkeep : ∀ i, i < w1.heap.size → i ≠ f → lv.ownBlock ≠ some i → w3.heap[i]? = w1.heap[i]? := fun i hi hf hl => by
    have h2 : i < w2.heap.size := Nat.lt_of_lt_of_le hi hg2.size
    rw [hgrow3.block i (by show i < (w2.alloc o).heap.size; simp; omega) (fun e => hl e.symm), hgo i h2, hg2.block i hi (fun e => hf (by cases e; rfl))]
  obtain ⟨xf, cf, hmf⟩ := h1.files.isMap
  obtain ⟨xy, cy, hmy⟩ := h1.synced.isMap
  have hsf : s ≠ f := fun e => by rw [← e, h1.blk] at hmf; cases hmf
  have hsy : s ≠ y := fun e => by rw [← e, h1.blk] at hmy; cases hmy
  have row1 : ∀ r, lv.ownBlock = some r → ∃ cur, w1.heap[r]? = some (.cells cur 81 (0, 0)) := fun r hr => by
    obtain ⟨vs', hv, _⟩ := h1.loose
    exact (ownBlock_row hv hr).2
  have hls : lv.ownBlock ≠ some s := fun e => by obtain ⟨cur, hc⟩ := row1 _ e; rw [h1.blk] at hc; cases hc
  have hly : lv.ownBlock ≠ some y := fun e => by obtain ⟨cur, hc⟩ := row1 _ e; rw [hmy] at hc; cases hc
  have hlf : lv.ownBlock ≠ some f := fun e => by obtain ⟨cur, hc⟩ := row1 _ e; rw [hmf] at hc; cases hc
  have hs3 : w3.heap[s]? = some (.cells (shelfCells f y lv st) 70 (0, 0)) := (hkeep s (lt_of_block h1.blk) hsf hls).trans h1.blk
  have hy3 : w3.heap[y]? = w1.heap[y]? := hkeep y (lt_of_block hmy) h1.ne.symm hly
  have hf3 : w3.heap[f]? = w2.heap[f]? := by
    rw [hgrow3.block f (by show f < (w2.alloc o).heap.size; have := ht2.lt; simp; omega) (fun e => hlf e.symm), hgo f ht2.lt]
  have k5 : K base w1 (w3.setCell ⟨s, 2, none⟩ (.slice (some ⟨gg, 0, none⟩) (st.loose.length + 1) cap2)) := k4.setShelf hs3 h1.base_s 2 _
  have hset : ∀ i, i ≠ s → (w3.setCell ⟨s, 2, none⟩ (.slice (some ⟨gg, 0, none⟩) (st.loose.length + 1) cap2)).heap[i]? = w3.heap[i]? := fun i hi => Below.heap_setCell _ _ _ _ hi
  have k25 : K base w2 (w3.setCell ⟨s, 2, none⟩ (.slice (some ⟨gg, 0, none⟩) (st.loose.length + 1) cap2)) := by
    have k4' : K base w2 w3 := ((K.refl base w2).alloc hbw o).drew.grown hgrow3 (by show base ≤ (w2.alloc o).heap.size; simp; omega) fun r hr => by
      obtain ⟨hb, cur, hc⟩ := ownBlock_row hown2 hr
      refine ⟨hb, fun c e fz h => ?_⟩
      rw [hgo r (lt_of_block hc), hc] at h
      cases h; rfl
    exact k4'.setShelf hs3 h1.base_s 2 _
  refine ⟨hk1.trans k5, ?_, h1.base_s, h1.ne, ?_, ?_, ?_⟩
  · rw [set_block hs3]; rfl
  · exact ht2.keep k25 ((hset f hsf.symm).trans hf3)
  · exact h1.synced.keep k5 ((hset y hsy.symm).trans hy3)
  · refine ⟨vs ++ [S d, pv], ?_, ActsIn.snoc (a := (d, a)) rfl (ha1.keep k5) (hacts.keep k5)⟩
    rw [show (st.loose ++ [(d, a)]).length = st.loose.length + 1 by simp]
    refine ownsRow_setCell_other hown3 (fun e => ?_) _
    have e' : gg = s := by simpa [Value.ownBlock] using e
    obtain ⟨_, cur, hc⟩ := ownBlock_row hown3 (r := gg) rfl
    rw [e', hs3] at hc; cases hc

def AddPost (base s f y : Nat) (st : St) (w : World) (e : Ending) (w' : World) : Prop := e = .returned (.tuple #[]) ∧ K base w w' ∧ ∃ lv, Ok w' base s f y lv st

set_option maxHeartbeats 4000000 in
set_option maxRecDepth 100000 in
theorem add_any {w : World} {base s f y : Nat} {lv : Value} {st : St} (h : Ok w base s f y lv st) {pv : Value} {a : Act} {d : By} (ha : ActIn w base pv a) (hf : a.fits) (hl : st.files.length < maxLen) (hk : (st.loose.length + 1) * 24 ≤ 140737488355328) :
    Calls Tryz.prog 46 #[.pointer (some ⟨s, 0, none⟩), .agg #[S d, pv]] w (AddPost base s f y { st with files := a.play st.files, loose := st.loose ++ [(d, a)] } w) := by
  have hB1 : Below w.heap.size w (w.alloc (.cells #[S d, pv] 81)) := below_alloc _ _
  have h1 := h.keep hB1
  have ha1 := ha.keep (K.of_new hB1 h.base_le)
  obtain ⟨g, cap, rfl, hent, hpl⟩ := play_any (w := (w.alloc (.cells #[S d, pv] 81)).drew) (base := base) (m := f) (t := st.files) ha1 hf h1.files hl
  have Hpl := Lib.hid hpl
  have c0 := h1.c0
  have cb : (w.alloc (.cells #[S d, .func (.func g) #[] cap] 81)).cell? ⟨w.heap.size, 1, none⟩ = some (.func (.func g) #[] cap) := cell_of_block (heap_alloc_new w _) 1
  have hnf : w.heap.size ≠ f := by have := h.files.lt; omega
  have hsf : s ≠ f := by
    intro e; obtain ⟨xs, c, hm⟩ := h.files.isMap; rw [← e, h.blk] at hm; cases hm
  unfold S at cb Hpl c0
  have Hall := Lib.hid h1
  have Ha1 := Lib.hid ha1
  clear hpl ha1 h1 ha
  unfold S
  go_enter Tryz.func46, Tryz.ntmps46
  go_wp2_with fail
  go_region_held3 (fun w1 => w1.cell? ⟨w.heap.size, 1, none⟩ = some (.func (.func g) #[] cap) ∧ w1.cell? ⟨s, 0, none⟩ = some (.map (some f)))
    (first | exact ⟨cb, c0⟩ | go_keep | assumption)
    (first | (refine Hpl.out.mono ?_; rintro e w2 ⟨rfl, ht2, hg2⟩; have hS2 := And.intro (hg2.cell cb (by intro e; cases e; exact hnf rfl)) (hg2.cell c0 (by intro e; cases e; exact hsf rfl))))
  have hs2 : w2.heap[s]? = some (.cells (shelfCells f y lv st) 70 (0, 0)) := by
    rw [hg2.block s (lt_of_block Hall.out.blk) (by intro e; cases e; exact hsf rfl)]; exact Hall.out.blk
  have hbx : w2.heap[w.heap.size]? = some (.cells #[.string ⟨d.toArray⟩, .func (.func g) #[] cap] 81 (0, 0)) := by
    rw [hg2.block w.heap.size (by simp) (by intro e; cases e; exact hnf rfl)]; exact heap_alloc_new w _
  have d2 : w2.cell? ⟨s, 2, none⟩ = some lv := cell_of_block hs2 2
  have e2 : w2.frozen? ⟨s, 2, none⟩ = false := by simp [World.frozen?, hs2]
  have b0 : w2.cell? ⟨w.heap.size, 0, none⟩ = some (.string ⟨d.toArray⟩) := cell_of_block hbx 0
  have b1 : w2.cell? ⟨w.heap.size, 1, none⟩ = some (.func (.func g) #[] cap) := cell_of_block hbx 1
  obtain ⟨vs, hown0, hacts⟩ := Hall.out.loose
  have hlvf : lv.ownBlock ≠ some f := by
    intro e
    rcases hown0.2 with ⟨hn, _⟩ | ⟨gg, _, cur, hv, _, hgg, _⟩
    · rw [hn] at e; cases e
    · rw [hv] at e; cases e
      obtain ⟨xs, c, hm⟩ := Hall.out.files.isMap
      rw [hgg] at hm; cases hm
  have hown2 : w2.ownsRow base 81 2 lv st.loose.length vs := World.ownsRow.kept (w := (w.alloc (.cells #[S d, .func (.func g) #[] cap] 81)).drew) (w' := w2) hown0 hg2 (.inr hlvf)
  obtain ⟨i0, hi0, hz0, hz1, hz2⟩ := info_parts infoAct
  have hsz := hg2.size
  have hbw : base ≤ w2.heap.size := Nat.le_trans Hall.out.base_le hsz
  have hlvs : lv.ownBlock ≠ some s := by
    intro e
    rcases hown0.2 with ⟨hn, _⟩ | ⟨gg, _, cur, hv, _, hgg, _⟩
    · rw [hn] at e; cases e
    · rw [hv] at e; cases e
      rw [Hall.out.blk] at hgg; cases hgg
  have hslt := lt_of_block hs2
  clear hS2
  have hslt2 : s < ((w2.alloc (.cells #[.string ⟨d.toArray⟩, .func (.func g) #[] cap] 81)).drew).heap.size := by simp; omega
  go_wp2_with fail
  go_region_law (first | (refine step_append_lies _ (by rfl) _ _ _ (by rfl) base 81 i0 _ 2 24 Tryz.underlying68 hi0 hz0 hz1 hz2 rfl (by omega) lv st.loose.length vs (by rfl) ((hown2.alloc _).drew) ⟨w2.heap.size, 0, none⟩ 1 1 [.string ⟨d.toArray⟩, .func (.func g) #[] cap] (by rfl) (by rfl) (World.news_of_block (cs := #[.string ⟨d.toArray⟩, .func (.func g) #[] cap]) (t := 81) (fr := (0, 0)) (heap_alloc_new w2 _)) (by simp [Value.oneCell']) (by omega) (by unfold maxLen; omega) hk (by simp; omega) (w2.heap.size + 1) (by simp) ?_; intro gg cap2 w3 hown3 hgrow3 hat3 hlt3; have d3 := (hgrow3.cell_far ⟨s, 2, none⟩ hslt2 (Ne.symm hlvs)).trans ((World.cell?_alloc_lt w2 _ ⟨s, 2, none⟩ hslt).trans d2); have e3 := (hgrow3.frozen_far ⟨s, 2, none⟩ hslt2 (Ne.symm hlvs)).trans ((World.frozen?_alloc_old w2 _ ⟨s, 2, none⟩ (Nat.ne_of_lt hslt)).trans e2)))
  all_goals go_end0
  all_goals (
    have E := add_end (w := w) (K.of_new hB1 h.base_le) Hall.out Ha1.out (t := a.play st.files) (d := d) (gg := gg) (cap2 := cap2) (w3 := w3) (w2 := w2) (vs := vs) ⟨hg2.os, hg2.tape, hg2.output, hg2.size, hg2.block⟩ ht2 hown2 hacts hgrow3 hown3
    exact ⟨rfl, E.1, _, E.2⟩)
end Go.Proofs.YtccloieikkdcoaaGreatDoor
