/-
  Objects and maps as they lie in memory; a world that is as it was but for some blocks.
  Refs and updates as they lie in memory.
  Lines of refs, plain: how they are read.
  The plain side of num: decimals.
-/
import Derived.Laws.IdiomStrings
import Derived.WideAt
import Derived.WideShapes
import Derived.Lib.SlBytesConst
import Derived.Maps.OwnSet
import Derived.Maps.OwnIn
import Derived.Maps.Views
import Derived.Maps.AppendAt
import Derived.RangeFuncBox
import Derived.Test.YtnboagmibhllpaaGreatDoorC02
import Derived.Test.YtnboagmibhllpaaGreatDoorC03
import Derived.Test.YtnboagmibhllpaaGreatDoorC05
import Derived.Test.YtnboagmibhllpaaGreatDoorC01
import Derived.WalkKit
import Derived.Lib.ItoaNum
import Derived.Lib.Atoi
import Derived.Lib.AtoiAll
import Derived.Lib.AtoiTie

namespace Go.Proofs.YtnboagmibhllpaaGreatDoor
open Go Go.RowKit Go.Maps
/-- w' is w but for the blocks that S tells, and new ones. -/
structure But (S : Nat → Prop) (w w' : World) : Prop where
  os : w'.os = w.os
  tape : w'.tape = w.tape
  output : w'.output = w.output
  size : w.heap.size ≤ w'.heap.size
  block : ∀ k, k < w.heap.size → ¬ S k → w'.heap[k]? = w.heap[k]?
theorem But.refl (S : Nat → Prop) (w : World) : But S w w := ⟨rfl, rfl, rfl, Nat.le_refl _, fun _ _ _ => rfl⟩
theorem But.trans {S : Nat → Prop} {a b c : World} (h : But S a b) (k : But S b c) : But S a c :=
  ⟨k.os.trans h.os, k.tape.trans h.tape, k.output.trans h.output, Nat.le_trans h.size k.size, fun i hi hs => (k.block i (Nat.lt_of_lt_of_le hi h.size) hs).trans (h.block i hi hs)⟩
theorem But.mono {S T : Nat → Prop} {w w' : World} (h : But S w w') (hs : ∀ k, k < w.heap.size → S k → T k) : But T w w' :=
  ⟨h.os, h.tape, h.output, h.size, fun k hk hn => h.block k hk fun hS => hn (hs k hk hS)⟩
theorem But.of_below {B : Nat} {w w' : World} (h : Below B w w') : But (fun k => B ≤ k) w w' := ⟨h.os, h.tape, h.output, h.size, fun k _ hn => h.block k (Nat.lt_of_not_le hn)⟩
/-- Behind a call that turned nothing old. -/
theorem But.of_new {S : Nat → Prop} {w w' : World} (h : Below w.heap.size w w') : But S w w' := ⟨h.os, h.tape, h.output, h.size, fun k hk _ => h.block k hk⟩
theorem But.below {S : Nat → Prop} {w w' : World} {B : Nat} (h : But S w w') (hS : ∀ k, k < w.heap.size → S k → B ≤ k) (hB : B ≤ w.heap.size) : Below B w w' :=
  ⟨h.os, h.tape, h.output, h.size, fun k hk => h.block k (Nat.lt_of_lt_of_le hk hB) fun hs => by have := hS k (Nat.lt_of_lt_of_le hk hB) hs; omega⟩
theorem But.of_grown {w w' : World} {row : Option Nat} (h : w.grownBy w' row) : But (fun k => row = some k) w w' := ⟨h.os, h.tape, h.output, h.size, fun k hk hn => h.block k hk (fun e => hn e.symm)⟩
theorem But.cell {S : Nat → Prop} {w w' : World} (h : But S w w') {p : Addr} (hlt : p.block < w.heap.size) (hn : ¬ S p.block) : w'.cell? p = w.cell? p := World.cell?_of_block (w := w) (h.block p.block hlt hn)
theorem But.alloc {S : Nat → Prop} {a w : World} (h : But S a w) (o : Obj) : But S a (w.alloc o) := h.trans (But.of_new ((Below.refl _ w).alloc (Nat.le_refl _) o))
theorem But.drewN {S : Nat → Prop} {a w : World} (h : But S a w) (n : Nat) : But S a (w.drewN n) := h.trans ⟨rfl, rfl, rfl, Nat.le_refl _, fun _ _ _ => rfl⟩
theorem But.drew {S : Nat → Prop} {a w : World} (h : But S a w) : But S a w.drew := h.trans ⟨rfl, rfl, rfl, Nat.le_refl _, fun _ _ _ => rfl⟩
theorem But.setCell {S : Nat → Prop} {a w : World} (h : But S a w) {p : Addr} (hp : S p.block) (u : Value) : But S a (w.setCell p u) :=
  h.trans ⟨rfl, rfl, rfl, by simp [World.setCell], fun k _ hn => Below.heap_setCell _ _ _ _ (fun e => hn (by rw [e]; exact hp))⟩
theorem but_putObj {S : Nat → Prop} (w : World) (r : Nat) (o : Obj) (hr : S r) : But S w (w.putObj r o) :=
  ⟨rfl, rfl, rfl, by simp, fun k _ hn => World.putObj_heap_other (fun e => hn (by rw [e]; exact hr))⟩
theorem RdK.but {α : Type} {k : Nat} {f : α → List Value} {w w' : World} {v : Value} {l : List α} {S : Nat → Prop} (h : RdK k f w v l) (hb : But S w w') (hn : ∀ g, v.ownBlock = some g → ¬ S g) : RdK k f w' v l := by
  rcases h with h | ⟨g, o, c, rfl, hc, hg, hcell⟩
  · exact .inl h
  · exact .inr ⟨g, o, c, rfl, hc, Nat.lt_of_lt_of_le hg hb.size, fun j hj x hx i hi => by rw [hb.cell (p := ⟨g, o + j * k + i, none⟩) hg (hn g rfl)]; exact hcell j hj x hx i hi⟩
theorem RdK.but2 {α : Type} {k : Nat} {f : α → List Value} {w w' : World} {v : Value} {l : List α} {S : Nat → Prop} (h : RdK k f w v l) (hb : But S w w') (hn : 0 < l.length → ∀ g, v.ownBlock = some g → ¬ S g) : RdK k f w' v l := by
  rcases Nat.eq_zero_or_pos l.length with h0 | h0
  · obtain ⟨A, c, e⟩ := h.shape
    exact .inl ⟨⟨A, c, by rw [e, h0]⟩, List.length_eq_zero_iff.1 h0⟩
  · exact h.but hb (hn h0)
theorem row_but {w w' : World} {base n k : Nat} {t : TypeId} {v : Value} {xs : List Value} {S : Nat → Prop} (h : w.ownsRow base t k v n xs) (hb : But S w w') (hn : ∀ g, v.ownBlock = some g → ¬ S g) : w'.ownsRow base t k v n xs := by
  obtain ⟨h1, h2⟩ := h
  refine ⟨h1, ?_⟩
  rcases h2 with h2 | ⟨g, cap, cur, rfl, hbg, hg, r⟩
  · exact .inl h2
  · exact .inr ⟨g, cap, cur, rfl, hbg, (hb.block g (lt_heap hg) (hn g rfl)).trans hg, r⟩
theorem OwK.but {α : Type} {t : TypeId} {k : Nat} {f : α → List Value} {w w' : World} {base : Nat} {v : Value} {l : List α} {S : Nat → Prop} (h : OwK t k f w base v l) (hb : But S w w') (hn : ∀ g, v.ownBlock = some g → ¬ S g) : OwK t k f w' base v l := row_but h hb hn
theorem boxed_but {w w' : World} {b : Nat} {t : TypeId} {v : Value} {S : Nat → Prop} (h : Boxed w b t v) (hb : But S w w') (hn : ¬ S b) : Boxed w' b t v := (hb.block b h.lt hn).trans h
/-- What a slice owns is one block, above its base. -/
theorem own_block {w : World} {base n k : Nat} {t : TypeId} {v : Value} {xs : List Value} (h : w.ownsRow base t k v n xs) {g : Nat} (hg : v.ownBlock = some g) : base ≤ g ∧ g < w.heap.size ∧ ∃ cur, w.heap[g]? = some (.cells cur t (0, 0)) := by
  rcases h.2 with ⟨rfl, _⟩ | ⟨g', cap, cur, rfl, hb, hh, _⟩
  · cases hg
  · cases hg; exact ⟨hb, lt_heap hh, cur, hh⟩
theorem own_slice {w : World} {base n k : Nat} {t : TypeId} {v : Value} {xs : List Value} (h : w.ownsRow base t k v n xs) : ∃ A c, v = .slice A n c := by
  rcases h.2 with ⟨rfl, rfl⟩ | ⟨g, cap, cur, rfl, _⟩
  · exact ⟨_, _, rfl⟩
  · exact ⟨_, _, rfl⟩
end Go.Proofs.YtnboagmibhllpaaGreatDoor


namespace Go.Proofs.YtnboagmibhllpaaGreatDoor.Rf
open Go.Proofs.YtnboagmibhllpaaGreatDoor
open Go Go.RowKit
def refC (r : Ref) : List Value := [SV r.name, SV r.id]
theorem refC_len (r : Ref) : (refC r).length = 2 := rfl
theorem refC_one (r : Ref) : ∀ u ∈ refC r, u.oneCell' = true := fun u hu => by
  simp [refC] at hu; rcases hu with rfl | rfl <;> rfl
def RefsR (w : World) (v : Value) (l : List Ref) : Prop := RdK 2 refC w v l
theorem RdK.at {α : Type} {k : Nat} {f : α → List Value} {w : World} {g o n c : Nat} {l : List α} (h : RdK k f w (.slice (some ⟨g, o, none⟩) n c) l) {j : Nat} {x : α} (hx : l[j]? = some x) {i : Nat} (hi : i < k) {u : Value} (hu : (f x)[i]? = some u) : w.cell? ⟨g, o + j * k + i, none⟩ = some u := by
  have hj : j < l.length := (List.getElem?_eq_some_iff.1 hx).1
  rcases h with ⟨_, rfl⟩ | ⟨g', o', c', e, hc, hg, hcell⟩
  · simp at hj
  · cases e
    rw [hcell j hj x hx i hi]; exact hu
theorem RefsR.cells {w : World} {g o n c : Nat} {l : List Ref} (h : RefsR w (.slice (some ⟨g, o, none⟩) n c) l) {k : Nat} {x : Ref} (hx : l[k]? = some x) :
    w.cell? ⟨g, o + k * 2, none⟩ = some (SV x.name) ∧ w.cell? ⟨g, o + k * 2 + 1, none⟩ = some (SV x.id) := ⟨RdK.at h hx (i := 0) (by decide) rfl, RdK.at h hx (i := 1) (by decide) rfl⟩
theorem elRef : ElK (α := Ref) 40 75 2 32 refC where
  ut := Tryz.underlying40
  info := ⟨.agg #[.string ⟨#[]⟩, .string ⟨#[]⟩], by kernel_rfl, rfl⟩
  pos := by decide
  len := refC_len
  one := refC_one
/-- Texts that are no longer than a text may be. -/
def Fit (l : List Ref) : Prop := ∀ r ∈ l, r.name.length ≤ maxLen ∧ r.id.length ≤ maxLen
open Classical in
noncomputable def rightB (l : List Ref) : Bool := decide (Right l)
theorem rightB_yes {l : List Ref} (h : Right l) : rightB l = true := by unfold rightB; simp [h]
theorem rightB_no {l : List Ref} (h : ¬ Right l) : rightB l = false := by unfold rightB; simp [h]
theorem above_lt {a b : Bs} (h : aboveB a b = true) : a < b := by
  obtain ⟨t, rfl⟩ := List.isPrefixOf_iff_prefix.1 h
  induction a with
  | nil => exact List.nil_lt_cons _ _
  | cons c a ih => rw [List.cons_append, List.cons_append, List.cons_lt_cons_iff]; exact .inr ⟨rfl, ih (List.isPrefixOf_iff_prefix.2 ⟨t, rfl⟩)⟩
def OkTo (l : List Ref) (k : Nat) : Prop := (∀ r ∈ l.take k, nameB r.name = true ∧ namedB r.id = true) ∧ (l.take k).Pairwise fun a b => a.name < b.name ∧ aboveB a.name b.name = false
theorem OkTo.zero (l : List Ref) : OkTo l 0 := ⟨fun r hr => by simp at hr, by simp⟩
def AheadTo (l : List Ref) (x : Ref) (j : Nat) : Prop := ∀ i, i < j → ∀ y, l[i]? = some y → y.name < x.name ∧ aboveB y.name x.name = false
theorem AheadTo.zero (l : List Ref) (x : Ref) : AheadTo l x 0 := fun _ hi => absurd hi (Nat.not_lt_zero _)
theorem AheadTo.succ {l : List Ref} {x y : Ref} {j : Nat} (h : AheadTo l x j) (hy : l[j]? = some y) (h1 : y.name < x.name) (h2 : aboveB y.name x.name = false) : AheadTo l x (j + 1) := fun i hi z hz => by
  rcases Nat.lt_or_ge i j with hlt | hge
  · exact h i hlt z hz
  · have e : i = j := by omega
    rw [e, hy] at hz
    cases hz; exact ⟨h1, h2⟩
theorem OkTo.succ {l : List Ref} {k : Nat} {x : Ref} (h : OkTo l k) (hx : l[k]? = some x) (h1 : nameB x.name = true) (h2 : namedB x.id = true) (h3 : AheadTo l x k) : OkTo l (k + 1) := by
  unfold OkTo
  rw [List.take_add_one, hx, Option.toList_some]
  refine ⟨fun r hr => ?_, List.pairwise_append.2 ⟨h.2, List.pairwise_singleton _ _, fun a ha b hb => ?_⟩⟩
  · rcases List.mem_append.1 hr with hr | hr
    · exact h.1 r hr
    · rw [List.mem_singleton.1 hr]; exact ⟨h1, h2⟩
  · rw [List.mem_singleton.1 hb]
    obtain ⟨i, hi, e⟩ := List.mem_iff_getElem.1 ha
    rw [List.length_take] at hi
    exact h3 i (by omega) a (by rw [← e, List.getElem_take]; exact List.getElem?_eq_getElem (by omega))
theorem OkTo.right {l : List Ref} (h : OkTo l l.length) (h64 : l.length ≤ 64) : Right l := by
  unfold OkTo at h
  rw [List.take_length] at h
  refine ⟨h64, fun r hr => (h.1 r hr).1, fun r hr => (h.1 r hr).2, h.2.imp fun hh => hh.1, fun a ha b hb => ?_⟩
  obtain ⟨i, hi, rfl⟩ := List.mem_iff_getElem.1 ha
  obtain ⟨j, hj, rfl⟩ := List.mem_iff_getElem.1 hb
  have hp := List.pairwise_iff_getElem.1 h.2
  cases hab : aboveB l[i].name l[j].name with
  | false => rfl
  | true =>
    exfalso
    have hlt := above_lt hab
    rcases Nat.lt_trichotomy i j with hij | hij | hij
    · rw [(hp i j hi hj hij).2] at hab; cases hab
    · subst hij; exact lt_irr _ hlt
    · exact lt_irr _ (lt_tr hlt (hp j i hj hi hij).1)
theorem no_name {l : List Ref} {k : Nat} {x : Ref} (hx : l[k]? = some x) (h : nameB x.name = false) : ¬ Right l := fun hr => by
  have := hr.name x (List.mem_of_getElem? hx); rw [h] at this; cases this
theorem no_id {l : List Ref} {k : Nat} {x : Ref} (hx : l[k]? = some x) (h : namedB x.id = false) : ¬ Right l := fun hr => by
  have := hr.id x (List.mem_of_getElem? hx); rw [h] at this; cases this
theorem no_rise {l : List Ref} {j k : Nat} {x y : Ref} (hx : l[k]? = some x) (hy : l[j]? = some y) (hjk : j < k) (h : ¬ y.name < x.name) : ¬ Right l := fun hr => by
  obtain ⟨hk, rfl⟩ := List.getElem?_eq_some_iff.1 hx
  obtain ⟨hj, rfl⟩ := List.getElem?_eq_some_iff.1 hy
  exact h (List.pairwise_iff_getElem.1 hr.rise j k hj hk hjk)
theorem no_above {l : List Ref} {j k : Nat} {x y : Ref} (hx : l[k]? = some x) (hy : l[j]? = some y) (h : aboveB y.name x.name = true) : ¬ Right l := fun hr => by
  have := hr.above y (List.mem_of_getElem? hy) x (List.mem_of_getElem? hx); rw [h] at this; cases this
end Go.Proofs.YtnboagmibhllpaaGreatDoor.Rf


namespace Go.Proofs.YtnboagmibhllpaaGreatDoor.Rf
open Go.Proofs.YtnboagmibhllpaaGreatDoor
theorem cut_mk {c : UInt8} : ∀ {a r : Bs}, c ∉ a → cutAt c (a ++ c :: r) = some (a, r)
  | [], r, _ => by simp [cutAt]
  | x :: a, r, h => by
    have hx : ¬ x = c := fun e => h (by rw [e]; simp)
    rw [List.cons_append, cutAt, if_neg hx, cut_mk fun hm => h (List.mem_cons_of_mem _ hm)]; rfl
theorem cut_no {c : UInt8} : ∀ {s : Bs}, cutAt c s = none → c ∉ s
  | [], _ => by simp
  | x :: s, h => by
    rw [cutAt] at h
    by_cases hx : x = c
    · rw [if_pos hx] at h; cases h
    · rw [if_neg hx, Option.map_eq_none_iff] at h
      intro hm
      rcases List.mem_cons.1 hm with e | hm
      · exact hx e.symm
      · exact cut_no h hm
theorem mem_parts : ∀ {s : Bs} {c : UInt8}, c ∈ s → c = 47 ∨ ∃ p ∈ parts s, c ∈ p
  | [], c, h => by cases h
  | x :: s, c, h => by
    by_cases hx : x = 47
    · rcases List.mem_cons.1 h with e | h
      · exact .inl (e.trans hx)
      · rcases mem_parts h with h | ⟨p, hp, hc⟩
        · exact .inl h
        · exact .inr ⟨p, by rw [hx, parts_slash]; exact List.mem_cons_of_mem _ hp, hc⟩
    · cases hp : parts s with
      | nil => exact absurd hp (parts_ne s)
      | cons q r =>
        rw [parts_cons x hx s q r hp]
        rcases List.mem_cons.1 h with e | h
        · exact .inr ⟨x :: q, List.mem_cons_self, by rw [e]; simp⟩
        · rcases mem_parts h with h | ⟨p, hpm, hc⟩
          · exact .inl h
          · rw [hp] at hpm
            rcases List.mem_cons.1 hpm with rfl | hpm
            · exact .inr ⟨x :: p, List.mem_cons_self, List.mem_cons_of_mem _ hc⟩
            · exact .inr ⟨p, List.mem_cons_of_mem _ hpm, hc⟩
theorem name_char {s : Bs} (h : nameB s = true) {c : UInt8} (hc : c ∈ s) : c ≠ 10 ∧ c ≠ 32 := by
  rcases mem_parts hc with rfl | ⟨p, hp, hcp⟩
  · exact ⟨by decide, by decide⟩
  · unfold nameB at h
    simp only [Bool.and_eq_true] at h
    obtain ⟨⟨_, hf⟩, hr⟩ := h
    cases hps : parts s with
    | nil => exact absurd hps (parts_ne s)
    | cons q r =>
      rw [hps] at hp hf hr
      rcases List.mem_cons.1 hp with rfl | hp
      · have hf : firstB p = true := hf
        unfold firstB at hf
        simp only [Bool.or_eq_true, beq_iff_eq] at hf
        rcases hf with rfl | rfl
        · simp [wHeads] at hcp
          rcases hcp with rfl | rfl | rfl | rfl | rfl <;> decide
        · simp [wTags] at hcp
          rcases hcp with rfl | rfl | rfl | rfl <;> decide
      · have hq := List.all_eq_true.1 hr p hp
        unfold partB at hq
        simp only [Bool.and_eq_true] at hq
        have hb := List.all_eq_true.1 hq.2 c hcp
        constructor <;> (rintro rfl; revert hb; decide)
theorem named_char {s : Bs} (h : namedB s = true) {c : UInt8} (hc : c ∈ s) : c ≠ 10 ∧ c ≠ 32 := by
  unfold namedB at h
  simp only [Bool.and_eq_true] at h
  have hb := List.all_eq_true.1 h.2 c hc
  constructor <;> (rintro rfl; revert hb; decide)
/-- A right ref's line, read. -/
theorem line_cut {x : Ref} (h1 : nameB x.name = true) (h2 : namedB x.id = true) (r : Bs) : cutAt 10 (lineL x ++ r) = some (x.id ++ 32 :: x.name, r) ∧ cutAt 32 (x.id ++ 32 :: x.name) = some (x.id, x.name) := by
  constructor
  · have e : lineL x ++ r = (x.id ++ 32 :: x.name) ++ 10 :: r := by unfold lineL; simp
    rw [e]
    refine cut_mk fun hm => ?_
    rcases List.mem_append.1 hm with hm | hm
    · exact (named_char h2 hm).1 rfl
    · rcases List.mem_cons.1 hm with e | hm
      · cases e
      · exact (name_char h1 hm).1 rfl
  · exact cut_mk fun hm => (named_char h2 hm).2 rfl
theorem linesL_cons (x : Ref) (l : List Ref) : linesL (x :: l) = lineL x ++ linesL l := rfl
theorem linesL_app (l m : List Ref) : linesL (l ++ m) = linesL l ++ linesL m := List.flatMap_append
/-- Lines are those of one list alone. -/
theorem lines_inj : ∀ {l m : List Ref}, (∀ x ∈ l, nameB x.name = true ∧ namedB x.id = true) → (∀ x ∈ m, nameB x.name = true ∧ namedB x.id = true) → linesL l = linesL m → l = m
  | [], [], _, _, _ => rfl
  | [], y :: m, _, _, h => by rw [linesL_cons] at h; have := congrArg List.length h; simp [linesL, lineL] at this
  | x :: l, [], _, _, h => by rw [linesL_cons] at h; have := congrArg List.length h; simp [linesL, lineL] at this
  | x :: l, y :: m, hl, hm, h => by
    have hx := hl x List.mem_cons_self
    have hy := hm y List.mem_cons_self
    rw [linesL_cons, linesL_cons] at h
    obtain ⟨a1, a2⟩ := line_cut hx.1 hx.2 (linesL l)
    obtain ⟨b1, b2⟩ := line_cut hy.1 hy.2 (linesL m)
    rw [h, b1] at a1
    injection a1 with a1
    injection a1 with a3 a4
    rw [← a3, b2] at a2
    injection a2 with a2
    injection a2 with a5 a6
    rw [Ref.ext' a6.symm a5.symm, lines_inj (fun z hz => hl z (List.mem_cons_of_mem _ hz)) (fun z hz => hm z (List.mem_cons_of_mem _ hz)) a4.symm]
theorem Right.each {l : List Ref} (h : Right l) : ∀ x ∈ l, nameB x.name = true ∧ namedB x.id = true := fun x hx => ⟨h.name x hx, h.id x hx⟩
theorem IsGet.unique {s : Bs} {l m : List Ref} (h : IsGet s l) (k : IsGet s m) : l = m := lines_inj h.1.each k.1.each (h.2.trans k.2.symm)
/-- What is read so far. -/
structure GetI (s0 s : Bs) (l : List Ref) : Prop where
  eq : (∃ r ∈ l, r.name = []) ∨ s0 = linesL l ++ s
  all : ∀ m, IsGet s0 m → ∃ t, m = l ++ t ∧ linesL t = s
  len : l.length ≤ 64
  fit : ∀ r ∈ l, r.name.length ≤ s0.length ∧ r.id.length ≤ s0.length
  sl : s.length ≤ s0.length
theorem GetI.start (s : Bs) : GetI s s [] := ⟨.inr rfl, fun m h => ⟨m, rfl, h.2⟩, Nat.zero_le _, (fun _ h => by cases h), Nat.le_refl _⟩
theorem GetI.no_end {s0 s : Bs} {l : List Ref} (h : GetI s0 s l) (hs : s ≠ []) (hc : cutAt 10 s = none) : ∀ m, ¬ IsGet s0 m := fun m hm => by
  obtain ⟨t, _, ht⟩ := h.all m hm
  cases t with
  | nil => exact hs ht.symm
  | cons r t =>
    rw [linesL_cons] at ht
    refine cut_no hc ?_
    rw [← ht]; simp [lineL]
theorem GetI.full {s0 s : Bs} {l : List Ref} (h : GetI s0 s l) (hs : s ≠ []) (hl : l.length = 64) : ∀ m, ¬ IsGet s0 m := fun m hm => by
  obtain ⟨t, e, ht⟩ := h.all m hm
  cases t with
  | nil => exact hs ht.symm
  | cons r t =>
    have := hm.1.len
    rw [e] at this; simp at this; omega
theorem GetI.step {s0 s line rest : Bs} {l : List Ref} (h : GetI s0 s l) (hl : l.length < 64) (hc : cutAt 10 s = some (line, rest)) (x : Ref)
    (hx : cutAt 32 line = some (x.id, x.name) ∨ cutAt 32 line = none ∧ x.id = line ∧ x.name = []) : GetI s0 rest (l ++ [x]) ∧ rest.length < s.length := by
  obtain ⟨e, _⟩ := cutAt_some hc
  have hlen : s.length = line.length + 1 + rest.length := by rw [e]; simp; omega
  have hxl : x.name.length ≤ line.length ∧ x.id.length ≤ line.length := by
    rcases hx with hx | ⟨_, h1, h2⟩
    · obtain ⟨e2, _⟩ := cutAt_some hx
      rw [e2]; simp; omega
    · rw [h1, h2]; exact ⟨Nat.zero_le _, Nat.le_refl _⟩
  have hsl := h.sl
  refine ⟨⟨?_, fun m hm => ?_, by simp; omega, fun r hr => ?_, by omega⟩, by omega⟩
  · rcases hx with hx | ⟨_, _, h2⟩
    · rcases h.eq with ⟨r, hr, h3⟩ | h3
      · exact .inl ⟨r, List.mem_append_left _ hr, h3⟩
      · obtain ⟨e2, _⟩ := cutAt_some hx
        refine .inr ?_
        rw [h3, linesL_app, e, e2]
        show _ = linesL l ++ (lineL x ++ []) ++ rest
        unfold lineL
        simp
    · exact .inl ⟨x, by simp, h2⟩
  · obtain ⟨t, e1, ht⟩ := h.all m hm
    cases t with
    | nil =>
      have : s.length = 0 := by rw [← ht]; rfl
      omega
    | cons r t =>
      rw [linesL_cons] at ht
      have hr : r ∈ m := by rw [e1]; simp
      obtain ⟨a1, a2⟩ := line_cut (hm.1.name r hr) (hm.1.id r hr) (linesL t)
      rw [ht, hc] at a1
      injection a1 with a1
      injection a1 with a3 a4
      rw [← a3] at a2
      rcases hx with hx | ⟨hx, _, _⟩
      · rw [hx] at a2
        injection a2 with a2
        injection a2 with a5 a6
        refine ⟨t, ?_, a4.symm⟩
        rw [e1, ← Ref.ext' a6 a5]; simp
      · rw [hx] at a2; cases a2
  · rcases List.mem_append.1 hr with hr | hr
    · exact h.fit r hr
    · rw [List.mem_singleton.1 hr]; omega
theorem GetI.yes {s0 : Bs} {l : List Ref} (h : GetI s0 [] l) (hr : Right l) : IsGet s0 l := by
  rcases h.eq with ⟨r, hm, h3⟩ | h3
  · have := hr.name r hm
    rw [h3] at this; cases this
  · exact ⟨hr, by rw [h3]; simp⟩
theorem GetI.no {s0 : Bs} {l : List Ref} (h : GetI s0 [] l) (hr : ¬ Right l) : ∀ m, ¬ IsGet s0 m := fun m hm => by
  obtain ⟨t, e, ht⟩ := h.all m hm
  cases t with
  | nil => rw [List.append_nil] at e; rw [← e] at hr; exact hr hm.1
  | cons r t => rw [linesL_cons] at ht; have := congrArg List.length ht; simp [lineL] at this
end Go.Proofs.YtnboagmibhllpaaGreatDoor.Rf


namespace Go.Proofs.YtnboagmibhllpaaGreatDoor.Nu
open Go.Lib
/-- The number whose decimals a text is. -/
def decL (s : List UInt8) : Option Nat :=
  match atoiAll s with
  | .ok v => if 0 ≤ v ∧ v ≤ 1099511627776 ∧ decDigits v.toNat = s then some v.toNat else none
  | _ => none
theorem dd_lo {u : Nat} (h : u < 10) : decDigits u = [UInt8.ofNat (48 + u)] := by rw [decDigits, dif_pos h]
theorem dd_hi {u : Nat} (h : 10 ≤ u) : decDigits u = decDigits (u / 10) ++ [UInt8.ofNat (48 + u % 10)] := by rw [decDigits, dif_neg (by omega)]
theorem dd_pos (u : Nat) : 1 ≤ (decDigits u).length := by rw [decDigits_length]; exact nDigits_pos u
theorem nd_len : ∀ (k u : Nat), u < 10 ^ (k + 1) → nDigits u ≤ k + 1
  | k, u, h => by
    by_cases hu : u < 10
    · rw [nDigits_small hu]; omega
    · rw [nDigits_big hu]
      cases k with
      | zero => rw [Nat.pow_one] at h; omega
      | succ k =>
        rw [Nat.pow_succ] at h
        have := nd_len k (u / 10) (by omega)
        omega
theorem dd_13 {u : Nat} (h : u ≤ 1099511627776) : (decDigits u).length ≤ 13 := by
  rw [decDigits_length]; exact nd_len 12 u (Nat.lt_of_le_of_lt h (by decide))
theorem decFrom_snoc (c : UInt8) : ∀ (l : List UInt8) (acc : Nat), decFrom acc (l ++ [c]) = (decFrom acc l).bind fun n => (digitVal c).map fun d => n * 10 + d
  | [], acc => by
    simp only [List.nil_append, decFrom]
    cases digitVal c <;> rfl
  | b :: l, acc => by
    simp only [List.cons_append, decFrom]
    cases digitVal b with
    | none => rfl
    | some d => exact decFrom_snoc c l _
theorem dv_of {d : Nat} (h : d < 10) : digitVal (UInt8.ofNat (48 + d)) = some d := by
  have e : (UInt8.ofNat (48 + d)).toNat = 48 + d := by rw [UInt8.toNat_ofNat']; omega
  unfold digitVal
  rw [e, if_pos (by omega), Nat.add_sub_cancel_left]
theorem dec_dd (n : Nat) : decFrom 0 (decDigits n) = some n := by
  by_cases h : n < 10
  · rw [dd_lo h, ← List.nil_append [UInt8.ofNat (48 + n)], decFrom_snoc, dv_of h]
    simp [decFrom]
  · rw [dd_hi (by omega), decFrom_snoc, dec_dd (n / 10), dv_of (show n % 10 < 10 by omega)]
    simp only [Option.bind_some, Option.map_some, Option.some.injEq]
    omega
termination_by n
decreasing_by omega
theorem dd_digit : ∀ (n : Nat), ∀ c ∈ decDigits n, 48 ≤ c.toNat ∧ c.toNat ≤ 57
  | n, c, hc => by
    by_cases h : n < 10
    · rw [dd_lo h] at hc
      have : c = UInt8.ofNat (48 + n) := by simpa using hc
      rw [this, UInt8.toNat_ofNat']; omega
    · rw [dd_hi (by omega)] at hc
      rcases List.mem_append.1 hc with hc | hc
      · exact dd_digit (n / 10) c hc
      · have : c = UInt8.ofNat (48 + n % 10) := by simpa using hc
        rw [this, UInt8.toNat_ofNat']; omega
termination_by n => n
decreasing_by omega
/-- No nought stands ahead. -/
theorem dd_head : ∀ (n : Nat), 0 < n → ∃ c t, decDigits n = c :: t ∧ 49 ≤ c.toNat
  | n, hn => by
    by_cases h : n < 10
    · refine ⟨_, [], dd_lo h, ?_⟩
      rw [UInt8.toNat_ofNat']; omega
    · obtain ⟨c, t, e, hc⟩ := dd_head (n / 10) (by omega)
      exact ⟨c, t ++ [UInt8.ofNat (48 + n % 10)], by rw [dd_hi (by omega), e]; rfl, hc⟩
termination_by n => n
decreasing_by omega
theorem dd_zero : decDigits 0 = [48] := by rw [dd_lo (by omega)]; rfl
theorem dec_pos_of : ∀ (l : List UInt8) (acc n : Nat), decFrom acc l = some n → 0 < acc → 0 < n
  | [], acc, n, h, h0 => by simp only [decFrom, Option.some.injEq] at h; omega
  | b :: l, acc, n, h, h0 => by
    simp only [decFrom] at h
    cases hd : digitVal b with
    | none => rw [hd] at h; cases h
    | some d => rw [hd] at h; exact dec_pos_of l _ n h (by omega)
/-- A text of digits without a nought ahead is its number's decimals. -/
theorem dd_dec : ∀ (m : Nat) (l : List UInt8) (n : Nat), l.length = m → l ≠ [] → (1 < l.length → l.head? ≠ some 48) → decFrom 0 l = some n → decDigits n = l
  | 0, l, n, hm, hne, _, _ => absurd (List.length_eq_zero_iff.1 hm) hne
  | m + 1, l, n, hm, hne, hh, hd => by
    obtain ⟨t, c, rfl⟩ : ∃ t c, l = t ++ [c] := ⟨l.dropLast, l.getLast hne, (List.dropLast_concat_getLast hne).symm⟩
    rw [decFrom_snoc] at hd
    cases ht : decFrom 0 t with
    | none => rw [ht] at hd; cases hd
    | some n' =>
      rw [ht] at hd
      cases hc : digitVal c with
      | none => rw [hc] at hd; cases hd
      | some d =>
        rw [hc] at hd
        simp only [Option.bind_some, Option.map_some, Option.some.injEq] at hd
        obtain ⟨c1, c2, c3⟩ := digitVal_eq hc
        have ec : UInt8.ofNat (48 + d) = c := UInt8.toNat_inj.1 (by rw [UInt8.toNat_ofNat']; omega)
        by_cases ht0 : t = []
        · subst ht0
          simp only [decFrom, Option.some.injEq] at ht
          rw [List.nil_append, dd_lo (by omega), ← ec, show n = d by omega]
        · obtain ⟨a, r, rfl⟩ := List.exists_cons_of_ne_nil ht0
          have ha : a ≠ 48 := fun e => hh (by simp) (by rw [e]; rfl)
          have hp : 0 < n' := by
            simp only [decFrom] at ht
            cases hda : digitVal a with
            | none => rw [hda] at ht; cases ht
            | some e =>
              rw [hda] at ht
              obtain ⟨a1, a2, a3⟩ := digitVal_eq hda
              have : a.toNat ≠ 48 := fun h => ha (UInt8.toNat_inj.1 h)
              exact dec_pos_of r _ n' ht (by omega)
          have ih := dd_dec m (a :: r) n' (by simpa using hm) (by simp) (fun _ => by simpa using ha) ht
          rw [dd_hi (by omega), show n / 10 = n' by omega, show n % 10 = d by omega, ih, ec]
theorem atoi_dd {n : Nat} (h : n ≤ 1099511627776) : atoiAll (decDigits n) = .ok (n : Int) := by
  rw [atoiAll_short _ (by have := dd_13 h; omega)]
  obtain ⟨c, t, e⟩ := List.exists_cons_of_ne_nil (l := decDigits n) (fun e => by have := dd_pos n; rw [e] at this; simp at this)
  have hc := dd_digit n c (by rw [e]; simp)
  have h45 : (c == 45) = false := by
    rw [beq_eq_false_iff_ne]; rintro rfl; exact absurd hc.1 (by decide)
  have h43 : (c == 43) = false := by
    rw [beq_eq_false_iff_ne]; rintro rfl; exact absurd hc.1 (by decide)
  have hn : decNat (c :: t) = some n := by
    unfold decNat
    rw [if_neg (by simp), ← e]; exact dec_dd n
  rw [e, atoi, if_neg (by rw [h45]; decide), if_neg (by rw [h43]; decide), hn]
  rfl
theorem decL_some {s : List UInt8} {n : Nat} (h : decL s = some n) : n ≤ 1099511627776 ∧ decDigits n = s := by
  unfold decL at h
  split at h
  · split at h
    · rename_i hv
      have : n = _ := (Option.some.inj h).symm
      rw [this]
      exact ⟨by omega, hv.2.2⟩
    · cases h
  · cases h
theorem decL_dd {n : Nat} (h : n ≤ 1099511627776) : decL (decDigits n) = some n := by
  unfold decL
  rw [atoi_dd h]
  have e : ((n : Int)).toNat = n := Int.toNat_natCast n
  show (if 0 ≤ (n : Int) ∧ (n : Int) ≤ 1099511627776 ∧ decDigits (n : Int).toNat = decDigits n then some (n : Int).toNat else none) = some n
  rw [e, if_pos ⟨by omega, by omega, rfl⟩]
theorem decL_none {s : List UInt8} (h : ∀ n, n ≤ 1099511627776 → decDigits n ≠ s) : decL s = none := by
  cases hd : decL s with
  | none => rfl
  | some n => exact absurd (decL_some hd).2 (h n (decL_some hd).1)
/-- What the document's reader finds. -/
theorem decL_len0 : decL [] = none := decL_none fun n _ e => by have := dd_pos n; rw [e] at this; simp at this
theorem decL_long {s : List UInt8} (h : 13 < s.length) : decL s = none := decL_none fun n hn e => by have := dd_13 hn; rw [e] at this; omega
theorem decL_nought {s : List UInt8} (h : 1 < s.length) (h0 : s.head? = some 48) : decL s = none := decL_none fun n _ e => by
  by_cases hz : n = 0
  · subst hz; rw [← e, dd_zero] at h; simp at h
  · obtain ⟨c, t, e2, hc⟩ := dd_head n (by omega)
    rw [← e, e2] at h0
    have : c = 48 := by simpa using h0
    rw [this] at hc; exact absurd hc (by decide)
theorem decL_other {s : List UInt8} (c : UInt8) (hc : c ∈ s) (h : ¬ (48 ≤ c.toNat ∧ c.toNat ≤ 57)) : decL s = none := decL_none fun n _ e => h (dd_digit n c (by rw [e]; exact hc))
theorem decL_num {s : List UInt8} {n : Nat} (h0 : s ≠ []) (h1 : 1 < s.length → s.head? ≠ some 48) (h : decFrom 0 s = some n) : decL s = if n ≤ 1099511627776 then some n else none := by
  have e := dd_dec _ s n rfl h0 h1 h
  by_cases hn : n ≤ 1099511627776
  · rw [if_pos hn, ← e]; exact decL_dd hn
  · rw [if_neg hn]
    refine decL_none fun m hm e2 => ?_
    have := dec_dd m
    rw [e2, h] at this
    have := Option.some.inj this
    omega
end Go.Proofs.YtnboagmibhllpaaGreatDoor.Nu
