/-
  writeChange, PutChange.
  head: a live question, whose answer is fixed.
  Plain: what names come to.
  Plain: what layer 5's laws say of what names come to.
  Objects and maps as they lie in memory; a world that is as it was but for some blocks.
-/
import Derived.Test.YtialgldmogigfaaGreatDoorC06
import Derived.Lib.SlBytesConst
import Derived.Test.YtialgldmogigfaaGreatDoorC10
import Derived.Test.YtialgldmogigfaaGreatDoorC12
import Derived.Maps.OwnSet
import Derived.Maps.OwnIn
import Derived.Maps.Views
import Derived.Maps.AppendAt
import Derived.RangeFuncBox

namespace Go.Proofs.YtialgldmogigfaaGreatDoor
open Go Go.RowKit Go.Shelf
theorem parL_snoc (l : List (List UInt8)) (k : Nat) (hk : k < l.length) : parL (l.take (k + 1)) = parL (l.take k) ++ (wParent ++ (l.getD k [] ++ [10])) := by
  rw [take_getD l [] k hk]; simp [parL]
theorem parL_cons (x : List UInt8) (l : List (List UInt8)) : parL (x :: l) = (wParent ++ (x ++ [10])) ++ parL l := rfl
theorem parL_len : ∀ {l : List (List UInt8)}, (∀ x ∈ l, namedB x = true) → (parL l).length ≤ 72 * l.length
  | [], _ => by simp [parL]
  | x :: l, h => by
    have h1 := named_len64 (h x (by simp))
    have h2 := parL_len (l := l) (fun y hy => h y (List.mem_cons_of_mem _ hy))
    have e2 : (wParent ++ (x ++ [10])).length = x.length + 8 := by simp [wParent]
    rw [parL_cons, List.length_append, e2, List.length_cons]
    omega
/-- What PutChange answers. -/
def putCV (c : Chg) : Value := .tuple #[SV (if rightC c then putC c else []), .bool (rightC c)]
theorem putCV_yes {c : Chg} (h : rightC c = true) : putCV c = .tuple #[SV (putC c), .bool true] := by unfold putCV; rw [h]; rfl
theorem putCV_no {c : Chg} (h : rightC c = false) : putCV c = .tuple #[.string ⟨#[]⟩, .bool false] := by unfold putCV; rw [h]; rfl
end Go.Proofs.YtialgldmogigfaaGreatDoor


namespace Go.Proofs.YtialgldmogigfaaGreatDoor
open Go Go.RowKit Go.Shelf
/-- What layer 4 asks of a world. -/
structure Ob (w : World) : Prop where
  eb : Eb w
  tb : Tb w
theorem Ob.below {w w' : World} (h : Ob w) (hb : Below w.heap.size w w') : Ob w' := ⟨h.eb.below hb, h.tb.below hb⟩
end Go.Proofs.YtialgldmogigfaaGreatDoor


namespace Go.Proofs.YtialgldmogigfaaGreatDoor
abbrev Bs := List UInt8
theorem lt_irr (a : Bs) : ¬ a < a := List.lt_irrefl a
theorem lt_tr {a b c : Bs} (h : a < b) (k : b < c) : a < c := List.lt_trans h k
theorem lt_of_le_ne {a b : Bs} (h : a ≤ b) (hn : a ≠ b) : a < b := by
  rcases List.le_iff_lt_or_eq.1 h with h | h
  · exact h
  · exact absurd h hn
theorem lt_cases (a b : Bs) : a < b ∨ a = b ∨ b < a := by
  rcases List.le_total a b with h | h
  · rcases List.le_iff_lt_or_eq.1 h with h | h
    · exact .inl h
    · exact .inr (.inl h)
  · rcases List.le_iff_lt_or_eq.1 h with h | h
    · exact .inr (.inr h)
    · exact .inr (.inl h.symm)
/-- Texts that rise. -/
def Rising (l : List Bs) : Prop := l.Pairwise fun a b => a < b
theorem Rising.nodup {l : List Bs} (h : Rising l) : l.Nodup := List.Pairwise.imp (fun {a b} (hab : a < b) (e : a = b) => lt_irr b (by rw [e] at hab; exact hab)) h
theorem rising_ext : ∀ {a b : List Bs}, Rising a → Rising b → (∀ x, x ∈ a ↔ x ∈ b) → a = b
  | [], [], _, _, _ => rfl
  | [], y :: b, _, _, h => by have := (h y).2 (by simp); simp at this
  | x :: a, [], _, _, h => by have := (h x).1 (by simp); simp at this
  | x :: a, y :: b, ha, hb, h => by
    have ha' := List.pairwise_cons.1 ha
    have hb' := List.pairwise_cons.1 hb
    have hxy : x = y := by
      rcases List.mem_cons.1 ((h x).1 (by simp)) with e | hx
      · exact e
      · rcases List.mem_cons.1 ((h y).2 (by simp)) with e | hy
        · exact e.symm
        · exact absurd (lt_tr (hb'.1 x hx) (ha'.1 y hy)) (lt_irr _)
    subst hxy
    congr 1
    refine rising_ext ha'.2 hb'.2 fun z => ⟨fun hz => ?_, fun hz => ?_⟩
    · rcases List.mem_cons.1 ((h z).1 (List.mem_cons_of_mem _ hz)) with e | h2
      · exact absurd (ha'.1 z hz) (by rw [e]; exact lt_irr _)
      · exact h2
    · rcases List.mem_cons.1 ((h z).2 (List.mem_cons_of_mem _ hz)) with e | h2
      · exact absurd (hb'.1 z hz) (by rw [e]; exact lt_irr _)
      · exact h2
theorem nodup_len {α : Type} [DecidableEq α] : ∀ {a b : List α}, a.Nodup → (∀ x ∈ a, x ∈ b) → a.length ≤ b.length
  | [], _, _, _ => Nat.zero_le _
  | x :: a, b, h, hs => by
    have h' := List.nodup_cons.1 h
    have hx := hs x (by simp)
    have h2 := nodup_len (b := b.erase x) h'.2 fun y hy => by
      have hne : y ≠ x := fun e => h'.1 (by rw [← e]; exact hy)
      exact (List.mem_erase_of_ne hne).2 (hs y (List.mem_cons_of_mem _ hy))
    rw [List.length_erase_of_mem hx] at h2
    have := List.length_pos_of_mem hx
    simp only [List.length_cons]
    omega
inductive Reach (wf : Bs → List (Bs × Int)) (tips : List Bs) : Bs → Prop
  | tip {x : Bs} : x ∈ tips → Reach wf tips x
  | want {x y : Bs} {k : Int} : Reach wf tips x → (y, k) ∈ wf x → Reach wf tips y
theorem Reach.trans {wf : Bs → List (Bs × Int)} {tips more : List Bs} (h : ∀ x ∈ more, Reach wf tips x) {x : Bs} (hx : Reach wf more x) : Reach wf tips x := by
  induction hx with
  | tip hm => exact h _ hm
  | want _ hw ih => exact .want ih hw
theorem Reach.mono {wf wf' : Bs → List (Bs × Int)} {tips : List Bs} (h : ∀ x y k, Reach wf tips x → Reach wf' tips x → (y, k) ∈ wf x → (y, k) ∈ wf' x) {x : Bs} (hx : Reach wf tips x) : Reach wf' tips x := by
  induction hx with
  | tip hm => exact .tip hm
  | want hr hw ih => exact .want ih (h _ _ _ hr ih hw)
theorem reach_append {wf : Bs → List (Bs × Int)} {a b : List Bs} {x : Bs} : Reach wf (a ++ b) x ↔ Reach wf a x ∨ Reach wf b x := by
  constructor
  · intro h
    induction h with
    | tip hm => exact (List.mem_append.1 hm).elim (fun h => .inl (.tip h)) (fun h => .inr (.tip h))
    | want _ hw ih => exact ih.elim (fun h => .inl (.want h hw)) (fun h => .inr (.want h hw))
  · rintro (h | h)
    · exact Reach.trans (fun x hx => .tip (List.mem_append_left _ hx)) h
    · exact Reach.trans (fun x hx => .tip (List.mem_append_right _ hx)) h
/-- All that is come to is a tip, or wanted. -/
theorem Reach.cases_wf {wf : Bs → List (Bs × Int)} {tips : List Bs} {x : Bs} (h : Reach wf tips x) : x ∈ tips ∨ ∃ y k, Reach wf tips y ∧ (x, k) ∈ wf y := by
  cases h with
  | tip h => exact .inl h
  | want h hw => exact .inr ⟨_, _, h, hw⟩
/-- The names that tips come to: those that are there, and those that are lacking. -/
structure IsClo (wf : Bs → List (Bs × Int)) (th : Bs → Bool) (tips a b : List Bs) : Prop where
  ra : Rising a
  rb : Rising b
  ma : ∀ x, x ∈ a ↔ Reach wf tips x ∧ th x = true
  mb : ∀ x, x ∈ b ↔ Reach wf tips x ∧ th x = false
theorem IsClo.unique {wf : Bs → List (Bs × Int)} {th : Bs → Bool} {tips a b a' b' : List Bs} (h : IsClo wf th tips a b) (h' : IsClo wf th tips a' b') : a = a' ∧ b = b' :=
  ⟨rising_ext h.ra h'.ra fun x => (h.ma x).trans (h'.ma x).symm, rising_ext h.rb h'.rb fun x => (h.mb x).trans (h'.mb x).symm⟩
theorem IsClo.congr {wf wf' : Bs → List (Bs × Int)} {th th' : Bs → Bool} {tips tips' a b : List Bs} (h : IsClo wf th tips a b) (hr : ∀ x, Reach wf tips x ↔ Reach wf' tips' x) (ht : ∀ x, Reach wf tips x → th x = th' x) : IsClo wf' th' tips' a b :=
  ⟨h.ra, h.rb, fun x => (h.ma x).trans ⟨fun ⟨p, q⟩ => ⟨(hr x).1 p, by rw [← ht x p]; exact q⟩, fun ⟨p, q⟩ => ⟨(hr x).2 p, by rw [ht x ((hr x).2 p)]; exact q⟩⟩,
    fun x => (h.mb x).trans ⟨fun ⟨p, q⟩ => ⟨(hr x).1 p, by rw [← ht x p]; exact q⟩, fun ⟨p, q⟩ => ⟨(hr x).2 p, by rw [ht x ((hr x).2 p)]; exact q⟩⟩⟩
theorem IsClo.reach {wf : Bs → List (Bs × Int)} {th : Bs → Bool} {tips a b : List Bs} (h : IsClo wf th tips a b) {x : Bs} (hx : Reach wf tips x) : x ∈ a ∨ x ∈ b := by
  cases ht : th x
  · exact .inr ((h.mb x).2 ⟨hx, ht⟩)
  · exact .inl ((h.ma x).2 ⟨hx, ht⟩)
structure RowI (wf : Bs → List (Bs × Int)) (tips row : List Bs) (i : Nat) : Prop where
  nd : row.Nodup
  rc : ∀ x ∈ row, Reach wf tips x
  tp : ∀ x ∈ tips, x ∈ row
  cl : ∀ x ∈ row.take i, ∀ y k, (y, k) ∈ wf x → y ∈ row
theorem RowI.done {wf : Bs → List (Bs × Int)} {tips row : List Bs} {i : Nat} (h : RowI wf tips row i) (hi : row.length ≤ i) (x : Bs) : Reach wf tips x ↔ x ∈ row := by
  constructor
  · intro hx
    induction hx with
    | tip hm => exact h.tp _ hm
    | want _ hw ih => exact h.cl _ (by rw [List.take_of_length_le hi]; exact ih) _ _ hw
  · exact h.rc x
theorem RowI.clo {wf : Bs → List (Bs × Int)} {th : Bs → Bool} {tips row a b : List Bs} {i : Nat} (h : RowI wf tips row i) (hi : row.length ≤ i) (ha : a.Pairwise fun x y => x ≤ y) (hb : b.Pairwise fun x y => x ≤ y)
    (pa : a.Perm (row.filter fun x => th x)) (pb : b.Perm (row.filter fun x => !th x)) : IsClo wf th tips a b := by
  have na : a.Nodup := pa.nodup_iff.2 (h.nd.sublist List.filter_sublist)
  have nb : b.Nodup := pb.nodup_iff.2 (h.nd.sublist List.filter_sublist)
  refine ⟨?_, ?_, fun x => ?_, fun x => ?_⟩
  · exact (List.pairwise_and_iff.2 ⟨ha, na⟩).imp fun {x y} hxy => lt_of_le_ne hxy.1 hxy.2
  · exact (List.pairwise_and_iff.2 ⟨hb, nb⟩).imp fun {x y} hxy => lt_of_le_ne hxy.1 hxy.2
  · rw [pa.mem_iff, List.mem_filter, h.done hi]
  · rw [pb.mem_iff, List.mem_filter, h.done hi]; simp
def withL : List Bs → Bs → List Bs
  | [], s => [s]
  | x :: l, s => if s < x then s :: x :: l else if s = x then x :: l else x :: withL l s
theorem mem_withL {s y : Bs} : ∀ {l : List Bs}, y ∈ withL l s ↔ y = s ∨ y ∈ l
  | [] => by simp [withL]
  | x :: l => by
    unfold withL
    by_cases h1 : s < x
    · rw [if_pos h1]; simp
    · rw [if_neg h1]
      by_cases h2 : s = x
      · rw [if_pos h2, h2]; simp
      · rw [if_neg h2, List.mem_cons, mem_withL (l := l), List.mem_cons]
        constructor
        · rintro (h | h | h) <;> simp [h]
        · rintro (h | h | h) <;> simp [h]
theorem rising_withL {s : Bs} : ∀ {l : List Bs}, Rising l → Rising (withL l s)
  | [], _ => by simp [withL, Rising]
  | x :: l, h => by
    have h' := List.pairwise_cons.1 h
    unfold withL
    by_cases h1 : s < x
    · rw [if_pos h1]
      refine List.pairwise_cons.2 ⟨fun y hy => ?_, h⟩
      rcases List.mem_cons.1 hy with rfl | hy
      · exact h1
      · exact lt_tr h1 (h'.1 y hy)
    · rw [if_neg h1]
      by_cases h2 : s = x
      · rw [if_pos h2]; exact h
      · rw [if_neg h2]
        refine List.pairwise_cons.2 ⟨fun y hy => ?_, rising_withL h'.2⟩
        rcases mem_withL.1 hy with rfl | hy
        · rcases lt_cases y x with h | h | h
          · exact absurd h h1
          · exact absurd h h2
          · exact h
        · exact h'.1 y hy
structure DocI (wf : Bs → List (Bs × Int)) (th : Bs → Bool) (tips todo a b : List Bs) : Prop where
  ra : Rising a
  rb : Rising b
  rt : ∀ x ∈ todo, Reach wf tips x
  ma : ∀ x ∈ a, Reach wf tips x ∧ th x = true
  mb : ∀ x ∈ b, Reach wf tips x ∧ th x = false
  tp : ∀ x ∈ tips, x ∈ a ∨ x ∈ b ∨ x ∈ todo
  cl : ∀ x ∈ a, ∀ y k, (y, k) ∈ wf x → y ∈ a ∨ y ∈ b ∨ y ∈ todo
theorem DocI.start (wf : Bs → List (Bs × Int)) (th : Bs → Bool) (tips : List Bs) : DocI wf th tips tips [] [] :=
  ⟨List.Pairwise.nil, List.Pairwise.nil, fun _ h => .tip h, (fun _ h => by cases h), (fun _ h => by cases h), fun _ h => .inr (.inr h), (fun _ h => by cases h)⟩
theorem DocI.skip {wf : Bs → List (Bs × Int)} {th : Bs → Bool} {tips todo a b : List Bs} {x : Bs} (h : DocI wf th tips (x :: todo) a b) (hx : x ∈ a ∨ x ∈ b) : DocI wf th tips todo a b := by
  have go : ∀ y, y ∈ a ∨ y ∈ b ∨ y ∈ x :: todo → y ∈ a ∨ y ∈ b ∨ y ∈ todo := fun y hy => by
    rcases hy with h1 | h1 | h1
    · exact .inl h1
    · exact .inr (.inl h1)
    · rcases List.mem_cons.1 h1 with rfl | h1
      · exact hx.elim .inl (fun h => .inr (.inl h))
      · exact .inr (.inr h1)
  exact ⟨h.ra, h.rb, fun y hy => h.rt y (List.mem_cons_of_mem _ hy), h.ma, h.mb, fun y hy => go y (h.tp y hy), fun z hz y k hw => go y (h.cl z hz y k hw)⟩
theorem DocI.lack {wf : Bs → List (Bs × Int)} {th : Bs → Bool} {tips todo a b : List Bs} {x : Bs} (h : DocI wf th tips (x :: todo) a b) (hx : th x = false) : DocI wf th tips todo a (withL b x) := by
  have go : ∀ y, y ∈ a ∨ y ∈ b ∨ y ∈ x :: todo → y ∈ a ∨ y ∈ withL b x ∨ y ∈ todo := fun y hy => by
    rcases hy with h1 | h1 | h1
    · exact .inl h1
    · exact .inr (.inl (mem_withL.2 (.inr h1)))
    · rcases List.mem_cons.1 h1 with rfl | h1
      · exact .inr (.inl (mem_withL.2 (.inl rfl)))
      · exact .inr (.inr h1)
  refine ⟨h.ra, rising_withL h.rb, fun y hy => h.rt y (List.mem_cons_of_mem _ hy), h.ma, fun y hy => ?_, fun y hy => go y (h.tp y hy), fun z hz y k hw => go y (h.cl z hz y k hw)⟩
  rcases mem_withL.1 hy with rfl | hy
  · exact ⟨h.rt _ (by simp), hx⟩
  · exact h.mb y hy
theorem DocI.have {wf : Bs → List (Bs × Int)} {th : Bs → Bool} {tips todo a b : List Bs} {x : Bs} (h : DocI wf th tips (x :: todo) a b) (hx : th x = true) : DocI wf th tips (todo ++ (wf x).map Prod.fst) (withL a x) b := by
  have go : ∀ y, y ∈ a ∨ y ∈ b ∨ y ∈ x :: todo → y ∈ withL a x ∨ y ∈ b ∨ y ∈ todo ++ (wf x).map Prod.fst := fun y hy => by
    rcases hy with h1 | h1 | h1
    · exact .inl (mem_withL.2 (.inr h1))
    · exact .inr (.inl h1)
    · rcases List.mem_cons.1 h1 with rfl | h1
      · exact .inl (mem_withL.2 (.inl rfl))
      · exact .inr (.inr (List.mem_append_left _ h1))
  have hr := h.rt x (by simp)
  refine ⟨rising_withL h.ra, h.rb, fun y hy => ?_, fun y hy => ?_, h.mb, fun y hy => go y (h.tp y hy), fun z hz y k hw => ?_⟩
  · rcases List.mem_append.1 hy with hy | hy
    · exact h.rt y (List.mem_cons_of_mem _ hy)
    · obtain ⟨p, hp, rfl⟩ := List.mem_map.1 hy
      exact .want (k := p.2) hr hp
  · rcases mem_withL.1 hy with rfl | hy
    · exact ⟨hr, hx⟩
    · exact h.ma y hy
  · rcases mem_withL.1 hz with rfl | hz
    · exact .inr (.inr (List.mem_append_right _ (List.mem_map.2 ⟨_, hw, rfl⟩)))
    · exact go y (h.cl z hz y k hw)
theorem DocI.done {wf : Bs → List (Bs × Int)} {th : Bs → Bool} {tips a b : List Bs} (h : DocI wf th tips [] a b) (h0 : ∀ x, th x = false → wf x = []) : IsClo wf th tips a b := by
  have hall : ∀ x, Reach wf tips x → x ∈ a ∨ x ∈ b := fun x hx => by
    induction hx with
    | tip hm => exact (h.tp _ hm).elim .inl (fun h => h.elim .inr (fun h => by cases h))
    | want hr hw ih =>
      rcases ih with h1 | h1
      · exact (h.cl _ h1 _ _ hw).elim .inl (fun h => h.elim .inr (fun h => by cases h))
      · rw [h0 _ (h.mb _ h1).2] at hw; cases hw
  refine ⟨h.ra, h.rb, fun x => ⟨h.ma x, fun hx => ?_⟩, fun x => ⟨h.mb x, fun hx => ?_⟩⟩
  · rcases hall x hx.1 with h1 | h1
    · exact h1
    · have := (h.mb x h1).2; rw [hx.2] at this; cases this
  · rcases hall x hx.1 with h1 | h1
    · have := (h.ma x h1).2; rw [hx.2] at this; cases this
    · exact h1
end Go.Proofs.YtialgldmogigfaaGreatDoor


namespace Go.Proofs.YtialgldmogigfaaGreatDoor
theorem key_ext {α : Type} (f : α → Bs) : ∀ {a b : List α}, a.Pairwise (fun x y => f x < f y) → b.Pairwise (fun x y => f x < f y) → (∀ x, x ∈ a ↔ x ∈ b) → a = b
  | [], [], _, _, _ => rfl
  | [], y :: b, _, _, h => by have := (h y).2 (by simp); simp at this
  | x :: a, [], _, _, h => by have := (h x).1 (by simp); simp at this
  | x :: a, y :: b, ha, hb, h => by
    have ha' := List.pairwise_cons.1 ha
    have hb' := List.pairwise_cons.1 hb
    have hxy : x = y := by
      rcases List.mem_cons.1 ((h x).1 (by simp)) with e | hx
      · exact e
      · rcases List.mem_cons.1 ((h y).2 (by simp)) with e | hy
        · exact e.symm
        · exact absurd (lt_tr (hb'.1 x hx) (ha'.1 y hy)) (lt_irr _)
    subst hxy
    congr 1
    refine key_ext f ha'.2 hb'.2 fun z => ⟨fun hz => ?_, fun hz => ?_⟩
    · rcases List.mem_cons.1 ((h z).1 (List.mem_cons_of_mem _ hz)) with e | h2
      · exact absurd (ha'.1 z hz) (by rw [e]; exact lt_irr _)
      · exact h2
    · rcases List.mem_cons.1 ((h z).2 (List.mem_cons_of_mem _ hz)) with e | h2
      · exact absurd (hb'.1 z hz) (by rw [e]; exact lt_irr _)
      · exact h2
section
variable {wf wf' : Bs → List (Bs × Int)} {th th' : Bs → Bool} {tips one two a b c d x y : List Bs}

theorem IsClo.again (h : IsClo wf th tips a b) (h' : IsClo wf th a c d) : a = c ∧ d.length ≤ b.length := by
  have hr : ∀ x, Reach wf a x → Reach wf tips x := fun x hx => Reach.trans (fun y hy => ((h.ma y).1 hy).1) hx
  refine ⟨rising_ext h.ra h'.ra fun x => ⟨fun hx => (h'.ma x).2 ⟨.tip hx, ((h.ma x).1 hx).2⟩, fun hx => (h.ma x).2 ⟨hr x ((h'.ma x).1 hx).1, ((h'.ma x).1 hx).2⟩⟩, ?_⟩
  exact nodup_len h'.rb.nodup fun x hx => (h.mb x).2 ⟨hr x ((h'.mb x).1 hx).1, ((h'.mb x).1 hx).2⟩
theorem IsClo.both (h1 : IsClo wf th one a b) (h2 : IsClo wf th two c d) (h3 : IsClo wf th (one ++ two) x y) :
    (∀ s, s ∈ x ↔ s ∈ a ∨ s ∈ c) ∧ (∀ s, s ∈ y ↔ s ∈ b ∨ s ∈ d) ∧ x.length ≤ a.length + c.length ∧ y.length ≤ b.length + d.length := by
  have hx : ∀ s, s ∈ x ↔ s ∈ a ∨ s ∈ c := fun s => by
    rw [h3.ma, h1.ma, h2.ma, reach_append]
    exact ⟨fun ⟨p, q⟩ => p.elim (fun p => .inl ⟨p, q⟩) (fun p => .inr ⟨p, q⟩), fun h => h.elim (fun p => ⟨.inl p.1, p.2⟩) (fun p => ⟨.inr p.1, p.2⟩)⟩
  have hy : ∀ s, s ∈ y ↔ s ∈ b ∨ s ∈ d := fun s => by
    rw [h3.mb, h1.mb, h2.mb, reach_append]
    exact ⟨fun ⟨p, q⟩ => p.elim (fun p => .inl ⟨p, q⟩) (fun p => .inr ⟨p, q⟩), fun h => h.elim (fun p => ⟨.inl p.1, p.2⟩) (fun p => ⟨.inr p.1, p.2⟩)⟩
  refine ⟨hx, hy, ?_, ?_⟩
  · rw [← List.length_append]
    exact nodup_len h3.ra.nodup fun s hs => List.mem_append.2 ((hx s).1 hs)
  · rw [← List.length_append]
    exact nodup_len h3.rb.nodup fun s hs => List.mem_append.2 ((hy s).1 hs)

/-- With more objects behind. -/
structure More (wf wf' : Bs → List (Bs × Int)) (th th' : Bs → Bool) : Prop where
  tt : ∀ x, th x = true → th' x = true
  ww : ∀ x, th x = true → wf' x = wf x
  no : ∀ x, th x = false → wf x = []
theorem More.reach (m : More wf wf' th th') {s : Bs} (h : Reach wf tips s) : Reach wf' tips s :=
  Reach.mono (fun x y k _ _ hw => by
    cases ht : th x
    · rw [m.no x ht] at hw; cases hw
    · rw [m.ww x ht]; exact hw) h
theorem More.back (m : More wf wf' th th') (hall : ∀ s, Reach wf tips s → th s = true) {s : Bs} (h : Reach wf' tips s) : Reach wf tips s := by
  induction h with
  | tip hm => exact .tip hm
  | want _ hw ih => rw [m.ww _ (hall _ ih)] at hw; exact .want ih hw
theorem IsClo.more (m : More wf wf' th th') (h : IsClo wf th tips a b) (h' : IsClo wf' th' tips c d) : ∀ s, s ∈ a → s ∈ c := fun s hs =>
  (h'.ma s).2 ⟨m.reach ((h.ma s).1 hs).1, m.tt s ((h.ma s).1 hs).2⟩
theorem IsClo.same (m : More wf wf' th th') (hall : ∀ s, Reach wf tips s → th s = true) (h : IsClo wf th tips a b) (h' : IsClo wf' th' tips c d) : a = c :=
  rising_ext h.ra h'.ra fun s => ⟨fun hs => IsClo.more m h h' s hs, fun hs => (h.ma s).2 ⟨m.back hall ((h'.ma s).1 hs).1, hall s (m.back hall ((h'.ma s).1 hs).1)⟩⟩

/-- With only what the tips came to. -/
theorem IsClo.less (h : IsClo wf th tips a b) (hno : ∀ s, th s = false → wf s = []) (ht : ∀ s, th' s = true ↔ th s = true ∧ s ∈ a) (hw : ∀ s, s ∈ a → wf' s = wf s) (hn : ∀ s, s ∉ a → wf' s = []) (h' : IsClo wf' th' tips c d) : a = c ∧ b = d := by
  have r1 : ∀ s, Reach wf tips s → wf' s = wf s := fun s hs => by
    cases hq : th s
    · rw [hno s hq, hn s (fun hm => by have := ((h.ma s).1 hm).2; rw [hq] at this; cases this)]
    · exact hw s ((h.ma s).2 ⟨hs, hq⟩)
  have r2 : ∀ s, Reach wf tips s ↔ Reach wf' tips s := fun s => by
    constructor
    · intro hs
      exact Reach.mono (fun x y k hx _ hm => by rw [r1 x hx]; exact hm) hs
    · intro hs
      exact Reach.mono (fun x y k _ hx hm => by rw [← r1 x hx]; exact hm) hs
  refine IsClo.unique (IsClo.congr h r2 fun s hs => ?_) h'
  rw [Bool.eq_iff_iff, ht]
  exact ⟨fun hq => ⟨hq, (h.ma s).2 ⟨hs, hq⟩⟩, fun hq => hq.1⟩

/-- Without one that they come to. -/
theorem IsClo.without {z : Bs} (h : IsClo wf th tips a b) (hz : z ∈ a) (ht : ∀ s, th' s = (th s && !(s == z))) (hw : ∀ s, s ≠ z → wf' s = wf s) (hn : wf' z = []) (h' : IsClo wf' th' tips c d) : z ∈ d ∧ z ∉ c ∧ c.length < a.length := by
  have r1 : ∀ s, Reach wf' tips s → Reach wf tips s := fun s hs => Reach.mono (fun x y k _ _ hm => by
    by_cases e : x = z
    · rw [e, hn] at hm; cases hm
    · rw [← hw x e]; exact hm) hs
  have r2 : ∀ s, Reach wf tips s → Reach wf' tips s ∨ Reach wf' tips z := fun s hs => by
    induction hs with
    | tip hm => exact .inl (.tip hm)
    | @want x y k _ hm ih =>
      rcases ih with ih | ih
      · by_cases e : x = z
        · rw [e] at ih; exact .inr ih
        · rw [← hw x e] at hm; exact .inl (.want ih hm)
      · exact .inr ih
  have hz' : Reach wf' tips z := (r2 z ((h.ma z).1 hz).1).elim id id
  have htz : th' z = false := by rw [ht]; simp
  have hzc : z ∉ c := fun hm => by have := ((h'.ma z).1 hm).2; rw [htz] at this; cases this
  refine ⟨(h'.mb z).2 ⟨hz', htz⟩, hzc, ?_⟩
  have hlen : (z :: c).length ≤ a.length := nodup_len (List.nodup_cons.2 ⟨hzc, h'.ra.nodup⟩) fun s hs => by
    rcases List.mem_cons.1 hs with rfl | hs
    · exact hz
    · have h2 := (h'.ma s).1 hs
      have h3 := h2.2
      rw [ht, Bool.and_eq_true] at h3
      exact (h.ma s).2 ⟨r1 s h2.1, h3.1⟩
  simp only [List.length_cons] at hlen
  omega
end
/-- Whether what tips come to is sound. -/
def IsSound (wf : Bs → List (Bs × Int)) (th : Bs → Bool) (kd : Bs → Int) (tips : List Bs) (r : Int) : Prop :=
  (r = 51 ∧ ∃ x, Reach wf tips x ∧ th x = false) ∨ ((∀ x, Reach wf tips x → th x = true) ∧
    ((r = 3 ∧ ∃ x y k, Reach wf tips x ∧ (y, k) ∈ wf x ∧ kd y ≠ k) ∨ (r = 0 ∧ ∀ x y k, Reach wf tips x → (y, k) ∈ wf x → kd y = k)))
theorem IsSound.unique {wf : Bs → List (Bs × Int)} {th : Bs → Bool} {kd : Bs → Int} {tips : List Bs} {r r' : Int} (h : IsSound wf th kd tips r) (h' : IsSound wf th kd tips r') : r = r' := by
  rcases h with ⟨rfl, x, hx, ht⟩ | ⟨hall, h⟩ <;> rcases h' with ⟨rfl, x', hx', ht'⟩ | ⟨hall', h'⟩
  · rfl
  · rw [hall' x hx] at ht; cases ht
  · rw [hall x' hx'] at ht'; cases ht'
  · rcases h with ⟨rfl, x, y, k, h1, h2, h3⟩ | ⟨rfl, h⟩ <;> rcases h' with ⟨rfl, x', y', k', h1', h2', h3'⟩ | ⟨rfl, h'⟩
    · rfl
    · exact absurd (h' x y k h1 h2) h3
    · exact absurd (h x' y' k' h1' h2') h3'
    · rfl
theorem IsSound.lack {wf : Bs → List (Bs × Int)} {th : Bs → Bool} {kd : Bs → Int} {tips a b : List Bs} {r : Int} (h : IsSound wf th kd tips r) (hc : IsClo wf th tips a b) : r = 51 ↔ 0 < b.length := by
  constructor
  · rintro rfl
    rcases h with ⟨_, x, hx, ht⟩ | ⟨_, ⟨h, _⟩ | ⟨h, _⟩⟩
    · exact List.length_pos_of_mem ((hc.mb x).2 ⟨hx, ht⟩)
    · cases h
    · cases h
  · intro hb
    obtain ⟨x, hx⟩ := List.exists_mem_of_length_pos hb
    obtain ⟨h1, h2⟩ := (hc.mb x).1 hx
    rcases h with ⟨h, _⟩ | ⟨hall, _⟩
    · exact h
    · rw [hall x h1] at h2; cases h2
theorem IsSound.zero {wf : Bs → List (Bs × Int)} {th : Bs → Bool} {kd : Bs → Int} {tips : List Bs} (h : IsSound wf th kd tips 0) : (∀ x, Reach wf tips x → th x = true) ∧ ∀ x y k, Reach wf tips x → (y, k) ∈ wf x → kd y = k := by
  rcases h with ⟨h, _⟩ | ⟨hall, ⟨h, _⟩ | ⟨_, h⟩⟩
  · cases h
  · cases h
  · exact ⟨hall, h⟩
theorem IsSound.more {wf wf' : Bs → List (Bs × Int)} {th th' : Bs → Bool} {kd kd' : Bs → Int} {tips : List Bs} {r : Int} (m : More wf wf' th th') (hk : ∀ x, th x = true → kd' x = kd x) (h : IsSound wf th kd tips 0) (h' : IsSound wf' th' kd' tips r) : r = 0 := by
  obtain ⟨hall, hkind⟩ := h.zero
  rcases h' with ⟨_, x, hx, ht⟩ | ⟨_, ⟨_, x, y, k, h1, h2, h3⟩ | ⟨h, _⟩⟩
  · have := m.tt x (hall x (m.back hall hx)); rw [ht] at this; cases this
  · have hx := m.back hall h1
    rw [m.ww x (hall x hx)] at h2
    rw [hk y (hall y (.want hx h2))] at h3
    exact absurd (hkind x y k hx h2) h3
  · exact h
structure Hld where
  id : Bs
  kind : Int
  data : Bs
deriving DecidableEq
def noHld : Hld := ⟨[], 0, []⟩
def findL (l : List Hld) (x : Bs) : Option Hld := l.find? fun h => h.id == x
def thB (l : List Hld) (x : Bs) : Bool := (findL l x).isSome
def kindB (l : List Hld) (x : Bs) : Int := ((findL l x).map Hld.kind).getD 0
def pickL (l : List Hld) (ids : List Bs) : List Hld := l.filter fun h => ids.contains h.id
theorem findL_id {l : List Hld} {x : Bs} {h : Hld} (hf : findL l x = some h) : h.id = x := by
  have := List.find?_some hf; simpa using this
theorem findL_mem {l : List Hld} {x : Bs} {h : Hld} (hf : findL l x = some h) : h ∈ l := List.mem_of_find?_eq_some hf
theorem findL_append (l m : List Hld) (x : Bs) : findL (l ++ m) x = (findL l x).or (findL m x) := by unfold findL; rw [List.find?_append]
theorem findL_cons (h : Hld) (l : List Hld) (x : Bs) : findL (h :: l) x = if h.id = x then some h else findL l x := by
  unfold findL
  by_cases e : h.id = x
  · rw [if_pos e, List.find?_cons_of_pos (by simpa using e)]
  · rw [if_neg e, List.find?_cons_of_neg (by simpa using e)]
theorem findL_filter (p : Hld → Bool) (q : Bs → Bool) (hp : ∀ h, p h = q h.id) (l : List Hld) (x : Bs) : findL (l.filter p) x = if q x = true then findL l x else none := by
  induction l with
  | nil => simp [findL]
  | cons h l ih =>
    by_cases hq : p h = true
    · rw [List.filter_cons_of_pos hq, findL_cons, findL_cons, ih]
      by_cases e : h.id = x
      · have : q x = true := by rw [← e, ← hp]; exact hq
        rw [if_pos e, if_pos this, if_pos e]
      · rw [if_neg e, if_neg e]
    · rw [List.filter_cons_of_neg hq, ih, findL_cons]
      by_cases e : h.id = x
      · have : ¬ q x = true := by rw [← e, ← hp]; exact hq
        rw [if_neg this, if_neg this]
      · rw [if_neg e]
/-- r is the set of what stands in src: of each name the first one. -/
structure IsSet (src r : List Hld) : Prop where
  rise : r.Pairwise fun x y => x.id < y.id
  mem : ∀ h, h ∈ r ↔ findL src h.id = some h
theorem IsSet.unique {src r r' : List Hld} (h : IsSet src r) (h' : IsSet src r') : r = r' := key_ext Hld.id h.rise h'.rise fun x => (h.mem x).trans (h'.mem x).symm
theorem IsSet.find {src r : List Hld} (h : IsSet src r) (x : Bs) : findL r x = findL src x := by
  cases hs : findL src x with
  | none =>
    cases hr : findL r x with
    | none => rfl
    | some z =>
      have h1 := (h.mem z).1 (findL_mem hr)
      rw [findL_id hr, hs] at h1; cases h1
  | some z =>
    have hz : z ∈ r := (h.mem z).2 (by rw [findL_id hs]; exact hs)
    cases hr : findL r x with
    | none =>
      have := List.find?_eq_none.1 hr z hz
      rw [findL_id hs] at this; simp at this
    | some u =>
      have h1 := (h.mem u).1 (findL_mem hr)
      rw [findL_id hr, hs] at h1
      exact h1.symm
theorem IsSet.nil : IsSet [] [] := ⟨List.Pairwise.nil, fun h => by simp [findL]⟩
def putH : List Hld → Hld → List Hld
  | [], x => [x]
  | y :: l, x => if y.id = x.id then y :: l else if x.id < y.id then x :: y :: l else y :: putH l x
theorem mem_putH {x z : Hld} : ∀ {l : List Hld}, z ∈ putH l x → z ∈ l ∨ z = x
  | [], h => by simp [putH] at h; exact .inr h
  | y :: l, h => by
    unfold putH at h
    by_cases h1 : y.id = x.id
    · rw [if_pos h1] at h; exact .inl h
    · rw [if_neg h1] at h
      by_cases h2 : x.id < y.id
      · rw [if_pos h2] at h
        rcases List.mem_cons.1 h with h | h
        · exact .inr h
        · exact .inl h
      · rw [if_neg h2] at h
        rcases List.mem_cons.1 h with h | h
        · exact .inl (by rw [h]; simp)
        · exact (mem_putH h).elim (fun h => .inl (List.mem_cons_of_mem _ h)) .inr
theorem putH_keeps {x z : Hld} : ∀ {l : List Hld}, z ∈ l → z ∈ putH l x
  | [], h => by cases h
  | y :: l, h => by
    unfold putH
    by_cases h1 : y.id = x.id
    · rw [if_pos h1]; exact h
    · rw [if_neg h1]
      by_cases h2 : x.id < y.id
      · rw [if_pos h2]; exact List.mem_cons_of_mem _ h
      · rw [if_neg h2]
        rcases List.mem_cons.1 h with h | h
        · rw [h]; simp
        · exact List.mem_cons_of_mem _ (putH_keeps h)
theorem putH_new {x : Hld} : ∀ {l : List Hld}, (∀ y ∈ l, y.id ≠ x.id) → x ∈ putH l x
  | [], _ => by simp [putH]
  | y :: l, h => by
    unfold putH
    rw [if_neg (h y (by simp))]
    by_cases h2 : x.id < y.id
    · rw [if_pos h2]; simp
    · rw [if_neg h2]; exact List.mem_cons_of_mem _ (putH_new fun z hz => h z (List.mem_cons_of_mem _ hz))
theorem putH_old {x : Hld} : ∀ {l : List Hld}, l.Pairwise (fun a b => a.id < b.id) → (∃ y ∈ l, y.id = x.id) → putH l x = l
  | [], _, h => by obtain ⟨_, h, _⟩ := h; cases h
  | y :: l, hp, h => by
    have hp' := List.pairwise_cons.1 hp
    unfold putH
    by_cases h1 : y.id = x.id
    · rw [if_pos h1]
    · obtain ⟨z, hz, hzx⟩ := h
      rcases List.mem_cons.1 hz with rfl | hz
      · exact absurd hzx h1
      · rw [if_neg h1, if_neg (fun h2 => by have h3 := hp'.1 z hz; rw [hzx] at h3; exact lt_irr _ (lt_tr h2 h3)), putH_old hp'.2 ⟨z, hz, hzx⟩]
theorem putH_rise {x : Hld} : ∀ {l : List Hld}, l.Pairwise (fun a b => a.id < b.id) → (putH l x).Pairwise fun a b => a.id < b.id
  | [], _ => by simp [putH]
  | y :: l, hp => by
    have hp' := List.pairwise_cons.1 hp
    unfold putH
    by_cases h1 : y.id = x.id
    · rw [if_pos h1]; exact hp
    · rw [if_neg h1]
      by_cases h2 : x.id < y.id
      · rw [if_pos h2]
        refine List.pairwise_cons.2 ⟨fun z hz => ?_, hp⟩
        rcases List.mem_cons.1 hz with rfl | hz
        · exact h2
        · exact lt_tr h2 (hp'.1 z hz)
      · rw [if_neg h2]
        refine List.pairwise_cons.2 ⟨fun z hz => ?_, putH_rise hp'.2⟩
        rcases mem_putH hz with hz | rfl
        · exact hp'.1 z hz
        · rcases lt_cases z.id y.id with h | h | h
          · exact absurd h h2
          · exact absurd h.symm h1
          · exact h
theorem IsSet.put {src r : List Hld} (h : IsSet src r) (x : Hld) : IsSet (src ++ [x]) (putH r x) := by
  refine ⟨putH_rise h.rise, fun z => ?_⟩
  rw [findL_append]
  cases hs : findL src z.id with
  | some u =>
    rw [Option.some_or]
    constructor
    · intro hz
      rcases mem_putH hz with hz | rfl
      · rw [← hs]; exact (h.mem z).1 hz
      · have hu : u ∈ r := (h.mem u).2 (by rw [findL_id hs]; exact hs)
        rw [putH_old h.rise ⟨u, hu, findL_id hs⟩] at hz
        rw [← hs]; exact (h.mem z).1 hz
    · intro e
      cases e
      exact putH_keeps ((h.mem z).2 hs)
  | none =>
    rw [Option.none_or, findL_cons]
    constructor
    · intro hz
      rcases mem_putH hz with hz | rfl
      · have := (h.mem z).1 hz; rw [hs] at this; cases this
      · rw [if_pos rfl]
    · intro e
      by_cases hx : x.id = z.id
      · rw [if_pos hx] at e
        cases e
        exact putH_new fun y hy e => by
          have h1 := (h.mem y).1 hy
          rw [e, hs] at h1; cases h1
      · rw [if_neg hx] at e; cases e
theorem IsSet.foldl {l : List Hld} : ∀ {src r : List Hld}, IsSet src r → IsSet (src ++ l) (l.foldl putH r) := by
  induction l with
  | nil => intro src r h; simpa using h
  | cons x l ih =>
    intro src r h
    have := ih (h.put x)
    simpa using this
end Go.Proofs.YtialgldmogigfaaGreatDoor


namespace Go.Proofs.YtialgldmogigfaaGreatDoor
open Go Go.RowKit Go.Maps
/-- w' is w but for the blocks that S tells, and new ones. -/
structure But (S : Nat → Prop) (w w' : World) : Prop where
  os : w'.os = w.os
  tape : w'.tape = w.tape
  output : w'.output = w.output
  size : w.heap.size ≤ w'.heap.size
  block : ∀ k, k < w.heap.size → ¬ S k → w'.heap[k]? = w.heap[k]?
theorem But.refl (S : Nat → Prop) (w : World) : But S w w := ⟨rfl, rfl, rfl, Nat.le_refl _, fun _ _ _ => rfl⟩
theorem But.trans {S : Nat → Prop} {a b c : World} (h : But S a b) (k : But S b c) : But S a c :=
  ⟨k.os.trans h.os, k.tape.trans h.tape, k.output.trans h.output, Nat.le_trans h.size k.size, fun i hi hs => (k.block i (Nat.lt_of_lt_of_le hi h.size) hs).trans (h.block i hi hs)⟩
theorem But.mono {S T : Nat → Prop} {w w' : World} (h : But S w w') (hs : ∀ k, k < w.heap.size → S k → T k) : But T w w' :=
  ⟨h.os, h.tape, h.output, h.size, fun k hk hn => h.block k hk fun hS => hn (hs k hk hS)⟩
theorem But.of_below {B : Nat} {w w' : World} (h : Below B w w') : But (fun k => B ≤ k) w w' := ⟨h.os, h.tape, h.output, h.size, fun k _ hn => h.block k (Nat.lt_of_not_le hn)⟩
/-- Behind a call that turned nothing old. -/
theorem But.of_new {S : Nat → Prop} {w w' : World} (h : Below w.heap.size w w') : But S w w' := ⟨h.os, h.tape, h.output, h.size, fun k hk _ => h.block k hk⟩
theorem But.below {S : Nat → Prop} {w w' : World} {B : Nat} (h : But S w w') (hS : ∀ k, k < w.heap.size → S k → B ≤ k) (hB : B ≤ w.heap.size) : Below B w w' :=
  ⟨h.os, h.tape, h.output, h.size, fun k hk => h.block k (Nat.lt_of_lt_of_le hk hB) fun hs => by have := hS k (Nat.lt_of_lt_of_le hk hB) hs; omega⟩
theorem But.of_grown {w w' : World} {row : Option Nat} (h : w.grownBy w' row) : But (fun k => row = some k) w w' := ⟨h.os, h.tape, h.output, h.size, fun k hk hn => h.block k hk (fun e => hn e.symm)⟩
theorem But.cell {S : Nat → Prop} {w w' : World} (h : But S w w') {p : Addr} (hlt : p.block < w.heap.size) (hn : ¬ S p.block) : w'.cell? p = w.cell? p := World.cell?_of_block (w := w) (h.block p.block hlt hn)
theorem But.alloc {S : Nat → Prop} {a w : World} (h : But S a w) (o : Obj) : But S a (w.alloc o) := h.trans (But.of_new ((Below.refl _ w).alloc (Nat.le_refl _) o))
theorem But.drewN {S : Nat → Prop} {a w : World} (h : But S a w) (n : Nat) : But S a (w.drewN n) := h.trans ⟨rfl, rfl, rfl, Nat.le_refl _, fun _ _ _ => rfl⟩
theorem But.drew {S : Nat → Prop} {a w : World} (h : But S a w) : But S a w.drew := h.trans ⟨rfl, rfl, rfl, Nat.le_refl _, fun _ _ _ => rfl⟩
theorem But.setCell {S : Nat → Prop} {a w : World} (h : But S a w) {p : Addr} (hp : S p.block) (u : Value) : But S a (w.setCell p u) :=
  h.trans ⟨rfl, rfl, rfl, by simp [World.setCell], fun k _ hn => Below.heap_setCell _ _ _ _ (fun e => hn (by rw [e]; exact hp))⟩
theorem but_putObj {S : Nat → Prop} (w : World) (r : Nat) (o : Obj) (hr : S r) : But S w (w.putObj r o) :=
  ⟨rfl, rfl, rfl, by simp, fun k _ hn => World.putObj_heap_other (fun e => hn (by rw [e]; exact hr))⟩
theorem RdK.but {α : Type} {k : Nat} {f : α → List Value} {w w' : World} {v : Value} {l : List α} {S : Nat → Prop} (h : RdK k f w v l) (hb : But S w w') (hn : ∀ g, v.ownBlock = some g → ¬ S g) : RdK k f w' v l := by
  rcases h with h | ⟨g, o, c, rfl, hc, hg, hcell⟩
  · exact .inl h
  · exact .inr ⟨g, o, c, rfl, hc, Nat.lt_of_lt_of_le hg hb.size, fun j hj x hx i hi => by rw [hb.cell (p := ⟨g, o + j * k + i, none⟩) hg (hn g rfl)]; exact hcell j hj x hx i hi⟩
theorem RdK.but2 {α : Type} {k : Nat} {f : α → List Value} {w w' : World} {v : Value} {l : List α} {S : Nat → Prop} (h : RdK k f w v l) (hb : But S w w') (hn : 0 < l.length → ∀ g, v.ownBlock = some g → ¬ S g) : RdK k f w' v l := by
  rcases Nat.eq_zero_or_pos l.length with h0 | h0
  · obtain ⟨A, c, e⟩ := h.shape
    exact .inl ⟨⟨A, c, by rw [e, h0]⟩, List.length_eq_zero_iff.1 h0⟩
  · exact h.but hb (hn h0)
theorem row_but {w w' : World} {base n k : Nat} {t : TypeId} {v : Value} {xs : List Value} {S : Nat → Prop} (h : w.ownsRow base t k v n xs) (hb : But S w w') (hn : ∀ g, v.ownBlock = some g → ¬ S g) : w'.ownsRow base t k v n xs := by
  obtain ⟨h1, h2⟩ := h
  refine ⟨h1, ?_⟩
  rcases h2 with h2 | ⟨g, cap, cur, rfl, hbg, hg, r⟩
  · exact .inl h2
  · exact .inr ⟨g, cap, cur, rfl, hbg, (hb.block g (lt_heap hg) (hn g rfl)).trans hg, r⟩
theorem OwK.but {α : Type} {t : TypeId} {k : Nat} {f : α → List Value} {w w' : World} {base : Nat} {v : Value} {l : List α} {S : Nat → Prop} (h : OwK t k f w base v l) (hb : But S w w') (hn : ∀ g, v.ownBlock = some g → ¬ S g) : OwK t k f w' base v l := row_but h hb hn
theorem boxed_but {w w' : World} {b : Nat} {t : TypeId} {v : Value} {S : Nat → Prop} (h : Boxed w b t v) (hb : But S w w') (hn : ¬ S b) : Boxed w' b t v := (hb.block b h.lt hn).trans h
theorem map_but {H : Type} {P : Program} {k : TypeId} {R : Value → Option (DataW H × List MemPlace)} {w w' : World} {b n : Nat} {D : DataW H} {S : Nat → Prop} (h : w.ownsMap P k R b n D) (hb : But S w w') (hn : ¬ S b) : w'.ownsMap P k R b n D := by
  have hlt := h.lt
  obtain ⟨es, clock, he, r⟩ := h
  exact ⟨es, clock, (hb.block b hlt hn).trans he, r⟩
/-- What a slice owns is one block, above its base. -/
theorem own_block {w : World} {base n k : Nat} {t : TypeId} {v : Value} {xs : List Value} (h : w.ownsRow base t k v n xs) {g : Nat} (hg : v.ownBlock = some g) : base ≤ g ∧ g < w.heap.size ∧ ∃ cur, w.heap[g]? = some (.cells cur t (0, 0)) := by
  rcases h.2 with ⟨rfl, _⟩ | ⟨g', cap, cur, rfl, hb, hh, _⟩
  · cases hg
  · cases hg; exact ⟨hb, lt_heap hh, cur, hh⟩
theorem own_slice {w : World} {base n k : Nat} {t : TypeId} {v : Value} {xs : List Value} (h : w.ownsRow base t k v n xs) : ∃ A c, v = .slice A n c := by
  rcases h.2 with ⟨rfl, rfl⟩ | ⟨g, cap, cur, rfl, _⟩
  · exact ⟨_, _, rfl⟩
  · exact ⟨_, _, rfl⟩
def heldC (h : Hld) : List Value := [SV h.id, .int .i64 h.kind, SV h.data]
theorem heldC_len (x : Hld) : (heldC x).length = 3 := rfl
def HldsR (w : World) (v : Value) (l : List Hld) : Prop := RdK 3 heldC w v l
theorem HldsR.cells {w : World} {g o n c : Nat} {l : List Hld} (h : HldsR w (.slice (some ⟨g, o, none⟩) n c) l) (k : Nat) (hk : k < l.length) :
    w.cell? ⟨g, o + k * 3, none⟩ = some (SV (l.getD k noHld).id) ∧ w.cell? ⟨g, o + k * 3 + 1, none⟩ = some (.int .i64 (l.getD k noHld).kind) ∧ w.cell? ⟨g, o + k * 3 + 2, none⟩ = some (SV (l.getD k noHld).data) := by
  rcases h with ⟨_, rfl⟩ | ⟨g', o', c', e, hc, hg, hcell⟩
  · simp at hk
  · cases e
    have h0 := hcell k hk _ (List.getElem?_eq_getElem hk)
    have e : l.getD k noHld = l[k] := by rw [List.getD_eq_getElem?_getD, List.getElem?_eq_getElem hk]; rfl
    rw [e]
    exact ⟨h0 0 (by omega), h0 1 (by omega), h0 2 (by omega)⟩
def anyR (v : Value) : Option (DataW Value × List MemPlace) := some (.held v, [])
theorem lawS : Keyed Tryz.prog 9 := string_keyed Tryz.underlying9
theorem keyOfS {p : Bs} (hp : p.length ≤ maxLen) : keyOf Tryz.prog 9 (.string ⟨p.toArray⟩) = some (.string p) := Go.WideMaps.keyOf_string_mk Tryz.underlying9 (s := ⟨p.toArray⟩) (by simpa [ByteArray.size] using hp)
/-- Block b of w is a map that holds what f tells. -/
def MapS (w : World) (b n : Nat) (f : Bs → Option Value) : Prop :=
  ∃ D, w.ownsMap (H := Value) Tryz.prog 9 anyR b n D ∧ IsMap D ∧ ∀ x, (f x = none → has D (.string x) = false) ∧ ∀ v, f x = some v → ∀ z, D.atKey (.string x) z = .held v
theorem MapS.lt {w : World} {b n : Nat} {f : Bs → Option Value} (h : MapS w b n f) : b < w.heap.size := by obtain ⟨D, h, _⟩ := h; exact h.lt
theorem MapS.but {w w' : World} {b n : Nat} {f : Bs → Option Value} {S : Nat → Prop} (h : MapS w b n f) (hb : But S w w') (hn : ¬ S b) : MapS w' b n f := by
  obtain ⟨D, h, r⟩ := h; exact ⟨D, map_but h hb hn, r⟩
theorem MapS.below {w w' : World} {b n B : Nat} {f : Bs → Option Value} (h : MapS w b n f) (hb : Below B w w') (hlt : b < B) : MapS w' b n f := h.but (But.of_below hb) (by omega)
theorem MapS.made (w : World) : MapS (w.alloc (.map #[] 0)) w.heap.size 0 fun _ => none :=
  ⟨.map [], World.ownsMap_made w _ _ _, ⟨_, rfl⟩, fun x => ⟨fun _ => rfl, fun v h => by cases h⟩⟩
theorem MapS.look_ok {w : World} {b n : Nat} {f : Bs → Option Value} (h : MapS w b n f) {t e : TypeId} (ht : Tryz.prog.underlying t = some (.map 9 e)) {z : Value} (hz : (zeroValue e).run Tryz.prog w = .ok z w) {x : Bs} (hx : x.length ≤ maxLen) :
    (Instr.lookup t (.map (some b)) (.string ⟨x.toArray⟩) true).run Tryz.prog w = .ok (.tuple #[(f x).getD z, .bool (f x).isSome]) w := by
  obtain ⟨D, hown, _, hf⟩ := h
  obtain ⟨v, ps, hrun, hv⟩ := hown.look_ok lawS ht hz (zd := .held z) (zp := []) rfl (keyOfS hx)
  cases hfx : f x with
  | none =>
    rw [(hf x).1 hfx] at hrun
    rw [atKey_of_not_has ((hf x).1 hfx)] at hv
    cases hv; exact hrun
  | some u =>
    rw [has_true_of_atKey ((hf x).2 u hfx)] at hrun
    rw [(hf x).2 u hfx] at hv
    cases hv; exact hrun
theorem MapS.look {w : World} {b n : Nat} {f : Bs → Option Value} (h : MapS w b n f) {t e : TypeId} (ht : Tryz.prog.underlying t = some (.map 9 e)) {z : Value} (hz : (zeroValue e).run Tryz.prog w = .ok z w) {x : Bs} (hx : x.length ≤ maxLen) :
    (Instr.lookup t (.map (some b)) (.string ⟨x.toArray⟩) false).run Tryz.prog w = .ok ((f x).getD z) w := by
  obtain ⟨D, hown, _, hf⟩ := h
  obtain ⟨v, ps, hrun, hv⟩ := hown.lookup lawS ht hz (zd := .held z) (zp := []) rfl (keyOfS hx)
  cases hfx : f x with
  | none =>
    rw [atKey_of_not_has ((hf x).1 hfx)] at hv
    cases hv; exact hrun
  | some u =>
    rw [(hf x).2 u hfx] at hv
    cases hv; exact hrun
def updF (f : Bs → Option Value) (x : Bs) (v : Value) : Bs → Option Value := fun y => if y = x then some v else f y
theorem MapS.put {w : World} {b n : Nat} {f : Bs → Option Value} (h : MapS w b n f) {t e : TypeId} (ht : Tryz.prog.underlying t = some (.map 9 e)) (hn : n < maxLen) {x : Bs} (hx : x.length ≤ maxLen) (v : Value) :
    ∃ w', (Instr.mapUpdate t (.map (some b)) (.string ⟨x.toArray⟩) v).run Tryz.prog w = .ok () w' ∧ MapS w' b (n + 1) (updF f x v) ∧ w.grownBy w' (some b) := by
  obtain ⟨D, hown, hm, hf⟩ := h
  obtain ⟨w', hrun, hown', hg⟩ := hown.update lawS ht hn (keyOfS hx) (val := v) (d := .held v) (ps := []) rfl
  refine ⟨w', hrun, ⟨_, hown', ?_, fun y => ⟨fun hy => ?_, fun u hy z => ?_⟩⟩, hg⟩
  · obtain ⟨es, rfl⟩ := hm
    exact ⟨_, rfl⟩
  · unfold updF at hy
    by_cases e : y = x
    · rw [if_pos e] at hy; cases hy
    · rw [if_neg e] at hy
      rw [has_put_other (fun e' => e (by cases e'; rfl))]
      exact (hf y).1 hy
  · unfold updF at hy
    by_cases e : y = x
    · rw [if_pos e] at hy; cases hy
      subst e
      exact atKey_put_same hm (k := .string y) (by trivial) _ _
    · rw [if_neg e] at hy
      rw [atKey_put_other (fun e' => e (by cases e'; rfl))]
      exact (hf y).2 u hy z
/-- 'm[x] = v' at the operation, for the walk. -/
theorem wpList_putS {w : World} {ops : Array Oper} {rest : List Oper} {o : Oper} {a : Go.Act} {Q : Exit → Go.Act → World → Prop}
    (hg : o.guard = none) (mo xo vo : Operand) (t e : TypeId) (hop : o.op = Op.mapUpdate t mo xo vo) (ht : Tryz.prog.underlying t = some (.map 9 e))
    (b n : Nat) (f : Bs → Option Value) (x : Bs) (v : Value) (hm : a.eval mo = .map (some b)) (hxo : a.eval xo = .string ⟨x.toArray⟩) (hvo : a.eval vo = v) (h : MapS w b n f) (hn : n < maxLen) (hx : x.length ≤ maxLen)
    (hK : ∀ w', MapS w' b (n + 1) (updF f x v) → w.grownBy w' (some b) → wpList Tryz.prog ops Q rest (a.put o.dst undef) w') : wpList Tryz.prog ops Q (o :: rest) a w := by
  refine wpList_plain hg fun K' hK' => ?_
  obtain ⟨w', hrun, r1, r2⟩ := h.put ht hn hx v
  unfold Oper.wp
  simp [execOp, hop, hm, hxo, hvo, hrun, Result.andThen]
  exact hK' _ _ (hK w' r1 r2)
end Go.Proofs.YtialgldmogigfaaGreatDoor
