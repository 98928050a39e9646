/-
  Plain: what names come to.
  Plain: what layer 5's laws say of what names come to.
  Plain: a list by rising names, the first of each kept: what is sorted and stable, and what is struck out of that.
  Plain: two sorted rows side by side, made one: what the library's symMerge parts them into.
  The plain side of layer 2.
-/
import Derived.Sort.LotA
import Derived.Lib.Hide

namespace Go.Proofs.YthbmaloajgkhmaaGreatDoor
abbrev Bs := List UInt8
theorem lt_irr (a : Bs) : ¬ a < a := List.lt_irrefl a
theorem lt_tr {a b c : Bs} (h : a < b) (k : b < c) : a < c := List.lt_trans h k
theorem lt_of_le_ne {a b : Bs} (h : a ≤ b) (hn : a ≠ b) : a < b := by
  rcases List.le_iff_lt_or_eq.1 h with h | h
  · exact h
  · exact absurd h hn
theorem lt_cases (a b : Bs) : a < b ∨ a = b ∨ b < a := by
  rcases List.le_total a b with h | h
  · rcases List.le_iff_lt_or_eq.1 h with h | h
    · exact .inl h
    · exact .inr (.inl h)
  · rcases List.le_iff_lt_or_eq.1 h with h | h
    · exact .inr (.inr h)
    · exact .inr (.inl h.symm)
/-- Texts that rise. -/
def Rising (l : List Bs) : Prop := l.Pairwise fun a b => a < b
theorem Rising.nodup {l : List Bs} (h : Rising l) : l.Nodup := List.Pairwise.imp (fun {a b} (hab : a < b) (e : a = b) => lt_irr b (by rw [e] at hab; exact hab)) h
theorem rising_ext : ∀ {a b : List Bs}, Rising a → Rising b → (∀ x, x ∈ a ↔ x ∈ b) → a = b
  | [], [], _, _, _ => rfl
  | [], y :: b, _, _, h => by have := (h y).2 (by simp); simp at this
  | x :: a, [], _, _, h => by have := (h x).1 (by simp); simp at this
  | x :: a, y :: b, ha, hb, h => by
    have ha' := List.pairwise_cons.1 ha
    have hb' := List.pairwise_cons.1 hb
    have hxy : x = y := by
      rcases List.mem_cons.1 ((h x).1 (by simp)) with e | hx
      · exact e
      · rcases List.mem_cons.1 ((h y).2 (by simp)) with e | hy
        · exact e.symm
        · exact absurd (lt_tr (hb'.1 x hx) (ha'.1 y hy)) (lt_irr _)
    subst hxy
    congr 1
    refine rising_ext ha'.2 hb'.2 fun z => ⟨fun hz => ?_, fun hz => ?_⟩
    · rcases List.mem_cons.1 ((h z).1 (List.mem_cons_of_mem _ hz)) with e | h2
      · exact absurd (ha'.1 z hz) (by rw [e]; exact lt_irr _)
      · exact h2
    · rcases List.mem_cons.1 ((h z).2 (List.mem_cons_of_mem _ hz)) with e | h2
      · exact absurd (hb'.1 z hz) (by rw [e]; exact lt_irr _)
      · exact h2
theorem nodup_len {α : Type} [DecidableEq α] : ∀ {a b : List α}, a.Nodup → (∀ x ∈ a, x ∈ b) → a.length ≤ b.length
  | [], _, _, _ => Nat.zero_le _
  | x :: a, b, h, hs => by
    have h' := List.nodup_cons.1 h
    have hx := hs x (by simp)
    have h2 := nodup_len (b := b.erase x) h'.2 fun y hy => by
      have hne : y ≠ x := fun e => h'.1 (by rw [← e]; exact hy)
      exact (List.mem_erase_of_ne hne).2 (hs y (List.mem_cons_of_mem _ hy))
    rw [List.length_erase_of_mem hx] at h2
    have := List.length_pos_of_mem hx
    simp only [List.length_cons]
    omega
inductive Reach (wf : Bs → List (Bs × Int)) (tips : List Bs) : Bs → Prop
  | tip {x : Bs} : x ∈ tips → Reach wf tips x
  | want {x y : Bs} {k : Int} : Reach wf tips x → (y, k) ∈ wf x → Reach wf tips y
theorem Reach.trans {wf : Bs → List (Bs × Int)} {tips more : List Bs} (h : ∀ x ∈ more, Reach wf tips x) {x : Bs} (hx : Reach wf more x) : Reach wf tips x := by
  induction hx with
  | tip hm => exact h _ hm
  | want _ hw ih => exact .want ih hw
theorem Reach.mono {wf wf' : Bs → List (Bs × Int)} {tips : List Bs} (h : ∀ x y k, Reach wf tips x → Reach wf' tips x → (y, k) ∈ wf x → (y, k) ∈ wf' x) {x : Bs} (hx : Reach wf tips x) : Reach wf' tips x := by
  induction hx with
  | tip hm => exact .tip hm
  | want hr hw ih => exact .want ih (h _ _ _ hr ih hw)
theorem reach_append {wf : Bs → List (Bs × Int)} {a b : List Bs} {x : Bs} : Reach wf (a ++ b) x ↔ Reach wf a x ∨ Reach wf b x := by
  constructor
  · intro h
    induction h with
    | tip hm => exact (List.mem_append.1 hm).elim (fun h => .inl (.tip h)) (fun h => .inr (.tip h))
    | want _ hw ih => exact ih.elim (fun h => .inl (.want h hw)) (fun h => .inr (.want h hw))
  · rintro (h | h)
    · exact Reach.trans (fun x hx => .tip (List.mem_append_left _ hx)) h
    · exact Reach.trans (fun x hx => .tip (List.mem_append_right _ hx)) h
/-- All that is come to is a tip, or wanted. -/
theorem Reach.cases_wf {wf : Bs → List (Bs × Int)} {tips : List Bs} {x : Bs} (h : Reach wf tips x) : x ∈ tips ∨ ∃ y k, Reach wf tips y ∧ (x, k) ∈ wf y := by
  cases h with
  | tip h => exact .inl h
  | want h hw => exact .inr ⟨_, _, h, hw⟩
/-- The names that tips come to: those that are there, and those that are lacking. -/
structure IsClo (wf : Bs → List (Bs × Int)) (th : Bs → Bool) (tips a b : List Bs) : Prop where
  ra : Rising a
  rb : Rising b
  ma : ∀ x, x ∈ a ↔ Reach wf tips x ∧ th x = true
  mb : ∀ x, x ∈ b ↔ Reach wf tips x ∧ th x = false
theorem IsClo.unique {wf : Bs → List (Bs × Int)} {th : Bs → Bool} {tips a b a' b' : List Bs} (h : IsClo wf th tips a b) (h' : IsClo wf th tips a' b') : a = a' ∧ b = b' :=
  ⟨rising_ext h.ra h'.ra fun x => (h.ma x).trans (h'.ma x).symm, rising_ext h.rb h'.rb fun x => (h.mb x).trans (h'.mb x).symm⟩
theorem IsClo.congr {wf wf' : Bs → List (Bs × Int)} {th th' : Bs → Bool} {tips tips' a b : List Bs} (h : IsClo wf th tips a b) (hr : ∀ x, Reach wf tips x ↔ Reach wf' tips' x) (ht : ∀ x, Reach wf tips x → th x = th' x) : IsClo wf' th' tips' a b :=
  ⟨h.ra, h.rb, fun x => (h.ma x).trans ⟨fun ⟨p, q⟩ => ⟨(hr x).1 p, by rw [← ht x p]; exact q⟩, fun ⟨p, q⟩ => ⟨(hr x).2 p, by rw [ht x ((hr x).2 p)]; exact q⟩⟩,
    fun x => (h.mb x).trans ⟨fun ⟨p, q⟩ => ⟨(hr x).1 p, by rw [← ht x p]; exact q⟩, fun ⟨p, q⟩ => ⟨(hr x).2 p, by rw [ht x ((hr x).2 p)]; exact q⟩⟩⟩
theorem IsClo.reach {wf : Bs → List (Bs × Int)} {th : Bs → Bool} {tips a b : List Bs} (h : IsClo wf th tips a b) {x : Bs} (hx : Reach wf tips x) : x ∈ a ∨ x ∈ b := by
  cases ht : th x
  · exact .inr ((h.mb x).2 ⟨hx, ht⟩)
  · exact .inl ((h.ma x).2 ⟨hx, ht⟩)
structure RowI (wf : Bs → List (Bs × Int)) (tips row : List Bs) (i : Nat) : Prop where
  nd : row.Nodup
  rc : ∀ x ∈ row, Reach wf tips x
  tp : ∀ x ∈ tips, x ∈ row
  cl : ∀ x ∈ row.take i, ∀ y k, (y, k) ∈ wf x → y ∈ row
theorem RowI.done {wf : Bs → List (Bs × Int)} {tips row : List Bs} {i : Nat} (h : RowI wf tips row i) (hi : row.length ≤ i) (x : Bs) : Reach wf tips x ↔ x ∈ row := by
  constructor
  · intro hx
    induction hx with
    | tip hm => exact h.tp _ hm
    | want _ hw ih => exact h.cl _ (by rw [List.take_of_length_le hi]; exact ih) _ _ hw
  · exact h.rc x
theorem RowI.clo {wf : Bs → List (Bs × Int)} {th : Bs → Bool} {tips row a b : List Bs} {i : Nat} (h : RowI wf tips row i) (hi : row.length ≤ i) (ha : a.Pairwise fun x y => x ≤ y) (hb : b.Pairwise fun x y => x ≤ y)
    (pa : a.Perm (row.filter fun x => th x)) (pb : b.Perm (row.filter fun x => !th x)) : IsClo wf th tips a b := by
  have na : a.Nodup := pa.nodup_iff.2 (h.nd.sublist List.filter_sublist)
  have nb : b.Nodup := pb.nodup_iff.2 (h.nd.sublist List.filter_sublist)
  refine ⟨?_, ?_, fun x => ?_, fun x => ?_⟩
  · exact (List.pairwise_and_iff.2 ⟨ha, na⟩).imp fun {x y} hxy => lt_of_le_ne hxy.1 hxy.2
  · exact (List.pairwise_and_iff.2 ⟨hb, nb⟩).imp fun {x y} hxy => lt_of_le_ne hxy.1 hxy.2
  · rw [pa.mem_iff, List.mem_filter, h.done hi]
  · rw [pb.mem_iff, List.mem_filter, h.done hi]; simp
def withL : List Bs → Bs → List Bs
  | [], s => [s]
  | x :: l, s => if s < x then s :: x :: l else if s = x then x :: l else x :: withL l s
theorem mem_withL {s y : Bs} : ∀ {l : List Bs}, y ∈ withL l s ↔ y = s ∨ y ∈ l
  | [] => by simp [withL]
  | x :: l => by
    unfold withL
    by_cases h1 : s < x
    · rw [if_pos h1]; simp
    · rw [if_neg h1]
      by_cases h2 : s = x
      · rw [if_pos h2, h2]; simp
      · rw [if_neg h2, List.mem_cons, mem_withL (l := l), List.mem_cons]
        constructor
        · rintro (h | h | h) <;> simp [h]
        · rintro (h | h | h) <;> simp [h]
theorem rising_withL {s : Bs} : ∀ {l : List Bs}, Rising l → Rising (withL l s)
  | [], _ => by simp [withL, Rising]
  | x :: l, h => by
    have h' := List.pairwise_cons.1 h
    unfold withL
    by_cases h1 : s < x
    · rw [if_pos h1]
      refine List.pairwise_cons.2 ⟨fun y hy => ?_, h⟩
      rcases List.mem_cons.1 hy with rfl | hy
      · exact h1
      · exact lt_tr h1 (h'.1 y hy)
    · rw [if_neg h1]
      by_cases h2 : s = x
      · rw [if_pos h2]; exact h
      · rw [if_neg h2]
        refine List.pairwise_cons.2 ⟨fun y hy => ?_, rising_withL h'.2⟩
        rcases mem_withL.1 hy with rfl | hy
        · rcases lt_cases y x with h | h | h
          · exact absurd h h1
          · exact absurd h h2
          · exact h
        · exact h'.1 y hy
structure DocI (wf : Bs → List (Bs × Int)) (th : Bs → Bool) (tips todo a b : List Bs) : Prop where
  ra : Rising a
  rb : Rising b
  rt : ∀ x ∈ todo, Reach wf tips x
  ma : ∀ x ∈ a, Reach wf tips x ∧ th x = true
  mb : ∀ x ∈ b, Reach wf tips x ∧ th x = false
  tp : ∀ x ∈ tips, x ∈ a ∨ x ∈ b ∨ x ∈ todo
  cl : ∀ x ∈ a, ∀ y k, (y, k) ∈ wf x → y ∈ a ∨ y ∈ b ∨ y ∈ todo
theorem DocI.start (wf : Bs → List (Bs × Int)) (th : Bs → Bool) (tips : List Bs) : DocI wf th tips tips [] [] :=
  ⟨List.Pairwise.nil, List.Pairwise.nil, fun _ h => .tip h, (fun _ h => by cases h), (fun _ h => by cases h), fun _ h => .inr (.inr h), (fun _ h => by cases h)⟩
theorem DocI.skip {wf : Bs → List (Bs × Int)} {th : Bs → Bool} {tips todo a b : List Bs} {x : Bs} (h : DocI wf th tips (x :: todo) a b) (hx : x ∈ a ∨ x ∈ b) : DocI wf th tips todo a b := by
  have go : ∀ y, y ∈ a ∨ y ∈ b ∨ y ∈ x :: todo → y ∈ a ∨ y ∈ b ∨ y ∈ todo := fun y hy => by
    rcases hy with h1 | h1 | h1
    · exact .inl h1
    · exact .inr (.inl h1)
    · rcases List.mem_cons.1 h1 with rfl | h1
      · exact hx.elim .inl (fun h => .inr (.inl h))
      · exact .inr (.inr h1)
  exact ⟨h.ra, h.rb, fun y hy => h.rt y (List.mem_cons_of_mem _ hy), h.ma, h.mb, fun y hy => go y (h.tp y hy), fun z hz y k hw => go y (h.cl z hz y k hw)⟩
theorem DocI.lack {wf : Bs → List (Bs × Int)} {th : Bs → Bool} {tips todo a b : List Bs} {x : Bs} (h : DocI wf th tips (x :: todo) a b) (hx : th x = false) : DocI wf th tips todo a (withL b x) := by
  have go : ∀ y, y ∈ a ∨ y ∈ b ∨ y ∈ x :: todo → y ∈ a ∨ y ∈ withL b x ∨ y ∈ todo := fun y hy => by
    rcases hy with h1 | h1 | h1
    · exact .inl h1
    · exact .inr (.inl (mem_withL.2 (.inr h1)))
    · rcases List.mem_cons.1 h1 with rfl | h1
      · exact .inr (.inl (mem_withL.2 (.inl rfl)))
      · exact .inr (.inr h1)
  refine ⟨h.ra, rising_withL h.rb, fun y hy => h.rt y (List.mem_cons_of_mem _ hy), h.ma, fun y hy => ?_, fun y hy => go y (h.tp y hy), fun z hz y k hw => go y (h.cl z hz y k hw)⟩
  rcases mem_withL.1 hy with rfl | hy
  · exact ⟨h.rt _ (by simp), hx⟩
  · exact h.mb y hy
theorem DocI.have {wf : Bs → List (Bs × Int)} {th : Bs → Bool} {tips todo a b : List Bs} {x : Bs} (h : DocI wf th tips (x :: todo) a b) (hx : th x = true) : DocI wf th tips (todo ++ (wf x).map Prod.fst) (withL a x) b := by
  have go : ∀ y, y ∈ a ∨ y ∈ b ∨ y ∈ x :: todo → y ∈ withL a x ∨ y ∈ b ∨ y ∈ todo ++ (wf x).map Prod.fst := fun y hy => by
    rcases hy with h1 | h1 | h1
    · exact .inl (mem_withL.2 (.inr h1))
    · exact .inr (.inl h1)
    · rcases List.mem_cons.1 h1 with rfl | h1
      · exact .inl (mem_withL.2 (.inl rfl))
      · exact .inr (.inr (List.mem_append_left _ h1))
  have hr := h.rt x (by simp)
  refine ⟨rising_withL h.ra, h.rb, fun y hy => ?_, fun y hy => ?_, h.mb, fun y hy => go y (h.tp y hy), fun z hz y k hw => ?_⟩
  · rcases List.mem_append.1 hy with hy | hy
    · exact h.rt y (List.mem_cons_of_mem _ hy)
    · obtain ⟨p, hp, rfl⟩ := List.mem_map.1 hy
      exact .want (k := p.2) hr hp
  · rcases mem_withL.1 hy with rfl | hy
    · exact ⟨hr, hx⟩
    · exact h.ma y hy
  · rcases mem_withL.1 hz with rfl | hz
    · exact .inr (.inr (List.mem_append_right _ (List.mem_map.2 ⟨_, hw, rfl⟩)))
    · exact go y (h.cl z hz y k hw)
theorem DocI.done {wf : Bs → List (Bs × Int)} {th : Bs → Bool} {tips a b : List Bs} (h : DocI wf th tips [] a b) (h0 : ∀ x, th x = false → wf x = []) : IsClo wf th tips a b := by
  have hall : ∀ x, Reach wf tips x → x ∈ a ∨ x ∈ b := fun x hx => by
    induction hx with
    | tip hm => exact (h.tp _ hm).elim .inl (fun h => h.elim .inr (fun h => by cases h))
    | want hr hw ih =>
      rcases ih with h1 | h1
      · exact (h.cl _ h1 _ _ hw).elim .inl (fun h => h.elim .inr (fun h => by cases h))
      · rw [h0 _ (h.mb _ h1).2] at hw; cases hw
  refine ⟨h.ra, h.rb, fun x => ⟨h.ma x, fun hx => ?_⟩, fun x => ⟨h.mb x, fun hx => ?_⟩⟩
  · rcases hall x hx.1 with h1 | h1
    · exact h1
    · have := (h.mb x h1).2; rw [hx.2] at this; cases this
  · rcases hall x hx.1 with h1 | h1
    · have := (h.ma x h1).2; rw [hx.2] at this; cases this
    · exact h1
end Go.Proofs.YthbmaloajgkhmaaGreatDoor


namespace Go.Proofs.YthbmaloajgkhmaaGreatDoor
theorem key_ext {α : Type} (f : α → Bs) : ∀ {a b : List α}, a.Pairwise (fun x y => f x < f y) → b.Pairwise (fun x y => f x < f y) → (∀ x, x ∈ a ↔ x ∈ b) → a = b
  | [], [], _, _, _ => rfl
  | [], y :: b, _, _, h => by have := (h y).2 (by simp); simp at this
  | x :: a, [], _, _, h => by have := (h x).1 (by simp); simp at this
  | x :: a, y :: b, ha, hb, h => by
    have ha' := List.pairwise_cons.1 ha
    have hb' := List.pairwise_cons.1 hb
    have hxy : x = y := by
      rcases List.mem_cons.1 ((h x).1 (by simp)) with e | hx
      · exact e
      · rcases List.mem_cons.1 ((h y).2 (by simp)) with e | hy
        · exact e.symm
        · exact absurd (lt_tr (hb'.1 x hx) (ha'.1 y hy)) (lt_irr _)
    subst hxy
    congr 1
    refine key_ext f ha'.2 hb'.2 fun z => ⟨fun hz => ?_, fun hz => ?_⟩
    · rcases List.mem_cons.1 ((h z).1 (List.mem_cons_of_mem _ hz)) with e | h2
      · exact absurd (ha'.1 z hz) (by rw [e]; exact lt_irr _)
      · exact h2
    · rcases List.mem_cons.1 ((h z).2 (List.mem_cons_of_mem _ hz)) with e | h2
      · exact absurd (hb'.1 z hz) (by rw [e]; exact lt_irr _)
      · exact h2
section
variable {wf wf' : Bs → List (Bs × Int)} {th th' : Bs → Bool} {tips one two a b c d x y : List Bs}

theorem IsClo.again (h : IsClo wf th tips a b) (h' : IsClo wf th a c d) : a = c ∧ d.length ≤ b.length := by
  have hr : ∀ x, Reach wf a x → Reach wf tips x := fun x hx => Reach.trans (fun y hy => ((h.ma y).1 hy).1) hx
  refine ⟨rising_ext h.ra h'.ra fun x => ⟨fun hx => (h'.ma x).2 ⟨.tip hx, ((h.ma x).1 hx).2⟩, fun hx => (h.ma x).2 ⟨hr x ((h'.ma x).1 hx).1, ((h'.ma x).1 hx).2⟩⟩, ?_⟩
  exact nodup_len h'.rb.nodup fun x hx => (h.mb x).2 ⟨hr x ((h'.mb x).1 hx).1, ((h'.mb x).1 hx).2⟩
theorem IsClo.both (h1 : IsClo wf th one a b) (h2 : IsClo wf th two c d) (h3 : IsClo wf th (one ++ two) x y) :
    (∀ s, s ∈ x ↔ s ∈ a ∨ s ∈ c) ∧ (∀ s, s ∈ y ↔ s ∈ b ∨ s ∈ d) ∧ x.length ≤ a.length + c.length ∧ y.length ≤ b.length + d.length := by
  have hx : ∀ s, s ∈ x ↔ s ∈ a ∨ s ∈ c := fun s => by
    rw [h3.ma, h1.ma, h2.ma, reach_append]
    exact ⟨fun ⟨p, q⟩ => p.elim (fun p => .inl ⟨p, q⟩) (fun p => .inr ⟨p, q⟩), fun h => h.elim (fun p => ⟨.inl p.1, p.2⟩) (fun p => ⟨.inr p.1, p.2⟩)⟩
  have hy : ∀ s, s ∈ y ↔ s ∈ b ∨ s ∈ d := fun s => by
    rw [h3.mb, h1.mb, h2.mb, reach_append]
    exact ⟨fun ⟨p, q⟩ => p.elim (fun p => .inl ⟨p, q⟩) (fun p => .inr ⟨p, q⟩), fun h => h.elim (fun p => ⟨.inl p.1, p.2⟩) (fun p => ⟨.inr p.1, p.2⟩)⟩
  refine ⟨hx, hy, ?_, ?_⟩
  · rw [← List.length_append]
    exact nodup_len h3.ra.nodup fun s hs => List.mem_append.2 ((hx s).1 hs)
  · rw [← List.length_append]
    exact nodup_len h3.rb.nodup fun s hs => List.mem_append.2 ((hy s).1 hs)

/-- With more objects behind. -/
structure More (wf wf' : Bs → List (Bs × Int)) (th th' : Bs → Bool) : Prop where
  tt : ∀ x, th x = true → th' x = true
  ww : ∀ x, th x = true → wf' x = wf x
  no : ∀ x, th x = false → wf x = []
theorem More.reach (m : More wf wf' th th') {s : Bs} (h : Reach wf tips s) : Reach wf' tips s :=
  Reach.mono (fun x y k _ _ hw => by
    cases ht : th x
    · rw [m.no x ht] at hw; cases hw
    · rw [m.ww x ht]; exact hw) h
theorem More.back (m : More wf wf' th th') (hall : ∀ s, Reach wf tips s → th s = true) {s : Bs} (h : Reach wf' tips s) : Reach wf tips s := by
  induction h with
  | tip hm => exact .tip hm
  | want _ hw ih => rw [m.ww _ (hall _ ih)] at hw; exact .want ih hw
theorem IsClo.more (m : More wf wf' th th') (h : IsClo wf th tips a b) (h' : IsClo wf' th' tips c d) : ∀ s, s ∈ a → s ∈ c := fun s hs =>
  (h'.ma s).2 ⟨m.reach ((h.ma s).1 hs).1, m.tt s ((h.ma s).1 hs).2⟩
theorem IsClo.same (m : More wf wf' th th') (hall : ∀ s, Reach wf tips s → th s = true) (h : IsClo wf th tips a b) (h' : IsClo wf' th' tips c d) : a = c :=
  rising_ext h.ra h'.ra fun s => ⟨fun hs => IsClo.more m h h' s hs, fun hs => (h.ma s).2 ⟨m.back hall ((h'.ma s).1 hs).1, hall s (m.back hall ((h'.ma s).1 hs).1)⟩⟩

/-- With only what the tips came to. -/
theorem IsClo.less (h : IsClo wf th tips a b) (hno : ∀ s, th s = false → wf s = []) (ht : ∀ s, th' s = true ↔ th s = true ∧ s ∈ a) (hw : ∀ s, s ∈ a → wf' s = wf s) (hn : ∀ s, s ∉ a → wf' s = []) (h' : IsClo wf' th' tips c d) : a = c ∧ b = d := by
  have r1 : ∀ s, Reach wf tips s → wf' s = wf s := fun s hs => by
    cases hq : th s
    · rw [hno s hq, hn s (fun hm => by have := ((h.ma s).1 hm).2; rw [hq] at this; cases this)]
    · exact hw s ((h.ma s).2 ⟨hs, hq⟩)
  have r2 : ∀ s, Reach wf tips s ↔ Reach wf' tips s := fun s => by
    constructor
    · intro hs
      exact Reach.mono (fun x y k hx _ hm => by rw [r1 x hx]; exact hm) hs
    · intro hs
      exact Reach.mono (fun x y k _ hx hm => by rw [← r1 x hx]; exact hm) hs
  refine IsClo.unique (IsClo.congr h r2 fun s hs => ?_) h'
  rw [Bool.eq_iff_iff, ht]
  exact ⟨fun hq => ⟨hq, (h.ma s).2 ⟨hs, hq⟩⟩, fun hq => hq.1⟩

/-- Without one that they come to. -/
theorem IsClo.without {z : Bs} (h : IsClo wf th tips a b) (hz : z ∈ a) (ht : ∀ s, th' s = (th s && !(s == z))) (hw : ∀ s, s ≠ z → wf' s = wf s) (hn : wf' z = []) (h' : IsClo wf' th' tips c d) : z ∈ d ∧ z ∉ c ∧ c.length < a.length := by
  have r1 : ∀ s, Reach wf' tips s → Reach wf tips s := fun s hs => Reach.mono (fun x y k _ _ hm => by
    by_cases e : x = z
    · rw [e, hn] at hm; cases hm
    · rw [← hw x e]; exact hm) hs
  have r2 : ∀ s, Reach wf tips s → Reach wf' tips s ∨ Reach wf' tips z := fun s hs => by
    induction hs with
    | tip hm => exact .inl (.tip hm)
    | @want x y k _ hm ih =>
      rcases ih with ih | ih
      · by_cases e : x = z
        · rw [e] at ih; exact .inr ih
        · rw [← hw x e] at hm; exact .inl (.want ih hm)
      · exact .inr ih
  have hz' : Reach wf' tips z := (r2 z ((h.ma z).1 hz).1).elim id id
  have htz : th' z = false := by rw [ht]; simp
  have hzc : z ∉ c := fun hm => by have := ((h'.ma z).1 hm).2; rw [htz] at this; cases this
  refine ⟨(h'.mb z).2 ⟨hz', htz⟩, hzc, ?_⟩
  have hlen : (z :: c).length ≤ a.length := nodup_len (List.nodup_cons.2 ⟨hzc, h'.ra.nodup⟩) fun s hs => by
    rcases List.mem_cons.1 hs with rfl | hs
    · exact hz
    · have h2 := (h'.ma s).1 hs
      have h3 := h2.2
      rw [ht, Bool.and_eq_true] at h3
      exact (h.ma s).2 ⟨r1 s h2.1, h3.1⟩
  simp only [List.length_cons] at hlen
  omega
end
/-- Whether what tips come to is sound. -/
def IsSound (wf : Bs → List (Bs × Int)) (th : Bs → Bool) (kd : Bs → Int) (tips : List Bs) (r : Int) : Prop :=
  (r = 51 ∧ ∃ x, Reach wf tips x ∧ th x = false) ∨ ((∀ x, Reach wf tips x → th x = true) ∧
    ((r = 3 ∧ ∃ x y k, Reach wf tips x ∧ (y, k) ∈ wf x ∧ kd y ≠ k) ∨ (r = 0 ∧ ∀ x y k, Reach wf tips x → (y, k) ∈ wf x → kd y = k)))
theorem IsSound.unique {wf : Bs → List (Bs × Int)} {th : Bs → Bool} {kd : Bs → Int} {tips : List Bs} {r r' : Int} (h : IsSound wf th kd tips r) (h' : IsSound wf th kd tips r') : r = r' := by
  rcases h with ⟨rfl, x, hx, ht⟩ | ⟨hall, h⟩ <;> rcases h' with ⟨rfl, x', hx', ht'⟩ | ⟨hall', h'⟩
  · rfl
  · rw [hall' x hx] at ht; cases ht
  · rw [hall x' hx'] at ht'; cases ht'
  · rcases h with ⟨rfl, x, y, k, h1, h2, h3⟩ | ⟨rfl, h⟩ <;> rcases h' with ⟨rfl, x', y', k', h1', h2', h3'⟩ | ⟨rfl, h'⟩
    · rfl
    · exact absurd (h' x y k h1 h2) h3
    · exact absurd (h x' y' k' h1' h2') h3'
    · rfl
theorem IsSound.lack {wf : Bs → List (Bs × Int)} {th : Bs → Bool} {kd : Bs → Int} {tips a b : List Bs} {r : Int} (h : IsSound wf th kd tips r) (hc : IsClo wf th tips a b) : r = 51 ↔ 0 < b.length := by
  constructor
  · rintro rfl
    rcases h with ⟨_, x, hx, ht⟩ | ⟨_, ⟨h, _⟩ | ⟨h, _⟩⟩
    · exact List.length_pos_of_mem ((hc.mb x).2 ⟨hx, ht⟩)
    · cases h
    · cases h
  · intro hb
    obtain ⟨x, hx⟩ := List.exists_mem_of_length_pos hb
    obtain ⟨h1, h2⟩ := (hc.mb x).1 hx
    rcases h with ⟨h, _⟩ | ⟨hall, _⟩
    · exact h
    · rw [hall x h1] at h2; cases h2
theorem IsSound.zero {wf : Bs → List (Bs × Int)} {th : Bs → Bool} {kd : Bs → Int} {tips : List Bs} (h : IsSound wf th kd tips 0) : (∀ x, Reach wf tips x → th x = true) ∧ ∀ x y k, Reach wf tips x → (y, k) ∈ wf x → kd y = k := by
  rcases h with ⟨h, _⟩ | ⟨hall, ⟨h, _⟩ | ⟨_, h⟩⟩
  · cases h
  · cases h
  · exact ⟨hall, h⟩
theorem IsSound.more {wf wf' : Bs → List (Bs × Int)} {th th' : Bs → Bool} {kd kd' : Bs → Int} {tips : List Bs} {r : Int} (m : More wf wf' th th') (hk : ∀ x, th x = true → kd' x = kd x) (h : IsSound wf th kd tips 0) (h' : IsSound wf' th' kd' tips r) : r = 0 := by
  obtain ⟨hall, hkind⟩ := h.zero
  rcases h' with ⟨_, x, hx, ht⟩ | ⟨_, ⟨_, x, y, k, h1, h2, h3⟩ | ⟨h, _⟩⟩
  · have := m.tt x (hall x (m.back hall hx)); rw [ht] at this; cases this
  · have hx := m.back hall h1
    rw [m.ww x (hall x hx)] at h2
    rw [hk y (hall y (.want hx h2))] at h3
    exact absurd (hkind x y k hx h2) h3
  · exact h
structure Hld where
  id : Bs
  kind : Int
  data : Bs
deriving DecidableEq
def noHld : Hld := ⟨[], 0, []⟩
def findL (l : List Hld) (x : Bs) : Option Hld := l.find? fun h => h.id == x
def thB (l : List Hld) (x : Bs) : Bool := (findL l x).isSome
def kindB (l : List Hld) (x : Bs) : Int := ((findL l x).map Hld.kind).getD 0
def pickL (l : List Hld) (ids : List Bs) : List Hld := l.filter fun h => ids.contains h.id
theorem findL_id {l : List Hld} {x : Bs} {h : Hld} (hf : findL l x = some h) : h.id = x := by
  have := List.find?_some hf; simpa using this
theorem findL_mem {l : List Hld} {x : Bs} {h : Hld} (hf : findL l x = some h) : h ∈ l := List.mem_of_find?_eq_some hf
theorem findL_append (l m : List Hld) (x : Bs) : findL (l ++ m) x = (findL l x).or (findL m x) := by unfold findL; rw [List.find?_append]
theorem findL_cons (h : Hld) (l : List Hld) (x : Bs) : findL (h :: l) x = if h.id = x then some h else findL l x := by
  unfold findL
  by_cases e : h.id = x
  · rw [if_pos e, List.find?_cons_of_pos (by simpa using e)]
  · rw [if_neg e, List.find?_cons_of_neg (by simpa using e)]
theorem findL_filter (p : Hld → Bool) (q : Bs → Bool) (hp : ∀ h, p h = q h.id) (l : List Hld) (x : Bs) : findL (l.filter p) x = if q x = true then findL l x else none := by
  induction l with
  | nil => simp [findL]
  | cons h l ih =>
    by_cases hq : p h = true
    · rw [List.filter_cons_of_pos hq, findL_cons, findL_cons, ih]
      by_cases e : h.id = x
      · have : q x = true := by rw [← e, ← hp]; exact hq
        rw [if_pos e, if_pos this, if_pos e]
      · rw [if_neg e, if_neg e]
    · rw [List.filter_cons_of_neg hq, ih, findL_cons]
      by_cases e : h.id = x
      · have : ¬ q x = true := by rw [← e, ← hp]; exact hq
        rw [if_neg this, if_neg this]
      · rw [if_neg e]
/-- r is the set of what stands in src: of each name the first one. -/
structure IsSet (src r : List Hld) : Prop where
  rise : r.Pairwise fun x y => x.id < y.id
  mem : ∀ h, h ∈ r ↔ findL src h.id = some h
theorem IsSet.unique {src r r' : List Hld} (h : IsSet src r) (h' : IsSet src r') : r = r' := key_ext Hld.id h.rise h'.rise fun x => (h.mem x).trans (h'.mem x).symm
theorem IsSet.find {src r : List Hld} (h : IsSet src r) (x : Bs) : findL r x = findL src x := by
  cases hs : findL src x with
  | none =>
    cases hr : findL r x with
    | none => rfl
    | some z =>
      have h1 := (h.mem z).1 (findL_mem hr)
      rw [findL_id hr, hs] at h1; cases h1
  | some z =>
    have hz : z ∈ r := (h.mem z).2 (by rw [findL_id hs]; exact hs)
    cases hr : findL r x with
    | none =>
      have := List.find?_eq_none.1 hr z hz
      rw [findL_id hs] at this; simp at this
    | some u =>
      have h1 := (h.mem u).1 (findL_mem hr)
      rw [findL_id hr, hs] at h1
      exact h1.symm
theorem IsSet.nil : IsSet [] [] := ⟨List.Pairwise.nil, fun h => by simp [findL]⟩
def putH : List Hld → Hld → List Hld
  | [], x => [x]
  | y :: l, x => if y.id = x.id then y :: l else if x.id < y.id then x :: y :: l else y :: putH l x
theorem mem_putH {x z : Hld} : ∀ {l : List Hld}, z ∈ putH l x → z ∈ l ∨ z = x
  | [], h => by simp [putH] at h; exact .inr h
  | y :: l, h => by
    unfold putH at h
    by_cases h1 : y.id = x.id
    · rw [if_pos h1] at h; exact .inl h
    · rw [if_neg h1] at h
      by_cases h2 : x.id < y.id
      · rw [if_pos h2] at h
        rcases List.mem_cons.1 h with h | h
        · exact .inr h
        · exact .inl h
      · rw [if_neg h2] at h
        rcases List.mem_cons.1 h with h | h
        · exact .inl (by rw [h]; simp)
        · exact (mem_putH h).elim (fun h => .inl (List.mem_cons_of_mem _ h)) .inr
theorem putH_keeps {x z : Hld} : ∀ {l : List Hld}, z ∈ l → z ∈ putH l x
  | [], h => by cases h
  | y :: l, h => by
    unfold putH
    by_cases h1 : y.id = x.id
    · rw [if_pos h1]; exact h
    · rw [if_neg h1]
      by_cases h2 : x.id < y.id
      · rw [if_pos h2]; exact List.mem_cons_of_mem _ h
      · rw [if_neg h2]
        rcases List.mem_cons.1 h with h | h
        · rw [h]; simp
        · exact List.mem_cons_of_mem _ (putH_keeps h)
theorem putH_new {x : Hld} : ∀ {l : List Hld}, (∀ y ∈ l, y.id ≠ x.id) → x ∈ putH l x
  | [], _ => by simp [putH]
  | y :: l, h => by
    unfold putH
    rw [if_neg (h y (by simp))]
    by_cases h2 : x.id < y.id
    · rw [if_pos h2]; simp
    · rw [if_neg h2]; exact List.mem_cons_of_mem _ (putH_new fun z hz => h z (List.mem_cons_of_mem _ hz))
theorem putH_old {x : Hld} : ∀ {l : List Hld}, l.Pairwise (fun a b => a.id < b.id) → (∃ y ∈ l, y.id = x.id) → putH l x = l
  | [], _, h => by obtain ⟨_, h, _⟩ := h; cases h
  | y :: l, hp, h => by
    have hp' := List.pairwise_cons.1 hp
    unfold putH
    by_cases h1 : y.id = x.id
    · rw [if_pos h1]
    · obtain ⟨z, hz, hzx⟩ := h
      rcases List.mem_cons.1 hz with rfl | hz
      · exact absurd hzx h1
      · rw [if_neg h1, if_neg (fun h2 => by have h3 := hp'.1 z hz; rw [hzx] at h3; exact lt_irr _ (lt_tr h2 h3)), putH_old hp'.2 ⟨z, hz, hzx⟩]
theorem putH_rise {x : Hld} : ∀ {l : List Hld}, l.Pairwise (fun a b => a.id < b.id) → (putH l x).Pairwise fun a b => a.id < b.id
  | [], _ => by simp [putH]
  | y :: l, hp => by
    have hp' := List.pairwise_cons.1 hp
    unfold putH
    by_cases h1 : y.id = x.id
    · rw [if_pos h1]; exact hp
    · rw [if_neg h1]
      by_cases h2 : x.id < y.id
      · rw [if_pos h2]
        refine List.pairwise_cons.2 ⟨fun z hz => ?_, hp⟩
        rcases List.mem_cons.1 hz with rfl | hz
        · exact h2
        · exact lt_tr h2 (hp'.1 z hz)
      · rw [if_neg h2]
        refine List.pairwise_cons.2 ⟨fun z hz => ?_, putH_rise hp'.2⟩
        rcases mem_putH hz with hz | rfl
        · exact hp'.1 z hz
        · rcases lt_cases z.id y.id with h | h | h
          · exact absurd h h2
          · exact absurd h.symm h1
          · exact h
theorem IsSet.put {src r : List Hld} (h : IsSet src r) (x : Hld) : IsSet (src ++ [x]) (putH r x) := by
  refine ⟨putH_rise h.rise, fun z => ?_⟩
  rw [findL_append]
  cases hs : findL src z.id with
  | some u =>
    rw [Option.some_or]
    constructor
    · intro hz
      rcases mem_putH hz with hz | rfl
      · rw [← hs]; exact (h.mem z).1 hz
      · have hu : u ∈ r := (h.mem u).2 (by rw [findL_id hs]; exact hs)
        rw [putH_old h.rise ⟨u, hu, findL_id hs⟩] at hz
        rw [← hs]; exact (h.mem z).1 hz
    · intro e
      cases e
      exact putH_keeps ((h.mem z).2 hs)
  | none =>
    rw [Option.none_or, findL_cons]
    constructor
    · intro hz
      rcases mem_putH hz with hz | rfl
      · have := (h.mem z).1 hz; rw [hs] at this; cases this
      · rw [if_pos rfl]
    · intro e
      by_cases hx : x.id = z.id
      · rw [if_pos hx] at e
        cases e
        exact putH_new fun y hy e => by
          have h1 := (h.mem y).1 hy
          rw [e, hs] at h1; cases h1
      · rw [if_neg hx] at e; cases e
theorem IsSet.foldl {l : List Hld} : ∀ {src r : List Hld}, IsSet src r → IsSet (src ++ l) (l.foldl putH r) := by
  induction l with
  | nil => intro src r h; simpa using h
  | cons x l ih =>
    intro src r h
    have := ih (h.put x)
    simpa using this
end Go.Proofs.YthbmaloajgkhmaaGreatDoor


namespace Go.Proofs.YthbmaloajgkhmaaGreatDoor
open Go.Sort
instance : Inhabited Hld := ⟨noHld⟩
/-- The first of each name is the same. -/
def SameF (l m : List Hld) : Prop := ∀ s, findL m s = findL l s
theorem SameF.refl (l : List Hld) : SameF l l := fun _ => rfl
theorem SameF.trans {a b c : List Hld} (h : SameF a b) (k : SameF b c) : SameF a c := fun s => (k s).trans (h s)
/-- Two rows side by side that share no name change their places. -/
theorem sameF_blocks {p u v q : List Hld} (h : ∀ x ∈ u, ∀ y ∈ v, x.id ≠ y.id) : SameF (p ++ (u ++ v) ++ q) (p ++ (v ++ u) ++ q) := fun s => by
  rw [findL_append, findL_append, findL_append, findL_append, findL_append, findL_append]
  congr 2
  cases hu : findL u s with
  | none => rw [Option.or_none, Option.none_or]
  | some x =>
    cases hv : findL v s with
    | none => rfl
    | some y => exact absurd ((findL_id hu).trans (findL_id hv).symm) (h x (findL_mem hu) y (findL_mem hv))
def ltH (x y : Hld) : Bool := decide (x.id < y.id)
theorem ltH_swo : SWO ltH := ⟨fun x => by simp [ltH], fun x y z h k => by
  unfold ltH at h k ⊢
  exact decide_eq_true (lt_tr (of_decide_eq_true h) (of_decide_eq_true k)), fun x y z h k => by
  unfold ltH at h k ⊢
  refine decide_eq_false fun hz => ?_
  have h1 := of_decide_eq_false h; have k1 := of_decide_eq_false k
  rcases lt_cases y.id x.id with e | e | e
  · rcases lt_cases z.id y.id with e2 | e2 | e2
    · exact lt_irr _ (lt_tr hz (lt_tr e2 e))
    · rw [e2] at hz; exact lt_irr _ (lt_tr hz e)
    · exact k1 e2
  · rw [← e] at hz; exact k1 hz
  · exact h1 e⟩
theorem swp_list (d : Array Hld) (j : Nat) (hj : j + 1 < d.size) : ∃ p q, d.toList = p ++ ([d[j]!] ++ [d[j + 1]!]) ++ q ∧ (swp d (j + 1) j).toList = p ++ ([d[j + 1]!] ++ [d[j]!]) ++ q := by
  have h1 : d[j]! = d[j] := getElem!_pos d j (by omega)
  have h2 : d[j + 1]! = d[j + 1] := getElem!_pos d (j + 1) hj
  refine ⟨d.toList.take j, d.toList.drop (j + 2), ?_, ?_⟩
  · rw [h1, h2]
    apply List.ext_getElem?
    intro i
    have hl : (d.toList.take j).length = j := by simp; omega
    rw [List.append_assoc]
    rcases Nat.lt_or_ge i j with hi | hi
    · rw [List.getElem?_append_left (by rw [hl]; exact hi), List.getElem?_take, if_pos hi]
    · rw [List.getElem?_append_right (by rw [hl]; exact hi), hl]
      obtain ⟨r, rfl⟩ := Nat.exists_eq_add_of_le hi
      rw [Nat.add_sub_cancel_left]
      match r with
      | 0 => simp [Array.getElem?_toList, Array.getElem?_eq_getElem (show j < d.size by omega)]
      | 1 => simp [Array.getElem?_toList, Array.getElem?_eq_getElem hj]
      | r + 2 => simp [List.getElem?_drop, show j + 2 + r = j + (r + 2) by omega]
  · rw [h1, h2]
    apply List.ext_getElem?
    intro i
    have hl : (d.toList.take j).length = j := by simp; omega
    have hs : (swp d (j + 1) j).toList = (d.toList.set (j + 1) d[j]).set j d[j + 1] := by
      unfold swp; rw [h1, h2]; simp
    rw [hs, List.append_assoc]
    rcases Nat.lt_or_ge i j with hi | hi
    · rw [List.getElem?_append_left (by rw [hl]; exact hi), List.getElem?_take, if_pos hi, List.getElem?_set_ne (by omega), List.getElem?_set_ne (by omega)]
    · rw [List.getElem?_append_right (by rw [hl]; exact hi), hl]
      obtain ⟨r, rfl⟩ := Nat.exists_eq_add_of_le hi
      rw [Nat.add_sub_cancel_left]
      match r with
      | 0 =>
        show ((d.toList.set (j + 1) d[j]).set j d[j + 1])[j]? = _
        rw [List.getElem?_set_self (by simp; omega)]; rfl
      | 1 =>
        rw [List.getElem?_set_ne (by omega), List.getElem?_set_self (by simp; omega)]; rfl
      | r + 2 =>
        rw [List.getElem?_set_ne (by omega), List.getElem?_set_ne (by omega)]
        simp [List.getElem?_drop, show j + 2 + r = j + (r + 2) by omega]
theorem swp_same (d : Array Hld) (j : Nat) (hj : j + 1 < d.size) (h : ltH d[j + 1]! d[j]! = true) : SameF d.toList (swp d (j + 1) j).toList := by
  obtain ⟨p, q, e1, e2⟩ := swp_list d j hj
  rw [e1, e2]
  refine sameF_blocks fun x hx y hy e => ?_
  rw [List.mem_singleton.1 hx, List.mem_singleton.1 hy] at e
  have := of_decide_eq_true (show decide (d[j + 1]!.id < d[j]!.id) = true from h)
  rw [e] at this; exact lt_irr _ this
theorem swp_sizeH (d : Array Hld) (i j : Nat) : (swp d i j).size = d.size := by simp [swp]
theorem insInner_same (a : Nat) : ∀ (j : Nat) (d : Array Hld), j < d.size → SameF d.toList (insInner ltH a j d).toList ∧ (insInner ltH a j d).size = d.size
  | 0, d, _ => by unfold insInner; exact ⟨SameF.refl _, rfl⟩
  | j + 1, d, hj => by
    unfold insInner
    split
    · rename_i hc
      rw [Bool.and_eq_true] at hc
      obtain ⟨h1, h2⟩ := insInner_same a j (swp d (j + 1) j) (by rw [swp_sizeH]; omega)
      exact ⟨(swp_same d j hj hc.2).trans h1, h2.trans (swp_sizeH _ _ _)⟩
    · exact ⟨SameF.refl _, rfl⟩
theorem insOuter_same (a b : Nat) : ∀ (n i : Nat) (d : Array Hld), b - i = n → b ≤ d.size → SameF d.toList (insOuter ltH a b i d).toList
  | 0, i, d, h, hb => by rw [insOuter, if_neg (by omega)]; exact SameF.refl _
  | n + 1, i, d, h, hb => by
    rw [insOuter, if_pos (by omega)]
    obtain ⟨h1, h2⟩ := insInner_same a i d (by omega)
    exact h1.trans (insOuter_same a b n (i + 1) _ (by omega) (by rw [h2]; exact hb))
theorem insertion_same (d : Array Hld) (a b : Nat) (hb : b ≤ d.size) : SameF d.toList (insertionSort ltH d a b).toList := insOuter_same a b _ _ d rfl hb
/-- Sorted and stable. -/
structure Stab (l m : List Hld) : Prop where
  perm : m.Perm l
  same : SameF l m
  sort : m.Pairwise fun x y => ¬ y.id < x.id
theorem insertion_stab (l : List Hld) : Stab l (insertionSort ltH l.toArray 0 l.length).toList := by
  have h := insertionSort_holds ltH_swo l.toArray 0 l.length (Nat.zero_le _) (by simp)
  obtain ⟨⟨h1, h2, h3⟩, h4⟩ := h
  refine ⟨?_, ?_, ?_⟩
  · have e1 : ((insertionSort ltH l.toArray 0 l.length).extract 0 l.length) = insertionSort ltH l.toArray 0 l.length := by
      refine Array.extract_eq_self_of_le ?_
      rw [h1]; simp
    rw [e1] at h3
    simpa using h3
  · have := insertion_same l.toArray 0 l.length (by simp)
    simpa using this
  · rw [List.pairwise_iff_getElem]
    intro i j hi hj hij
    have hs : (insertionSort ltH l.toArray 0 l.length).size = l.length := by rw [h1]; simp
    have := h4 i j (Nat.zero_le _) hij (by simpa [hs] using hj)
    rw [getElem!_pos _ i (by simpa using hi), getElem!_pos _ j (by simpa using hj)] at this
    have := of_decide_eq_false (show decide _ = false from this)
    simpa using this
/-- Of neighbours of one name the first alone. -/
def runs : Bs → List Hld → List Hld
  | _, [] => []
  | p, y :: l => if y.id = p then runs y.id l else y :: runs y.id l
def dedup : List Hld → List Hld
  | [] => []
  | x :: l => x :: runs x.id l
theorem mem_runs {z : Hld} : ∀ {l : List Hld} {p : Bs}, z ∈ runs p l → z ∈ l
  | [], _, h => h
  | y :: l, p, h => by
    unfold runs at h
    by_cases e : y.id = p
    · rw [if_pos e] at h; exact List.mem_cons_of_mem _ (mem_runs h)
    · rw [if_neg e] at h
      rcases List.mem_cons.1 h with rfl | h
      · exact List.mem_cons_self ..
      · exact List.mem_cons_of_mem _ (mem_runs h)
theorem runs_rise : ∀ {l : List Hld} {p : Bs}, (∀ x ∈ l, ¬ x.id < p) → l.Pairwise (fun x y => ¬ y.id < x.id) → (∀ x ∈ runs p l, p < x.id) ∧ (runs p l).Pairwise fun x y => x.id < y.id
  | [], _, _, _ => ⟨fun _ h => (by cases h), List.Pairwise.nil⟩
  | y :: l, p, hp, hs => by
    obtain ⟨h1, h2⟩ := List.pairwise_cons.1 hs
    obtain ⟨i1, i2⟩ := runs_rise (l := l) (p := y.id) h1 h2
    unfold runs
    by_cases e : y.id = p
    · rw [if_pos e, ← e]; exact ⟨i1, i2⟩
    · rw [if_neg e]
      have hlt : p < y.id := by
        rcases lt_cases p y.id with h | h | h
        · exact h
        · exact absurd h.symm e
        · exact absurd h (hp y (by simp))
      exact ⟨fun x hx => (List.mem_cons.1 hx).elim (fun e => by rw [e]; exact hlt) (fun hx => lt_tr hlt (i1 x hx)), List.pairwise_cons.2 ⟨i1, i2⟩⟩
theorem runs_find : ∀ {l : List Hld} {p : Bs} (s : Bs), s ≠ p → (∀ x ∈ l, ¬ x.id < p) → l.Pairwise (fun x y => ¬ y.id < x.id) → findL (runs p l) s = findL l s
  | [], _, _, _, _, _ => rfl
  | y :: l, p, s, hne, hp, hs => by
    obtain ⟨h1, h2⟩ := List.pairwise_cons.1 hs
    unfold runs
    by_cases e : y.id = p
    · rw [if_pos e, findL_cons, if_neg (fun e2 => hne (e2.symm.trans e)), e]
      exact runs_find s hne (fun x hx => hp x (List.mem_cons_of_mem _ hx)) h2
    · rw [if_neg e, findL_cons, findL_cons]
      by_cases e2 : y.id = s
      · rw [if_pos e2, if_pos e2]
      · rw [if_neg e2, if_neg e2]; exact runs_find s (fun e3 => e2 e3.symm) h1 h2
theorem dedup_find {l : List Hld} (hs : l.Pairwise fun x y => ¬ y.id < x.id) (s : Bs) : findL (dedup l) s = findL l s := by
  cases l with
  | nil => rfl
  | cons x l =>
    obtain ⟨h1, h2⟩ := List.pairwise_cons.1 hs
    unfold dedup
    rw [findL_cons, findL_cons]
    by_cases e : x.id = s
    · rw [if_pos e, if_pos e]
    · rw [if_neg e, if_neg e]; exact runs_find s (fun e3 => e e3.symm) h1 h2
theorem dedup_rise {l : List Hld} (hs : l.Pairwise fun x y => ¬ y.id < x.id) : (dedup l).Pairwise fun x y => x.id < y.id := by
  cases l with
  | nil => exact List.Pairwise.nil
  | cons x l =>
    obtain ⟨h1, h2⟩ := List.pairwise_cons.1 hs
    exact List.pairwise_cons.2 (runs_rise h1 h2)
theorem rise_find {r : List Hld} (h : r.Pairwise fun x y => x.id < y.id) (z : Hld) : z ∈ r ↔ findL r z.id = some z := by
  constructor
  · intro hz
    induction r with
    | nil => cases hz
    | cons x r ih =>
      obtain ⟨h1, h2⟩ := List.pairwise_cons.1 h
      rw [findL_cons]
      rcases List.mem_cons.1 hz with rfl | hz
      · rw [if_pos rfl]
      · rw [if_neg (fun e => by have := h1 z hz; rw [e] at this; exact lt_irr _ this)]
        exact ih h2 hz
  · exact fun h => findL_mem h
theorem Stab.isSet {l m : List Hld} (h : Stab l m) : IsSet l (dedup m) :=
  ⟨dedup_rise h.sort, fun z => by rw [rise_find (dedup_rise h.sort) z, dedup_find h.sort, h.same]⟩
end Go.Proofs.YthbmaloajgkhmaaGreatDoor


namespace Go.Proofs.YthbmaloajgkhmaaGreatDoor
open Go.Sort
def SortedH (l : List Hld) : Prop := l.Pairwise fun x y => ¬ y.id < x.id
theorem SameF.append {a b c d : List Hld} (h : SameF a b) (k : SameF c d) : SameF (a ++ c) (b ++ d) := fun s => by rw [findL_append, findL_append, h s, k s]
theorem Stab.refl {l : List Hld} (h : SortedH l) : Stab l l := ⟨List.Perm.refl l, SameF.refl l, h⟩
theorem Stab.trans' {a b c : List Hld} (hp : b.Perm a) (hs : SameF a b) (k : Stab b c) : Stab a c := ⟨k.perm.trans hp, hs.trans k.same, k.sort⟩
theorem Stab.append {a b m n : List Hld} (h : Stab a m) (k : Stab b n) (hx : ∀ x ∈ a, ∀ y ∈ b, ¬ y.id < x.id) : Stab (a ++ b) (m ++ n) :=
  ⟨h.perm.append k.perm, h.same.append k.same, List.pairwise_append.2 ⟨h.sort, k.sort, fun x hx' y hy => hx x (h.perm.mem_iff.1 hx') y (k.perm.mem_iff.1 hy)⟩⟩
/-- u1 u2 | v1 v2, the middle two changed: each half by itself, and the whole is one. -/
theorem stab_halves {u1 u2 v1 v2 m n : List Hld} (h1 : Stab (u1 ++ v1) m) (h2 : Stab (u2 ++ v2) n) (hA : SortedH (u1 ++ u2)) (hB : SortedH (v1 ++ v2))
    (hi : ∀ x ∈ u2, ∀ y ∈ v1, y.id < x.id) (hj : ∀ x ∈ u1, ∀ y ∈ v2, ¬ y.id < x.id) : Stab ((u1 ++ u2) ++ (v1 ++ v2)) (m ++ n) := by
  have hsw : SameF ((u1 ++ u2) ++ (v1 ++ v2)) ((u1 ++ v1) ++ (u2 ++ v2)) := by
    have := sameF_blocks (p := u1) (u := u2) (v := v1) (q := v2) fun x hx y hy e => by have := hi x hx y hy; rw [e] at this; exact lt_irr _ this
    simpa [List.append_assoc] using this
  have hpm : ((u1 ++ v1) ++ (u2 ++ v2)).Perm ((u1 ++ u2) ++ (v1 ++ v2)) := by
    rw [List.append_assoc, List.append_assoc]
    refine List.Perm.append_left u1 ?_
    rw [← List.append_assoc, ← List.append_assoc]
    exact List.Perm.append_right v2 List.perm_append_comm
  refine Stab.trans' hpm hsw (h1.append h2 fun x hx y hy => ?_)
  have a1 := (List.pairwise_append.1 hA).2.2
  have b1 := (List.pairwise_append.1 hB).2.2
  rcases List.mem_append.1 hx with hx | hx <;> rcases List.mem_append.1 hy with hy | hy
  · exact a1 x hx y hy
  · exact hj x hx y hy
  · exact fun h => lt_irr _ (lt_tr (hi y hy x hx) h)
  · exact b1 x hx y hy
/-- What the search has found: s, in a row of A and B. -/
structure Found (A B : List Hld) (s : Nat) : Prop where
  le : s ≤ A.length
  lo : (A.length + B.length) / 2 ≤ s + B.length
  mid : s ≤ (A.length + B.length) / 2
  no : s = 0 ∨ s + B.length = (A.length + B.length) / 2 ∨ ltH ((A ++ B).getD ((A.length + B.length) / 2 + A.length - s) noHld) ((A ++ B).getD (s - 1) noHld) = false
  yes : s = A.length ∨ s = (A.length + B.length) / 2 ∨ ltH ((A ++ B).getD ((A.length + B.length) / 2 + A.length - 1 - s) noHld) ((A ++ B).getD s noHld) = true
theorem sorted_at {l : List Hld} (h : SortedH l) {i j : Nat} (hij : i ≤ j) (hj : j < l.length) : ¬ (l.getD j noHld).id < (l.getD i noHld).id := by
  rw [List.getD_eq_getElem?_getD, List.getD_eq_getElem?_getD, List.getElem?_eq_getElem hj, List.getElem?_eq_getElem (by omega)]
  rcases Nat.lt_or_ge i j with h1 | h1
  · exact List.pairwise_iff_getElem.1 h i j (by omega) hj h1
  · obtain rfl : i = j := by omega
    exact lt_irr _
theorem mem_take_at {l : List Hld} {s : Nat} {x : Hld} (h : x ∈ l.take s) : ∃ i, i < s ∧ i < l.length ∧ x = l.getD i noHld := by
  obtain ⟨i, hi, rfl⟩ := List.mem_iff_getElem.1 h
  rw [List.length_take] at hi
  exact ⟨i, by omega, by omega, by rw [List.getElem_take, List.getD_eq_getElem?_getD, List.getElem?_eq_getElem (by omega)]; rfl⟩
theorem mem_drop_at {l : List Hld} {s : Nat} {x : Hld} (h : x ∈ l.drop s) : ∃ i, s ≤ i ∧ i < l.length ∧ x = l.getD i noHld := by
  obtain ⟨i, hi, rfl⟩ := List.mem_iff_getElem.1 h
  rw [List.length_drop] at hi
  exact ⟨s + i, by omega, by omega, by rw [List.getElem_drop, List.getD_eq_getElem?_getD, List.getElem?_eq_getElem (by omega)]; rfl⟩
theorem getD_left {A B : List Hld} {i : Nat} (h : i < A.length) : (A ++ B).getD i noHld = A.getD i noHld := by
  rw [List.getD_eq_getElem?_getD, List.getD_eq_getElem?_getD, List.getElem?_append_left h]
theorem getD_right {A B : List Hld} {i : Nat} (h : A.length ≤ i) : (A ++ B).getD i noHld = B.getD (i - A.length) noHld := by
  rw [List.getD_eq_getElem?_getD, List.getD_eq_getElem?_getD, List.getElem?_append_right h]
theorem le_tr' {a b c : Bs} (h : ¬ b < a) (k : ¬ c < b) : ¬ c < a := fun hc => by
  rcases lt_cases b c with h1 | h1 | h1
  · exact h (lt_tr h1 hc)
  · rw [← h1] at hc; exact h hc
  · exact k h1
theorem Found.parts {A B : List Hld} {s : Nat} (h : Found A B s) (hA : SortedH A) (hB : SortedH B) :
    (∀ x ∈ A.drop s, ∀ y ∈ B.take ((A.length + B.length) / 2 - s), y.id < x.id) ∧ (∀ x ∈ A.take s, ∀ y ∈ B.drop ((A.length + B.length) / 2 - s), ¬ y.id < x.id) := by
  have h1 := h.le; have h2 := h.lo; have h3 := h.mid
  generalize hmid : (A.length + B.length) / 2 = mid at *
  constructor
  · intro x hx y hy
    obtain ⟨i, hi1, hi2, rfl⟩ := mem_drop_at hx
    obtain ⟨j, hj1, hj2, rfl⟩ := mem_take_at hy
    have hyes := h.yes
    rw [hmid] at hyes
    rcases hyes with e | e | e
    · omega
    · omega
    · rw [getD_right (i := mid + A.length - 1 - s) (by omega), getD_left (i := s) (by omega), show mid + A.length - 1 - s - A.length = mid - 1 - s by omega] at e
      have e := of_decide_eq_true (show decide (_ < _) = true from e)
      have a1 := sorted_at hA hi1 hi2
      have b1 := sorted_at hB (show j ≤ mid - 1 - s by omega) (by omega)
      have c1 : (B.getD j noHld).id < (A.getD s noHld).id := by
        rcases lt_cases (B.getD j noHld).id (B.getD (mid - 1 - s) noHld).id with q | q | q
        · exact lt_tr q e
        · rw [q]; exact e
        · exact absurd q b1
      rcases lt_cases (A.getD s noHld).id (A.getD i noHld).id with q | q | q
      · exact lt_tr c1 q
      · rw [← q]; exact c1
      · exact absurd q a1
  · intro x hx y hy
    obtain ⟨i, hi1, hi2, rfl⟩ := mem_take_at hx
    obtain ⟨j, hj1, hj2, rfl⟩ := mem_drop_at hy
    have hno := h.no
    rw [hmid] at hno
    rcases hno with e | e | e
    · omega
    · omega
    · rw [getD_right (i := mid + A.length - s) (by omega), getD_left (i := s - 1) (by omega), show mid + A.length - s - A.length = mid - s by omega] at e
      have e := of_decide_eq_false (show decide (_ < _) = false from e)
      have a1 := sorted_at hA (show i ≤ s - 1 by omega) (by omega)
      have b1 := sorted_at hB hj1 hj2
      exact le_tr' (le_tr' a1 e) b1
end Go.Proofs.YthbmaloajgkhmaaGreatDoor


namespace Go.Proofs.YthbmaloajgkhmaaGreatDoor
/-- Turned to the right by n. -/
def rotr (x n : UInt32) : UInt32 := x >>> n ||| x <<< (32 - n)
structure V where
  a : UInt32
  b : UInt32
  c : UInt32
  d : UInt32
  e : UInt32
  f : UInt32
  g : UInt32
  h : UInt32
deriving DecidableEq
def bs0 (x : UInt32) : UInt32 := rotr x 2 ^^^ rotr x 13 ^^^ rotr x 22
def bs1 (x : UInt32) : UInt32 := rotr x 6 ^^^ rotr x 11 ^^^ rotr x 25
def ss0 (x : UInt32) : UInt32 := rotr x 7 ^^^ rotr x 18 ^^^ x >>> 3
def ss1 (x : UInt32) : UInt32 := rotr x 17 ^^^ rotr x 19 ^^^ x >>> 10
def chs (e f g : UInt32) : UInt32 := (e &&& f) ^^^ (~~~e &&& g)
def maj (a b c : UInt32) : UInt32 := (a &&& b) ^^^ (a &&& c) ^^^ (b &&& c)
def rndX (k w : UInt32) (v : V) : UInt32 := v.h + bs1 v.e + chs v.e v.f v.g + k + w
def rndY (v : V) : UInt32 := bs0 v.a + maj v.a v.b v.c
def rnd (k w : UInt32) (v : V) : V := ⟨rndX k w v + rndY v, v.a, v.b, v.c, v.d + rndX k w v, v.e, v.f, v.g⟩
def rnds (kf wf : Nat → UInt32) (v : V) : Nat → V
  | 0 => v
  | t + 1 => rnd (kf t) (wf t) (rnds kf wf v t)
def addV (v u : V) : V := ⟨v.a + u.a, v.b + u.b, v.c + u.c, v.d + u.d, v.e + u.e, v.f + u.f, v.g + u.g, v.h + u.h⟩
/-- Word t of the 64, m being the first sixteen. -/
def sched (m : Nat → UInt32) (t : Nat) : UInt32 :=
  if _h : t < 16 then m t else ss1 (sched m (t - 2)) + sched m (t - 7) + ss0 (sched m (t - 15)) + sched m (t - 16)
termination_by t
theorem sched_lo (m : Nat → UInt32) (t : Nat) (h : t < 16) : sched m t = m t := by rw [sched, dif_pos h]
theorem sched_hi (m : Nat → UInt32) (t : Nat) (h : ¬ t < 16) : sched m t = ss1 (sched m (t - 2)) + sched m (t - 7) + ss0 (sched m (t - 15)) + sched m (t - 16) := by rw [sched, dif_neg h]
/-- Word t of the bytes m. -/
def word (m : Nat → UInt8) (t : Nat) : UInt32 := (m (4 * t)).toUInt32 <<< 24 ||| (m (4 * t + 1)).toUInt32 <<< 16 ||| (m (4 * t + 2)).toUInt32 <<< 8 ||| (m (4 * t + 3)).toUInt32
/-- The eight words behind the block m. -/
def mixV (kf : Nat → UInt32) (v : V) (m : Nat → UInt8) : V := addV v (rnds kf (sched (word m)) v 64)
/-- The eight words behind n blocks of m. -/
def takeV (kf : Nat → UInt32) (v : V) (m : Nat → UInt8) : Nat → V
  | 0 => v
  | n + 1 => mixV kf (takeV kf v m n) (fun j => m (64 * n + j))
theorem word_congr {m m' : Nat → UInt8} {t : Nat} (h : ∀ j, j < 4 → m (4 * t + j) = m' (4 * t + j)) : word m t = word m' t := by
  unfold word
  rw [h 1 (by omega), h 2 (by omega), h 3 (by omega)]
  have := h 0 (by omega)
  simp only [Nat.add_zero] at this
  rw [this]
theorem sched_congr {m m' : Nat → UInt32} (h : ∀ t, t < 16 → m t = m' t) (t : Nat) : sched m t = sched m' t := by
  induction t using Nat.strongRecOn with
  | _ t ih =>
    by_cases h16 : t < 16
    · rw [sched_lo _ _ h16, sched_lo _ _ h16, h t h16]
    · rw [sched_hi _ _ h16, sched_hi _ _ h16, ih (t - 2) (by omega), ih (t - 7) (by omega), ih (t - 15) (by omega), ih (t - 16) (by omega)]
theorem rnds_congr {k k' w w' : Nat → UInt32} (v : V) (n : Nat) (h : ∀ t, t < n → k t = k' t ∧ w t = w' t) : rnds k w v n = rnds k' w' v n := by
  induction n with
  | zero => rfl
  | succ n ih => rw [rnds, rnds, ih fun t ht => h t (by omega), (h n (by omega)).1, (h n (by omega)).2]
theorem mixV_congr {k k' : Nat → UInt32} (v : V) {m m' : Nat → UInt8} (hk : ∀ t, t < 64 → k t = k' t) (h : ∀ j, j < 64 → m j = m' j) : mixV k v m = mixV k' v m' := by
  unfold mixV
  rw [rnds_congr v 64 (k' := k') (w' := sched (word m')) fun t ht => ⟨hk t ht, sched_congr (fun t ht => word_congr fun j hj => h _ (by omega)) t⟩]
theorem takeV_congr {k k' : Nat → UInt32} (v : V) {m m' : Nat → UInt8} (n : Nat) (hk : ∀ t, t < 64 → k t = k' t) (h : ∀ j, j < 64 * n → m j = m' j) : takeV k v m n = takeV k' v m' n := by
  induction n with
  | zero => rfl
  | succ n ih => rw [takeV, takeV, ih fun j hj => h j (by omega), mixV_congr _ hk fun j hj => h _ (by omega)]
theorem takeV_add (k : Nat → UInt32) (v : V) (m : Nat → UInt8) (n n' : Nat) : takeV k v m (n + n') = takeV k (takeV k v m n) (fun j => m (64 * n + j)) n' := by
  induction n' with
  | zero => rfl
  | succ n' ih =>
    rw [← Nat.add_assoc, takeV, ih, takeV]
    congr 1
    funext j
    congr 1
    omega
/-- The length of the padded text. -/
def tot (n : Nat) : Nat := (n + 8) / 64 * 64 + 64
/-- The padded text. -/
def padded (l : List UInt8) (j : Nat) : UInt8 :=
  if j < l.length then l.getD j 0 else if j = l.length then 128 else if j < tot l.length - 8 then 0 else UInt8.ofNat (8 * l.length / 2 ^ (8 * (tot l.length - 1 - j)))
/-- The first bits of the cube roots' fractions. -/
def KL : List UInt32 := [
  0x428a2f98, 0x71374491, 0xb5c0fbcf, 0xe9b5dba5, 0x3956c25b, 0x59f111f1, 0x923f82a4, 0xab1c5ed5,
  0xd807aa98, 0x12835b01, 0x243185be, 0x550c7dc3, 0x72be5d74, 0x80deb1fe, 0x9bdc06a7, 0xc19bf174,
  0xe49b69c1, 0xefbe4786, 0x0fc19dc6, 0x240ca1cc, 0x2de92c6f, 0x4a7484aa, 0x5cb0a9dc, 0x76f988da,
  0x983e5152, 0xa831c66d, 0xb00327c8, 0xbf597fc7, 0xc6e00bf3, 0xd5a79147, 0x06ca6351, 0x14292967,
  0x27b70a85, 0x2e1b2138, 0x4d2c6dfc, 0x53380d13, 0x650a7354, 0x766a0abb, 0x81c2c92e, 0x92722c85,
  0xa2bfe8a1, 0xa81a664b, 0xc24b8b70, 0xc76c51a3, 0xd192e819, 0xd6990624, 0xf40e3585, 0x106aa070,
  0x19a4c116, 0x1e376c08, 0x2748774c, 0x34b0bcb5, 0x391c0cb3, 0x4ed8aa4a, 0x5b9cca4f, 0x682e6ff3,
  0x748f82ee, 0x78a5636f, 0x84c87814, 0x8cc70208, 0x90befffa, 0xa4506ceb, 0xbef9a3f7, 0xc67178f2]
def HL : List UInt32 := [0x6a09e667, 0xbb67ae85, 0x3c6ef372, 0xa54ff53a, 0x510e527f, 0x9b05688c, 0x1f83d9ab, 0x5be0cd19]
def KF (t : Nat) : UInt32 := KL.getD t 0
def H0 : V := ⟨0x6a09e667, 0xbb67ae85, 0x3c6ef372, 0xa54ff53a, 0x510e527f, 0x9b05688c, 0x1f83d9ab, 0x5be0cd19⟩
/-- The eight words of a text's sum. -/
def sumV (l : List UInt8) : V := takeV KF H0 (padded l) (tot l.length / 64)
def V.get (v : V) : Nat → UInt32
  | 0 => v.a
  | 1 => v.b
  | 2 => v.c
  | 3 => v.d
  | 4 => v.e
  | 5 => v.f
  | 6 => v.g
  | _ => v.h
/-- Byte i of the sum of eight words. -/
def byteV (v : V) (i : Nat) : UInt8 := (v.get (i / 4) >>> UInt32.ofNat (24 - i % 4 * 8)).toUInt8
/-- A text's sum. -/
def sumL (l : List UInt8) : List UInt8 := (List.range 32).map (byteV (sumV l))
theorem sumL_length (l : List UInt8) : (sumL l).length = 32 := by simp [sumL]
/-- A digit of sixteen. -/
def hexD (n : UInt8) : UInt8 := if n < 10 then 48 + n else 87 + n
/-- A text's name. -/
def nameL (l : List UInt8) : List UInt8 := (sumL l).flatMap fun c => [hexD (c / 16), hexD (c % 16)]
theorem flat2_length (f g : UInt8 → UInt8) (l : List UInt8) : (l.flatMap fun c => [f c, g c]).length = 2 * l.length := by
  induction l with
  | nil => rfl
  | cons c l ih => simp only [List.flatMap_cons, List.length_append, ih, List.length_cons, List.length_nil]; omega
theorem nameL_length (l : List UInt8) : (nameL l).length = 64 := by unfold nameL; rw [flat2_length, sumL_length]
/-- A digit. -/
def isD (c : UInt8) : Bool := (48 ≤ c && c ≤ 57) || (97 ≤ c && c ≤ 102)
/-- May the text be a name? -/
def namedB (l : List UInt8) : Bool := l.length == 64 && l.all isD
end Go.Proofs.YthbmaloajgkhmaaGreatDoor
