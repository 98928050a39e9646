/-
  RootLess: rows of forks cut and laid together again.
-/
import Derived.Test.YtnboagmibhllpaaGreatDoorOGrt
import Derived.Test.YtnboagmibhllpaaGreatDoorOLawP
import Derived.Test.YtnboagmibhllpaaGreatDoorC20
namespace Go.Proofs.YtnboagmibhllpaaGreatDoor.Ro
open Go.Proofs.YtnboagmibhllpaaGreatDoor
open Go.Proofs.YtnboagmibhllpaaGreatDoor.Rf (BoolB Ref RefsR)
open Go Go.RowKit

/-- Forks as they lie, their slices open. -/
def FsR (w : World) (v : Value) (l : List Fk) : Prop := ∃ ys : List Fs, RdK 5 fsC w v ys ∧ ys.length = l.length ∧ ∀ (k : Nat) (y : Fs) (f : Fk), ys[k]? = some y → l[k]? = some f → FkR w y.fc f
theorem FsR.below {w w' : World} {v : Value} {l : List Fk} {b : Nat} (h : FsR w v l) (hb : Below b w w') (hlt : w.heap.size ≤ b) : FsR w' v l := by
  obtain ⟨xs, h1, h2, h3⟩ := h
  exact ⟨xs, h1.below hb hlt, h2, fun k x f hx hf => (h3 k x f hx hf).below hb hlt⟩
theorem FkR.fs {w : World} {x : Fc} {f : Fk} (h : FkR w x f) : ∃ y : Fs, y.fc = x := by
  obtain ⟨A, c, e⟩ := RdK.shape h.refs
  obtain ⟨B, d, e2⟩ := RdK.shape h.packs
  exact ⟨⟨x.name, x.linked, x.head, A, f.refs.length, c, B, f.packs.length, d⟩, by
    obtain ⟨a1, a2, a3, a4, a5⟩ := x
    simp only at e e2
    subst e e2
    rfl⟩
theorem fs_list {w : World} : ∀ {xs : List Fc} {l : List Fk}, xs.length = l.length → (∀ (k : Nat) (x : Fc) (f : Fk), xs[k]? = some x → l[k]? = some f → FkR w x f) → ∃ ys : List Fs, ys.map Fs.fc = xs
  | [], _, _, _ => ⟨[], rfl⟩
  | x :: xs, [], h, _ => by cases h
  | x :: xs, f :: l, h, hx => by
    obtain ⟨y, hy⟩ := (hx 0 x f rfl rfl).fs
    obtain ⟨ys, e⟩ := fs_list (xs := xs) (l := l) (by simpa using h) fun k x f h1 h2 => hx (k + 1) x f (by simpa using h1) (by simpa using h2)
    exact ⟨y :: ys, by simp [hy, e]⟩
theorem FksR.fs {w : World} {v : Value} {l : List Fk} (h : FksR w v l) : FsR w v l := by
  obtain ⟨xs, h1, h2, h3⟩ := h
  obtain ⟨ys, rfl⟩ := fs_list h2 h3
  refine ⟨ys, ?_, by simpa using h2, fun k y f hy hf => h3 k y.fc f (by simp [hy]) hf⟩
  rcases h1 with ⟨h, e⟩ | ⟨g, o, c, e, hc, hg, hcell⟩
  · exact .inl ⟨h, by simpa using e⟩
  · refine .inr ⟨g, o, c, by rw [e, List.length_map], by simpa using hc, hg, fun j hj y hy i hi => hcell j (by simpa using hj) y.fc (by simp [hy]) i hi⟩
theorem FsR.take {w : World} {A : Option Addr} {n c : Nat} {l : List Fk} (h : FsR w (.slice A n c) l) (hn : n = l.length) {k : Nat} (hk : k ≤ n) : FsR w (.slice A k c) (l.take k) := by
  obtain ⟨xs, h1, h2, h3⟩ := h
  refine ⟨xs.take k, ?_, by simp [h2], fun j x f hx hf => ?_⟩
  · have hl : (xs.take k).length = k := by rw [List.length_take]; omega
    rcases h1 with ⟨⟨A', c', e⟩, rfl⟩ | ⟨g, o, c', e, hc, hg, hcell⟩
    · cases e
      obtain rfl : k = 0 := by simp at h2; omega
      exact .inl ⟨⟨_, _, rfl⟩, by simp⟩
    · cases e
      refine .inr ⟨g, o, c, by rw [hl], by omega, hg, fun j hj x hx i hi => ?_⟩
      rw [hl] at hj
      rw [List.getElem?_take, if_pos hj] at hx
      exact hcell j (by omega) x hx i hi
  · have hj : j < k := by
      have := (List.getElem?_eq_some_iff.1 hx).1
      rw [List.length_take] at this; omega
    rw [List.getElem?_take, if_pos hj] at hx hf
    exact h3 j x f hx hf
/-- All behind the first ones. -/
theorem FsR.drop {w : World} {g o n c : Nat} {l : List Fk} (h : FsR w (.slice (some ⟨g, o, none⟩) n c) l) (hn : n = l.length) (hc : n ≤ c) {k : Nat} (hk : k ≤ n) :
    ∃ A n' c', n' = n - k ∧ (∀ W, (Instr.sliceAt 23 (.slice (some ⟨g, o, none⟩) n c) (some (.int .i64 (k : Int))) none none).run Tryz.prog W = .ok (.slice A n' c') W) ∧ FsR w (.slice A n' c') (l.drop k) := by
  refine ⟨(if c - k = 0 then some ⟨g, o, none⟩ else some ⟨g, o + k * 5, none⟩), n - k, c - k, rfl, fun W => ?_, ?_⟩
  · have he : Tryz.prog.underlying 23 = some (.slice (Tryz.prog.elem 23)) := by kernel_rfl
    have hs : ∀ W, (sizeOf (Tryz.prog.elem 23)).run Tryz.prog W = .ok 5 W := fun W => by kernel_rfl
    rw [run_sliceAt_slice W 23 _ _ _ _ he, run_slice_l W 23 _ _ _ he .i64 (k : Int) (by omega) (by omega), hs]
    simp [Result.andThen, sliced, Addr.add]
    by_cases e : c = k
    · rw [if_pos e, if_pos (by omega)]
    · rw [if_neg e, if_neg (show ¬ c - k = 0 by omega)]
      by_cases e2 : k * 5 = 0
      · rw [if_pos e2, e2]; rfl
      · rw [if_neg e2]
  · obtain ⟨xs, h1, h2, h3⟩ := h
    refine ⟨xs.drop k, ?_, by simp [h2], fun j x f hx hf => ?_⟩
    · have hl : (xs.drop k).length = n - k := by rw [List.length_drop]; omega
      by_cases hz : n - k = 0
      · have e0 : xs.drop k = [] := List.eq_nil_of_length_eq_zero (by omega)
        rw [e0, hz]
        exact .inl ⟨⟨_, _, rfl⟩, rfl⟩
      rw [if_neg (by omega)]
      rcases h1 with ⟨⟨A', c', e⟩, rfl⟩ | ⟨g', o', c', e, hc', hg, hcell⟩
      · simp at h2; omega
      · cases e
        refine .inr ⟨g, o + k * 5, c - k, by rw [hl], by omega, hg, fun j hj x hx i hi => ?_⟩
        rw [hl] at hj
        rw [List.getElem?_drop] at hx
        have := hcell (k + j) (by omega) x hx i hi
        rw [show o + k * 5 + j * 5 + i = o + (k + j) * 5 + i by omega]
        exact this
    · rw [List.getElem?_drop] at hx hf
      exact h3 (k + j) x f hx hf
/-- What was laid together reads as forks. -/
theorem fks_both {w w' : World} {base : Nat} {v : Value} {a b : List Fk} {xs ys : List Fs} (ho : OwK 42 5 fsC w' base v (xs ++ ys)) (hb : Below w.heap.size w w')
    (h1 : xs.length = a.length) (h2 : ∀ (k : Nat) (y : Fs) (f : Fk), xs[k]? = some y → a[k]? = some f → FkR w y.fc f) (k1 : ys.length = b.length) (k2 : ∀ (k : Nat) (y : Fs) (f : Fk), ys[k]? = some y → b[k]? = some f → FkR w y.fc f) : FksR w' v (a ++ b) := by
  refine ⟨(xs ++ ys).map Fs.fc, rd_map Fs.fc (OwK.rd fsC_len ho), by simp [h1, k1], fun k x f hx hf => ?_⟩
  rw [List.getElem?_map] at hx
  cases hy : (xs ++ ys)[k]? with
  | none => rw [hy] at hx; cases hx
  | some y =>
    rw [hy] at hx
    cases hx
    by_cases hk : k < xs.length
    · rw [List.getElem?_append_left hk] at hy
      rw [List.getElem?_append_left (by omega)] at hf
      exact (h2 k y f hy hf).below hb (Nat.le_refl _)
    · rw [List.getElem?_append_right (by omega)] at hy
      rw [List.getElem?_append_right (by omega)] at hf
      exact (k2 (k - xs.length) y f hy (by rw [h1]; exact hf)).below hb (Nat.le_refl _)
/-- A box with a root. -/
def RtB (w : World) (b : Nat) (r : Rt) : Prop := ∃ n A na ca B nb cb, w.cell? ⟨b, 0, none⟩ = some (.int .i64 n) ∧ w.cell? ⟨b, 1, none⟩ = some (.slice A na ca) ∧ w.cell? ⟨b, 2, none⟩ = some (.slice B nb cb) ∧ RtR w (.agg #[.int .i64 n, .slice A na ca, .slice B nb cb]) r
theorem cellB {w w' : World} {p : Addr} {v : Value} (h : w.cell? p = some v) (hb : Below w.heap.size w w') : w'.cell? p = some v := (hb.cell (p := p) (World.block_lt_of_cell? w p h)).trans h
theorem RtB.below {w w' : World} {b : Nat} {r : Rt} (h : RtB w b r) (hb : Below w.heap.size w w') : RtB w' b r := by
  obtain ⟨n, A, na, ca, B, nb, cb, h0, h1, h2, h3⟩ := h
  exact ⟨n, A, na, ca, B, nb, cb, cellB h0 hb, cellB h1 hb, cellB h2 hb, RtR.below h3 hb (Nat.le_refl _)⟩
theorem fb0 (W : World) : (Instr.buildSlice 23 0 #[]).run Tryz.prog W = .ok (.slice (some ⟨W.heap.size, 0, none⟩) 0 0) (W.alloc (.cells #[] 42)) := by
  simp [go_sem]
end Go.Proofs.YtnboagmibhllpaaGreatDoor.Ro
