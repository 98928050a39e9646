/-
  Strings, slices of texts, of items, of wants, as they lie in memory.
-/
import Derived.Test.YtdjmcehoaneekaaDoorDMem
import Derived.Test.YtdjmcehoaneekaaDoorDPure
import GoSem.ClaimWide
import Derived.Lib.Hide
import Derived.Laws.AppendOwnNone
import Derived.Deep.RegionHeld3
import Derived.Lib.IndexLaws
namespace Go.Proofs.YtdjmcehoaneekaaDoor
open Go Go.RowKit
def SV (l : List UInt8) : Value := .string ⟨l.toArray⟩
theorem ret_bool {a b : Bool} (h : a = b) : Ending.returned (.bool a) = .returned (.bool b) := by rw [h]
theorem ret_u8 {a b : Int} (h : a = b) : Ending.returned (.int .u8 a) = .returned (.int .u8 b) := by rw [h]
theorem lt_heap {w : World} {g : Nat} {o : Obj} (h : w.heap[g]? = some o) : g < w.heap.size := by
  rcases Nat.lt_or_ge g w.heap.size with hlt | hge
  · exact hlt
  · rw [Array.getElem?_eq_none hge] at h; cases h
/-- The slice value v holds, element by element, the k cells that f tells. -/
def RdK {α : Type} (k : Nat) (f : α → List Value) (w : World) (v : Value) (l : List α) : Prop :=
  ((∃ A c, v = .slice A 0 c) ∧ l = []) ∨ ∃ g o c, v = .slice (some ⟨g, o, none⟩) l.length c ∧ l.length ≤ c ∧ g < w.heap.size ∧ ∀ j, j < l.length → ∀ x, l[j]? = some x → ∀ i, i < k → w.cell? ⟨g, o + j * k + i, none⟩ = (f x)[i]?
theorem RdK.below {α : Type} {k : Nat} {f : α → List Value} {w w' : World} {v : Value} {l : List α} {b : Nat} (h : RdK k f w v l) (hb : Below b w w') (hlt : w.heap.size ≤ b) : RdK k f w' v l := by
  rcases h with h | ⟨g, o, c, rfl, hc, hg, hcell⟩
  · exact .inl h
  · exact .inr ⟨g, o, c, rfl, hc, Nat.lt_of_lt_of_le hg hb.size, fun j hj x hx i hi => by rw [hb.cell (p := ⟨g, o + j * k + i, none⟩) (by show g < b; omega)]; exact hcell j hj x hx i hi⟩
theorem RdK.shape {α : Type} {k : Nat} {f : α → List Value} {w : World} {v : Value} {l : List α} (h : RdK k f w v l) : ∃ A c, v = .slice A l.length c := by
  rcases h with ⟨⟨A, c, rfl⟩, rfl⟩ | ⟨g, o, c, rfl, hc, _⟩
  · exact ⟨A, c, rfl⟩
  · exact ⟨_, _, rfl⟩
/-- Behind what turned one block that is not its own. -/
theorem RdK.grown {α : Type} {k : Nat} {f : α → List Value} {w w' : World} {v : Value} {l : List α} {r : Option Nat} (h : RdK k f w v l) (hg : w.grownBy w' r) (hr : ∀ g o c, v = .slice (some ⟨g, o, none⟩) l.length c → r ≠ some g) : RdK k f w' v l := by
  rcases h with h | ⟨g, o, c, rfl, hc, hgl, hcell⟩
  · exact .inl h
  · refine .inr ⟨g, o, c, rfl, hc, Nat.lt_of_lt_of_le hgl hg.size, fun j hj x hx i hi => ?_⟩
    have hb := hg.block g hgl (fun e => hr g o c rfl e.symm)
    rw [← hcell j hj x hx i hi]
    exact World.cell?_of_block (w := w) (a := ⟨g, o + j * k + i, none⟩) hb
/-- The slice value v is the call's own, above base, and holds them. -/
def OwK {α : Type} (t : TypeId) (k : Nat) (f : α → List Value) (w : World) (base : Nat) (v : Value) (l : List α) : Prop := w.ownsRow base t k v l.length (l.flatMap f)
theorem flat_length {α : Type} {k : Nat} {f : α → List Value} (hf : ∀ x, (f x).length = k) (l : List α) : (l.flatMap f).length = l.length * k := by
  induction l with
  | nil => simp
  | cons x l ih => rw [List.flatMap_cons, List.length_append, ih, hf, List.length_cons, Nat.add_mul, Nat.one_mul, Nat.add_comm]
theorem flat_get {α : Type} {k : Nat} {f : α → List Value} (hf : ∀ x, (f x).length = k) : ∀ (l : List α) (j : Nat) (x : α), l[j]? = some x → ∀ i, i < k → (l.flatMap f)[j * k + i]? = (f x)[i]?
  | [], j, x, h, i, hi => by simp at h
  | y :: l, 0, x, h, i, hi => by
    simp at h; subst h
    rw [List.flatMap_cons, Nat.zero_mul, Nat.zero_add, List.getElem?_append_left (by rw [hf]; exact hi)]
  | y :: l, j + 1, x, h, i, hi => by
    rw [List.flatMap_cons, List.getElem?_append_right (by rw [hf, Nat.add_mul]; omega), hf, show (j + 1) * k + i - k = j * k + i by rw [Nat.add_mul]; omega]
    exact flat_get hf l j x (by simpa using h) i hi
theorem OwK.below {α : Type} {t : TypeId} {k : Nat} {f : α → List Value} {w w' : World} {base b : Nat} {v : Value} {l : List α} (h : OwK t k f w base v l) (hb : Below b w w') (hlt : w.heap.size ≤ b) : OwK t k f w' base v l := by
  obtain ⟨h1, h2⟩ := h
  refine ⟨h1, ?_⟩
  rcases h2 with h2 | ⟨g, cap, cur, rfl, hbg, hg, r⟩
  · exact .inl h2
  · exact .inr ⟨g, cap, cur, rfl, hbg, (hb.block g (Nat.lt_of_lt_of_le (lt_heap hg) hlt)).trans hg, r⟩
theorem OwK.mono {α : Type} {t : TypeId} {k : Nat} {f : α → List Value} {w : World} {base b : Nat} {v : Value} {l : List α} (h : OwK t k f w base v l) (hb : b ≤ base) : OwK t k f w b v l := by
  obtain ⟨h1, h2⟩ := h
  refine ⟨h1, ?_⟩
  rcases h2 with h2 | ⟨g, cap, cur, rfl, hbg, r⟩
  · exact .inl h2
  · exact .inr ⟨g, cap, cur, rfl, Nat.le_trans hb hbg, r⟩
theorem OwK.nil {α : Type} (t : TypeId) (k : Nat) (f : α → List Value) (w : World) (base : Nat) : OwK t k f w base (.slice none 0 0) ([] : List α) := World.ownsRow_nil w base _ _
def strC (s : List UInt8) : List Value := [SV s]
def StrsR (w : World) (v : Value) (l : List (List UInt8)) : Prop := RdK 1 strC w v l
theorem StrsR.cell {w : World} {g o n c : Nat} {l : List (List UInt8)} (h : StrsR w (.slice (some ⟨g, o, none⟩) n c) l) (k : Nat) (hk : k < l.length) : w.cell? ⟨g, o + k, none⟩ = some (SV (l.getD k [])) := by
  rcases h with ⟨_, rfl⟩ | ⟨g', o', c', e, hc, hg, hcell⟩
  · simp at hk
  · cases e
    have := hcell k hk _ (List.getElem?_eq_getElem hk) 0 (by omega)
    rw [Nat.mul_one, Nat.add_zero] at this
    rw [this, List.getD_eq_getElem?_getD, List.getElem?_eq_getElem hk]; rfl
/-- A slice that is not empty lies in a block. -/
theorem RdK.pos {α : Type} {k : Nat} {f : α → List Value} {w : World} {v : Value} {l : List α} (h : RdK k f w v l) (hl : 0 < l.length) : ∃ g o c, v = .slice (some ⟨g, o, none⟩) l.length c ∧ l.length ≤ c ∧ g < w.heap.size := by
  rcases h with ⟨_, rfl⟩ | ⟨g, o, c, rfl, hc, hg, _⟩
  · simp at hl
  · exact ⟨g, o, c, rfl, hc, hg⟩
theorem take_getD {α : Type} (l : List α) (d : α) (k : Nat) (hk : k < l.length) : l.take (k + 1) = l.take k ++ [l.getD k d] := by
  rw [List.take_succ_eq_append_getElem hk, List.getD_eq_getElem?_getD, List.getElem?_eq_getElem hk]; rfl
end Go.Proofs.YtdjmcehoaneekaaDoor
