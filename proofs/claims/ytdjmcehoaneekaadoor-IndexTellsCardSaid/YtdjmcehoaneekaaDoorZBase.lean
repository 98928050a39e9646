/-
  Bytes, rows of structs, a world as it was but for some blocks; regions that draw their order, step by step.
-/
import Derived.WalkKit
import Derived.Test.YtdjmcehoaneekaaDoorProg
import Derived.Below
import Derived.Laws.OwnMore
import Derived.Deep.Draws
import Derived.Laws.Rows
import Derived.Laws.AppendOwnNone
import Derived.Laws.IdiomStrings
import Derived.Deep.QuietTactic
import Derived.BigQuiet
import Derived.IntWalk
import Derived.Lib.Hide
import Derived.Lib.IndexLaws
import Derived.Lib.LaidTab
import Derived.OrdersHeld
import Derived.Deep.RegionHeld
import Derived.Deep.RegionHeld3
namespace Go.Proofs.YtdjmcehoaneekaaDoor.Dl
open Go Go.RowKit
def bv (x : UInt8) : Value := .int .u8 (x.toNat : Int)
theorem add_none (g o j : Nat) : (⟨g, o, none⟩ : Addr).add j = ⟨g, o + j, none⟩ := by unfold Addr.add; split <;> simp_all
theorem lt_of_block {w : World} {g : Nat} {o : Obj} (h : w.heap[g]? = some o) : g < w.heap.size := by
  rcases Nat.lt_or_ge g w.heap.size with hlt | hge
  · exact hlt
  · rw [Array.getElem?_eq_none hge] at h; cases h
/-- The slice value v holds the bytes l. -/
def Rb (w : World) (v : Value) (l : List UInt8) : Prop :=
  ((∃ A, v = .slice A 0 0) ∧ l = []) ∨ ∃ g o c, v = .slice (some ⟨g, o, none⟩) l.length c ∧ l.length ≤ c ∧ g < w.heap.size ∧ ∀ j, j < l.length → w.cell? ⟨g, o + j, none⟩ = some (.int .u8 ((l.getD j 0).toNat : Int))
/-- The slice value v is the call's own, above base, and holds the bytes l. -/
def Ow (w : World) (base : Nat) (v : Value) (l : List UInt8) : Prop := w.ownsRow base 5 1 v l.length (l.map bv)
theorem Ow.rb {w : World} {base : Nat} {v : Value} {l : List UInt8} (h : Ow w base v l) : Rb w v l := by
  obtain ⟨h1, h2⟩ := h
  rcases h2 with ⟨rfl, h2⟩ | ⟨g, cap, cur, rfl, hb, hg, hn, hm, hs, ht⟩
  · exact .inl ⟨⟨_, rfl⟩, List.length_eq_zero_iff.1 h2⟩
  · refine .inr ⟨g, 0, cap, rfl, hn, lt_of_block hg, fun j hj => ?_⟩
    rw [Nat.zero_add, cell_of_row w g j _ _ _ hg]
    have h3 : (cur.toList.take (l.length * 1))[j]? = (l.map bv)[j]? := by rw [ht]
    rw [List.getElem?_take, if_pos (by omega), Array.getElem?_toList] at h3
    rw [h3, List.getElem?_map, List.getElem?_eq_getElem hj, List.getD_eq_getElem?_getD, List.getElem?_eq_getElem hj]; rfl
theorem Ow.below {w w' : World} {base b : Nat} {v : Value} {l : List UInt8} (h : Ow w base v l) (hb : Below b w w') (hlt : w.heap.size ≤ b) : Ow w' base v l := by
  obtain ⟨h1, h2⟩ := h
  refine ⟨h1, ?_⟩
  rcases h2 with h2 | ⟨g, cap, cur, rfl, hbg, hg, r⟩
  · exact .inl h2
  · exact .inr ⟨g, cap, cur, rfl, hbg, (hb.block g (Nat.lt_of_lt_of_le (lt_of_block hg) hlt)).trans hg, r⟩
theorem rb_one (w : World) (c : UInt8) : Rb (w.alloc (.cells #[.int .u8 (c.toNat : Int)] 5)) (.slice (some ⟨w.heap.size, 0, none⟩) 1 1) [c] :=
  .inr ⟨w.heap.size, 0, 1, rfl, Nat.le_refl _, by simp, fun j hj => by
    have h0 : j = 0 := by simpa using hj
    subst h0
    rw [Nat.zero_add, cell_of_row (w.alloc _) w.heap.size 0 _ _ _ (heap_alloc_new w _)]; rfl⟩
theorem bv_one (l : List UInt8) : ∀ u ∈ l.map bv, u.oneCell' = true := by
  intro u hu
  obtain ⟨b, _, rfl⟩ := List.mem_map.1 hu
  rfl
end Go.Proofs.YtdjmcehoaneekaaDoor.Dl
