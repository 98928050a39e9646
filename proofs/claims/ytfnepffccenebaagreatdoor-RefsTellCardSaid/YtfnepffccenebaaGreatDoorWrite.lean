/-
  PutTree: a tree's bytes.
-/
import Derived.Test.YtfnepffccenebaaGreatDoorTreeC
import Derived.Test.YtfnepffccenebaaGreatDoorBld
import Derived.Shelf.Strings.BuilderK
namespace Go.Proofs.YtfnepffccenebaaGreatDoor
open Go Go.RowKit Go.Shelf
theorem rowF_below {B : Nat} {e : TypeId} {v : Value} {n : Nat} {bs : List Value} {w w' : World} (h : w.ownsRowF B e 1 v n bs) (hb : Below w.heap.size w w') : w'.ownsRowF B e 1 v n bs := by
  obtain ⟨h3, h4⟩ := h
  refine ⟨h3, ?_⟩
  rcases h4 with h4 | ⟨g, cap, cur, fz, rfl, hbg, hg, r⟩
  · exact .inl h4
  · exact .inr ⟨g, cap, cur, fz, rfl, hbg, (hb.block g (lt_heap hg)).trans hg, r⟩
/-- The builder in block b, from B on, holds the bytes l. -/
def Bd (w : World) (B b : Nat) (l : List UInt8) : Prop := Lib.IsBuilderF 68 5 B b (Lib.byteCells l) w
theorem Bd.below {w w' : World} {B b : Nat} {l : List UInt8} (h : Bd w B b l) (hb : Below w.heap.size w w') : Bd w' B b l := by
  have key : ∀ p, Lib.BuilderAtF 68 5 B b p (Lib.byteCells l) w → Lib.BuilderAtF 68 5 B b p (Lib.byteCells l) w' := fun p h => by
    obtain ⟨h1, v, h2, h3, h5⟩ := h
    exact ⟨h1, v, (hb.block b (lt_heap h2)).trans h2, rowF_below h3 hb, h5⟩
  rcases h with h | h
  · exact .inl (key _ h)
  · exact .inr (key _ h)
theorem Bd.new (w : World) : Bd (w.alloc (.cells #[.pointer none, .slice none 0 0] 68)) w.heap.size w.heap.size [] := Lib.IsBuilderF.of (Lib.fresh_isBuilder _ _ w)
theorem Bd.mono {w : World} {B B' b : Nat} {l : List UInt8} (h : Bd w B b l) (hB : B' ≤ B) : Bd w B' b l := by
  have key : ∀ p, Lib.BuilderAtF 68 5 B b p (Lib.byteCells l) w → Lib.BuilderAtF 68 5 B' b p (Lib.byteCells l) w := fun p h => by
    obtain ⟨h1, v, h2, ⟨h3, h4⟩, h5⟩ := h
    refine ⟨by omega, v, h2, ⟨h3, ?_⟩, h5⟩
    rcases h4 with h4 | ⟨g, cap, cur, fz, rfl, hbg, r⟩
    · exact .inl h4
    · exact .inr ⟨g, cap, cur, fz, rfl, by omega, r⟩
  rcases h with h | h
  · exact .inl (key _ h)
  · exact .inr (key _ h)
theorem Bd.write {w : World} {B b : Nat} {l : List UInt8} (h : Bd w B b l) (hB : B ≤ w.heap.size) (m : List UInt8) (s : ByteArray) (hs : s = ⟨m.toArray⟩) (hl : l.length + m.length ≤ 1000000) :
    Calls Tryz.prog 49 #[.pointer (some ⟨b, 0, none⟩), .string s] w fun e w' => (∃ n, e = .returned (.tuple #[.int .i64 n, .nilIface])) ∧ Bd w' B b (l ++ m) ∧ Below B w w' ∧ Lib.OthersKept 5 (some b) w w' := by
  subst hs
  refine (Any.Builder_WriteString_k Tryz.bwsA Tryz.bwsX B b (Lib.byteCells l) ⟨m.toArray⟩ w h (by rw [Lib.byteCells_length]; show l.length + m.length ≤ _; omega) hB).mono ?_
  rintro e w' ⟨rfl, h1, h2, h3⟩
  refine ⟨⟨_, rfl⟩, ?_, h2, h3⟩
  rw [Lib.strCells_eq, ← Lib.byteCells_append] at h1
  exact .inr h1
theorem Bd.told {w : World} {B b : Nat} {l : List UInt8} (h : Bd w B b l) (hB : B ≤ w.heap.size) :
    Calls Tryz.prog 50 #[.pointer (some ⟨b, 0, none⟩)] w fun e w' => e = .returned (SV l) ∧ Below B w w' :=
  (Any.Builder_String_any_k Tryz.bstrA Tryz.bstrX B b l w h hB).mono fun _ _ ⟨h1, _, h2, _⟩ => ⟨h1, h2⟩
theorem Bd.lt {w : World} {B b : Nat} {l : List UInt8} (h : Bd w B b l) : b < w.heap.size := by
  rcases h with ⟨_, v, h, _⟩ | ⟨_, v, h, _⟩ <;> exact lt_heap h
theorem kept_blk {w w' : World} {b k : Nat} {t : TypeId} {cs : Array Value} (h : Lib.OthersKept 5 (some b) w w') (hk : w.heap[k]? = some (.cells cs t (0, 0))) (hb : k ≠ b) (ht : t ≠ 5) : w'.heap[k]? = some (.cells cs t (0, 0)) :=
  h k _ hk (fun e => hb (Option.some.inj e)) (fun c fz e => by cases e; exact ht rfl)
/-- Two texts, one behind the other. -/
theorem cat_run (a b : List UInt8) (t : ByteArray) (ht : t = ⟨(a ++ b).toArray⟩) (ha : a.length ≤ 1000000) (hb : b.length ≤ 1000000) : ∀ W : World, (Op.stringOp .add ⟨a.toArray⟩ ⟨b.toArray⟩).run Tryz.prog W = .ok (.string t) W := fun W => by
  rw [run_string_add_sum W _ _ (by show a.length + b.length ≤ _; omega), append_S, ht]
theorem cat_run2 (a b : List UInt8) (s t : ByteArray) (hs : s = ⟨a.toArray⟩) (ht : t = ⟨(a ++ b).toArray⟩) (ha : a.length ≤ 1000000) (hb : b.length ≤ 1000000) : ∀ W : World, (Op.stringOp .add s ⟨b.toArray⟩).run Tryz.prog W = .ok (.string t) W := by
  subst hs; exact cat_run a b t ht ha hb
end Go.Proofs.YtfnepffccenebaaGreatDoor
