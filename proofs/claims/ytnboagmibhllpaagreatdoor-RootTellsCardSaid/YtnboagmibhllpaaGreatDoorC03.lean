/-
  PutTree: a tree's bytes.
  The digest: Sum, Name, Named.
  A region that draws its order: what it reads stays as it is, behind whatever calls come; so the reads may be taken as soon as they can be.
-/
import Derived.Shelf.Strings.BuilderK
import Derived.Test.YtnboagmibhllpaaGreatDoorC02
import Derived.Lib.BitFns
import Derived.Shelf.Small.Bits
import Derived.Shelf.Bits.Mul64
import Derived.Laws.Bits64b
import Derived.Laws.Shifts
import Derived.Lib.Mul64
import Derived.IntWalk
import Derived.Deep.QuietTactic
import Derived.BigQuiet
import Derived.Deep.CutBlock
import Derived.Deep.CutRange
import Derived.Laws.CopyOwn
import Derived.Laws.ResultCell
import Derived.Laws.IdiomStrings
import Derived.Stop.BytesEq
import Derived.Test.YtnboagmibhllpaaGreatDoorC01
import Derived.Test.YtnboagmibhllpaaGreatDoorLay
import Derived.OrdersHeld
import Derived.Deep.RegionHeld

namespace Go.Proofs.YtnboagmibhllpaaGreatDoor
open Go Go.RowKit Go.Shelf
theorem rowF_below {B : Nat} {e : TypeId} {v : Value} {n : Nat} {bs : List Value} {w w' : World} (h : w.ownsRowF B e 1 v n bs) (hb : Below w.heap.size w w') : w'.ownsRowF B e 1 v n bs := by
  obtain ⟨h3, h4⟩ := h
  refine ⟨h3, ?_⟩
  rcases h4 with h4 | ⟨g, cap, cur, fz, rfl, hbg, hg, r⟩
  · exact .inl h4
  · exact .inr ⟨g, cap, cur, fz, rfl, hbg, (hb.block g (lt_heap hg)).trans hg, r⟩
/-- The builder in block b, from B on, holds the bytes l. -/
def Bd (w : World) (B b : Nat) (l : List UInt8) : Prop := Lib.IsBuilderF 98 5 B b (Lib.byteCells l) w
theorem Bd.below {w w' : World} {B b : Nat} {l : List UInt8} (h : Bd w B b l) (hb : Below w.heap.size w w') : Bd w' B b l := by
  have key : ∀ p, Lib.BuilderAtF 98 5 B b p (Lib.byteCells l) w → Lib.BuilderAtF 98 5 B b p (Lib.byteCells l) w' := fun p h => by
    obtain ⟨h1, v, h2, h3, h5⟩ := h
    exact ⟨h1, v, (hb.block b (lt_heap h2)).trans h2, rowF_below h3 hb, h5⟩
  rcases h with h | h
  · exact .inl (key _ h)
  · exact .inr (key _ h)
theorem Bd.new (w : World) : Bd (w.alloc (.cells #[.pointer none, .slice none 0 0] 98)) w.heap.size w.heap.size [] := Lib.IsBuilderF.of (Lib.fresh_isBuilder _ _ w)
theorem Bd.mono {w : World} {B B' b : Nat} {l : List UInt8} (h : Bd w B b l) (hB : B' ≤ B) : Bd w B' b l := by
  have key : ∀ p, Lib.BuilderAtF 98 5 B b p (Lib.byteCells l) w → Lib.BuilderAtF 98 5 B' b p (Lib.byteCells l) w := fun p h => by
    obtain ⟨h1, v, h2, ⟨h3, h4⟩, h5⟩ := h
    refine ⟨by omega, v, h2, ⟨h3, ?_⟩, h5⟩
    rcases h4 with h4 | ⟨g, cap, cur, fz, rfl, hbg, r⟩
    · exact .inl h4
    · exact .inr ⟨g, cap, cur, fz, rfl, by omega, r⟩
  rcases h with h | h
  · exact .inl (key _ h)
  · exact .inr (key _ h)
theorem Bd.write {w : World} {B b : Nat} {l : List UInt8} (h : Bd w B b l) (hB : B ≤ w.heap.size) (m : List UInt8) (s : ByteArray) (hs : s = ⟨m.toArray⟩) (hl : l.length + m.length ≤ 1000000) :
    Calls Tryz.prog 69 #[.pointer (some ⟨b, 0, none⟩), .string s] w fun e w' => (∃ n, e = .returned (.tuple #[.int .i64 n, .nilIface])) ∧ Bd w' B b (l ++ m) ∧ Below B w w' ∧ Lib.OthersKept 5 (some b) w w' := by
  subst hs
  refine (Any.Builder_WriteString_k Tryz.bwsA Tryz.bwsX B b (Lib.byteCells l) ⟨m.toArray⟩ w h (by rw [Lib.byteCells_length]; show l.length + m.length ≤ _; omega) hB).mono ?_
  rintro e w' ⟨rfl, h1, h2, h3⟩
  refine ⟨⟨_, rfl⟩, ?_, h2, h3⟩
  rw [Lib.strCells_eq, ← Lib.byteCells_append] at h1
  exact .inr h1
theorem Bd.told {w : World} {B b : Nat} {l : List UInt8} (h : Bd w B b l) (hB : B ≤ w.heap.size) :
    Calls Tryz.prog 70 #[.pointer (some ⟨b, 0, none⟩)] w fun e w' => e = .returned (SV l) ∧ Below B w w' :=
  (Any.Builder_String_any_k Tryz.bstrA Tryz.bstrX B b l w h hB).mono fun _ _ ⟨h1, _, h2, _⟩ => ⟨h1, h2⟩
theorem Bd.lt {w : World} {B b : Nat} {l : List UInt8} (h : Bd w B b l) : b < w.heap.size := by
  rcases h with ⟨_, v, h, _⟩ | ⟨_, v, h, _⟩ <;> exact lt_heap h
theorem kept_blk {w w' : World} {b k : Nat} {t : TypeId} {cs : Array Value} (h : Lib.OthersKept 5 (some b) w w') (hk : w.heap[k]? = some (.cells cs t (0, 0))) (hb : k ≠ b) (ht : t ≠ 5) : w'.heap[k]? = some (.cells cs t (0, 0)) :=
  h k _ hk (fun e => hb (Option.some.inj e)) (fun c fz e => by cases e; exact ht rfl)
/-- Two texts, one behind the other. -/
theorem cat_run (a b : List UInt8) (t : ByteArray) (ht : t = ⟨(a ++ b).toArray⟩) (ha : a.length ≤ 1000000) (hb : b.length ≤ 1000000) : ∀ W : World, (Op.stringOp .add ⟨a.toArray⟩ ⟨b.toArray⟩).run Tryz.prog W = .ok (.string t) W := fun W => by
  rw [run_string_add_sum W _ _ (by show a.length + b.length ≤ _; omega), append_S, ht]
theorem cat_run2 (a b : List UInt8) (s t : ByteArray) (hs : s = ⟨a.toArray⟩) (ht : t = ⟨(a ++ b).toArray⟩) (ha : a.length ≤ 1000000) (hb : b.length ≤ 1000000) : ∀ W : World, (Op.stringOp .add s ⟨b.toArray⟩).run Tryz.prog W = .ok (.string t) W := by
  subst hs; exact cat_run a b t ht ha hb
end Go.Proofs.YtnboagmibhllpaaGreatDoor


namespace Go.Proofs.YtnboagmibhllpaaGreatDoor
open Go Go.RowKit
theorem add_none (g o j : Nat) : (⟨g, o, none⟩ : Addr).add j = ⟨g, o + j, none⟩ := by unfold Addr.add; split <;> simp_all
theorem below_new_DSum (w : World) (o : Obj) : Below w.heap.size w (w.alloc o) := (Below.refl _ w).alloc (Nat.le_refl _) o
end Go.Proofs.YtnboagmibhllpaaGreatDoor
namespace Go.Proofs.YtnboagmibhllpaaGreatDoor
open Go Go.RowKit
/-- The slice value v holds the bytes l. -/
def Rb (w : World) (v : Value) (l : List UInt8) : Prop :=
  ((∃ A, v = .slice A 0 0) ∧ l = []) ∨ ∃ g o c, v = .slice (some ⟨g, o, none⟩) l.length c ∧ l.length ≤ c ∧ g < w.heap.size ∧ ∀ j, j < l.length → w.cell? ⟨g, o + j, none⟩ = some (.int .u8 ((l.getD j 0).toNat : Int))
theorem Rb.below {w w' : World} {v : Value} {l : List UInt8} {b : Nat} (h : Rb w v l) (hb : Below b w w') (hlt : w.heap.size ≤ b) : Rb w' v l := by
  rcases h with h | ⟨g, o, c, rfl, hc, hg, hcell⟩
  · exact .inl h
  · exact .inr ⟨g, o, c, rfl, hc, Nat.lt_of_lt_of_le hg hb.size, fun j hj => by rw [hb.cell (p := ⟨g, o + j, none⟩) (by show g < b; omega)]; exact hcell j hj⟩
end Go.Proofs.YtnboagmibhllpaaGreatDoor
namespace Go.Proofs.YtnboagmibhllpaaGreatDoor
open Go Go.RowKit
/-- Two by two. -/
theorem pairs_gen (G : Nat → UInt8) (a b : Nat → UInt8) : ∀ n, (∀ j, j < n → G (2 * j) = a j ∧ G (2 * j + 1) = b j) → (List.range (2 * n)).map G = (List.range n).flatMap fun i => [a i, b i]
  | 0, _ => rfl
  | n + 1, h => by
    rw [show 2 * (n + 1) = 2 * n + 1 + 1 by omega, List.range_succ, List.range_succ, List.map_append, List.map_append, pairs_gen G a b n fun j hj => h j (by omega), List.range_succ, List.flatMap_append]
    simp [(h n (by omega)).1, (h n (by omega)).2]
theorem pairs_eq (G : Nat → UInt8) (a b : Nat → UInt8) (h : ∀ j, j < 32 → G (2 * j) = a j ∧ G (2 * j + 1) = b j) : (List.range 64).map G = (List.range 32).flatMap fun i => [a i, b i] := pairs_gen G a b 32 h
theorem u8s_cells (f : Nat → UInt8) (n : Nat) : u8s n f = (((List.range n).map f).map Extern.Stop.cell).toArray := by
  unfold u8s
  rw [List.map_map]; rfl
/-- The sum's bytes as cells. -/
def sumC (l : List UInt8) : List Value := (sumL l).map Extern.Stop.cell
theorem sumC_eq (l : List UInt8) : u8s 32 (byteV (sumV l)) = (sumC l).toArray := u8s_cells _ _
theorem name_eq (l : List UInt8) : ((List.range 32).flatMap fun i => [hexD (byteV (sumV l) i / 16), hexD (byteV (sumV l) i % 16)]) = nameL l := by
  unfold nameL sumL
  rw [List.flatMap_map]
end Go.Proofs.YtnboagmibhllpaaGreatDoor


namespace Go.Proofs.YtnboagmibhllpaaGreatDoor
open Go Go.RowKit
section
variable {P : Program} {ops : Array Oper} {Q : Exit → Go.Act → World → Prop}

theorem held_mono {md : Region.Mode} {S S' : World → Prop} (hS : ∀ w, S' w → S w) : ∀ (fuel : Nat) (listed : Array Bool) (a : Go.Act) (w : World), wpAnyH P md ops Q S' fuel listed a w → wpAnyH P md ops Q S fuel listed a w
  | 0, _, _, _, h => h
  | fuel + 1, _, _, _, h => ⟨h.1, fun i hi => wpOp_mono (fun a' w' h' => ⟨hS w' h'.1, held_mono hS fuel _ a' w' h'.2⟩) (h.2 i hi)⟩

/-- Whatever order is picked from here on; what lies in w stays as it is. -/
def AnyB (P : Program) (ops : Array Oper) (Q : Exit → Go.Act → World → Prop) (fuel : Nat) (listed : Array Bool) (a : Go.Act) (w : World) : Prop :=
  wpAnyH P .any ops Q (fun W => Below w.heap.size w W) fuel listed a w

theorem AnyB.start {id : Nat} {a : Go.Act} {w : World} (hm : P.follows .mixedOrders = true) (h : AnyB P ops Q ops.size (Array.replicate ops.size false) a w.drew) : (Code.region id ops true).wp P Q a w :=
  wp_region_held hm h

/-- A read, taken as soon as it may come up. -/
theorem AnyB.take (i : Nat) (v : Value) {oi : Oper} {fuel : Nat} {listed : Array Bool} {a : Go.Act} {w : World} (hi : ops[i]? = some oi)
    (hs : Region.noSelect ops = true) (hf : Region.free .any ops listed i = true) (hr : (Region.ready .any ops listed).contains i = true)
    (hQ : ∀ c a w, Q (.panic c) (a.put oi.dst v) w → Q (.panic c) a w) (hw : Region.wanted oi (yielded ops a.tmps) = true)
    (hy : ∀ W, Below w.heap.size w W → (execOp a.eval oi).run P W = .ok (.value v) W)
    (h : AnyB P ops Q fuel (listed.setIfInBounds i true) (a.put oi.dst v) w) : AnyB P ops Q (fuel + 1) listed a w :=
  wpAnyH_take hi hs hf hr hQ (.inl ⟨hw, hy⟩) (Below.refl _ _) h

/-- What its guard keeps from being done. -/
theorem AnyB.skip (i : Nat) {oi : Oper} {fuel : Nat} {listed : Array Bool} {a : Go.Act} {w : World} (hi : ops[i]? = some oi)
    (hs : Region.noSelect ops = true) (hf : Region.free .any ops listed i = true) (hr : (Region.ready .any ops listed).contains i = true)
    (hQ : ∀ c a w, Q (.panic c) (a.put oi.dst undef) w → Q (.panic c) a w) (hw : Region.wanted oi (yielded ops a.tmps) = false)
    (h : AnyB P ops Q fuel (listed.setIfInBounds i true) (a.put oi.dst undef) w) : AnyB P ops Q (fuel + 1) listed a w :=
  wpAnyH_take hi hs hf hr hQ (.inr ⟨hw, rfl⟩) (Below.refl _ _) h

/-- A call that alone may come up. -/
theorem AnyB.call (i : Nat) {oi : Oper} {fuel : Nat} {listed : Array Bool} {a : Go.Act} {w : World} (f : FuncId) (vs : Array Value) (hr : Region.ready .any ops listed = [i]) (hi : ops[i]? = some oi)
    (hw : Region.wanted oi (yielded ops a.tmps) = true) (he : (execOp a.eval oi).run P w = .ok (.enter f vs) w)
    (hc : Calls P f vs w fun e w' => ∃ v, e = .returned v ∧ Below w.heap.size w w' ∧ AnyB P ops Q fuel (listed.setIfInBounds i true) (a.put oi.dst v) w') : AnyB P ops Q (fuel + 1) listed a w := by
  refine wpAnyH_ready hr (by simp) (AllReadyH.cons hi (fun K hK => ?_) AllReadyH.nil)
  rw [if_pos hw]
  unfold Oper.wp
  rw [he, Oper.upon_enter]
  refine hc.mono ?_
  rintro e w' ⟨v, rfl, hb, h⟩
  exact hK.out _ _ hb fun _ => held_mono (fun _ hW => hb.trans (hW.mono hb.size)) _ _ _ _ h

/-- What makes memory, where it alone may come up. -/
theorem AnyB.op (i : Nat) (v : Value) (w' : World) {oi : Oper} {fuel : Nat} {listed : Array Bool} {a : Go.Act} {w : World} (hr : Region.ready .any ops listed = [i]) (hi : ops[i]? = some oi)
    (hw : Region.wanted oi (yielded ops a.tmps) = true) (he : (execOp a.eval oi).run P w = .ok (.value v) w') (hb : Below w.heap.size w w') (h : AnyB P ops Q fuel (listed.setIfInBounds i true) (a.put oi.dst v) w') : AnyB P ops Q (fuel + 1) listed a w :=
  held_one hr (held_op v w' hi hw he hb (held_mono (fun _ hW => hb.trans (hW.mono hb.size)) _ _ _ _ h))
theorem AnyB.done {listed : Array Bool} {a : Go.Act} {w : World} (fuel : Nat) (hr : Region.ready .any ops listed = []) (h : Q .normal a w) : AnyB P ops Q fuel listed a w :=
  wpAnyH_done hr h fuel
end
section
variable {P : Program} {a : Go.Act} {o : Oper} {W : World}
/-- A comparison of what two slots hold. -/
theorem y_bin {op : BinOp} {s t : Operand} {ty ty' : TypeId} {x y r : Value} (ho : o.op = .binOp op ty s t ty') (hs : a.eval s = x) (ht : a.eval t = y)
    (hg : (eqGuard op ty s t x y).run P W = .ok () W) (hb : (binOp op ty x y).run P W = .ok r W) : (execOp a.eval o).run P W = .ok (.value r) W := by
  subst hs ht
  simp only [execOp, ho]
  simp [Sem.run_bind, hg, hb, Result.andThen]
theorem y_conv' {s : Operand} {ty ty' : TypeId} {x r : Value} {W' : World} (ho : o.op = .convert ty ty' s) (hs : a.eval s = x) (hc : (convert ty ty' x).run P W = .ok r W') : (execOp a.eval o).run P W = .ok (.value r) W' := by
  subst hs
  simp only [execOp, ho]
  simp [hc, Result.andThen]
/-- A conversion of what a slot holds. -/
theorem y_conv {s : Operand} {ty ty' : TypeId} {x r : Value} (ho : o.op = .convert ty ty' s) (hs : a.eval s = x) (hc : (convert ty ty' x).run P W = .ok r W) : (execOp a.eval o).run P W = .ok (.value r) W := by
  subst hs
  simp only [execOp, ho]
  simp [hc, Result.andThen]
end
end Go.Proofs.YtnboagmibhllpaaGreatDoor
