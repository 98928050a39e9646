/-
  Objects and maps as they lie in memory; a world that is as it was but for some blocks.
-/
import Derived.Test.YtfnepffccenebaaGreatDoorCut
import Derived.Test.YtfnepffccenebaaGreatDoorBase
import Derived.Test.YtfnepffccenebaaGreatDoorFault
import Derived.Deep.QuietTactic
import Derived.BigQuiet
import Derived.IntWalk
import Derived.Shelf.Abstract
import Derived.LaidEql
import Derived.Stop.Asserts
import Derived.Test.YtfnepffccenebaaGreatDoorTreeC
import Derived.Test.YtfnepffccenebaaGreatDoorHeld
import Derived.Test.YtfnepffccenebaaGreatDoorWrite
import Derived.Test.YtfnepffccenebaaGreatDoorDSum
import Derived.Test.YtfnepffccenebaaGreatDoorAnyB
import Derived.Laws.IdiomStrings
import Derived.Test.YtfnepffccenebaaGreatDoorDRSum
import Derived.WideAt
import Derived.WideShapes
import Derived.Lib.SlBytesConst
import Derived.Test.YtfnepffccenebaaGreatDoorWLaw
import Derived.Maps.OwnSet
import Derived.Maps.OwnIn
import Derived.Maps.Views
import Derived.Maps.AppendAt
import Derived.RangeFuncBox
namespace Go.Proofs.YtfnepffccenebaaGreatDoor
open Go Go.RowKit Go.Maps
/-- w' is w but for the blocks that S tells, and new ones. -/
structure But (S : Nat → Prop) (w w' : World) : Prop where
  os : w'.os = w.os
  tape : w'.tape = w.tape
  output : w'.output = w.output
  size : w.heap.size ≤ w'.heap.size
  block : ∀ k, k < w.heap.size → ¬ S k → w'.heap[k]? = w.heap[k]?
theorem But.refl (S : Nat → Prop) (w : World) : But S w w := ⟨rfl, rfl, rfl, Nat.le_refl _, fun _ _ _ => rfl⟩
theorem But.trans {S : Nat → Prop} {a b c : World} (h : But S a b) (k : But S b c) : But S a c :=
  ⟨k.os.trans h.os, k.tape.trans h.tape, k.output.trans h.output, Nat.le_trans h.size k.size, fun i hi hs => (k.block i (Nat.lt_of_lt_of_le hi h.size) hs).trans (h.block i hi hs)⟩
theorem But.mono {S T : Nat → Prop} {w w' : World} (h : But S w w') (hs : ∀ k, k < w.heap.size → S k → T k) : But T w w' :=
  ⟨h.os, h.tape, h.output, h.size, fun k hk hn => h.block k hk fun hS => hn (hs k hk hS)⟩
theorem But.of_below {B : Nat} {w w' : World} (h : Below B w w') : But (fun k => B ≤ k) w w' := ⟨h.os, h.tape, h.output, h.size, fun k _ hn => h.block k (Nat.lt_of_not_le hn)⟩
/-- Behind a call that turned nothing old. -/
theorem But.of_new {S : Nat → Prop} {w w' : World} (h : Below w.heap.size w w') : But S w w' := ⟨h.os, h.tape, h.output, h.size, fun k hk _ => h.block k hk⟩
theorem But.below {S : Nat → Prop} {w w' : World} {B : Nat} (h : But S w w') (hS : ∀ k, k < w.heap.size → S k → B ≤ k) (hB : B ≤ w.heap.size) : Below B w w' :=
  ⟨h.os, h.tape, h.output, h.size, fun k hk => h.block k (Nat.lt_of_lt_of_le hk hB) fun hs => by have := hS k (Nat.lt_of_lt_of_le hk hB) hs; omega⟩
theorem But.of_grown {w w' : World} {row : Option Nat} (h : w.grownBy w' row) : But (fun k => row = some k) w w' := ⟨h.os, h.tape, h.output, h.size, fun k hk hn => h.block k hk (fun e => hn e.symm)⟩
theorem But.cell {S : Nat → Prop} {w w' : World} (h : But S w w') {p : Addr} (hlt : p.block < w.heap.size) (hn : ¬ S p.block) : w'.cell? p = w.cell? p := World.cell?_of_block (w := w) (h.block p.block hlt hn)
theorem But.alloc {S : Nat → Prop} {a w : World} (h : But S a w) (o : Obj) : But S a (w.alloc o) := h.trans (But.of_new ((Below.refl _ w).alloc (Nat.le_refl _) o))
theorem But.drewN {S : Nat → Prop} {a w : World} (h : But S a w) (n : Nat) : But S a (w.drewN n) := h.trans ⟨rfl, rfl, rfl, Nat.le_refl _, fun _ _ _ => rfl⟩
theorem But.drew {S : Nat → Prop} {a w : World} (h : But S a w) : But S a w.drew := h.trans ⟨rfl, rfl, rfl, Nat.le_refl _, fun _ _ _ => rfl⟩
theorem But.setCell {S : Nat → Prop} {a w : World} (h : But S a w) {p : Addr} (hp : S p.block) (u : Value) : But S a (w.setCell p u) :=
  h.trans ⟨rfl, rfl, rfl, by simp [World.setCell], fun k _ hn => Below.heap_setCell _ _ _ _ (fun e => hn (by rw [e]; exact hp))⟩
theorem but_putObj {S : Nat → Prop} (w : World) (r : Nat) (o : Obj) (hr : S r) : But S w (w.putObj r o) :=
  ⟨rfl, rfl, rfl, by simp, fun k _ hn => World.putObj_heap_other (fun e => hn (by rw [e]; exact hr))⟩
theorem RdK.but {α : Type} {k : Nat} {f : α → List Value} {w w' : World} {v : Value} {l : List α} {S : Nat → Prop} (h : RdK k f w v l) (hb : But S w w') (hn : ∀ g, v.ownBlock = some g → ¬ S g) : RdK k f w' v l := by
  rcases h with h | ⟨g, o, c, rfl, hc, hg, hcell⟩
  · exact .inl h
  · exact .inr ⟨g, o, c, rfl, hc, Nat.lt_of_lt_of_le hg hb.size, fun j hj x hx i hi => by rw [hb.cell (p := ⟨g, o + j * k + i, none⟩) hg (hn g rfl)]; exact hcell j hj x hx i hi⟩
theorem RdK.but2 {α : Type} {k : Nat} {f : α → List Value} {w w' : World} {v : Value} {l : List α} {S : Nat → Prop} (h : RdK k f w v l) (hb : But S w w') (hn : 0 < l.length → ∀ g, v.ownBlock = some g → ¬ S g) : RdK k f w' v l := by
  rcases Nat.eq_zero_or_pos l.length with h0 | h0
  · obtain ⟨A, c, e⟩ := h.shape
    exact .inl ⟨⟨A, c, by rw [e, h0]⟩, List.length_eq_zero_iff.1 h0⟩
  · exact h.but hb (hn h0)
theorem row_but {w w' : World} {base n k : Nat} {t : TypeId} {v : Value} {xs : List Value} {S : Nat → Prop} (h : w.ownsRow base t k v n xs) (hb : But S w w') (hn : ∀ g, v.ownBlock = some g → ¬ S g) : w'.ownsRow base t k v n xs := by
  obtain ⟨h1, h2⟩ := h
  refine ⟨h1, ?_⟩
  rcases h2 with h2 | ⟨g, cap, cur, rfl, hbg, hg, r⟩
  · exact .inl h2
  · exact .inr ⟨g, cap, cur, rfl, hbg, (hb.block g (lt_heap hg) (hn g rfl)).trans hg, r⟩
theorem OwK.but {α : Type} {t : TypeId} {k : Nat} {f : α → List Value} {w w' : World} {base : Nat} {v : Value} {l : List α} {S : Nat → Prop} (h : OwK t k f w base v l) (hb : But S w w') (hn : ∀ g, v.ownBlock = some g → ¬ S g) : OwK t k f w' base v l := row_but h hb hn
theorem boxed_but {w w' : World} {b : Nat} {t : TypeId} {v : Value} {S : Nat → Prop} (h : Boxed w b t v) (hb : But S w w') (hn : ¬ S b) : Boxed w' b t v := (hb.block b h.lt hn).trans h
theorem map_but {H : Type} {P : Program} {k : TypeId} {R : Value → Option (DataW H × List MemPlace)} {w w' : World} {b n : Nat} {D : DataW H} {S : Nat → Prop} (h : w.ownsMap P k R b n D) (hb : But S w w') (hn : ¬ S b) : w'.ownsMap P k R b n D := by
  have hlt := h.lt
  obtain ⟨es, clock, he, r⟩ := h
  exact ⟨es, clock, (hb.block b hlt hn).trans he, r⟩
/-- What a slice owns is one block, above its base. -/
theorem own_block {w : World} {base n k : Nat} {t : TypeId} {v : Value} {xs : List Value} (h : w.ownsRow base t k v n xs) {g : Nat} (hg : v.ownBlock = some g) : base ≤ g ∧ g < w.heap.size ∧ ∃ cur, w.heap[g]? = some (.cells cur t (0, 0)) := by
  rcases h.2 with ⟨rfl, _⟩ | ⟨g', cap, cur, rfl, hb, hh, _⟩
  · cases hg
  · cases hg; exact ⟨hb, lt_heap hh, cur, hh⟩
theorem own_slice {w : World} {base n k : Nat} {t : TypeId} {v : Value} {xs : List Value} (h : w.ownsRow base t k v n xs) : ∃ A c, v = .slice A n c := by
  rcases h.2 with ⟨rfl, rfl⟩ | ⟨g, cap, cur, rfl, _⟩
  · exact ⟨_, _, rfl⟩
  · exact ⟨_, _, rfl⟩
def anyR (v : Value) : Option (DataW Value × List MemPlace) := some (.held v, [])
theorem lawS : Keyed Tryz.prog 9 := string_keyed Tryz.underlying9
theorem keyOfS {p : Bs} (hp : p.length ≤ maxLen) : keyOf Tryz.prog 9 (.string ⟨p.toArray⟩) = some (.string p) := Go.WideMaps.keyOf_string_mk Tryz.underlying9 (s := ⟨p.toArray⟩) (by simpa [ByteArray.size] using hp)
/-- Block b of w is a map that holds what f tells. -/
def MapS (w : World) (b n : Nat) (f : Bs → Option Value) : Prop :=
  ∃ D, w.ownsMap (H := Value) Tryz.prog 9 anyR b n D ∧ IsMap D ∧ ∀ x, (f x = none → has D (.string x) = false) ∧ ∀ v, f x = some v → ∀ z, D.atKey (.string x) z = .held v
theorem MapS.lt {w : World} {b n : Nat} {f : Bs → Option Value} (h : MapS w b n f) : b < w.heap.size := by obtain ⟨D, h, _⟩ := h; exact h.lt
theorem MapS.but {w w' : World} {b n : Nat} {f : Bs → Option Value} {S : Nat → Prop} (h : MapS w b n f) (hb : But S w w') (hn : ¬ S b) : MapS w' b n f := by
  obtain ⟨D, h, r⟩ := h; exact ⟨D, map_but h hb hn, r⟩
theorem MapS.below {w w' : World} {b n B : Nat} {f : Bs → Option Value} (h : MapS w b n f) (hb : Below B w w') (hlt : b < B) : MapS w' b n f := h.but (But.of_below hb) (by omega)
theorem MapS.made (w : World) : MapS (w.alloc (.map #[] 0)) w.heap.size 0 fun _ => none :=
  ⟨.map [], World.ownsMap_made w _ _ _, ⟨_, rfl⟩, fun x => ⟨fun _ => rfl, fun v h => by cases h⟩⟩
theorem MapS.look_ok {w : World} {b n : Nat} {f : Bs → Option Value} (h : MapS w b n f) {t e : TypeId} (ht : Tryz.prog.underlying t = some (.map 9 e)) {z : Value} (hz : (zeroValue e).run Tryz.prog w = .ok z w) {x : Bs} (hx : x.length ≤ maxLen) :
    (Instr.lookup t (.map (some b)) (.string ⟨x.toArray⟩) true).run Tryz.prog w = .ok (.tuple #[(f x).getD z, .bool (f x).isSome]) w := by
  obtain ⟨D, hown, _, hf⟩ := h
  obtain ⟨v, ps, hrun, hv⟩ := hown.look_ok lawS ht hz (zd := .held z) (zp := []) rfl (keyOfS hx)
  cases hfx : f x with
  | none =>
    rw [(hf x).1 hfx] at hrun
    rw [atKey_of_not_has ((hf x).1 hfx)] at hv
    cases hv; exact hrun
  | some u =>
    rw [has_true_of_atKey ((hf x).2 u hfx)] at hrun
    rw [(hf x).2 u hfx] at hv
    cases hv; exact hrun
theorem MapS.look {w : World} {b n : Nat} {f : Bs → Option Value} (h : MapS w b n f) {t e : TypeId} (ht : Tryz.prog.underlying t = some (.map 9 e)) {z : Value} (hz : (zeroValue e).run Tryz.prog w = .ok z w) {x : Bs} (hx : x.length ≤ maxLen) :
    (Instr.lookup t (.map (some b)) (.string ⟨x.toArray⟩) false).run Tryz.prog w = .ok ((f x).getD z) w := by
  obtain ⟨D, hown, _, hf⟩ := h
  obtain ⟨v, ps, hrun, hv⟩ := hown.lookup lawS ht hz (zd := .held z) (zp := []) rfl (keyOfS hx)
  cases hfx : f x with
  | none =>
    rw [atKey_of_not_has ((hf x).1 hfx)] at hv
    cases hv; exact hrun
  | some u =>
    rw [(hf x).2 u hfx] at hv
    cases hv; exact hrun
def updF (f : Bs → Option Value) (x : Bs) (v : Value) : Bs → Option Value := fun y => if y = x then some v else f y
theorem MapS.put {w : World} {b n : Nat} {f : Bs → Option Value} (h : MapS w b n f) {t e : TypeId} (ht : Tryz.prog.underlying t = some (.map 9 e)) (hn : n < maxLen) {x : Bs} (hx : x.length ≤ maxLen) (v : Value) :
    ∃ w', (Instr.mapUpdate t (.map (some b)) (.string ⟨x.toArray⟩) v).run Tryz.prog w = .ok () w' ∧ MapS w' b (n + 1) (updF f x v) ∧ w.grownBy w' (some b) := by
  obtain ⟨D, hown, hm, hf⟩ := h
  obtain ⟨w', hrun, hown', hg⟩ := hown.update lawS ht hn (keyOfS hx) (val := v) (d := .held v) (ps := []) rfl
  refine ⟨w', hrun, ⟨_, hown', ?_, fun y => ⟨fun hy => ?_, fun u hy z => ?_⟩⟩, hg⟩
  · obtain ⟨es, rfl⟩ := hm
    exact ⟨_, rfl⟩
  · unfold updF at hy
    by_cases e : y = x
    · rw [if_pos e] at hy; cases hy
    · rw [if_neg e] at hy
      rw [has_put_other (fun e' => e (by cases e'; rfl))]
      exact (hf y).1 hy
  · unfold updF at hy
    by_cases e : y = x
    · rw [if_pos e] at hy; cases hy
      subst e
      exact atKey_put_same hm (k := .string y) (by trivial) _ _
    · rw [if_neg e] at hy
      rw [atKey_put_other (fun e' => e (by cases e'; rfl))]
      exact (hf y).2 u hy z
/-- 'm[x] = v' at the operation, for the walk. -/
theorem wpList_putS {w : World} {ops : Array Oper} {rest : List Oper} {o : Oper} {a : Go.Act} {Q : Exit → Go.Act → World → Prop}
    (hg : o.guard = none) (mo xo vo : Operand) (t e : TypeId) (hop : o.op = Op.mapUpdate t mo xo vo) (ht : Tryz.prog.underlying t = some (.map 9 e))
    (b n : Nat) (f : Bs → Option Value) (x : Bs) (v : Value) (hm : a.eval mo = .map (some b)) (hxo : a.eval xo = .string ⟨x.toArray⟩) (hvo : a.eval vo = v) (h : MapS w b n f) (hn : n < maxLen) (hx : x.length ≤ maxLen)
    (hK : ∀ w', MapS w' b (n + 1) (updF f x v) → w.grownBy w' (some b) → wpList Tryz.prog ops Q rest (a.put o.dst undef) w') : wpList Tryz.prog ops Q (o :: rest) a w := by
  refine wpList_plain hg fun K' hK' => ?_
  obtain ⟨w', hrun, r1, r2⟩ := h.put ht hn hx v
  unfold Oper.wp
  simp [execOp, hop, hm, hxo, hvo, hrun, Result.andThen]
  exact hK' _ _ (hK w' r1 r2)
end Go.Proofs.YtfnepffccenebaaGreatDoor
