/-
  Objects and maps as they lie in memory; a world that is as it was but for some blocks.
  SameItems, SameTexts, SameWants: alike?
  Has, Same, Great, GreatTexts; the document's Find.
  objects, agree: the objects of all names.
  A name is met: the row, and how often each was met.
  Pick, and the document's.
-/
import Derived.Maps.OwnSet
import Derived.Maps.OwnIn
import Derived.Maps.Views
import Derived.Maps.AppendAt
import Derived.RangeFuncBox
import Derived.Test.YthbmaloajgkhmaaGreatDoorC14
import Derived.Test.YthbmaloajgkhmaaGreatDoorC01
import Derived.Deep.QuietTactic
import Derived.BigQuiet
import Derived.IntWalk
import Derived.Laws.StructEq
import Derived.Test.YthbmaloajgkhmaaGreatDoorC03
import Derived.Deep.AppendLies
import Derived.Test.YthbmaloajgkhmaaGreatDoorC05

namespace Go.Proofs.YthbmaloajgkhmaaGreatDoor
open Go Go.RowKit Go.Maps
/-- w' is w but for the blocks that S tells, and new ones. -/
structure But (S : Nat → Prop) (w w' : World) : Prop where
  os : w'.os = w.os
  tape : w'.tape = w.tape
  output : w'.output = w.output
  size : w.heap.size ≤ w'.heap.size
  block : ∀ k, k < w.heap.size → ¬ S k → w'.heap[k]? = w.heap[k]?
theorem But.refl (S : Nat → Prop) (w : World) : But S w w := ⟨rfl, rfl, rfl, Nat.le_refl _, fun _ _ _ => rfl⟩
theorem But.trans {S : Nat → Prop} {a b c : World} (h : But S a b) (k : But S b c) : But S a c :=
  ⟨k.os.trans h.os, k.tape.trans h.tape, k.output.trans h.output, Nat.le_trans h.size k.size, fun i hi hs => (k.block i (Nat.lt_of_lt_of_le hi h.size) hs).trans (h.block i hi hs)⟩
theorem But.mono {S T : Nat → Prop} {w w' : World} (h : But S w w') (hs : ∀ k, k < w.heap.size → S k → T k) : But T w w' :=
  ⟨h.os, h.tape, h.output, h.size, fun k hk hn => h.block k hk fun hS => hn (hs k hk hS)⟩
theorem But.of_below {B : Nat} {w w' : World} (h : Below B w w') : But (fun k => B ≤ k) w w' := ⟨h.os, h.tape, h.output, h.size, fun k _ hn => h.block k (Nat.lt_of_not_le hn)⟩
/-- Behind a call that turned nothing old. -/
theorem But.of_new {S : Nat → Prop} {w w' : World} (h : Below w.heap.size w w') : But S w w' := ⟨h.os, h.tape, h.output, h.size, fun k hk _ => h.block k hk⟩
theorem But.below {S : Nat → Prop} {w w' : World} {B : Nat} (h : But S w w') (hS : ∀ k, k < w.heap.size → S k → B ≤ k) (hB : B ≤ w.heap.size) : Below B w w' :=
  ⟨h.os, h.tape, h.output, h.size, fun k hk => h.block k (Nat.lt_of_lt_of_le hk hB) fun hs => by have := hS k (Nat.lt_of_lt_of_le hk hB) hs; omega⟩
theorem But.of_grown {w w' : World} {row : Option Nat} (h : w.grownBy w' row) : But (fun k => row = some k) w w' := ⟨h.os, h.tape, h.output, h.size, fun k hk hn => h.block k hk (fun e => hn e.symm)⟩
theorem But.cell {S : Nat → Prop} {w w' : World} (h : But S w w') {p : Addr} (hlt : p.block < w.heap.size) (hn : ¬ S p.block) : w'.cell? p = w.cell? p := World.cell?_of_block (w := w) (h.block p.block hlt hn)
theorem But.alloc {S : Nat → Prop} {a w : World} (h : But S a w) (o : Obj) : But S a (w.alloc o) := h.trans (But.of_new ((Below.refl _ w).alloc (Nat.le_refl _) o))
theorem But.drewN {S : Nat → Prop} {a w : World} (h : But S a w) (n : Nat) : But S a (w.drewN n) := h.trans ⟨rfl, rfl, rfl, Nat.le_refl _, fun _ _ _ => rfl⟩
theorem But.drew {S : Nat → Prop} {a w : World} (h : But S a w) : But S a w.drew := h.trans ⟨rfl, rfl, rfl, Nat.le_refl _, fun _ _ _ => rfl⟩
theorem But.setCell {S : Nat → Prop} {a w : World} (h : But S a w) {p : Addr} (hp : S p.block) (u : Value) : But S a (w.setCell p u) :=
  h.trans ⟨rfl, rfl, rfl, by simp [World.setCell], fun k _ hn => Below.heap_setCell _ _ _ _ (fun e => hn (by rw [e]; exact hp))⟩
theorem but_putObj {S : Nat → Prop} (w : World) (r : Nat) (o : Obj) (hr : S r) : But S w (w.putObj r o) :=
  ⟨rfl, rfl, rfl, by simp, fun k _ hn => World.putObj_heap_other (fun e => hn (by rw [e]; exact hr))⟩
theorem RdK.but {α : Type} {k : Nat} {f : α → List Value} {w w' : World} {v : Value} {l : List α} {S : Nat → Prop} (h : RdK k f w v l) (hb : But S w w') (hn : ∀ g, v.ownBlock = some g → ¬ S g) : RdK k f w' v l := by
  rcases h with h | ⟨g, o, c, rfl, hc, hg, hcell⟩
  · exact .inl h
  · exact .inr ⟨g, o, c, rfl, hc, Nat.lt_of_lt_of_le hg hb.size, fun j hj x hx i hi => by rw [hb.cell (p := ⟨g, o + j * k + i, none⟩) hg (hn g rfl)]; exact hcell j hj x hx i hi⟩
theorem RdK.but2 {α : Type} {k : Nat} {f : α → List Value} {w w' : World} {v : Value} {l : List α} {S : Nat → Prop} (h : RdK k f w v l) (hb : But S w w') (hn : 0 < l.length → ∀ g, v.ownBlock = some g → ¬ S g) : RdK k f w' v l := by
  rcases Nat.eq_zero_or_pos l.length with h0 | h0
  · obtain ⟨A, c, e⟩ := h.shape
    exact .inl ⟨⟨A, c, by rw [e, h0]⟩, List.length_eq_zero_iff.1 h0⟩
  · exact h.but hb (hn h0)
theorem row_but {w w' : World} {base n k : Nat} {t : TypeId} {v : Value} {xs : List Value} {S : Nat → Prop} (h : w.ownsRow base t k v n xs) (hb : But S w w') (hn : ∀ g, v.ownBlock = some g → ¬ S g) : w'.ownsRow base t k v n xs := by
  obtain ⟨h1, h2⟩ := h
  refine ⟨h1, ?_⟩
  rcases h2 with h2 | ⟨g, cap, cur, rfl, hbg, hg, r⟩
  · exact .inl h2
  · exact .inr ⟨g, cap, cur, rfl, hbg, (hb.block g (lt_heap hg) (hn g rfl)).trans hg, r⟩
theorem OwK.but {α : Type} {t : TypeId} {k : Nat} {f : α → List Value} {w w' : World} {base : Nat} {v : Value} {l : List α} {S : Nat → Prop} (h : OwK t k f w base v l) (hb : But S w w') (hn : ∀ g, v.ownBlock = some g → ¬ S g) : OwK t k f w' base v l := row_but h hb hn
theorem boxed_but {w w' : World} {b : Nat} {t : TypeId} {v : Value} {S : Nat → Prop} (h : Boxed w b t v) (hb : But S w w') (hn : ¬ S b) : Boxed w' b t v := (hb.block b h.lt hn).trans h
theorem map_but {H : Type} {P : Program} {k : TypeId} {R : Value → Option (DataW H × List MemPlace)} {w w' : World} {b n : Nat} {D : DataW H} {S : Nat → Prop} (h : w.ownsMap P k R b n D) (hb : But S w w') (hn : ¬ S b) : w'.ownsMap P k R b n D := by
  have hlt := h.lt
  obtain ⟨es, clock, he, r⟩ := h
  exact ⟨es, clock, (hb.block b hlt hn).trans he, r⟩
/-- What a slice owns is one block, above its base. -/
theorem own_block {w : World} {base n k : Nat} {t : TypeId} {v : Value} {xs : List Value} (h : w.ownsRow base t k v n xs) {g : Nat} (hg : v.ownBlock = some g) : base ≤ g ∧ g < w.heap.size ∧ ∃ cur, w.heap[g]? = some (.cells cur t (0, 0)) := by
  rcases h.2 with ⟨rfl, _⟩ | ⟨g', cap, cur, rfl, hb, hh, _⟩
  · cases hg
  · cases hg; exact ⟨hb, lt_heap hh, cur, hh⟩
theorem own_slice {w : World} {base n k : Nat} {t : TypeId} {v : Value} {xs : List Value} (h : w.ownsRow base t k v n xs) : ∃ A c, v = .slice A n c := by
  rcases h.2 with ⟨rfl, rfl⟩ | ⟨g, cap, cur, rfl, _⟩
  · exact ⟨_, _, rfl⟩
  · exact ⟨_, _, rfl⟩
def heldC (h : Hld) : List Value := [SV h.id, .int .i64 h.kind, SV h.data]
theorem heldC_len (x : Hld) : (heldC x).length = 3 := rfl
def HldsR (w : World) (v : Value) (l : List Hld) : Prop := RdK 3 heldC w v l
theorem HldsR.cells {w : World} {g o n c : Nat} {l : List Hld} (h : HldsR w (.slice (some ⟨g, o, none⟩) n c) l) (k : Nat) (hk : k < l.length) :
    w.cell? ⟨g, o + k * 3, none⟩ = some (SV (l.getD k noHld).id) ∧ w.cell? ⟨g, o + k * 3 + 1, none⟩ = some (.int .i64 (l.getD k noHld).kind) ∧ w.cell? ⟨g, o + k * 3 + 2, none⟩ = some (SV (l.getD k noHld).data) := by
  rcases h with ⟨_, rfl⟩ | ⟨g', o', c', e, hc, hg, hcell⟩
  · simp at hk
  · cases e
    have h0 := hcell k hk _ (List.getElem?_eq_getElem hk)
    have e : l.getD k noHld = l[k] := by rw [List.getD_eq_getElem?_getD, List.getElem?_eq_getElem hk]; rfl
    rw [e]
    exact ⟨h0 0 (by omega), h0 1 (by omega), h0 2 (by omega)⟩
def anyR (v : Value) : Option (DataW Value × List MemPlace) := some (.held v, [])
theorem lawS : Keyed Tryz.prog 9 := string_keyed Tryz.underlying9
theorem keyOfS {p : Bs} (hp : p.length ≤ maxLen) : keyOf Tryz.prog 9 (.string ⟨p.toArray⟩) = some (.string p) := Go.WideMaps.keyOf_string_mk Tryz.underlying9 (s := ⟨p.toArray⟩) (by simpa [ByteArray.size] using hp)
/-- Block b of w is a map that holds what f tells. -/
def MapS (w : World) (b n : Nat) (f : Bs → Option Value) : Prop :=
  ∃ D, w.ownsMap (H := Value) Tryz.prog 9 anyR b n D ∧ IsMap D ∧ ∀ x, (f x = none → has D (.string x) = false) ∧ ∀ v, f x = some v → ∀ z, D.atKey (.string x) z = .held v
theorem MapS.lt {w : World} {b n : Nat} {f : Bs → Option Value} (h : MapS w b n f) : b < w.heap.size := by obtain ⟨D, h, _⟩ := h; exact h.lt
theorem MapS.but {w w' : World} {b n : Nat} {f : Bs → Option Value} {S : Nat → Prop} (h : MapS w b n f) (hb : But S w w') (hn : ¬ S b) : MapS w' b n f := by
  obtain ⟨D, h, r⟩ := h; exact ⟨D, map_but h hb hn, r⟩
theorem MapS.below {w w' : World} {b n B : Nat} {f : Bs → Option Value} (h : MapS w b n f) (hb : Below B w w') (hlt : b < B) : MapS w' b n f := h.but (But.of_below hb) (by omega)
theorem MapS.made (w : World) : MapS (w.alloc (.map #[] 0)) w.heap.size 0 fun _ => none :=
  ⟨.map [], World.ownsMap_made w _ _ _, ⟨_, rfl⟩, fun x => ⟨fun _ => rfl, fun v h => by cases h⟩⟩
theorem MapS.look_ok {w : World} {b n : Nat} {f : Bs → Option Value} (h : MapS w b n f) {t e : TypeId} (ht : Tryz.prog.underlying t = some (.map 9 e)) {z : Value} (hz : (zeroValue e).run Tryz.prog w = .ok z w) {x : Bs} (hx : x.length ≤ maxLen) :
    (Instr.lookup t (.map (some b)) (.string ⟨x.toArray⟩) true).run Tryz.prog w = .ok (.tuple #[(f x).getD z, .bool (f x).isSome]) w := by
  obtain ⟨D, hown, _, hf⟩ := h
  obtain ⟨v, ps, hrun, hv⟩ := hown.look_ok lawS ht hz (zd := .held z) (zp := []) rfl (keyOfS hx)
  cases hfx : f x with
  | none =>
    rw [(hf x).1 hfx] at hrun
    rw [atKey_of_not_has ((hf x).1 hfx)] at hv
    cases hv; exact hrun
  | some u =>
    rw [has_true_of_atKey ((hf x).2 u hfx)] at hrun
    rw [(hf x).2 u hfx] at hv
    cases hv; exact hrun
theorem MapS.look {w : World} {b n : Nat} {f : Bs → Option Value} (h : MapS w b n f) {t e : TypeId} (ht : Tryz.prog.underlying t = some (.map 9 e)) {z : Value} (hz : (zeroValue e).run Tryz.prog w = .ok z w) {x : Bs} (hx : x.length ≤ maxLen) :
    (Instr.lookup t (.map (some b)) (.string ⟨x.toArray⟩) false).run Tryz.prog w = .ok ((f x).getD z) w := by
  obtain ⟨D, hown, _, hf⟩ := h
  obtain ⟨v, ps, hrun, hv⟩ := hown.lookup lawS ht hz (zd := .held z) (zp := []) rfl (keyOfS hx)
  cases hfx : f x with
  | none =>
    rw [atKey_of_not_has ((hf x).1 hfx)] at hv
    cases hv; exact hrun
  | some u =>
    rw [(hf x).2 u hfx] at hv
    cases hv; exact hrun
def updF (f : Bs → Option Value) (x : Bs) (v : Value) : Bs → Option Value := fun y => if y = x then some v else f y
theorem MapS.put {w : World} {b n : Nat} {f : Bs → Option Value} (h : MapS w b n f) {t e : TypeId} (ht : Tryz.prog.underlying t = some (.map 9 e)) (hn : n < maxLen) {x : Bs} (hx : x.length ≤ maxLen) (v : Value) :
    ∃ w', (Instr.mapUpdate t (.map (some b)) (.string ⟨x.toArray⟩) v).run Tryz.prog w = .ok () w' ∧ MapS w' b (n + 1) (updF f x v) ∧ w.grownBy w' (some b) := by
  obtain ⟨D, hown, hm, hf⟩ := h
  obtain ⟨w', hrun, hown', hg⟩ := hown.update lawS ht hn (keyOfS hx) (val := v) (d := .held v) (ps := []) rfl
  refine ⟨w', hrun, ⟨_, hown', ?_, fun y => ⟨fun hy => ?_, fun u hy z => ?_⟩⟩, hg⟩
  · obtain ⟨es, rfl⟩ := hm
    exact ⟨_, rfl⟩
  · unfold updF at hy
    by_cases e : y = x
    · rw [if_pos e] at hy; cases hy
    · rw [if_neg e] at hy
      rw [has_put_other (fun e' => e (by cases e'; rfl))]
      exact (hf y).1 hy
  · unfold updF at hy
    by_cases e : y = x
    · rw [if_pos e] at hy; cases hy
      subst e
      exact atKey_put_same hm (k := .string y) (by trivial) _ _
    · rw [if_neg e] at hy
      rw [atKey_put_other (fun e' => e (by cases e'; rfl))]
      exact (hf y).2 u hy z
/-- 'm[x] = v' at the operation, for the walk. -/
theorem wpList_putS {w : World} {ops : Array Oper} {rest : List Oper} {o : Oper} {a : Go.Act} {Q : Exit → Go.Act → World → Prop}
    (hg : o.guard = none) (mo xo vo : Operand) (t e : TypeId) (hop : o.op = Op.mapUpdate t mo xo vo) (ht : Tryz.prog.underlying t = some (.map 9 e))
    (b n : Nat) (f : Bs → Option Value) (x : Bs) (v : Value) (hm : a.eval mo = .map (some b)) (hxo : a.eval xo = .string ⟨x.toArray⟩) (hvo : a.eval vo = v) (h : MapS w b n f) (hn : n < maxLen) (hx : x.length ≤ maxLen)
    (hK : ∀ w', MapS w' b (n + 1) (updF f x v) → w.grownBy w' (some b) → wpList Tryz.prog ops Q rest (a.put o.dst undef) w') : wpList Tryz.prog ops Q (o :: rest) a w := by
  refine wpList_plain hg fun K' hK' => ?_
  obtain ⟨w', hrun, r1, r2⟩ := h.put ht hn hx v
  unfold Oper.wp
  simp [execOp, hop, hm, hxo, hvo, hrun, Result.andThen]
  exact hK' _ _ (hK w' r1 r2)
end Go.Proofs.YthbmaloajgkhmaaGreatDoor


namespace Go.Proofs.YthbmaloajgkhmaaGreatDoor
open Go Go.RowKit
theorem below_drewN' {b : Nat} {w w1 : World} (h : Below b w w1) (n : Nat) : Below b w (w1.drewN n) := ⟨h.os, h.tape, h.output, h.size, h.block⟩
def SamePost (b : Bool) (w : World) (e : Ending) (w' : World) : Prop := e = .returned (.bool b) ∧ Below w.heap.size w w'
theorem take_same' {α : Type} {l m : List α} {d : α} {k : Nat} (h : l.take k = m.take k) (h1 : k < l.length) (h2 : k < m.length) (e : l.getD k d = m.getD k d) : l.take (k + 1) = m.take (k + 1) := by
  rw [take_getD l d k h1, take_getD m d k h2, h, e]
theorem ret_same {a b : Bool} (h : a = b) : Ending.returned (.bool b) = .returned (.bool a) := by rw [h]
end Go.Proofs.YthbmaloajgkhmaaGreatDoor


namespace Go.Proofs.YthbmaloajgkhmaaGreatDoor
open Go Go.RowKit Go.Maps
set_option maxHeartbeats 8000000 in
set_option maxRecDepth 100000 in
theorem Same_any {w : World} {va vb : Value} {l m : List Hld} (ha : HldsR w va l) (hb : HldsR w vb m) (hl : l.length ≤ 1000000) : Calls Tryz.prog 7 #[va, vb] w (SamePost (decide (l = m)) w) := by
  obtain ⟨A, c, rfl⟩ := ha.shape
  obtain ⟨B, cb, rfl⟩ := hb.shape
  have Ha := Lib.hid ha; have Hb := Lib.hid hb
  clear ha hb
  by_cases hlen : l.length = m.length
  · have Hlen := Lib.hid hlen
    rw [← hlen]
    clear hlen
    go_enter Tryz.func7, Tryz.ntmps7
    go_wp2_with fail
    go_loopw [5] (fun i wr => Below w.heap.size w wr ∧ ∃ k : Nat, k ≤ l.length ∧ i = .int .i64 k ∧ Hid (l.take k = m.take k)) (fun i _ => l.length - (intOf i).toNat)
    case atStart => exact ⟨Below.refl _ _, 0, Nat.zero_le _, rfl, Lib.hid rfl⟩
    case round =>
      obtain ⟨hB, k, hk, rfl, heq⟩ := hrel
      by_cases hlt : k < l.length
      · have hlm : k < m.length := by have := Hlen.out; omega
        obtain ⟨g, o, c', e, _, hg⟩ := Ha.out.pos (by omega)
        cases e
        obtain ⟨g', o', c'', e, _, hg'⟩ := Hb.out.pos (by omega)
        rw [← Hlen.out] at e
        cases e
        obtain ⟨p0, p1, p2⟩ := HldsR.cells (Ha.out.below hB (Nat.le_refl _)) k hlt
        obtain ⟨q0, q1, q2⟩ := HldsR.cells (Hb.out.below hB (Nat.le_refl _)) k hlm
        have hst := @take_same' _ l m noHld k heq.out hlt hlm
        have hne : l.getD k noHld ≠ m.getD k noHld → decide (l = m) = false := fun hn => decide_eq_false fun e => hn (by rw [e])
        obtain ⟨x, hx⟩ : ∃ x, x = l.getD k noHld := ⟨_, rfl⟩
        obtain ⟨y, hy⟩ : ∃ y, y = m.getD k noHld := ⟨_, rfl⟩
        rw [← hx] at p0 p1 p2 hst hne
        rw [← hy] at q0 q1 q2 hst hne
        have HB := Lib.hid hB; have HSt := Lib.hid hst
        clear hB hst hlm hx hy heq
        obtain ⟨x0, x1, x2⟩ := x
        obtain ⟨y0, y1, y2⟩ := y
        unfold SV at p0 p2 q0 q2
        simp only at p0 p1 p2 q0 q1 q2
        by_cases e : (⟨x0, x1, x2⟩ : Hld) = ⟨y0, y1, y2⟩
        · have HSt2 := Lib.hid (HSt.out e)
          clear HSt
          cases e
          clear hne
          go_wp2_with fail
          go_quiet (fail)
          go_wp2_with fail
          go_roundw
          case rel => exact ⟨below_drewN' HB.out _, k + 1, hlt, by go_num, HSt2⟩
          case measure => simp [intOf]; omega
        · have HN := Lib.hid (hne e)
          have hc : x0 ≠ y0 ∨ (x0 = y0 ∧ x1 ≠ y1) ∨ (x0 = y0 ∧ x1 = y1 ∧ x2 ≠ y2) := by
            by_cases e0 : x0 = y0
            · by_cases e1 : x1 = y1
              · exact .inr (.inr ⟨e0, e1, fun e2 => e (by rw [e0, e1, e2])⟩)
              · exact .inr (.inl ⟨e0, e1⟩)
            · exact .inl e0
          clear hne e
          rcases hc with e0 | ⟨rfl, e1⟩ | ⟨rfl, rfl, e2⟩
          all_goals
            go_wp2_with fail
            go_quiet (fail)
            go_wp2_with fail
            go_ret
            exact ⟨ret_same HN.out, below_drewN' HB.out _⟩
      · obtain rfl : k = l.length := by omega
        have HD : Hid (decide (l = m) = true) := Lib.hid (decide_eq_true (by
          have h := heq.out
          rw [List.take_length] at h
          rw [h, List.take_of_length_le (by have := Hlen.out; omega)]))
        have HB := Lib.hid hB; clear hB heq
        go_wp2_with fail
        go_ret
        exact ⟨ret_same HD.out, HB.out⟩
  · have hlI : ¬ (l.length : Int) = (m.length : Int) := by omega
    have HD : Hid (decide (l = m) = false) := Lib.hid (decide_eq_false fun e => hlen (by rw [e]))
    clear Ha Hb
    go_enter Tryz.func7, Tryz.ntmps7
    go_wp2_with fail
    go_ret
    exact ⟨ret_same HD.out, Below.refl _ _⟩
def limW : Nat := 140737488355328
/-- Not too much. -/
def SmallH (l : List Hld) : Prop := l.length < 900 ∧ ∀ x ∈ l, x.id.length < 9000 ∧ x.data.length < 9000
def GreatPost (P : Prop) (w : World) (e : Ending) (w' : World) : Prop := ∃ g, e = .returned (.bool g) ∧ Below w.heap.size w w' ∧ (g = false → P)
def hcost (x : Hld) : Nat := min x.id.length 9000 + min x.data.length 9000
def hcosts (l : List Hld) : Nat := (l.map hcost).sum
theorem hcosts_snoc {l : List Hld} {k : Nat} (h : k < l.length) : hcosts (l.take (k + 1)) = hcosts (l.take k) + hcost (l.getD k noHld) := by
  rw [take_getD l noHld k h]; simp [hcosts]
theorem hcost_le {l : List Hld} {x : Hld} (h : x ∈ l) : hcost x ≤ hcosts l := by
  unfold hcosts
  induction l with
  | nil => cases h
  | cons y r ih =>
    simp only [List.map_cons, List.sum_cons]
    rcases List.mem_cons.1 h with rfl | h
    · omega
    · have := ih h; omega
set_option maxHeartbeats 8000000 in
set_option maxRecDepth 100000 in
theorem Great_any {w : World} {v : Value} {l : List Hld} (h : HldsR w v l) (hl : l.length ≤ limW) : Calls Tryz.prog 6 #[v] w (GreatPost (SmallH l) w) := by
  obtain ⟨A, c, rfl⟩ := h.shape
  have Hx := Lib.hid h; clear h
  have hl' : l.length ≤ 140737488355328 := hl
  clear hl
  go_enter Tryz.func6, Tryz.ntmps6
  go_wp2_with fail
  go_loopw [3, 4] (fun n i wr => Below w.heap.size w wr ∧ ∃ k : Nat, k ≤ l.length ∧ i = .int .i64 k ∧ n = .int .i64 ((10 * l.length + hcosts (l.take k) : Nat) : Int) ∧ 10 * l.length + hcosts (l.take k) ≤ 10000000000000000) (fun _ i _ => l.length - (intOf i).toNat)
  case atStart => exact ⟨Below.refl _ _, 0, Nat.zero_le _, rfl, by simp [hcosts], by simp [hcosts]; omega⟩
  case round =>
    obtain ⟨hB, k, hk, rfl, rfl, hN⟩ := hrel
    by_cases hlt : k < l.length
    · by_cases hn : 10 * l.length + hcosts (l.take k) < 9000
      · obtain ⟨g, o, c', e, _, hg⟩ := Hx.out.pos (by omega)
        cases e
        obtain ⟨c0, c1, c2⟩ := HldsR.cells (Hx.out.below hB (Nat.le_refl _)) k hlt
        have hc := hcosts_snoc hlt
        obtain ⟨x, hx⟩ : ∃ x, x = l.getD k noHld := ⟨_, rfl⟩
        rw [← hx] at c0 c1 c2 hc
        obtain ⟨nm, m, di⟩ := x
        unfold SV at c0 c2
        simp only at c0 c1 c2
        unfold hcost at hc
        simp only at hc
        have hrel' : 10 * l.length + hcosts (l.take (k + 1)) ≤ 10000000000000000 := by rw [hc]; omega
        have m1 : (10 * (l.length : Int) + hcosts (l.take k) + min (nm.length : Int) 9000 + min (di.length : Int) 9000) = ((10 * l.length + hcosts (l.take (k + 1)) : Nat) : Int) := by
          rw [hc]
          omega
        have Hr := Lib.hid hrel'; have M1 := Lib.hid m1; have HB := Lib.hid hB; have Hc := Lib.hid hc
        clear hc hrel' m1 hB hx c1
        go_wp2_with fail
        go_quiet (fail)
        go_wp2_with fail
        go_roundw
        case rel => exact ⟨below_drewN' HB.out _, k + 1, hlt, by go_num, by rw [M1.out], Hr.out⟩
        case measure => simp [intOf]; omega
      · have hnI : ¬ (10 * (l.length : Int) + hcosts (l.take k) < 9000) := by omega
        have hgI : (9000 : Int) ≤ 10 * (l.length : Int) + hcosts (l.take k) := by omega
        have HB := Lib.hid hB; clear hB
        go_wp2_with fail
        go_ret
        exact ⟨true, by simp, HB.out, fun h => by cases h⟩
    · obtain rfl : k = l.length := by omega
      rw [List.take_length] at hN
      have HB := Lib.hid hB; clear hB
      rw [List.take_length]
      by_cases hn : 10 * l.length + hcosts l < 9000
      · have hnI : ¬ ((9000 : Int) ≤ 10 * (l.length : Int) + hcosts l) := by omega
        have hs : SmallH l := ⟨by omega, fun x hx => by
          have := hcost_le hx
          unfold hcost at this
          omega⟩
        have Hs := Lib.hid hs; clear hs
        go_wp2_with fail
        go_ret
        exact ⟨_, rfl, HB.out, fun _ => Hs.out⟩
      · have hnI : (9000 : Int) ≤ 10 * (l.length : Int) + hcosts l := by omega
        go_wp2_with fail
        go_ret
        exact ⟨true, by simp, HB.out, fun h => by cases h⟩
def objC (o : Option Hld) : Value := match o with | some h => .agg #[.int .i64 h.kind, .string ⟨h.data.toArray⟩] | none => .agg #[.int .i64 0, .string ⟨#[]⟩]
/-- What Find answers. -/
def findV (l : List Hld) (x : Bs) : Value := .tuple #[objC (findL l x), .bool (thB l x)]
theorem findL_snoc {l : List Hld} {k : Nat} {x : Bs} (h : k < l.length) : findL (l.take (k + 1)) x = (findL (l.take k) x).or (if (l.getD k noHld).id = x then some (l.getD k noHld) else none) := by
  rw [take_getD l noHld k h, findL_append, findL_cons]; rfl
theorem findL_hit {l : List Hld} {k : Nat} {x : Bs} {h : Hld} (hf : findL (l.take k) x = some h) : findL l x = some h := by
  rw [← List.take_append_drop k l, findL_append, hf, Option.some_or]
end Go.Proofs.YthbmaloajgkhmaaGreatDoor


namespace Go.Proofs.YthbmaloajgkhmaaGreatDoor
open Go Go.RowKit Go.Maps
def objV (h : Hld) : Value := .agg #[.int .i64 h.kind, .string ⟨h.data.toArray⟩]
/-- The objects of all names, as a map holds them. -/
def ofF (l : List Hld) (x : Bs) : Option Value := (findL l x).map objV
theorem zeroObj (w : World) : (zeroValue 26).run Tryz.prog w = .ok (.agg #[.int .i64 0, .string ⟨#[]⟩]) w := by kernel_rfl
theorem ofF_have {l : List Hld} {k : Nat} (hk : k < l.length) (h : ofF (l.take k) (l.getD k noHld).id ≠ none) : ofF (l.take (k + 1)) = ofF (l.take k) := by
  funext x
  unfold ofF at h ⊢
  rw [findL_snoc hk]
  cases hf : findL (l.take k) x with
  | some u => rfl
  | none =>
    by_cases e : (l.getD k noHld).id = x
    · rw [e, hf] at h; exact absurd rfl h
    · rw [if_neg e]; rfl
theorem ofF_new {l : List Hld} {k : Nat} (hk : k < l.length) (h : ofF (l.take k) (l.getD k noHld).id = none) : ofF (l.take (k + 1)) = updF (ofF (l.take k)) (l.getD k noHld).id (objV (l.getD k noHld)) := by
  funext x
  unfold ofF at h ⊢
  unfold updF
  rw [findL_snoc hk]
  by_cases e : (l.getD k noHld).id = x
  · rw [if_pos e, if_pos e.symm]
    have hn : findL (l.take k) x = none := by rw [← e]; exact Option.map_eq_none_iff.1 h
    rw [hn]; rfl
  · rw [if_neg e, if_neg (fun e' => e e'.symm), Option.or_none]
set_option maxHeartbeats 4000000 in
set_option maxRecDepth 100000 in
theorem objects_any {w : World} {v : Value} {l : List Hld} (h : HldsR w v l) (hl : l.length ≤ 1000000) (hs : ∀ x ∈ l, x.id.length ≤ 1000000) :
    Calls Tryz.prog 31 #[v] w fun e w' => e = .returned (.map (some w.heap.size)) ∧ MapS w' w.heap.size l.length (ofF l) ∧ Below w.heap.size w w' := by
  obtain ⟨A, c, rfl⟩ := h.shape
  have Hx := Lib.hid h; have Hs := Lib.hid hs; clear h hs
  go_enter Tryz.func31, Tryz.ntmps31
  have hmm := @run_makeMap Tryz.prog
  go_wp2_with fail
  clear hmm
  go_loopw [11] (fun i wr => Hid (Below w.heap.size w wr) ∧ ∃ k : Nat, k ≤ l.length ∧ i = .int .i64 k ∧ Hid (MapS wr w.heap.size k (ofF (l.take k)))) (fun i _ => l.length - (intOf i).toNat)
  case atStart => exact ⟨Lib.hid ((Below.refl _ _).alloc (Nat.le_refl _) _), 0, Nat.zero_le _, rfl, Lib.hid (MapS.made w)⟩
  case round =>
    obtain ⟨hB, k, hk, rfl, hM⟩ := hrel
    by_cases hlt : k < l.length
    · obtain ⟨g, o, c', e, _, hg⟩ := Hx.out.pos (by omega)
      cases e
      obtain ⟨p0, p1, p2⟩ := HldsR.cells (Hx.out.below hB.out (Nat.le_refl _)) k hlt
      have hlen := Hs.out _ (getD_mem l noHld k hlt)
      obtain ⟨x, hx⟩ : ∃ x, x = l.getD k noHld := ⟨_, rfl⟩
      rw [← hx] at p0 p1 p2 hlen
      obtain ⟨xi, xk, xd⟩ := x
      unfold SV at p0 p2
      simp only at p0 p1 p2 hlen
      obtain ⟨w1, hw1⟩ : ∃ w1, w1 = wr.alloc (.cells #[.string ⟨xi.toArray⟩, .int .i64 xk, .string ⟨xd.toArray⟩] 35) := ⟨_, rfl⟩
      have hb1 : Below wr.heap.size wr w1 := by rw [hw1]; exact below_new wr _
      have hk1 : w1.heap[wr.heap.size]? = some (.cells #[.string ⟨xi.toArray⟩, .int .i64 xk, .string ⟨xd.toArray⟩] 35 (0, 0)) := by rw [hw1]; exact heap_alloc_new wr _
      have hM1 := hM.out.below hb1 hM.out.lt
      have hBM : w.heap.size < wr.heap.size := hM.out.lt
      have hlook := hM1.look_ok Tryz.underlying63 (zeroObj w1) (x := xi) (by unfold maxLen; omega)
      have q0 : w1.cell? ⟨wr.heap.size, 0, none⟩ = some (.string ⟨xi.toArray⟩) := (cell_of_row w1 _ 0 _ _ _ hk1).trans rfl
      have HW1 := Lib.hid hw1; have HM1 := Lib.hid hM1; have HB1 := Lib.hid (hB.out.trans (hb1.mono hB.out.size)); have HK1 := Lib.hid hk1; have HB2 := Lib.hid hb1
      have HL := Lib.hid hlook
      have Hl := Lib.hid hlen; have HBM := Lib.hid hBM
      have hz1 : wr.heap.size < w1.heap.size := by rw [hw1]; simp
      have HZ := Lib.hid hz1
      clear hw1 hb1 hk1 hM1 hlook hlen hB hM hBM hz1 q0
      go_upto_region 5 with fail
      rw [← HW1.out]
      clear p0 p1 p2
      have q0 : w1.cell? ⟨wr.heap.size, 0, none⟩ = some (.string ⟨xi.toArray⟩) := (cell_of_row w1 _ 0 _ _ _ HK1.out).trans rfl
      cases hf : ofF (l.take k) xi with
      | some u =>
        have HS := Lib.hid (ofF_have hlt (by rw [← hx, hf]; simp))
        obtain ⟨z, hz, rfl⟩ := Option.map_eq_some_iff.1 (show (findL (l.take k) xi).map objV = some u from hf)
        have hl2 := HL.out
        rw [hf] at hl2
        simp only [Option.getD_some, Option.isSome_some, objV] at hl2
        clear hf hx hz
        go_wp2_with fail
        go_roundw
        case rel => exact ⟨Lib.hid (HB1.out.alloc HB1.out.size _), k + 1, hlt, by go_num, Lib.hid (by rw [HS.out]; obtain ⟨D, hD, r⟩ := HM1.out; exact ⟨D, (hD.alloc _).mono (Nat.le_succ _), r⟩)⟩
        case measure => simp [intOf]; omega
      | none =>
        have HS := Lib.hid (ofF_new hlt (by rw [← hx]; exact hf))
        rw [← hx] at HS
        have hl2 := HL.out
        rw [hf] at hl2
        simp only [Option.getD_none, Option.isSome_none] at hl2
        have HM2 := Lib.hid (HM1.out.below (below_new w1 (.cells #[.int .i64 0, .string ⟨#[]⟩] 26)) HM1.out.lt)
        obtain ⟨w2, hw2⟩ : ∃ w2, w2 = w1.alloc (.cells #[.int .i64 0, .string ⟨#[]⟩] 26) := ⟨_, rfl⟩
        have HW2 := Lib.hid hw2
        have hb2 : Below w1.heap.size w1 w2 := by rw [hw2]; exact below_new w1 _
        have HB3 := Lib.hid (HB1.out.trans (hb2.mono HB1.out.size))
        rw [← hw2] at HM2
        have r0 : w2.cell? ⟨wr.heap.size, 0, none⟩ = some (.string ⟨xi.toArray⟩) := (hb2.cell (p := ⟨wr.heap.size, 0, none⟩) HZ.out).trans q0
        have r1 : w2.cell? ⟨wr.heap.size, 1, none⟩ = some (.int .i64 xk) := (hb2.cell (p := ⟨wr.heap.size, 1, none⟩) HZ.out).trans ((cell_of_row w1 _ 1 _ _ _ HK1.out).trans rfl)
        have r2 : w2.cell? ⟨wr.heap.size, 2, none⟩ = some (.string ⟨xd.toArray⟩) := (hb2.cell (p := ⟨wr.heap.size, 2, none⟩) HZ.out).trans ((cell_of_row w1 _ 2 _ _ _ HK1.out).trans rfl)
        have R := Lib.hid (And.intro r0 (And.intro r1 r2))
        clear hf hx hw2 hb2 r0 r1 r2
        go_upto_region 6 with fail
        rw [← HW2.out]
        obtain ⟨r0, r1, r2⟩ := R.out
        clear hl2 q0
        go_wp2_with (at_mapUpdate; refine wpList_putS rfl _ _ _ 63 26 rfl Tryz.underlying63 w.heap.size k _ xi (.agg #[.int .i64 xk, .string ⟨xd.toArray⟩]) rfl rfl rfl HM2.out (by unfold maxLen; omega) (by have := Hl.out; unfold maxLen; omega) ?_)
        intro w3 hM3 hg3
        have HM3 := Lib.hid hM3
        have HG3 := Lib.hid (HB3.out.grown hg3 HB3.out.size (fun j e => by cases e; exact Nat.le_refl _))
        clear hM3 hg3 r0 r1 r2
        go_wp2_with fail
        go_roundw
        case rel => exact ⟨HG3, k + 1, hlt, by go_num, Lib.hid (by rw [HS.out]; exact HM3.out)⟩
        case measure => simp [intOf]; omega
    · obtain rfl : k = l.length := by omega
      rw [List.take_length] at hM
      go_wp2_with fail
      go_ret
      exact ⟨rfl, hM.out, hB.out⟩
def agreeB (l : List Hld) (ws : List (Bs × Int)) : Bool := ws.all fun p => kindB l p.1 == p.2
theorem ofF_kind (l : List Hld) (x : Bs) : ∃ d : Bs, (ofF l x).getD (.agg #[.int .i64 0, .string ⟨#[]⟩]) = .agg #[.int .i64 (kindB l x), .string ⟨d.toArray⟩] := by
  unfold ofF kindB
  cases findL l x with
  | none => exact ⟨[], rfl⟩
  | some u => exact ⟨u.data, rfl⟩
theorem field_obj (k : Int) (d : Bs) (W : World) : Sem.run Tryz.prog (Instr.field 26 (.agg #[.int .i64 k, .string ⟨d.toArray⟩]) 0) W = .ok (.int .i64 k) W := by
  simp [Instr.field, run_underlying Tryz.underlying26, go_sem, Result.andThen, asAgg, part]
theorem agree_snoc {l : List Hld} {ws : List (Bs × Int)} {k : Nat} (h : k < ws.length) : agreeB l (ws.take (k + 1)) = (agreeB l (ws.take k) && (kindB l (ws.getD k ([], 0)).1 == (ws.getD k ([], 0)).2)) := by
  unfold agreeB
  rw [take_getD ws ([], 0) k h, List.all_append]; simp
theorem agree_no {l : List Hld} {ws : List (Bs × Int)} {k : Nat} (h : k < ws.length) (hk : (kindB l (ws.getD k ([], 0)).1 == (ws.getD k ([], 0)).2) = false) : agreeB l ws = false := by
  cases hc : agreeB l ws
  · rfl
  · have := List.all_eq_true.1 (show ws.all (fun p => kindB l p.1 == p.2) = true from hc) _ (getD_mem ws ([], 0) k h)
    rw [hk] at this; cases this
set_option maxHeartbeats 4000000 in
set_option maxRecDepth 100000 in
theorem agree_any {w : World} {vw : Value} {ws : List (Bs × Int)} {l : List Hld} {m n : Nat} (h : WantsR w vw ws) (hl : ws.length ≤ 1000000) (hs : ∀ p ∈ ws, p.1.length ≤ 1000000) (hm : MapS w m n (ofF l)) :
    Calls Tryz.prog 33 #[.map (some m), vw] w (RetBelow (.bool (agreeB l ws)) w) := by
  obtain ⟨A, c, rfl⟩ := h.shape
  have Hx := Lib.hid h; have Hs := Lib.hid hs; have HM := Lib.hid hm; clear h hs hm
  go_enter Tryz.func33, Tryz.ntmps33
  go_wp2_with fail
  go_loopw [9] (fun i wr => Hid (Below w.heap.size w wr) ∧ ∃ k : Nat, k ≤ ws.length ∧ i = .int .i64 k ∧ Hid (agreeB l (ws.take k) = true)) (fun i _ => ws.length - (intOf i).toNat)
  case atStart => exact ⟨Lib.hid (Below.refl _ _), 0, Nat.zero_le _, rfl, Lib.hid rfl⟩
  case round =>
    obtain ⟨hB, k, hk, rfl, hA⟩ := hrel
    by_cases hlt : k < ws.length
    · obtain ⟨g, o, c', e, _, hg⟩ := Hx.out.pos (by omega)
      cases e
      obtain ⟨p0, p1⟩ := WantsR.cells (Hx.out.below hB.out (Nat.le_refl _)) k hlt
      have hlen := Hs.out _ (getD_mem ws ([], 0) k hlt)
      have hsn := agree_snoc (l := l) hlt
      have hno := agree_no (l := l) hlt
      obtain ⟨x, hx⟩ : ∃ x, x = ws.getD k ([], 0) := ⟨_, rfl⟩
      rw [← hx] at p0 p1 hlen hsn hno
      obtain ⟨xi, xk⟩ := x
      unfold SV at p0
      simp only at p0 p1 hlen hsn hno
      rw [hA.out] at hsn
      obtain ⟨w1, hw1⟩ : ∃ w1, w1 = wr.alloc (.cells #[.string ⟨xi.toArray⟩, .int .i64 xk] 101) := ⟨_, rfl⟩
      have hb1 : Below wr.heap.size wr w1 := by rw [hw1]; exact below_new wr _
      have hk1 : w1.heap[wr.heap.size]? = some (.cells #[.string ⟨xi.toArray⟩, .int .i64 xk] 101 (0, 0)) := by rw [hw1]; exact heap_alloc_new wr _
      have hB1 := hB.out.trans (hb1.mono hB.out.size)
      have hM1 := HM.out.below hB1 HM.out.lt
      have hlook := hM1.look Tryz.underlying63 (zeroObj w1) (x := xi) (by unfold maxLen; omega)
      obtain ⟨d, hd⟩ := ofF_kind l xi
      rw [hd] at hlook
      have HW1 := Lib.hid hw1; have HB1 := Lib.hid hB1; have HK1 := Lib.hid hk1
      have HL := Lib.hid hlook; have HSn := Lib.hid hsn; have HNo := Lib.hid hno
      clear hw1 hb1 hk1 hM1 hlook hlen hB hB1 hd hx hsn hno hA
      go_upto_region 4 with fail
      rw [← HW1.out]
      clear p0 p1
      have q0 : w1.cell? ⟨wr.heap.size, 0, none⟩ = some (.string ⟨xi.toArray⟩) := (cell_of_row w1 _ 0 _ _ _ HK1.out).trans rfl
      have q1 : w1.cell? ⟨wr.heap.size, 1, none⟩ = some (.int .i64 xk) := (cell_of_row w1 _ 1 _ _ _ HK1.out).trans rfl
      have hl2 := HL.out
      generalize kindB l xi = kk at hl2 HSn HNo
      have hfl := fun W => field_obj kk d W
      by_cases e : kk = xk
      · have HS : Hid (agreeB l (ws.take (k + 1)) = true) := Lib.hid (by rw [HSn.out, e]; simp)
        clear HSn HNo
        cases e
        go_wp2_with fail
        go_roundw
        case rel => exact ⟨HB1, k + 1, hlt, by go_num, HS⟩
        case measure => simp [intOf]; omega
      · have HS : Hid (agreeB l ws = false) := Lib.hid (HNo.out (by simpa using e))
        have e1 : (kk == xk) = false := by simpa using e
        have e2 : (kk != xk) = true := by simpa using e
        clear HSn HNo
        go_wp2_with fail
        go_ret
        exact ⟨ret_same HS.out, HB1.out⟩
    · obtain rfl : k = ws.length := by omega
      rw [List.take_length] at hA
      go_wp2_with fail
      go_ret
      exact ⟨ret_same hA.out, hB.out⟩
end Go.Proofs.YthbmaloajgkhmaaGreatDoor


namespace Go.Proofs.YthbmaloajgkhmaaGreatDoor
open Go Go.RowKit Go.Maps
theorem zeroInt (w : World) : (zeroValue 3).run Tryz.prog w = .ok (.int .i64 0) w := by kernel_rfl
theorem infoW : (Tryz.prog.info? 9).map (fun i => (i.zero, i.size, i.bytes)) = some (some (.string ⟨#[]⟩), 1, 16) := by kernel_rfl
/-- How often each was met, as a map holds it. -/
def timesF (c : Bs → Nat) (x : Bs) : Option Value := if c x = 0 then none else some (.int .i64 (c x))
theorem timesF_get (c : Bs → Nat) (x : Bs) : (timesF c x).getD (.int .i64 0) = .int .i64 (c x) := by
  unfold timesF
  by_cases h : c x = 0
  · rw [if_pos h, h]; rfl
  · rw [if_neg h]; rfl
def incC (c : Bs → Nat) (x : Bs) : Bs → Nat := fun y => if y = x then c x + 1 else c y
theorem timesF_inc (c : Bs → Nat) (x : Bs) : updF (timesF c) x (.int .i64 ((c x : Int) + 1)) = timesF (incC c x) := by
  funext y
  unfold updF timesF incC
  by_cases e : y = x
  · rw [if_pos e, if_pos e, if_neg (by omega)]; rfl
  · rw [if_neg e, if_neg e]
def addR (row : List Bs) (x : Bs) : List Bs := if x ∈ row then row else row ++ [x]
/-- The row, in a variable's box; how often each was met, in another. -/
structure MSt (B rb xb mb : Nat) (row : List Bs) (c : Bs → Nat) (n : Nat) (v : Value) (w : World) : Prop where
  rbx : Boxed w rb 44 v
  own : OwK 9 1 strC w B v row
  xbx : Boxed w xb 69 (.map (some mb))
  mp : MapS w mb n (timesF c)
  seen : ∀ x, c x = 0 ↔ x ∉ row
  le : ∀ x, c x ≤ n
  hB : B ≤ rb ∧ B ≤ xb ∧ B ≤ mb ∧ B ≤ w.heap.size
  ne : rb ≠ mb ∧ xb ≠ mb ∧ rb ≠ xb
/-- The blocks that it lies in. -/
def Mine (rb xb mb : Nat) (v : Value) (k : Nat) : Prop := k = rb ∨ k = xb ∨ k = mb ∨ v.ownBlock = some k
theorem MSt.low {B rb xb mb : Nat} {row : List Bs} {c : Bs → Nat} {n : Nat} {v : Value} {w : World} (h : MSt B rb xb mb row c n v w) {k : Nat} (hk : Mine rb xb mb v k) : B ≤ k ∧ k < w.heap.size := by
  rcases hk with rfl | rfl | rfl | hk
  · exact ⟨h.hB.1, h.rbx.lt⟩
  · exact ⟨h.hB.2.1, h.xbx.lt⟩
  · exact ⟨h.hB.2.2.1, h.mp.lt⟩
  · obtain ⟨h1, h2, _⟩ := own_block h.own hk; exact ⟨h1, h2⟩
theorem MSt.but {B rb xb mb : Nat} {row : List Bs} {c : Bs → Nat} {n : Nat} {v : Value} {w w' : World} {S : Nat → Prop} (h : MSt B rb xb mb row c n v w) (hb : But S w w') (hn : ∀ k, Mine rb xb mb v k → ¬ S k) : MSt B rb xb mb row c n v w' :=
  ⟨boxed_but h.rbx hb (hn _ (.inl rfl)), h.own.but hb (fun _ hg => hn _ (.inr (.inr (.inr hg)))), boxed_but h.xbx hb (hn _ (.inr (.inl rfl))), h.mp.but hb (hn _ (.inr (.inr (.inl rfl)))), h.seen, h.le, ⟨h.hB.1, h.hB.2.1, h.hB.2.2.1, Nat.le_trans h.hB.2.2.2 hb.size⟩, h.ne⟩
theorem row_ne_map {w : World} {B n k mb m : Nat} {t : TypeId} {v : Value} {xs : List Value} {f : Bs → Option Value} (h : w.ownsRow B t k v n xs) (hm : MapS w mb m f) : v.ownBlock ≠ some mb := fun e => by
  obtain ⟨_, _, cur, h1⟩ := own_block h e
  obtain ⟨D, ⟨es, cl, h2, _⟩, _⟩ := hm
  rw [h1] at h2; cases h2
theorem row_ne_box {w : World} {B n k b : Nat} {t t' : TypeId} {v u : Value} {xs : List Value} (h : w.ownsRow B t k v n xs) (hb : Boxed w b t' u) (hne : t' ≠ t) : v.ownBlock ≠ some b := fun e => by
  obtain ⟨_, _, cur, h1⟩ := own_block h e
  rw [show w.heap[b]? = _ from hb] at h1
  simp at h1
  exact hne h1.2
def MeetPost (B rb xb mb : Nat) (row : List Bs) (c : Bs → Nat) (n : Nat) (v : Value) (x : Bs) (w : World) (e : Ending) (w' : World) : Prop :=
  e = .returned (.tuple #[]) ∧ ∃ v', MSt B rb xb mb (addR row x) (incC c x) (n + 1) v' w' ∧ But (Mine rb xb mb v) w w' ∧ (∀ g, v'.ownBlock = some g → v.ownBlock = some g ∨ w.heap.size ≤ g)
set_option maxHeartbeats 4000000 in
set_option maxRecDepth 100000 in
theorem meet_any {B rb xb mb : Nat} {row : List Bs} {c : Bs → Nat} {n : Nat} {v : Value} {w : World} (h : MSt B rb xb mb row c n v w) (x : Bs) (hx : x.length ≤ 1000000) (hr : row.length ≤ 1000000000) (hn : n ≤ 1000000000000) :
    Calls Tryz.prog 50 #[.string ⟨x.toArray⟩, .pointer (some ⟨xb, 0, none⟩), .pointer (some ⟨rb, 0, none⟩)] w (MeetPost B rb xb mb row c n v x w) := by
  have c0 := h.xbx.cell
  have hlook := h.mp.look Tryz.underlying69 (zeroInt w) (x := x) (by unfold maxLen; omega)
  rw [timesF_get] at hlook
  have hle := h.le x
  obtain ⟨k, hk⟩ : ∃ k, k = c x := ⟨_, rfl⟩
  rw [← hk] at hlook hle
  have H := Lib.hid h; have HK := Lib.hid hk
  clear h hk
  go_enter Tryz.func50, Tryz.ntmps50
  go_wp2_with (at_mapUpdate; refine wpList_putS rfl _ _ _ 69 3 rfl Tryz.underlying69 mb n _ x (.int .i64 ((k : Int) + 1)) rfl rfl rfl H.out.mp (by unfold maxLen; omega) (by unfold maxLen; omega) ?_)
  intro w1 hM1 hg1
  rw [HK.out, timesF_inc] at hM1
  have hb1 := But.of_grown hg1
  have r1 := boxed_but H.out.rbx hb1 (fun e => H.out.ne.1 (Option.some.inj e).symm)
  have o1 := H.out.own.but hb1 (fun _ hg e => row_ne_map H.out.own H.out.mp (by rw [hg, e]))
  have x1 := boxed_but H.out.xbx hb1 (fun e => H.out.ne.2.1 (Option.some.inj e).symm)
  have hlook1 := hM1.look Tryz.underlying69 (zeroInt w1) (x := x) (by unfold maxLen; omega)
  rw [timesF_get] at hlook1
  have hi : incC c x x = k + 1 := by unfold incC; rw [if_pos rfl, HK.out]
  rw [hi] at hlook1
  have c1 := x1.cell
  have M1 := Lib.hid hM1; have HB1 := Lib.hid hb1; have R1 := Lib.hid r1; have O1 := Lib.hid o1; have X1 := Lib.hid x1
  have hle2 : ∀ y, incC c x y ≤ n + 1 := fun y => by
    unfold incC
    by_cases e : y = x
    · rw [if_pos e, ← HK.out]; omega
    · rw [if_neg e]; have := H.out.le y; omega
  have HLe := Lib.hid hle2
  have hsz1 := hb1.size
  have HZ := Lib.hid hsz1
  have hmem := H.out.seen x
  rw [← HK.out] at hmem
  have HMem := Lib.hid hmem
  clear hM1 hg1 hb1 r1 o1 x1 hi hle2 hsz1 hmem c0 hlook
  by_cases h0 : k = 0
  · -- met for the first time
    have hno : x ∉ row := HMem.out.1 h0
    have HA : Hid (addR row x = row ++ [x]) := Lib.hid (if_neg hno)
    have hseen2 : ∀ y, incC c x y = 0 ↔ y ∉ row ++ [x] := fun y => by
      unfold incC
      by_cases e : y = x
      · rw [if_pos e, e]; simp
      · rw [if_neg e, H.out.seen y]; simp [e]
    have HSe := Lib.hid hseen2
    subst h0
    have d0 := R1.out.cell
    have f0 := R1.out.frozen
    obtain ⟨A, cp, rfl⟩ := own_slice O1.out
    obtain ⟨i0, hi0, hz0, hz1, hz2⟩ := info_parts infoW
    have hbz : B ≤ w1.heap.size := Nat.le_trans H.out.hB.2.2.2 HZ.out
    clear hno hseen2
    go_wp2_with (at_builtin; refine wpList_append_lies _ rfl _ _ 44 rfl B 9 i0 _ 1 16 Tryz.underlying44 hi0 hz0 hz1 hz2 rfl (by decide) _ row.length _ rfl (World.ownsRow.alloc O1.out _) ⟨w1.heap.size, 0, none⟩ 1 1 [.string ⟨x.toArray⟩] rfl rfl (cell_one_new _ _ _) (by simp [Value.oneCell']) (by omega) (by unfold maxLen; omega) (by omega) (by simp; omega) _ rfl ?_)
    intro g cap w2 hown hgrow hat hlt
    have hown' : OwK 9 1 strC w2 B (.slice (some ⟨g, 0, none⟩) (row.length + 1) cap) (row ++ [x]) := by
      unfold OwK; rw [List.length_append, List.flatMap_append]; exact hown
    have hb2 := (But.of_new (S := fun k => (Value.slice A row.length cp).ownBlock = some k) (below_new w1 (.cells #[.string ⟨x.toArray⟩] 9))).trans (But.of_grown hgrow)
    have r2 := boxed_but R1.out hb2 (fun e => row_ne_box O1.out R1.out (by decide) e)
    have x2 := boxed_but X1.out hb2 (fun e => row_ne_box O1.out X1.out (by decide) e)
    have m2 := M1.out.but hb2 (fun e => row_ne_map O1.out M1.out e)
    have hgr : g ≠ rb := fun e => row_ne_box hown' r2 (by decide) (by rw [e]; rfl)
    have d2 := r2.cell
    have f2 := r2.frozen
    have HOw := Lib.hid hown'; have HB2 := Lib.hid hb2; have R2 := Lib.hid r2; have X2 := Lib.hid x2; have M2 := Lib.hid m2; have HGr := Lib.hid hgr; have HAt := Lib.hid hat; have HLt := Lib.hid hlt
    clear hown hown' hgrow hb2 r2 x2 m2 hgr hat hlt d0 f0 c1 hlook1
    go_wp2_with fail
    go_end0
    have hb3 : But (fun k => k = rb) w2 (w2.setCell ⟨rb, 0, none⟩ (.slice (some ⟨g, 0, none⟩) (row.length + 1) cap)) := (But.refl (fun k => k = rb) w2).setCell (p := ⟨rb, 0, none⟩) rfl _
    refine ⟨rfl, .slice (some ⟨g, 0, none⟩) (row.length + 1) cap, ?_, ?_, ?_⟩
    · rw [HA.out]
      exact ⟨R2.out.set _, HOw.out.but hb3 (fun _ hg e => HGr.out (by cases hg; exact e)), boxed_but X2.out hb3 (fun e => H.out.ne.2.2 e.symm), M2.out.but hb3 (fun e => H.out.ne.1 e.symm), HSe.out, HLe.out, ⟨H.out.hB.1, H.out.hB.2.1, H.out.hB.2.2.1, Nat.le_trans H.out.hB.2.2.2 (Nat.le_trans HZ.out (Nat.le_trans HB2.out.size hb3.size))⟩, H.out.ne⟩
    · exact ((HB1.out.mono (fun k _ e => .inr (.inr (.inl (Option.some.inj e).symm)))).trans (HB2.out.mono (fun k _ e => .inr (.inr (.inr e))))).trans (hb3.mono (fun k _ e => .inl e))
    · intro g' hg'
      cases hg'
      rcases HAt.out with e | e
      · exact .inl e
      · refine .inr ?_
        have h1 := HZ.out
        show w.heap.size ≤ g
        omega
  · -- met before
    have hin : x ∈ row := Classical.byContradiction fun hn => h0 (HMem.out.2 hn)
    have HA : Hid (addR row x = row) := Lib.hid (if_pos hin)
    have hseen2 : ∀ y, incC c x y = 0 ↔ y ∉ row := fun y => by
      unfold incC
      by_cases e : y = x
      · rw [if_pos e, e]; simp [hin]
      · rw [if_neg e]; exact H.out.seen y
    have HSe := Lib.hid hseen2
    have h1 : ¬ (k : Int) + 1 = 1 := by omega
    have h2 : ((k : Int) + 1 == 1) = false := by simpa using h1
    clear hin hseen2 h0
    go_wp2_with fail
    go_end0
    refine ⟨rfl, v, ?_, HB1.out.mono (fun k _ e => .inr (.inr (.inl (Option.some.inj e).symm))), fun g hg => .inl hg⟩
    rw [HA.out]
    exact ⟨R1.out, O1.out, X1.out, M1.out, HSe.out, HLe.out, ⟨H.out.hB.1, H.out.hB.2.1, H.out.hB.2.2.1, Nat.le_trans H.out.hB.2.2.2 HZ.out⟩, H.out.ne⟩
end Go.Proofs.YthbmaloajgkhmaaGreatDoor


namespace Go.Proofs.YthbmaloajgkhmaaGreatDoor
open Go Go.RowKit Go.Maps
theorem heldK : ElK 23 35 3 40 heldC := ⟨Tryz.underlying23, ⟨.agg #[.string ⟨#[]⟩, .int .i64 0, .string ⟨#[]⟩], by kernel_rfl, by kernel_rfl⟩, by decide, heldC_len, fun x u hu => by
  simp only [heldC, List.mem_cons, List.not_mem_nil, or_false] at hu; rcases hu with rfl | rfl | rfl <;> rfl⟩
/-- A list that lies in new blocks alone. -/
def NewH (B : Nat) (w : World) (v : Value) (l : List Hld) : Prop := OwK 35 3 heldC w B v l
theorem NewH.rd {B : Nat} {w : World} {v : Value} {l : List Hld} (h : NewH B w v l) : HldsR w v l := OwK.rd heldC_len h
def PickPost (l : List Hld) (w : World) (e : Ending) (w' : World) : Prop := ∃ v, e = .returned v ∧ NewH w.heap.size w' v l ∧ Below w.heap.size w w'
theorem pickL_snoc {l : List Hld} {ids : List Bs} {k : Nat} (h : k < l.length) : pickL (l.take (k + 1)) ids = if (l.getD k noHld).id ∈ ids then pickL (l.take k) ids ++ [l.getD k noHld] else pickL (l.take k) ids := by
  unfold pickL
  rw [take_getD l noHld k h, List.filter_append]
  by_cases e : (l.getD k noHld).id ∈ ids
  · rw [if_pos e, List.filter_cons_of_pos (by simpa using e)]; rfl
  · rw [if_neg e, List.filter_cons_of_neg (by simpa using e)]; simp
theorem pickL_len (l : List Hld) (ids : List Bs) : (pickL l ids).length ≤ l.length := List.length_filter_le _ _
set_option maxHeartbeats 4000000 in
set_option maxRecDepth 100000 in
theorem Pick_any {w : World} {v vi : Value} {l : List Hld} {ids : List Bs} (h : HldsR w v l) (hi : StrsR w vi ids) (hl : l.length ≤ 100000) (hil : ids.length ≤ 1000000) (hs : ∀ x ∈ l, x.id.length ≤ 1000000) (his : ∀ x ∈ ids, x.length ≤ 1000000) :
    Calls Tryz.prog 17 #[v, vi] w (PickPost (pickL l ids) w) := by
  obtain ⟨A, c, rfl⟩ := h.shape
  obtain ⟨Ai, ci, rfl⟩ := hi.shape
  have Hx := Lib.hid h; have Hs := Lib.hid hs; have Hi := Lib.hid hi; have His := Lib.hid his; clear h hs hi his
  go_enter Tryz.func17, Tryz.ntmps17
  have hmm := @run_makeMap Tryz.prog
  go_wp2_with fail
  clear hmm
  go_loopw [14] (fun i wr => Hid (Below w.heap.size w wr) ∧ ∃ (k : Nat) (c : Bs → Nat), k ≤ ids.length ∧ i = .int .i64 k ∧ Hid (MapS wr w.heap.size k (timesF c)) ∧ Hid (∀ x, c x = 0 ↔ x ∉ ids.take k) ∧ Hid (∀ x, c x ≤ k)) (fun i _ => ids.length - (intOf i).toNat)
  case atStart => exact ⟨Lib.hid ((Below.refl _ _).alloc (Nat.le_refl _) _), 0, fun _ => 0, Nat.zero_le _, rfl, Lib.hid (MapS.made w), Lib.hid (fun x => by simp), Lib.hid (fun x => Nat.le_refl _)⟩
  case round =>
    obtain ⟨hB, k, c, hk, rfl, hM, hC, hL⟩ := hrel
    by_cases hlt : k < ids.length
    · obtain ⟨g, o, c', e, _, hg⟩ := Hi.out.pos (by omega)
      cases e
      have p0 := StrsR.cell (Hi.out.below hB.out (Nat.le_refl _)) k hlt
      have hlen := His.out _ (getD_mem ids [] k hlt)
      have htk := take_getD ids [] k hlt
      obtain ⟨x, hx⟩ : ∃ x, x = ids.getD k ([] : Bs) := ⟨_, rfl⟩
      rw [← hx] at p0 hlen htk
      unfold SV at p0
      have hlook := hM.out.look Tryz.underlying69 (zeroInt wr) (x := x) (by unfold maxLen; omega)
      rw [timesF_get] at hlook
      have hle := hL.out x
      obtain ⟨q, hq⟩ : ∃ q, q = c x := ⟨_, rfl⟩
      rw [← hq] at hlook hle
      have hC2 : ∀ y, incC c x y = 0 ↔ y ∉ ids.take (k + 1) := fun y => by
        rw [htk]
        unfold incC
        by_cases e : y = x
        · rw [if_pos e, e]; simp
        · rw [if_neg e, hC.out y]; simp [e]
      have hL2 : ∀ y, incC c x y ≤ k + 1 := fun y => by
        unfold incC
        by_cases e : y = x
        · rw [if_pos e, ← hq]; omega
        · rw [if_neg e]; have := hL.out y; omega
      have HQ := Lib.hid hq; have HC2 := Lib.hid hC2; have HL2 := Lib.hid hL2; have HLen := Lib.hid hlen
      clear hq hC2 hL2 htk hx hC hL
      go_wp2_with (at_mapUpdate; refine wpList_putS rfl _ _ _ 69 3 rfl Tryz.underlying69 w.heap.size k _ x (.int .i64 ((q : Int) + 1)) rfl rfl rfl hM.out (by unfold maxLen; omega) (by unfold maxLen; omega) ?_)
      intro w1 hM1 hg1
      rw [HQ.out, timesF_inc] at hM1
      have HM1 := Lib.hid hM1
      have HB1 := Lib.hid (hB.out.grown hg1 hB.out.size (fun j e => by cases e; exact Nat.le_refl _))
      clear hM1 hg1 p0 hlook
      go_wp2_with fail
      go_roundw
      case rel => exact ⟨HB1, k + 1, _, hlt, by go_num, HM1, HC2, HL2⟩
      case measure => simp [intOf]; omega
    · obtain rfl : k = ids.length := by omega
      rw [List.take_length] at hC
      go_upto_region 9 with fail
      clear hlt hk hL
      obtain ⟨n, hn⟩ : ∃ n, n = ids.length := ⟨_, rfl⟩
      rw [← hn] at hM
      clear hn
      obtain ⟨w0, hw0⟩ : ∃ w0, w0 = wr := ⟨_, rfl⟩
      rw [← hw0] at hM hB ⊢
      clear hw0
      have HN0 : Hid (NewH (w.heap.size + 1) w0 (.slice none 0 0) (pickL (l.take 0) ids)) := Lib.hid (OwK.nil _ _ _ _ _)
      go_loopw [25, 8] (fun i z wr => Hid (Below w.heap.size w wr) ∧ Hid (MapS wr w.heap.size n (timesF c)) ∧ ∃ k : Nat, k ≤ l.length ∧ i = .int .i64 k ∧ Hid (NewH (w.heap.size + 1) wr z (pickL (l.take k) ids))) (fun i _ _ => l.length - (intOf i).toNat)
      case atStart => exact ⟨hB, hM, 0, Nat.zero_le _, rfl, HN0⟩
      case round =>
        obtain ⟨hB, hM, k, hk, rfl, hN⟩ := hrel
        by_cases hlt : k < l.length
        · obtain ⟨g, o, c', e, _, hg⟩ := Hx.out.pos (by omega)
          cases e
          obtain ⟨p0, p1, p2⟩ := HldsR.cells (Hx.out.below hB.out (Nat.le_refl _)) k hlt
          have hlen := Hs.out _ (getD_mem l noHld k hlt)
          have hsn := pickL_snoc (ids := ids) hlt
          have hpl := pickL_len (l.take k) ids
          have hpl2 := List.length_take_le k l
          obtain ⟨x, hx⟩ : ∃ x, x = l.getD k noHld := ⟨_, rfl⟩
          rw [← hx] at p0 p1 p2 hlen hsn
          obtain ⟨xi, xk, xd⟩ := x
          unfold SV at p0 p2
          simp only at p0 p1 p2 hlen hsn
          have hBM : w.heap.size < wr.heap.size := hM.out.lt
          have hPL : (pickL (l.take k) ids).length + 1 ≤ 1000000 := by omega
          obtain ⟨w1, hw1⟩ : ∃ w1, w1 = wr.alloc (.cells #[.string ⟨xi.toArray⟩, .int .i64 xk, .string ⟨xd.toArray⟩] 35) := ⟨_, rfl⟩
          have hb1 : Below wr.heap.size wr w1 := by rw [hw1]; exact below_new wr _
          have hk1 : w1.heap[wr.heap.size]? = some (.cells #[.string ⟨xi.toArray⟩, .int .i64 xk, .string ⟨xd.toArray⟩] 35 (0, 0)) := by rw [hw1]; exact heap_alloc_new wr _
          have hM1 := hM.out.below hb1 hM.out.lt
          have hlook := hM1.look Tryz.underlying69 (zeroInt w1) (x := xi) (by unfold maxLen; omega)
          rw [timesF_get] at hlook
          have hN1 : NewH (w.heap.size + 1) w1 _ _ := OwK.below hN.out hb1 (Nat.le_refl _)
          have hCx := hC.out xi
          obtain ⟨q, hq⟩ : ∃ q, q = c xi := ⟨_, rfl⟩
          rw [← hq] at hlook hCx
          have hz1 : wr.heap.size < w1.heap.size := by rw [hw1]; simp
          have HW1 := Lib.hid hw1; have HM1 := Lib.hid hM1; have HB1 := Lib.hid (hB.out.trans (hb1.mono hB.out.size)); have HK1 := Lib.hid hk1; have HN1 := Lib.hid hN1
          have HL := Lib.hid hlook; have HSn := Lib.hid hsn; have HBM := Lib.hid hBM; have HPL := Lib.hid hPL; have HZ := Lib.hid hz1
          clear hw1 hb1 hk1 hM1 hlook hlen hB hM hBM hsn hx hpl hpl2 hPL hz1 hq hN hN1
          go_upto_region 11 with fail
          rw [← HW1.out]
          clear p0 p1 p2
          have q0 : w1.cell? ⟨wr.heap.size, 0, none⟩ = some (.string ⟨xi.toArray⟩) := (cell_of_row w1 _ 0 _ _ _ HK1.out).trans rfl
          have q1 : w1.cell? ⟨wr.heap.size, 1, none⟩ = some (.int .i64 xk) := (cell_of_row w1 _ 1 _ _ _ HK1.out).trans rfl
          have q2 : w1.cell? ⟨wr.heap.size, 2, none⟩ = some (.string ⟨xd.toArray⟩) := (cell_of_row w1 _ 2 _ _ _ HK1.out).trans rfl
          have hl2 := HL.out
          by_cases hm : xi ∈ ids
          · have h0 : ¬ q = 0 := fun e => hCx.1 e hm
            have h1 : (0 : Int) < (q : Int) := by omega
            have HS := Lib.hid (HSn.out.trans (if_pos hm))
            clear hCx HSn hm h0
            go_wp2_with (at_builtin; refine wpList_one heldK rfl _ _ rfl (w.heap.size + 1) u8 (pickL (l.take k) ids) ⟨xi, xk, xd⟩ _ rfl rfl rfl HN1.out ?c1 (by decide) ?c2 ?_)
            case c1 => exact HPL.out
            case c2 => have := HBM.out; have := HZ.out; omega
            intro z' w2 hN2 hb2
            have HN2 := Lib.hid hN2
            have HB2 := Lib.hid (HB1.out.trans (hb2.mono (Nat.le_succ _)))
            have HM2 := Lib.hid (HM1.out.below hb2 (Nat.lt_succ_self _))
            clear hN2 hb2 q0 q1 q2 hl2
            go_wp2_with fail
            go_roundw
            case rel => exact ⟨HB2, HM2, k + 1, hlt, by go_num, Lib.hid (by rw [HS.out]; exact HN2.out)⟩
            case measure => simp [intOf]; omega
          · have h0 : q = 0 := hCx.2 hm
            have HS := Lib.hid (HSn.out.trans (if_neg hm))
            subst h0
            clear hCx HSn hm
            go_wp2_with fail
            go_roundw
            case rel => exact ⟨HB1, HM1, k + 1, hlt, by go_num, Lib.hid (by rw [HS.out]; exact HN1.out)⟩
            case measure => simp [intOf]; omega
        · obtain rfl : k = l.length := by omega
          rw [List.take_length] at hN
          go_wp2_with fail
          go_ret
          exact ⟨_, rfl, OwK.mono hN.out (Nat.le_succ _), hB.out⟩
end Go.Proofs.YthbmaloajgkhmaaGreatDoor
