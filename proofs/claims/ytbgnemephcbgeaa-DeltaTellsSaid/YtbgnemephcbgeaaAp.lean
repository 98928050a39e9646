/-
  Appends, and what they turn.
-/
import Derived.Test.YtbgnemephcbgeaaPut
import Derived.Test.YtbgnemephcbgeaaGo
import Derived.Lib.AppendStr
import Derived.Maps.AppendAt
import Derived.RangeFuncNested
import Derived.RangeFuncLeaves
import Derived.Shelf.RegionOpen
import Derived.OwnWalkIn
import Derived.TacticsInMore
import Derived.LoopNIn
import Derived.LoopIn
namespace Go.Proofs.Ytbgnemephcbgeaa
open Go Go.RowKit

/-! ### A world that is as it was but for some blocks -/
/-- w' is w but for the blocks that S tells, and new ones. -/
structure But (S : Nat → Prop) (w w' : World) : Prop where
  os : w'.os = w.os
  tape : w'.tape = w.tape
  output : w'.output = w.output
  size : w.heap.size ≤ w'.heap.size
  block : ∀ k, k < w.heap.size → ¬ S k → w'.heap[k]? = w.heap[k]?

theorem But.refl (S : Nat → Prop) (w : World) : But S w w := ⟨rfl, rfl, rfl, Nat.le_refl _, fun _ _ _ => rfl⟩
theorem But.trans {S : Nat → Prop} {a b c : World} (h : But S a b) (k : But S b c) : But S a c :=
  ⟨k.os.trans h.os, k.tape.trans h.tape, k.output.trans h.output, Nat.le_trans h.size k.size, fun i hi hs => (k.block i (Nat.lt_of_lt_of_le hi h.size) hs).trans (h.block i hi hs)⟩
theorem But.mono {S T : Nat → Prop} {w w' : World} (h : But S w w') (hs : ∀ k, k < w.heap.size → S k → T k) : But T w w' :=
  ⟨h.os, h.tape, h.output, h.size, fun k hk hn => h.block k hk fun hS => hn (hs k hk hS)⟩
theorem But.of_below {B : Nat} {w w' : World} (h : Below B w w') : But (fun k => B ≤ k) w w' := ⟨h.os, h.tape, h.output, h.size, fun k _ hn => h.block k (Nat.lt_of_not_le hn)⟩
/-- Behind a call that turned nothing old. -/
theorem But.of_new {S : Nat → Prop} {w w' : World} (h : Below w.heap.size w w') : But S w w' := ⟨h.os, h.tape, h.output, h.size, fun k hk _ => h.block k hk⟩
theorem But.below {S : Nat → Prop} {w w' : World} {B : Nat} (h : But S w w') (hS : ∀ k, k < w.heap.size → S k → B ≤ k) (hB : B ≤ w.heap.size) : Below B w w' :=
  ⟨h.os, h.tape, h.output, h.size, fun k hk => h.block k (Nat.lt_of_lt_of_le hk hB) fun hs => by have := hS k (Nat.lt_of_lt_of_le hk hB) hs; omega⟩
theorem But.of_grown {w w' : World} {row : Option Nat} (h : w.grownBy w' row) : But (fun k => row = some k) w w' := ⟨h.os, h.tape, h.output, h.size, fun k hk hn => h.block k hk (fun e => hn e.symm)⟩
theorem But.cell {S : Nat → Prop} {w w' : World} (h : But S w w') {p : Addr} (hlt : p.block < w.heap.size) (hn : ¬ S p.block) : w'.cell? p = w.cell? p := World.cell?_of_block (w := w) (h.block p.block hlt hn)
theorem But.alloc {S : Nat → Prop} {a w : World} (h : But S a w) (o : Obj) : But S a (w.alloc o) := h.trans (But.of_new ((Below.refl _ w).alloc (Nat.le_refl _) o))
theorem But.drewN {S : Nat → Prop} {a w : World} (h : But S a w) (n : Nat) : But S a (w.drewN n) := h.trans ⟨rfl, rfl, rfl, Nat.le_refl _, fun _ _ _ => rfl⟩
theorem But.drew {S : Nat → Prop} {a w : World} (h : But S a w) : But S a w.drew := h.trans ⟨rfl, rfl, rfl, Nat.le_refl _, fun _ _ _ => rfl⟩
theorem But.setCell {S : Nat → Prop} {a w : World} (h : But S a w) {p : Addr} (hp : S p.block) (u : Value) : But S a (w.setCell p u) :=
  h.trans ⟨rfl, rfl, rfl, by simp [World.setCell], fun k _ hn => Below.heap_setCell _ _ _ _ (fun e => hn (by rw [e]; exact hp))⟩
theorem but_putObj {S : Nat → Prop} (w : World) (r : Nat) (o : Obj) (hr : S r) : But S w (w.putObj r o) :=
  ⟨rfl, rfl, rfl, by simp, fun k _ hn => World.putObj_heap_other (fun e => hn (by rw [e]; exact hr))⟩

theorem RdK.but {α : Type} {k : Nat} {f : α → List Value} {w w' : World} {v : Value} {l : List α} {S : Nat → Prop} (h : RdK k f w v l) (hb : But S w w') (hn : ∀ g, v.ownBlock = some g → ¬ S g) : RdK k f w' v l := by
  rcases h with h | ⟨g, o, c, rfl, hc, hg, hcell⟩
  · exact .inl h
  · exact .inr ⟨g, o, c, rfl, hc, Nat.lt_of_lt_of_le hg hb.size, fun j hj x hx i hi => by rw [hb.cell (p := ⟨g, o + j * k + i, none⟩) hg (hn g rfl)]; exact hcell j hj x hx i hi⟩
theorem RdK.but2 {α : Type} {k : Nat} {f : α → List Value} {w w' : World} {v : Value} {l : List α} {S : Nat → Prop} (h : RdK k f w v l) (hb : But S w w') (hn : 0 < l.length → ∀ g, v.ownBlock = some g → ¬ S g) : RdK k f w' v l := by
  rcases Nat.eq_zero_or_pos l.length with h0 | h0
  · obtain ⟨A, c, e⟩ := h.shape
    exact .inl ⟨⟨A, c, by rw [e, h0]⟩, List.length_eq_zero_iff.1 h0⟩
  · exact h.but hb (hn h0)
theorem row_but {w w' : World} {base n k : Nat} {t : TypeId} {v : Value} {xs : List Value} {S : Nat → Prop} (h : w.ownsRow base t k v n xs) (hb : But S w w') (hn : ∀ g, v.ownBlock = some g → ¬ S g) : w'.ownsRow base t k v n xs := by
  obtain ⟨h1, h2⟩ := h
  refine ⟨h1, ?_⟩
  rcases h2 with h2 | ⟨g, cap, cur, rfl, hbg, hg, r⟩
  · exact .inl h2
  · exact .inr ⟨g, cap, cur, rfl, hbg, (hb.block g (lt_heap hg) (hn g rfl)).trans hg, r⟩
theorem OwK.but {α : Type} {t : TypeId} {k : Nat} {f : α → List Value} {w w' : World} {base : Nat} {v : Value} {l : List α} {S : Nat → Prop} (h : OwK t k f w base v l) (hb : But S w w') (hn : ∀ g, v.ownBlock = some g → ¬ S g) : OwK t k f w' base v l := row_but h hb hn
theorem boxed_but {w w' : World} {b : Nat} {t : TypeId} {v : Value} {S : Nat → Prop} (h : Boxed w b t v) (hb : But S w w') (hn : ¬ S b) : Boxed w' b t v := (hb.block b h.lt hn).trans h

theorem But.own {S T : Nat → Prop} {a b c : World} (h : But S a b) (k : But T b c) (hT : ∀ i, T i → S i ∨ a.heap.size ≤ i) : But S a c :=
  ⟨k.os.trans h.os, k.tape.trans h.tape, k.output.trans h.output, Nat.le_trans h.size k.size, fun i hi hs => (k.block i (Nat.lt_of_lt_of_le hi h.size) (fun ht => (hT i ht).elim hs (fun h2 => by omega))).trans (h.block i hi hs)⟩
/-- v has become v': its own block may have turned, and nothing else that was there. -/
def AppF (w : World) (v : Value) (w' : World) (v' : Value) : Prop := But (fun k => v.ownBlock = some k) w w' ∧ ∀ k, v'.ownBlock = some k → v.ownBlock = some k ∨ w.heap.size ≤ k
theorem AppF.refl (w : World) (v : Value) : AppF w v w v := ⟨But.refl _ _, fun _ h => .inl h⟩
theorem AppF.new {w w' : World} (v : Value) (h : Below w.heap.size w w') : AppF w v w' v := ⟨But.of_new h, fun _ h => .inl h⟩
theorem AppF.trans {a b c : World} {u v x : Value} (h : AppF a u b v) (k : AppF b v c x) : AppF a u c x :=
  ⟨h.1.own k.1 h.2, fun i hi => (k.2 i hi).elim (h.2 i) (fun h2 => .inr (Nat.le_trans h.1.size h2))⟩
theorem AppF.size {a b : World} {u v : Value} (h : AppF a u b v) : a.heap.size ≤ b.heap.size := h.1.size
/-- One append. -/
theorem run_app' {w : World} {base : Nat} {v sv : Value} {l m : List UInt8} (h : Ow w base v l) (hs : Rb w sv m) (hl : l.length + m.length ≤ 140737488355328) (hb : base ≤ w.heap.size) (ty : TypeId) :
    ∃ v' w', (Builtin.append_ #[29, 29] ty #[v, sv]).run Try.prog w = .ok v' w' ∧ Ow w' base v' (l ++ m) ∧ AppF w v w' v' := by
  have key : ∀ (a : Addr) (c : Nat), sv = .slice (some a) m.length c → (∀ j u, (m.map bv)[j]? = some u → w.cell? (a.add j) = some u) →
      ∃ v' w', (Builtin.append_ #[29, 29] ty #[v, sv]).run Try.prog w = .ok v' w' ∧ Ow w' base v' (l ++ m) ∧ AppF w v w' v' := by
    rintro a c rfl hcell
    obtain ⟨i, hi⟩ : ∃ i, Try.prog.info? 5 = some i := Option.isSome_iff_exists.1 (by kernel_rfl)
    have hi0 : (Try.prog.info? 5).map (fun i => (i.zero, i.size, i.bytes)) = some (some (.int .u8 0), 1, 1) := by kernel_rfl
    rw [hi] at hi0
    simp only [Option.map_some, Option.some.injEq, Prod.mk.injEq] at hi0
    obtain ⟨v', w', h1, h2, h3, _, h5⟩ := run_append_own_at (P := Try.prog) w base 29 ty 5 i (.int .u8 0) 1 1 Try.underlying29 hi hi0.1 hi0.2.1 hi0.2.2 rfl (by omega) v l.length (l.map bv) h a m.length c (m.map bv) (by simp) hcell (bv_one m) (by unfold maxLen; omega) (by omega) hb
    refine ⟨v', w', h1, by unfold Ow; rw [List.length_append, List.map_append]; exact h2, But.of_grown h3, fun k hk => ?_⟩
    rcases h5 with e | e
    · exact .inl (e.symm.trans hk)
    · rw [hk] at e; cases e; exact .inr (Nat.le_refl _)
  rcases hs with ⟨⟨A, rfl⟩, rfl⟩ | ⟨g, o, c, rfl, hc, hg, hcell⟩
  · cases A with
    | some a => exact key a 0 rfl fun j u hj => by simp at hj
    | none =>
      obtain ⟨i, hi⟩ : ∃ i, Try.prog.info? 5 = some i := Option.isSome_iff_exists.1 (by kernel_rfl)
      refine ⟨v, w, run_append_owned_none (P := Try.prog) (w := w) base 29 ty 5 i 1 Try.underlying29 hi v l.length (l.map bv) h, by rw [List.append_nil]; exact h, AppF.refl _ _⟩
  · refine key ⟨g, o, none⟩ c rfl fun j u hj => ?_
    rw [List.getElem?_map] at hj
    by_cases hjm : j < m.length
    · rw [List.getElem?_eq_getElem hjm] at hj
      rw [add_none, hcell j hjm, List.getD_eq_getElem?_getD, List.getElem?_eq_getElem hjm]
      exact hj
    · rw [List.getElem?_eq_none (by omega)] at hj; cases hj
theorem wpList_app' {ops : Array Oper} {rest : List Oper} {o : Oper} {a : Act} {w : World} {Q : Exit → Act → World → Prop} (hgd : o.guard = none) (s x : Operand)
    (ho : o.op = .call { callee := .builtin .append, args := #[s, x], argTypes := #[29, 29] }) (base : Nat) (v sv : Value) (l m : List UInt8) (hs : a.eval s = v) (hx : a.eval x = sv)
    (h : Ow w base v l) (hr : Rb w sv m) (hl : l.length + m.length ≤ 140737488355328) (hb : base ≤ w.heap.size)
    (k : ∀ v' w', Ow w' base v' (l ++ m) → AppF w v w' v' → wpList Try.prog ops Q rest (a.put o.dst v') w') : wpList Try.prog ops Q (o :: rest) a w := by
  refine wpList_plain hgd fun K hK => ?_
  obtain ⟨v', w', h1, h2, h3⟩ := run_app' h hr hl hb o.type
  unfold Oper.wp
  simp [execOp, ho, resolve, invoke, builtin, hs, hx, h1, Result.andThen]
  exact hK _ _ (k v' w' h2 h3)
theorem strCells_S (m : List UInt8) : Lib.strCells (⟨m.toArray⟩ : ByteArray) = m.map bv := by
  unfold Lib.strCells; rfl
/-- A text's bytes behind. -/
theorem run_apps' {w : World} {base : Nat} {v : Value} {l : List UInt8} (h : Ow w base v l) (m : List UInt8) (hl : l.length + m.length ≤ 140737488355328) (hb : base ≤ w.heap.size) (ty : TypeId) :
    ∃ v' w', (Builtin.append_ #[29, 9] ty #[v, .string ⟨m.toArray⟩]).run Try.prog w = .ok v' w' ∧ Ow w' base v' (l ++ m) ∧ AppF w v w' v' := by
  obtain ⟨i, hi⟩ : ∃ i, Try.prog.info? 5 = some i := Option.isSome_iff_exists.1 (by kernel_rfl)
  have hi0 : (Try.prog.info? 5).map (fun i => (i.zero, i.size, i.bytes)) = some (some (.int .u8 0), 1, 1) := by kernel_rfl
  rw [hi] at hi0
  simp only [Option.map_some, Option.some.injEq, Prod.mk.injEq] at hi0
  have hsz : (⟨m.toArray⟩ : ByteArray).size = m.length := rfl
  obtain ⟨v', w', h1, h2, h3, hnil⟩ := Lib.run_append_own_string (P := Try.prog) w base 29 9 ty 5 i Try.underlying29 Try.underlying9 hi hi0.1 hi0.2.1 hi0.2.2 v l.length (l.map bv) h ⟨m.toArray⟩ (by rw [hsz]; unfold maxLen; omega) (by rw [hsz]; omega) hb
  rw [hsz, strCells_S] at h2
  refine ⟨v', w', h1, by unfold Ow; rw [List.length_append, List.map_append]; exact h2, But.of_grown h3, fun k hk => ?_⟩
  rcases h.2 with ⟨rfl, e0⟩ | ⟨g, cap, cur, rfl, hbg, hg, hnc, hcm, hcs, htake⟩
  · by_cases hm : m.length = 0
    · have := hnil.2 ⟨rfl, hm⟩
      rw [this] at hk; cases hk
    · obtain ⟨v2, w2, k1, k2, _⟩ := Lib.run_append_own_string (P := Try.prog) w w.heap.size 29 9 ty 5 i Try.underlying29 Try.underlying9 hi hi0.1 hi0.2.1 hi0.2.2 (.slice none 0 0) l.length (l.map bv) (by
        refine ⟨h.1, .inl ⟨rfl, e0⟩⟩) ⟨m.toArray⟩ (by rw [hsz]; unfold maxLen; omega) (by rw [hsz]; omega) (Nat.le_refl _)
      rw [h1] at k1
      injection k1 with e1 e2
      subst e1 e2
      exact .inr (k2.lt k hk).1
  · have hcs' : cur.size = cap := by simpa using hcs
    by_cases hroom : l.length + (⟨m.toArray⟩ : ByteArray).size ≤ cap
    · have hr := Lib.run_append_room_string (P := Try.prog) w 29 9 ty 5 i Try.underlying29 Try.underlying9 hi hi0.2.1 g l.length cap cur hg ⟨m.toArray⟩ hroom (by omega)
      rw [h1] at hr
      injection hr with e1 e2
      subst e1
      exact .inl hk
    · have holds : ∀ j u, (l.map bv)[j]? = some u → w.cell? ((⟨g, 0, none⟩ : Addr).add j) = some u := World.ownsRow.cells h (g := g) rfl
      have hr := Lib.run_append_grow_string (P := Try.prog) w 29 9 ty 5 i (.int .u8 0) Try.underlying29 Try.underlying9 hi hi0.1 ⟨g, 0, none⟩ l.length cap (l.map bv) (by rw [hi0.2.1]; simp) holds ⟨m.toArray⟩ (by omega) (by rw [hsz]; omega) (by rw [hi0.2.2]; exact growslice_fits (by rw [hsz]; omega) (by rw [hsz] at hroom ⊢; omega))
      rw [h1] at hr
      injection hr with e1 e2
      subst e1
      simp [Value.ownBlock] at hk
      exact .inr (by omega)
end Go.Proofs.Ytbgnemephcbgeaa
