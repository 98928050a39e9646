/-
  Appends, and what they turn.
-/
import Derived.Test.YtdjmcehoaneekaaDoorZBase
import Derived.Lib.MinMax
import Derived.BigRegion
import Derived.Deep.Cut
import Derived.Laws.MakeOwn
import Derived.Lib.AppendStr
import Derived.Maps.AppendAt
import Derived.OwnWalkIn
import Derived.TacticsInMore
import Derived.LoopNIn
import Derived.LoopIn
namespace Go.Proofs.YtdjmcehoaneekaaDoor.Dl
open Go Go.RowKit
/-- w' is w but for the blocks that S tells, and new ones. -/
structure But (S : Nat → Prop) (w w' : World) : Prop where
  os : w'.os = w.os
  tape : w'.tape = w.tape
  output : w'.output = w.output
  size : w.heap.size ≤ w'.heap.size
  block : ∀ k, k < w.heap.size → ¬ S k → w'.heap[k]? = w.heap[k]?
theorem But.refl (S : Nat → Prop) (w : World) : But S w w := ⟨rfl, rfl, rfl, Nat.le_refl _, fun _ _ _ => rfl⟩
theorem But.trans {S : Nat → Prop} {a b c : World} (h : But S a b) (k : But S b c) : But S a c :=
  ⟨k.os.trans h.os, k.tape.trans h.tape, k.output.trans h.output, Nat.le_trans h.size k.size, fun i hi hs => (k.block i (Nat.lt_of_lt_of_le hi h.size) hs).trans (h.block i hi hs)⟩
/-- Behind a call that turned nothing old. -/
theorem But.of_new {S : Nat → Prop} {w w' : World} (h : Below w.heap.size w w') : But S w w' := ⟨h.os, h.tape, h.output, h.size, fun k hk _ => h.block k hk⟩
theorem But.of_grown {w w' : World} {row : Option Nat} (h : w.grownBy w' row) : But (fun k => row = some k) w w' := ⟨h.os, h.tape, h.output, h.size, fun k hk hn => h.block k hk (fun e => hn e.symm)⟩
theorem But.cell {S : Nat → Prop} {w w' : World} (h : But S w w') {p : Addr} (hlt : p.block < w.heap.size) (hn : ¬ S p.block) : w'.cell? p = w.cell? p := World.cell?_of_block (w := w) (h.block p.block hlt hn)
theorem But.alloc {S : Nat → Prop} {a w : World} (h : But S a w) (o : Obj) : But S a (w.alloc o) := h.trans (But.of_new ((Below.refl _ w).alloc (Nat.le_refl _) o))
theorem But.own {S T : Nat → Prop} {a b c : World} (h : But S a b) (k : But T b c) (hT : ∀ i, T i → S i ∨ a.heap.size ≤ i) : But S a c :=
  ⟨k.os.trans h.os, k.tape.trans h.tape, k.output.trans h.output, Nat.le_trans h.size k.size, fun i hi hs => (k.block i (Nat.lt_of_lt_of_le hi h.size) (fun ht => (hT i ht).elim hs (fun h2 => by omega))).trans (h.block i hi hs)⟩
/-- v has become v': its own block may have turned, and nothing else that was there. -/
def AppF (w : World) (v : Value) (w' : World) (v' : Value) : Prop := But (fun k => v.ownBlock = some k) w w' ∧ ∀ k, v'.ownBlock = some k → v.ownBlock = some k ∨ w.heap.size ≤ k
theorem AppF.refl (w : World) (v : Value) : AppF w v w v := ⟨But.refl _ _, fun _ h => .inl h⟩
theorem AppF.new {w w' : World} (v : Value) (h : Below w.heap.size w w') : AppF w v w' v := ⟨But.of_new h, fun _ h => .inl h⟩
theorem AppF.trans {a b c : World} {u v x : Value} (h : AppF a u b v) (k : AppF b v c x) : AppF a u c x :=
  ⟨h.1.own k.1 h.2, fun i hi => (k.2 i hi).elim (h.2 i) (fun h2 => .inr (Nat.le_trans h.1.size h2))⟩
theorem AppF.size {a b : World} {u v : Value} (h : AppF a u b v) : a.heap.size ≤ b.heap.size := h.1.size
/-- One append. -/
theorem run_app' {w : World} {base : Nat} {v sv : Value} {l m : List UInt8} (h : Ow w base v l) (hs : Rb w sv m) (hl : l.length + m.length ≤ 140737488355328) (hb : base ≤ w.heap.size) (ty : TypeId) :
    ∃ v' w', (Builtin.append_ #[23, 23] ty #[v, sv]).run Tryd.prog w = .ok v' w' ∧ Ow w' base v' (l ++ m) ∧ AppF w v w' v' := by
  have key : ∀ (a : Addr) (c : Nat), sv = .slice (some a) m.length c → (∀ j u, (m.map bv)[j]? = some u → w.cell? (a.add j) = some u) →
      ∃ v' w', (Builtin.append_ #[23, 23] ty #[v, sv]).run Tryd.prog w = .ok v' w' ∧ Ow w' base v' (l ++ m) ∧ AppF w v w' v' := by
    rintro a c rfl hcell
    obtain ⟨i, hi⟩ : ∃ i, Tryd.prog.info? 5 = some i := Option.isSome_iff_exists.1 (by kernel_rfl)
    have hi0 : (Tryd.prog.info? 5).map (fun i => (i.zero, i.size, i.bytes)) = some (some (.int .u8 0), 1, 1) := by kernel_rfl
    rw [hi] at hi0
    simp only [Option.map_some, Option.some.injEq, Prod.mk.injEq] at hi0
    obtain ⟨v', w', h1, h2, h3, _, h5⟩ := run_append_own_at (P := Tryd.prog) w base 23 ty 5 i (.int .u8 0) 1 1 Tryd.underlying23 hi hi0.1 hi0.2.1 hi0.2.2 rfl (by omega) v l.length (l.map bv) h a m.length c (m.map bv) (by simp) hcell (bv_one m) (by unfold maxLen; omega) (by omega) hb
    refine ⟨v', w', h1, by unfold Ow; rw [List.length_append, List.map_append]; exact h2, But.of_grown h3, fun k hk => ?_⟩
    rcases h5 with e | e
    · exact .inl (e.symm.trans hk)
    · rw [hk] at e; cases e; exact .inr (Nat.le_refl _)
  rcases hs with ⟨⟨A, rfl⟩, rfl⟩ | ⟨g, o, c, rfl, hc, hg, hcell⟩
  · cases A with
    | some a => exact key a 0 rfl fun j u hj => by simp at hj
    | none =>
      obtain ⟨i, hi⟩ : ∃ i, Tryd.prog.info? 5 = some i := Option.isSome_iff_exists.1 (by kernel_rfl)
      refine ⟨v, w, run_append_owned_none (P := Tryd.prog) (w := w) base 23 ty 5 i 1 Tryd.underlying23 hi v l.length (l.map bv) h, by rw [List.append_nil]; exact h, AppF.refl _ _⟩
  · refine key ⟨g, o, none⟩ c rfl fun j u hj => ?_
    rw [List.getElem?_map] at hj
    by_cases hjm : j < m.length
    · rw [List.getElem?_eq_getElem hjm] at hj
      rw [add_none, hcell j hjm, List.getD_eq_getElem?_getD, List.getElem?_eq_getElem hjm]
      exact hj
    · rw [List.getElem?_eq_none (by omega)] at hj; cases hj
theorem strCells_S (m : List UInt8) : Lib.strCells (⟨m.toArray⟩ : ByteArray) = m.map bv := by
  unfold Lib.strCells; rfl
/-- A text's bytes behind. -/
theorem run_apps' {w : World} {base : Nat} {v : Value} {l : List UInt8} (h : Ow w base v l) (m : List UInt8) (hl : l.length + m.length ≤ 140737488355328) (hb : base ≤ w.heap.size) (ty : TypeId) :
    ∃ v' w', (Builtin.append_ #[23, 9] ty #[v, .string ⟨m.toArray⟩]).run Tryd.prog w = .ok v' w' ∧ Ow w' base v' (l ++ m) ∧ AppF w v w' v' := by
  obtain ⟨i, hi⟩ : ∃ i, Tryd.prog.info? 5 = some i := Option.isSome_iff_exists.1 (by kernel_rfl)
  have hi0 : (Tryd.prog.info? 5).map (fun i => (i.zero, i.size, i.bytes)) = some (some (.int .u8 0), 1, 1) := by kernel_rfl
  rw [hi] at hi0
  simp only [Option.map_some, Option.some.injEq, Prod.mk.injEq] at hi0
  have hsz : (⟨m.toArray⟩ : ByteArray).size = m.length := rfl
  obtain ⟨v', w', h1, h2, h3, hnil⟩ := Lib.run_append_own_string (P := Tryd.prog) w base 23 9 ty 5 i Tryd.underlying23 Tryd.underlying9 hi hi0.1 hi0.2.1 hi0.2.2 v l.length (l.map bv) h ⟨m.toArray⟩ (by rw [hsz]; unfold maxLen; omega) (by rw [hsz]; omega) hb
  rw [hsz, strCells_S] at h2
  refine ⟨v', w', h1, by unfold Ow; rw [List.length_append, List.map_append]; exact h2, But.of_grown h3, fun k hk => ?_⟩
  rcases h.2 with ⟨rfl, e0⟩ | ⟨g, cap, cur, rfl, hbg, hg, hnc, hcm, hcs, htake⟩
  · by_cases hm : m.length = 0
    · have := hnil.2 ⟨rfl, hm⟩
      rw [this] at hk; cases hk
    · obtain ⟨v2, w2, k1, k2, _⟩ := Lib.run_append_own_string (P := Tryd.prog) w w.heap.size 23 9 ty 5 i Tryd.underlying23 Tryd.underlying9 hi hi0.1 hi0.2.1 hi0.2.2 (.slice none 0 0) l.length (l.map bv) (by
        refine ⟨h.1, .inl ⟨rfl, e0⟩⟩) ⟨m.toArray⟩ (by rw [hsz]; unfold maxLen; omega) (by rw [hsz]; omega) (Nat.le_refl _)
      rw [h1] at k1
      injection k1 with e1 e2
      subst e1 e2
      exact .inr (k2.lt k hk).1
  · have hcs' : cur.size = cap := by simpa using hcs
    by_cases hroom : l.length + (⟨m.toArray⟩ : ByteArray).size ≤ cap
    · have hr := Lib.run_append_room_string (P := Tryd.prog) w 23 9 ty 5 i Tryd.underlying23 Tryd.underlying9 hi hi0.2.1 g l.length cap cur hg ⟨m.toArray⟩ hroom (by omega)
      rw [h1] at hr
      injection hr with e1 e2
      subst e1
      exact .inl hk
    · have holds : ∀ j u, (l.map bv)[j]? = some u → w.cell? ((⟨g, 0, none⟩ : Addr).add j) = some u := World.ownsRow.cells h (g := g) rfl
      have hr := Lib.run_append_grow_string (P := Tryd.prog) w 23 9 ty 5 i (.int .u8 0) Tryd.underlying23 Tryd.underlying9 hi hi0.1 ⟨g, 0, none⟩ l.length cap (l.map bv) (by rw [hi0.2.1]; simp) holds ⟨m.toArray⟩ (by omega) (by rw [hsz]; omega) (by rw [hi0.2.2]; exact growslice_fits (by rw [hsz]; omega) (by rw [hsz] at hroom ⊢; omega))
      rw [h1] at hr
      injection hr with e1 e2
      subst e1
      simp [Value.ownBlock] at hk
      exact .inr (by omega)
end Go.Proofs.YtdjmcehoaneekaaDoor.Dl
