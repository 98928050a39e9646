/-
  Appends onto a slice of bytes that the call made.
-/
import Derived.Test.YtjbagoedaelmnaaDoorStill
import Derived.Laws.AppendOwnNone
import Derived.Laws.OwnMore
namespace Go.Proofs.YtjbagoedaelmnaaDoor
open Go Go.RowKit

/-- The slice value v is the call's own, above base, and holds the bytes l. -/
def Ow (w : World) (base : Nat) (v : Value) (l : List UInt8) : Prop := w.ownsRow base 5 1 v l.length (l.map bv)

theorem Ow.rb {w : World} {base : Nat} {v : Value} {l : List UInt8} (h : Ow w base v l) : Rb w v l := by
  obtain ⟨h1, h2⟩ := h
  rcases h2 with ⟨rfl, h2⟩ | ⟨g, cap, cur, rfl, hb, hg, hn, hm, hs, ht⟩
  · exact .inl ⟨⟨_, rfl⟩, List.length_eq_zero_iff.1 h2⟩
  · refine .inr ⟨g, 0, cap, rfl, hn, ?_, fun j hj => ?_⟩
    · have hb' : Go.Proofs.YtjbagoedaelmnaaDoor.Blk w g 5 cur := hg
      exact hb'.lt
    · rw [Nat.zero_add, cell_of_row w g j _ _ _ hg]
      have h3 : (cur.toList.take (l.length * 1))[j]? = (l.map bv)[j]? := by rw [ht]
      rw [List.getElem?_take, if_pos (by omega), Array.getElem?_toList] at h3
      rw [h3, List.getElem?_map, List.getElem?_eq_getElem hj, List.getD_eq_getElem?_getD, List.getElem?_eq_getElem hj]; rfl
theorem Ow.below {w w' : World} {base b : Nat} {v : Value} {l : List UInt8} (h : Ow w base v l) (hb : Below b w w') (hlt : w.heap.size ≤ b) : Ow w' base v l := by
  obtain ⟨h1, h2⟩ := h
  refine ⟨h1, ?_⟩
  rcases h2 with h2 | ⟨g, cap, cur, rfl, hbg, hg, r⟩
  · exact .inl h2
  · have hb' : Go.Proofs.YtjbagoedaelmnaaDoor.Blk w g 5 cur := hg
    exact .inr ⟨g, cap, cur, rfl, hbg, (hb.block g (Nat.lt_of_lt_of_le hb'.lt hlt)).trans hg, r⟩
theorem Ow.new0 (w : World) (base : Nat) (hb : base ≤ w.heap.size) : Ow (w.alloc (.cells #[] 5)) base (.slice (some ⟨w.heap.size, 0, none⟩) 0 0) [] :=
  World.ownsRow_made w #[] 0 hb (Nat.zero_le _) rfl
theorem Ow.nil (w : World) (base : Nat) : Ow w base (.slice none 0 0) [] := World.ownsRow_nil w base _ _
theorem rb_one (w : World) (c : UInt8) : Rb (w.alloc (.cells #[.int .u8 (c.toNat : Int)] 5)) (.slice (some ⟨w.heap.size, 0, none⟩) 1 1) [c] :=
  .inr ⟨w.heap.size, 0, 1, rfl, Nat.le_refl _, by simp, fun j hj => by
    have h0 : j = 0 := by simpa using hj
    subst h0
    rw [Nat.zero_add, (Go.Proofs.YtjbagoedaelmnaaDoor.Blk.new w 5 #[.int .u8 (c.toNat : Int)]).cell]; rfl⟩

theorem bv_one (l : List UInt8) : ∀ u ∈ l.map bv, u.oneCell' = true := by
  intro u hu
  obtain ⟨b, _, rfl⟩ := List.mem_map.1 hu
  rfl

/-- One append. -/
theorem run_app {w : World} {base : Nat} {v sv : Value} {l m : List UInt8} (h : Ow w base v l) (hs : Rb w sv m) (hl : l.length + m.length ≤ 140737488355328) (hb : base ≤ w.heap.size) (ty : TypeId) :
    ∃ v' w', (Builtin.append_ #[22, 22] ty #[v, sv]).run Tryd.prog w = .ok v' w' ∧ Ow w' base v' (l ++ m) ∧ Below base w w' := by
  have key : ∀ (a : Addr) (c : Nat), sv = .slice (some a) m.length c → (∀ j u, (m.map bv)[j]? = some u → w.cell? (a.add j) = some u) →
      ∃ v' w', (Builtin.append_ #[22, 22] ty #[v, sv]).run Tryd.prog w = .ok v' w' ∧ Ow w' base v' (l ++ m) ∧ Below base w w' := by
    rintro a c rfl hcell
    obtain ⟨i, hi⟩ : ∃ i, Tryd.prog.info? 5 = some i := Option.isSome_iff_exists.1 (by kernel_rfl)
    have hi0 : (Tryd.prog.info? 5).map (fun i => (i.zero, i.size, i.bytes)) = some (some (.int .u8 0), 1, 1) := by kernel_rfl
    rw [hi] at hi0
    simp only [Option.map_some, Option.some.injEq, Prod.mk.injEq] at hi0
    obtain ⟨v', w', h1, h2, h3, _⟩ := run_append_own (P := Tryd.prog) w base 22 ty 5 i (.int .u8 0) 1 1 Tryd.underlying22 hi hi0.1 hi0.2.1 hi0.2.2 rfl (by omega) v l.length (l.map bv) h a m.length c (m.map bv) (by simp) hcell (bv_one m) (by unfold maxLen; omega) (by omega) hb
    refine ⟨v', w', h1, by unfold Ow; rw [List.length_append, List.map_append]; exact h2, ⟨h3.os, h3.tape, h3.output, h3.size, fun k hk => h3.block k (by omega) ?_⟩⟩
    intro e
    have := (h.lt k e.symm).1
    omega
  rcases hs with ⟨⟨A, rfl⟩, rfl⟩ | ⟨g, o, c, rfl, hc, hg, hcell⟩
  · cases A with
    | some a => exact key a 0 rfl fun j u hj => by simp at hj
    | none =>
      obtain ⟨i, hi⟩ : ∃ i, Tryd.prog.info? 5 = some i := Option.isSome_iff_exists.1 (by kernel_rfl)
      refine ⟨v, w, run_append_owned_none (P := Tryd.prog) (w := w) base 22 ty 5 i 1 Tryd.underlying22 hi v l.length (l.map bv) h, by rw [List.append_nil]; exact h, Below.refl _ _⟩
  · refine key ⟨g, o, none⟩ c rfl fun j u hj => ?_
    rw [List.getElem?_map] at hj
    by_cases hjm : j < m.length
    · rw [List.getElem?_eq_getElem hjm] at hj
      rw [add_none, hcell j hjm, List.getD_eq_getElem?_getD, List.getElem?_eq_getElem hjm]
      exact hj
    · rw [List.getElem?_eq_none (by omega)] at hj; cases hj

/-- The operation. -/
theorem wpList_app {ops : Array Oper} {rest : List Oper} {o : Oper} {a : Act} {w : World} {Q : Exit → Act → World → Prop} (hgd : o.guard = none) (s x : Operand)
    (ho : o.op = .call { callee := .builtin .append, args := #[s, x], argTypes := #[22, 22] }) (base : Nat) (v sv : Value) (l m : List UInt8) (hs : a.eval s = v) (hx : a.eval x = sv)
    (h : Ow w base v l) (hr : Rb w sv m) (hl : l.length + m.length ≤ 140737488355328) (hb : base ≤ w.heap.size)
    (k : ∀ v' w', Ow w' base v' (l ++ m) → Below base w w' → wpList Tryd.prog ops Q rest (a.put o.dst v') w') : wpList Tryd.prog ops Q (o :: rest) a w := by
  refine wpList_plain hgd fun K hK => ?_
  obtain ⟨v', w', h1, h2, h3⟩ := run_app h hr hl hb o.type
  unfold Oper.wp
  simp [execOp, ho, resolve, invoke, builtin, hs, hx, h1, Result.andThen]
  exact hK _ _ (k v' w' h2 h3)
end Go.Proofs.YtjbagoedaelmnaaDoor
