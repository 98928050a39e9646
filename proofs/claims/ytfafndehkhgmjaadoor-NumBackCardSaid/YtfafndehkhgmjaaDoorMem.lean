/-
  Slices of bytes that are read, that are joined; what the calls ask of the listed variables.
-/
import Derived.Test.YtfafndehkhgmjaaDoorDec
import Derived.Test.YtfafndehkhgmjaaDoorLay
import Derived.Below
import Derived.Laws.OwnMore
import Derived.Deep.Draws
import Derived.Laws.Rows
import Derived.Laws.AppendOwnNone
import Derived.Laws.IdiomStrings
import Derived.Deep.QuietTactic
import Derived.BigQuiet
import Derived.IntWalk
import Derived.Lib.Hide
import Derived.Lib.IndexLaws
import Derived.Lib.AppendIntMem
import Derived.Lib.LaidTab
namespace Go.Proofs.YtfafndehkhgmjaaDoor
open Go Go.RowKit

def bv (x : UInt8) : Value := .int .u8 (x.toNat : Int)
def SV (l : List UInt8) : Value := .string ⟨l.toArray⟩
theorem ret_bool {a b : Bool} (h : a = b) : Ending.returned (.bool a) = .returned (.bool b) := by rw [h]
theorem ret_i64 {a b : Int} (h : a = b) : Ending.returned (.int .i64 a) = .returned (.int .i64 b) := by rw [h]
theorem add_none (g o j : Nat) : (⟨g, o, none⟩ : Addr).add j = ⟨g, o + j, none⟩ := by unfold Addr.add; split <;> simp_all
theorem below_new (w : World) (o : Obj) : Below w.heap.size w (w.alloc o) := (Below.refl _ w).alloc (Nat.le_refl _) o
theorem lt_of_block {w : World} {g : Nat} {o : Obj} (h : w.heap[g]? = some o) : g < w.heap.size := by
  rcases Nat.lt_or_ge g w.heap.size with hlt | hge
  · exact hlt
  · rw [Array.getElem?_eq_none hge] at h; cases h

/-- The slice value v holds the bytes l. -/
def Rb (w : World) (v : Value) (l : List UInt8) : Prop :=
  ((∃ A, v = .slice A 0 0) ∧ l = []) ∨ ∃ g o c, v = .slice (some ⟨g, o, none⟩) l.length c ∧ l.length ≤ c ∧ g < w.heap.size ∧ ∀ j, j < l.length → w.cell? ⟨g, o + j, none⟩ = some (.int .u8 ((l.getD j 0).toNat : Int))

theorem Rb.below {w w' : World} {v : Value} {l : List UInt8} {b : Nat} (h : Rb w v l) (hb : Below b w w') (hlt : w.heap.size ≤ b) : Rb w' v l := by
  rcases h with h | ⟨g, o, c, rfl, hc, hg, hcell⟩
  · exact .inl h
  · exact .inr ⟨g, o, c, rfl, hc, Nat.lt_of_lt_of_le hg hb.size, fun j hj => by rw [hb.cell (p := ⟨g, o + j, none⟩) (by show g < b; omega)]; exact hcell j hj⟩
theorem Rb.shape {w : World} {v : Value} {l : List UInt8} (h : Rb w v l) : ∃ A c, v = .slice A l.length c ∧ l.length ≤ c := by
  rcases h with ⟨⟨A, rfl⟩, rfl⟩ | ⟨g, o, c, rfl, hc, _⟩
  · exact ⟨A, 0, rfl, Nat.zero_le _⟩
  · exact ⟨_, _, rfl, hc⟩
theorem Rb.conv {w : World} {v : Value} {l : List UInt8} (h : Rb w v l) : (convert 22 9 v).run Tryd.prog w = .ok (.string ⟨l.toArray⟩) w := by
  rcases h with ⟨⟨A, rfl⟩, rfl⟩ | ⟨g, o, c, rfl, _, _, hc⟩
  · cases A with
    | none =>
      rw [run_convert_bytes_string w _ _ _ none 0 0 Tryd.underlying22 Tryd.underlying5 Tryd.underlying9]
      simp [Conv.bytesToString]; rfl
    | some a => exact run_convert_bytes_back w _ _ _ a 0 [] Tryd.underlying22 Tryd.underlying5 Tryd.underlying9 fun j hj => absurd hj (Nat.not_lt_zero _)
  · refine run_convert_bytes_back w _ _ _ ⟨g, o, none⟩ c l Tryd.underlying22 Tryd.underlying5 Tryd.underlying9 fun j hj => ?_
    rw [add_none, hc j hj, List.getD_eq_getElem?_getD, List.getElem?_eq_getElem hj]; rfl

/-- The slice value v is the call's own, above base, and holds the bytes l. -/
def Ow (w : World) (base : Nat) (v : Value) (l : List UInt8) : Prop := w.ownsRow base 5 1 v l.length (l.map bv)

theorem Ow.rb {w : World} {base : Nat} {v : Value} {l : List UInt8} (h : Ow w base v l) : Rb w v l := by
  obtain ⟨h1, h2⟩ := h
  rcases h2 with ⟨rfl, h2⟩ | ⟨g, cap, cur, rfl, hb, hg, hn, hm, hs, ht⟩
  · exact .inl ⟨⟨_, rfl⟩, List.length_eq_zero_iff.1 h2⟩
  · refine .inr ⟨g, 0, cap, rfl, hn, lt_of_block hg, fun j hj => ?_⟩
    rw [Nat.zero_add, cell_of_row w g j _ _ _ hg]
    have h3 : (cur.toList.take (l.length * 1))[j]? = (l.map bv)[j]? := by rw [ht]
    rw [List.getElem?_take, if_pos (by omega), Array.getElem?_toList] at h3
    rw [h3, List.getElem?_map, List.getElem?_eq_getElem hj, List.getD_eq_getElem?_getD, List.getElem?_eq_getElem hj]; rfl
theorem Ow.below {w w' : World} {base b : Nat} {v : Value} {l : List UInt8} (h : Ow w base v l) (hb : Below b w w') (hlt : w.heap.size ≤ b) : Ow w' base v l := by
  obtain ⟨h1, h2⟩ := h
  refine ⟨h1, ?_⟩
  rcases h2 with h2 | ⟨g, cap, cur, rfl, hbg, hg, r⟩
  · exact .inl h2
  · exact .inr ⟨g, cap, cur, rfl, hbg, (hb.block g (Nat.lt_of_lt_of_le (lt_of_block hg) hlt)).trans hg, r⟩
theorem Ow.new0 (w : World) (base : Nat) (hb : base ≤ w.heap.size) : Ow (w.alloc (.cells #[] 5)) base (.slice (some ⟨w.heap.size, 0, none⟩) 0 0) [] :=
  World.ownsRow_made w #[] 0 hb (Nat.zero_le _) rfl
theorem Ow.nil (w : World) (base : Nat) : Ow w base (.slice none 0 0) [] := World.ownsRow_nil w base _ _
theorem rb_one (w : World) (c : UInt8) : Rb (w.alloc (.cells #[.int .u8 (c.toNat : Int)] 5)) (.slice (some ⟨w.heap.size, 0, none⟩) 1 1) [c] :=
  .inr ⟨w.heap.size, 0, 1, rfl, Nat.le_refl _, by simp, fun j hj => by
    have h0 : j = 0 := by simpa using hj
    subst h0
    rw [Nat.zero_add, cell_of_row (w.alloc _) w.heap.size 0 _ _ _ (heap_alloc_new w _)]; rfl⟩

theorem bv_one (l : List UInt8) : ∀ u ∈ l.map bv, u.oneCell' = true := by
  intro u hu
  obtain ⟨b, _, rfl⟩ := List.mem_map.1 hu
  rfl

/-- One append. -/
theorem run_app {w : World} {base : Nat} {v sv : Value} {l m : List UInt8} (h : Ow w base v l) (hs : Rb w sv m) (hl : l.length + m.length ≤ 140737488355328) (hb : base ≤ w.heap.size) (ty : TypeId) :
    ∃ v' w', (Builtin.append_ #[22, 22] ty #[v, sv]).run Tryd.prog w = .ok v' w' ∧ Ow w' base v' (l ++ m) ∧ Below base w w' := by
  have key : ∀ (a : Addr) (c : Nat), sv = .slice (some a) m.length c → (∀ j u, (m.map bv)[j]? = some u → w.cell? (a.add j) = some u) →
      ∃ v' w', (Builtin.append_ #[22, 22] ty #[v, sv]).run Tryd.prog w = .ok v' w' ∧ Ow w' base v' (l ++ m) ∧ Below base w w' := by
    rintro a c rfl hcell
    obtain ⟨i, hi⟩ : ∃ i, Tryd.prog.info? 5 = some i := Option.isSome_iff_exists.1 (by kernel_rfl)
    have hi0 : (Tryd.prog.info? 5).map (fun i => (i.zero, i.size, i.bytes)) = some (some (.int .u8 0), 1, 1) := by kernel_rfl
    rw [hi] at hi0
    simp only [Option.map_some, Option.some.injEq, Prod.mk.injEq] at hi0
    obtain ⟨v', w', h1, h2, h3, _⟩ := run_append_own (P := Tryd.prog) w base 22 ty 5 i (.int .u8 0) 1 1 Tryd.underlying22 hi hi0.1 hi0.2.1 hi0.2.2 rfl (by omega) v l.length (l.map bv) h a m.length c (m.map bv) (by simp) hcell (bv_one m) (by unfold maxLen; omega) (by omega) hb
    refine ⟨v', w', h1, by unfold Ow; rw [List.length_append, List.map_append]; exact h2, ⟨h3.os, h3.tape, h3.output, h3.size, fun k hk => h3.block k (by omega) ?_⟩⟩
    intro e
    have := (h.lt k e.symm).1
    omega
  rcases hs with ⟨⟨A, rfl⟩, rfl⟩ | ⟨g, o, c, rfl, hc, hg, hcell⟩
  · cases A with
    | some a => exact key a 0 rfl fun j u hj => by simp at hj
    | none =>
      obtain ⟨i, hi⟩ : ∃ i, Tryd.prog.info? 5 = some i := Option.isSome_iff_exists.1 (by kernel_rfl)
      refine ⟨v, w, run_append_owned_none (P := Tryd.prog) (w := w) base 22 ty 5 i 1 Tryd.underlying22 hi v l.length (l.map bv) h, by rw [List.append_nil]; exact h, Below.refl _ _⟩
  · refine key ⟨g, o, none⟩ c rfl fun j u hj => ?_
    rw [List.getElem?_map] at hj
    by_cases hjm : j < m.length
    · rw [List.getElem?_eq_getElem hjm] at hj
      rw [add_none, hcell j hjm, List.getD_eq_getElem?_getD, List.getElem?_eq_getElem hjm]
      exact hj
    · rw [List.getElem?_eq_none (by omega)] at hj; cases hj

/-- The operation. -/
theorem wpList_app {ops : Array Oper} {rest : List Oper} {o : Oper} {a : Act} {w : World} {Q : Exit → Act → World → Prop} (hgd : o.guard = none) (s x : Operand)
    (ho : o.op = .call { callee := .builtin .append, args := #[s, x], argTypes := #[22, 22] }) (base : Nat) (v sv : Value) (l m : List UInt8) (hs : a.eval s = v) (hx : a.eval x = sv)
    (h : Ow w base v l) (hr : Rb w sv m) (hl : l.length + m.length ≤ 140737488355328) (hb : base ≤ w.heap.size)
    (k : ∀ v' w', Ow w' base v' (l ++ m) → Below base w w' → wpList Tryd.prog ops Q rest (a.put o.dst v') w') : wpList Tryd.prog ops Q (o :: rest) a w := by
  refine wpList_plain hgd fun K hK => ?_
  obtain ⟨v', w', h1, h2, h3⟩ := run_app h hr hl hb o.type
  unfold Oper.wp
  simp [execOp, ho, resolve, invoke, builtin, hs, hx, h1, Result.andThen]
  exact hK _ _ (k v' w' h2 h3)

theorem extract_S (p : List UInt8) (a b : Nat) : (⟨p.toArray⟩ : ByteArray).extract a b = ⟨((p.take b).drop a).toArray⟩ := by
  apply ByteArray.ext
  rw [ByteArray.data_extract]
  apply Array.ext'
  simp [List.drop_take]
theorem append_S (p q : List UInt8) : (⟨p.toArray⟩ : ByteArray) ++ (⟨q.toArray⟩ : ByteArray) = ⟨(p ++ q).toArray⟩ := by
  apply ByteArray.ext
  rw [ByteArray.data_append]
  apply Array.ext'
  simp

/-- What the calls ask of the listed variables: the table of the powers of ten; two errors. -/
structure Pr (w : World) : Prop where
  tab : Lib.TabIs Tryd.prog w "internal/strconv.uint64pow10" .u64 Lib.pow10Tab
  syn : ∃ ev, w.cell? ⟨0, 0, none⟩ = some ev ∧ (ev = .nilIface ∨ ∃ te pe, ev = .iface te pe)
  rng : ∃ ev, w.cell? ⟨1, 0, none⟩ = some ev ∧ (ev = .nilIface ∨ ∃ te pe, ev = .iface te pe)
theorem block_lt {w : World} {a : Addr} {v : Value} (h : w.cell? a = some v) : a.block < w.heap.size := Lib.lt_of_cell h
theorem Pr.below {w w' : World} (h : Pr w) (hb : Below w.heap.size w w') : Pr w' := by
  obtain ⟨h1, ⟨e2, h2, k2⟩, e3, h3, k3⟩ := h
  refine ⟨?_, ⟨e2, (hb.cell (block_lt h2)).trans h2, k2⟩, e3, (hb.cell (block_lt h3)).trans h3, k3⟩
  have hg : Tryd.prog.globalNamed "internal/strconv.uint64pow10" = some 2 := by kernel_rfl
  have hlt : 2 < w.heap.size := block_lt (h1.cell hg 0 (by rw [Lib.pow10Tab_length]; decide))
  unfold Lib.TabIs World.var? at h1 ⊢
  rw [hg] at h1 ⊢
  simp only [Option.bind_some] at h1 ⊢
  rw [hb.block _ hlt]
  exact h1
end Go.Proofs.YtfafndehkhgmjaaDoor
