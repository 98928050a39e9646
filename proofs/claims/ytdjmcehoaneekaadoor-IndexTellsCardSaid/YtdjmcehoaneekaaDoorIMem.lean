/-
  The index: sums, rows, tables as cells; loads of many cells.
-/
import Derived.Test.YtdjmcehoaneekaaDoorIPure
import Derived.Test.YtdjmcehoaneekaaDoorDSum
import Derived.Test.YtdjmcehoaneekaaDoorAnyB
import Derived.Test.YtdjmcehoaneekaaDoorZAp
import Derived.Laws.Rows
import Derived.Laws.Tables
import Derived.Deep.WholeRow
import Derived.Shelf.SlicesQ.Load
namespace Go.Proofs.YtdjmcehoaneekaaDoor.Ix
open Go.Proofs.YtdjmcehoaneekaaDoor
open Go Go.RowKit

/-- Byte i of a sum. -/
def gd (s : Bs) (i : Nat) : UInt8 := s.getD i 0
/-- A sum's cells. -/
def sumA (s : Bs) : Array Value := u8s 32 (gd s)
/-- A row's cells. -/
def rowA (r : Rw) : Array Value := (sumA r.sum).push (.int .i64 (r.place : Int))
def rowC (r : Rw) : List Value := (rowA r).toList
/-- The cells of a table: f tells how many up to each byte, v where the rows are. -/
def intA (n : Nat) (f : Nat → Nat) : Array Value := ((List.range n).map fun i => Value.int .i64 (f i : Int)).toArray
def tblA (f : Nat → Nat) (v : Value) : Array Value := (intA 256 f).push v

theorem sumA_size (s : Bs) : (sumA s).size = 32 := u8s_size _ _
theorem rowA_size (r : Rw) : (rowA r).size = 33 := by unfold rowA; rw [Array.size_push, sumA_size]
theorem rowC_len (r : Rw) : (rowC r).length = 33 := by unfold rowC; rw [Array.length_toList, rowA_size]
theorem intA_size (n : Nat) (f : Nat → Nat) : (intA n f).size = n := by simp [intA]
theorem intA_get (n : Nat) (f : Nat → Nat) (i : Nat) (h : i < n) : (intA n f)[i]? = some (.int .i64 (f i : Int)) := by simp [intA, h]
theorem tblA_size (f : Nat → Nat) (v : Value) : (tblA f v).size = 257 := by unfold tblA; rw [Array.size_push, intA_size]
theorem sumA_get (s : Bs) (i : Nat) (h : i < 32) : (sumA s)[i]? = some (.int .u8 ((gd s i).toNat : Int)) := u8s_get _ _ _ h
theorem rowA_sum (r : Rw) (i : Nat) (h : i < 32) : (rowA r)[i]? = (sumA r.sum)[i]? := by
  unfold rowA; rw [Array.getElem?_push, if_neg (by rw [sumA_size]; omega)]
theorem rowA_place (r : Rw) : (rowA r)[32]? = some (.int .i64 (r.place : Int)) := by
  unfold rowA; rw [Array.getElem?_push, if_pos (by rw [sumA_size])]
theorem tblA_int (f : Nat → Nat) (v : Value) (i : Nat) (h : i < 256) : (tblA f v)[i]? = some (.int .i64 (f i : Int)) := by
  unfold tblA; rw [Array.getElem?_push, if_neg (by rw [intA_size]; omega), intA_get _ _ _ h]
theorem tblA_rows (f : Nat → Nat) (v : Value) : (tblA f v)[256]? = some v := by
  unfold tblA; rw [Array.getElem?_push, if_pos (by rw [intA_size])]
theorem sumA_one (s : Bs) : (sumA s).all (·.oneCell') = true := u8s_one _ _
theorem intA_one (n : Nat) (f : Nat → Nat) : (intA n f).all (·.oneCell') = true := by
  rw [Array.all_eq_true_iff_forall_mem]
  intro v hv
  simp only [intA, List.mem_toArray, List.mem_map] at hv
  obtain ⟨i, _, rfl⟩ := hv
  rfl
theorem rowA_one (r : Rw) : (rowA r).all (·.oneCell') = true := by
  unfold rowA; rw [Array.all_push, sumA_one]; rfl
theorem tblA_one (f : Nat → Nat) (A : Option Addr) (n c : Nat) : (tblA f (.slice A n c)).all (·.oneCell') = true := by
  unfold tblA; rw [Array.all_push, intA_one]; rfl
theorem intA_set (n : Nat) (f : Nat → Nat) (k : Nat) (x : Nat) : (intA n f).setIfInBounds k (.int .i64 (x : Int)) = intA n (upd f k x) := by
  apply Array.ext_getElem?
  intro i
  rw [Array.getElem?_setIfInBounds]
  by_cases h : k = i
  · subst h
    rw [if_pos rfl, intA_size]
    by_cases hk : k < n
    · rw [if_pos hk, intA_get _ _ _ hk, upd_same]
    · rw [if_neg hk, Array.getElem?_eq_none (by rw [intA_size]; omega)]
  · rw [if_neg h]
    by_cases hi : i < n
    · rw [intA_get _ _ _ hi, intA_get _ _ _ hi, upd_other _ _ _ _ (Ne.symm h)]
    · rw [Array.getElem?_eq_none (by rw [intA_size]; omega), Array.getElem?_eq_none (by rw [intA_size]; omega)]
theorem tblA_set (f : Nat → Nat) (v : Value) (k : Nat) (x : Nat) (hk : k < 256) : (tblA f v).setIfInBounds k (.int .i64 (x : Int)) = tblA (upd f k x) v := by
  unfold tblA
  rw [← intA_set]
  apply Array.ext_getElem?
  intro i
  rw [Array.getElem?_setIfInBounds, Array.getElem?_push, Array.getElem?_push, Array.getElem?_setIfInBounds, Array.size_push, Array.size_setIfInBounds, intA_size]
  by_cases h : k = i
  · subst h
    rw [if_pos rfl, if_pos (by omega), if_neg (by omega), if_pos rfl, if_pos hk]
  · rw [if_neg h, if_neg h]

theorem sumA_inj {s t : Bs} (hs : s.length = 32) (ht : t.length = 32) : sumA s = sumA t ↔ s = t := by
  refine ⟨fun h => ext_getD (by omega) fun i hi => ?_, fun h => by rw [h]⟩
  have h1 := sumA_get s i (by omega)
  rw [h, sumA_get t i (by omega)] at h1
  have h2 : ((gd t i).toNat : Int) = ((gd s i).toNat : Int) := by simpa using h1
  exact UInt8.toNat_inj.1 (by unfold gd at h2; omega)
theorem gd_raw (id : Bs) (i : Nat) (h : i < 32) : gd (rawL id) i = valD (id.getD (2 * i) 0) <<< 4 ||| valD (id.getD (2 * i + 1) 0) := raw_get id i h
theorem u8s_gd {F : Nat → UInt8} {s : Bs} (h : ∀ i, i < 32 → F i = gd s i) : u8s 32 F = sumA s := u8s_congr h

section
variable {P : Program} {w : World} {g off : Nat} {cs : Array Value} {ty : TypeId} {d : TypeDesc}
/-- Cells in their order, from off on. -/
def At (w : World) (g off : Nat) (cs : Array Value) : Prop := ∀ j v, cs[j]? = some v → w.cell? ⟨g, off + j, none⟩ = some v
/-- A type of many cells. -/
structure Agg (P : Program) (ty : TypeId) (n : Nat) : Prop where
  agg : ∀ w, (isAgg ty).run P w = .ok true w
  size : ∀ w, (Go.sizeOf ty).run P w = .ok n w
  info : (P.info? ty).map (·.size) = some n
theorem agg_of {n : Nat} (hu : P.underlying ty = some d) (hd : (match d with | .struct _ | .array _ _ => true | _ => false) = true) (hi : (P.info? ty).map (·.size) = some n) : Agg P ty n := by
  refine ⟨fun w => ?_, fun w => ?_, hi⟩
  · unfold isAgg
    rw [Sem.run_bind, run_underlying hu w]
    cases d <;> simp_all
  · cases hq : P.info? ty with
    | none => simp [hq] at hi
    | some i =>
      have hs : i.size = n := by simpa [hq] using hi
      simp [Go.sizeOf, typeInfo, hq, hs]
theorem run_load_at (A : Agg P ty cs.size) (h : At w g off cs) : (loadVar ty ⟨g, off, none⟩).run P w = .ok (.agg cs) w := by
  have hl : (loadCells ⟨g, off, none⟩ cs.toList.length).run P w = .ok cs.toList.toArray w :=
    run_loadCells_list (P := P) w ⟨g, off, none⟩ cs.toList (fun j v hv => by
      rw [Go.Proofs.YtdjmcehoaneekaaDoor.add_none]
      exact h j v (by simpa using hv))
  simp only [Array.length_toList, Array.toArray_toList] at hl
  simp [loadVar, Sem.run_bind, A.agg w, A.size w, hl]
theorem loadAt_at (A : Agg P ty cs.size) (h : At w g off cs) : (Instr.loadAt ty (.pointer (some ⟨g, off, none⟩))).run P w = .ok (.agg cs) w := by
  simp only [Instr.loadAt, Instr.sureAddr, Sem.run_bind, Sem.run_pure, Result.andThen_ok, run_load_at A h]
theorem wpList_load_at {ops : Array Oper} {rest : List Oper} {o : Oper} {a : Go.Act} {Q : Exit → Go.Act → World → Prop} (hgd : o.guard = none) (ty : TypeId) (x : Operand) (ho : o.op = .load ty x)
    (g off : Nat) (hx : a.eval x = .pointer (some ⟨g, off, none⟩)) (cs : Array Value) (A : Agg P ty cs.size) (hc : At w g off cs)
    (h : wpList P ops Q rest (a.put o.dst (.agg cs)) w) : wpList P ops Q (o :: rest) a w :=
  wpList_plain hgd fun K hK => by
    unfold Oper.wp execOp
    simp only [ho, hx, Instr.loadAt, Instr.sureAddr, Sem.run_bind, Sem.run_pure, Result.andThen_ok, run_load_at A hc]
    exact hK _ _ h
end
section
variable {w w' : World} {g off : Nat} {cs : Array Value}
theorem At.below {b : Nat} (h : At w g off cs) (hb : Below b w w') (hg : g < b) : At w' g off cs := fun j v hj => by rw [hb.cell (p := ⟨g, off + j, none⟩) hg]; exact h j v hj
theorem Blk.at {t : TypeId} (h : Blk w g t cs) : At w g 0 cs := fun j v hj => by rw [Nat.zero_add, h.cell]; exact hj
end
theorem Blk.rowSum {w : World} {g : Nat} {t : TypeId} {r : Rw} (h : Blk w g t (rowA r)) : At w g 0 (sumA r.sum) := fun j v hj => by
  have hj2 : j < 32 := by rw [← sumA_size r.sum]; exact (Array.getElem?_eq_some_iff.1 hj).1
  rw [Nat.zero_add, h.cell, rowA_sum _ _ hj2]; exact hj
theorem Blk.rowPlace {w : World} {g : Nat} {t : TypeId} {r : Rw} (h : Blk w g t (rowA r)) : w.cell? ⟨g, 32, none⟩ = some (.int .i64 (r.place : Int)) := by rw [h.cell, rowA_place]
theorem aggRow : Agg Tryd.prog 48 33 := agg_of Tryd.underlying48 rfl (by kernel_rfl)
theorem aggSum : Agg Tryd.prog 45 32 := agg_of Tryd.underlying45 rfl (by kernel_rfl)
theorem aggTbl : Agg Tryd.prog 52 257 := agg_of Tryd.underlying52 rfl (by kernel_rfl)
theorem aggInt : Agg Tryd.prog 50 256 := agg_of Tryd.underlying50 rfl (by kernel_rfl)

/-- Rows that a slice has. -/
def RowsR (w : World) (v : Value) (l : List Rw) : Prop := RdK 33 rowC w v l
theorem RowsR.at {w : World} {g o n c : Nat} {l : List Rw} (h : RowsR w (.slice (some ⟨g, o, none⟩) n c) l) (k : Nat) (r : Rw) (hk : l[k]? = some r) : At w g (o + k * 33) (rowA r) := by
  obtain ⟨hlt, _⟩ := List.getElem?_eq_some_iff.1 hk
  rcases h with ⟨_, rfl⟩ | ⟨g', o', c', e, hc, hg, hcell⟩
  · simp at hlt
  · cases e
    intro j v hj
    have hj2 : j < 33 := by rw [← rowA_size r]; exact (Array.getElem?_eq_some_iff.1 hj).1
    rw [hcell k hlt r hk j hj2]
    unfold rowC; rw [Array.getElem?_toList]; exact hj
theorem RowsR.sum {w : World} {g o n c : Nat} {l : List Rw} (h : RowsR w (.slice (some ⟨g, o, none⟩) n c) l) (k : Nat) (r : Rw) (hk : l[k]? = some r) : At w g (o + k * 33) (sumA r.sum) := fun j v hj => by
  have hj2 : j < 32 := by rw [← sumA_size r.sum]; exact (Array.getElem?_eq_some_iff.1 hj).1
  exact h.at k r hk j v (by rw [rowA_sum _ _ hj2]; exact hj)
end Go.Proofs.YtdjmcehoaneekaaDoor.Ix
