/-
  A slice of texts of a length, made; steps whose run is known.
-/
import Derived.Test.YtdjmcehoaneekaaDoorIArg
import Derived.Laws.MakeOwn
namespace Go.Proofs.YtdjmcehoaneekaaDoor.Ix
open Go.Proofs.YtdjmcehoaneekaaDoor
open Go Go.RowKit

/-- Texts as cells. -/
def strsA (l : List Bs) : Array Value := (l.map SV).toArray
theorem made_empty (n : Nat) : madeCells (Value.string ⟨#[]⟩).cells (n * 1) = strsA (List.replicate n []) := by
  rw [Nat.mul_one]
  apply Array.ext
  · rw [size_madeCells]; simp [strsA]
  · intro i h1 h2
    simp [madeCells, strsA, Nat.mod_one, Value.cells]
    rfl
theorem mk_strs (w : World) (n : Nat) (hn : n ≤ 512) : (Instr.makeSlice 22 (.int .i64 (n : Int)) (.int .i64 (n : Int))).run Tryd.prog w = .ok (.slice (some ⟨w.heap.size, 0, none⟩) n n) (w.alloc (.cells (strsA (List.replicate n [])) 9)) := by
  obtain ⟨i, hi⟩ : ∃ i, Tryd.prog.info? 9 = some i := Option.isSome_iff_exists.1 (by kernel_rfl)
  have hi0 : (Tryd.prog.info? 9).map (fun i => (i.zero, i.size, i.bytes)) = some (some (.string ⟨#[]⟩), 1, 16) := by kernel_rfl
  rw [hi] at hi0
  simp only [Option.map_some, Option.some.injEq, Prod.mk.injEq] at hi0
  obtain ⟨hz, hs, hb⟩ := hi0
  have hr := run_make (P := Tryd.prog) w 22 9 i (.string ⟨#[]⟩) Tryd.underlying22 hi hz .i64 .i64 n n (by omega) (by omega) (by rw [hb]; omega) (by omega)
  rw [Int.toNat_natCast, hs, made_empty] at hr
  exact hr
theorem wpList_run {ops : Array Oper} {rest : List Oper} {o : Oper} {a : Go.Act} {w : World} {Q : Exit → Go.Act → World → Prop} (hgd : Region.wanted o (yielded ops a.tmps) = true) (v : Value) (w' : World) (he : (execOp a.eval o).run Tryd.prog w = .ok (.value v) w')
    (h : wpList Tryd.prog ops Q rest (a.put o.dst v) w') : wpList Tryd.prog ops Q (o :: rest) a w :=
  wpList_wanted hgd fun K hK => by
    unfold Oper.wp
    rw [he]
    exact hK _ _ h
theorem y_make {P : Program} {a : Go.Act} {o : Oper} {W W' : World} {t : TypeId} {l c : Operand} {lv cv r : Value} (ho : o.op = .makeSlice t l c) (hl : a.eval l = lv) (hc : a.eval c = cv) (h : (Instr.makeSlice t lv cv).run P W = .ok r W') : (execOp a.eval o).run P W = .ok (.value r) W' := by
  subst hl hc
  simp only [execOp, ho]
  simp [h, Result.andThen]
theorem strsA_get (l : List Bs) (i : Nat) : (strsA l)[i]? = (l[i]?).map SV := by simp [strsA]
theorem strsA_set (l : List Bs) (i : Nat) (x : Bs) : (strsA l).setIfInBounds i (SV x) = strsA (l.set i x) := by
  simp [strsA, List.map_set]
theorem blk_strs {w : World} {g : Nat} {l : List Bs} (h : Blk w g 9 (strsA l)) : StrsR w (.slice (some ⟨g, 0, none⟩) l.length l.length) l := by
  refine .inr ⟨g, 0, l.length, rfl, Nat.le_refl _, h.lt, fun j hj x hx i hi => ?_⟩
  obtain rfl : i = 0 := by omega
  rw [Nat.zero_add, Nat.mul_one, Nat.add_zero, h.cell, strsA_get, hx]
  rfl
theorem rb_take {w : World} {g o c : Nat} {b : Bs} (h : Rb w (.slice (some ⟨g, o, none⟩) b.length c) b) (h0 : 0 < b.length) (k : Nat) (hk : k ≤ b.length) : Rb w (.slice (some ⟨g, o, none⟩) k c) (b.take k) := by
  rcases h with ⟨_, rfl⟩ | ⟨g', o', c', e, hc, hg, hcell⟩
  · simp at h0
  cases e
  refine .inr ⟨g, o, c, by rw [List.length_take, Nat.min_eq_left hk], by rw [List.length_take]; omega, hg, fun j hj => ?_⟩
  rw [List.length_take] at hj
  rw [hcell j (by omega)]
  simp [List.getD_eq_getElem?_getD, show j < k by omega]
theorem bbuild0 (W : World) : (Instr.buildSlice 23 0 #[]).run Tryd.prog W = .ok (.slice (some ⟨W.heap.size, 0, none⟩) 0 0) (W.alloc (.cells #[] 5)) := by
  simp [go_sem]
theorem bbuild1 (W : World) (n : Int) : (Instr.buildSlice 23 1 #[(0, .int .u8 n)]).run Tryd.prog W = .ok (.slice (some ⟨W.heap.size, 0, none⟩) 1 1) (W.alloc (.cells #[.int .u8 n] 5)) := by
  simp [go_sem]
theorem bcut_lo (W : World) (g o n c k : Nat) (hk : k ≤ c) (hc : 0 < c) : (Instr.sliceAt 23 (.slice (some ⟨g, o, none⟩) n c) none (some (.int .i64 (k : Int))) none).run Tryd.prog W = .ok (.slice (some ⟨g, o, none⟩) k c) W := by
  have h1 : (k : Int) ≤ (c : Int) := by omega
  have h2 : ¬ c = 0 := by omega
  simp [go_sem, h1, h2]
theorem ow_new0 (w : World) (base : Nat) (hb : base ≤ w.heap.size) : Dl.Ow (w.alloc (.cells #[] 5)) base (.slice (some ⟨w.heap.size, 0, none⟩) 0 0) [] :=
  ⟨by simp, .inr ⟨w.heap.size, 0, #[], rfl, hb, heap_alloc_new w _, by simp, by simp, by simp, by simp⟩⟩
theorem app_below {w w' : World} {base : Nat} {v v' : Value} {l : Bs} (ho : Dl.Ow w base v l) (h : Dl.AppF w v w' v') (hB : base ≤ w.heap.size) : Below base w w' :=
  ⟨h.1.os, h.1.tape, h.1.output, h.1.size, fun k hk => h.1.block k (by omega) (fun e => by have := (ho.lt k e).1; omega)⟩
theorem readI_len {b : Bs} {rows : List Rw} (h : readI b = some rows) : b.length = 544 + rows.length * 34 := (readI_iff.1 h).len
theorem readI_more {b : Bs} {rows : List Rw} (h : readI b = some rows) (x : UInt8) : readI (b ++ [x]) = none := by
  cases h2 : readI (b ++ [x]) with
  | none => rfl
  | some r2 =>
    have e1 := readI_len h
    have e2 := readI_len h2
    rw [List.length_append, List.length_singleton] at e2
    omega
theorem allB_take {b : Bs} {rows : List Rw} (h : readI b = some rows) (k : Nat) : (allB (b.take k)).length ≤ rows.length := by
  cases h2 : readI (b.take k) with
  | none => rw [allB_none h2]; exact Nat.zero_le _
  | some r2 =>
    rw [allB_some h2]
    have e1 := readI_len h
    have e2 := readI_len h2
    rw [List.length_take] at e2
    unfold allI
    rw [List.length_map]
    omega
theorem geq_str (W : World) (x y : Bs) (h : x < y) : (binOp .geq 9 (.string ⟨x.toArray⟩) (.string ⟨y.toArray⟩)).run Tryd.prog W = .ok (.bool false) W := by
  show (Op.stringOp .geq _ _).run _ _ = _
  have e : Op.bytesLess x y = true := by rw [Go.Proofs.bytesLess_eq]; exact decide_eq_true h
  simp [go_sem, Op.stringOp, e]
end Go.Proofs.YtdjmcehoaneekaaDoor.Ix
