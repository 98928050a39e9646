/-
  The document's rounds.
-/
import Derived.Test.YtjbagoedaelmnaaDoorNamed
import Derived.Laws.CopyOwn
namespace Go.Proofs.YtjbagoedaelmnaaDoor
open Go Go.RowKit

theorem zeroRounds : (∀ w, (zeroValue 55).run Tryd.prog w = .ok (.agg (u32s 64 fun _ => 0)) w) ∧ (Tryd.prog.info? 55).map (·.size) = some 64 := zero_of_info (by kernel_rfl)

theorem below_new' (w : World) (o : Obj) : Below w.heap.size w (w.alloc o) := (Below.refl _ w).alloc (Nat.le_refl _) o

theorem wpList_build_to {P : Program} {ops : Array Oper} {rest : List Oper} {o : Oper} {a : Act} {w : World} {Q : Exit → Act → World → Prop} (hg : o.guard = none) (t : TypeId) (parts : Array (Nat × Operand)) (ho : o.op = .build t parts)
    (cells : Array Value) (hf : P.built t (parts.map fun (i, x) => (i, a.eval x)).toList = some cells)
    (h : wpList P ops Q rest (a.put o.dst (.agg cells)) w) : wpList P ops Q (o :: rest) a w := by
  refine wpList_build hg t parts ho (by rw [hf]; rfl) ?_
  rw [hf]
  exact h

set_option maxRecDepth 100000 in
set_option maxHeartbeats 2000000 in
theorem rounds_any (w : World) :
    Calls Tryd.prog 27 #[] w fun e w' => e = .returned (.agg (u32s 64 KF)) ∧ Below w.heap.size w w' := by
  have hz := zeroRounds.1
  go_enter Tryd.func27, Tryd.ntmps27
  have b0 : Blk (w.alloc (Obj.cells (u32s 64 fun _ => 0) 55)) w.heap.size 55 (u32s 64 fun _ => 0) := Blk.new w _ _
  have b1 : Blk (w.alloc (Obj.cells (u32s 64 KF) 55)) w.heap.size 55 (u32s 64 KF) := Blk.new w _ _
  go_wp2_with (first
    | (refine wpList_build_to (o := ⟨some 9, _, _, _, _, _⟩) rfl 55 _ rfl (u32s 64 KF) (by kernel_rfl) ?_)
    | (refine wpList_store_row rfl 55 _ _ rfl w.heap.size (u32s 64 KF) rfl rfl 55 (u32s 64 fun _ => 0) b0 (by rw [u32s_size]; kernel_rfl) (by rw [u32s_size, u32s_size]) (u32s_one 64 KF) ?_; rw [World.setRow_alloc_new]))
  exact bodyPost_ret (v := .agg (u32s 64 KF)) (results_cell_row rfl _ _ w.heap.size 55 (u32s 64 KF) (0, 0) _ rfl b1 Tryd.underlying55 rfl (by rw [u32s_size]; kernel_rfl)) rfl ⟨rfl, below_new' w _⟩
end Go.Proofs.YtjbagoedaelmnaaDoor
