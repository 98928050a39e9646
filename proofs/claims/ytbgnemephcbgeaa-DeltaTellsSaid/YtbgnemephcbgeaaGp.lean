/-
  put, join.
-/
import Derived.Test.YtbgnemephcbgeaaGr
import Derived.BigRegion
import Derived.Deep.Cut
namespace Go.Proofs.Ytbgnemephcbgeaa
open Go Go.RowKit

theorem infoSt : (Try.prog.info? 91).map (fun i => i.size) = some 4 := by kernel_rfl
theorem infoEd : (Try.prog.info? 94).map (fun i => i.size) = some 3 := by kernel_rfl
theorem info_size {o : Option TypeInfo} {n : Nat} (h : o.map (fun i => i.size) = some n) : ∃ i, o = some i ∧ i.size = n := by
  cases o with
  | none => cases h
  | some i => simp only [Option.map_some, Option.some.injEq] at h; exact ⟨i, rfl, h⟩
theorem frozen_of {w : World} {b i : Nat} {cs : Array Value} {t : TypeId} (h : w.heap[b]? = some (.cells cs t (0, 0))) : w.frozen? ⟨b, i, none⟩ = false := by simp [World.frozen?, h]
def stA (s : St) : Array Value := #[.int .i32 (s.longest : Int), .int .i32 (s.fin : Int), .int .i32 s.wider, .int .i32 (s.edge : Int)]
def stG (s : St) : Value := .agg (stA s)
theorem stC_one (s : St) : ∀ u ∈ stC s, u.oneCell' = true := by
  intro u hu
  simp only [stC, List.mem_cons, List.not_mem_nil, or_false] at hu
  rcases hu with rfl | rfl | rfl | rfl <;> rfl
theorem edC_one (e : Ed) : ∀ u ∈ edC e, u.oneCell' = true := by
  intro u hu
  simp only [edC, List.mem_cons, List.not_mem_nil, or_false] at hu
  rcases hu with rfl | rfl | rfl <;> rfl
theorem new_cells (w : World) (cs : Array Value) (t : TypeId) : ∀ j u, cs.toList[j]? = some u → (w.alloc (.cells cs t)).cell? ((⟨w.heap.size, 0, none⟩ : Addr).add j) = some u := by
  intro j u h
  rw [add_none, Nat.zero_add, cell_of_row (w.alloc _) w.heap.size j _ _ _ (heap_alloc_new w _)]
  rwa [Array.getElem?_toList] at h

theorem grC_set0 {sb K eb Ke n : Nat} {C : Cg} {C' : Cg} (hl : C'.st.length = n) (he : C'.ed.length = C.ed.length) (hf : C'.first = C.first) : (grC sb K eb Ke C).setIfInBounds 0 (.slice (some ⟨sb, 0, none⟩) n K) = grC sb K eb Ke C' := by
  unfold grC
  rw [hl, he, hf, List.setIfInBounds_toArray]; rfl

theorem l_box (W : World) (b : Nat) (a0 a1 a2 a3 : Int) (h : W.heap[b]? = some (.cells #[.int .i32 a0, .int .i32 a1, .int .i32 a2, .int .i32 a3] 91 (0, 0))) : (Instr.loadAt 91 (.pointer (some ⟨b, 0, none⟩))).run Try.prog W = .ok (.agg #[.int .i32 a0, .int .i32 a1, .int .i32 a2, .int .i32 a3]) W := by
  have c0 : W.cell? ⟨b, 0, none⟩ = some (.int .i32 a0) := (cell_of_row W b 0 _ _ _ h).trans rfl
  have c1 : W.cell? ⟨b, 1, none⟩ = some (.int .i32 a1) := (cell_of_row W b 1 _ _ _ h).trans rfl
  have c2 : W.cell? ⟨b, 2, none⟩ = some (.int .i32 a2) := (cell_of_row W b 2 _ _ _ h).trans rfl
  have c3 : W.cell? ⟨b, 3, none⟩ = some (.int .i32 a3) := (cell_of_row W b 3 _ _ _ h).trans rfl
  go_simp
theorem l_sl (W : World) (b o : Nat) (A : Option Addr) (n c : Nat) (h : W.cell? ⟨b, o, none⟩ = some (.slice A n c)) : (Instr.loadAt 84 (.pointer (some ⟨b, o, none⟩))).run Try.prog W = .ok (.slice A n c) W := by
  go_simp
theorem l_el (W : World) (b o : Nat) (A : Option Addr) (n c : Nat) (h : W.cell? ⟨b, o, none⟩ = some (.slice A n c)) : (Instr.loadAt 85 (.pointer (some ⟨b, o, none⟩))).run Try.prog W = .ok (.slice A n c) W := by
  go_simp
theorem s_sl (W : World) (b o : Nat) (x : Value) (A : Option Addr) (n c : Nat) (h : W.cell? ⟨b, o, none⟩ = some x) (hf : W.frozen? ⟨b, o, none⟩ = false) : (Instr.storeAt 84 (.pointer (some ⟨b, o, none⟩)) (.slice A n c)).run Try.prog W = .ok () (W.setCell ⟨b, o, none⟩ (.slice A n c)) := by
  go_simp
theorem s_el (W : World) (b o : Nat) (x : Value) (A : Option Addr) (n c : Nat) (h : W.cell? ⟨b, o, none⟩ = some x) (hf : W.frozen? ⟨b, o, none⟩ = false) : (Instr.storeAt 85 (.pointer (some ⟨b, o, none⟩)) (.slice A n c)).run Try.prog W = .ok () (W.setCell ⟨b, o, none⟩ (.slice A n c)) := by
  go_simp

theorem y_bs {P : Program} {a : Go.Act} {o : Oper} {W W' : World} {t : TypeId} {x : Operand} {xv r : Value} (ho : o.op = .buildSlice t 1 #[(0, x)]) (hx : a.eval x = xv) (h : (Instr.buildSlice t 1 #[(0, xv)]).run P W = .ok r W') : (execOp a.eval o).run P W = .ok (.value r) W' := by
  subst hx
  simp only [execOp, ho]
  simp [h, Result.andThen]
theorem bs_st (W W' : World) (a0 a1 a2 a3 : Int) (hW : W' = W.alloc (.cells #[.int .i32 a0, .int .i32 a1, .int .i32 a2, .int .i32 a3] 91)) (g : Nat) (hg : W.heap.size = g) : (Instr.buildSlice 84 1 #[(0, .agg #[.int .i32 a0, .int .i32 a1, .int .i32 a2, .int .i32 a3])]).run Try.prog W = .ok (.slice (some ⟨g, 0, none⟩) 1 1) W' := by
  subst hW hg
  simp [go_sem]
theorem bs_ed (W W' : World) (a0 a1 a2 : Int) (hW : W' = W.alloc (.cells #[.int .u8 a0, .int .i32 a1, .int .i32 a2] 94)) (g : Nat) (hg : W.heap.size = g) : (Instr.buildSlice 85 1 #[(0, .agg #[.int .u8 a0, .int .i32 a1, .int .i32 a2])]).run Try.prog W = .ok (.slice (some ⟨g, 0, none⟩) 1 1) W' := by
  subst hW hg
  simp [go_sem]

def PutPost (B gb sb K eb Ke : Nat) (C' : Cg) (r : Value) (w : World) (e : Ending) (w' : World) : Prop := e = .returned r ∧ GrM w' B gb sb K eb Ke C' ∧ Below B w w'

set_option maxHeartbeats 2000000 in
set_option maxRecDepth 100000 in
theorem put_any {w : World} {B gb sb K eb Ke : Nat} {C : Cg} (h : GrM w B gb sb K eb Ke C) (s : St) (hr : C.st.length + 1 ≤ K) (hs : C.st.length ≤ 2000000) :
    Calls Try.prog 47 #[.pointer (some ⟨gb, 0, none⟩), stG s] w (PutPost B gb sb K eb Ke (C.put s) (.int .i32 (C.st.length : Int)) w) := by
  obtain ⟨a0, ha0⟩ : ∃ a : Int, a = s.longest := ⟨_, rfl⟩
  obtain ⟨a1, ha1⟩ : ∃ a : Int, a = s.fin := ⟨_, rfl⟩
  obtain ⟨a2, ha2⟩ : ∃ a : Int, a = s.wider := ⟨_, rfl⟩
  obtain ⟨a3, ha3⟩ : ∃ a : Int, a = s.edge := ⟨_, rfl⟩
  have hsG : stG s = .agg #[.int .i32 a0, .int .i32 a1, .int .i32 a2, .int .i32 a3] := by unfold stG stA; rw [ha0, ha1, ha2, ha3]
  have hsC : stC s = (#[.int .i32 a0, .int .i32 a1, .int .i32 a2, .int .i32 a3] : Array Value).toList := by unfold stC; rw [ha0, ha1, ha2, ha3]
  rw [hsG]
  obtain ⟨w1, hw1⟩ : ∃ w1, w1 = ((w.alloc (.cells #[.int .i32 a0, .int .i32 a1, .int .i32 a2, .int .i32 a3] 91)).alloc (.cells #[.int .i32 a0, .int .i32 a1, .int .i32 a2, .int .i32 a3] 91)).drew := ⟨_, rfl⟩
  have b1 : Below w.heap.size w w1 := by rw [hw1]; exact ((below_new w _).alloc (by simp) _).drew
  have h1 := h.below b1 (Nat.le_refl _)
  obtain ⟨i0, hi, hk⟩ := info_size infoSt
  obtain ⟨w2, hrun, hst, hg, hz⟩ := h1.st.room (ty := 84) stC_len Try.underlying84 hi hk s (stC_one s) ⟨w.heap.size + 1, 0, none⟩ 1 (by
    rw [hsC, hw1]
    have := new_cells (w.alloc (.cells #[.int .i32 a0, .int .i32 a1, .int .i32 a2, .int .i32 a3] 91)) #[.int .i32 a0, .int .i32 a1, .int .i32 a2, .int .i32 a3] 91
    simpa using this) hr
  have g0 := h.g0
  have hl := h.lt
  have hg2 : w2.heap[gb]? = some (.cells (grC sb K eb Ke C) 88 (0, 0)) := (hg.block gb (by have := b1.size; omega) (by simp; exact h.n1)).trans h1.g
  have c2 : w2.cell? ⟨gb, 0, none⟩ = some (.slice (some ⟨sb, 0, none⟩) C.st.length K) := (cell_of_row w2 gb 0 _ _ _ hg2).trans rfl
  have f2 := frozen_of (i := 0) hg2
  obtain ⟨w3, hw3⟩ : ∃ w3, w3 = w2.setCell ⟨gb, 0, none⟩ (.slice (some ⟨sb, 0, none⟩) (C.st.length + 1) K) := ⟨_, rfl⟩
  have hfin : GrM w3 B gb sb K eb Ke (C.put s) ∧ Below B w w3 := by
    have l1 := h1.lt
    refine ⟨⟨?_, ?_, ?_, h.n1, h.n2, h.n3, h.hB, h.bs, h.be⟩, ?_⟩
    · rw [hw3, blk_setCell hg2, grC_set0 (C := C) (C' := C.put s) (n := C.st.length + 1) (by simp [Cg.put]) rfl rfl]
    · have : (C.put s).st = C.st ++ [s] := rfl
      rw [this, List.length_append, List.length_singleton]
      exact hst.other (by rw [hw3]; exact setCell_other _ _ _ _ _ (fun e => h.n1 e.symm))
    · exact h1.ed.other (by rw [hw3, setCell_other _ _ _ _ _ (fun e => h.n2 e.symm)]; exact hg.block eb l1.2.2 (by simp; exact fun e => h.n3 e.symm))
    · have hB := h.hB; have hbs := h.bs
      refine (b1.mono (by omega)).trans ?_
      refine ⟨by rw [hw3]; exact hg.os, by rw [hw3]; exact hg.tape, by rw [hw3]; exact hg.output, by rw [hw3, size_setCell]; exact hg.size, fun k hk => ?_⟩
      rw [hw3, setCell_other _ _ _ _ _ (by omega)]
      exact hg.block k (by have := b1.size; omega) (by simp; omega)
  have c3 : w3.cell? ⟨gb, 0, none⟩ = some (.slice (some ⟨sb, 0, none⟩) (C.st.length + 1) K) := by
    rw [hfin.1.g0]; unfold Cg.put; simp
  have HF := Lib.hid hfin
  have hz1 : w1.heap.size = w.heap.size + 1 + 1 := by rw [hw1]; simp
  have HB : Hid ((fun W : World => W.heap[w.heap.size]? = some (.cells #[.int .i32 a0, .int .i32 a1, .int .i32 a2, .int .i32 a3] 91 (0, 0))) (w.alloc (.cells #[.int .i32 a0, .int .i32 a1, .int .i32 a2, .int .i32 a3] 91)).drew) := Lib.hid (heap_alloc_new w _)
  have HB1 : Hid ((fun W : World => W.heap[w.heap.size]? = some (.cells #[.int .i32 a0, .int .i32 a1, .int .i32 a2, .int .i32 a3] 91 (0, 0))) w1) := Lib.hid (by rw [hw1]; exact (heap_alloc_old _ _ (by simp)).trans (heap_alloc_new w _))
  have HB2 : Hid ((fun W : World => W.heap[w.heap.size]? = some (.cells #[.int .i32 a0, .int .i32 a1, .int .i32 a2, .int .i32 a3] 91 (0, 0))) w2) := Lib.hid ((hg.block w.heap.size (by rw [hz1]; omega) (by rw [Ne, Option.some.injEq]; have := hl.2.1; omega)).trans HB1.out)
  have HB3 : Hid ((fun W : World => W.heap[w.heap.size]? = some (.cells #[.int .i32 a0, .int .i32 a1, .int .i32 a2, .int .i32 a3] 91 (0, 0))) w3) := Lib.hid (by rw [hw3]; exact (setCell_other _ _ _ _ _ (by have := hl.1; omega)).trans HB2.out)
  have HW1 : Hid (w1 = (w.alloc (.cells #[.int .i32 a0, .int .i32 a1, .int .i32 a2, .int .i32 a3] 91)).drew.alloc (.cells #[.int .i32 a0, .int .i32 a1, .int .i32 a2, .int .i32 a3] 91)) := Lib.hid (by rw [hw1]; rfl)
  have G0 : Hid ((w.alloc (.cells #[.int .i32 a0, .int .i32 a1, .int .i32 a2, .int .i32 a3] 91)).drew.cell? ⟨gb, 0, none⟩ = some (.slice (some ⟨sb, 0, none⟩) C.st.length K)) := Lib.hid ((World.cell?_alloc_lt _ _ ⟨gb, 0, none⟩ hl.1).trans g0)
  have G1 : Hid (w1.cell? ⟨gb, 0, none⟩ = some (.slice (some ⟨sb, 0, none⟩) C.st.length K)) := Lib.hid h1.g0
  have HR := Lib.hid hrun; have C2 := Lib.hid c2; have F2 := Lib.hid f2; have HW3 := Lib.hid hw3
  have hns : (C.st.length : Int) + 1 - 1 = (C.st.length : Int) := by omega
  obtain ⟨n, hn⟩ : ∃ n, n = C.st.length := ⟨_, rfl⟩
  rw [← hn] at G0 G1 HR C2 HW3 c3 hs ⊢
  clear hz1 hfin hst hg hz hi hk h1 b1 hg2 h hl hr hsG hsC ha0 ha1 ha2 ha3 hn hw1 hrun c2 f2 hw3 g0 hns
  have e0 : (w.alloc (.cells #[.int .i32 a0, .int .i32 a1, .int .i32 a2, .int .i32 a3] 91)).drew.heap.size = w.heap.size + 1 := by simp
  have E0 := Lib.hid e0
  clear e0
  go_enter Try.func47, Try.ntmps47
  go_upto_region 1 with fail
  refine held_start (fun W : World => W.heap[w.heap.size]? = some (.cells #[.int .i32 a0, .int .i32 a1, .int .i32 a2, .int .i32 a3] 91 (0, 0))) (by kernel_rfl) ?_
  refine held_take 0 (.pointer (some ⟨gb, 0, none⟩)) rfl (by kernel_rfl) (by kernel_rfl) (by kernel_rfl) (fun _ _ _ h => h) (by kernel_rfl) (fun W hW => by kernel_rfl) HB.out ?_
  refine held_take 1 (.pointer (some ⟨gb, 0, none⟩)) rfl (by kernel_rfl) (by kernel_rfl) (by kernel_rfl) (fun _ _ _ h => h) (by kernel_rfl) (fun W hW => by kernel_rfl) HB.out ?_
  refine held_take 2 (.pointer (some ⟨gb, 0, none⟩)) rfl (by kernel_rfl) (by kernel_rfl) (by kernel_rfl) (fun _ _ _ h => h) (by kernel_rfl) (fun W hW => by kernel_rfl) HB.out ?_
  refine held_take 3 (.pointer (some ⟨gb, 0, none⟩)) rfl (by kernel_rfl) (by kernel_rfl) (by kernel_rfl) (fun _ _ _ h => h) (by kernel_rfl) (fun W hW => by kernel_rfl) HB.out ?_
  refine held_take 5 (.agg #[.int .i32 a0, .int .i32 a1, .int .i32 a2, .int .i32 a3]) rfl (by kernel_rfl) (by kernel_rfl) (by kernel_rfl) (fun _ _ _ h => h) (by kernel_rfl) (fun W hW => y_load (sv := .pointer (some ⟨w.heap.size, 0, none⟩)) rfl (by kernel_rfl) (l_box W _ _ _ _ _ hW)) HB.out ?_
  refine held_two (i := 4) (j := 6) (by kernel_rfl) ?_ ?_
  · refine held_op (.slice (some ⟨sb, 0, none⟩) n K) _ rfl (by kernel_rfl) (y_load (sv := .pointer (some ⟨gb, 0, none⟩)) rfl (by kernel_rfl) (l_sl _ _ _ _ _ _ G0.out)) HB.out ?_
    refine held_one (i := 6) (by kernel_rfl) ?_
    refine held_op (.slice (some ⟨w.heap.size + 1, 0, none⟩) 1 1) w1 rfl (by kernel_rfl) (y_bs (xv := .agg #[.int .i32 a0, .int .i32 a1, .int .i32 a2, .int .i32 a3]) (W' := w1) rfl (by kernel_rfl) (bs_st _ _ _ _ _ _ HW1.out _ E0.out)) HB1.out ?_
    refine held_one (i := 7) (by kernel_rfl) ?_
    refine held_op (.slice (some ⟨sb, 0, none⟩) (n + 1) K) w2 rfl (by kernel_rfl) (y_append (sv := .slice (some ⟨sb, 0, none⟩) n K) (yv := .slice (some ⟨w.heap.size + 1, 0, none⟩) 1 1) rfl (by kernel_rfl) (by kernel_rfl) HR.out) HB2.out ?_
    refine held_take 8 (.pointer (some ⟨gb, 0, none⟩)) rfl (by kernel_rfl) (by kernel_rfl) (by kernel_rfl) (fun _ _ _ h => h) (by kernel_rfl) (fun W hW => by kernel_rfl) HB2.out ?_
    refine held_take 9 (.pointer (some ⟨gb, 0, none⟩)) rfl (by kernel_rfl) (by kernel_rfl) (by kernel_rfl) (fun _ _ _ h => h) (by kernel_rfl) (fun W hW => by kernel_rfl) HB2.out ?_
    refine held_one (i := 10) (by kernel_rfl) ?_
    refine held_store w3 rfl (by kernel_rfl) (y_store (sv := .pointer (some ⟨gb, 0, none⟩)) (xv := .slice (some ⟨sb, 0, none⟩) (n + 1) K) rfl (by kernel_rfl) (by kernel_rfl) (by rw [HW3.out]; exact s_sl _ _ _ _ _ _ _ C2.out F2.out)) HB3.out ?_
    refine held_done _ (by kernel_rfl) ?_
    go_simp
    go_wp2
    go_ret
    exact ⟨rfl, HF.out⟩
  · refine held_op (.slice (some ⟨w.heap.size + 1, 0, none⟩) 1 1) w1 rfl (by kernel_rfl) (y_bs (xv := .agg #[.int .i32 a0, .int .i32 a1, .int .i32 a2, .int .i32 a3]) (W' := w1) rfl (by kernel_rfl) (bs_st _ _ _ _ _ _ HW1.out _ E0.out)) HB1.out ?_
    refine held_one (i := 4) (by kernel_rfl) ?_
    refine held_op (.slice (some ⟨sb, 0, none⟩) n K) _ rfl (by kernel_rfl) (y_load (sv := .pointer (some ⟨gb, 0, none⟩)) rfl (by kernel_rfl) (l_sl _ _ _ _ _ _ G1.out)) HB1.out ?_
    refine held_one (i := 7) (by kernel_rfl) ?_
    refine held_op (.slice (some ⟨sb, 0, none⟩) (n + 1) K) w2 rfl (by kernel_rfl) (y_append (sv := .slice (some ⟨sb, 0, none⟩) n K) (yv := .slice (some ⟨w.heap.size + 1, 0, none⟩) 1 1) rfl (by kernel_rfl) (by kernel_rfl) HR.out) HB2.out ?_
    refine held_take 8 (.pointer (some ⟨gb, 0, none⟩)) rfl (by kernel_rfl) (by kernel_rfl) (by kernel_rfl) (fun _ _ _ h => h) (by kernel_rfl) (fun W hW => by kernel_rfl) HB2.out ?_
    refine held_take 9 (.pointer (some ⟨gb, 0, none⟩)) rfl (by kernel_rfl) (by kernel_rfl) (by kernel_rfl) (fun _ _ _ h => h) (by kernel_rfl) (fun W hW => by kernel_rfl) HB2.out ?_
    refine held_one (i := 10) (by kernel_rfl) ?_
    refine held_store w3 rfl (by kernel_rfl) (y_store (sv := .pointer (some ⟨gb, 0, none⟩)) (xv := .slice (some ⟨sb, 0, none⟩) (n + 1) K) rfl (by kernel_rfl) (by kernel_rfl) (by rw [HW3.out]; exact s_sl _ _ _ _ _ _ _ C2.out F2.out)) HB3.out ?_
    refine held_done _ (by kernel_rfl) ?_
    go_simp
    go_wp2
    go_ret
    exact ⟨rfl, HF.out⟩
end Go.Proofs.Ytbgnemephcbgeaa
