/-
  graphOf: the graph of a base.
-/
import Derived.Test.YtbgnemephcbgeaaLo
import Derived.Laws.MakeOwn
namespace Go.Proofs.Ytbgnemephcbgeaa
open Go Go.RowKit

section
variable {P : Program} {a : Go.Act} {o : Oper} {W W' : World}
theorem y_len {st : TypeId} {s : Operand} {sv r : Value} (ho : o.op = .call { callee := .builtin .len, args := #[s], argTypes := #[st] }) (hs : a.eval s = sv)
    (h : (Builtin.len_ #[st] o.type #[sv]).run P W = .ok r W) : (execOp a.eval o).run P W = .ok (.value r) W := by
  subst hs
  simp [execOp, ho, resolve, invoke, builtin, h, Result.andThen]
theorem y_make {t : TypeId} {l c : Operand} {lv cv r : Value} (ho : o.op = .makeSlice t l c) (hl : a.eval l = lv) (hc : a.eval c = cv) (h : (Instr.makeSlice t lv cv).run P W = .ok r W') : (execOp a.eval o).run P W = .ok (.value r) W' := by
  subst hl hc
  simp only [execOp, ho]
  simp [h, Result.andThen]
theorem y_box {t : TypeId} {x : Operand} {xv r : Value} (ho : o.op = .box t x) (hx : a.eval x = xv) (h : (Instr.box t xv).run P W = .ok r W') : (execOp a.eval o).run P W = .ok (.value r) W' := by
  subst hx
  simp only [execOp, ho]
  simp [h, Result.andThen]
end
theorem len_SV (W : World) (l : Bs) (ty : TypeId) : (Builtin.len_ #[9] ty #[SV l]).run Try.prog W = .ok (.int .i64 (l.length : Int)) W := by
  unfold SV
  go_simp
theorem cast_mul (c n : Nat) : (c : Int) * (n : Int) = ((c * n : Nat) : Int) := by rw [Int.natCast_mul]
theorem mul_i64 (W : World) (c n : Nat) (hc : c ≤ 100) (h : n ≤ 1000000) : (binOp .mul 3 (.int .i64 (c : Int)) (.int .i64 (n : Int))).run Try.prog W = .ok (.int .i64 ((c : Int) * (n : Int))) W := by
  have h1 := Nat.mul_le_mul hc h
  have e : IntKind.i64.wrap ((c : Int) * (n : Int)) = (c : Int) * (n : Int) := by
    rw [cast_mul]
    generalize c * n = x at h1
    rw [IntKind.wrap_i64]; omega
  simp [go_sem, e]
theorem add_i64 (W : World) (c n : Nat) (hc : c ≤ 100) (h : n ≤ 1000000) : (binOp .add 3 (.int .i64 ((c : Int) * (n : Int))) (.int .i64 1)).run Try.prog W = .ok (.int .i64 ((c : Int) * (n : Int) + 1)) W := by
  have h1 := Nat.mul_le_mul hc h
  have e : IntKind.i64.wrap ((c : Int) * (n : Int) + 1) = (c : Int) * (n : Int) + 1 := by
    rw [cast_mul]
    generalize c * n = x at h1
    rw [IntKind.wrap_i64]; omega
  simp [go_sem, e]
theorem alloc_size (W : World) (o : Obj) : (W.alloc o).heap.size = W.heap.size + 1 := Array.size_push o
theorem heap_alloc_at {W W' : World} {o : Obj} {b : Nat} (h : W' = W.alloc o) (hb : W.heap.size = b) : W'.heap[b]? = some o := by rw [h, ← hb]; exact heap_alloc_new _ _
theorem heap_alloc_lo {W W' : World} {o : Obj} {b : Nat} (h : W' = W.alloc o) (hb : b < W.heap.size) : W'.heap[b]? = W.heap[b]? := by
  rw [h]
  show (W.heap.push o)[b]? = _
  rw [Array.getElem?_push, if_neg (by omega)]
theorem heap_alloc_sz {W W' : World} {o : Obj} {b : Nat} (h : W' = W.alloc o) (hb : W.heap.size = b) : W'.heap.size = b + 1 := by rw [h, alloc_size, hb]
def zSt : Value := .agg #[.int .i32 0, .int .i32 0, .int .i32 0, .int .i32 0]
def zEd : Value := .agg #[.int .u8 0, .int .i32 0, .int .i32 0]
theorem infoSt' : (Try.prog.info? 91).map (fun i => (i.zero, i.size, i.bytes)) = some (some zSt, 4, 16) := by kernel_rfl
theorem infoEd' : (Try.prog.info? 94).map (fun i => (i.zero, i.size, i.bytes)) = some (some zEd, 3, 12) := by kernel_rfl
theorem mk_any {W W' : World} {st t : TypeId} {z : Value} {k bt l c b : Nat} (hu : Try.prog.underlying st = some (.slice t)) (hi : (Try.prog.info? t).map (fun i => (i.zero, i.size, i.bytes)) = some (some z, k, bt)) (hlc : l ≤ c) (hb : bt * c ≤ 281474976710656) (hc : c ≤ 9223372036854775807) (hW : W.heap.size = b) (hW' : W' = W.alloc (.cells (madeCells z.cells (c * k)) t)) :
    (Instr.makeSlice st (.int .i64 (l : Int)) (.int .i64 (c : Int))).run Try.prog W = .ok (.slice (some ⟨b, 0, none⟩) l c) W' := by
  obtain ⟨i, hi'⟩ := info_some hi
  obtain ⟨h1, h2, h3⟩ := info_parts' hi' hi
  have hr := run_make (P := Try.prog) W st t i z hu hi' h1 .i64 .i64 l c (by omega) (by omega) (by rw [h3, cast_mul]; exact Int.ofNat_le.2 hb) (by omega)
  rw [Int.toNat_natCast, Int.toNat_natCast, h2, hW, ← hW'] at hr
  exact hr
theorem mk_st (W W' : World) (n : Nat) (hn : n ≤ 1000000) (b : Nat) (hW : W.heap.size = b) (hW' : W' = W.alloc (.cells (madeCells zSt.cells ((2 * n + 1) * 4)) 91)) : (Instr.makeSlice 84 (.int .i64 0) (.int .i64 (2 * (n : Int) + 1))).run Try.prog W = .ok (.slice (some ⟨b, 0, none⟩) 0 (2 * n + 1)) W' :=
  mk_any (l := 0) (c := 2 * n + 1) Try.underlying84 infoSt' (by omega) (by omega) (by omega) hW hW'
theorem mk_ed (W W' : World) (n : Nat) (hn : n ≤ 1000000) (b : Nat) (hW : W.heap.size = b) (hW' : W' = W.alloc (.cells (madeCells zEd.cells ((3 * n + 1) * 3)) 94)) : (Instr.makeSlice 85 (.int .i64 1) (.int .i64 (3 * (n : Int) + 1))).run Try.prog W = .ok (.slice (some ⟨b, 0, none⟩) 1 (3 * n + 1)) W' :=
  mk_any (l := 1) (c := 3 * n + 1) Try.underlying85 infoEd' (by omega) (by omega) (by omega) hW hW'
def cgN : Cg := { st := [], ed := [⟨0, 0, 0⟩], first := fun _ => 0 }
theorem box_gr (W W' : World) (sb eb K Ke g : Nat) (hW : W.heap.size = g) (hW' : W' = W.alloc (.cells (grC sb K eb Ke cgN) 88)) : (Instr.box 88 (.agg (grC sb K eb Ke cgN))).run Try.prog W = .ok (.pointer (some ⟨g, 0, none⟩)) W' := by
  rw [hW', ← hW]
  simp [go_sem]
/-- The graph of a base lies there. -/
def GrB (w : World) (B gb : Nat) (base : Bs) : Prop := ∃ sb K eb Ke C A own, GrM w B gb sb K eb Ke C ∧ Rep C A own ∧ Good base A
theorem GrB.below {w w' : World} {B b gb : Nat} {base : Bs} (h : GrB w B gb base) (hb : Below b w w') (hlt : w.heap.size ≤ b) : GrB w' B gb base := by
  obtain ⟨sb, K, eb, Ke, C, A, own, h1, h2⟩ := h
  exact ⟨sb, K, eb, Ke, C, A, own, h1.below hb hlt, h2⟩
theorem grM_new {W : World} {B sb eb gb n : Nat} (hn : n ≤ 1000000) (hS : W.heap[sb]? = some (.cells (madeCells zSt.cells ((2 * n + 1) * 4)) 91 (0, 0))) (hE : W.heap[eb]? = some (.cells (madeCells zEd.cells ((3 * n + 1) * 3)) 94 (0, 0)))
    (hG : W.heap[gb]? = some (.cells (grC sb (2 * n + 1) eb (3 * n + 1) cgN) 88 (0, 0))) (n1 : gb ≠ sb) (n2 : gb ≠ eb) (n3 : sb ≠ eb) (hB : B ≤ gb) (bs : B ≤ sb) (be : B ≤ eb) : GrM W B gb sb (2 * n + 1) eb (3 * n + 1) cgN := by
  refine ⟨hG, ?_, ?_, n1, n2, n3, hB, bs, be⟩
  · refine ⟨rfl, .inr ⟨sb, 2 * n + 1, _, rfl, bs, hS, Nat.zero_le _, by unfold maxLen; omega, size_madeCells _ _, rfl⟩⟩
  · refine ⟨rfl, .inr ⟨eb, 3 * n + 1, _, rfl, be, hE, by show 1 ≤ _; omega, by unfold maxLen; omega, size_madeCells _ _, ?_⟩⟩
    have e : madeCells zEd.cells ((3 * n + 1) * 3) = (madeCells zEd.cells 3) ++ (madeCells zEd.cells (3 * n * 3)) := by
      unfold madeCells
      rw [show (3 * n + 1) * 3 = 3 + 3 * n * 3 by omega]
      apply Array.ext
      · simp
      · intro i h1 h2
        simp only [Array.getElem_map, Array.getElem_range, Array.getElem_append, Array.size_map, Array.size_range]
        split
        · rfl
        · rename_i h
          have e3 : zEd.cells.size = 3 := by kernel_rfl
          rw [e3, show i % 3 = (i - 3) % 3 by omega]
    rw [e]
    rw [Array.toList_append, List.take_append_of_le_length (by simp [madeCells, cgN])]
    have e2 : List.take 3 (madeCells zEd.cells 3).toList = List.flatMap edC [⟨0, 0, 0⟩] := by
      unfold madeCells
      rw [Array.toList_map, Array.toList_range]
      rfl
    exact e2

set_option maxHeartbeats 4000000 in
set_option maxRecDepth 100000 in
theorem graphOf_any (w : World) (base : Bs) (hb : base.length ≤ 1000000) : Calls Try.prog 37 #[SV base] w fun e w' => ∃ gb, e = .returned (.pointer (some ⟨gb, 0, none⟩)) ∧ GrB w' w.heap.size gb base ∧ Below w.heap.size w w' := by
  obtain ⟨b, hb'⟩ : ∃ b, b = w.heap.size := ⟨_, rfl⟩
  obtain ⟨w1, h1⟩ : ∃ w1, w1 = w.drew.alloc (.cells (madeCells zSt.cells ((2 * base.length + 1) * 4)) 91) := ⟨_, rfl⟩
  obtain ⟨w2, h2⟩ : ∃ w2, w2 = w.drew.alloc (.cells (madeCells zEd.cells ((3 * base.length + 1) * 3)) 94) := ⟨_, rfl⟩
  obtain ⟨w3, h3⟩ : ∃ w3, w3 = w1.alloc (.cells (madeCells zEd.cells ((3 * base.length + 1) * 3)) 94) := ⟨_, rfl⟩
  obtain ⟨w4, h4⟩ : ∃ w4, w4 = w2.alloc (.cells (madeCells zSt.cells ((2 * base.length + 1) * 4)) 91) := ⟨_, rfl⟩
  obtain ⟨w5, h5⟩ : ∃ w5, w5 = w3.alloc (.cells (grC b (2 * base.length + 1) (b + 1) (3 * base.length + 1) cgN) 88) := ⟨_, rfl⟩
  obtain ⟨w6, h6⟩ : ∃ w6, w6 = w4.alloc (.cells (grC (b + 1) (2 * base.length + 1) b (3 * base.length + 1) cgN) 88) := ⟨_, rfl⟩
  have s0 : w.drew.heap.size = b := hb'.symm
  have s1 := heap_alloc_sz h1 s0
  have s2 := heap_alloc_sz h2 s0
  have s3 := heap_alloc_sz h3 s1
  have s4 := heap_alloc_sz h4 s2
  have HA : Hid (GrM w5 w.heap.size (b + 2) b (2 * base.length + 1) (b + 1) (3 * base.length + 1) cgN ∧ Below w.heap.size w w5) := Lib.hid (by
    have k1 := heap_alloc_at h1 s0
    have k3 := heap_alloc_at h3 s1
    have k5 := heap_alloc_at h5 s3
    have l3 := heap_alloc_lo (b := b) h3 (by omega)
    have l5 := heap_alloc_lo (b := b) h5 (by omega)
    have l5' := heap_alloc_lo (b := b + 1) h5 (by omega)
    refine ⟨grM_new hb (l5.trans (l3.trans k1)) (l5'.trans k3) k5 (by omega) (by omega) (by omega) (by omega) (by omega) (by omega), ?_⟩
    have q1 : Below w.heap.size w w1 := by rw [h1]; exact (Below.refl _ w).drew.alloc (by omega) _
    have q3 : Below w.heap.size w w3 := by rw [h3]; exact q1.alloc (by omega) _
    rw [h5]; exact q3.alloc (by omega) _)
  have HB : Hid (GrM w6 w.heap.size (b + 2) (b + 1) (2 * base.length + 1) b (3 * base.length + 1) cgN ∧ Below w.heap.size w w6) := Lib.hid (by
    have k1 := heap_alloc_at h2 s0
    have k3 := heap_alloc_at h4 s2
    have k5 := heap_alloc_at h6 s4
    have l3 := heap_alloc_lo (b := b) h4 (by omega)
    have l5 := heap_alloc_lo (b := b) h6 (by omega)
    have l5' := heap_alloc_lo (b := b + 1) h6 (by omega)
    refine ⟨grM_new hb (l5'.trans k3) (l5.trans (l3.trans k1)) k5 (by omega) (by omega) (by omega) (by omega) (by omega) (by omega), ?_⟩
    have q1 : Below w.heap.size w w2 := by rw [h2]; exact (Below.refl _ w).drew.alloc (by omega) _
    have q3 : Below w.heap.size w w4 := by rw [h4]; exact q1.alloc (by omega) _
    rw [h6]; exact q3.alloc (by omega) _)
  have H1 := Lib.hid h1; have H2 := Lib.hid h2; have H3 := Lib.hid h3; have H4 := Lib.hid h4; have H5 := Lib.hid h5; have H6 := Lib.hid h6
  have Hb0 := Lib.hid s0; have Hb1 := Lib.hid s1; have Hb2 := Lib.hid s2; have Hb3 := Lib.hid s3; have Hb4 := Lib.hid s4
  clear h1 h2 h3 h4 h5 h6 s0 s1 s2 s3 s4 hb'
  go_enter Try.func37, Try.ntmps37
  go_upto_region 1 with fail
  refine held_start (fun _ : World => True) (by kernel_rfl) ?_
  refine held_take 0 (SV base) rfl (by kernel_rfl) (by kernel_rfl) (by kernel_rfl) (fun _ _ _ h => h) (by kernel_rfl) (fun W hW => by kernel_rfl) (trivial) ?_
  refine held_take 1 (.int .i64 (base.length : Int)) rfl (by kernel_rfl) (by kernel_rfl) (by kernel_rfl) (fun _ _ _ h => h) (by kernel_rfl) (fun W hW => y_len (sv := SV base) rfl (by kernel_rfl) (len_SV W base _)) (trivial) ?_
  refine held_take 2 (.int .i64 (2 * (base.length : Int))) rfl (by kernel_rfl) (by kernel_rfl) (by kernel_rfl) (fun _ _ _ h => h) (by kernel_rfl) (fun W hW => y_bin (x := .int .i64 2) (y := .int .i64 (base.length : Int)) rfl (by kernel_rfl) (by kernel_rfl) rfl (mul_i64 W 2 base.length (by omega) (by omega))) (trivial) ?_
  refine held_take 3 (.int .i64 (2 * (base.length : Int) + 1)) rfl (by kernel_rfl) (by kernel_rfl) (by kernel_rfl) (fun _ _ _ h => h) (by kernel_rfl) (fun W hW => y_bin (x := .int .i64 (2 * (base.length : Int))) (y := .int .i64 1) rfl (by kernel_rfl) (by kernel_rfl) rfl (add_i64 W 2 base.length (by omega) (by omega))) (trivial) ?_
  refine held_take 5 (SV base) rfl (by kernel_rfl) (by kernel_rfl) (by kernel_rfl) (fun _ _ _ h => h) (by kernel_rfl) (fun W hW => by kernel_rfl) (trivial) ?_
  refine held_take 6 (.int .i64 (base.length : Int)) rfl (by kernel_rfl) (by kernel_rfl) (by kernel_rfl) (fun _ _ _ h => h) (by kernel_rfl) (fun W hW => y_len (sv := SV base) rfl (by kernel_rfl) (len_SV W base _)) (trivial) ?_
  refine held_take 7 (.int .i64 (3 * (base.length : Int))) rfl (by kernel_rfl) (by kernel_rfl) (by kernel_rfl) (fun _ _ _ h => h) (by kernel_rfl) (fun W hW => y_bin (x := .int .i64 3) (y := .int .i64 (base.length : Int)) rfl (by kernel_rfl) (by kernel_rfl) rfl (mul_i64 W 3 base.length (by omega) (by omega))) (trivial) ?_
  refine held_take 8 (.int .i64 (3 * (base.length : Int) + 1)) rfl (by kernel_rfl) (by kernel_rfl) (by kernel_rfl) (fun _ _ _ h => h) (by kernel_rfl) (fun W hW => y_bin (x := .int .i64 (3 * (base.length : Int))) (y := .int .i64 1) rfl (by kernel_rfl) (by kernel_rfl) rfl (add_i64 W 3 base.length (by omega) (by omega))) (trivial) ?_
  refine held_two (i := 4) (j := 9) (by kernel_rfl) ?_ ?_
  · refine held_op (.slice (some ⟨b, 0, none⟩) 0 (2 * base.length + 1)) w1 rfl (by kernel_rfl) (y_make (lv := .int .i64 0) (cv := .int .i64 (2 * (base.length : Int) + 1)) rfl (by kernel_rfl) (by kernel_rfl) (mk_st _ _ base.length (by omega) _ Hb0.out H1.out)) (trivial) ?_
    refine held_one (i := 9) (by kernel_rfl) ?_
    refine held_op (.slice (some ⟨b + 1, 0, none⟩) 1 (3 * base.length + 1)) w3 rfl (by kernel_rfl) (y_make (lv := .int .i64 1) (cv := .int .i64 (3 * (base.length : Int) + 1)) rfl (by kernel_rfl) (by kernel_rfl) (mk_ed _ _ base.length (by omega) _ Hb1.out H3.out)) (trivial) ?_
    refine held_take 10 (.agg (grC (b) (2 * base.length + 1) (b + 1) (3 * base.length + 1) cgN)) rfl (by kernel_rfl) (by kernel_rfl) (by kernel_rfl) (fun _ _ _ h => h) (by kernel_rfl) (fun W hW => by kernel_rfl) (trivial) ?_
    refine held_one (i := 11) (by kernel_rfl) ?_
    refine held_op (.pointer (some ⟨b + 2, 0, none⟩)) w5 rfl (by kernel_rfl) (y_box (xv := .agg (grC (b) (2 * base.length + 1) (b + 1) (3 * base.length + 1) cgN)) rfl (by kernel_rfl) (box_gr _ _ b (b + 1) (2 * base.length + 1) (3 * base.length + 1) _ Hb3.out H5.out)) (trivial) ?_
    refine held_take 12 (.pointer (some ⟨b + 2, 0, none⟩)) rfl (by kernel_rfl) (by kernel_rfl) (by kernel_rfl) (fun _ _ _ h => h) (by kernel_rfl) (fun W hW => by kernel_rfl) (trivial) ?_
    refine held_done _ (by kernel_rfl) ?_
    go_simp
    unfold SV
    have HPut : Hid (Calls Try.prog 47 #[.pointer (some ⟨b + 2, 0, none⟩), .agg #[.int .i32 0, .int .i32 0, .int .i32 (-1), .int .i32 0]] w5 (PutPost w.heap.size (b + 2) (b) (2 * base.length + 1) (b + 1) (3 * base.length + 1) cg0 (.int .i32 0) w5)) := Lib.hid (put_any HA.out.1 ⟨0, 0, -1, 0⟩ (by show 0 + 1 ≤ _; omega) (by show 0 ≤ _; omega))
    go_wp2_with fail
    refine HPut.out.mono ?_
    rintro e7 w7 ⟨rfl, hg7, hb7⟩
    have HG7 := Lib.hid hg7
    have L7 : Hid (Below w.heap.size w w7) := Lib.hid (HA.out.2.trans hb7)
    clear hg7 hb7 HPut
    go_wp2_with fail
    go_loopw [4, 5, 23] (fun v4 _ v23 wr => ∃ (k last : Nat) (C3 : Cg) (A3 : Au) (own3 : Nat → Nat) (eb3 Ke3 : Nat), v4 = .int .i32 (last : Int) ∧ v23 = .int .i64 (k : Int) ∧ k ≤ base.length ∧ Hid (GrM wr w.heap.size (b + 2) (b) (2 * base.length + 1) eb3 Ke3 C3) ∧ Hid (Below w.heap.size w wr) ∧ Hid (Rep C3 A3 own3) ∧ Hid (Good (base.take k) A3) ∧ Hid (last < A3.n ∧ A3.W last = base.take k ∧ A3.n ≤ 2 * k + 1)) (fun _ _ v23 _ => base.length - (intOf v23).toNat)
    case atStart => exact ⟨0, 0, cg0, au0, fun _ => 0, b + 1, 3 * base.length + 1, rfl, rfl, Nat.zero_le _, HG7, L7, Lib.hid rep0, Lib.hid (by rw [List.take_zero]; exact good0), Lib.hid ⟨by decide, rfl, by decide⟩⟩
    case round =>
      obtain ⟨k, last, C3, A3, own3, eb3, Ke3, rfl, rfl, hk, HG3, L3, HR3, HGd3, HL3⟩ := hrel
      clear HG7 L7
      by_cases hlt : k < base.length
      · obtain ⟨c, hc⟩ : ∃ c, c = base[k] := ⟨_, rfl⟩
        have gc : ∀ h, ((⟨base.toArray⟩ : ByteArray)[k]'h) = c := fun h => hc.symm
        have htk : base.take (k + 1) = base.take k ++ [c] := by rw [List.take_succ_eq_append_getElem hlt, hc]
        have hnC := HR3.out.n
        obtain ⟨hl1, hl2, hl3⟩ := HL3.out
        have HGw := Lib.hid (grow_any c HG3.out HR3.out HGd3.out hl1 hl2 (by rw [List.length_take]; omega) (by omega) (by omega))
        have Htk := Lib.hid htk
        have Hl3 := Lib.hid hl3
        clear hc htk hnC hl1 hl2 hl3 HL3
        go_wp2_with fail
        refine HGw.out.mono ?_
        rintro e8 w8 ⟨x, C8, A8, own8, eb8, Ke8, rfl, hg8, hb8, hR8, hn8, hx8, hW8, hGd8⟩
        rw [← Htk.out] at hGd8 hW8
        have HG8 := Lib.hid hg8; have L8 := Lib.hid (L3.out.trans hb8); have HR8 := Lib.hid hR8; have HGd8 := Lib.hid hGd8
        have HL8 : Hid (x < A8.n ∧ A8.W x = base.take (k + 1) ∧ A8.n ≤ 2 * (k + 1) + 1) := Lib.hid ⟨hx8, hW8, by have := Hl3.out; omega⟩
        clear hg8 hb8 hR8 hn8 hx8 hW8 hGd8 HGw
        go_wp2_with fail
        go_roundw
        case rel => exact ⟨k + 1, x, C8, A8, own8, eb8, Ke8, rfl, by go_num, by omega, HG8, L8, HR8, HGd8, HL8⟩
        case measure => simp [intOf]; omega
      · have hke : base.take k = base := List.take_of_length_le (by omega)
        have HGd : Hid (Good base A3) := Lib.hid (by have := HGd3.out; rwa [hke] at this)
        clear hke
        go_wp2
        go_ret
        exact ⟨b + 2, rfl, ⟨_, _, _, _, C3, A3, own3, HG3.out, HR3.out, HGd.out⟩, L3.out⟩
  · refine held_op (.slice (some ⟨b, 0, none⟩) 1 (3 * base.length + 1)) w2 rfl (by kernel_rfl) (y_make (lv := .int .i64 1) (cv := .int .i64 (3 * (base.length : Int) + 1)) rfl (by kernel_rfl) (by kernel_rfl) (mk_ed _ _ base.length (by omega) _ Hb0.out H2.out)) (trivial) ?_
    refine held_one (i := 4) (by kernel_rfl) ?_
    refine held_op (.slice (some ⟨b + 1, 0, none⟩) 0 (2 * base.length + 1)) w4 rfl (by kernel_rfl) (y_make (lv := .int .i64 0) (cv := .int .i64 (2 * (base.length : Int) + 1)) rfl (by kernel_rfl) (by kernel_rfl) (mk_st _ _ base.length (by omega) _ Hb2.out H4.out)) (trivial) ?_
    refine held_take 10 (.agg (grC (b + 1) (2 * base.length + 1) (b) (3 * base.length + 1) cgN)) rfl (by kernel_rfl) (by kernel_rfl) (by kernel_rfl) (fun _ _ _ h => h) (by kernel_rfl) (fun W hW => by kernel_rfl) (trivial) ?_
    refine held_one (i := 11) (by kernel_rfl) ?_
    refine held_op (.pointer (some ⟨b + 2, 0, none⟩)) w6 rfl (by kernel_rfl) (y_box (xv := .agg (grC (b + 1) (2 * base.length + 1) (b) (3 * base.length + 1) cgN)) rfl (by kernel_rfl) (box_gr _ _ (b + 1) b (2 * base.length + 1) (3 * base.length + 1) _ Hb4.out H6.out)) (trivial) ?_
    refine held_take 12 (.pointer (some ⟨b + 2, 0, none⟩)) rfl (by kernel_rfl) (by kernel_rfl) (by kernel_rfl) (fun _ _ _ h => h) (by kernel_rfl) (fun W hW => by kernel_rfl) (trivial) ?_
    refine held_done _ (by kernel_rfl) ?_
    go_simp
    unfold SV
    have HPut : Hid (Calls Try.prog 47 #[.pointer (some ⟨b + 2, 0, none⟩), .agg #[.int .i32 0, .int .i32 0, .int .i32 (-1), .int .i32 0]] w6 (PutPost w.heap.size (b + 2) (b + 1) (2 * base.length + 1) (b) (3 * base.length + 1) cg0 (.int .i32 0) w6)) := Lib.hid (put_any HB.out.1 ⟨0, 0, -1, 0⟩ (by show 0 + 1 ≤ _; omega) (by show 0 ≤ _; omega))
    go_wp2_with fail
    refine HPut.out.mono ?_
    rintro e7 w7 ⟨rfl, hg7, hb7⟩
    have HG7 := Lib.hid hg7
    have L7 : Hid (Below w.heap.size w w7) := Lib.hid (HB.out.2.trans hb7)
    clear hg7 hb7 HPut
    go_wp2_with fail
    go_loopw [4, 5, 23] (fun v4 _ v23 wr => ∃ (k last : Nat) (C3 : Cg) (A3 : Au) (own3 : Nat → Nat) (eb3 Ke3 : Nat), v4 = .int .i32 (last : Int) ∧ v23 = .int .i64 (k : Int) ∧ k ≤ base.length ∧ Hid (GrM wr w.heap.size (b + 2) (b + 1) (2 * base.length + 1) eb3 Ke3 C3) ∧ Hid (Below w.heap.size w wr) ∧ Hid (Rep C3 A3 own3) ∧ Hid (Good (base.take k) A3) ∧ Hid (last < A3.n ∧ A3.W last = base.take k ∧ A3.n ≤ 2 * k + 1)) (fun _ _ v23 _ => base.length - (intOf v23).toNat)
    case atStart => exact ⟨0, 0, cg0, au0, fun _ => 0, b, 3 * base.length + 1, rfl, rfl, Nat.zero_le _, HG7, L7, Lib.hid rep0, Lib.hid (by rw [List.take_zero]; exact good0), Lib.hid ⟨by decide, rfl, by decide⟩⟩
    case round =>
      obtain ⟨k, last, C3, A3, own3, eb3, Ke3, rfl, rfl, hk, HG3, L3, HR3, HGd3, HL3⟩ := hrel
      clear HG7 L7
      by_cases hlt : k < base.length
      · obtain ⟨c, hc⟩ : ∃ c, c = base[k] := ⟨_, rfl⟩
        have gc : ∀ h, ((⟨base.toArray⟩ : ByteArray)[k]'h) = c := fun h => hc.symm
        have htk : base.take (k + 1) = base.take k ++ [c] := by rw [List.take_succ_eq_append_getElem hlt, hc]
        have hnC := HR3.out.n
        obtain ⟨hl1, hl2, hl3⟩ := HL3.out
        have HGw := Lib.hid (grow_any c HG3.out HR3.out HGd3.out hl1 hl2 (by rw [List.length_take]; omega) (by omega) (by omega))
        have Htk := Lib.hid htk
        have Hl3 := Lib.hid hl3
        clear hc htk hnC hl1 hl2 hl3 HL3
        go_wp2_with fail
        refine HGw.out.mono ?_
        rintro e8 w8 ⟨x, C8, A8, own8, eb8, Ke8, rfl, hg8, hb8, hR8, hn8, hx8, hW8, hGd8⟩
        rw [← Htk.out] at hGd8 hW8
        have HG8 := Lib.hid hg8; have L8 := Lib.hid (L3.out.trans hb8); have HR8 := Lib.hid hR8; have HGd8 := Lib.hid hGd8
        have HL8 : Hid (x < A8.n ∧ A8.W x = base.take (k + 1) ∧ A8.n ≤ 2 * (k + 1) + 1) := Lib.hid ⟨hx8, hW8, by have := Hl3.out; omega⟩
        clear hg8 hb8 hR8 hn8 hx8 hW8 hGd8 HGw
        go_wp2_with fail
        go_roundw
        case rel => exact ⟨k + 1, x, C8, A8, own8, eb8, Ke8, rfl, by go_num, by omega, HG8, L8, HR8, HGd8, HL8⟩
        case measure => simp [intOf]; omega
      · have hke : base.take k = base := List.take_of_length_le (by omega)
        have HGd : Hid (Good base A3) := Lib.hid (by have := HGd3.out; rwa [hke] at this)
        clear hke
        go_wp2
        go_ret
        exact ⟨b + 2, rfl, ⟨_, _, _, _, C3, A3, own3, HG3.out, HR3.out, HGd.out⟩, L3.out⟩
end Go.Proofs.Ytbgnemephcbgeaa
