/-
  putInserts, putCopy.
-/
import Derived.Test.YtbgnemephcbgeaaAp
namespace Go.Proofs.Ytbgnemephcbgeaa
open Go Go.RowKit

theorem conv_u8 (W : World) (a r : Int) (h : IntKind.u8.wrap a = r) : (convert 3 5 (.int .i64 a)).run Try.prog W = .ok (.int .u8 r) W := by
  simp [go_sem, h]
theorem bs_u8 (W : World) (a : Int) : (Instr.buildSlice 29 1 #[(0, .int .u8 a)]).run Try.prog W = .ok (.slice (some ⟨W.heap.size, 0, none⟩) 1 1) (W.alloc (.cells #[.int .u8 a] 5)) := by
  simp [go_sem]
theorem cut_two (W : World) (s t : List UInt8) (lo hi : Nat) (h1 : lo ≤ hi) (h2 : hi ≤ s.length) (ht : (⟨s.toArray⟩ : ByteArray).extract lo hi = ⟨t.toArray⟩) : (Instr.sliceAt 9 (.string ⟨s.toArray⟩) (some (.int .i64 (lo : Int))) (some (.int .i64 (hi : Int))) none).run Try.prog W = .ok (.string ⟨t.toArray⟩) W := by
  rw [run_sliceAt_string W _ _ _ _ _ Try.underlying9, run_slice_string W _ _ _ _ _ _ Try.underlying9 (by omega) (by omega) (by show (hi : Int) ≤ (s.length : Int); omega), Int.toNat_natCast, Int.toNat_natCast, ht]
theorem cut_from (W : World) (s t : List UInt8) (lo : Nat) (h1 : lo ≤ s.length) (ht : (⟨s.toArray⟩ : ByteArray).extract lo s.length = ⟨t.toArray⟩) : (Instr.sliceAt 9 (.string ⟨s.toArray⟩) (some (.int .i64 (lo : Int))) none none).run Try.prog W = .ok (.string ⟨t.toArray⟩) W := by
  rw [run_sliceAt_string W _ _ _ _ _ Try.underlying9, run_slice_string_from_if W _ _ _ _ Try.underlying9, if_pos ⟨by omega, by show (lo : Int) ≤ (s.length : Int); omega⟩, Int.toNat_natCast, show (⟨s.toArray⟩ : ByteArray).size = s.length from rfl, ht]
theorem cut_to (W : World) (s : List UInt8) (k : Nat) (h : k ≤ s.length) : (Instr.sliceAt 9 (.string ⟨s.toArray⟩) none (some (.int .i64 (k : Int))) none).run Try.prog W = .ok (.string ⟨(s.take k).toArray⟩) W := by
  rw [run_sliceAt_string W _ _ _ _ _ Try.underlying9, run_slice_string_to_if W _ _ _ _ Try.underlying9, if_pos ⟨by omega, by show (k : Int) ≤ (s.length : Int); omega⟩, Int.toNat_natCast, extract_S]
  simp
section
variable {P : Program} {a : Go.Act} {o : Oper} {W W' : World}
theorem y_app2 {t u : TypeId} {s y : Operand} {sv yv r : Value} (ho : o.op = .call { callee := .builtin .append, args := #[s, y], argTypes := #[t, u] }) (hs : a.eval s = sv) (hy : a.eval y = yv)
    (h : (Builtin.append_ #[t, u] o.type #[sv, yv]).run P W = .ok r W') : (execOp a.eval o).run P W = .ok (.value r) W' := by
  subst hs hy
  simp [execOp, ho, resolve, invoke, builtin, h, Result.andThen]
end
def szV : Value → Nat | .string s => s.size | _ => 0
def AppP (w : World) (B : Nat) (l : List UInt8) (e : Ending) (w' : World) : Prop := ∃ v, e = .returned v ∧ Ow w' B v l ∧ Below B w w'
def AppQ (w : World) (B : Nat) (v : Value) (l : List UInt8) (e : Ending) (w' : World) : Prop := ∃ v', e = .returned v' ∧ Ow w' B v' l ∧ AppF w v w' v'

set_option maxHeartbeats 2000000 in
set_option maxRecDepth 100000 in
theorem putInserts_any {w : World} {B : Nat} {v : Value} {l : List UInt8} (h : Ow w B v l) (hB : B ≤ w.heap.size) (s : List UInt8) (hl : l.length + (ins s).length ≤ 140000000000000) :
    Calls Try.prog 21 #[v, SV s] w (AppQ w B v (l ++ ins s)) := by
  have H0 : Hid (∃ pre, Ow w B v (l ++ pre) ∧ pre ++ ins s = ins s) := Lib.hid ⟨[], by rw [List.append_nil]; exact h, rfl⟩
  have HL := Lib.hid hl; have HB := Lib.hid hB
  have hsz := ins_len _ s (Nat.le_refl _)
  have hs : s.length ≤ 140000000000000 := by omega
  clear h hl hB hsz
  unfold SV
  go_enter Try.func21, Try.ntmps21
  go_wp2
  go_loopw [0, 1, 5] (fun v0 v1 _ wr => ∃ (u0 : Value) (rest : List UInt8), u0 = v0 ∧ v1 = .string ⟨rest.toArray⟩ ∧ Hid (∃ pre, Ow wr B v0 (l ++ pre) ∧ pre ++ ins rest = ins s) ∧ Hid (AppF w v wr u0) ∧ Hid (rest.length ≤ 140000000000000)) (fun _ v1 _ _ => szV v1)
  case atStart => exact ⟨_, s, rfl, rfl, H0, Lib.hid (AppF.refl _ _), Lib.hid hs⟩
  case round =>
    obtain ⟨v0, rest, h0, rfl, HP, LB, HR⟩ := hrel
    subst h0
    clear H0
    have hr := HR.out
    by_cases hlt : 0 < rest.length
    · obtain ⟨m, hm⟩ : ∃ m, m = min rest.length 127 := ⟨_, rfl⟩
      have hmi : min (rest.length : Int) 127 = (m : Int) := by omega
      have hm1 : m ≤ 127 := by omega
      have hm2 : m ≤ rest.length := by omega
      have hm3 : 0 < m := by omega
      obtain ⟨x, hx⟩ : ∃ x, x = UInt8.ofNat m := ⟨_, rfl⟩
      have gx : Hid (IntKind.u8.wrap (m : Int) = (x.toNat : Int)) := Lib.hid (by rw [hx, byte_of (by omega), IntKind.wrap_u8']; omega)
      have hne : rest ≠ [] := by intro e; rw [e] at hlt; simp at hlt
      have hins : ins rest = x :: (rest.take m ++ ins (rest.drop m)) := by
        rw [ins_pos hne, hx, hm]
        by_cases h127 : rest.length ≤ 127
        · rw [Nat.min_eq_left h127, List.take_of_length_le (l := rest) (i := 127) (by omega), List.take_of_length_le (l := rest) (i := rest.length) (by omega), List.drop_of_length_le (by omega), List.drop_of_length_le (by omega)]
        · rw [Nat.min_eq_right (by omega)]
      obtain ⟨pre, ho, hpre⟩ := HP.out
      have hlen : l.length + pre.length + (ins rest).length ≤ 140000000000000 := by
        have := HL.out; rw [← hpre, List.length_append] at this; omega
      have hil : (ins rest).length = 1 + (rest.take m).length + (ins (rest.drop m)).length := by rw [hins]; simp; omega
      obtain ⟨v16, w16, r16, o16, b16⟩ := run_app' (ho.below ((Below.refl wr.heap.size wr).drew.alloc (Nat.le_refl _) (.cells #[.int .u8 (x.toNat : Int)] 5)) (Nat.le_refl _)) (rb_one wr.drew x) (by simp; omega) (by have := LB.out.size; have := HB.out; show B ≤ (wr.drew.alloc _).heap.size; rw [alloc_size]; show B ≤ wr.heap.size + 1; omega) 29
      obtain ⟨v20, w20, r20, o20, b20⟩ := run_apps' o16 (rest.take m) (by simp; omega) (by have := b16.size; have e : (wr.drew.alloc (.cells #[.int .u8 (x.toNat : Int)] 5)).heap.size = wr.heap.size + 1 := alloc_size _ _; have := LB.out.size; have := HB.out; omega) 29
      have H20 : Hid (∃ pre, Ow w20 B v20 (l ++ pre) ∧ pre ++ ins (rest.drop m) = ins s) := Lib.hid ⟨(pre ++ [x]) ++ rest.take m, by rw [← List.append_assoc, ← List.append_assoc]; exact o20, by rw [← hpre, hins]; simp⟩
      have HB20 : Hid (AppF w v w20 v20) := Lib.hid ((LB.out.trans ((AppF.new v0 ((Below.refl _ wr).drew.alloc (Nat.le_refl _) (.cells #[.int .u8 (x.toNat : Int)] 5))).trans b16)).trans b20)
      have HE20 : Hid ((rest.drop m).length ≤ 140000000000000) := Lib.hid (by rw [List.length_drop]; omega)
      have hdrop : Hid ((⟨rest.toArray⟩ : ByteArray).extract m rest.length = ⟨(rest.drop m).toArray⟩) := Lib.hid (by rw [extract_S, List.take_length])
      have HMz : Hid (szV (.string ((⟨rest.toArray⟩ : ByteArray).extract m rest.length)) < szV (.string ⟨rest.toArray⟩)) := Lib.hid (by
        rw [hdrop.out]; show (rest.drop m).length < rest.length; rw [List.length_drop]; omega)
      have r16 := Lib.hid r16; have r20 := Lib.hid r20
      clear hx hne hins ho hpre hlen hil o16 b16 o20 b20 HP hm
      go_upto_region 3 with fail
      refine held_start (fun _ : World => True) (by kernel_rfl) ?_
      refine held_take 0 (v0) rfl (by kernel_rfl) (by kernel_rfl) (by kernel_rfl) (fun _ _ _ h => h) (by kernel_rfl) (fun W hW => by kernel_rfl) (trivial) ?_
      refine held_take 1 (.int .i64 (m : Int)) rfl (by kernel_rfl) (by kernel_rfl) (by kernel_rfl) (fun _ _ _ h => h) (by kernel_rfl) (fun W hW => by kernel_rfl) (trivial) ?_
      refine held_take 2 (.int .u8 (x.toNat : Int)) rfl (by kernel_rfl) (by kernel_rfl) (by kernel_rfl) (fun _ _ _ h => h) (by kernel_rfl) (fun W hW => y_conv (x := .int .i64 (m : Int)) rfl (by kernel_rfl) (conv_u8 W _ _ gx.out)) (trivial) ?_
      refine held_take 5 (.string ⟨rest.toArray⟩) rfl (by kernel_rfl) (by kernel_rfl) (by kernel_rfl) (fun _ _ _ h => h) (by kernel_rfl) (fun W hW => by kernel_rfl) (trivial) ?_
      refine held_take 6 (.int .i64 (m : Int)) rfl (by kernel_rfl) (by kernel_rfl) (by kernel_rfl) (fun _ _ _ h => h) (by kernel_rfl) (fun W hW => by kernel_rfl) (trivial) ?_
      refine held_take 7 (.string ⟨(rest.take m).toArray⟩) rfl (by kernel_rfl) (by kernel_rfl) (by kernel_rfl) (fun _ _ _ h => h) (by kernel_rfl) (fun W hW => y_slice (xv := .string ⟨rest.toArray⟩) (lv := none) (hv := some (.int .i64 (m : Int))) (mv := none) rfl (by kernel_rfl) (by kernel_rfl) (by kernel_rfl) (by kernel_rfl) (cut_to W rest m (by omega))) (trivial) ?_
      refine held_one (i := 3) (by kernel_rfl) ?_
      refine held_op (.slice (some ⟨wr.drew.heap.size, 0, none⟩) 1 1) (wr.drew.alloc (.cells #[.int .u8 (x.toNat : Int)] 5)) rfl (by kernel_rfl) (y_bs (xv := .int .u8 (x.toNat : Int)) rfl (by kernel_rfl) (bs_u8 _ _)) (trivial) ?_
      refine held_one (i := 4) (by kernel_rfl) ?_
      refine held_op (v16) w16 rfl (by kernel_rfl) (y_app2 (sv := v0) (yv := .slice (some ⟨wr.drew.heap.size, 0, none⟩) 1 1) rfl (by kernel_rfl) (by kernel_rfl) r16.out) (trivial) ?_
      refine held_one (i := 8) (by kernel_rfl) ?_
      refine held_op (v20) w20 rfl (by kernel_rfl) (y_app2 (sv := v16) (yv := .string ⟨(rest.take m).toArray⟩) rfl (by kernel_rfl) (by kernel_rfl) r20.out) (trivial) ?_
      refine held_take 9 (v20) rfl (by kernel_rfl) (by kernel_rfl) (by kernel_rfl) (fun _ _ _ h => h) (by kernel_rfl) (fun W hW => by kernel_rfl) (trivial) ?_
      refine held_done _ (by kernel_rfl) ?_
      go_simp
      go_wp2_with fail
      go_roundw
      case rel => exact ⟨_, rest.drop m, rfl, by rw [← hdrop.out], H20, HB20, HE20⟩
      case measure => exact HMz.out
    · have he : rest = [] := List.length_eq_zero_iff.1 (by omega)
      subst he
      have HF : Hid (AppQ w B v (l ++ ins s) (.returned v0) wr) := Lib.hid (by
        obtain ⟨pre, ho, hpre⟩ := HP.out
        rw [ins_nil, List.append_nil] at hpre
        exact ⟨v0, rfl, by rw [← hpre]; exact ho, LB.out⟩)
      clear hlt
      go_wp2
      go_ret
      exact HF.out

set_option maxHeartbeats 2000000 in
set_option maxRecDepth 100000 in
theorem putCopy_any {w : World} {B : Nat} {v : Value} {l : List UInt8} (h : Ow w B v l) (hB : B ≤ w.heap.size) (f n : Nat) (hf : f ≤ 1099511627776) (hn : n ≤ 1099511627776) (hl : l.length ≤ 140000000000000) :
    Calls Try.prog 22 #[v, .int .i64 (f : Int), .int .i64 (n : Int)] w (AppQ w B v (l ++ 128 :: (putL f ++ putL n))) := by
  obtain ⟨w0, hw0⟩ : ∃ w0, w0 = w.alloc (.cells #[.int .u8 128] 5) := ⟨_, rfl⟩
  have b0 : AppF w v w0 v := AppF.new v (by rw [hw0]; exact (Below.refl _ _).alloc (Nat.le_refl _) _)
  have O0 : Hid (Ow w0 B v l) := Lib.hid (by rw [hw0]; exact h.below ((Below.refl w.heap.size w).alloc (Nat.le_refl _) _) (Nat.le_refl _))
  have R0 : Hid (Rb w0 (.slice (some ⟨w.heap.size, 0, none⟩) 1 1) [128]) := Lib.hid (by rw [hw0]; exact rb_one w 128)
  have HF := Lib.hid (fun W => Put_fits f hf W)
  have HN := Lib.hid (fun W => Put_fits n hn W)
  have L6 := Lib.hid (putL_len6 hf); have M6 := Lib.hid (putL_len6 hn)
  have Q0 : Hid (l.length + ([128] : List UInt8).length ≤ 140737488355328) := Lib.hid (by simp; omega)
  have HL := Lib.hid hl
  have S0 : Hid (B ≤ w0.heap.size) := Lib.hid (by rw [hw0, alloc_size]; omega)
  have B0 := Lib.hid b0; have HB := Lib.hid hB
  clear h hB b0 hf hn hl
  subst hw0
  go_enter Try.func22, Try.ntmps22
  go_wp2_with (refine wpList_app' (o := ⟨some 9, _, _, _, _, _⟩) rfl _ _ rfl B _ _ _ _ rfl rfl O0.out R0.out Q0.out S0.out ?_)
  intro v1 w1 o1 b1
  have O1 := Lib.hid o1; have B1 := Lib.hid (B0.out.trans b1)
  clear o1 b1
  go_wp2_with fail
  refine (HF.out _).mono ?_
  rintro e w2 ⟨A2, c2, rfl, r2, b2⟩
  have O2 := Lib.hid (O1.out.below b2 (Nat.le_refl _)); have R2 := Lib.hid r2; have B2 := Lib.hid (B1.out.trans (AppF.new v1 b2))
  have Q2 : Hid ((l ++ [128]).length + (putL f).length ≤ 140737488355328) := Lib.hid (by have := HL.out; have := L6.out; simp; omega)
  have S2 : Hid (B ≤ w2.heap.size) := Lib.hid (by have := B2.out.size; have := HB.out; omega)
  clear r2 b2 O1 B1
  go_wp2_with (refine wpList_app' (o := ⟨some 12, _, _, _, _, _⟩) rfl _ _ rfl B _ _ _ _ rfl rfl O2.out R2.out Q2.out S2.out ?_)
  intro v3 w3 o3 b3
  have O3 := Lib.hid o3; have B3 := Lib.hid (B2.out.trans b3)
  clear o3 b3
  go_wp2_with fail
  refine (HN.out _).mono ?_
  rintro e w4 ⟨A4, c4, rfl, r4, b4⟩
  have O4 := Lib.hid (O3.out.below b4 (Nat.le_refl _)); have R4 := Lib.hid r4; have B4 := Lib.hid (B3.out.trans (AppF.new v3 b4))
  have Q4 : Hid ((l ++ 128 :: putL f).length + (putL n).length ≤ 140737488355328) := Lib.hid (by have := HL.out; have := L6.out; have := M6.out; simp; omega)
  have S4 : Hid (B ≤ w4.heap.size) := Lib.hid (by have := B4.out.size; have := HB.out; omega)
  clear r4 b4 O3 B3
  go_wp2_with (refine wpList_app' (o := ⟨some 16, _, _, _, _, _⟩) rfl _ _ rfl B _ _ _ _ rfl rfl O4.out R4.out Q4.out S4.out ?_)
  intro v5 w5 o5 b5
  have O5 := Lib.hid o5; have B5 := Lib.hid (B4.out.trans b5)
  clear o5 b5
  go_wp2
  go_ret
  exact ⟨v5, rfl, by have := O5.out; simpa using this, B5.out⟩
end Go.Proofs.Ytbgnemephcbgeaa
