/-
  The document's inserts.
-/
import Derived.Test.YtbgnemephcbgeaaSt
namespace Go.Proofs.Ytbgnemephcbgeaa
open Go Go.RowKit

def InsP (w : World) (l : List UInt8) (e : Ending) (w' : World) : Prop := ∃ v, e = .returned v ∧ Ow w' w.heap.size v l ∧ Below w.heap.size w w'
set_option maxHeartbeats 2000000 in
set_option maxRecDepth 100000 in
theorem RInserts_any (s : List UInt8) (hs : s.length ≤ 1000000) (w : World) :
    Calls Try.prog 25 #[SV s] w (InsP w (ins s)) := by
  have h : Ow w w.heap.size (.slice none 0 0) [] := Ow.nil w w.heap.size
  obtain ⟨B, hBe⟩ : ∃ B, B = w.heap.size := ⟨_, rfl⟩
  rw [← hBe] at h
  have hB : B ≤ w.heap.size := by omega
  have HBe := Lib.hid hBe
  clear hBe
  obtain ⟨v, hv⟩ : ∃ v, v = Value.slice none 0 0 := ⟨_, rfl⟩
  obtain ⟨l, hl0⟩ : ∃ l, l = ([] : List UInt8) := ⟨_, rfl⟩
  have Hv := Lib.hid hv; have Hl0 := Lib.hid hl0
  rw [← hv, ← hl0] at h
  have hl : l.length + (ins s).length ≤ 140000000000000 := by rw [hl0, ins_len _ s (Nat.le_refl _)]; simp; omega
  clear hl0 hs
  have H0 : Hid (∃ pre, Ow w B v (l ++ pre) ∧ pre ++ ins s = ins s) := Lib.hid ⟨[], by rw [List.append_nil]; exact h, rfl⟩
  have HL := Lib.hid hl; have HB := Lib.hid hB
  have hsz := ins_len _ s (Nat.le_refl _)
  have hs : s.length ≤ 140000000000000 := by omega
  clear h hl hB hsz
  unfold SV
  subst hv
  go_enter Try.func25, Try.ntmps25
  go_wp2
  go_loopw [0, 3, 4] (fun v1 v0 _ wr => ∃ (u0 : Value) (rest : List UInt8), u0 = v0 ∧ v1 = .string ⟨rest.toArray⟩ ∧ Hid (∃ pre, Ow wr B v0 (l ++ pre) ∧ pre ++ ins rest = ins s) ∧ Hid (AppF w (.slice none 0 0) wr u0) ∧ Hid (rest.length ≤ 140000000000000)) (fun v1 _ _ _ => szV v1)
  case atStart => exact ⟨_, s, rfl, rfl, H0, Lib.hid (AppF.refl _ _), Lib.hid hs⟩
  case round =>
    obtain ⟨v0, rest, h0, rfl, HP, LB, HR⟩ := hrel
    subst h0
    clear H0
    have hr := HR.out
    by_cases hlt : 0 < rest.length
    · obtain ⟨m, hm⟩ : ∃ m, m = min rest.length 127 := ⟨_, rfl⟩
      have hmi : min (rest.length : Int) 127 = (m : Int) := by omega
      have hm1 : m ≤ 127 := by omega
      have hm2 : m ≤ rest.length := by omega
      have hm3 : 0 < m := by omega
      obtain ⟨x, hx⟩ : ∃ x, x = UInt8.ofNat m := ⟨_, rfl⟩
      have gx : Hid (IntKind.u8.wrap (m : Int) = (x.toNat : Int)) := Lib.hid (by rw [hx, byte_of (by omega), IntKind.wrap_u8']; omega)
      have hne : rest ≠ [] := by intro e; rw [e] at hlt; simp at hlt
      have hins : ins rest = x :: (rest.take m ++ ins (rest.drop m)) := by
        rw [ins_pos hne, hx, hm]
        by_cases h127 : rest.length ≤ 127
        · rw [Nat.min_eq_left h127, List.take_of_length_le (l := rest) (i := 127) (by omega), List.take_of_length_le (l := rest) (i := rest.length) (by omega), List.drop_of_length_le (by omega), List.drop_of_length_le (by omega)]
        · rw [Nat.min_eq_right (by omega)]
      obtain ⟨pre, ho, hpre⟩ := HP.out
      have hlen : l.length + pre.length + (ins rest).length ≤ 140000000000000 := by
        have := HL.out; rw [← hpre, List.length_append] at this; omega
      have hil : (ins rest).length = 1 + (rest.take m).length + (ins (rest.drop m)).length := by rw [hins]; simp; omega
      obtain ⟨v16, w16, r16, o16, b16⟩ := run_app' (ho.below ((Below.refl wr.heap.size wr).drew.alloc (Nat.le_refl _) (.cells #[.int .u8 (x.toNat : Int)] 5)) (Nat.le_refl _)) (rb_one wr.drew x) (by simp; omega) (by have := LB.out.size; have := HB.out; show B ≤ (wr.drew.alloc _).heap.size; rw [alloc_size]; show B ≤ wr.heap.size + 1; omega) 29
      obtain ⟨v20, w20, r20, o20, b20⟩ := run_apps' o16 (rest.take m) (by simp; omega) (by have := b16.size; have e : (wr.drew.alloc (.cells #[.int .u8 (x.toNat : Int)] 5)).heap.size = wr.heap.size + 1 := alloc_size _ _; have := LB.out.size; have := HB.out; omega) 29
      have H20 : Hid (∃ pre, Ow w20 B v20 (l ++ pre) ∧ pre ++ ins (rest.drop m) = ins s) := Lib.hid ⟨(pre ++ [x]) ++ rest.take m, by rw [← List.append_assoc, ← List.append_assoc]; exact o20, by rw [← hpre, hins]; simp⟩
      have HB20 : Hid (AppF w (.slice none 0 0) w20 v20) := Lib.hid ((LB.out.trans ((AppF.new v0 ((Below.refl _ wr).drew.alloc (Nat.le_refl _) (.cells #[.int .u8 (x.toNat : Int)] 5))).trans b16)).trans b20)
      have HE20 : Hid ((rest.drop m).length ≤ 140000000000000) := Lib.hid (by rw [List.length_drop]; omega)
      have hdrop : Hid ((⟨rest.toArray⟩ : ByteArray).extract m rest.length = ⟨(rest.drop m).toArray⟩) := Lib.hid (by rw [extract_S, List.take_length])
      have HMz : Hid (szV (.string ((⟨rest.toArray⟩ : ByteArray).extract m rest.length)) < szV (.string ⟨rest.toArray⟩)) := Lib.hid (by
        rw [hdrop.out]; show (rest.drop m).length < rest.length; rw [List.length_drop]; omega)
      have r16 := Lib.hid r16; have r20 := Lib.hid r20
      clear hx hne hins ho hpre hlen hil o16 b16 o20 b20 HP hm
      go_upto_region 4 with fail
      refine held_start (fun _ : World => True) (by kernel_rfl) ?_
      refine held_take 0 (v0) rfl (by kernel_rfl) (by kernel_rfl) (by kernel_rfl) (fun _ _ _ h => h) (by kernel_rfl) (fun W hW => by kernel_rfl) (trivial) ?_
      refine held_take 1 (.int .i64 (m : Int)) rfl (by kernel_rfl) (by kernel_rfl) (by kernel_rfl) (fun _ _ _ h => h) (by kernel_rfl) (fun W hW => by kernel_rfl) (trivial) ?_
      refine held_take 2 (.int .u8 (x.toNat : Int)) rfl (by kernel_rfl) (by kernel_rfl) (by kernel_rfl) (fun _ _ _ h => h) (by kernel_rfl) (fun W hW => y_conv (x := .int .i64 (m : Int)) rfl (by kernel_rfl) (conv_u8 W _ _ gx.out)) (trivial) ?_
      refine held_take 5 (.string ⟨rest.toArray⟩) rfl (by kernel_rfl) (by kernel_rfl) (by kernel_rfl) (fun _ _ _ h => h) (by kernel_rfl) (fun W hW => by kernel_rfl) (trivial) ?_
      refine held_take 6 (.int .i64 (m : Int)) rfl (by kernel_rfl) (by kernel_rfl) (by kernel_rfl) (fun _ _ _ h => h) (by kernel_rfl) (fun W hW => by kernel_rfl) (trivial) ?_
      refine held_take 7 (.string ⟨(rest.take m).toArray⟩) rfl (by kernel_rfl) (by kernel_rfl) (by kernel_rfl) (fun _ _ _ h => h) (by kernel_rfl) (fun W hW => y_slice (xv := .string ⟨rest.toArray⟩) (lv := none) (hv := some (.int .i64 (m : Int))) (mv := none) rfl (by kernel_rfl) (by kernel_rfl) (by kernel_rfl) (by kernel_rfl) (cut_to W rest m (by omega))) (trivial) ?_
      refine held_one (i := 3) (by kernel_rfl) ?_
      refine held_op (.slice (some ⟨wr.drew.heap.size, 0, none⟩) 1 1) (wr.drew.alloc (.cells #[.int .u8 (x.toNat : Int)] 5)) rfl (by kernel_rfl) (y_bs (xv := .int .u8 (x.toNat : Int)) rfl (by kernel_rfl) (bs_u8 _ _)) (trivial) ?_
      refine held_one (i := 4) (by kernel_rfl) ?_
      refine held_op (v16) w16 rfl (by kernel_rfl) (y_app2 (sv := v0) (yv := .slice (some ⟨wr.drew.heap.size, 0, none⟩) 1 1) rfl (by kernel_rfl) (by kernel_rfl) r16.out) (trivial) ?_
      refine held_one (i := 8) (by kernel_rfl) ?_
      refine held_op (v20) w20 rfl (by kernel_rfl) (y_app2 (sv := v16) (yv := .string ⟨(rest.take m).toArray⟩) rfl (by kernel_rfl) (by kernel_rfl) r20.out) (trivial) ?_
      refine held_take 9 (v20) rfl (by kernel_rfl) (by kernel_rfl) (by kernel_rfl) (fun _ _ _ h => h) (by kernel_rfl) (fun W hW => by kernel_rfl) (trivial) ?_
      refine held_done _ (by kernel_rfl) ?_
      go_simp
      go_wp2_with fail
      go_roundw
      case rel => exact ⟨_, rest.drop m, rfl, by rw [← hdrop.out], H20, HB20, HE20⟩
      case measure => exact HMz.out
    · have he : rest = [] := List.length_eq_zero_iff.1 (by omega)
      subst he
      have HF : Hid (InsP w (ins s) (.returned v0) wr) := Lib.hid (by
        obtain ⟨pre, ho, hpre⟩ := HP.out
        rw [ins_nil, List.append_nil] at hpre
        rw [← hpre]
        rw [Hl0.out, List.nil_append, HBe.out] at ho
        exact ⟨v0, rfl, ho, LB.out.1.below (fun k _ hk => by cases hk) (Nat.le_refl _)⟩)
      clear hlt
      go_wp2
      go_ret
      exact HF.out

end Go.Proofs.Ytbgnemephcbgeaa
