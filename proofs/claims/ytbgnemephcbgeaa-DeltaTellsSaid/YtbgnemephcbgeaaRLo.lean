/-
  The document's longest.
-/
import Derived.Test.YtbgnemephcbgeaaSteps
namespace Go.Proofs.Ytbgnemephcbgeaa
open Go Go.RowKit

section
variable {P : Program} {a : Go.Act} {o : Oper} {W : World}
theorem y_idx {t : TypeId} {s i : Operand} {sv iv r : Value} (ho : o.op = .index t s i) (hs : a.eval s = sv) (hi : a.eval i = iv) (h : (Instr.index t sv iv).run P W = .ok r W) : (execOp a.eval o).run P W = .ok (.value r) W := by
  subst hs hi
  simp only [execOp, ho]
  simp [h, Result.andThen]
end
theorem idx_one (W : World) (s : Bs) (k : Nat) (c : UInt8) (h : s[k]? = some c) : (Instr.index 9 (.string ⟨s.toArray⟩) (.int .i64 (k : Int))).run Try.prog W = .ok (.int .u8 (c.toNat : Int)) W := by
  obtain ⟨hk, hc⟩ := List.getElem?_eq_some_iff.1 h
  have gc : ∀ h, ((⟨s.toArray⟩ : ByteArray)[k]'h) = c := fun h => hc
  have h2 : (k : Int) < (s.length : Int) := by omega
  simp [go_sem, h2, gc]
theorem idx_sum (W : World) (s : Bs) (i n : Nat) (c : UInt8) (h : s[i + n]? = some c) : (Instr.index 9 (.string ⟨s.toArray⟩) (.int .i64 ((i : Int) + (n : Int)))).run Try.prog W = .ok (.int .u8 (c.toNat : Int)) W := by
  rw [← Int.natCast_add]; exact idx_one W s (i + n) c h
theorem lss_b (W : World) (a b : Int) (c : Bool) (h : decide (a < b) = c) : (binOp .lss 3 (.int .i64 a) (.int .i64 b)).run Try.prog W = .ok (.bool c) W := by
  rw [← h]
  simp [go_sem]
theorem eql_b (W : World) (x y : UInt8) (c : Bool) (h : decide (x = y) = c) : (binOp .eql 5 (.int .u8 (x.toNat : Int)) (.int .u8 (y.toNat : Int))).run Try.prog W = .ok (.bool c) W := by
  have e : ((x.toNat : Int) == (y.toNat : Int)) = c := by
    rw [← h]
    by_cases hxy : x = y
    · subst hxy; simp
    · have : x.toNat ≠ y.toNat := fun e => hxy (UInt8.toNat_inj.1 e)
      rw [decide_eq_false hxy, beq_eq_false_iff_ne]; omega
  simp [go_sem, e]
theorem lcp_step {base left : Bs} {i n : Nat} {x y : UInt8} (hn : n ≤ lcp (base.drop i) left) (h1 : base[i + n]? = some x) (h2 : left[n]? = some y) : n < lcp (base.drop i) left ↔ x = y := by
  obtain ⟨k1, rfl⟩ := List.getElem?_eq_some_iff.1 h1
  obtain ⟨k2, rfl⟩ := List.getElem?_eq_some_iff.1 h2
  obtain ⟨_, _, h3⟩ := (le_lcp n _ _).1 hn
  have hd : n < (base.drop i).length := by rw [List.length_drop]; omega
  have e1 : (base.drop i).take (n + 1) = (base.drop i).take n ++ [base[i + n]] := by rw [List.take_succ_eq_append_getElem hd, List.getElem_drop]
  have e2 : left.take (n + 1) = left.take n ++ [left[n]] := List.take_succ_eq_append_getElem k2
  rw [Nat.lt_iff_add_one_le, le_lcp, e1, e2, h3]
  constructor
  · rintro ⟨_, _, h⟩; exact (List.cons.inj (List.append_cancel_left h)).1
  · intro h; exact ⟨hd, k2, by rw [h]⟩

def LngP (base left : Bs) (w : World) (e : Ending) (w' : World) : Prop := e = .returned (.tuple #[.int .i64 ((lng base left).1 : Int), .int .i64 ((lng base left).2 : Int)]) ∧ Below w.heap.size w w'

set_option maxHeartbeats 4000000 in
set_option maxRecDepth 100000 in
theorem RLongest_any (base left : Bs) (hb : base.length ≤ 100000) (hl : left.length ≤ 100000) (w : World) :
    Calls Try.prog 24 #[SV base, SV left] w (LngP base left w) := by
  unfold SV
  go_enter Try.func24, Try.ntmps24
  go_wp2
  go_loopw [6, 7, 8, 9] (fun v6 v7 v8 _ wr => ∃ (f m i : Nat), v6 = .int .i64 (f : Int) ∧ v7 = .int .i64 (m : Int) ∧ v8 = .int .i64 (i : Int) ∧ i ≤ base.length ∧ Hid (rl base left i = (f, m)) ∧ Hid (Below w.heap.size w wr)) (fun _ _ v8 _ _ => base.length - (intOf v8).toNat)
  case atStart => exact ⟨0, 0, 0, rfl, rfl, rfl, Nat.zero_le _, Lib.hid rfl, Lib.hid (Below.refl _ _)⟩
  case round =>
    obtain ⟨f, m, i, rfl, rfl, rfl, hi, HF, HB⟩ := hrel
    by_cases hlt : i < base.length
    · obtain ⟨L, hL⟩ : ∃ L, L = lcp (base.drop i) left := ⟨_, rfl⟩
      have hLl : L ≤ left.length := by rw [hL]; exact lcp_le_right _ _
      have hLb : i + L ≤ base.length := by have := lcp_le_left (base.drop i) left; rw [← hL, List.length_drop] at this; omega
      have HL := Lib.hid hL
      clear hL
      go_wp2
      go_loopw [9] (fun v9 wi => ∃ n : Nat, v9 = .int .i64 (n : Int) ∧ n ≤ L ∧ Hid (Below w.heap.size w wi)) (fun v9 _ => L - (intOf v9).toNat)
      case atStart => exact ⟨0, rfl, Nat.zero_le _, HB⟩
      case round =>
        clear HB
        obtain ⟨n, rfl, hn, HB⟩ := hrel
        have LD : Below wr.heap.size wr wr.drew := (Below.refl _ _).drew
        have HLd : Hid (Below w.heap.size w wr.drew) := Lib.hid HB.out.drew
        go_upto_region 7 with fail
        go_cut [38] from 16 to 40 (fun v38 wx => ∃ q : Bool, v38 = .bool q ∧ Hid (q = decide (n < L)) ∧ Hid (Below w.heap.size w wx))
        case first =>
          by_cases h1 : i + n < base.length
          · have k1 : decide ((i : Int) + (n : Int) < (base.length : Int)) = true := decide_eq_true (by omega)
            by_cases h2 : n < left.length
            · have k2 : decide ((n : Int) < (left.length : Int)) = true := decide_eq_true (by omega)
              obtain ⟨x, hx⟩ : ∃ x, base[i + n]? = some x := ⟨_, List.getElem?_eq_getElem h1⟩
              obtain ⟨y, hy⟩ : ∃ y, left[n]? = some y := ⟨_, List.getElem?_eq_getElem h2⟩
              have gx := Lib.hid hx; have gy := Lib.hid hy
              obtain ⟨q, hq⟩ : ∃ q, decide (x = y) = q := ⟨_, rfl⟩
              have HQ : Hid (q = decide (n < L)) := Lib.hid (by
                rw [← hq, HL.out]; exact decide_eq_decide.2 (lcp_step (by rw [← HL.out]; exact hn) hx hy).symm)
              have gq := Lib.hid hq
              clear hx hy hq
              refine held_start (fun W : World => Below wr.drew.heap.size wr.drew W) (by kernel_rfl) ?_
              refine held_take 0 (.int .i64 (i : Int)) rfl (by kernel_rfl) (by kernel_rfl) (by kernel_rfl) (fun _ _ _ h => h) (by kernel_rfl) (fun W hW => by kernel_rfl) (Below.refl _ _) ?_
              refine held_take 1 (.int .i64 (n : Int)) rfl (by kernel_rfl) (by kernel_rfl) (by kernel_rfl) (fun _ _ _ h => h) (by kernel_rfl) (fun W hW => by kernel_rfl) (Below.refl _ _) ?_
              refine held_take 2 (.int .i64 ((i : Int) + (n : Int))) rfl (by kernel_rfl) (by kernel_rfl) (by kernel_rfl) (fun _ _ _ h => h) (by kernel_rfl) (fun W hW => y_bin (x := .int .i64 (i : Int)) (y := .int .i64 (n : Int)) rfl (by kernel_rfl) (by kernel_rfl) rfl (addn_i64 W i n (by omega) (by omega))) (Below.refl _ _) ?_
              refine held_take 3 (.string ⟨base.toArray⟩) rfl (by kernel_rfl) (by kernel_rfl) (by kernel_rfl) (fun _ _ _ h => h) (by kernel_rfl) (fun W hW => by kernel_rfl) (Below.refl _ _) ?_
              refine held_take 4 (.int .i64 (base.length : Int)) rfl (by kernel_rfl) (by kernel_rfl) (by kernel_rfl) (fun _ _ _ h => h) (by kernel_rfl) (fun W hW => y_len (sv := .string ⟨base.toArray⟩) rfl (by kernel_rfl) (len_SV W base _)) (Below.refl _ _) ?_
              refine held_take 5 (.bool true) rfl (by kernel_rfl) (by kernel_rfl) (by kernel_rfl) (fun _ _ _ h => h) (by kernel_rfl) (fun W hW => y_bin (x := .int .i64 ((i : Int) + (n : Int))) (y := .int .i64 (base.length : Int)) rfl (by kernel_rfl) (by kernel_rfl) rfl (lss_b W _ _ _ k1)) (Below.refl _ _) ?_
              refine held_take 6 (.bool true) rfl (by kernel_rfl) (by kernel_rfl) (by kernel_rfl) (fun _ _ _ h => h) (by kernel_rfl) (fun W hW => by kernel_rfl) (Below.refl _ _) ?_
              refine held_take 7 (.int .i64 (n : Int)) rfl (by kernel_rfl) (by kernel_rfl) (by kernel_rfl) (fun _ _ _ h => h) (by kernel_rfl) (fun W hW => by kernel_rfl) (Below.refl _ _) ?_
              refine held_take 8 (.string ⟨left.toArray⟩) rfl (by kernel_rfl) (by kernel_rfl) (by kernel_rfl) (fun _ _ _ h => h) (by kernel_rfl) (fun W hW => by kernel_rfl) (Below.refl _ _) ?_
              refine held_take 9 (.int .i64 (left.length : Int)) rfl (by kernel_rfl) (by kernel_rfl) (by kernel_rfl) (fun _ _ _ h => h) (by kernel_rfl) (fun W hW => y_len (sv := .string ⟨left.toArray⟩) rfl (by kernel_rfl) (len_SV W left _)) (Below.refl _ _) ?_
              refine held_take 10 (.bool true) rfl (by kernel_rfl) (by kernel_rfl) (by kernel_rfl) (fun _ _ _ h => h) (by kernel_rfl) (fun W hW => y_bin (x := .int .i64 (n : Int)) (y := .int .i64 (left.length : Int)) rfl (by kernel_rfl) (by kernel_rfl) rfl (lss_b W _ _ _ k2)) (Below.refl _ _) ?_
              refine held_take 11 (.bool true) rfl (by kernel_rfl) (by kernel_rfl) (by kernel_rfl) (fun _ _ _ h => h) (by kernel_rfl) (fun W hW => by kernel_rfl) (Below.refl _ _) ?_
              refine held_take 12 (.bool true) rfl (by kernel_rfl) (by kernel_rfl) (by kernel_rfl) (fun _ _ _ h => h) (by kernel_rfl) (fun W hW => by kernel_rfl) (Below.refl _ _) ?_
              refine held_take 13 (.string ⟨base.toArray⟩) rfl (by kernel_rfl) (by kernel_rfl) (by kernel_rfl) (fun _ _ _ h => h) (by kernel_rfl) (fun W hW => by kernel_rfl) (Below.refl _ _) ?_
              refine held_take 14 (.int .i64 (i : Int)) rfl (by kernel_rfl) (by kernel_rfl) (by kernel_rfl) (fun _ _ _ h => h) (by kernel_rfl) (fun W hW => by kernel_rfl) (Below.refl _ _) ?_
              refine held_take 15 (.int .i64 (n : Int)) rfl (by kernel_rfl) (by kernel_rfl) (by kernel_rfl) (fun _ _ _ h => h) (by kernel_rfl) (fun W hW => by kernel_rfl) (Below.refl _ _) ?_
              refine held_take 16 (.int .i64 ((i : Int) + (n : Int))) rfl (by kernel_rfl) (by kernel_rfl) (by kernel_rfl) (fun _ _ _ h => h) (by kernel_rfl) (fun W hW => y_bin (x := .int .i64 (i : Int)) (y := .int .i64 (n : Int)) rfl (by kernel_rfl) (by kernel_rfl) rfl (addn_i64 W i n (by omega) (by omega))) (Below.refl _ _) ?_
              refine held_take 17 (.int .u8 (x.toNat : Int)) rfl (by kernel_rfl) (by kernel_rfl) (by kernel_rfl) (fun _ _ _ h => h) (by kernel_rfl) (fun W hW => y_idx (sv := .string ⟨base.toArray⟩) (iv := .int .i64 ((i : Int) + (n : Int))) rfl (by kernel_rfl) (by kernel_rfl) (idx_sum W base i n x gx.out)) (Below.refl _ _) ?_
              refine held_take 18 (.string ⟨left.toArray⟩) rfl (by kernel_rfl) (by kernel_rfl) (by kernel_rfl) (fun _ _ _ h => h) (by kernel_rfl) (fun W hW => by kernel_rfl) (Below.refl _ _) ?_
              refine held_take 19 (.int .i64 (n : Int)) rfl (by kernel_rfl) (by kernel_rfl) (by kernel_rfl) (fun _ _ _ h => h) (by kernel_rfl) (fun W hW => by kernel_rfl) (Below.refl _ _) ?_
              refine held_take 20 (.int .u8 (y.toNat : Int)) rfl (by kernel_rfl) (by kernel_rfl) (by kernel_rfl) (fun _ _ _ h => h) (by kernel_rfl) (fun W hW => y_idx (sv := .string ⟨left.toArray⟩) (iv := .int .i64 (n : Int)) rfl (by kernel_rfl) (by kernel_rfl) (idx_one W left n y gy.out)) (Below.refl _ _) ?_
              refine held_take 21 (.bool q) rfl (by kernel_rfl) (by kernel_rfl) (by kernel_rfl) (fun _ _ _ h => h) (by kernel_rfl) (fun W hW => y_bin (x := .int .u8 (x.toNat : Int)) (y := .int .u8 (y.toNat : Int)) rfl (by kernel_rfl) (by kernel_rfl) rfl (eql_b W x y q gq.out)) (Below.refl _ _) ?_
              refine held_take 22 (.bool q) rfl (by kernel_rfl) (by kernel_rfl) (by kernel_rfl) (fun _ _ _ h => h) (by kernel_rfl) (fun W hW => by kernel_rfl) (Below.refl _ _) ?_
              refine held_done _ (by kernel_rfl) ?_
              go_simp
              go_wp2
              go_meet
              case rel => exact ⟨_, rfl, HQ, HLd⟩
            · have k2 : decide ((n : Int) < (left.length : Int)) = false := decide_eq_false (by omega)
              have HQ : Hid (false = decide (n < L)) := Lib.hid (decide_eq_false (by omega)).symm
              refine held_start (fun W : World => Below wr.drew.heap.size wr.drew W) (by kernel_rfl) ?_
              refine held_take 0 (.int .i64 (i : Int)) rfl (by kernel_rfl) (by kernel_rfl) (by kernel_rfl) (fun _ _ _ h => h) (by kernel_rfl) (fun W hW => by kernel_rfl) (Below.refl _ _) ?_
              refine held_take 1 (.int .i64 (n : Int)) rfl (by kernel_rfl) (by kernel_rfl) (by kernel_rfl) (fun _ _ _ h => h) (by kernel_rfl) (fun W hW => by kernel_rfl) (Below.refl _ _) ?_
              refine held_take 2 (.int .i64 ((i : Int) + (n : Int))) rfl (by kernel_rfl) (by kernel_rfl) (by kernel_rfl) (fun _ _ _ h => h) (by kernel_rfl) (fun W hW => y_bin (x := .int .i64 (i : Int)) (y := .int .i64 (n : Int)) rfl (by kernel_rfl) (by kernel_rfl) rfl (addn_i64 W i n (by omega) (by omega))) (Below.refl _ _) ?_
              refine held_take 3 (.string ⟨base.toArray⟩) rfl (by kernel_rfl) (by kernel_rfl) (by kernel_rfl) (fun _ _ _ h => h) (by kernel_rfl) (fun W hW => by kernel_rfl) (Below.refl _ _) ?_
              refine held_take 4 (.int .i64 (base.length : Int)) rfl (by kernel_rfl) (by kernel_rfl) (by kernel_rfl) (fun _ _ _ h => h) (by kernel_rfl) (fun W hW => y_len (sv := .string ⟨base.toArray⟩) rfl (by kernel_rfl) (len_SV W base _)) (Below.refl _ _) ?_
              refine held_take 5 (.bool true) rfl (by kernel_rfl) (by kernel_rfl) (by kernel_rfl) (fun _ _ _ h => h) (by kernel_rfl) (fun W hW => y_bin (x := .int .i64 ((i : Int) + (n : Int))) (y := .int .i64 (base.length : Int)) rfl (by kernel_rfl) (by kernel_rfl) rfl (lss_b W _ _ _ k1)) (Below.refl _ _) ?_
              refine held_take 6 (.bool true) rfl (by kernel_rfl) (by kernel_rfl) (by kernel_rfl) (fun _ _ _ h => h) (by kernel_rfl) (fun W hW => by kernel_rfl) (Below.refl _ _) ?_
              refine held_take 7 (.int .i64 (n : Int)) rfl (by kernel_rfl) (by kernel_rfl) (by kernel_rfl) (fun _ _ _ h => h) (by kernel_rfl) (fun W hW => by kernel_rfl) (Below.refl _ _) ?_
              refine held_take 8 (.string ⟨left.toArray⟩) rfl (by kernel_rfl) (by kernel_rfl) (by kernel_rfl) (fun _ _ _ h => h) (by kernel_rfl) (fun W hW => by kernel_rfl) (Below.refl _ _) ?_
              refine held_take 9 (.int .i64 (left.length : Int)) rfl (by kernel_rfl) (by kernel_rfl) (by kernel_rfl) (fun _ _ _ h => h) (by kernel_rfl) (fun W hW => y_len (sv := .string ⟨left.toArray⟩) rfl (by kernel_rfl) (len_SV W left _)) (Below.refl _ _) ?_
              refine held_take 10 (.bool false) rfl (by kernel_rfl) (by kernel_rfl) (by kernel_rfl) (fun _ _ _ h => h) (by kernel_rfl) (fun W hW => y_bin (x := .int .i64 (n : Int)) (y := .int .i64 (left.length : Int)) rfl (by kernel_rfl) (by kernel_rfl) rfl (lss_b W _ _ _ k2)) (Below.refl _ _) ?_
              refine held_take 11 (.bool false) rfl (by kernel_rfl) (by kernel_rfl) (by kernel_rfl) (fun _ _ _ h => h) (by kernel_rfl) (fun W hW => by kernel_rfl) (Below.refl _ _) ?_
              refine held_take 12 (.bool false) rfl (by kernel_rfl) (by kernel_rfl) (by kernel_rfl) (fun _ _ _ h => h) (by kernel_rfl) (fun W hW => by kernel_rfl) (Below.refl _ _) ?_
              refine held_skip 13 rfl (by kernel_rfl) (by kernel_rfl) (by kernel_rfl) (fun _ _ _ h => h) (by kernel_rfl) (Below.refl _ _) ?_
              refine held_skip 14 rfl (by kernel_rfl) (by kernel_rfl) (by kernel_rfl) (fun _ _ _ h => h) (by kernel_rfl) (Below.refl _ _) ?_
              refine held_skip 15 rfl (by kernel_rfl) (by kernel_rfl) (by kernel_rfl) (fun _ _ _ h => h) (by kernel_rfl) (Below.refl _ _) ?_
              refine held_skip 16 rfl (by kernel_rfl) (by kernel_rfl) (by kernel_rfl) (fun _ _ _ h => h) (by kernel_rfl) (Below.refl _ _) ?_
              refine held_skip 17 rfl (by kernel_rfl) (by kernel_rfl) (by kernel_rfl) (fun _ _ _ h => h) (by kernel_rfl) (Below.refl _ _) ?_
              refine held_skip 18 rfl (by kernel_rfl) (by kernel_rfl) (by kernel_rfl) (fun _ _ _ h => h) (by kernel_rfl) (Below.refl _ _) ?_
              refine held_skip 19 rfl (by kernel_rfl) (by kernel_rfl) (by kernel_rfl) (fun _ _ _ h => h) (by kernel_rfl) (Below.refl _ _) ?_
              refine held_skip 20 rfl (by kernel_rfl) (by kernel_rfl) (by kernel_rfl) (fun _ _ _ h => h) (by kernel_rfl) (Below.refl _ _) ?_
              refine held_skip 21 rfl (by kernel_rfl) (by kernel_rfl) (by kernel_rfl) (fun _ _ _ h => h) (by kernel_rfl) (Below.refl _ _) ?_
              refine held_take 22 (.bool false) rfl (by kernel_rfl) (by kernel_rfl) (by kernel_rfl) (fun _ _ _ h => h) (by kernel_rfl) (fun W hW => by kernel_rfl) (Below.refl _ _) ?_
              refine held_done _ (by kernel_rfl) ?_
              go_simp
              go_wp2
              go_meet
              case rel => exact ⟨_, rfl, HQ, HLd⟩
          · have k1 : decide ((i : Int) + (n : Int) < (base.length : Int)) = false := decide_eq_false (by omega)
            have HQ : Hid (false = decide (n < L)) := Lib.hid (decide_eq_false (by omega)).symm
            refine held_start (fun W : World => Below wr.drew.heap.size wr.drew W) (by kernel_rfl) ?_
            refine held_take 0 (.int .i64 (i : Int)) rfl (by kernel_rfl) (by kernel_rfl) (by kernel_rfl) (fun _ _ _ h => h) (by kernel_rfl) (fun W hW => by kernel_rfl) (Below.refl _ _) ?_
            refine held_take 1 (.int .i64 (n : Int)) rfl (by kernel_rfl) (by kernel_rfl) (by kernel_rfl) (fun _ _ _ h => h) (by kernel_rfl) (fun W hW => by kernel_rfl) (Below.refl _ _) ?_
            refine held_take 2 (.int .i64 ((i : Int) + (n : Int))) rfl (by kernel_rfl) (by kernel_rfl) (by kernel_rfl) (fun _ _ _ h => h) (by kernel_rfl) (fun W hW => y_bin (x := .int .i64 (i : Int)) (y := .int .i64 (n : Int)) rfl (by kernel_rfl) (by kernel_rfl) rfl (addn_i64 W i n (by omega) (by omega))) (Below.refl _ _) ?_
            refine held_take 3 (.string ⟨base.toArray⟩) rfl (by kernel_rfl) (by kernel_rfl) (by kernel_rfl) (fun _ _ _ h => h) (by kernel_rfl) (fun W hW => by kernel_rfl) (Below.refl _ _) ?_
            refine held_take 4 (.int .i64 (base.length : Int)) rfl (by kernel_rfl) (by kernel_rfl) (by kernel_rfl) (fun _ _ _ h => h) (by kernel_rfl) (fun W hW => y_len (sv := .string ⟨base.toArray⟩) rfl (by kernel_rfl) (len_SV W base _)) (Below.refl _ _) ?_
            refine held_take 5 (.bool false) rfl (by kernel_rfl) (by kernel_rfl) (by kernel_rfl) (fun _ _ _ h => h) (by kernel_rfl) (fun W hW => y_bin (x := .int .i64 ((i : Int) + (n : Int))) (y := .int .i64 (base.length : Int)) rfl (by kernel_rfl) (by kernel_rfl) rfl (lss_b W _ _ _ k1)) (Below.refl _ _) ?_
            refine held_take 6 (.bool false) rfl (by kernel_rfl) (by kernel_rfl) (by kernel_rfl) (fun _ _ _ h => h) (by kernel_rfl) (fun W hW => by kernel_rfl) (Below.refl _ _) ?_
            refine held_skip 7 rfl (by kernel_rfl) (by kernel_rfl) (by kernel_rfl) (fun _ _ _ h => h) (by kernel_rfl) (Below.refl _ _) ?_
            refine held_skip 8 rfl (by kernel_rfl) (by kernel_rfl) (by kernel_rfl) (fun _ _ _ h => h) (by kernel_rfl) (Below.refl _ _) ?_
            refine held_skip 9 rfl (by kernel_rfl) (by kernel_rfl) (by kernel_rfl) (fun _ _ _ h => h) (by kernel_rfl) (Below.refl _ _) ?_
            refine held_skip 10 rfl (by kernel_rfl) (by kernel_rfl) (by kernel_rfl) (fun _ _ _ h => h) (by kernel_rfl) (Below.refl _ _) ?_
            refine held_take 11 (.bool false) rfl (by kernel_rfl) (by kernel_rfl) (by kernel_rfl) (fun _ _ _ h => h) (by kernel_rfl) (fun W hW => by kernel_rfl) (Below.refl _ _) ?_
            refine held_take 12 (.bool false) rfl (by kernel_rfl) (by kernel_rfl) (by kernel_rfl) (fun _ _ _ h => h) (by kernel_rfl) (fun W hW => by kernel_rfl) (Below.refl _ _) ?_
            refine held_skip 13 rfl (by kernel_rfl) (by kernel_rfl) (by kernel_rfl) (fun _ _ _ h => h) (by kernel_rfl) (Below.refl _ _) ?_
            refine held_skip 14 rfl (by kernel_rfl) (by kernel_rfl) (by kernel_rfl) (fun _ _ _ h => h) (by kernel_rfl) (Below.refl _ _) ?_
            refine held_skip 15 rfl (by kernel_rfl) (by kernel_rfl) (by kernel_rfl) (fun _ _ _ h => h) (by kernel_rfl) (Below.refl _ _) ?_
            refine held_skip 16 rfl (by kernel_rfl) (by kernel_rfl) (by kernel_rfl) (fun _ _ _ h => h) (by kernel_rfl) (Below.refl _ _) ?_
            refine held_skip 17 rfl (by kernel_rfl) (by kernel_rfl) (by kernel_rfl) (fun _ _ _ h => h) (by kernel_rfl) (Below.refl _ _) ?_
            refine held_skip 18 rfl (by kernel_rfl) (by kernel_rfl) (by kernel_rfl) (fun _ _ _ h => h) (by kernel_rfl) (Below.refl _ _) ?_
            refine held_skip 19 rfl (by kernel_rfl) (by kernel_rfl) (by kernel_rfl) (fun _ _ _ h => h) (by kernel_rfl) (Below.refl _ _) ?_
            refine held_skip 20 rfl (by kernel_rfl) (by kernel_rfl) (by kernel_rfl) (fun _ _ _ h => h) (by kernel_rfl) (Below.refl _ _) ?_
            refine held_skip 21 rfl (by kernel_rfl) (by kernel_rfl) (by kernel_rfl) (fun _ _ _ h => h) (by kernel_rfl) (Below.refl _ _) ?_
            refine held_take 22 (.bool false) rfl (by kernel_rfl) (by kernel_rfl) (by kernel_rfl) (fun _ _ _ h => h) (by kernel_rfl) (fun W hW => by kernel_rfl) (Below.refl _ _) ?_
            refine held_done _ (by kernel_rfl) ?_
            go_simp
            go_wp2
            go_meet
            case rel => exact ⟨_, rfl, HQ, HLd⟩
        case rest =>
          obtain ⟨q, rfl, HQ, HC⟩ := hcut
          clear HB HLd LD
          cases q with
          | true =>
            have hnL : n < L := of_decide_eq_true HQ.out.symm
            clear HQ
            go_wp2
            go_roundw
            case rel => exact ⟨n + 1, by go_num, hnL, HC⟩
            case measure => simp [intOf]; omega
          | false =>
            have hnL : L = n := by have := of_decide_eq_false HQ.out.symm; omega
            subst hnL
            have HF' : Hid (rl base left (i + 1) = if m < L then (i, L) else (f, m)) := Lib.hid (by
              rw [rl, HF.out, ← HL.out])
            clear HQ HF
            by_cases hm : m < L
            · have HG : Hid (rl base left (i + 1) = (i, L)) := Lib.hid (HF'.out.trans (if_pos hm))
              clear HF'
              go_wp2
              go_roundw
              case rel => exact ⟨i, L, i + 1, rfl, rfl, by go_num, hlt, HG, HC⟩
              case measure => simp [intOf]; omega
            · have HG : Hid (rl base left (i + 1) = (f, m)) := Lib.hid (HF'.out.trans (if_neg hm))
              clear HF'
              go_wp2
              go_roundw
              case rel => exact ⟨f, m, i + 1, rfl, rfl, by go_num, hlt, HG, HC⟩
              case measure => simp [intOf]; omega
    · have hie : i = base.length := by omega
      have HE : Hid (lng base left = (f, m)) := Lib.hid (by rw [lng, ← hie]; exact HF.out)
      clear hie HF
      go_wp2
      go_ret2
      refine ⟨?_, HB.out⟩
      rw [HE.out]
      rfl
end Go.Proofs.Ytbgnemephcbgeaa
