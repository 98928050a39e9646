/-
  Words of 64 bits as the walk spells them; Mul64, Len64, Div64, times, power, down, nearer, root, roots.
-/
import Derived.Test.YtjbagoedaelmnaaDoorMem
import Derived.Test.YtjbagoedaelmnaaDoorRoots
import Derived.Test.YtjbagoedaelmnaaDoorLay
import Derived.Shelf.Small.Bits
import Derived.Shelf.Bits.Mul64
import Derived.Laws.Bits64b
import Derived.Laws.Shifts
import Derived.Lib.Mul64
import Derived.IntWalk
import Derived.Deep.QuietTactic
import Derived.BigQuiet
namespace Go.Proofs.YtjbagoedaelmnaaDoor
open Go Go.RowKit Go.Shelf

theorem lz_any (x : Int) (w : World) (h0 : 0 ≤ x) (h1 : x ≤ 18446744073709551615) :
    Calls Tryd.prog 40 #[.int .u64 x] w fun e w' => e = .returned (.int .i64 (64 - (Lib.bitLen x.toNat : Int))) ∧ w' = w := Any.bits_LeadingZeros64 Tryd.lzA x w h0 h1
theorem mul_any (x y : Nat) (hx : x < 18446744073709551616) (hy : y < 18446744073709551616) (w : World) :
    Calls Tryd.prog 37 #[.int .u64 x, .int .u64 y] w fun e w' => e = .returned (.tuple #[.int .u64 ((x * y / 18446744073709551616 : Nat) : Int), .int .u64 ((x * y % 18446744073709551616 : Nat) : Int)]) ∧ w' = w := Any.bits_Mul64 Tryd.mulA x y hx hy w

theorem w64_nat (n : Nat) : IntKind.u64.wrap (n : Int) = ((n % 18446744073709551616 : Nat) : Int) := by rw [IntKind.wrap_u64]; omega
theorem and64 (x y : UInt64) : bits .and .u64 (x.toNat : Int) (y.toNat : Int) = ((x &&& y).toNat : Int) := by
  rw [bits_and_u64_nat _ _ x.toNat_lt y.toNat_lt, UInt64.toNat_and]
theorem mask64 (x : UInt64) : bits .and .u64 (x.toNat : Int) 4294967295 = ((x &&& 4294967295).toNat : Int) := and64 x 4294967295
theorem or64 (x y : UInt64) : bits .or .u64 (x.toNat : Int) (y.toNat : Int) = ((x ||| y).toNat : Int) := by
  rw [bits_or_u64_nat _ _ x.toNat_lt y.toNat_lt, UInt64.toNat_or]
theorem add64 (x y : UInt64) : ((x.toNat : Int) + (y.toNat : Int)) % 18446744073709551616 = ((x + y).toNat : Int) := by
  rw [← Int.natCast_add, UInt64.toNat_add]; omega
theorem mul64 (x y : UInt64) : ((x.toNat : Int) * (y.toNat : Int)) % 18446744073709551616 = ((x * y).toNat : Int) := by
  rw [← Int.natCast_mul, UInt64.toNat_mul]; omega
theorem sub64 (x y : UInt64) : ((x.toNat : Int) - (y.toNat : Int)) % 18446744073709551616 = ((x - y).toNat : Int) := by
  have h1 := x.toNat_lt; have h2 := y.toNat_lt
  rw [UInt64.toNat_sub]; omega
theorem div64 (x y : UInt64) : ((x.toNat : Int) / (y.toNat : Int)) = ((x / y).toNat : Int) := by
  rw [UInt64.toNat_div]; exact (Int.natCast_ediv _ _).symm
theorem shl64_eq (x : UInt64) (s : Nat) : ((x.toNat : Int) * 2 ^ s) % 18446744073709551616 = ((shl64 x s).toNat : Int) := by
  unfold shl64
  rw [UInt64.toNat_ofNat', show (2 : Int) ^ s = ((2 ^ s : Nat) : Int) by simp, ← Int.natCast_mul]; omega
theorem shr64_eq (x : UInt64) (s : Nat) : (x.toNat : Int) / 2 ^ s = ((shr64 x s).toNat : Int) := by
  unfold shr64
  have h1 := x.toNat_lt
  have h2 : x.toNat / 2 ^ s ≤ x.toNat := Nat.div_le_self _ _
  rw [UInt64.toNat_ofNat', show (2 : Int) ^ s = ((2 ^ s : Nat) : Int) by simp, ← Int.natCast_ediv, Nat.mod_eq_of_lt (by omega)]

theorem add64w (x y : UInt64) : IntKind.u64.wrap ((x.toNat : Int) + (y.toNat : Int)) = ((x + y).toNat : Int) := by rw [IntKind.wrap_u64, add64]
theorem mul64w (x y : UInt64) : IntKind.u64.wrap ((x.toNat : Int) * (y.toNat : Int)) = ((x * y).toNat : Int) := by rw [IntKind.wrap_u64, mul64]
theorem sub64w (x y : UInt64) : IntKind.u64.wrap ((x.toNat : Int) - (y.toNat : Int)) = ((x - y).toNat : Int) := by rw [IntKind.wrap_u64, sub64]

theorem Mul64_any (x y : UInt64) (w : World) :
    Calls Tryd.prog 37 #[.int .u64 (x.toNat : Int), .int .u64 (y.toNat : Int)] w fun e w' => e = .returned (.tuple #[.int .u64 ((mulHi x y).toNat : Int), .int .u64 ((x * y).toNat : Int)]) ∧ w = w' := by
  have h1 : (mulHi x y).toNat = x.toNat * y.toNat / 18446744073709551616 := by
    unfold mulHi
    have hx := x.toNat_lt; have hy := y.toNat_lt
    have : x.toNat * y.toNat ≤ 18446744073709551615 * 18446744073709551615 := Nat.mul_le_mul (by omega) (by omega)
    rw [UInt64.toNat_ofNat', Nat.mod_eq_of_lt (by omega)]
  have h2 : (x * y).toNat = x.toNat * y.toNat % 18446744073709551616 := UInt64.toNat_mul x y
  rw [h1, h2]
  exact (mul_any x.toNat y.toNat x.toNat_lt y.toNat_lt w).mono fun _ _ h => ⟨h.1, h.2.symm⟩

set_option maxHeartbeats 400000 in
theorem times_any (n : Two) (m : UInt64) (w : World) :
    Calls Tryd.prog 39 #[.agg #[.int .u64 (n.hi.toNat : Int), .int .u64 (n.lo.toNat : Int)], .int .u64 (m.toNat : Int)] w fun e w' =>
      e = .returned (.agg #[.int .u64 ((n.times m).hi.toNat : Int), .int .u64 ((n.times m).lo.toNat : Int)]) ∧ Below w.heap.size w w' := by
  obtain ⟨a, b⟩ := n
  have HM := Lib.hid (Mul64_any b m)
  obtain ⟨p, hp⟩ : ∃ p, p = mulHi b m := ⟨_, rfl⟩
  obtain ⟨q, hq⟩ : ∃ q, q = b * m := ⟨_, rfl⟩
  obtain ⟨r, hr⟩ : ∃ r, r = a * m := ⟨_, rfl⟩
  obtain ⟨t, ht⟩ : ∃ t, t = r + p := ⟨_, rfl⟩
  rw [← hp, ← hq] at HM
  have g1 : IntKind.u64.wrap ((a.toNat : Int) * (m.toNat : Int)) = (r.toNat : Int) := by rw [mul64w, hr]
  have g2 : IntKind.u64.wrap ((r.toNat : Int) + (p.toNat : Int)) = (t.toNat : Int) := by rw [add64w, ht]
  have g3 : ((r.toNat : Int) + (p.toNat : Int)) % 18446744073709551616 = (t.toNat : Int) := by rw [add64, ht]
  have ht : (Two.times ⟨a, b⟩ m) = ⟨t, q⟩ := by rw [ht, hr, hp, hq]; rfl
  rw [ht]
  have G3 := Lib.hid g3
  clear hp hq hr ht g3
  go_enter Tryd.func39, Tryd.ntmps39
  go_wp2_with (refine (HM.out _).mono ?_; rintro e w' ⟨rfl, rfl⟩)
  exact bodyPost_ret (v := .agg #[.int .u64 (t.toNat : Int), .int .u64 (q.toNat : Int)]) (by simp [results, Tryd.results39, go_sem]; exact G3.out) rfl ⟨rfl, ((Below.refl _ _).alloc (Nat.le_refl _) _).alloc (by simp) _⟩

set_option maxHeartbeats 400000 in
theorem power_any (r : UInt64) (k : Nat) (hk : 1 ≤ k) (hk2 : k ≤ 3) (w : World) :
    Calls Tryd.prog 35 #[.int .u64 (r.toNat : Int), .int .u64 (k : Int)] w fun e w' =>
      e = .returned (.agg #[.int .u64 ((Two.pow r (k - 1)).hi.toNat : Int), .int .u64 ((Two.pow r (k - 1)).lo.toNat : Int)]) ∧ Below w.heap.size w w' := by
  have gk : IntKind.u64.wrap ((k : Int) - 1) = ((k - 1 : Nat) : Int) := by rw [IntKind.wrap_u64]; omega
  obtain ⟨n, hn⟩ : ∃ n, n = k - 1 := ⟨_, rfl⟩
  rw [← hn] at gk ⊢
  have hn2 : n ≤ 2 := by omega
  clear hn hk hk2
  go_enter Tryd.func35, Tryd.ntmps35
  go_wp2
  clear gk
  go_loopw [10] (fun i wr => ∃ (j : Nat) (t : Two), j ≤ n ∧ i = .int .u64 j ∧ t = Two.pow r j ∧ Below w.heap.size w wr ∧ Blk wr w.heap.size 63 #[.int .u64 0, .int .u64 0] ∧ Blk wr (w.heap.size + 1) 63 #[.int .u64 (t.hi.toNat : Int), .int .u64 (t.lo.toNat : Int)]) (fun i _ => n - (intOf i).toNat)
  case atStart => exact ⟨0, ⟨0, r⟩, Nat.zero_le _, rfl, rfl, ((Below.refl _ _).alloc (Nat.le_refl _) _).alloc (by simp) _, (Blk.new w _ _).alloc _, by have := Blk.new (w.alloc (Obj.cells #[.int .u64 0, .int .u64 0] 63)) 63 #[.int .u64 0, .int .u64 (r.toNat : Int)]; simpa using this⟩
  case round =>
    obtain ⟨j, t, hj, rfl, ht, hb, b0, b1⟩ := hrel
    have Ht := Lib.hid ht; clear ht
    by_cases hlt : j < n
    · have HC := Lib.hid (times_any t r wr)
      have gj : IntKind.u64.wrap ((j : Int) + 1) = ((j + 1 : Nat) : Int) := by rw [IntKind.wrap_u64]; omega
      have c0 := b1.cell 0
      have c1 := b1.cell 1
      simp only [List.getElem?_toArray, List.getElem?_cons_zero, List.getElem?_cons_succ] at c0 c1
      have f0 := b1.frozen 0
      have f1 := b1.frozen 1
      have hsz := b1.lt
      go_wp2_with fail
      refine HC.out.mono ?_
      rintro e w' ⟨rfl, hbw⟩
      have b0' := b0.below hbw b0.lt
      have b1' := b1.below hbw b1.lt
      have c0' := b1'.cell 0
      have c1' := b1'.cell 1
      simp only [List.getElem?_toArray, List.getElem?_cons_zero, List.getElem?_cons_succ] at c0' c1'
      have f0' := b1'.frozen 0
      have f1' := b1'.frozen 1
      have hsz' := b1'.lt
      clear c0 c1 f0 f1 hsz
      go_wp2
      go_roundw
      case rel =>
        refine ⟨j + 1, t.times r, by omega, by go_num, by rw [Ht.out]; rfl, ((hb.trans (hbw.mono hb.size)).setCell (by simp) _).setCell (by simp) _, (b0'.far (by simp) _).far (by simp) _, ?_⟩
        have := (b1'.set_ 0 (.int .u64 ((t.times r).hi.toNat : Int))).set_ 1 (.int .u64 ((t.times r).lo.toNat : Int))
        simpa using this
      case measure => simp [intOf]; omega
    · have hjn : Hid (t = Two.pow r n) := Lib.hid (by rw [Ht.out, show j = n by omega])
      have c0 := b1.cell 0
      have c1 := b1.cell 1
      have d0 := b0.cell 0
      have d1 := b0.cell 1
      simp only [List.getElem?_toArray, List.getElem?_cons_zero, List.getElem?_cons_succ] at c0 c1 d0 d1
      have f0 := b0.frozen 0
      have f1 := b0.frozen 1
      have hsz := b1.lt
      have hbe : Below w.heap.size w ((wr.setCell ⟨w.heap.size, 0, none⟩ (.int .u64 (t.hi.toNat : Int))).setCell ⟨w.heap.size, 1, none⟩ (.int .u64 (t.lo.toNat : Int))) := (hb.setCell (by simp) _).setCell (by simp) _
      have be : Blk ((wr.setCell ⟨w.heap.size, 0, none⟩ (.int .u64 (t.hi.toNat : Int))).setCell ⟨w.heap.size, 1, none⟩ (.int .u64 (t.lo.toNat : Int))) w.heap.size 63 #[.int .u64 (t.hi.toNat : Int), .int .u64 (t.lo.toNat : Int)] := by
        have := (b0.set_ 0 (.int .u64 (t.hi.toNat : Int))).set_ 1 (.int .u64 (t.lo.toNat : Int))
        simpa using this
      go_wp2
      rw [← hjn.out]
      exact bodyPost_ret (v := .agg #[.int .u64 (t.hi.toNat : Int), .int .u64 (t.lo.toNat : Int)]) (results_cell_row rfl _ _ w.heap.size 63 _ (0, 0) _ rfl be Tryd.underlying63 rfl (by kernel_rfl)) rfl ⟨rfl, hbe⟩
end Go.Proofs.YtjbagoedaelmnaaDoor
