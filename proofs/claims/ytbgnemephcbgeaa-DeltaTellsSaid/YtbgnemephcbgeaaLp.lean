/-
  put, of the laws.
-/
import Derived.Test.YtbgnemephcbgeaaHe
namespace Go.Proofs.Ytbgnemephcbgeaa
open Go Go.RowKit

set_option maxRecDepth 100000 in
set_option maxHeartbeats 1000000 in
theorem lput_any (n : Nat) (hn : n ≤ 1099511627776) (w : World) : Calls Try.prog 14 #[.int .i64 (n : Int)] w (PutP w (putL n)) := by
  have O0 := Lib.hid (Ow.nil w w.heap.size)
  have H6 := Lib.hid (putL_len6 hn)
  go_enter Try.func14, Try.ntmps14
  go_wp2
  go_loopw [0, 3] (fun vn b wr => ∃ (m K : Nat) (A : Option Addr) (c : Nat) (pre : List UInt8), m ≤ n ∧ vn = .int .i64 m ∧ b = .slice A K c ∧ Hid (K = pre.length) ∧ Hid (pre ++ putL m = putL n) ∧ Ow wr w.heap.size (.slice A K c) pre ∧ Below w.heap.size w wr) (fun vn _ _ => (intOf vn).toNat)
  case atStart => exact ⟨n, 0, none, 0, [], Nat.le_refl _, rfl, rfl, rfl, rfl, O0.out, Below.refl _ _⟩
  case round =>
    clear O0
    obtain ⟨m, K, A, c, pre, hm, rfl, rfl, hK, hp, ho, hb⟩ := hrel
    have hlen : pre.length + (putL m).length ≤ 6 := by have h := H6.out; rw [← hp.out, List.length_append] at h; exact h
    have hK6 : K ≤ 6 := by rw [hK.out]; omega
    by_cases hlt : 128 ≤ m
    · obtain ⟨x, hx⟩ : ∃ x, x = UInt8.ofNat (m % 128 + 128) := ⟨_, rfl⟩
      have gx : (m : Int) % 128 + 128 = (x.toNat : Int) := by rw [hx, byte_of (by omega)]; omega
      have hpx : (pre ++ [x]) ++ putL (m / 128) = putL n := by rw [← hp.out, putL_hi hlt, hx, List.append_assoc]; rfl
      have Hpx := Lib.hid hpx
      have O1 : Hid (Ow (wr.alloc (.cells #[.int .u8 (x.toNat : Int)] 5)) w.heap.size (.slice A K c) pre) := Lib.hid (ho.below (below_new wr _) (Nat.le_refl _))
      have R1 : Hid (Rb (wr.alloc (.cells #[.int .u8 (x.toNat : Int)] 5)) (.slice (some ⟨wr.heap.size, 0, none⟩) 1 1) [x]) := Lib.hid (rb_one wr x)
      have Q1 : Hid (pre.length + ([x] : List UInt8).length ≤ 140737488355328) := Lib.hid (by simp; omega)
      have L1 : Hid (Below w.heap.size w (wr.alloc (.cells #[.int .u8 (x.toNat : Int)] 5))) := Lib.hid (hb.alloc hb.size _)
      have S1 : Hid (w.heap.size ≤ (wr.alloc (.cells #[.int .u8 (x.toNat : Int)] 5)).heap.size) := Lib.hid L1.out.size
      have HK := Lib.hid hK.out
      clear hx hpx ho hb hlen hp hK
      go_wp2_with (refine wpList_app (o := ⟨some 12, _, _, _, _, _⟩) rfl _ _ rfl w.heap.size _ _ pre [x] rfl rfl O1.out R1.out Q1.out S1.out ?_)
      intro v2 w2 o2 l2
      have L2 := L1.out.trans l2
      obtain ⟨A2, c2, rfl, _⟩ := o2.rb.shape
      clear O1 R1 Q1 S1 L1 l2 gx
      go_wp2
      go_roundw
      case rel => exact ⟨m / 128, _, A2, c2, pre ++ [x], by omega, by go_num, rfl, rfl, Hpx.out, o2, L2⟩
      case measure => simp [intOf]; omega
    · obtain ⟨x, hx⟩ : ∃ x, x = UInt8.ofNat m := ⟨_, rfl⟩
      have gx : IntKind.u8.wrap (m : Int) = (x.toNat : Int) := by rw [hx, byte_of (by omega), IntKind.wrap_u8']; omega
      have hpx : pre ++ [x] = putL n := by rw [← hp.out, putL_lo (by omega), hx]
      have Hpx := Lib.hid hpx
      have O1 : Hid (Ow (wr.alloc (.cells #[.int .u8 (x.toNat : Int)] 5)) w.heap.size (.slice A K c) pre) := Lib.hid (ho.below (below_new wr _) (Nat.le_refl _))
      have R1 : Hid (Rb (wr.alloc (.cells #[.int .u8 (x.toNat : Int)] 5)) (.slice (some ⟨wr.heap.size, 0, none⟩) 1 1) [x]) := Lib.hid (rb_one wr x)
      have Q1 : Hid (pre.length + ([x] : List UInt8).length ≤ 140737488355328) := Lib.hid (by simp; omega)
      have L1 : Hid (Below w.heap.size w (wr.alloc (.cells #[.int .u8 (x.toNat : Int)] 5))) := Lib.hid (hb.alloc hb.size _)
      have S1 : Hid (w.heap.size ≤ (wr.alloc (.cells #[.int .u8 (x.toNat : Int)] 5)).heap.size) := Lib.hid L1.out.size
      clear hx hpx ho hb hlen hp hK
      go_wp2_with (refine wpList_app (o := ⟨some 19, _, _, _, _, _⟩) rfl _ _ rfl w.heap.size _ _ pre [x] rfl rfl O1.out R1.out Q1.out S1.out ?_)
      intro v2 w2 o2 l2
      have L2 := L1.out.trans l2
      rw [Hpx.out] at o2
      obtain ⟨A2, c2, rfl, _⟩ := o2.rb.shape
      have R2 := Lib.hid o2.rb
      clear O1 R1 Q1 S1 L1 l2 gx o2
      go_wp2
      go_ret
      exact ⟨A2, c2, rfl, R2.out, L2⟩

end Go.Proofs.Ytbgnemephcbgeaa
