/-
  nearer, root.
-/
import Derived.Test.YtjbagoedaelmnaaDoorDiv64
namespace Go.Proofs.YtjbagoedaelmnaaDoor
open Go Go.RowKit

set_option maxRecDepth 100000 in
set_option maxHeartbeats 1000000 in
theorem nearer_any (r p : UInt64) (k : Nat) (hk : 2 ≤ k) (hk2 : k ≤ 3) (hok : nearOk r p k = true) (w : World) :
    Calls Tryd.prog 33 #[.int .u64 (r.toNat : Int), .int .u64 (p.toNat : Int), .int .u64 (k : Int)] w fun e w' =>
      e = .returned (.int .u64 ((nearer r p k).toNat : Int)) ∧ Below w.heap.size w w' := by
  obtain ⟨m, hm⟩ : ∃ x, x = nearM r k := ⟨_, rfl⟩
  obtain ⟨n, hn⟩ : ∃ x, x = shl64 p 51 := ⟨_, rfl⟩
  obtain ⟨km, hkm⟩ : ∃ x, x = UInt64.ofNat k - 1 := ⟨_, rfl⟩
  obtain ⟨kp, hkp⟩ : ∃ x, x = UInt64.ofNat k + 1 := ⟨_, rfl⟩
  obtain ⟨j, hj⟩ : ∃ j, j = 32 * k - 51 := ⟨_, rfl⟩
  have gkm : IntKind.u64.wrap ((k : Int) - 1) = (km.toNat : Int) := by
    rw [hkm]; rcases (show k = 2 ∨ k = 3 by omega) with rfl | rfl <;> rfl
  have gkp : IntKind.u64.wrap ((k : Int) + 1) = (kp.toNat : Int) := by
    rw [hkp]; rcases (show k = 2 ∨ k = 3 by omega) with rfl | rfl <;> rfl
  have gk32 : IntKind.u64.wrap (32 * (k : Int)) = ((32 * k : Nat) : Int) := by rw [IntKind.wrap_u64]; omega
  have gj : IntKind.u64.wrap (((32 * k : Nat) : Int) - 51) = (j : Int) := by rw [IntKind.wrap_u64]; omega
  have gj' : IntKind.u64.wrap (32 * (k : Int) - 51) = (j : Int) := by rw [IntKind.wrap_u64]; omega
  have gn : IntKind.u64.wrap ((p.toNat : Int) * 2251799813685248) = (n.toNat : Int) := by have := shl64w p 51; rw [hn, ← this]; rfl
  have HP := Lib.hid (power_any r k (by omega) hk2)
  obtain ⟨t, ht⟩ : ∃ t, t = Two.pow r (k - 1) := ⟨_, rfl⟩
  rw [← ht] at HP
  have HD := Lib.hid (down_any t j (by omega) (by omega))
  have htm : Two.down t j = m := by rw [ht, hm, hj]; rfl
  rw [htm] at HD
  obtain ⟨s1, hs1⟩ : ∃ r, r = km * m := ⟨_, rfl⟩
  have gs1 : IntKind.u64.wrap ((km.toNat : Int) * (m.toNat : Int)) = (s1.toNat : Int) := by rw [mul64w, hs1]
  obtain ⟨s2, hs2⟩ : ∃ r, r = kp * n := ⟨_, rfl⟩
  have gs2 : IntKind.u64.wrap ((kp.toNat : Int) * (n.toNat : Int)) = (s2.toNat : Int) := by rw [mul64w, hs2]
  obtain ⟨s3, hs3⟩ : ∃ r, r = s1 + s2 := ⟨_, rfl⟩
  have gs3 : IntKind.u64.wrap ((s1.toNat : Int) + (s2.toNat : Int)) = (s3.toNat : Int) := by rw [add64w, hs3]
  obtain ⟨t1, ht1⟩ : ∃ r, r = kp * m := ⟨_, rfl⟩
  have gt1 : IntKind.u64.wrap ((kp.toNat : Int) * (m.toNat : Int)) = (t1.toNat : Int) := by rw [mul64w, ht1]
  obtain ⟨t2, ht2⟩ : ∃ r, r = km * n := ⟨_, rfl⟩
  have gt2 : IntKind.u64.wrap ((km.toNat : Int) * (n.toNat : Int)) = (t2.toNat : Int) := by rw [mul64w, ht2]
  obtain ⟨t3, ht3⟩ : ∃ r, r = t1 + t2 := ⟨_, rfl⟩
  have gt3 : IntKind.u64.wrap ((t1.toNat : Int) + (t2.toNat : Int)) = (t3.toNat : Int) := by rw [add64w, ht3]
  have hS : nearS r p k = s3 := by rw [hs3, hs2, hs1, hn, hm, hkm, hkp]; rfl
  have hY : nearY r p k = t3 := by rw [ht3, ht2, ht1, hn, hm, hkm, hkp]; rfl
  have HM := Lib.hid (Mul64_any s3 r)
  obtain ⟨hi, hhi⟩ : ∃ x, x = mulHi s3 r := ⟨_, rfl⟩
  obtain ⟨lo, hlo⟩ : ∃ x, x = s3 * r := ⟨_, rfl⟩
  rw [← hhi, ← hlo] at HM
  unfold nearOk at hok
  unfold nearer
  simp only [Bool.and_eq_true, decide_eq_true_eq] at hok
  have hN : nearD r p k = divOf hi lo t3 (64 - lenN t3.toNat) := by unfold nearD; rw [hS, hY, hhi, hlo]
  rw [hN, hS, hY, ← hhi] at hok
  rw [hN]
  have HV := Lib.hid (Div64_any hi lo t3 _ rfl (by omega) hok.1.1.2 hok.1.2 hok.1.1.1)
  obtain ⟨qq, hqq⟩ : ∃ q, q = (divOf hi lo t3 (64 - lenN t3.toNat)).quo := ⟨_, rfl⟩
  rw [← hqq] at HV ⊢
  clear hqq hok hN hS hY hhi hlo htm ht hm hn hkm hkp hj hs1 hs2 hs3 ht1 ht2 ht3
  go_enter Tryd.func33, Tryd.ntmps33
  go_wp2_with fail
  refine (HP.out _).mono ?_
  rintro e w1 ⟨rfl, hb1⟩
  go_wp2_with fail
  refine (HD.out _).mono ?_
  rintro e w2 ⟨rfl, hb2⟩
  go_wp2_with fail
  refine (HM.out _).mono ?_
  rintro e w3 ⟨rfl, rfl⟩
  go_wp2_with fail
  refine (HV.out _).mono ?_
  rintro e w4 ⟨⟨rr, rfl⟩, rfl⟩
  go_wp2
  go_ret
  exact ⟨rfl, hb1.trans (hb2.mono hb1.size)⟩

set_option maxHeartbeats 400000 in
theorem root_any (p near : UInt64) (k : Nat) (hk : 2 ≤ k) (hk2 : k ≤ 3) (hok : ∀ j, j < 3 → nearOk (rootN p near k j) p k = true) (w : World) :
    Calls Tryd.prog 31 #[.int .u64 (p.toNat : Int), .int .u64 (k : Int), .int .u64 (near.toNat : Int)] w fun e w' =>
      e = .returned (.int .u64 ((rootN p near k 3).toNat : Int)) ∧ Below w.heap.size w w' := by
  have HO := Lib.hid hok; clear hok
  go_enter Tryd.func31, Tryd.ntmps31
  go_wp2
  go_loopw [7, 9] (fun r i wr => ∃ (j : Nat) (x : UInt64), j ≤ 3 ∧ i = .int .i64 j ∧ r = .int .u64 (x.toNat : Int) ∧ x = rootN p near k j ∧ Below w.heap.size w wr) (fun _ i _ => 3 - (intOf i).toNat)
  case atStart => exact ⟨0, near, Nat.zero_le _, rfl, rfl, rfl, Below.refl _ _⟩
  case round =>
    obtain ⟨j, x, hj, rfl, rfl, hx, hb⟩ := hrel
    have Hx := Lib.hid hx
    by_cases hlt : j < 3
    · have HC := Lib.hid (nearer_any x p k hk hk2 (by rw [hx]; exact HO.out j hlt) wr)
      clear hx
      go_wp2_with fail
      refine HC.out.mono ?_
      rintro e w1 ⟨rfl, hb1⟩
      go_wp2
      go_roundw
      case rel => exact ⟨j + 1, nearer x p k, by omega, by go_num, rfl, by rw [Hx.out]; rfl, hb.trans (hb1.mono hb.size)⟩
      case measure => simp [intOf]; omega
    · have Hf : Hid (x = rootN p near k 3) := Lib.hid (by rw [Hx.out, show j = 3 by omega])
      clear hx
      go_wp2
      go_ret
      exact ⟨by rw [Hf.out]; rfl, hb⟩
end Go.Proofs.YtjbagoedaelmnaaDoor
