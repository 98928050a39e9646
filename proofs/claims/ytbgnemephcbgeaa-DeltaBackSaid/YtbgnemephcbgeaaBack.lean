/-
  There and back.
-/
import Derived.Test.YtbgnemephcbgeaaHe
namespace Go.Proofs.Ytbgnemephcbgeaa
open Go Go.RowKit

set_option maxHeartbeats 2000000 in
set_option maxRecDepth 100000 in
theorem Back_law (w : World) (base : Bs) (h1 : base.length ≤ maxLen) (text : Bs) (h2 : text.length ≤ maxLen) (n : Nat) (hn : n < 65536) (c : UInt8) :
    Calls Try.prog 4 #[SV base, SV text, .int .u16 (n : Int), .int .u8 (c.toNat : Int)] w (BP w) := by
  unfold maxLen at h1 h2
  have HH := Lib.hid (head_any w)
  unfold SV
  by_cases c1 : 600 < base.length
  · go_enter Try.func4, Try.ntmps4
    go_wp2_with fail
    refine HH.out.mono ?_
    rintro e w1 ⟨rfl, b1⟩
    have H1 := Lib.hid b1; clear b1 HH
    have d1 : (600 : Int) < (base.length : Int) := by omega
    go_wp2
    go_ret
    exact ⟨rfl, H1.out⟩
  by_cases c2 : 600 < text.length
  · go_enter Try.func4, Try.ntmps4
    go_wp2_with fail
    refine HH.out.mono ?_
    rintro e w1 ⟨rfl, b1⟩
    have H1 := Lib.hid b1; clear b1 HH
    have d1 : ¬ (600 : Int) < (base.length : Int) := by omega
    have d2 : (600 : Int) < (text.length : Int) := by omega
    go_wp2
    go_ret
    exact ⟨rfl, H1.out⟩
  have d1 : ¬ (600 : Int) < (base.length : Int) := by omega
  have d2 : ¬ (600 : Int) < (text.length : Int) := by omega
  have hlen := makeL_len6 base text (by omega) (by omega)
  obtain ⟨d, hd⟩ : ∃ d, d = makeL base text := ⟨_, rfl⟩
  have hd2 : 2 ≤ d.length := by
    have k1 := putL_pos base.length
    have k2 := putL_pos text.length
    rw [hd]; unfold makeL
    rw [List.length_append, List.length_append]; omega
  rw [← hd] at hlen
  obtain ⟨k, hk⟩ : ∃ k, k = n % d.length := ⟨_, rfl⟩
  have hkl : k < d.length := by rw [hk]; exact Nat.mod_lt _ (by omega)
  have HM : Hid (∀ W, Calls Try.prog 12 #[.string ⟨base.toArray⟩, .string ⟨text.toArray⟩] W fun e w' => e = .returned (.string ⟨d.toArray⟩) ∧ Below W.heap.size W w') := Lib.hid fun W => by rw [hd]; exact Make_any base text (by omega) (by omega) W
  have HA : Hid (∀ W, Calls Try.prog 10 #[.string ⟨base.toArray⟩, .string ⟨d.toArray⟩] W fun e w' => e = .returned (.tuple #[.string ⟨text.toArray⟩, .int .i64 0]) ∧ Below W.heap.size W w') := Lib.hid fun W => by
    have := Apply_any base d (by omega) (by omega) W
    rw [applyR_some (by rw [hd]; exact apply_make (by omega) (by omega))] at this; exact this
  have HC : Hid (∀ W, Calls Try.prog 10 #[.string ⟨base.toArray⟩, .string ((⟨d.toArray⟩ : ByteArray).extract 0 k)] W fun e w' => e = .returned (.tuple #[.string ⟨#[]⟩, .int .i64 3]) ∧ Below W.heap.size W w') := Lib.hid fun W => by
    have := Apply_any base (d.take k) (by rw [List.length_take]; omega) (by omega) W
    rw [applyR_none (by rw [hd] at hkl ⊢; exact apply_cut (by omega) (by omega) hkl)] at this
    rw [extract_S, List.drop_zero]; exact this
  have HD : Hid (∀ W, Calls Try.prog 10 #[.string ⟨base.toArray⟩, .string ((⟨d.toArray⟩ : ByteArray) ++ ⟨[c].toArray⟩)] W fun e w' => e = .returned (.tuple #[.string ⟨#[]⟩, .int .i64 3]) ∧ Below W.heap.size W w') := Lib.hid fun W => by
    have := Apply_any base (d ++ [c]) (by simp; omega) (by omega) W
    rw [applyR_none (by rw [hd]; exact apply_more (by omega) (by omega) c)] at this
    rw [append_S]; exact this
  have HE : Hid (∀ W, Calls Try.prog 10 #[.string ((⟨base.toArray⟩ : ByteArray) ++ ⟨#[120]⟩), .string ⟨d.toArray⟩] W fun e w' => e = .returned (.tuple #[.string ⟨#[]⟩, .int .i64 3]) ∧ Below W.heap.size W w') := Lib.hid fun W => by
    have := Apply_any (base ++ [120]) d (by omega) (by simp; omega) W
    rw [applyR_none (by rw [hd]; exact apply_other (by omega) (by omega) (by simp))] at this
    have e := append_S base [120]
    rw [← e] at this
    exact this
  have m1 : (n : Int) % (d.length : Int) = (k : Int) := by rw [hk, Int.natCast_emod]
  have m2 : Int.tmod (n : Int) (d.length : Int) = (k : Int) := by rw [Int.tmod_eq_emod_of_nonneg (by omega)]; exact m1
  have i1 : ¬ (d.length : Int) < 2 := by omega
  have i2 : (k : Int) ≤ (d.length : Int) := by omega
  have HCv : Hid (∀ W : World, (convert 29 9 (.slice (some ⟨W.heap.size, 0, none⟩) 1 1)).run Try.prog (W.alloc (.cells #[.int .u8 (c.toNat : Int)] 5)) = .ok (.string ⟨[c].toArray⟩) (W.alloc (.cells #[.int .u8 (c.toNat : Int)] 5))) := Lib.hid fun W => (rb_one W c).conv
  clear hkl hk hd hd2 c1 c2
  go_enter Try.func4, Try.ntmps4
  go_wp2_with fail
  refine HH.out.mono ?_
  rintro e w1 ⟨rfl, p1⟩
  have H1 := Lib.hid p1; clear p1 HH
  go_wp2_with fail
  refine (HM.out _).mono ?_
  rintro e w2 ⟨rfl, p2⟩
  have H2 : Hid (Below w.heap.size w w2) := Lib.hid (H1.out.trans (p2.mono H1.out.size))
  clear p2 HM
  go_wp2_with fail
  refine (HA.out _).mono ?_
  rintro e w3 ⟨rfl, p3⟩
  have H3 : Hid (Below w.heap.size w w3) := Lib.hid (H2.out.trans (p3.mono H2.out.size))
  clear p3 HA
  go_wp2_with fail
  refine (HC.out _).mono ?_
  rintro e w4 ⟨rfl, p4⟩
  have H4 : Hid (Below w.heap.size w w4) := Lib.hid (H3.out.trans (p4.mono H3.out.size))
  clear p4 HC
  have cv := HCv.out
  go_wp2_with fail
  refine (HD.out _).mono ?_
  rintro e w5 ⟨rfl, p5⟩
  have H5 : Hid (Below w.heap.size w w5) := Lib.hid ((H4.out.alloc H4.out.size _).trans (p5.mono (by rw [alloc_size]; have := H4.out.size; omega)))
  clear p5 HD
  clear cv
  go_wp2_with fail
  refine (HE.out _).mono ?_
  rintro e w6 ⟨rfl, p6⟩
  have H6 : Hid (Below w.heap.size w w6) := Lib.hid (H5.out.trans (p6.mono H5.out.size))
  clear p6 HE
  go_wp2
  go_ret
  exact ⟨rfl, H6.out⟩
end Go.Proofs.Ytbgnemephcbgeaa
