/-
  DigestPads, walked.
-/
import Derived.Test.YtjbagoedaelmnaaDoorTold
import Derived.Test.YtjbagoedaelmnaaDoorNames
namespace Go.Proofs.YtjbagoedaelmnaaDoor
open Go Go.RowKit

theorem name_inj (a b : List UInt8) : (nameL a == nameL b) = (sumL a == sumL b) := by
  rw [Bool.eq_iff_iff, beq_iff_eq, beq_iff_eq]
  constructor
  · intro h
    refine List.ext_getElem (by rw [sumL_length, sumL_length]) fun i h1 h2 => ?_
    rw [sumL_length] at h1
    have ha := name_get a i h1
    have hb := name_get b i h1
    rw [h] at ha
    have x1 := Option.some.inj (ha.1.symm.trans hb.1)
    have x2 := Option.some.inj (ha.2.symm.trans hb.2)
    have y1 := val_hex ((sumL a).getD i 0)
    have y2 := val_hex ((sumL b).getD i 0)
    rw [x1, x2, y2] at y1
    have z := UInt8.toNat_inj.1 y1
    rw [List.getD_eq_getElem?_getD, List.getD_eq_getElem?_getD, List.getElem?_eq_getElem (by rw [sumL_length]; exact h1), List.getElem?_eq_getElem (by rw [sumL_length]; exact h1)] at z
    exact z.symm
  · intro h
    unfold nameL
    rw [h]

set_option maxRecDepth 100000 in
set_option maxHeartbeats 2000000 in
theorem Pads_law (w : World) (hp : Pr w) (v : Value) (l : List UInt8) (hl : l.length ≤ maxLen) (hr : Rb w v l) (m c : UInt8) :
    Calls Tryd.prog 5 #[v, .int .u8 (m.toNat : Int), .int .u8 (c.toNat : Int)] w fun e w' => e = .returned (.bool true) ∧ Below w.heap.size w w' := by
  unfold maxLen at hl
  obtain ⟨A, ca, rfl⟩ := hr.shape
  have HH := Lib.hid (head_any w hp)
  by_cases h1 : 20000 < l.length
  · clear hp hr
    go_enter Tryd.func5, Tryd.ntmps5
    go_wp2_with fail
    refine HH.out.mono ?_
    rintro e w1 ⟨rfl, l1⟩
    go_wp2
    go_ret
    exact ⟨rfl, l1⟩
  have Hp := Lib.hid hp; have Ra := Lib.hid hr
  clear hp hr
  go_enter Tryd.func5, Tryd.ntmps5
  go_wp2_with fail
  refine HH.out.mono ?_
  rintro e w1 ⟨rfl, l1⟩
  have o0 : Hid (Ow (w1.alloc (.cells #[] 5)) w1.heap.size (.slice (some ⟨w1.heap.size, 0, none⟩) 0 0) []) := Lib.hid (Ow.new0 w1 _ (Nat.le_refl _))
  have Q0 : Hid (Rb (w1.alloc (.cells #[] 5)) (.slice A l.length ca) l) := Lib.hid (Ra.out.below (l1.alloc l1.size _) (Nat.le_refl _))
  have QL : Hid (([] : List UInt8).length + l.length ≤ 140737488355328) := Lib.hid (by simp; omega)
  have S0 : Hid (w1.heap.size ≤ (w1.alloc (.cells #[] 5)).heap.size) := Lib.hid (by simp)
  go_wp2_with (refine wpList_app (o := ⟨some 17, _, _, _, _, _⟩) rfl _ _ rfl w1.heap.size _ _ _ _ rfl rfl o0.out Q0.out QL.out S0.out ?_)
  intro v2 w2 o2 l2
  have l2' : Below w1.heap.size w1 w2 := ((Below.refl _ w1).alloc (Nat.le_refl _) _).trans l2
  obtain ⟨A2, c2, rfl⟩ := o2.rb.shape
  have O2 : Hid (Ow w2 w1.heap.size (.slice A2 l.length c2) (l ++ List.replicate 0 c)) := Lib.hid (by rw [List.replicate_zero, List.append_nil]; exact o2)
  have L2 := Lib.hid l2'
  have hmlt := m.toNat_lt
  clear o0 Q0 QL S0 o2 l2 l2'
  go_wp2
  go_loopw [8, 9] (fun a i wx => ∃ (k K : Nat) (A : Option Addr) (d : Nat), k ≤ m.toNat ∧ i = .int .i64 k ∧ a = .slice A K d ∧ K = l.length + k ∧ Ow wx w1.heap.size (.slice A K d) (l ++ List.replicate k c) ∧ Below w1.heap.size w1 wx) (fun _ i _ => m.toNat - (intOf i).toNat)
  case atStart => exact ⟨0, l.length, A2, c2, Nat.zero_le _, rfl, rfl, rfl, O2.out, L2.out⟩
  case round =>
    clear O2 L2
    obtain ⟨k, K, A3, c3, hk, rfl, rfl, hK, ho, hb⟩ := hrel
    have HK := Lib.hid hK; clear hK
    by_cases hlt : k < m.toNat
    · have O1 : Hid (Ow (wr.alloc (.cells #[.int .u8 (c.toNat : Int)] 5)) w1.heap.size (.slice A3 K c3) (l ++ List.replicate k c)) := Lib.hid (ho.below (below_new wr _) (Nat.le_refl _))
      have R1 : Hid (Rb (wr.alloc (.cells #[.int .u8 (c.toNat : Int)] 5)) (.slice (some ⟨wr.heap.size, 0, none⟩) 1 1) [c]) := Lib.hid (rb_one wr c)
      have QL1 : Hid ((l ++ List.replicate k c).length + ([c] : List UInt8).length ≤ 140737488355328) := Lib.hid (by simp; omega)
      have S1 : Hid (w1.heap.size ≤ (wr.alloc (.cells #[.int .u8 (c.toNat : Int)] 5)).heap.size) := Lib.hid (by have := hb.size; simp; omega)
      have L1 : Hid (Below w1.heap.size w1 (wr.alloc (.cells #[.int .u8 (c.toNat : Int)] 5))) := Lib.hid (hb.alloc hb.size _)
      clear ho hb
      go_wp2_with (refine wpList_app (o := ⟨some 27, _, _, _, _, _⟩) rfl _ _ rfl w1.heap.size _ _ _ _ rfl rfl O1.out R1.out QL1.out S1.out ?_)
      intro v4 w4 o4 l4
      have L4 := L1.out.trans l4
      obtain ⟨A4, c4, rfl⟩ := o4.rb.shape
      have e : l ++ (List.replicate k c ++ [c]) = l ++ List.replicate (k + 1) c := by rw [List.replicate_succ']
      have hk2 : (l ++ List.replicate (k + 1) c).length = K + 1 := by simp; have := HK.out; omega
      rw [e, hk2] at o4
      rw [e, hk2]
      clear O1 R1 QL1 S1 L1 l4 hk2 e
      go_wp2
      go_roundw
      case rel => exact ⟨k + 1, K + 1, A4, c4, by omega, by go_num, rfl, by have := HK.out; omega, o4, L4⟩
      case measure => simp [intOf]; omega
    · have lwr : Below w.heap.size w wr := l1.trans (hb.mono l1.size)
      obtain ⟨S, nm, hSe, hne, hT⟩ := told w wr _ (l ++ List.replicate k c) Hp.out lwr (by simp; omega) ho.rb
      obtain ⟨SB, nmB, hSBe, hnBe, hTB⟩ := told w wr _ l Hp.out lwr (by omega) (Ra.out.below lwr (Nat.le_refl _))
      have e1 := hT.eq
      obtain ⟨bx, hbx⟩ : ∃ bx, bx = (sumL (l ++ List.replicate k c) == sumL l) := ⟨_, rfl⟩
      have e2 : ∀ W, (binOp .eql 24 (.agg S.toArray) (.agg SB.toArray)).run Tryd.prog W = .ok (.bool bx) W := fun W => by rw [hSe, hSBe, eql_sums, hbx]
      have e3 : (nm == nmB) = bx := by rw [hne, hnBe, hbx]; exact name_inj _ _
      have TT := Lib.hid hT; have TB := Lib.hid hTB; have Lw := Lib.hid lwr; have E3 := Lib.hid e3
      have l33 : Below wr.heap.size wr wr := Below.refl _ _
      clear hT hTB lwr ho hb hSe hne hSBe hnBe hbx Hp Ra HH l1 e3
      go_wp2_with (first
        | ((with_reducible refine (TT.out.sum _ (by assumption)).mono ?_); rintro e w5 ⟨rfl, l5⟩)
        | ((with_reducible refine (TT.out.rsum _ (by assumption)).mono ?_); rintro e w6 ⟨rfl, l6⟩)
        | ((with_reducible refine (TT.out.name _ (by assumption)).mono ?_); rintro e w7 ⟨rfl, l7⟩)
        | ((with_reducible refine (TB.out.name _ (by assumption)).mono ?_); rintro e w8 ⟨rfl, l8⟩)
        | ((with_reducible refine (TB.out.sum _ (by assumption)).mono ?_); rintro e w9 ⟨rfl, l9⟩))
      go_ret
      exact ⟨by show Ending.returned (.bool ((nm == nmB) == bx)) = _; rw [E3.out, beq_self_eq_true], Lw.out.trans (l9.mono Lw.out.size)⟩
end Go.Proofs.YtjbagoedaelmnaaDoor
