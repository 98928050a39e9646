/-
  DigestLong, walked.
-/
import Derived.Test.YtjbagoedaelmnaaDoorTold
namespace Go.Proofs.YtjbagoedaelmnaaDoor
open Go Go.RowKit

/-- k times l. -/
def reps (l : List UInt8) (k : Nat) : List UInt8 := (List.replicate k l).flatten
theorem reps_succ (l : List UInt8) (k : Nat) : reps l k ++ l = reps l (k + 1) := by unfold reps; rw [List.replicate_succ', List.flatten_append]; simp
theorem reps_length (l : List UInt8) (k : Nat) : (reps l k).length = k * l.length := by unfold reps; simp

/-- The operation, where its guard lets it. -/
theorem wpList_app_g {ops : Array Oper} {rest : List Oper} {o : Oper} {a : Act} {w : World} {Q : Exit → Act → World → Prop} (hw : Region.wanted o (yielded ops a.tmps) = true) (s x : Operand)
    (ho : o.op = .call { callee := .builtin .append, args := #[s, x], argTypes := #[22, 22] }) (base : Nat) (v sv : Value) (l m : List UInt8) (hs : a.eval s = v) (hx : a.eval x = sv)
    (h : Ow w base v l) (hr : Rb w sv m) (hl : l.length + m.length ≤ 140737488355328) (hb : base ≤ w.heap.size)
    (k : ∀ v' w', Ow w' base v' (l ++ m) → Below base w w' → wpList Tryd.prog ops Q rest (a.put o.dst v') w') : wpList Tryd.prog ops Q (o :: rest) a w := by
  refine wpList_step fun K hK => ?_
  rw [if_pos hw]
  obtain ⟨v', w', h1, h2, h3⟩ := run_app h hr hl hb o.type
  unfold Oper.wp
  simp [execOp, ho, resolve, invoke, builtin, hs, hx, h1, Result.andThen]
  exact hK _ _ (k v' w' h2 h3)

set_option maxRecDepth 100000 in
set_option maxHeartbeats 2000000 in
theorem Long_law (w : World) (hp : Pr w) (v : Value) (l : List UInt8) (hl : l.length ≤ maxLen) (hr : Rb w v l) (m c : UInt8) :
    Calls Tryd.prog 8 #[v, .int .u8 (m.toNat : Int), .int .u8 (c.toNat : Int)] w fun e w' => e = .returned (.bool true) ∧ Below w.heap.size w w' := by
  unfold maxLen at hl
  obtain ⟨A, ca, rfl⟩ := hr.shape
  have HH := Lib.hid (head_any w hp)
  by_cases h1 : 200 < l.length
  · clear hp hr
    go_enter Tryd.func8, Tryd.ntmps8
    go_wp2_with fail
    refine HH.out.mono ?_
    rintro e w1 ⟨rfl, l1⟩
    go_wp2
    go_ret
    exact ⟨rfl, l1⟩
  have Hp := Lib.hid hp; have Ra := Lib.hid hr
  clear hp hr
  go_enter Tryd.func8, Tryd.ntmps8
  go_wp2_with fail
  refine HH.out.mono ?_
  rintro e w1 ⟨rfl, l1⟩
  obtain ⟨n, hn⟩ : ∃ n, n = m.toNat % 40 := ⟨_, rfl⟩
  have gn : (m.toNat : Int).tmod 40 = (n : Int) := by rw [Int.tmod_eq_emod_of_nonneg (by omega)]; omega
  have gn2 : (m.toNat : Int) % 40 = (n : Int) := by omega
  have hn40 : n < 40 := by omega
  have O0 := Lib.hid (Ow.nil w1 w1.heap.size)
  clear hn
  go_wp2
  go_loopw [8, 9] (fun a i wx => ∃ (k K : Nat) (A : Option Addr) (d : Nat), k ≤ n ∧ i = .int .i64 k ∧ a = .slice A K d ∧ K = k * l.length ∧ Ow wx w1.heap.size (.slice A K d) (reps l k) ∧ Below w1.heap.size w1 wx) (fun _ i _ => n - (intOf i).toNat)
  case atStart => exact ⟨0, 0, none, 0, Nat.zero_le _, rfl, rfl, by rw [Nat.zero_mul], O0.out, Below.refl _ _⟩
  case round =>
    clear O0
    obtain ⟨k, K, A3, c3, hk, rfl, rfl, hK, ho, hb⟩ := hrel
    have hK2 : K ≤ 8000 := by rw [hK]; exact Nat.le_trans (Nat.mul_le_mul (show k ≤ 40 by omega) (show l.length ≤ 200 by omega)) (by decide)
    have HK := Lib.hid hK; clear hK
    by_cases hlt : k < n
    · have O1 := Lib.hid ho
      have R1 : Hid (Rb wr (.slice A l.length ca) l) := Lib.hid (Ra.out.below (l1.trans (hb.mono l1.size)) (Nat.le_refl _))
      have QL1 : Hid ((reps l k).length + l.length ≤ 140737488355328) := Lib.hid (by rw [reps_length, ← HK.out]; omega)
      have S1 : Hid (w1.heap.size ≤ wr.heap.size) := Lib.hid hb.size
      have L1 := Lib.hid hb
      clear ho hb
      go_wp2_with (refine wpList_app (o := ⟨some 26, _, _, _, _, _⟩) rfl _ _ rfl w1.heap.size _ _ (reps l k) l rfl rfl O1.out R1.out QL1.out S1.out ?_)
      intro v4 w4 o4 l4
      have L4 := L1.out.trans l4
      rw [reps_succ] at o4
      obtain ⟨A4, c4, rfl⟩ := o4.rb.shape
      rw [reps_length] at o4 ⊢
      clear O1 R1 QL1 S1 L1 l4
      go_wp2
      go_roundw
      case rel => exact ⟨k + 1, (k + 1) * l.length, A4, c4, by omega, by go_num, rfl, rfl, o4, L4⟩
      case measure => simp [intOf]; omega
    · have lwr : Below w.heap.size w wr := l1.trans (hb.mono l1.size)
      obtain ⟨L, hL⟩ : ∃ L, L = reps l k := ⟨_, rfl⟩
      have HLK : Hid (L.length = K) := Lib.hid (by rw [hL, reps_length, HK.out])
      rw [← hL] at ho
      obtain ⟨S1, nm1, -, -, hT1⟩ := told w wr _ L Hp.out lwr (by rw [HLK.out]; omega) ho.rb
      have T1 := Lib.hid hT1; have RL := Lib.hid ho.rb; have Lw := Lib.hid lwr
      have QL0 : Hid (([] : List UInt8).length + L.length ≤ 140737488355328) := Lib.hid (by rw [HLK.out]; simp; omega)
      have QL1 : Hid (L.length + ([c] : List UInt8).length ≤ 140737488355328) := Lib.hid (by rw [HLK.out]; simp; omega)
      clear hT1 ho hb lwr hL HK l1 HH Ra
      go_wp2_with fail
      refine (T1.out.name _ (Below.refl _ _)).mono ?_
      rintro e w5 ⟨rfl, l5⟩
      have O6a : Hid (Ow (w5.alloc (.cells #[] 5)) w5.heap.size (.slice (some ⟨w5.heap.size, 0, none⟩) 0 0) []) := Lib.hid (Ow.new0 w5 _ (Nat.le_refl _))
      have Q6a : Hid (Rb (w5.alloc (.cells #[] 5)) (.slice A3 K c3) L) := Lib.hid (RL.out.below (l5.alloc l5.size _) (Nat.le_refl _))
      have S6a : Hid (w5.heap.size ≤ (w5.alloc (.cells #[] 5)).heap.size) := Lib.hid (by simp)
      go_wp2_with (refine wpList_app (o := ⟨some 31, _, _, _, _, _⟩) rfl _ _ rfl w5.heap.size _ _ [] L rfl rfl O6a.out Q6a.out QL0.out S6a.out ?_)
      intro v6 w6 o6 l6
      have l6' : Below w5.heap.size w5 w6 := ((Below.refl _ w5).alloc (Nat.le_refl _) _).trans l6
      have O6b : Hid (Ow (w6.alloc (.cells #[.int .u8 (c.toNat : Int)] 5)) w5.heap.size v6 L) := Lib.hid (Ow.below (l := L) o6 (below_new w6 _) (Nat.le_refl _))
      have Q6b : Hid (Rb (w6.alloc (.cells #[.int .u8 (c.toNat : Int)] 5)) (.slice (some ⟨w6.heap.size, 0, none⟩) 1 1) [c]) := Lib.hid (rb_one w6 c)
      have S6b : Hid (w5.heap.size ≤ (w6.alloc (.cells #[.int .u8 (c.toNat : Int)] 5)).heap.size) := Lib.hid (by have := l6'.size; simp; omega)
      have L6b : Hid (Below w5.heap.size w5 (w6.alloc (.cells #[.int .u8 (c.toNat : Int)] 5))) := Lib.hid (l6'.alloc l6'.size _)
      clear O6a Q6a S6a o6 l6 l6'
      go_wp2_with (refine wpList_app (o := ⟨some 34, _, _, _, _, _⟩) rfl _ _ rfl w5.heap.size _ _ L [c] rfl rfl O6b.out Q6b.out QL1.out S6b.out ?_)
      intro v7 w7 o7 l7
      have m7 : Below wr.heap.size wr w7 := l5.trans ((L6b.out.trans l7).mono l5.size)
      obtain ⟨S7, nm7, -, hne7, hT7⟩ := told w w7 v7 (L ++ [c]) Hp.out (Lw.out.trans (m7.mono Lw.out.size)) (by rw [List.length_append, HLK.out]; show K + 1 ≤ 29000; omega) o7.rb
      have T7 := Lib.hid hT7
      clear O6b Q6b S6b L6b o7 l7 hT7
      go_wp2_with fail
      refine (T7.out.name _ (Below.refl _ _)).mono ?_
      rintro e w8 ⟨rfl, l8⟩
      have m8 : Below wr.heap.size wr w8 := m7.trans (l8.mono m7.size)
      clear l8 T7
      go_wp2_with fail
      refine (T1.out.rname _ m8).mono ?_
      rintro e w9 ⟨rfl, l9⟩
      have O10a : Hid (Ow (w9.alloc (.cells #[] 5)) w9.heap.size (.slice (some ⟨w9.heap.size, 0, none⟩) 0 0) []) := Lib.hid (Ow.new0 w9 _ (Nat.le_refl _))
      have Q10a : Hid (Rb (w9.alloc (.cells #[] 5)) (.slice A3 K c3) L) := Lib.hid (RL.out.below (l9.alloc l9.size _) (Nat.le_refl _))
      have S10a : Hid (w9.heap.size ≤ (w9.alloc (.cells #[] 5)).heap.size) := Lib.hid (by simp)
      go_wp2_with (refine wpList_app_g (o := ⟨some 47, _, _, _, _, _⟩) (by rfl) _ _ rfl w9.heap.size _ _ [] L rfl rfl O10a.out Q10a.out QL0.out S10a.out ?_)
      intro v10 w10 o10 l10
      have l10' : Below w9.heap.size w9 w10 := ((Below.refl _ w9).alloc (Nat.le_refl _) _).trans l10
      have O10b : Hid (Ow (w10.alloc (.cells #[.int .u8 (c.toNat : Int)] 5)) w9.heap.size v10 L) := Lib.hid (Ow.below (l := L) o10 (below_new w10 _) (Nat.le_refl _))
      have Q10b : Hid (Rb (w10.alloc (.cells #[.int .u8 (c.toNat : Int)] 5)) (.slice (some ⟨w10.heap.size, 0, none⟩) 1 1) [c]) := Lib.hid (rb_one w10 c)
      have S10b : Hid (w9.heap.size ≤ (w10.alloc (.cells #[.int .u8 (c.toNat : Int)] 5)).heap.size) := Lib.hid (by have := l10'.size; simp; omega)
      have L10b : Hid (Below w9.heap.size w9 (w10.alloc (.cells #[.int .u8 (c.toNat : Int)] 5))) := Lib.hid (l10'.alloc l10'.size _)
      clear O10a Q10a S10a o10 l10 l10'
      go_wp2_with (refine wpList_app_g (o := ⟨some 50, _, _, _, _, _⟩) (by rfl) _ _ rfl w9.heap.size _ _ L [c] rfl rfl O10b.out Q10b.out QL1.out S10b.out ?_)
      intro v11 w11 o11 l11
      have m11 : Below wr.heap.size wr w11 := l9.trans ((L10b.out.trans l11).mono l9.size)
      obtain ⟨S11, nm11, -, hne11, hT11⟩ := told w w11 v11 (L ++ [c]) Hp.out (Lw.out.trans (m11.mono Lw.out.size)) (by rw [List.length_append, HLK.out]; show K + 1 ≤ 29000; omega) o11.rb
      have T11 := Lib.hid hT11
      clear O10b Q10b S10b L10b o11 l11 hT11
      go_wp2_with fail
      refine (T11.out.rname _ (Below.refl _ _)).mono ?_
      rintro e w12 ⟨rfl, l12⟩
      have hnn : nm11 = nm7 := hne11.trans hne7.symm
      subst hnn
      have m12 : Below wr.heap.size wr w12 := m11.trans (l12.mono m11.size)
      clear hne7
      go_wp2
      go_ret
      exact ⟨rfl, Lw.out.trans (m12.mono Lw.out.size)⟩
end Go.Proofs.YtjbagoedaelmnaaDoor
