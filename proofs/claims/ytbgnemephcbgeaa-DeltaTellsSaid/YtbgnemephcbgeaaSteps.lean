/-
  What steps say.
-/
import Derived.Test.YtbgnemephcbgeaaLp
import Derived.Deep.CutRange
namespace Go.Proofs.Ytbgnemephcbgeaa
open Go Go.RowKit

section
variable {P : Program} {ops : Array Oper} {Q : Exit → Go.Act → World → Prop} {S : World → Prop}
theorem held_skip (i : Nat) {oi : Oper} {fuel : Nat} {listed : Array Bool} {a : Go.Act} {w : World} (hi : ops[i]? = some oi)
    (hs : Region.noSelect ops = true) (hf : Region.free .any ops listed i = true) (hr : (Region.ready .any ops listed).contains i = true)
    (hQ : ∀ c a w, Q (.panic c) (a.put oi.dst undef) w → Q (.panic c) a w) (hw : Region.wanted oi (yielded ops a.tmps) = false) (hS : S w)
    (h : wpAnyH P .any ops Q S fuel (listed.setIfInBounds i true) (a.put oi.dst undef) w) : wpAnyH P .any ops Q S (fuel + 1) listed a w :=
  wpAnyH_take hi hs hf hr hQ (.inr ⟨hw, rfl⟩) hS h
end
theorem add_SV (W : World) (a b : Bs) (h : a.length + b.length ≤ 9223372036854775807) : (binOp .add 9 (.string ⟨a.toArray⟩) (.string ⟨b.toArray⟩)).run Try.prog W = .ok (.string ⟨(a ++ b).toArray⟩) W := by
  rw [← append_S]
  go_simp
theorem addn_i64 (W : World) (a b : Nat) (ha : a ≤ 1000000) (hb : b ≤ 1000000) : (binOp .add 3 (.int .i64 (a : Int)) (.int .i64 (b : Int))).run Try.prog W = .ok (.int .i64 ((a : Int) + (b : Int))) W := by
  have e : IntKind.i64.wrap ((a : Int) + (b : Int)) = (a : Int) + (b : Int) := by rw [IntKind.wrap_i64]; omega
  simp [go_sem, e]
theorem steps_apply {base text : Bs} {k m : Nat} {x : UInt8} (hb : base.length ≤ 600) (ht : text.length ≤ 127) (h0 : 0 < text.length) (hk : k ≤ 255) (hm : m ≤ 255) (hx : x = UInt8.ofNat text.length) :
    applyL base (putL base.length ++ putL (text.length + m) ++ [x] ++ text ++ [128] ++ putL k ++ putL m) = if m = 0 ∨ base.length < k + m then none else some (text ++ (base.drop k).take m) := by
  unfold applyL
  rw [show putL base.length ++ putL (text.length + m) ++ [x] ++ text ++ [128] ++ putL k ++ putL m = putL base.length ++ (putL (text.length + m) ++ (UInt8.ofNat text.length :: (text ++ (128 :: (putL k ++ putL m) ++ [])))) by rw [hx]; simp, getL_put (by omega)]
  simp only
  rw [if_neg (by simp), List.drop_left, getL_put (by omega)]
  simp only
  rw [List.drop_left, stepsL_some (stepL_ins h0 ht)]
  by_cases hc : m = 0 ∨ base.length < k + m
  · rw [if_pos hc, stepsL_none (by simp) ((stepL_copy (by omega) (by omega)).trans (if_pos hc))]
    rfl
  · rw [if_neg hc, stepsL_some ((stepL_copy (by omega) (by omega)).trans (if_neg hc)), stepsL_nil]
    simp only [Option.map_some, List.append_nil]
    rw [if_pos]
    rw [List.length_append, List.length_take, List.length_drop]; omega

set_option maxHeartbeats 4000000 in
set_option maxRecDepth 100000 in
theorem Steps_law (w : World) (base : Bs) (h1 : base.length ≤ maxLen) (text : Bs) (h2 : text.length ≤ maxLen) (a : UInt8) (b : UInt8) :
    Calls Try.prog 5 #[SV base, SV text, .int .u8 (a.toNat : Int), .int .u8 (b.toNat : Int)] w (BP w) := by
  unfold maxLen at h1 h2
  have HH := Lib.hid (head_any w)
  unfold SV
  by_cases c1 : 600 < base.length
  · go_enter Try.func5, Try.ntmps5
    go_wp2_with fail
    refine HH.out.mono ?_
    rintro e w1 ⟨rfl, b1⟩
    have H1 := Lib.hid b1; clear b1 HH
    have d1 : (600 : Int) < (base.length : Int) := by omega
    go_wp2
    go_ret
    exact ⟨rfl, H1.out⟩
  by_cases c2 : 127 < text.length
  · go_enter Try.func5, Try.ntmps5
    go_wp2_with fail
    refine HH.out.mono ?_
    rintro e w1 ⟨rfl, b1⟩
    have H1 := Lib.hid b1; clear b1 HH
    have d1 : ¬ (600 : Int) < (base.length : Int) := by omega
    have d2 : (127 : Int) < (text.length : Int) := by omega
    go_wp2
    go_ret
    exact ⟨rfl, H1.out⟩
  by_cases c3 : text.length = 0
  · go_enter Try.func5, Try.ntmps5
    go_wp2_with fail
    refine HH.out.mono ?_
    rintro e w1 ⟨rfl, b1⟩
    have H1 := Lib.hid b1; clear b1 HH
    have d1 : ¬ (600 : Int) < (base.length : Int) := by omega
    have d2 : ¬ (127 : Int) < (text.length : Int) := by omega
    have d3 : ((text.length : Int) == 0) = true := by simp only [beq_iff_eq]; omega
    go_wp2
    go_ret
    exact ⟨rfl, H1.out⟩
  have d1 : ¬ (600 : Int) < (base.length : Int) := by omega
  have d2 : ¬ (127 : Int) < (text.length : Int) := by omega
  have d3 : ((text.length : Int) == 0) = false := by simp only [beq_eq_false_iff_ne, ne_eq]; omega
  obtain ⟨k, hk⟩ : ∃ k, k = a.toNat := ⟨_, rfl⟩
  obtain ⟨m, hm⟩ : ∃ m, m = b.toNat := ⟨_, rfl⟩
  have hkl : k ≤ 255 := by have := a.toNat_lt; omega
  have hml : m ≤ 255 := by have := b.toNat_lt; omega
  obtain ⟨x, hx⟩ : ∃ x, x = UInt8.ofNat text.length := ⟨_, rfl⟩
  have gx : Hid (IntKind.u8.wrap (text.length : Int) = (x.toNat : Int)) := Lib.hid (by rw [hx, byte_of (by omega), IntKind.wrap_u8']; omega)
  have HLn : Hid ((putL base.length).length ≤ 6 ∧ (putL (text.length + m)).length ≤ 6 ∧ (putL k).length ≤ 6 ∧ (putL m).length ≤ 6 ∧ text.length ≤ 127) := Lib.hid ⟨putL_len6 (by omega), putL_len6 (by omega), putL_len6 (by omega), putL_len6 (by omega), by omega⟩
  have HP1 := Lib.hid (fun W => lput_any base.length (by omega) W)
  have HP2 : Hid (∀ W, Calls Try.prog 14 #[.int .i64 ((text.length : Int) + (m : Int))] W (PutP W (putL (text.length + m)))) := Lib.hid (fun W => by have := lput_any (text.length + m) (by omega) W; rw [Int.natCast_add] at this; exact this)
  have HP3 := Lib.hid (fun W => lput_any k (by omega) W)
  have HP4 := Lib.hid (fun W => lput_any m (by omega) W)
  have hap := steps_apply (base := base) (text := text) (k := k) (m := m) (x := x) (by omega) (by omega) (by omega) hkl hml hx
  obtain ⟨d, hd⟩ : ∃ d, d = putL base.length ++ putL (text.length + m) ++ [x] ++ text ++ [128] ++ putL k ++ putL m := ⟨_, rfl⟩
  have hdl : d.length ≤ 1000 := by
    have k1 := putL_len6 (n := base.length) (by omega)
    have k2 := putL_len6 (n := text.length + m) (by omega)
    have k3 := putL_len6 (n := k) (by omega)
    have k4 := putL_len6 (n := m) (by omega)
    rw [hd]
    simp only [List.length_append, List.length_singleton]
    omega
  have HA : Hid (∀ W, Calls Try.prog 10 #[.string ⟨base.toArray⟩, .string ⟨d.toArray⟩] W fun e w' => e = .returned (applyR base d) ∧ Below W.heap.size W w') := Lib.hid fun W => Apply_any base d (by omega) (by omega) W
  rw [← hd] at hap
  have HAp := Lib.hid hap
  rw [← hk, ← hm]
  have Hd := Lib.hid hd
  have HX := Lib.hid hx
  clear hap hdl hd hk hm c1 c2 c3 hx
  go_enter Try.func5, Try.ntmps5
  go_wp2_with fail
  refine HH.out.mono ?_
  rintro e w1 ⟨rfl, p1⟩
  have H1 := Lib.hid p1; clear p1 HH
  go_upto_region 6 with fail
  clear d1 d2 d3
  go_cut [12] from 34 to 61 (fun v12 wx => v12 = .string ⟨(putL base.length ++ putL (text.length + m) ++ [x] ++ text ++ [128] ++ putL k ++ putL m).toArray⟩ ∧ Hid (Below w1.heap.size w1 wx))
  case first =>
    refine held_start (fun W : World => Below w1.drew.heap.size w1.drew W) (by kernel_rfl) ?_
    have LD : Below w1.heap.size w1 w1.drew := (Below.refl _ _).drew
    refine held_take 0 (.string ⟨base.toArray⟩) rfl (by kernel_rfl) (by kernel_rfl) (by kernel_rfl) (fun _ _ _ h => h) (by kernel_rfl) (fun W hW => by kernel_rfl) (Below.refl _ _) ?_
    refine held_take 1 (.int .i64 ((base).length : Int)) rfl (by kernel_rfl) (by kernel_rfl) (by kernel_rfl) (fun _ _ _ h => h) (by kernel_rfl) (fun W hW => y_len (sv := .string ⟨(base).toArray⟩) rfl (by kernel_rfl) (len_SV W (base) _)) (Below.refl _ _) ?_
    refine held_take 4 (.string ⟨text.toArray⟩) rfl (by kernel_rfl) (by kernel_rfl) (by kernel_rfl) (fun _ _ _ h => h) (by kernel_rfl) (fun W hW => by kernel_rfl) (Below.refl _ _) ?_
    refine held_take 5 (.int .i64 ((text).length : Int)) rfl (by kernel_rfl) (by kernel_rfl) (by kernel_rfl) (fun _ _ _ h => h) (by kernel_rfl) (fun W hW => y_len (sv := .string ⟨(text).toArray⟩) rfl (by kernel_rfl) (len_SV W (text) _)) (Below.refl _ _) ?_
    refine held_take 6 (.int .i64 (m : Int)) rfl (by kernel_rfl) (by kernel_rfl) (by kernel_rfl) (fun _ _ _ h => h) (by kernel_rfl) (fun W hW => by kernel_rfl) (Below.refl _ _) ?_
    refine held_take 7 (.int .i64 ((text.length : Int) + (m : Int))) rfl (by kernel_rfl) (by kernel_rfl) (by kernel_rfl) (fun _ _ _ h => h) (by kernel_rfl) (fun W hW => y_bin (x := .int .i64 (text.length : Int)) (y := .int .i64 (m : Int)) rfl (by kernel_rfl) (by kernel_rfl) rfl (addn_i64 W text.length m (by omega) (by omega))) (Below.refl _ _) ?_
    refine held_take 11 (.string ⟨text.toArray⟩) rfl (by kernel_rfl) (by kernel_rfl) (by kernel_rfl) (fun _ _ _ h => h) (by kernel_rfl) (fun W hW => by kernel_rfl) (Below.refl _ _) ?_
    refine held_take 12 (.int .i64 ((text).length : Int)) rfl (by kernel_rfl) (by kernel_rfl) (by kernel_rfl) (fun _ _ _ h => h) (by kernel_rfl) (fun W hW => y_len (sv := .string ⟨(text).toArray⟩) rfl (by kernel_rfl) (len_SV W (text) _)) (Below.refl _ _) ?_
    refine held_take 13 (.int .u8 (x.toNat : Int)) rfl (by kernel_rfl) (by kernel_rfl) (by kernel_rfl) (fun _ _ _ h => h) (by kernel_rfl) (fun W hW => y_conv (x := .int .i64 (text.length : Int)) rfl (by kernel_rfl) (conv_u8 W _ _ gx.out)) (Below.refl _ _) ?_
    refine held_take 17 (.string ⟨text.toArray⟩) rfl (by kernel_rfl) (by kernel_rfl) (by kernel_rfl) (fun _ _ _ h => h) (by kernel_rfl) (fun W hW => by kernel_rfl) (Below.refl _ _) ?_
    refine held_take 20 (.int .i64 (k : Int)) rfl (by kernel_rfl) (by kernel_rfl) (by kernel_rfl) (fun _ _ _ h => h) (by kernel_rfl) (fun W hW => by kernel_rfl) (Below.refl _ _) ?_
    refine held_take 24 (.int .i64 (m : Int)) rfl (by kernel_rfl) (by kernel_rfl) (by kernel_rfl) (fun _ _ _ h => h) (by kernel_rfl) (fun W hW => by kernel_rfl) (Below.refl _ _) ?_
    refine held_two (i := 2) (j := 14) (by kernel_rfl) ?_ ?_
    · skip
      refine held_call 14 #[.int .i64 (base.length : Int)] rfl (by kernel_rfl) (by kernel_rfl) ?_
      refine (HP1.out w1.drew).mono ?_
      rintro e wx1 ⟨Ax1, cx1, rfl, rx1, bx1⟩
      have Lx1 := LD.trans (bx1.mono LD.size)
      refine ⟨_, rfl, bx1, (held_mono (S' := fun W : World => Below wx1.heap.size wx1 W) (fun _ h => bx1.trans (h.mono bx1.size)) _ _ _ _ ?_)⟩
      refine held_take 3 (.string ⟨(putL base.length).toArray⟩) rfl (by kernel_rfl) (by kernel_rfl) (by kernel_rfl) (fun _ _ _ h => h) (by kernel_rfl) (fun W hW => y_conv (x := .slice Ax1 (putL (base.length)).length cx1) rfl (by kernel_rfl) ((rx1.below hW (Nat.le_refl _)).conv)) (Below.refl _ _) ?_
      refine held_two (i := 8) (j := 14) (by kernel_rfl) ?_ ?_
      · skip
        refine held_call 14 #[.int .i64 ((text.length : Int) + (m : Int))] rfl (by kernel_rfl) (by kernel_rfl) ?_
        refine (HP2.out wx1).mono ?_
        rintro e wx2 ⟨Ax2, cx2, rfl, rx2, bx2⟩
        have Lx2 := Lx1.trans (bx2.mono Lx1.size)
        have rax2 := rx1.below bx2 (Nat.le_refl _)
        refine ⟨_, rfl, bx2, (held_mono (S' := fun W : World => Below wx2.heap.size wx2 W) (fun _ h => bx2.trans (h.mono bx2.size)) _ _ _ _ ?_)⟩
        refine held_take 9 (.string ⟨(putL (text.length + m)).toArray⟩) rfl (by kernel_rfl) (by kernel_rfl) (by kernel_rfl) (fun _ _ _ h => h) (by kernel_rfl) (fun W hW => y_conv (x := .slice Ax2 (putL (text.length + m)).length cx2) rfl (by kernel_rfl) ((rx2.below hW (Nat.le_refl _)).conv)) (Below.refl _ _) ?_
        refine held_take 10 (.string ⟨(putL base.length ++ putL (text.length + m)).toArray⟩) rfl (by kernel_rfl) (by kernel_rfl) (by kernel_rfl) (fun _ _ _ h => h) (by kernel_rfl) (fun W hW => y_bin (x := .string ⟨(putL base.length).toArray⟩) (y := .string ⟨(putL (text.length + m)).toArray⟩) rfl (by kernel_rfl) (by kernel_rfl) rfl (add_SV W (putL base.length) (putL (text.length + m)) (by obtain ⟨z1, z2, z3, z4, z5⟩ := HLn.out; (try simp only [List.length_append, List.length_singleton]); omega))) (Below.refl _ _) ?_
        refine held_two (i := 14) (j := 21) (by kernel_rfl) ?_ ?_
        · skip
          obtain ⟨wx3, hwx3⟩ : ∃ z, z = World.alloc wx2 (.cells #[.int .u8 (x.toNat : Int)] 5) := ⟨_, rfl⟩
          have bx3 : Below (World.heap wx2).size wx2 wx3 := by rw [hwx3]; exact below_new _ _
          have rxx3 : Rb wx3 (.slice (some ⟨(World.heap wx2).size, 0, none⟩) 1 1) [x] := by rw [hwx3]; exact rb_one _ _
          have Lx3 := Lx2.trans (bx3.mono Lx2.size)
          have rax3 := rax2.below bx3 (Nat.le_refl _)
          have rbx3 := rx2.below bx3 (Nat.le_refl _)
          refine held_op (.slice (some ⟨(World.heap wx2).size, 0, none⟩) 1 1) wx3 rfl (by kernel_rfl) (y_bs (xv := .int .u8 (x.toNat : Int)) rfl (by kernel_rfl) (by rw [hwx3]; exact bs_u8 _ _)) bx3 (held_mono (S' := fun W : World => Below wx3.heap.size wx3 W) (fun _ h => bx3.trans (h.mono bx3.size)) _ _ _ _ ?_)
          clear hwx3
          refine held_take 15 (.string ⟨([x]).toArray⟩) rfl (by kernel_rfl) (by kernel_rfl) (by kernel_rfl) (fun _ _ _ h => h) (by kernel_rfl) (fun W hW => y_conv (x := .slice (some ⟨(World.heap wx2).size, 0, none⟩) 1 1) rfl (by kernel_rfl) ((rxx3.below hW (Nat.le_refl _)).conv)) (Below.refl _ _) ?_
          refine held_take 16 (.string ⟨(putL base.length ++ putL (text.length + m) ++ [x]).toArray⟩) rfl (by kernel_rfl) (by kernel_rfl) (by kernel_rfl) (fun _ _ _ h => h) (by kernel_rfl) (fun W hW => y_bin (x := .string ⟨(putL base.length ++ putL (text.length + m)).toArray⟩) (y := .string ⟨([x]).toArray⟩) rfl (by kernel_rfl) (by kernel_rfl) rfl (add_SV W (putL base.length ++ putL (text.length + m)) ([x]) (by obtain ⟨z1, z2, z3, z4, z5⟩ := HLn.out; (try simp only [List.length_append, List.length_singleton]); omega))) (Below.refl _ _) ?_
          refine held_take 18 (.string ⟨(putL base.length ++ putL (text.length + m) ++ [x] ++ text).toArray⟩) rfl (by kernel_rfl) (by kernel_rfl) (by kernel_rfl) (fun _ _ _ h => h) (by kernel_rfl) (fun W hW => y_bin (x := .string ⟨(putL base.length ++ putL (text.length + m) ++ [x]).toArray⟩) (y := .string ⟨(text).toArray⟩) rfl (by kernel_rfl) (by kernel_rfl) rfl (add_SV W (putL base.length ++ putL (text.length + m) ++ [x]) (text) (by obtain ⟨z1, z2, z3, z4, z5⟩ := HLn.out; (try simp only [List.length_append, List.length_singleton]); omega))) (Below.refl _ _) ?_
          refine held_take 19 (.string ⟨(putL base.length ++ putL (text.length + m) ++ [x] ++ text ++ [128]).toArray⟩) rfl (by kernel_rfl) (by kernel_rfl) (by kernel_rfl) (fun _ _ _ h => h) (by kernel_rfl) (fun W hW => y_bin (x := .string ⟨(putL base.length ++ putL (text.length + m) ++ [x] ++ text).toArray⟩) (y := .string ⟨([128]).toArray⟩) rfl (by kernel_rfl) (by kernel_rfl) rfl (add_SV W (putL base.length ++ putL (text.length + m) ++ [x] ++ text) ([128]) (by obtain ⟨z1, z2, z3, z4, z5⟩ := HLn.out; (try simp only [List.length_append, List.length_singleton]); omega))) (Below.refl _ _) ?_
          refine held_one (i := 21) (by kernel_rfl) ?_
          refine held_call 14 #[.int .i64 (k : Int)] rfl (by kernel_rfl) (by kernel_rfl) ?_
          refine (HP3.out wx3).mono ?_
          rintro e wx4 ⟨Ax4, cx4, rfl, rx4, bx4⟩
          have Lx4 := Lx3.trans (bx4.mono Lx3.size)
          have rax4 := rax3.below bx4 (Nat.le_refl _)
          have rbx4 := rbx3.below bx4 (Nat.le_refl _)
          have rxx4 := rxx3.below bx4 (Nat.le_refl _)
          refine ⟨_, rfl, bx4, (held_mono (S' := fun W : World => Below wx4.heap.size wx4 W) (fun _ h => bx4.trans (h.mono bx4.size)) _ _ _ _ ?_)⟩
          refine held_take 22 (.string ⟨(putL k).toArray⟩) rfl (by kernel_rfl) (by kernel_rfl) (by kernel_rfl) (fun _ _ _ h => h) (by kernel_rfl) (fun W hW => y_conv (x := .slice Ax4 (putL (k)).length cx4) rfl (by kernel_rfl) ((rx4.below hW (Nat.le_refl _)).conv)) (Below.refl _ _) ?_
          refine held_take 23 (.string ⟨(putL base.length ++ putL (text.length + m) ++ [x] ++ text ++ [128] ++ putL k).toArray⟩) rfl (by kernel_rfl) (by kernel_rfl) (by kernel_rfl) (fun _ _ _ h => h) (by kernel_rfl) (fun W hW => y_bin (x := .string ⟨(putL base.length ++ putL (text.length + m) ++ [x] ++ text ++ [128]).toArray⟩) (y := .string ⟨(putL k).toArray⟩) rfl (by kernel_rfl) (by kernel_rfl) rfl (add_SV W (putL base.length ++ putL (text.length + m) ++ [x] ++ text ++ [128]) (putL k) (by obtain ⟨z1, z2, z3, z4, z5⟩ := HLn.out; (try simp only [List.length_append, List.length_singleton]); omega))) (Below.refl _ _) ?_
          refine held_one (i := 25) (by kernel_rfl) ?_
          refine held_call 14 #[.int .i64 (m : Int)] rfl (by kernel_rfl) (by kernel_rfl) ?_
          refine (HP4.out wx4).mono ?_
          rintro e wx5 ⟨Ax5, cx5, rfl, rx5, bx5⟩
          have Lx5 := Lx4.trans (bx5.mono Lx4.size)
          have rax5 := rax4.below bx5 (Nat.le_refl _)
          have rbx5 := rbx4.below bx5 (Nat.le_refl _)
          have rxx5 := rxx4.below bx5 (Nat.le_refl _)
          have rcx5 := rx4.below bx5 (Nat.le_refl _)
          refine ⟨_, rfl, bx5, (held_mono (S' := fun W : World => Below wx5.heap.size wx5 W) (fun _ h => bx5.trans (h.mono bx5.size)) _ _ _ _ ?_)⟩
          refine held_take 26 (.string ⟨(putL m).toArray⟩) rfl (by kernel_rfl) (by kernel_rfl) (by kernel_rfl) (fun _ _ _ h => h) (by kernel_rfl) (fun W hW => y_conv (x := .slice Ax5 (putL (m)).length cx5) rfl (by kernel_rfl) ((rx5.below hW (Nat.le_refl _)).conv)) (Below.refl _ _) ?_
          refine held_take 27 (.string ⟨(putL base.length ++ putL (text.length + m) ++ [x] ++ text ++ [128] ++ putL k ++ putL m).toArray⟩) rfl (by kernel_rfl) (by kernel_rfl) (by kernel_rfl) (fun _ _ _ h => h) (by kernel_rfl) (fun W hW => y_bin (x := .string ⟨(putL base.length ++ putL (text.length + m) ++ [x] ++ text ++ [128] ++ putL k).toArray⟩) (y := .string ⟨(putL m).toArray⟩) rfl (by kernel_rfl) (by kernel_rfl) rfl (add_SV W (putL base.length ++ putL (text.length + m) ++ [x] ++ text ++ [128] ++ putL k) (putL m) (by obtain ⟨z1, z2, z3, z4, z5⟩ := HLn.out; (try simp only [List.length_append, List.length_singleton]); omega))) (Below.refl _ _) ?_
          refine held_take 28 (.string ⟨(putL base.length ++ putL (text.length + m) ++ [x] ++ text ++ [128] ++ putL k ++ putL m).toArray⟩) rfl (by kernel_rfl) (by kernel_rfl) (by kernel_rfl) (fun _ _ _ h => h) (by kernel_rfl) (fun W hW => by kernel_rfl) (Below.refl _ _) ?_
          refine held_done _ (by kernel_rfl) ?_
          have HL := Lib.hid Lx5
          go_simp
          go_wp2
          go_meet
          case rel => exact ⟨by simp, HL⟩
        · skip
          refine held_call 14 #[.int .i64 (k : Int)] rfl (by kernel_rfl) (by kernel_rfl) ?_
          refine (HP3.out wx2).mono ?_
          rintro e wx6 ⟨Ax6, cx6, rfl, rx6, bx6⟩
          have Lx6 := Lx2.trans (bx6.mono Lx2.size)
          have rax6 := rax2.below bx6 (Nat.le_refl _)
          have rbx6 := rx2.below bx6 (Nat.le_refl _)
          refine ⟨_, rfl, bx6, (held_mono (S' := fun W : World => Below wx6.heap.size wx6 W) (fun _ h => bx6.trans (h.mono bx6.size)) _ _ _ _ ?_)⟩
          refine held_take 22 (.string ⟨(putL k).toArray⟩) rfl (by kernel_rfl) (by kernel_rfl) (by kernel_rfl) (fun _ _ _ h => h) (by kernel_rfl) (fun W hW => y_conv (x := .slice Ax6 (putL (k)).length cx6) rfl (by kernel_rfl) ((rx6.below hW (Nat.le_refl _)).conv)) (Below.refl _ _) ?_
          refine held_two (i := 14) (j := 25) (by kernel_rfl) ?_ ?_
          · skip
            obtain ⟨wx7, hwx7⟩ : ∃ z, z = World.alloc wx6 (.cells #[.int .u8 (x.toNat : Int)] 5) := ⟨_, rfl⟩
            have bx7 : Below (World.heap wx6).size wx6 wx7 := by rw [hwx7]; exact below_new _ _
            have rxx7 : Rb wx7 (.slice (some ⟨(World.heap wx6).size, 0, none⟩) 1 1) [x] := by rw [hwx7]; exact rb_one _ _
            have Lx7 := Lx6.trans (bx7.mono Lx6.size)
            have rax7 := rax6.below bx7 (Nat.le_refl _)
            have rbx7 := rbx6.below bx7 (Nat.le_refl _)
            have rcx7 := rx6.below bx7 (Nat.le_refl _)
            refine held_op (.slice (some ⟨(World.heap wx6).size, 0, none⟩) 1 1) wx7 rfl (by kernel_rfl) (y_bs (xv := .int .u8 (x.toNat : Int)) rfl (by kernel_rfl) (by rw [hwx7]; exact bs_u8 _ _)) bx7 (held_mono (S' := fun W : World => Below wx7.heap.size wx7 W) (fun _ h => bx7.trans (h.mono bx7.size)) _ _ _ _ ?_)
            clear hwx7
            refine held_take 15 (.string ⟨([x]).toArray⟩) rfl (by kernel_rfl) (by kernel_rfl) (by kernel_rfl) (fun _ _ _ h => h) (by kernel_rfl) (fun W hW => y_conv (x := .slice (some ⟨(World.heap wx6).size, 0, none⟩) 1 1) rfl (by kernel_rfl) ((rxx7.below hW (Nat.le_refl _)).conv)) (Below.refl _ _) ?_
            refine held_take 16 (.string ⟨(putL base.length ++ putL (text.length + m) ++ [x]).toArray⟩) rfl (by kernel_rfl) (by kernel_rfl) (by kernel_rfl) (fun _ _ _ h => h) (by kernel_rfl) (fun W hW => y_bin (x := .string ⟨(putL base.length ++ putL (text.length + m)).toArray⟩) (y := .string ⟨([x]).toArray⟩) rfl (by kernel_rfl) (by kernel_rfl) rfl (add_SV W (putL base.length ++ putL (text.length + m)) ([x]) (by obtain ⟨z1, z2, z3, z4, z5⟩ := HLn.out; (try simp only [List.length_append, List.length_singleton]); omega))) (Below.refl _ _) ?_
            refine held_take 18 (.string ⟨(putL base.length ++ putL (text.length + m) ++ [x] ++ text).toArray⟩) rfl (by kernel_rfl) (by kernel_rfl) (by kernel_rfl) (fun _ _ _ h => h) (by kernel_rfl) (fun W hW => y_bin (x := .string ⟨(putL base.length ++ putL (text.length + m) ++ [x]).toArray⟩) (y := .string ⟨(text).toArray⟩) rfl (by kernel_rfl) (by kernel_rfl) rfl (add_SV W (putL base.length ++ putL (text.length + m) ++ [x]) (text) (by obtain ⟨z1, z2, z3, z4, z5⟩ := HLn.out; (try simp only [List.length_append, List.length_singleton]); omega))) (Below.refl _ _) ?_
            refine held_take 19 (.string ⟨(putL base.length ++ putL (text.length + m) ++ [x] ++ text ++ [128]).toArray⟩) rfl (by kernel_rfl) (by kernel_rfl) (by kernel_rfl) (fun _ _ _ h => h) (by kernel_rfl) (fun W hW => y_bin (x := .string ⟨(putL base.length ++ putL (text.length + m) ++ [x] ++ text).toArray⟩) (y := .string ⟨([128]).toArray⟩) rfl (by kernel_rfl) (by kernel_rfl) rfl (add_SV W (putL base.length ++ putL (text.length + m) ++ [x] ++ text) ([128]) (by obtain ⟨z1, z2, z3, z4, z5⟩ := HLn.out; (try simp only [List.length_append, List.length_singleton]); omega))) (Below.refl _ _) ?_
            refine held_take 23 (.string ⟨(putL base.length ++ putL (text.length + m) ++ [x] ++ text ++ [128] ++ putL k).toArray⟩) rfl (by kernel_rfl) (by kernel_rfl) (by kernel_rfl) (fun _ _ _ h => h) (by kernel_rfl) (fun W hW => y_bin (x := .string ⟨(putL base.length ++ putL (text.length + m) ++ [x] ++ text ++ [128]).toArray⟩) (y := .string ⟨(putL k).toArray⟩) rfl (by kernel_rfl) (by kernel_rfl) rfl (add_SV W (putL base.length ++ putL (text.length + m) ++ [x] ++ text ++ [128]) (putL k) (by obtain ⟨z1, z2, z3, z4, z5⟩ := HLn.out; (try simp only [List.length_append, List.length_singleton]); omega))) (Below.refl _ _) ?_
            refine held_one (i := 25) (by kernel_rfl) ?_
            refine held_call 14 #[.int .i64 (m : Int)] rfl (by kernel_rfl) (by kernel_rfl) ?_
            refine (HP4.out wx7).mono ?_
            rintro e wx8 ⟨Ax8, cx8, rfl, rx8, bx8⟩
            have Lx8 := Lx7.trans (bx8.mono Lx7.size)
            have rax8 := rax7.below bx8 (Nat.le_refl _)
            have rbx8 := rbx7.below bx8 (Nat.le_refl _)
            have rcx8 := rcx7.below bx8 (Nat.le_refl _)
            have rxx8 := rxx7.below bx8 (Nat.le_refl _)
            refine ⟨_, rfl, bx8, (held_mono (S' := fun W : World => Below wx8.heap.size wx8 W) (fun _ h => bx8.trans (h.mono bx8.size)) _ _ _ _ ?_)⟩
            refine held_take 26 (.string ⟨(putL m).toArray⟩) rfl (by kernel_rfl) (by kernel_rfl) (by kernel_rfl) (fun _ _ _ h => h) (by kernel_rfl) (fun W hW => y_conv (x := .slice Ax8 (putL (m)).length cx8) rfl (by kernel_rfl) ((rx8.below hW (Nat.le_refl _)).conv)) (Below.refl _ _) ?_
            refine held_take 27 (.string ⟨(putL base.length ++ putL (text.length + m) ++ [x] ++ text ++ [128] ++ putL k ++ putL m).toArray⟩) rfl (by kernel_rfl) (by kernel_rfl) (by kernel_rfl) (fun _ _ _ h => h) (by kernel_rfl) (fun W hW => y_bin (x := .string ⟨(putL base.length ++ putL (text.length + m) ++ [x] ++ text ++ [128] ++ putL k).toArray⟩) (y := .string ⟨(putL m).toArray⟩) rfl (by kernel_rfl) (by kernel_rfl) rfl (add_SV W (putL base.length ++ putL (text.length + m) ++ [x] ++ text ++ [128] ++ putL k) (putL m) (by obtain ⟨z1, z2, z3, z4, z5⟩ := HLn.out; (try simp only [List.length_append, List.length_singleton]); omega))) (Below.refl _ _) ?_
            refine held_take 28 (.string ⟨(putL base.length ++ putL (text.length + m) ++ [x] ++ text ++ [128] ++ putL k ++ putL m).toArray⟩) rfl (by kernel_rfl) (by kernel_rfl) (by kernel_rfl) (fun _ _ _ h => h) (by kernel_rfl) (fun W hW => by kernel_rfl) (Below.refl _ _) ?_
            refine held_done _ (by kernel_rfl) ?_
            have HL := Lib.hid Lx8
            go_simp
            go_wp2
            go_meet
            case rel => exact ⟨by simp, HL⟩
          · skip
            refine held_call 14 #[.int .i64 (m : Int)] rfl (by kernel_rfl) (by kernel_rfl) ?_
            refine (HP4.out wx6).mono ?_
            rintro e wx9 ⟨Ax9, cx9, rfl, rx9, bx9⟩
            have Lx9 := Lx6.trans (bx9.mono Lx6.size)
            have rax9 := rax6.below bx9 (Nat.le_refl _)
            have rbx9 := rbx6.below bx9 (Nat.le_refl _)
            have rcx9 := rx6.below bx9 (Nat.le_refl _)
            refine ⟨_, rfl, bx9, (held_mono (S' := fun W : World => Below wx9.heap.size wx9 W) (fun _ h => bx9.trans (h.mono bx9.size)) _ _ _ _ ?_)⟩
            refine held_take 26 (.string ⟨(putL m).toArray⟩) rfl (by kernel_rfl) (by kernel_rfl) (by kernel_rfl) (fun _ _ _ h => h) (by kernel_rfl) (fun W hW => y_conv (x := .slice Ax9 (putL (m)).length cx9) rfl (by kernel_rfl) ((rx9.below hW (Nat.le_refl _)).conv)) (Below.refl _ _) ?_
            refine held_one (i := 14) (by kernel_rfl) ?_
            obtain ⟨wx10, hwx10⟩ : ∃ z, z = World.alloc wx9 (.cells #[.int .u8 (x.toNat : Int)] 5) := ⟨_, rfl⟩
            have bx10 : Below (World.heap wx9).size wx9 wx10 := by rw [hwx10]; exact below_new _ _
            have rxx10 : Rb wx10 (.slice (some ⟨(World.heap wx9).size, 0, none⟩) 1 1) [x] := by rw [hwx10]; exact rb_one _ _
            have Lx10 := Lx9.trans (bx10.mono Lx9.size)
            have rax10 := rax9.below bx10 (Nat.le_refl _)
            have rbx10 := rbx9.below bx10 (Nat.le_refl _)
            have rcx10 := rcx9.below bx10 (Nat.le_refl _)
            have rdx10 := rx9.below bx10 (Nat.le_refl _)
            refine held_op (.slice (some ⟨(World.heap wx9).size, 0, none⟩) 1 1) wx10 rfl (by kernel_rfl) (y_bs (xv := .int .u8 (x.toNat : Int)) rfl (by kernel_rfl) (by rw [hwx10]; exact bs_u8 _ _)) bx10 (held_mono (S' := fun W : World => Below wx10.heap.size wx10 W) (fun _ h => bx10.trans (h.mono bx10.size)) _ _ _ _ ?_)
            clear hwx10
            refine held_take 15 (.string ⟨([x]).toArray⟩) rfl (by kernel_rfl) (by kernel_rfl) (by kernel_rfl) (fun _ _ _ h => h) (by kernel_rfl) (fun W hW => y_conv (x := .slice (some ⟨(World.heap wx9).size, 0, none⟩) 1 1) rfl (by kernel_rfl) ((rxx10.below hW (Nat.le_refl _)).conv)) (Below.refl _ _) ?_
            refine held_take 16 (.string ⟨(putL base.length ++ putL (text.length + m) ++ [x]).toArray⟩) rfl (by kernel_rfl) (by kernel_rfl) (by kernel_rfl) (fun _ _ _ h => h) (by kernel_rfl) (fun W hW => y_bin (x := .string ⟨(putL base.length ++ putL (text.length + m)).toArray⟩) (y := .string ⟨([x]).toArray⟩) rfl (by kernel_rfl) (by kernel_rfl) rfl (add_SV W (putL base.length ++ putL (text.length + m)) ([x]) (by obtain ⟨z1, z2, z3, z4, z5⟩ := HLn.out; (try simp only [List.length_append, List.length_singleton]); omega))) (Below.refl _ _) ?_
            refine held_take 18 (.string ⟨(putL base.length ++ putL (text.length + m) ++ [x] ++ text).toArray⟩) rfl (by kernel_rfl) (by kernel_rfl) (by kernel_rfl) (fun _ _ _ h => h) (by kernel_rfl) (fun W hW => y_bin (x := .string ⟨(putL base.length ++ putL (text.length + m) ++ [x]).toArray⟩) (y := .string ⟨(text).toArray⟩) rfl (by kernel_rfl) (by kernel_rfl) rfl (add_SV W (putL base.length ++ putL (text.length + m) ++ [x]) (text) (by obtain ⟨z1, z2, z3, z4, z5⟩ := HLn.out; (try simp only [List.length_append, List.length_singleton]); omega))) (Below.refl _ _) ?_
            refine held_take 19 (.string ⟨(putL base.length ++ putL (text.length + m) ++ [x] ++ text ++ [128]).toArray⟩) rfl (by kernel_rfl) (by kernel_rfl) (by kernel_rfl) (fun _ _ _ h => h) (by kernel_rfl) (fun W hW => y_bin (x := .string ⟨(putL base.length ++ putL (text.length + m) ++ [x] ++ text).toArray⟩) (y := .string ⟨([128]).toArray⟩) rfl (by kernel_rfl) (by kernel_rfl) rfl (add_SV W (putL base.length ++ putL (text.length + m) ++ [x] ++ text) ([128]) (by obtain ⟨z1, z2, z3, z4, z5⟩ := HLn.out; (try simp only [List.length_append, List.length_singleton]); omega))) (Below.refl _ _) ?_
            refine held_take 23 (.string ⟨(putL base.length ++ putL (text.length + m) ++ [x] ++ text ++ [128] ++ putL k).toArray⟩) rfl (by kernel_rfl) (by kernel_rfl) (by kernel_rfl) (fun _ _ _ h => h) (by kernel_rfl) (fun W hW => y_bin (x := .string ⟨(putL base.length ++ putL (text.length + m) ++ [x] ++ text ++ [128]).toArray⟩) (y := .string ⟨(putL k).toArray⟩) rfl (by kernel_rfl) (by kernel_rfl) rfl (add_SV W (putL base.length ++ putL (text.length + m) ++ [x] ++ text ++ [128]) (putL k) (by obtain ⟨z1, z2, z3, z4, z5⟩ := HLn.out; (try simp only [List.length_append, List.length_singleton]); omega))) (Below.refl _ _) ?_
            refine held_take 27 (.string ⟨(putL base.length ++ putL (text.length + m) ++ [x] ++ text ++ [128] ++ putL k ++ putL m).toArray⟩) rfl (by kernel_rfl) (by kernel_rfl) (by kernel_rfl) (fun _ _ _ h => h) (by kernel_rfl) (fun W hW => y_bin (x := .string ⟨(putL base.length ++ putL (text.length + m) ++ [x] ++ text ++ [128] ++ putL k).toArray⟩) (y := .string ⟨(putL m).toArray⟩) rfl (by kernel_rfl) (by kernel_rfl) rfl (add_SV W (putL base.length ++ putL (text.length + m) ++ [x] ++ text ++ [128] ++ putL k) (putL m) (by obtain ⟨z1, z2, z3, z4, z5⟩ := HLn.out; (try simp only [List.length_append, List.length_singleton]); omega))) (Below.refl _ _) ?_
            refine held_take 28 (.string ⟨(putL base.length ++ putL (text.length + m) ++ [x] ++ text ++ [128] ++ putL k ++ putL m).toArray⟩) rfl (by kernel_rfl) (by kernel_rfl) (by kernel_rfl) (fun _ _ _ h => h) (by kernel_rfl) (fun W hW => by kernel_rfl) (Below.refl _ _) ?_
            refine held_done _ (by kernel_rfl) ?_
            have HL := Lib.hid Lx10
            go_simp
            go_wp2
            go_meet
            case rel => exact ⟨by simp, HL⟩
      · skip
        obtain ⟨wx11, hwx11⟩ : ∃ z, z = World.alloc wx1 (.cells #[.int .u8 (x.toNat : Int)] 5) := ⟨_, rfl⟩
        have bx11 : Below (World.heap wx1).size wx1 wx11 := by rw [hwx11]; exact below_new _ _
        have rxx11 : Rb wx11 (.slice (some ⟨(World.heap wx1).size, 0, none⟩) 1 1) [x] := by rw [hwx11]; exact rb_one _ _
        have Lx11 := Lx1.trans (bx11.mono Lx1.size)
        have rax11 := rx1.below bx11 (Nat.le_refl _)
        refine held_op (.slice (some ⟨(World.heap wx1).size, 0, none⟩) 1 1) wx11 rfl (by kernel_rfl) (y_bs (xv := .int .u8 (x.toNat : Int)) rfl (by kernel_rfl) (by rw [hwx11]; exact bs_u8 _ _)) bx11 (held_mono (S' := fun W : World => Below wx11.heap.size wx11 W) (fun _ h => bx11.trans (h.mono bx11.size)) _ _ _ _ ?_)
        clear hwx11
        refine held_take 15 (.string ⟨([x]).toArray⟩) rfl (by kernel_rfl) (by kernel_rfl) (by kernel_rfl) (fun _ _ _ h => h) (by kernel_rfl) (fun W hW => y_conv (x := .slice (some ⟨(World.heap wx1).size, 0, none⟩) 1 1) rfl (by kernel_rfl) ((rxx11.below hW (Nat.le_refl _)).conv)) (Below.refl _ _) ?_
        refine held_one (i := 8) (by kernel_rfl) ?_
        refine held_call 14 #[.int .i64 ((text.length : Int) + (m : Int))] rfl (by kernel_rfl) (by kernel_rfl) ?_
        refine (HP2.out wx11).mono ?_
        rintro e wx12 ⟨Ax12, cx12, rfl, rx12, bx12⟩
        have Lx12 := Lx11.trans (bx12.mono Lx11.size)
        have rax12 := rax11.below bx12 (Nat.le_refl _)
        have rxx12 := rxx11.below bx12 (Nat.le_refl _)
        refine ⟨_, rfl, bx12, (held_mono (S' := fun W : World => Below wx12.heap.size wx12 W) (fun _ h => bx12.trans (h.mono bx12.size)) _ _ _ _ ?_)⟩
        refine held_take 9 (.string ⟨(putL (text.length + m)).toArray⟩) rfl (by kernel_rfl) (by kernel_rfl) (by kernel_rfl) (fun _ _ _ h => h) (by kernel_rfl) (fun W hW => y_conv (x := .slice Ax12 (putL (text.length + m)).length cx12) rfl (by kernel_rfl) ((rx12.below hW (Nat.le_refl _)).conv)) (Below.refl _ _) ?_
        refine held_take 10 (.string ⟨(putL base.length ++ putL (text.length + m)).toArray⟩) rfl (by kernel_rfl) (by kernel_rfl) (by kernel_rfl) (fun _ _ _ h => h) (by kernel_rfl) (fun W hW => y_bin (x := .string ⟨(putL base.length).toArray⟩) (y := .string ⟨(putL (text.length + m)).toArray⟩) rfl (by kernel_rfl) (by kernel_rfl) rfl (add_SV W (putL base.length) (putL (text.length + m)) (by obtain ⟨z1, z2, z3, z4, z5⟩ := HLn.out; (try simp only [List.length_append, List.length_singleton]); omega))) (Below.refl _ _) ?_
        refine held_take 16 (.string ⟨(putL base.length ++ putL (text.length + m) ++ [x]).toArray⟩) rfl (by kernel_rfl) (by kernel_rfl) (by kernel_rfl) (fun _ _ _ h => h) (by kernel_rfl) (fun W hW => y_bin (x := .string ⟨(putL base.length ++ putL (text.length + m)).toArray⟩) (y := .string ⟨([x]).toArray⟩) rfl (by kernel_rfl) (by kernel_rfl) rfl (add_SV W (putL base.length ++ putL (text.length + m)) ([x]) (by obtain ⟨z1, z2, z3, z4, z5⟩ := HLn.out; (try simp only [List.length_append, List.length_singleton]); omega))) (Below.refl _ _) ?_
        refine held_take 18 (.string ⟨(putL base.length ++ putL (text.length + m) ++ [x] ++ text).toArray⟩) rfl (by kernel_rfl) (by kernel_rfl) (by kernel_rfl) (fun _ _ _ h => h) (by kernel_rfl) (fun W hW => y_bin (x := .string ⟨(putL base.length ++ putL (text.length + m) ++ [x]).toArray⟩) (y := .string ⟨(text).toArray⟩) rfl (by kernel_rfl) (by kernel_rfl) rfl (add_SV W (putL base.length ++ putL (text.length + m) ++ [x]) (text) (by obtain ⟨z1, z2, z3, z4, z5⟩ := HLn.out; (try simp only [List.length_append, List.length_singleton]); omega))) (Below.refl _ _) ?_
        refine held_take 19 (.string ⟨(putL base.length ++ putL (text.length + m) ++ [x] ++ text ++ [128]).toArray⟩) rfl (by kernel_rfl) (by kernel_rfl) (by kernel_rfl) (fun _ _ _ h => h) (by kernel_rfl) (fun W hW => y_bin (x := .string ⟨(putL base.length ++ putL (text.length + m) ++ [x] ++ text).toArray⟩) (y := .string ⟨([128]).toArray⟩) rfl (by kernel_rfl) (by kernel_rfl) rfl (add_SV W (putL base.length ++ putL (text.length + m) ++ [x] ++ text) ([128]) (by obtain ⟨z1, z2, z3, z4, z5⟩ := HLn.out; (try simp only [List.length_append, List.length_singleton]); omega))) (Below.refl _ _) ?_
        refine held_one (i := 21) (by kernel_rfl) ?_
        refine held_call 14 #[.int .i64 (k : Int)] rfl (by kernel_rfl) (by kernel_rfl) ?_
        refine (HP3.out wx12).mono ?_
        rintro e wx13 ⟨Ax13, cx13, rfl, rx13, bx13⟩
        have Lx13 := Lx12.trans (bx13.mono Lx12.size)
        have rax13 := rax12.below bx13 (Nat.le_refl _)
        have rxx13 := rxx12.below bx13 (Nat.le_refl _)
        have rbx13 := rx12.below bx13 (Nat.le_refl _)
        refine ⟨_, rfl, bx13, (held_mono (S' := fun W : World => Below wx13.heap.size wx13 W) (fun _ h => bx13.trans (h.mono bx13.size)) _ _ _ _ ?_)⟩
        refine held_take 22 (.string ⟨(putL k).toArray⟩) rfl (by kernel_rfl) (by kernel_rfl) (by kernel_rfl) (fun _ _ _ h => h) (by kernel_rfl) (fun W hW => y_conv (x := .slice Ax13 (putL (k)).length cx13) rfl (by kernel_rfl) ((rx13.below hW (Nat.le_refl _)).conv)) (Below.refl _ _) ?_
        refine held_take 23 (.string ⟨(putL base.length ++ putL (text.length + m) ++ [x] ++ text ++ [128] ++ putL k).toArray⟩) rfl (by kernel_rfl) (by kernel_rfl) (by kernel_rfl) (fun _ _ _ h => h) (by kernel_rfl) (fun W hW => y_bin (x := .string ⟨(putL base.length ++ putL (text.length + m) ++ [x] ++ text ++ [128]).toArray⟩) (y := .string ⟨(putL k).toArray⟩) rfl (by kernel_rfl) (by kernel_rfl) rfl (add_SV W (putL base.length ++ putL (text.length + m) ++ [x] ++ text ++ [128]) (putL k) (by obtain ⟨z1, z2, z3, z4, z5⟩ := HLn.out; (try simp only [List.length_append, List.length_singleton]); omega))) (Below.refl _ _) ?_
        refine held_one (i := 25) (by kernel_rfl) ?_
        refine held_call 14 #[.int .i64 (m : Int)] rfl (by kernel_rfl) (by kernel_rfl) ?_
        refine (HP4.out wx13).mono ?_
        rintro e wx14 ⟨Ax14, cx14, rfl, rx14, bx14⟩
        have Lx14 := Lx13.trans (bx14.mono Lx13.size)
        have rax14 := rax13.below bx14 (Nat.le_refl _)
        have rxx14 := rxx13.below bx14 (Nat.le_refl _)
        have rbx14 := rbx13.below bx14 (Nat.le_refl _)
        have rcx14 := rx13.below bx14 (Nat.le_refl _)
        refine ⟨_, rfl, bx14, (held_mono (S' := fun W : World => Below wx14.heap.size wx14 W) (fun _ h => bx14.trans (h.mono bx14.size)) _ _ _ _ ?_)⟩
        refine held_take 26 (.string ⟨(putL m).toArray⟩) rfl (by kernel_rfl) (by kernel_rfl) (by kernel_rfl) (fun _ _ _ h => h) (by kernel_rfl) (fun W hW => y_conv (x := .slice Ax14 (putL (m)).length cx14) rfl (by kernel_rfl) ((rx14.below hW (Nat.le_refl _)).conv)) (Below.refl _ _) ?_
        refine held_take 27 (.string ⟨(putL base.length ++ putL (text.length + m) ++ [x] ++ text ++ [128] ++ putL k ++ putL m).toArray⟩) rfl (by kernel_rfl) (by kernel_rfl) (by kernel_rfl) (fun _ _ _ h => h) (by kernel_rfl) (fun W hW => y_bin (x := .string ⟨(putL base.length ++ putL (text.length + m) ++ [x] ++ text ++ [128] ++ putL k).toArray⟩) (y := .string ⟨(putL m).toArray⟩) rfl (by kernel_rfl) (by kernel_rfl) rfl (add_SV W (putL base.length ++ putL (text.length + m) ++ [x] ++ text ++ [128] ++ putL k) (putL m) (by obtain ⟨z1, z2, z3, z4, z5⟩ := HLn.out; (try simp only [List.length_append, List.length_singleton]); omega))) (Below.refl _ _) ?_
        refine held_take 28 (.string ⟨(putL base.length ++ putL (text.length + m) ++ [x] ++ text ++ [128] ++ putL k ++ putL m).toArray⟩) rfl (by kernel_rfl) (by kernel_rfl) (by kernel_rfl) (fun _ _ _ h => h) (by kernel_rfl) (fun W hW => by kernel_rfl) (Below.refl _ _) ?_
        refine held_done _ (by kernel_rfl) ?_
        have HL := Lib.hid Lx14
        go_simp
        go_wp2
        go_meet
        case rel => exact ⟨by simp, HL⟩
    · skip
      obtain ⟨wx15, hwx15⟩ : ∃ z, z = World.alloc w1.drew (.cells #[.int .u8 (x.toNat : Int)] 5) := ⟨_, rfl⟩
      have bx15 : Below (World.heap w1.drew).size w1.drew wx15 := by rw [hwx15]; exact below_new _ _
      have rxx15 : Rb wx15 (.slice (some ⟨(World.heap w1.drew).size, 0, none⟩) 1 1) [x] := by rw [hwx15]; exact rb_one _ _
      have Lx15 := LD.trans (bx15.mono LD.size)
      refine held_op (.slice (some ⟨(World.heap w1.drew).size, 0, none⟩) 1 1) wx15 rfl (by kernel_rfl) (y_bs (xv := .int .u8 (x.toNat : Int)) rfl (by kernel_rfl) (by rw [hwx15]; exact bs_u8 _ _)) bx15 (held_mono (S' := fun W : World => Below wx15.heap.size wx15 W) (fun _ h => bx15.trans (h.mono bx15.size)) _ _ _ _ ?_)
      clear hwx15
      refine held_take 15 (.string ⟨([x]).toArray⟩) rfl (by kernel_rfl) (by kernel_rfl) (by kernel_rfl) (fun _ _ _ h => h) (by kernel_rfl) (fun W hW => y_conv (x := .slice (some ⟨(World.heap w1.drew).size, 0, none⟩) 1 1) rfl (by kernel_rfl) ((rxx15.below hW (Nat.le_refl _)).conv)) (Below.refl _ _) ?_
      refine held_one (i := 2) (by kernel_rfl) ?_
      refine held_call 14 #[.int .i64 (base.length : Int)] rfl (by kernel_rfl) (by kernel_rfl) ?_
      refine (HP1.out wx15).mono ?_
      rintro e wx16 ⟨Ax16, cx16, rfl, rx16, bx16⟩
      have Lx16 := Lx15.trans (bx16.mono Lx15.size)
      have rxx16 := rxx15.below bx16 (Nat.le_refl _)
      refine ⟨_, rfl, bx16, (held_mono (S' := fun W : World => Below wx16.heap.size wx16 W) (fun _ h => bx16.trans (h.mono bx16.size)) _ _ _ _ ?_)⟩
      refine held_take 3 (.string ⟨(putL base.length).toArray⟩) rfl (by kernel_rfl) (by kernel_rfl) (by kernel_rfl) (fun _ _ _ h => h) (by kernel_rfl) (fun W hW => y_conv (x := .slice Ax16 (putL (base.length)).length cx16) rfl (by kernel_rfl) ((rx16.below hW (Nat.le_refl _)).conv)) (Below.refl _ _) ?_
      refine held_one (i := 8) (by kernel_rfl) ?_
      refine held_call 14 #[.int .i64 ((text.length : Int) + (m : Int))] rfl (by kernel_rfl) (by kernel_rfl) ?_
      refine (HP2.out wx16).mono ?_
      rintro e wx17 ⟨Ax17, cx17, rfl, rx17, bx17⟩
      have Lx17 := Lx16.trans (bx17.mono Lx16.size)
      have rxx17 := rxx16.below bx17 (Nat.le_refl _)
      have rax17 := rx16.below bx17 (Nat.le_refl _)
      refine ⟨_, rfl, bx17, (held_mono (S' := fun W : World => Below wx17.heap.size wx17 W) (fun _ h => bx17.trans (h.mono bx17.size)) _ _ _ _ ?_)⟩
      refine held_take 9 (.string ⟨(putL (text.length + m)).toArray⟩) rfl (by kernel_rfl) (by kernel_rfl) (by kernel_rfl) (fun _ _ _ h => h) (by kernel_rfl) (fun W hW => y_conv (x := .slice Ax17 (putL (text.length + m)).length cx17) rfl (by kernel_rfl) ((rx17.below hW (Nat.le_refl _)).conv)) (Below.refl _ _) ?_
      refine held_take 10 (.string ⟨(putL base.length ++ putL (text.length + m)).toArray⟩) rfl (by kernel_rfl) (by kernel_rfl) (by kernel_rfl) (fun _ _ _ h => h) (by kernel_rfl) (fun W hW => y_bin (x := .string ⟨(putL base.length).toArray⟩) (y := .string ⟨(putL (text.length + m)).toArray⟩) rfl (by kernel_rfl) (by kernel_rfl) rfl (add_SV W (putL base.length) (putL (text.length + m)) (by obtain ⟨z1, z2, z3, z4, z5⟩ := HLn.out; (try simp only [List.length_append, List.length_singleton]); omega))) (Below.refl _ _) ?_
      refine held_take 16 (.string ⟨(putL base.length ++ putL (text.length + m) ++ [x]).toArray⟩) rfl (by kernel_rfl) (by kernel_rfl) (by kernel_rfl) (fun _ _ _ h => h) (by kernel_rfl) (fun W hW => y_bin (x := .string ⟨(putL base.length ++ putL (text.length + m)).toArray⟩) (y := .string ⟨([x]).toArray⟩) rfl (by kernel_rfl) (by kernel_rfl) rfl (add_SV W (putL base.length ++ putL (text.length + m)) ([x]) (by obtain ⟨z1, z2, z3, z4, z5⟩ := HLn.out; (try simp only [List.length_append, List.length_singleton]); omega))) (Below.refl _ _) ?_
      refine held_take 18 (.string ⟨(putL base.length ++ putL (text.length + m) ++ [x] ++ text).toArray⟩) rfl (by kernel_rfl) (by kernel_rfl) (by kernel_rfl) (fun _ _ _ h => h) (by kernel_rfl) (fun W hW => y_bin (x := .string ⟨(putL base.length ++ putL (text.length + m) ++ [x]).toArray⟩) (y := .string ⟨(text).toArray⟩) rfl (by kernel_rfl) (by kernel_rfl) rfl (add_SV W (putL base.length ++ putL (text.length + m) ++ [x]) (text) (by obtain ⟨z1, z2, z3, z4, z5⟩ := HLn.out; (try simp only [List.length_append, List.length_singleton]); omega))) (Below.refl _ _) ?_
      refine held_take 19 (.string ⟨(putL base.length ++ putL (text.length + m) ++ [x] ++ text ++ [128]).toArray⟩) rfl (by kernel_rfl) (by kernel_rfl) (by kernel_rfl) (fun _ _ _ h => h) (by kernel_rfl) (fun W hW => y_bin (x := .string ⟨(putL base.length ++ putL (text.length + m) ++ [x] ++ text).toArray⟩) (y := .string ⟨([128]).toArray⟩) rfl (by kernel_rfl) (by kernel_rfl) rfl (add_SV W (putL base.length ++ putL (text.length + m) ++ [x] ++ text) ([128]) (by obtain ⟨z1, z2, z3, z4, z5⟩ := HLn.out; (try simp only [List.length_append, List.length_singleton]); omega))) (Below.refl _ _) ?_
      refine held_one (i := 21) (by kernel_rfl) ?_
      refine held_call 14 #[.int .i64 (k : Int)] rfl (by kernel_rfl) (by kernel_rfl) ?_
      refine (HP3.out wx17).mono ?_
      rintro e wx18 ⟨Ax18, cx18, rfl, rx18, bx18⟩
      have Lx18 := Lx17.trans (bx18.mono Lx17.size)
      have rxx18 := rxx17.below bx18 (Nat.le_refl _)
      have rax18 := rax17.below bx18 (Nat.le_refl _)
      have rbx18 := rx17.below bx18 (Nat.le_refl _)
      refine ⟨_, rfl, bx18, (held_mono (S' := fun W : World => Below wx18.heap.size wx18 W) (fun _ h => bx18.trans (h.mono bx18.size)) _ _ _ _ ?_)⟩
      refine held_take 22 (.string ⟨(putL k).toArray⟩) rfl (by kernel_rfl) (by kernel_rfl) (by kernel_rfl) (fun _ _ _ h => h) (by kernel_rfl) (fun W hW => y_conv (x := .slice Ax18 (putL (k)).length cx18) rfl (by kernel_rfl) ((rx18.below hW (Nat.le_refl _)).conv)) (Below.refl _ _) ?_
      refine held_take 23 (.string ⟨(putL base.length ++ putL (text.length + m) ++ [x] ++ text ++ [128] ++ putL k).toArray⟩) rfl (by kernel_rfl) (by kernel_rfl) (by kernel_rfl) (fun _ _ _ h => h) (by kernel_rfl) (fun W hW => y_bin (x := .string ⟨(putL base.length ++ putL (text.length + m) ++ [x] ++ text ++ [128]).toArray⟩) (y := .string ⟨(putL k).toArray⟩) rfl (by kernel_rfl) (by kernel_rfl) rfl (add_SV W (putL base.length ++ putL (text.length + m) ++ [x] ++ text ++ [128]) (putL k) (by obtain ⟨z1, z2, z3, z4, z5⟩ := HLn.out; (try simp only [List.length_append, List.length_singleton]); omega))) (Below.refl _ _) ?_
      refine held_one (i := 25) (by kernel_rfl) ?_
      refine held_call 14 #[.int .i64 (m : Int)] rfl (by kernel_rfl) (by kernel_rfl) ?_
      refine (HP4.out wx18).mono ?_
      rintro e wx19 ⟨Ax19, cx19, rfl, rx19, bx19⟩
      have Lx19 := Lx18.trans (bx19.mono Lx18.size)
      have rxx19 := rxx18.below bx19 (Nat.le_refl _)
      have rax19 := rax18.below bx19 (Nat.le_refl _)
      have rbx19 := rbx18.below bx19 (Nat.le_refl _)
      have rcx19 := rx18.below bx19 (Nat.le_refl _)
      refine ⟨_, rfl, bx19, (held_mono (S' := fun W : World => Below wx19.heap.size wx19 W) (fun _ h => bx19.trans (h.mono bx19.size)) _ _ _ _ ?_)⟩
      refine held_take 26 (.string ⟨(putL m).toArray⟩) rfl (by kernel_rfl) (by kernel_rfl) (by kernel_rfl) (fun _ _ _ h => h) (by kernel_rfl) (fun W hW => y_conv (x := .slice Ax19 (putL (m)).length cx19) rfl (by kernel_rfl) ((rx19.below hW (Nat.le_refl _)).conv)) (Below.refl _ _) ?_
      refine held_take 27 (.string ⟨(putL base.length ++ putL (text.length + m) ++ [x] ++ text ++ [128] ++ putL k ++ putL m).toArray⟩) rfl (by kernel_rfl) (by kernel_rfl) (by kernel_rfl) (fun _ _ _ h => h) (by kernel_rfl) (fun W hW => y_bin (x := .string ⟨(putL base.length ++ putL (text.length + m) ++ [x] ++ text ++ [128] ++ putL k).toArray⟩) (y := .string ⟨(putL m).toArray⟩) rfl (by kernel_rfl) (by kernel_rfl) rfl (add_SV W (putL base.length ++ putL (text.length + m) ++ [x] ++ text ++ [128] ++ putL k) (putL m) (by obtain ⟨z1, z2, z3, z4, z5⟩ := HLn.out; (try simp only [List.length_append, List.length_singleton]); omega))) (Below.refl _ _) ?_
      refine held_take 28 (.string ⟨(putL base.length ++ putL (text.length + m) ++ [x] ++ text ++ [128] ++ putL k ++ putL m).toArray⟩) rfl (by kernel_rfl) (by kernel_rfl) (by kernel_rfl) (fun _ _ _ h => h) (by kernel_rfl) (fun W hW => by kernel_rfl) (Below.refl _ _) ?_
      refine held_done _ (by kernel_rfl) ?_
      have HL := Lib.hid Lx19
      go_simp
      go_wp2
      go_meet
      case rel => exact ⟨by simp, HL⟩
  case rest =>
    obtain ⟨rfl, HL⟩ := hcut
    have H2 : Hid (Below w.heap.size w wc) := Lib.hid (H1.out.trans (HL.out.mono H1.out.size))
    rw [← Hd.out]
    clear H1 HL Hd HP1 HP2 HP3 HP4 gx HX
    by_cases hbad : m = 0 ∨ base.length < k + m
    · have HN := applyR_none (HAp.out.trans (if_pos hbad))
      rw [HN] at HA
      have hcase : m = 0 ∨ (0 < m ∧ base.length < k + m) := by omega
      clear HN HAp hbad
      rcases hcase with h0 | ⟨h0, h1'⟩
      · have i1 : (m : Int) < 1 := by omega
        clear h0
        go_wp2_with fail
        refine (HA.out _).mono ?_
        rintro e w2 ⟨rfl, p2⟩
        have H3 : Hid (Below w.heap.size w w2) := Lib.hid (H2.out.trans (p2.mono H2.out.size))
        clear p2 HA
        go_wp2
        go_ret
        exact ⟨rfl, H3.out⟩
      · have i1 : ¬ (m : Int) < 1 := by omega
        have i2 : (base.length : Int) < (k : Int) + (m : Int) := by omega
        go_wp2_with fail
        refine (HA.out _).mono ?_
        rintro e w2 ⟨rfl, p2⟩
        have H3 : Hid (Below w.heap.size w w2) := Lib.hid (H2.out.trans (p2.mono H2.out.size))
        clear p2 HA
        go_wp2
        go_ret
        exact ⟨rfl, H3.out⟩
    · have HN := applyR_some (HAp.out.trans (if_neg hbad))
      rw [HN] at HA
      have i1 : ¬ (m : Int) < 1 := by omega
      have i2 : ¬ (base.length : Int) < (k : Int) + (m : Int) := by omega
      have hle : k + m ≤ base.length := by omega
      have hcut2 : ∀ W, (Instr.sliceAt 9 (.string ⟨base.toArray⟩) (some (.int .i64 (k : Int))) (some (.int .i64 ((k : Int) + (m : Int)))) none).run Try.prog W = .ok (.string ⟨((base.drop k).take m).toArray⟩) W := fun W => by
        have := cut_two W base ((base.drop k).take m) k (k + m) (by omega) hle (by rw [extract_S]; congr 2; rw [List.drop_take]; congr 1; omega)
        rwa [Int.natCast_add] at this
      have heq : (⟨(text ++ (base.drop k).take m).toArray⟩ : ByteArray) = (⟨text.toArray⟩ : ByteArray) ++ ⟨((base.drop k).take m).toArray⟩ := (append_S _ _).symm
      rw [heq] at HA
      clear HN HAp hbad heq
      go_wp2_with fail
      refine (HA.out _).mono ?_
      rintro e w2 ⟨rfl, p2⟩
      have H3 : Hid (Below w.heap.size w w2) := Lib.hid (H2.out.trans (p2.mono H2.out.size))
      clear p2 HA
      go_wp2
      go_ret
      exact ⟨rfl, H3.out⟩
end Go.Proofs.Ytbgnemephcbgeaa
