/-
  What is made of itself; what has nothing of a base.
-/
import Derived.Test.YtbgnemephcbgeaaSteps
namespace Go.Proofs.Ytbgnemephcbgeaa
open Go Go.RowKit

section
variable {P : Program} {ops : Array Oper} {Q : Exit → Go.Act → World → Prop} {S : World → Prop}
theorem held_one_call {i : Nat} {oi : Oper} {fuel : Nat} {listed : Array Bool} {a : Go.Act} {w : World} (f : FuncId) (vs : Array Value) (hr : Region.ready .any ops listed = [i]) (hi : ops[i]? = some oi)
    (hw : Region.wanted oi (yielded ops a.tmps) = true) (he : (execOp a.eval oi).run P w = .ok (.enter f vs) w)
    (hc : Calls P f vs w fun e w' => ∃ v, e = .returned v ∧ S w' ∧ wpAnyH P .any ops Q S fuel (listed.setIfInBounds i true) (a.put oi.dst v) w') :
    wpAnyH P .any ops Q S (fuel + 1) listed a w := held_one hr (held_call f vs hi hw he hc)
end
theorem geq_five (W : World) (n : Nat) (b : Bool) (h : decide (5 ≤ (n : Int)) = b) : (binOp .geq 3 (.int .i64 (n : Int)) (.int .i64 5)).run Try.prog W = .ok (.bool b) W := by
  rw [← h]
  simp [go_sem]
theorem neq_SV (W : World) (a b : Bs) (h : a = b) : (binOp .neq 9 (.string ⟨a.toArray⟩) (.string ⟨b.toArray⟩)).run Try.prog W = .ok (.bool false) W := by
  subst h
  simp [go_sem]
theorem made_zeros (n : Nat) : madeCells #[.int .u8 0] n = ((List.replicate n (0 : UInt8)).map bv).toArray := by
  apply Array.ext
  · simp [madeCells]
  · intro i h1 h2
    simp [madeCells, Nat.mod_one]
    rfl
theorem infoU8' : (Try.prog.info? 5).map (fun i => (i.zero, i.size, i.bytes)) = some (some (.int .u8 0), 1, 1) := by kernel_rfl
theorem mk_u8 (W : World) (n : Nat) (hn : n ≤ 1000000) : (Instr.makeSlice 29 (.int .i64 (n : Int)) (.int .i64 (n : Int))).run Try.prog W = .ok (.slice (some ⟨W.heap.size, 0, none⟩) n n) (W.alloc (.cells (madeCells #[.int .u8 0] n) 5)) :=
  mk_any (l := n) (c := n) Try.underlying29 infoU8' (by omega) (by omega) (by omega) rfl (by rw [Nat.mul_one]; rfl)
theorem rb_made (W : World) (n : Nat) : Rb (W.alloc (.cells (madeCells #[.int .u8 0] n) 5)) (.slice (some ⟨W.heap.size, 0, none⟩) n n) (List.replicate n 0) :=
  .inr ⟨W.heap.size, 0, n, by simp, by simp, by simp, fun j hj => by
    rw [Nat.zero_add, cell_of_row (W.alloc _) W.heap.size j _ _ _ (heap_alloc_new W _), made_zeros]
    have hj' : j < n := by simpa using hj
    simp [bv, hj']⟩

set_option maxHeartbeats 4000000 in
set_option maxRecDepth 100000 in
theorem Self_law (w : World) (s : Bs) (h1 : s.length ≤ maxLen) (n : Nat) (hn : n < 65536) :
    Calls Try.prog 6 #[SV s, .int .u16 (n : Int)] w (BP w) := by
  unfold maxLen at h1
  have HH := Lib.hid (head_any w)
  unfold SV
  by_cases c1 : 600 < s.length
  · go_enter Try.func6, Try.ntmps6
    go_wp2_with fail
    refine HH.out.mono ?_
    rintro e w1 ⟨rfl, b1⟩
    have H1 := Lib.hid b1; clear b1 HH
    have d1 : (600 : Int) < (s.length : Int) := by omega
    go_wp2
    go_ret
    exact ⟨rfl, H1.out⟩
  have d1 : ¬ (600 : Int) < (s.length : Int) := by omega
  obtain ⟨d, hd⟩ : ∃ d, d = makeL s s := ⟨_, rfl⟩
  have HM : Hid (∀ W, Calls Try.prog 12 #[.string ⟨s.toArray⟩, .string ⟨s.toArray⟩] W fun e w' => e = .returned (.string ⟨d.toArray⟩) ∧ Below W.heap.size W w') := Lib.hid fun W => by rw [hd]; exact Make_any s s (by omega) (by omega) W
  have HDs : Hid (5 ≤ s.length → d = putL s.length ++ putL s.length ++ [128, 0] ++ putL s.length) := Lib.hid fun h5 => by
    obtain ⟨f, hf, hl⟩ := lng_whole (a := []) (b := []) (text := s) (by omega)
    rw [List.nil_append, List.append_nil] at hl
    have h0 : f = 0 := by simpa using hf
    subst h0
    rw [hd, make_whole hl h5, putL_lo (n := 0) (by decide)]
    simp
  obtain ⟨k, hk⟩ : ∃ k, k = n % 500 := ⟨_, rfl⟩
  have hk5 : k < 500 := by omega
  obtain ⟨d0, hd0⟩ : ∃ d0, d0 = makeL [] (List.replicate k 0) := ⟨_, rfl⟩
  have HM0 : Hid (∀ W, Calls Try.prog 12 #[.string ⟨#[]⟩, .string ⟨(List.replicate k 0).toArray⟩] W fun e w' => e = .returned (.string ⟨d0.toArray⟩) ∧ Below W.heap.size W w') := Lib.hid fun W => by rw [hd0]; exact Make_any [] (List.replicate k 0) (by simp) (by simp; omega) W
  obtain ⟨q, hq⟩ : ∃ q, q = (k + 126) / 127 := ⟨_, rfl⟩
  have HL0 : Hid ((d0.length : Int) = 1 + ((putL k).length : Int) + (k : Int) + (q : Int)) := Lib.hid (by
    have := make_none (List.replicate k 0)
    rw [← hd0, List.length_replicate, ← hq] at this
    omega)
  have HQ : Hid (((k : Int) + 126) / 127 = (q : Int) ∧ Int.tdiv ((k : Int) + 126) 127 = (q : Int)) := Lib.hid ⟨by omega, by rw [Int.tdiv_eq_ediv_of_nonneg (by omega)]; omega⟩
  have HN : Hid ((n : Int) % 500 = (k : Int) ∧ Int.tmod (n : Int) 500 = (k : Int)) := Lib.hid ⟨by omega, by rw [Int.tmod_eq_emod_of_nonneg (by omega)]; omega⟩
  have HLn : Hid ((putL s.length).length ≤ 6) := Lib.hid (putL_len6 (by omega))
  have hpk := putL_len6 (n := k) (by omega)
  have hqq : q ≤ 10 := by omega
  have HP := Lib.hid (fun W => lput_any s.length (by omega) W)
  have HPk := Lib.hid (fun W => lput_any k (by omega) W)
  have HZ : Hid (∀ W : World, (convert 29 9 (.slice (some ⟨W.heap.size, 0, none⟩) k k)).run Try.prog (W.alloc (.cells (madeCells #[.int .u8 0] k) 5)) = .ok (.string ⟨(List.replicate k 0).toArray⟩) (W.alloc (.cells (madeCells #[.int .u8 0] k) 5))) := Lib.hid fun W => (rb_made W k).conv
  have HK : Hid (∀ W : World, (Instr.makeSlice 29 (.int .i64 (k : Int)) (.int .i64 (k : Int))).run Try.prog W = .ok (.slice (some ⟨W.heap.size, 0, none⟩) k k) (W.alloc (.cells (madeCells #[.int .u8 0] k) 5))) := Lib.hid fun W => mk_u8 W k (by omega)
  have hsl : s.length ≤ 600 := by omega
  clear hd hk hd0 hq c1
  go_enter Try.func6, Try.ntmps6
  go_wp2_with fail
  refine HH.out.mono ?_
  rintro e w1 ⟨rfl, p1⟩
  have H1 := Lib.hid p1; clear p1 HH
  go_wp2_with fail
  refine (HM.out _).mono ?_
  rintro e w2 ⟨rfl, p2⟩
  have H2 : Hid (Below w.heap.size w w2) := Lib.hid (H1.out.trans (p2.mono H1.out.size))
  clear p2 HM
  go_upto_region 5 with fail
  clear d1
  go_cut [39] from 18 to 38 (fun v39 wx => v39 = .bool false ∧ Hid (Below w2.heap.size w2 wx))
  case first =>
    by_cases h5 : 5 ≤ s.length
    · have hb : decide (5 ≤ (s.length : Int)) = true := decide_eq_true (by omega)
      have HD := Lib.hid (HDs.out h5)
      clear HDs h5
      refine held_start (fun W : World => Below w2.drew.heap.size w2.drew W) (by kernel_rfl) ?_
      have LD : Below w2.heap.size w2 w2.drew := (Below.refl _ _).drew
      refine held_take 0 (.string ⟨(s).toArray⟩) rfl (by kernel_rfl) (by kernel_rfl) (by kernel_rfl) (fun _ _ _ h => h) (by kernel_rfl) (fun W hW => by kernel_rfl) (Below.refl _ _) ?_
      refine held_take 1 (.int .i64 ((s).length : Int)) rfl (by kernel_rfl) (by kernel_rfl) (by kernel_rfl) (fun _ _ _ h => h) (by kernel_rfl) (fun W hW => y_len (sv := .string ⟨(s).toArray⟩) rfl (by kernel_rfl) (len_SV W (s) _)) (Below.refl _ _) ?_
      refine held_take 2 (.bool true) rfl (by kernel_rfl) (by kernel_rfl) (by kernel_rfl) (fun _ _ _ h => h) (by kernel_rfl) (fun W hW => y_bin (x := .int .i64 ((s).length : Int)) (y := .int .i64 5) rfl (by kernel_rfl) (by kernel_rfl) rfl (geq_five W s.length true hb)) (Below.refl _ _) ?_
      refine held_take 3 (.bool true) rfl (by kernel_rfl) (by kernel_rfl) (by kernel_rfl) (fun _ _ _ h => h) (by kernel_rfl) (fun W hW => by kernel_rfl) (Below.refl _ _) ?_
      refine held_take 4 (.string ⟨(d).toArray⟩) rfl (by kernel_rfl) (by kernel_rfl) (by kernel_rfl) (fun _ _ _ h => h) (by kernel_rfl) (fun W hW => by kernel_rfl) (Below.refl _ _) ?_
      refine held_take 5 (.string ⟨(s).toArray⟩) rfl (by kernel_rfl) (by kernel_rfl) (by kernel_rfl) (fun _ _ _ h => h) (by kernel_rfl) (fun W hW => by kernel_rfl) (Below.refl _ _) ?_
      refine held_take 6 (.int .i64 ((s).length : Int)) rfl (by kernel_rfl) (by kernel_rfl) (by kernel_rfl) (fun _ _ _ h => h) (by kernel_rfl) (fun W hW => y_len (sv := .string ⟨(s).toArray⟩) rfl (by kernel_rfl) (len_SV W (s) _)) (Below.refl _ _) ?_
      refine held_take 9 (.string ⟨(s).toArray⟩) rfl (by kernel_rfl) (by kernel_rfl) (by kernel_rfl) (fun _ _ _ h => h) (by kernel_rfl) (fun W hW => by kernel_rfl) (Below.refl _ _) ?_
      refine held_take 10 (.int .i64 ((s).length : Int)) rfl (by kernel_rfl) (by kernel_rfl) (by kernel_rfl) (fun _ _ _ h => h) (by kernel_rfl) (fun W hW => y_len (sv := .string ⟨(s).toArray⟩) rfl (by kernel_rfl) (len_SV W (s) _)) (Below.refl _ _) ?_
      refine held_take 15 (.string ⟨(s).toArray⟩) rfl (by kernel_rfl) (by kernel_rfl) (by kernel_rfl) (fun _ _ _ h => h) (by kernel_rfl) (fun W hW => by kernel_rfl) (Below.refl _ _) ?_
      refine held_take 16 (.int .i64 ((s).length : Int)) rfl (by kernel_rfl) (by kernel_rfl) (by kernel_rfl) (fun _ _ _ h => h) (by kernel_rfl) (fun W hW => y_len (sv := .string ⟨(s).toArray⟩) rfl (by kernel_rfl) (len_SV W (s) _)) (Below.refl _ _) ?_
      refine held_one_call (i := 7) 14 #[.int .i64 (s.length : Int)] (by kernel_rfl) rfl (by kernel_rfl) (by kernel_rfl) ?_
      refine (HP.out w2.drew).mono ?_
      rintro e wx1 ⟨Ax1, cx1, rfl, rx1, bx1⟩
      have Lx1 := LD.trans (bx1.mono LD.size)
      refine ⟨_, rfl, bx1, (held_mono (S' := fun W : World => Below wx1.heap.size wx1 W) (fun _ h => bx1.trans (h.mono bx1.size)) _ _ _ _ ?_)⟩
      refine held_take 8 (.string ⟨(putL s.length).toArray⟩) rfl (by kernel_rfl) (by kernel_rfl) (by kernel_rfl) (fun _ _ _ h => h) (by kernel_rfl) (fun W hW => y_conv (x := .slice Ax1 (putL (s.length)).length cx1) rfl (by kernel_rfl) ((rx1.below hW (Nat.le_refl _)).conv)) (Below.refl _ _) ?_
      refine held_one_call (i := 11) 14 #[.int .i64 (s.length : Int)] (by kernel_rfl) rfl (by kernel_rfl) (by kernel_rfl) ?_
      refine (HP.out wx1).mono ?_
      rintro e wx2 ⟨Ax2, cx2, rfl, rx2, bx2⟩
      have Lx2 := Lx1.trans (bx2.mono Lx1.size)
      have rax2 := rx1.below bx2 (Nat.le_refl _)
      refine ⟨_, rfl, bx2, (held_mono (S' := fun W : World => Below wx2.heap.size wx2 W) (fun _ h => bx2.trans (h.mono bx2.size)) _ _ _ _ ?_)⟩
      refine held_take 12 (.string ⟨(putL s.length).toArray⟩) rfl (by kernel_rfl) (by kernel_rfl) (by kernel_rfl) (fun _ _ _ h => h) (by kernel_rfl) (fun W hW => y_conv (x := .slice Ax2 (putL (s.length)).length cx2) rfl (by kernel_rfl) ((rx2.below hW (Nat.le_refl _)).conv)) (Below.refl _ _) ?_
      refine held_take 13 (.string ⟨(putL s.length ++ putL s.length).toArray⟩) rfl (by kernel_rfl) (by kernel_rfl) (by kernel_rfl) (fun _ _ _ h => h) (by kernel_rfl) (fun W hW => y_bin (x := .string ⟨(putL s.length).toArray⟩) (y := .string ⟨(putL s.length).toArray⟩) rfl (by kernel_rfl) (by kernel_rfl) rfl (add_SV W (putL s.length) (putL s.length) (by have z1 := HLn.out; (try simp only [List.length_append, List.length_cons, List.length_nil]); omega))) (Below.refl _ _) ?_
      refine held_take 14 (.string ⟨(putL s.length ++ putL s.length ++ [128, 0]).toArray⟩) rfl (by kernel_rfl) (by kernel_rfl) (by kernel_rfl) (fun _ _ _ h => h) (by kernel_rfl) (fun W hW => y_bin (x := .string ⟨(putL s.length ++ putL s.length).toArray⟩) (y := .string ⟨([128, 0]).toArray⟩) rfl (by kernel_rfl) (by kernel_rfl) rfl (add_SV W (putL s.length ++ putL s.length) ([128, 0]) (by have z1 := HLn.out; (try simp only [List.length_append, List.length_cons, List.length_nil]); omega))) (Below.refl _ _) ?_
      refine held_one_call (i := 17) 14 #[.int .i64 (s.length : Int)] (by kernel_rfl) rfl (by kernel_rfl) (by kernel_rfl) ?_
      refine (HP.out wx2).mono ?_
      rintro e wx3 ⟨Ax3, cx3, rfl, rx3, bx3⟩
      have Lx3 := Lx2.trans (bx3.mono Lx2.size)
      have rax3 := rax2.below bx3 (Nat.le_refl _)
      have rbx3 := rx2.below bx3 (Nat.le_refl _)
      refine ⟨_, rfl, bx3, (held_mono (S' := fun W : World => Below wx3.heap.size wx3 W) (fun _ h => bx3.trans (h.mono bx3.size)) _ _ _ _ ?_)⟩
      refine held_take 18 (.string ⟨(putL s.length).toArray⟩) rfl (by kernel_rfl) (by kernel_rfl) (by kernel_rfl) (fun _ _ _ h => h) (by kernel_rfl) (fun W hW => y_conv (x := .slice Ax3 (putL (s.length)).length cx3) rfl (by kernel_rfl) ((rx3.below hW (Nat.le_refl _)).conv)) (Below.refl _ _) ?_
      refine held_take 19 (.string ⟨(putL s.length ++ putL s.length ++ [128, 0] ++ putL s.length).toArray⟩) rfl (by kernel_rfl) (by kernel_rfl) (by kernel_rfl) (fun _ _ _ h => h) (by kernel_rfl) (fun W hW => y_bin (x := .string ⟨(putL s.length ++ putL s.length ++ [128, 0]).toArray⟩) (y := .string ⟨(putL s.length).toArray⟩) rfl (by kernel_rfl) (by kernel_rfl) rfl (add_SV W (putL s.length ++ putL s.length ++ [128, 0]) (putL s.length) (by have z1 := HLn.out; (try simp only [List.length_append, List.length_cons, List.length_nil]); omega))) (Below.refl _ _) ?_
      refine held_take 20 (.bool false) rfl (by kernel_rfl) (by kernel_rfl) (by kernel_rfl) (fun _ _ _ h => h) (by kernel_rfl) (fun W hW => y_bin (x := .string ⟨(d).toArray⟩) (y := .string ⟨(putL s.length ++ putL s.length ++ [128, 0] ++ putL s.length).toArray⟩) rfl (by kernel_rfl) (by kernel_rfl) rfl (neq_SV W _ _ HD.out)) (Below.refl _ _) ?_
      refine held_take 21 (.bool false) rfl (by kernel_rfl) (by kernel_rfl) (by kernel_rfl) (fun _ _ _ h => h) (by kernel_rfl) (fun W hW => by kernel_rfl) (Below.refl _ _) ?_
      refine held_done _ (by kernel_rfl) ?_
      have HL := Lib.hid Lx3
      go_simp
      go_wp2
      go_meet
      case rel => exact ⟨by simp, HL⟩
    · have hb : decide (5 ≤ (s.length : Int)) = false := decide_eq_false (by omega)
      clear HDs h5
      refine held_start (fun W : World => Below w2.drew.heap.size w2.drew W) (by kernel_rfl) ?_
      have LD : Below w2.heap.size w2 w2.drew := (Below.refl _ _).drew
      refine held_take 0 (.string ⟨(s).toArray⟩) rfl (by kernel_rfl) (by kernel_rfl) (by kernel_rfl) (fun _ _ _ h => h) (by kernel_rfl) (fun W hW => by kernel_rfl) (Below.refl _ _) ?_
      refine held_take 1 (.int .i64 ((s).length : Int)) rfl (by kernel_rfl) (by kernel_rfl) (by kernel_rfl) (fun _ _ _ h => h) (by kernel_rfl) (fun W hW => y_len (sv := .string ⟨(s).toArray⟩) rfl (by kernel_rfl) (len_SV W (s) _)) (Below.refl _ _) ?_
      refine held_take 2 (.bool false) rfl (by kernel_rfl) (by kernel_rfl) (by kernel_rfl) (fun _ _ _ h => h) (by kernel_rfl) (fun W hW => y_bin (x := .int .i64 ((s).length : Int)) (y := .int .i64 5) rfl (by kernel_rfl) (by kernel_rfl) rfl (geq_five W s.length false hb)) (Below.refl _ _) ?_
      refine held_take 3 (.bool false) rfl (by kernel_rfl) (by kernel_rfl) (by kernel_rfl) (fun _ _ _ h => h) (by kernel_rfl) (fun W hW => by kernel_rfl) (Below.refl _ _) ?_
      refine held_skip 4 rfl (by kernel_rfl) (by kernel_rfl) (by kernel_rfl) (fun _ _ _ h => h) (by kernel_rfl) (Below.refl _ _) ?_
      refine held_skip 5 rfl (by kernel_rfl) (by kernel_rfl) (by kernel_rfl) (fun _ _ _ h => h) (by kernel_rfl) (Below.refl _ _) ?_
      refine held_skip 6 rfl (by kernel_rfl) (by kernel_rfl) (by kernel_rfl) (fun _ _ _ h => h) (by kernel_rfl) (Below.refl _ _) ?_
      refine held_skip 7 rfl (by kernel_rfl) (by kernel_rfl) (by kernel_rfl) (fun _ _ _ h => h) (by kernel_rfl) (Below.refl _ _) ?_
      refine held_skip 8 rfl (by kernel_rfl) (by kernel_rfl) (by kernel_rfl) (fun _ _ _ h => h) (by kernel_rfl) (Below.refl _ _) ?_
      refine held_skip 9 rfl (by kernel_rfl) (by kernel_rfl) (by kernel_rfl) (fun _ _ _ h => h) (by kernel_rfl) (Below.refl _ _) ?_
      refine held_skip 10 rfl (by kernel_rfl) (by kernel_rfl) (by kernel_rfl) (fun _ _ _ h => h) (by kernel_rfl) (Below.refl _ _) ?_
      refine held_skip 11 rfl (by kernel_rfl) (by kernel_rfl) (by kernel_rfl) (fun _ _ _ h => h) (by kernel_rfl) (Below.refl _ _) ?_
      refine held_skip 12 rfl (by kernel_rfl) (by kernel_rfl) (by kernel_rfl) (fun _ _ _ h => h) (by kernel_rfl) (Below.refl _ _) ?_
      refine held_skip 13 rfl (by kernel_rfl) (by kernel_rfl) (by kernel_rfl) (fun _ _ _ h => h) (by kernel_rfl) (Below.refl _ _) ?_
      refine held_skip 14 rfl (by kernel_rfl) (by kernel_rfl) (by kernel_rfl) (fun _ _ _ h => h) (by kernel_rfl) (Below.refl _ _) ?_
      refine held_skip 15 rfl (by kernel_rfl) (by kernel_rfl) (by kernel_rfl) (fun _ _ _ h => h) (by kernel_rfl) (Below.refl _ _) ?_
      refine held_skip 16 rfl (by kernel_rfl) (by kernel_rfl) (by kernel_rfl) (fun _ _ _ h => h) (by kernel_rfl) (Below.refl _ _) ?_
      refine held_skip 17 rfl (by kernel_rfl) (by kernel_rfl) (by kernel_rfl) (fun _ _ _ h => h) (by kernel_rfl) (Below.refl _ _) ?_
      refine held_skip 18 rfl (by kernel_rfl) (by kernel_rfl) (by kernel_rfl) (fun _ _ _ h => h) (by kernel_rfl) (Below.refl _ _) ?_
      refine held_skip 19 rfl (by kernel_rfl) (by kernel_rfl) (by kernel_rfl) (fun _ _ _ h => h) (by kernel_rfl) (Below.refl _ _) ?_
      refine held_skip 20 rfl (by kernel_rfl) (by kernel_rfl) (by kernel_rfl) (fun _ _ _ h => h) (by kernel_rfl) (Below.refl _ _) ?_
      refine held_take 21 (.bool false) rfl (by kernel_rfl) (by kernel_rfl) (by kernel_rfl) (fun _ _ _ h => h) (by kernel_rfl) (fun W hW => by kernel_rfl) (Below.refl _ _) ?_
      refine held_done _ (by kernel_rfl) ?_
      have HL := Lib.hid LD
      go_simp
      go_wp2
      go_meet
      case rel => exact ⟨by simp, HL⟩
  case rest =>
    obtain ⟨rfl, HL⟩ := hcut
    have H3 : Hid (Below w.heap.size w wc) := Lib.hid (H2.out.trans (HL.out.mono H2.out.size))
    clear H1 H2 HL HP HDs HLn
    have mk := HK.out
    have cv := HZ.out
    obtain ⟨m1, m2⟩ := HN.out
    clear HK HZ HN
    go_wp2_with fail
    clear mk cv m1 m2
    refine (HM0.out _).mono ?_
    rintro e w4 ⟨rfl, p4⟩
    have H4 : Hid (Below w.heap.size w w4) := Lib.hid ((H3.out.alloc H3.out.size _).trans (p4.mono (by rw [alloc_size]; have := H3.out.size; omega)))
    clear p4 HM0
    go_wp2_with fail
    refine (HPk.out _).mono ?_
    rintro e w5 ⟨A5, c5, rfl, r5, p5⟩
    have H5 : Hid (Below w.heap.size w w5) := Lib.hid (H4.out.trans (p5.mono H4.out.size))
    clear p5 r5 HPk
    obtain ⟨q1, q2⟩ := HQ.out
    have l0 := HL0.out
    clear HQ HL0
    go_wp2
    go_ret
    exact ⟨rfl, H5.out⟩
end Go.Proofs.Ytbgnemephcbgeaa
