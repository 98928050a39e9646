/-
  longest: along the graph as far as a text goes.
-/
import Derived.Test.YtbgnemephcbgeaaGw
namespace Go.Proofs.Ytbgnemephcbgeaa
open Go Go.RowKit

theorem ret_ii {a b c d : Int} (h : a = b) (k : c = d) : Ending.returned (.tuple #[.int .i64 a, .int .i64 c]) = .returned (.tuple #[.int .i64 b, .int .i64 d]) := by rw [h, k]

set_option maxHeartbeats 2000000 in
set_option maxRecDepth 100000 in
theorem longest_any {w : World} {B gb sb K eb Ke : Nat} {C : Cg} {own : Nat → Nat} {base : Bs} {A : Au} (h : GrM w B gb sb K eb Ke C) (R : Rep C A own) (Gd : Good base A) (hb : base.length ≤ 1000000) (left : Bs) (hl : left.length ≤ 1000000) :
    Calls Try.prog 38 #[.pointer (some ⟨gb, 0, none⟩), SV left] w fun e w' => e = .returned (.tuple #[.int .i64 ((lng base left).1 : Int), .int .i64 ((lng base left).2 : Int)]) ∧ w = w' := by
  have g0 := h.g0
  have g1 := h.g1
  obtain ⟨n, hn⟩ : ∃ n, n = C.st.length := ⟨_, rfl⟩
  obtain ⟨m, hm⟩ : ∃ m, m = C.ed.length := ⟨_, rfl⟩
  have hpos := R.pos
  rw [← hn] at g0 hpos
  rw [← hm] at g1
  have HE := Lib.hid (fun (v : Nat) (c : UInt8) (r : Nat) (hv : v < C.st.length) (hr : EdgeAt C v c r) => edge_any h R.toWf hv c hr)
  have HT := Lib.hid (fun (e : Nat) (he : e < C.ed.length) => h.e1 he)
  have HS := Lib.hid (fun (v : Nat) (hv : v < C.st.length) => h.s1 hv)
  have Hn := Lib.hid hn; have Hm := Lib.hid hm; have HR := Lib.hid R; have HGd := Lib.hid Gd; have HB := Lib.hid hb
  clear h R Gd hn hm hb
  unfold SV
  go_enter Try.func38, Try.ntmps38
  go_wp2
  go_loop [6, 7, 8] (fun v6 v7 _ => ∃ (v k : Nat), v6 = .int .i32 (v : Int) ∧ v7 = .int .i64 (k : Int) ∧ k ≤ left.length ∧ v < n ∧ Hid (Of base A (left.take k) v)) (fun _ v7 _ => left.length - (intOf v7).toNat)
  case atStart => exact ⟨0, 0, rfl, rfl, Nat.zero_le _, hpos, Lib.hid (by rw [List.take_zero]; exact HGd.out.of_nil)⟩
  case round =>
    obtain ⟨v, k, rfl, rfl, hk, hv, hof⟩ := hrel
    have hvA : v < A.n := hof.out.1
    have hend : Hid ((k < left.length → ¬ Occ base (left.take (k + 1))) → ∃ f : Nat, f ≤ 1000000 ∧ k ≤ f ∧ A.fin v = f ∧ lng base left = (f - k, k)) := Lib.hid fun hs => by
      have h1 := graph_long HGd.out hk hof.out hs
      have h2 := HGd.out.first hof.out
      have h3 := h2.1.len
      have h4 := h2.1.1
      rw [List.length_take, Nat.min_eq_left hk] at h3
      exact ⟨A.fin v, by have := HB.out; omega, h3, rfl, lng_eq h1⟩
    have s1 := HS.out v (by have := Hn.out; omega)
    rw [(HR.out.s v hvA).2.1] at s1
    have hvI : (v : Int) < (n : Int) := by omega
    by_cases hlt : k < left.length
    · obtain ⟨c, hc⟩ : ∃ c, c = left[k] := ⟨_, rfl⟩
      have gc : ∀ h, ((⟨left.toArray⟩ : ByteArray)[k]'h) = c := fun h => hc.symm
      have htk : left.take (k + 1) = left.take k ++ [c] := by rw [List.take_succ_eq_append_getElem hlt, hc]
      obtain ⟨r, hr, hrl⟩ := HR.out.toWf.edgeAt (v := v) (by have := Hn.out; omega) c
      have hδ := HR.out.δ v c r hvA hr
      have HE' := Lib.hid (HE.out v c r (by have := Hn.out; omega) hr)
      by_cases hr0 : r = 0
      · rw [if_pos hr0] at hδ
        obtain ⟨f, hf, hkf, hfe, hl⟩ := hend.out fun _ => by rw [htk]; exact HGd.out.stuck hof.out hδ
        rw [hfe] at s1
        have b1 : ((r : Int) == 0) = true := by simp only [beq_iff_eq]; omega
        have Hl := Lib.hid hl
        clear hend hl hfe hδ hr hrl htk hc hr0
        go_wp2_with fail
        refine HE'.out.mono ?_
        intro e9 w9 hh
        rw [hh.1, ← hh.2]
        clear hh w9 e9 HE'
        go_wp2
        go_ret2
        exact ⟨ret_ii (by rw [Hl.out]; simp only; omega) (by rw [Hl.out]), rfl⟩
      · rw [if_neg hr0] at hδ
        obtain ⟨q, hq⟩ : ∃ q, q = (C.e r).to := ⟨_, rfl⟩
        have ht := HT.out r hrl
        rw [← hq] at ht hδ
        have hof' : Hid (Of base A (left.take (k + 1)) q) := Lib.hid (by rw [htk]; exact HGd.out.step hof.out hδ)
        have hqn : q < n := by have := hof'.out.1; rw [Hn.out, HR.out.n]; exact this
        have b1 : ((r : Int) == 0) = false := by simp only [beq_eq_false_iff_ne, ne_eq]; omega
        rw [← Hm.out] at hrl
        have hrI : (r : Int) < (m : Int) := by omega
        clear hend hδ hr htk hc hr0 hq s1 hvI
        go_wp2_with fail
        refine HE'.out.mono ?_
        intro e9 w9 hh
        rw [hh.1, ← hh.2]
        clear hh w9 e9 HE'
        go_wp2
        go_round
        case rel => exact ⟨q, k + 1, rfl, by go_num, by omega, hqn, hof'⟩
        case measure => simp [intOf]; omega
    · obtain ⟨f, hf, hkf, hfe, hl⟩ := hend.out fun h => absurd h hlt
      rw [hfe] at s1
      have Hl := Lib.hid hl
      clear hend hl hfe
      go_wp2
      go_ret2
      exact ⟨ret_ii (by rw [Hl.out]; simp only; omega) (by rw [Hl.out]), rfl⟩
end Go.Proofs.Ytbgnemephcbgeaa
