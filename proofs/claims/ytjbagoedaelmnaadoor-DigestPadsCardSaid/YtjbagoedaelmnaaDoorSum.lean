/-
  Sum.
-/
import Derived.Test.YtjbagoedaelmnaaDoorLast
namespace Go.Proofs.YtjbagoedaelmnaaDoor
open Go Go.RowKit

theorem sum_split (l : List UInt8) (q r N p : Nat) (hq : 64 * q + r = l.length) (hr : r < 64) (hN : N = if 56 < r + 1 then 128 else 64) (hp : N = 64 * p) :
    takeV KF (takeV KF H0 (padded l) q) (endB (fun j => l.getD (64 * q + j) 0) r N l.length) p = sumV l := by
  have ht : tot l.length = 64 * q + N := by
    unfold tot
    rw [hN]
    by_cases h : 56 < r + 1
    · rw [if_pos h]; omega
    · rw [if_neg h]; omega
  unfold sumV
  rw [show tot l.length / 64 = q + p by omega, takeV_add]
  refine takeV_congr _ p (fun _ _ => rfl) fun j hj => ?_
  unfold endB padded
  have hN2 : 64 ≤ N := by rw [hN]; split <;> omega
  by_cases h1 : j < r
  · rw [if_pos h1, if_pos (show 64 * q + j < l.length by omega)]
  · rw [if_neg h1, if_neg (show ¬ 64 * q + j < l.length by omega)]
    by_cases h2 : j = r
    · rw [if_pos h2, if_pos (show 64 * q + j = l.length by omega)]
    · rw [if_neg h2, if_neg (show ¬ 64 * q + j = l.length by omega)]
      by_cases h3 : j < N - 8
      · rw [if_pos h3, if_pos (show 64 * q + j < tot l.length - 8 by omega)]
      · rw [if_neg h3, if_pos (show j < N by omega), if_neg (show ¬ 64 * q + j < tot l.length - 8 by omega), show tot l.length - 1 - (64 * q + j) = N - 1 - j by omega]

/-- The slice value v holds the bytes l. -/
def Rb (w : World) (v : Value) (l : List UInt8) : Prop :=
  ((∃ A, v = .slice A 0 0) ∧ l = []) ∨ ∃ g o c, v = .slice (some ⟨g, o, none⟩) l.length c ∧ l.length ≤ c ∧ g < w.heap.size ∧ ∀ j, j < l.length → w.cell? ⟨g, o + j, none⟩ = some (.int .u8 ((l.getD j 0).toNat : Int))

theorem Rb.below {w w' : World} {v : Value} {l : List UInt8} {b : Nat} (h : Rb w v l) (hb : Below b w w') (hlt : w.heap.size ≤ b) : Rb w' v l := by
  rcases h with h | ⟨g, o, c, rfl, hc, hg, hcell⟩
  · exact .inl h
  · exact .inr ⟨g, o, c, rfl, hc, Nat.lt_of_lt_of_le hg hb.size, fun j hj => by rw [hb.cell (p := ⟨g, o + j, none⟩) (by show g < b; omega)]; exact hcell j hj⟩

set_option maxRecDepth 100000 in
set_option maxHeartbeats 1000000 in
theorem Sum_some (w : World) (g o c : Nat) (l : List UInt8) (hp : Pr w) (hl : l.length ≤ 30000) (hc : l.length ≤ c) (hg : g < w.heap.size)
    (hr : ∀ j, j < l.length → w.cell? ⟨g, o + j, none⟩ = some (.int .u8 ((l.getD j 0).toNat : Int))) :
    Calls Tryd.prog 10 #[.slice (some ⟨g, o, none⟩) l.length c] w fun e w' => e = .returned (.agg (u8s 32 (byteV (sumV l)))) ∧ Below w.heap.size w w' := by
  have HR := Lib.hid hr; clear hr
  obtain ⟨n, hn⟩ : ∃ n, n = l.length := ⟨_, rfl⟩
  obtain ⟨q, hq⟩ : ∃ q, q = n / 64 := ⟨_, rfl⟩
  obtain ⟨r, hr⟩ : ∃ r, r = n % 64 := ⟨_, rfl⟩
  obtain ⟨N, hN⟩ : ∃ N, N = if 56 < r + 1 then 128 else 64 := ⟨_, rfl⟩
  obtain ⟨p, hp64⟩ : ∃ p, N = 64 * p := by
    rw [hN]
    by_cases h : 56 < r + 1
    · exact ⟨2, by rw [if_pos h]⟩
    · exact ⟨1, by rw [if_neg h]⟩
  have hN128 : N ≤ 128 := by rw [hN]; split <;> omega
  have hN64 : 64 ≤ N := by rw [hN]; split <;> omega
  have hnqr : 64 * q + r = n := by omega
  have hr64 : r < 64 := by omega
  have HN := Lib.hid hN
  have HS := Lib.hid (sum_split l q r N p (by omega) hr64 hN hp64)
  rw [← hn] at hl hc HR HS ⊢
  have Hn := Lib.hid hn
  clear hq hr hN hn
  have g1 : (n : Int) / 64 = (q : Int) := by omega
  have e1 : ((q : Int) * 64).toNat = 64 * q := by omega
  have e2 : 0 ≤ (q : Int) * 64 := by omega
  have e3 : (q : Int) * 64 ≤ (n : Int) := by omega
  have e4 : (q : Int) * 64 ≤ (c : Int) := by omega
  have hplt := hp.lt
  obtain ⟨w0, hw0⟩ : ∃ w0, w0 = w.alloc (Obj.cells (u8s 32 fun _ => 0) 24) := ⟨_, rfl⟩
  have r0 : Blk w0 w.heap.size 24 (u8s 32 fun _ => 0) := by rw [hw0]; exact Blk.new w _ _
  have l0 : Below w.heap.size w w0 := by rw [hw0]; exact below_new w _
  have sz0 : w0.heap.size = w.heap.size + 1 := by rw [hw0]; simp
  have hz32 : ∀ W, (zeroValue 24).run Tryd.prog W = .ok (.agg (u8s 32 fun _ => 0)) W := (zero_of_info (n := 32) (by kernel_rfl)).1
  have hz128 := zero128.1
  have p0 : Pr w0 := hp.below l0 hplt
  have HB := Lib.hid (begin_any w0 p0)
  have Hw0 := Lib.hid hw0
  clear hw0
  go_enter Tryd.func10, Tryd.ntmps10
  go_wp2_with fail
  rw [← Hw0.out]
  obtain ⟨gs, hgs⟩ : ∃ gs, gs = w0.heap.size := ⟨_, rfl⟩
  rw [← hgs] at HB sz0
  have Hgs := Lib.hid hgs; clear hgs
  refine HB.out.mono ?_
  rintro e w1 ⟨rfl, b1, l1⟩
  have gsB : w.heap.size < gs := by omega
  have gsg : g ≠ gs := by omega
  have rw1 : Blk w1 w.heap.size 24 (u8s 32 fun _ => 0) := r0.below l1 gsB
  have lw1 : Below w.heap.size w w1 := l0.trans (l1.mono (by omega))
  have HT := Lib.hid (take_any w1 gs (64 * q) q c (some ⟨g, o, none⟩) H0 KF (padded l) rfl (by omega) (by omega) b1 (fun h => ⟨g, o, rfl, gsg, fun j hj => by
    rw [lw1.cell (p := ⟨g, o + j, none⟩) hg, HR.out j (by omega)]
    unfold padded
    rw [if_pos (show j < l.length by rw [← Hn.out]; omega)]⟩))
  have e6 : (q : Int) * 64 ≤ 30000 := by omega
  have er : n - 64 * q = r := by omega
  have Hsz0 := Lib.hid sz0; have Hp64 := Lib.hid hp64; have Hnqr := Lib.hid hnqr; have Her := Lib.hid er
  have hcq : 64 * q ≤ c := by omega
  have hnq : 64 * q ≤ n := by omega
  clear sz0 hp64 hnqr er
  go_wp2_with fail
  refine HT.out.mono ?_
  rintro e w2 ⟨rfl, b2, gr2⟩
  have lw2 : Below w.heap.size w w2 := lw1.trans (grown_to_below gr2 (by have := lw1.size; omega) (Nat.le_of_lt gsB))
  have rw2 : Blk w2 w.heap.size 24 (u8s 32 fun _ => 0) := (gr2.block _ rw1.lt (by intro h; cases h; omega)).trans rw1
  have er := Her.out; have hnqr := Hnqr.out
  obtain ⟨A2, hA2⟩ : ∃ A2, A2 = if c = 64 * q then some (⟨g, o, none⟩ : Addr) else some ⟨g, o + 64 * q, none⟩ := ⟨_, rfl⟩
  have gA : (if c = 64 * q then some (⟨g, o, none⟩ : Addr) else some ⟨g, o + 64 * q, none⟩) = A2 := hA2.symm
  have HL := last_any w2 A2 r (c - 64 * q) n (fun j => l.getD (64 * q + j) 0) hr64 hl (fun h => ⟨g, o + 64 * q, by rw [hA2, if_neg (by omega)], fun j hj => by
    rw [lw2.cell (p := ⟨g, o + 64 * q + j, none⟩) hg, Nat.add_assoc]
    exact HR.out (64 * q + j) (by omega)⟩)
  rw [← HN.out] at HL
  have HL' := Lib.hid HL; clear HL hnqr hA2
  go_wp2_with fail
  clear gA er
  refine HL'.out.mono ?_
  rintro e w3 ⟨rfl, l3⟩
  have lw3 : Below w.heap.size w w3 := lw2.trans (l3.mono lw2.size)
  have rw3 : Blk w3 w.heap.size 24 (u8s 32 fun _ => 0) := rw2.below l3 rw2.lt
  have b3 := b2.below l3 b2.lt
  obtain ⟨E, hE⟩ : ∃ E, E = endB (fun j => l.getD (64 * q + j) 0) r N n := ⟨_, rfl⟩
  rw [← hE]
  have HE := Lib.hid hE; clear hE
  have eN1 : 0 ≤ (N : Int) := by omega
  have eN2 : (N : Int) ≤ 128 := by omega
  obtain ⟨w4, hw4⟩ : ∃ w4, w4 = w3.alloc (Obj.cells (u8s 128 E) 36) := ⟨_, rfl⟩
  have lw4 : Below w.heap.size w w4 := by rw [hw4]; exact lw3.alloc lw3.size _
  have rw4 : Blk w4 w.heap.size 24 (u8s 32 fun _ => 0) := by rw [hw4]; exact rw3.alloc _
  have b4 : Blk w4 gs 50 (u32s 72 (stF (takeV KF H0 (padded l) q) KF)) := by rw [hw4]; exact b3.alloc _
  have ne34 : Blk w4 w3.heap.size 36 (u8s 128 E) := by rw [hw4]; exact Blk.new w3 _ _
  have gs3 : gs < w3.heap.size := b3.lt
  have Hw4 := Lib.hid hw4; clear hw4
  have HT2 := Lib.hid (take_any w4 gs N p 128 (some ⟨w3.heap.size, 0, none⟩) (takeV KF H0 (padded l) q) KF E Hp64.out (by omega) hN128 b4 (fun h => ⟨w3.heap.size, 0, rfl, by omega, fun j hj => by
    rw [Nat.zero_add]; exact ne34.byte j (by omega)⟩))
  go_wp2_with (refine wpList_store_row (o := ⟨none, .store 36 (.tmp 5) (.tmp 24), _, _, _, _⟩) rfl 36 _ _ rfl w3.heap.size (u8s 128 E) rfl rfl 36 (u8s 128 fun _ => 0) (by exact Blk.new w3 _ _) (by rw [u8s_size]; kernel_rfl) (by rw [u8s_size, u8s_size]) (u8s_one 128 E) ?_; rw [World.setRow_alloc_new, ← Hw4.out])
  refine HT2.out.mono ?_
  rintro e w5 ⟨rfl, b5, gr5⟩
  have lw5 : Below w.heap.size w w5 := lw4.trans (grown_to_below gr5 lw4.size (Nat.le_of_lt gsB))
  have rw5 : Blk w5 w.heap.size 24 (u8s 32 fun _ => 0) := (gr5.block _ rw4.lt (by intro h; cases h; omega)).trans rw4
  rw [HE.out, HS.out] at b5
  have HO := told_any w5 gs (sumV l) KF b5
  obtain ⟨S, hS⟩ : ∃ S, S = byteV (sumV l) := ⟨_, rfl⟩
  rw [← hS] at HO
  have HSS := Lib.hid hS; clear hS
  have HO' := Lib.hid HO; clear HO
  go_wp2_with fail
  refine HO'.out.mono ?_
  rintro e w6 ⟨rfl, l6⟩
  have lw6 : Below w.heap.size w w6 := lw5.trans (l6.mono lw5.size)
  have rw6 : Blk w6 w.heap.size 24 (u8s 32 fun _ => 0) := rw5.below l6 rw5.lt
  have rw7 : Blk (w6.setRow w.heap.size (u8s 32 S)) w.heap.size 24 (u8s 32 S) := setRow_heap w6 w.heap.size _ _ _ _ rw6
  have lw7 : Below w.heap.size w (w6.setRow w.heap.size (u8s 32 S)) := below_setRow lw6 (Nat.le_refl _) _
  go_wp2_with (refine wpList_store_row rfl 24 _ _ rfl w.heap.size (u8s 32 S) rfl rfl 24 (u8s 32 fun _ => 0) rw6 (by rw [u8s_size]; kernel_rfl) (by rw [u8s_size, u8s_size]) (u8s_one 32 _) ?_)
  exact bodyPost_ret (v := .agg (u8s 32 S)) (results_cell_row rfl _ _ w.heap.size 24 (u8s 32 S) (0, 0) _ rfl rw7 Tryd.underlying24 rfl (by rw [u8s_size]; kernel_rfl)) rfl ⟨by rw [HSS.out], lw7⟩
end Go.Proofs.YtjbagoedaelmnaaDoor
