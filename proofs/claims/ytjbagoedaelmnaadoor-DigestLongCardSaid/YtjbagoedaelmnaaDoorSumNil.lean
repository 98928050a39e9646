/-
  Sum at nothing.
-/
import Derived.Test.YtjbagoedaelmnaaDoorSum
namespace Go.Proofs.YtjbagoedaelmnaaDoor
open Go Go.RowKit

set_option maxRecDepth 100000 in
set_option maxHeartbeats 1000000 in
theorem Sum_nil (w : World) (A : Option Addr) (hp : Pr w) :
    Calls Tryd.prog 10 #[.slice A 0 0] w fun e w' => e = .returned (.agg (u8s 32 (byteV (sumV [])))) ∧ Below w.heap.size w w' := by
  have HS := Lib.hid (sum_split [] 0 0 64 1 rfl (by omega) (by rw [if_neg (by omega)]) rfl)
  have hplt := hp.lt
  obtain ⟨w0, hw0⟩ : ∃ w0, w0 = w.alloc (Obj.cells (u8s 32 fun _ => 0) 24) := ⟨_, rfl⟩
  have r0 : Blk w0 w.heap.size 24 (u8s 32 fun _ => 0) := by rw [hw0]; exact Blk.new w _ _
  have l0 : Below w.heap.size w w0 := by rw [hw0]; exact below_new w _
  have sz0 : w0.heap.size = w.heap.size + 1 := by rw [hw0]; simp
  have hz32 : ∀ W, (zeroValue 24).run Tryd.prog W = .ok (.agg (u8s 32 fun _ => 0)) W := (zero_of_info (n := 32) (by kernel_rfl)).1
  have hz128 := zero128.1
  have p0 : Pr w0 := hp.below l0 hplt
  have HB := Lib.hid (begin_any w0 p0)
  have Hw0 := Lib.hid hw0
  clear hw0
  obtain ⟨gs, hgs⟩ : ∃ gs, gs = w0.heap.size := ⟨_, rfl⟩
  rw [← hgs] at HB sz0
  have Hgs := Lib.hid hgs; clear hgs
  have gsB : w.heap.size < gs := by omega
  have Hsz0 := Lib.hid sz0; clear sz0
  go_enter Tryd.func10, Tryd.ntmps10
  go_wp2_with fail
  rw [← Hw0.out]
  refine HB.out.mono ?_
  rintro e w1 ⟨rfl, b1, l1⟩
  have rw1 : Blk w1 w.heap.size 24 (u8s 32 fun _ => 0) := r0.below l1 gsB
  have lw1 : Below w.heap.size w w1 := l0.trans (l1.mono (Nat.le_of_lt gsB))
  have HT := Lib.hid (take_any w1 gs 0 0 0 A H0 KF (padded []) rfl (by omega) (by omega) b1 (fun h => absurd h (Nat.lt_irrefl _)))
  go_wp2_with fail
  refine HT.out.mono ?_
  rintro e w2 ⟨rfl, b2, gr2⟩
  have lw2 : Below w.heap.size w w2 := lw1.trans (grown_to_below gr2 (by have := lw1.size; omega) (Nat.le_of_lt gsB))
  have rw2 : Blk w2 w.heap.size 24 (u8s 32 fun _ => 0) := (gr2.block _ rw1.lt (by intro h; cases h; omega)).trans rw1
  have HL := last_any w2 A 0 0 0 (fun j => ([] : List UInt8).getD (64 * 0 + j) 0) (by omega) (by omega) (fun h => absurd h (Nat.lt_irrefl _))
  rw [if_neg (show ¬ 56 < 0 + 1 by omega)] at HL
  have HL' := Lib.hid HL; clear HL
  go_wp2_with fail
  refine HL'.out.mono ?_
  rintro e w3 ⟨rfl, l3⟩
  have lw3 : Below w.heap.size w w3 := lw2.trans (l3.mono lw2.size)
  have rw3 : Blk w3 w.heap.size 24 (u8s 32 fun _ => 0) := rw2.below l3 rw2.lt
  have b3 := b2.below l3 b2.lt
  obtain ⟨E, hE⟩ : ∃ E, E = endB (fun j => ([] : List UInt8).getD (64 * 0 + j) 0) 0 64 0 := ⟨_, rfl⟩
  rw [← hE]
  have HE : Hid (E = endB (fun j => ([] : List UInt8).getD (64 * 0 + j) 0) 0 64 ([] : List UInt8).length) := Lib.hid hE; clear hE
  obtain ⟨w4, hw4⟩ : ∃ w4, w4 = w3.alloc (Obj.cells (u8s 128 E) 36) := ⟨_, rfl⟩
  have lw4 : Below w.heap.size w w4 := by rw [hw4]; exact lw3.alloc lw3.size _
  have rw4 : Blk w4 w.heap.size 24 (u8s 32 fun _ => 0) := by rw [hw4]; exact rw3.alloc _
  have b4 : Blk w4 gs 50 (u32s 72 (stF (takeV KF H0 (padded []) 0) KF)) := by rw [hw4]; exact b3.alloc _
  have ne34 : Blk w4 w3.heap.size 36 (u8s 128 E) := by rw [hw4]; exact Blk.new w3 _ _
  have gs3 : gs < w3.heap.size := b3.lt
  have Hw4 := Lib.hid hw4; clear hw4
  have HT2 := Lib.hid (take_any w4 gs 64 1 128 (some ⟨w3.heap.size, 0, none⟩) (takeV KF H0 (padded []) 0) KF E rfl (by omega) (by omega) b4 (fun h => ⟨w3.heap.size, 0, rfl, by omega, fun j hj => by
    rw [Nat.zero_add]; exact ne34.byte j (by omega)⟩))
  go_wp2_with (refine wpList_store_row (o := ⟨none, .store 36 (.tmp 5) (.tmp 24), _, _, _, _⟩) rfl 36 _ _ rfl w3.heap.size (u8s 128 E) rfl rfl 36 (u8s 128 fun _ => 0) (by exact Blk.new w3 _ _) (by rw [u8s_size]; kernel_rfl) (by rw [u8s_size, u8s_size]) (u8s_one 128 E) ?_; rw [World.setRow_alloc_new, ← Hw4.out])
  refine HT2.out.mono ?_
  rintro e w5 ⟨rfl, b5, gr5⟩
  have lw5 : Below w.heap.size w w5 := lw4.trans (grown_to_below gr5 lw4.size (Nat.le_of_lt gsB))
  have rw5 : Blk w5 w.heap.size 24 (u8s 32 fun _ => 0) := (gr5.block _ rw4.lt (by intro h; cases h; omega)).trans rw4
  rw [HE.out, HS.out] at b5
  have HO := told_any w5 gs (sumV []) KF b5
  obtain ⟨S, hS⟩ : ∃ S, S = byteV (sumV []) := ⟨_, rfl⟩
  rw [← hS] at HO
  have HSS := Lib.hid hS; clear hS
  have HO' := Lib.hid HO; clear HO
  go_wp2_with fail
  refine HO'.out.mono ?_
  rintro e w6 ⟨rfl, l6⟩
  have lw6 : Below w.heap.size w w6 := lw5.trans (l6.mono lw5.size)
  have rw6 : Blk w6 w.heap.size 24 (u8s 32 fun _ => 0) := rw5.below l6 rw5.lt
  have rw7 : Blk (w6.setRow w.heap.size (u8s 32 S)) w.heap.size 24 (u8s 32 S) := setRow_heap w6 w.heap.size _ _ _ _ rw6
  have lw7 : Below w.heap.size w (w6.setRow w.heap.size (u8s 32 S)) := below_setRow lw6 (Nat.le_refl _) _
  go_wp2_with (refine wpList_store_row rfl 24 _ _ rfl w.heap.size (u8s 32 S) rfl rfl 24 (u8s 32 fun _ => 0) rw6 (by rw [u8s_size]; kernel_rfl) (by rw [u8s_size, u8s_size]) (u8s_one 32 _) ?_)
  exact bodyPost_ret (v := .agg (u8s 32 S)) (results_cell_row rfl _ _ w.heap.size 24 (u8s 32 S) (0, 0) _ rfl rw7 Tryd.underlying24 rfl (by rw [u8s_size]; kernel_rfl)) rfl ⟨by rw [HSS.out], lw7⟩
end Go.Proofs.YtjbagoedaelmnaaDoor
