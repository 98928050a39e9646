/-
  words: the 64 words of a block.
-/
import Derived.Test.YtjbagoedaelmnaaDoorMem
import Derived.StillTailTactics
import Derived.Deep.QuietTactic
import Derived.BigQuiet
import Derived.IntWalk
namespace Go.Proofs.YtjbagoedaelmnaaDoor
open Go Go.RowKit

theorem byteW (x : UInt8) : IntKind.u32.wrap (x.toNat : Int) = ((x.toUInt32).toNat : Int) := by
  have := x.toNat_lt
  rw [w32_nat, UInt8.toNat_toUInt32, Nat.mod_eq_of_lt (by omega)]
theorem wordB (m : Nat → UInt8) (k : Nat) : bits .or .u32 (bits .or .u32 (bits .or .u32 (IntKind.u32.wrap (IntKind.u32.wrap ((m (4 * k)).toNat : Int) * 16777216)) (IntKind.u32.wrap (IntKind.u32.wrap ((m (4 * k + 1)).toNat : Int) * 65536))) (IntKind.u32.wrap (IntKind.u32.wrap ((m (4 * k + 2)).toNat : Int) * 256))) (IntKind.u32.wrap ((m (4 * k + 3)).toNat : Int))
    = ((word m k).toNat : Int) := by
  unfold word
  generalize m (4 * k) = a
  generalize m (4 * k + 1) = b
  generalize m (4 * k + 2) = c
  generalize m (4 * k + 3) = d
  rw [byteW, byteW, byteW, byteW]
  have h1 := shl32 a.toUInt32 24 (by omega)
  have h2 := shl32 b.toUInt32 16 (by omega)
  have h3 := shl32 c.toUInt32 8 (by omega)
  rw [show ((2 ^ 24 : Nat) : Int) = 16777216 from rfl] at h1
  rw [show ((2 ^ 16 : Nat) : Int) = 65536 from rfl] at h2
  rw [show ((2 ^ 8 : Nat) : Int) = 256 from rfl] at h3
  rw [h1, h2, h3, or32, or32, or32]; rfl
set_option maxRecDepth 100000 in
set_option maxHeartbeats 1000000 in
theorem words_any (w : World) (g o c n : Nat) (m : Nat → UInt8) (hn : 64 ≤ n) (hn2 : n ≤ 30000) (hr : ∀ j, j < 64 → w.cell? ⟨g, o + j, none⟩ = some (.int .u8 ((m j).toNat : Int))) :
    Calls Tryd.prog 26 #[.slice (some ⟨g, o, none⟩) n c] w fun e w' => e = .returned (.agg (u32s 64 (sched (word m)))) ∧ Below w.heap.size w w' := by
  have HR := Lib.hid hr; clear hr
  go_enter Tryd.func26, Tryd.ntmps26
  go_wp2
  go_loopw [5] (fun i wr => ∃ k : Nat, k ≤ 16 ∧ i = .int .i64 k ∧ Below w.heap.size w wr ∧ ∃ f, Blk wr w.heap.size 48 (u32s 64 f) ∧ ∀ i, i < k → f i = word m i) (fun i _ => 16 - (intOf i).toNat)
  case atStart => exact ⟨0, Nat.zero_le _, rfl, (Below.refl _ _).alloc (Nat.le_refl _) _, fun _ => 0, by exact Blk.new w _ _, fun i hi => absurd hi (Nat.not_lt_zero _)⟩
  case round =>
    obtain ⟨k, hk, rfl, hb, f, hblk, hf⟩ := hrel
    by_cases hlt : k < 16
    · obtain ⟨hc, hfz⟩ := bcell hb
      have r0 := HR.out (4 * k) (by omega)
      have r1 := HR.out (4 * k + 1) (by omega)
      have r2 := HR.out (4 * k + 2) (by omega)
      have r3 := HR.out (4 * k + 3) (by omega)
      have hg : g < w.heap.size := by have := block_lt_of_cell r0; exact this
      have e0 : (4 * (k : Int)).toNat = 4 * k := by omega
      have e1 : (4 * (k : Int) + 1).toNat = 4 * k + 1 := by omega
      have e2 : (4 * (k : Int) + 2).toNat = 4 * k + 2 := by omega
      have e3 : (4 * (k : Int) + 3).toNat = 4 * k + 3 := by omega
      have p0 : 0 ≤ 4 * (k : Int) := by omega
      have q0 : 4 * (k : Int) < (n : Int) := by omega
      have p1 : 0 ≤ 4 * (k : Int) + 1 := by omega
      have q1 : 4 * (k : Int) + 1 < (n : Int) := by omega
      have p2 : 0 ≤ 4 * (k : Int) + 2 := by omega
      have q2 : 4 * (k : Int) + 2 < (n : Int) := by omega
      have p3 : 0 ≤ 4 * (k : Int) + 3 := by omega
      have q3 : 4 * (k : Int) + 3 < (n : Int) := by omega
      have w0 : IntKind.i64.wrap (4 * (k : Int)) = 4 * (k : Int) := IntWalk.i64_in _ (by omega)
      have w1 : IntKind.i64.wrap (4 * (k : Int) + 1) = 4 * (k : Int) + 1 := IntWalk.i64_in _ (by omega)
      have w2 : IntKind.i64.wrap (4 * (k : Int) + 2) = 4 * (k : Int) + 2 := IntWalk.i64_in _ (by omega)
      have w3 : IntKind.i64.wrap (4 * (k : Int) + 3) = 4 * (k : Int) + 3 := IntWalk.i64_in _ (by omega)
      go_wp2
      go_still_tail 34, (by kernel_rfl)
      rw [wordB m k]
      clear w0 w1 w2 w3 e0 e1 e2 e3 p0 p1 p2 p3 q0 q1 q2 q3 r0 r1 r2 r3
      change wpList _ _ _ _ _ wr.drew
      obtain ⟨wq, hwq⟩ : ∃ wq, wq = wr.drew := ⟨_, rfl⟩
      rw [← hwq]
      have hblk1 : Blk wq w.heap.size 48 (u32s 64 f) := by rw [hwq]; exact hblk
      have hb1 : Below w.heap.size w wq := by rw [hwq]; exact hb.drew
      have hx := hblk1.word k (by omega)
      have hz := hblk1.frozen k
      clear hwq hc hfz hblk hb
      go_wp2
      go_roundw
      case rel =>
        refine ⟨k + 1, by omega, by go_num, hb1.setCell (Nat.le_refl _) _, upd f k (word m k), hblk1.setW k _, fun i hi => ?_⟩
        by_cases hik : i = k
        · subst hik; exact upd_same _ _ _
        · rw [upd_other _ _ _ _ hik]; exact hf i (by omega)
      case measure => simp [intOf]; omega
    · have Hf : Hid (∀ i, i < 16 → f i = sched (word m) i) := Lib.hid fun i hi => by rw [sched_lo _ _ hi]; exact hf i (by omega)
      clear hf
      go_wp2
      go_loopw [4] (fun i wr => ∃ t : Nat, 16 ≤ t ∧ t ≤ 64 ∧ i = .int .i64 t ∧ Below w.heap.size w wr ∧ ∃ f, Blk wr w.heap.size 48 (u32s 64 f) ∧ ∀ i, i < t → f i = sched (word m) i) (fun i _ => 64 - (intOf i).toNat)
      case atStart => exact ⟨16, by omega, by omega, rfl, hb, f, hblk, Hf.out⟩
      case round =>
        clear hblk hb Hf f hlt hk
        obtain ⟨t, ht1, ht2, rfl, hb, f, hblk, hf⟩ := hrel
        have Hf := Lib.hid hf
        clear hf
        by_cases hlt : t < 64
        · have e2 : ((t : Int) - 2).toNat = t - 2 := by omega
          have p2 : 0 ≤ (t : Int) - 2 := by omega
          have p2' : 2 ≤ (t : Int) := by omega
          have q2 : (t : Int) - 2 < 64 := by omega
          have w2 : IntKind.i64.wrap ((t : Int) - 2) = (t : Int) - 2 := IntWalk.i64_in _ (by omega)
          have x2 := hblk.word (t - 2) (by omega)
          have hbound : w.heap.size < wr.heap.size := hblk.lt
          go_wp2
          refine wp_region_still_tail 18 (by kernel_rfl) (by kernel_rfl) ?_
          simp only [List.take_succ_cons, List.take_zero, List.drop_succ_cons, List.drop_zero]
          repeat still_step
          still_call (turn_still (f (t - 2)) 17 (by omega) (by omega) _)
          repeat still_step
          still_call (turn_still (f (t - 2)) 19 (by omega) (by omega) _)
          repeat still_step
          refine wpStill_nil ?_
          rw [ss1_bits]
          change wpList _ _ _ _ _ wr.drew
          obtain ⟨x, hx⟩ : ∃ x, x = ss1 (f (t - 2)) := ⟨_, rfl⟩
          rw [← hx]
          have Hx := Lib.hid hx; clear hx
          clear x2 e2 p2 p2' q2 w2
          obtain ⟨wq, hwq⟩ : ∃ wq, wq = wr.drew := ⟨_, rfl⟩
          rw [← hwq]
          have bq : Blk wq w.heap.size 48 (u32s 64 f) := by rw [hwq]; exact hblk
          have lq : Below w.heap.size w wq := by rw [hwq]; exact hb.drew
          have cq := bq.word t (by omega)
          have zq := bq.frozen t
          clear hwq hblk hb hbound
          go_wp2
          clear cq zq
          obtain ⟨wa, hW⟩ : ∃ wa, wa = wq.setCell ⟨w.heap.size, t, none⟩ (.int .u32 (x.toNat : Int)) := ⟨_, rfl⟩
          rw [← hW]
          obtain ⟨f1, hF⟩ : ∃ f1, f1 = upd f t x := ⟨_, rfl⟩
          have ba : Blk wa w.heap.size 48 (u32s 64 f1) := by rw [hW, hF]; exact bq.setW t x
          have la : Below w.heap.size w wa := by rw [hW]; exact lq.setCell (Nat.le_refl _) _
          have Sf1 : Hid (f1 t = x) := Lib.hid (by rw [hF]; exact upd_same _ _ _)
          have Of1 : Hid (∀ i, i ≠ t → f1 i = f i) := Lib.hid (fun i hi => by rw [hF]; exact upd_other _ _ _ _ hi)
          have hbound : w.heap.size < wa.heap.size := ba.lt
          clear hW hF bq lq wq
          have e7 : ((t : Int) - 7).toNat = t - 7 := by omega
          have p7 : 0 ≤ (t : Int) - 7 := by omega
          have p7' : 7 ≤ (t : Int) := by omega
          have q7 : (t : Int) - 7 < 64 := by omega
          have w7 : IntKind.i64.wrap ((t : Int) - 7) = (t : Int) - 7 := IntWalk.i64_in _ (by omega)
          have ct : wa.cell? ⟨w.heap.size, t, none⟩ = some (.int .u32 (x.toNat : Int)) := by rw [ba.word t (by omega), Sf1.out]
          have x7 : wa.cell? ⟨w.heap.size, t - 7, none⟩ = some (.int .u32 ((f (t - 7)).toNat : Int)) := by rw [ba.word (t - 7) (by omega), Of1.out _ (by omega)]
          go_wp2
          refine wp_region_still_tail 8 (by kernel_rfl) (by kernel_rfl) ?_
          simp only [List.take_succ_cons, List.take_zero, List.drop_succ_cons, List.drop_zero]
          repeat still_step
          refine wpStill_nil ?_
          rw [add32]
          change wpList _ _ _ _ _ wa.drew
          obtain ⟨y, hy⟩ : ∃ y, y = x + f (t - 7) := ⟨_, rfl⟩
          rw [← hy]
          have Hy := Lib.hid hy; clear hy
          clear x7 ct e7 p7 p7' q7 w7
          obtain ⟨wq, hwq⟩ : ∃ wq, wq = wa.drew := ⟨_, rfl⟩
          rw [← hwq]
          have bq : Blk wq w.heap.size 48 (u32s 64 f1) := by rw [hwq]; exact ba
          have lq : Below w.heap.size w wq := by rw [hwq]; exact la.drew
          have cq := bq.word t (by omega)
          have zq := bq.frozen t
          clear hwq ba la hbound
          go_wp2
          clear cq zq
          obtain ⟨wb, hW⟩ : ∃ wb, wb = wq.setCell ⟨w.heap.size, t, none⟩ (.int .u32 (y.toNat : Int)) := ⟨_, rfl⟩
          rw [← hW]
          obtain ⟨f2, hF⟩ : ∃ f2, f2 = upd f1 t y := ⟨_, rfl⟩
          have bb : Blk wb w.heap.size 48 (u32s 64 f2) := by rw [hW, hF]; exact bq.setW t y
          have lb : Below w.heap.size w wb := by rw [hW]; exact lq.setCell (Nat.le_refl _) _
          have Sf2 : Hid (f2 t = y) := Lib.hid (by rw [hF]; exact upd_same _ _ _)
          have Of2 : Hid (∀ i, i ≠ t → f2 i = f1 i) := Lib.hid (fun i hi => by rw [hF]; exact upd_other _ _ _ _ hi)
          have hbound : w.heap.size < wb.heap.size := bb.lt
          clear hW hF bq lq wq
          have e15 : ((t : Int) - 15).toNat = t - 15 := by omega
          have p15 : 0 ≤ (t : Int) - 15 := by omega
          have p15' : 15 ≤ (t : Int) := by omega
          have q15 : (t : Int) - 15 < 64 := by omega
          have w15 : IntKind.i64.wrap ((t : Int) - 15) = (t : Int) - 15 := IntWalk.i64_in _ (by omega)
          have ct : wb.cell? ⟨w.heap.size, t, none⟩ = some (.int .u32 (y.toNat : Int)) := by rw [bb.word t (by omega), Sf2.out]
          have x15 : wb.cell? ⟨w.heap.size, t - 15, none⟩ = some (.int .u32 ((f (t - 15)).toNat : Int)) := by rw [bb.word (t - 15) (by omega), Of2.out _ (by omega), Of1.out _ (by omega)]
          go_wp2
          refine wp_region_still_tail 21 (by kernel_rfl) (by kernel_rfl) ?_
          simp only [List.take_succ_cons, List.take_zero, List.drop_succ_cons, List.drop_zero]
          repeat still_step
          still_call (turn_still (f (t - 15)) 7 (by omega) (by omega) _)
          repeat still_step
          still_call (turn_still (f (t - 15)) 18 (by omega) (by omega) _)
          repeat still_step
          refine wpStill_nil ?_
          rw [ss0_bits, add32]
          change wpList _ _ _ _ _ wb.drew
          obtain ⟨z, hz⟩ : ∃ z, z = y + ss0 (f (t - 15)) := ⟨_, rfl⟩
          rw [← hz]
          have Hz := Lib.hid hz; clear hz
          clear x15 ct e15 p15 p15' q15 w15
          obtain ⟨wq, hwq⟩ : ∃ wq, wq = wb.drew := ⟨_, rfl⟩
          rw [← hwq]
          have bq : Blk wq w.heap.size 48 (u32s 64 f2) := by rw [hwq]; exact bb
          have lq : Below w.heap.size w wq := by rw [hwq]; exact lb.drew
          have cq := bq.word t (by omega)
          have zq := bq.frozen t
          clear hwq bb lb hbound
          go_wp2
          clear cq zq
          obtain ⟨wc, hW⟩ : ∃ wc, wc = wq.setCell ⟨w.heap.size, t, none⟩ (.int .u32 (z.toNat : Int)) := ⟨_, rfl⟩
          rw [← hW]
          obtain ⟨f3, hF⟩ : ∃ f3, f3 = upd f2 t z := ⟨_, rfl⟩
          have bc : Blk wc w.heap.size 48 (u32s 64 f3) := by rw [hW, hF]; exact bq.setW t z
          have lc : Below w.heap.size w wc := by rw [hW]; exact lq.setCell (Nat.le_refl _) _
          have Sf3 : Hid (f3 t = z) := Lib.hid (by rw [hF]; exact upd_same _ _ _)
          have Of3 : Hid (∀ i, i ≠ t → f3 i = f2 i) := Lib.hid (fun i hi => by rw [hF]; exact upd_other _ _ _ _ hi)
          have hbound : w.heap.size < wc.heap.size := bc.lt
          clear hW hF bq lq wq
          have e16 : ((t : Int) - 16).toNat = t - 16 := by omega
          have p16 : 0 ≤ (t : Int) - 16 := by omega
          have p16' : 16 ≤ (t : Int) := by omega
          have q16 : (t : Int) - 16 < 64 := by omega
          have w16 : IntKind.i64.wrap ((t : Int) - 16) = (t : Int) - 16 := IntWalk.i64_in _ (by omega)
          have ct : wc.cell? ⟨w.heap.size, t, none⟩ = some (.int .u32 (z.toNat : Int)) := by rw [bc.word t (by omega), Sf3.out]
          have x16 : wc.cell? ⟨w.heap.size, t - 16, none⟩ = some (.int .u32 ((f (t - 16)).toNat : Int)) := by rw [bc.word (t - 16) (by omega), Of3.out _ (by omega), Of2.out _ (by omega), Of1.out _ (by omega)]
          go_wp2
          refine wp_region_still_tail 8 (by kernel_rfl) (by kernel_rfl) ?_
          simp only [List.take_succ_cons, List.take_zero, List.drop_succ_cons, List.drop_zero]
          repeat still_step
          refine wpStill_nil ?_
          rw [add32]
          change wpList _ _ _ _ _ wc.drew
          obtain ⟨v, hv⟩ : ∃ v, v = z + f (t - 16) := ⟨_, rfl⟩
          rw [← hv]
          have Hv := Lib.hid hv; clear hv
          clear x16 ct e16 p16 p16' q16 w16
          obtain ⟨wq, hwq⟩ : ∃ wq, wq = wc.drew := ⟨_, rfl⟩
          rw [← hwq]
          have bq : Blk wq w.heap.size 48 (u32s 64 f3) := by rw [hwq]; exact bc
          have lq : Below w.heap.size w wq := by rw [hwq]; exact lc.drew
          have cq := bq.word t (by omega)
          have zq := bq.frozen t
          clear hwq bc lc hbound
          go_wp2
          clear cq zq
          go_roundw
          case rel =>
            refine ⟨t + 1, by omega, by omega, by go_num, lq.setCell (Nat.le_refl _) _, upd f3 t v, bq.setW t v, fun i hi => ?_⟩
            by_cases hit : i = t
            · subst hit
              rw [upd_same, Hv.out, Hz.out, Hy.out, Hx.out, sched_hi _ _ (by omega), Hf.out _ (by omega), Hf.out _ (by omega), Hf.out _ (by omega), Hf.out _ (by omega)]
            · rw [upd_other _ _ _ _ hit, Of3.out _ hit, Of2.out _ hit, Of1.out _ hit]; exact Hf.out i (by omega)
          case measure => simp [intOf]; omega
        · have Hz : Hid (u32s 64 f = u32s 64 (sched (word m))) := Lib.hid (u32s_congr fun i hi => Hf.out i (by omega))
          go_wp2_with (first
            | (refine wpList_load_row rfl 48 _ rfl w.heap.size rfl 48 (u32s 64 f) (0, 0) _ hblk Tryd.underlying48 rfl (by rw [u32s_size]; kernel_rfl) ?_)
            | (refine wpList_store_row rfl 48 _ _ rfl w.heap.size (u32s 64 f) rfl rfl 48 (u32s 64 f) hblk (by rw [u32s_size]; kernel_rfl) rfl (u32s_one 64 f) ?_; rw [setRow_self _ _ _ _ _ hblk]))
          exact bodyPost_ret (v := .agg (u32s 64 f)) (results_cell_row rfl _ _ w.heap.size 48 (u32s 64 f) (0, 0) _ rfl hblk Tryd.underlying48 rfl (by rw [u32s_size]; kernel_rfl)) rfl ⟨by rw [Hz.out], hb⟩
end Go.Proofs.YtjbagoedaelmnaaDoor
