/-
  The index: what digits say, sums' names; two sums held against each other.
-/
import Derived.Test.YtdjmcehoaneekaaDoorIMem
import Derived.Test.YtdjmcehoaneekaaDoorDR
import Derived.StillTailTactics
import Derived.Laws.ResultCell
namespace Go.Proofs.YtdjmcehoaneekaaDoor.Ix
open Go.Proofs.YtdjmcehoaneekaaDoor
open Go Go.RowKit

set_option maxHeartbeats 400000 in
theorem value_any (c : UInt8) (w : World) : Calls Tryd.prog 38 #[.int .u8 (c.toNat : Int)] w fun e w' => e = .returned (.int .u8 ((valD c).toNat : Int)) ∧ w = w' := by
  have hl := c.toNat_lt
  by_cases h : c.toNat ≤ 57
  · obtain ⟨x, hx⟩ : ∃ x, x = valD c := ⟨_, rfl⟩
    have g : IntKind.u8.wrap ((c.toNat : Int) - 48) = (x.toNat : Int) := by
      rw [hx]; unfold valD
      rw [if_pos (by rw [UInt8.le_iff_toNat_le]; exact h), IntKind.wrap_u8', UInt8.toNat_sub]
      show _ = (((2 ^ 8 - 48 + c.toNat) % 2 ^ 8 : Nat) : Int)
      omega
    have d : decide ((c.toNat : Int) ≤ 57) = true := decide_eq_true (by omega)
    rw [← hx]; clear hx
    go_enter Tryd.func38, Tryd.ntmps38
    go_wp2
    go_ret
    exact ⟨rfl, rfl⟩
  · obtain ⟨x, hx⟩ : ∃ x, x = valD c := ⟨_, rfl⟩
    obtain ⟨y, hy⟩ : ∃ y, y = c - 97 := ⟨_, rfl⟩
    have g1 : IntKind.u8.wrap ((c.toNat : Int) - 97) = (y.toNat : Int) := by
      rw [hy, IntKind.wrap_u8', UInt8.toNat_sub]
      show _ = (((2 ^ 8 - 97 + c.toNat) % 2 ^ 8 : Nat) : Int)
      omega
    have g2 : IntKind.u8.wrap ((y.toNat : Int) + 10) = (x.toNat : Int) := by
      rw [hx]; unfold valD
      rw [if_neg (by rw [UInt8.le_iff_toNat_le]; exact h), hy, IntKind.wrap_u8', UInt8.toNat_sub, UInt8.toNat_sub]
      show ((((2 ^ 8 - 97 + c.toNat) % 2 ^ 8 : Nat) : Int) + 10) % 256 = (((2 ^ 8 - 87 + c.toNat) % 2 ^ 8 : Nat) : Int)
      omega
    have d : decide ((c.toNat : Int) ≤ 57) = false := decide_eq_false (by omega)
    have hyl := y.toNat_lt
    rw [← hx]; clear hx hy
    go_enter Tryd.func38, Tryd.ntmps38
    go_wp2
    go_ret
    exact ⟨rfl, rfl⟩

theorem zeroSum : (∀ w, (zeroValue 45).run Tryd.prog w = .ok (.agg (u8s 32 fun _ => 0)) w) ∧ (Tryd.prog.info? 45).map (·.size) = some 32 := zero_of_info (by kernel_rfl)
theorem zero64 : (∀ w, (zeroValue 80).run Tryd.prog w = .ok (.agg (u8s 64 fun _ => 0)) w) ∧ (Tryd.prog.info? 80).map (·.size) = some 64 := zero_of_info (by kernel_rfl)
theorem indexS (s : Bs) (W : World) (i : Nat) (hi : i < 32) : (Instr.index 45 (.agg (sumA s)) (.int .i64 (i : Int))).run Tryd.prog W = .ok (.int .u8 ((gd s i).toNat : Int)) W := by
  have h1 : (sumA s)[i]? = some (.int .u8 ((gd s i).toNat : Int)) := sumA_get s i hi
  have hs : ∀ W, (sizeOf 5).run Tryd.prog W = .ok 1 W := fun _ => by kernel_rfl
  have hp : ∀ W, (part 5 (sumA s) i).run Tryd.prog W = .ok (.int .u8 ((gd s i).toNat : Int)) W := fun W => by
    have ha : ∀ W, (isAgg 5).run Tryd.prog W = .ok false W := fun _ => by kernel_rfl
    simp [part, Sem.run_bind, ha, h1]
  have hi1 : 0 ≤ (i : Int) := by omega
  simp [Instr.index, asIntOf, Sem.run_bind, run_underlying Tryd.underlying45, hs, hp, hi1]
  omega
theorem hexL_range (s : Bs) (h : s.length = 32) : hexL s = (List.range 32).flatMap fun i => [hexD (gd s i / 16), hexD (gd s i % 16)] := by
  have e : s = (List.range 32).map (gd s) := by
    apply ext_getD (by simp [h])
    intro i hi
    rw [List.getD_eq_getElem?_getD (l := (List.range 32).map (gd s)), List.getElem?_map, List.getElem?_range (by omega)]; rfl
  unfold hexL
  conv => lhs; rw [e, List.flatMap_map]
set_option maxRecDepth 100000 in
set_option maxHeartbeats 1000000 in
theorem nameOf_any (w : World) (s : Bs) (hs : s.length = 32) : Calls Tryd.prog 34 #[.agg (sumA s)] w fun e w' => e = .returned (SV (hexL s)) ∧ Below w.heap.size w w' := by
  rw [hexL_range s hs]
  have hz := zero64.1
  obtain ⟨F, hF⟩ : ∃ F, F = sumA s := ⟨_, rfl⟩
  have hFs : F.size = 32 := by rw [hF, sumA_size]
  have hFi : ∀ (W : World) (i : Nat), i < 32 → (Instr.index 45 (.agg F) (.int .i64 (i : Int))).run Tryd.prog W = .ok (.int .u8 ((gd s i).toNat : Int)) W := fun W i hi => by rw [hF]; exact indexS s W i hi
  have hF1 : F.all (·.oneCell') = true := by rw [hF]; exact sumA_one s
  rw [← hF]
  have HFs := Lib.hid hFs; have HFi := Lib.hid hFi
  clear hF hFs hFi hs
  go_enter Tryd.func34, Tryd.ntmps34
  go_upto_region 2 with fail
  have l0 : Below w.heap.size w ((w.alloc (Obj.cells F 45)).alloc (Obj.cells (u8s 64 fun _ => 0) 80)) := (below_new w _).alloc (by simp) _
  have bF : Blk ((w.alloc (Obj.cells F 45)).alloc (Obj.cells (u8s 64 fun _ => 0) 80)) w.heap.size 45 F := (Blk.new w _ _).alloc _
  have b0 : Blk ((w.alloc (Obj.cells F 45)).alloc (Obj.cells (u8s 64 fun _ => 0) 80)) (w.heap.size + 1) 80 (u8s 64 fun _ => 0) := by
    have := Blk.new (w.alloc (Obj.cells F 45)) 80 (u8s 64 fun _ => 0)
    simpa using this
  obtain ⟨w2, hw2⟩ : ∃ w2, w2 = (w.alloc (Obj.cells F 45)).alloc (Obj.cells (u8s 64 fun _ => 0) 80) := ⟨_, rfl⟩
  rw [← hw2] at l0 bF b0 ⊢
  clear hw2
  go_wp2_with (refine wpList_load_row rfl 45 _ rfl w.heap.size rfl 45 F (0, 0) _ bF Tryd.underlying45 rfl (by rw [HFs.out]; kernel_rfl) ?_)
  go_loopw [4, 5, 7] (fun _ _ i wr => ∃ (k : Nat) (G : Nat → UInt8), k ≤ 32 ∧ i = .int .i64 k ∧ Blk wr (w.heap.size + 1) 80 (u8s 64 G) ∧ Below w.heap.size w wr ∧ (∀ j, j < k → G (2 * j) = hexD (gd s j / 16) ∧ G (2 * j + 1) = hexD (gd s j % 16))) (fun _ _ i _ => 32 - (intOf i).toNat)
  case atStart => exact ⟨0, _, Nat.zero_le _, rfl, b0, l0, fun j hj => absurd hj (Nat.not_lt_zero _)⟩
  case round =>
    clear b0 l0 bF
    obtain ⟨k, G, hk, rfl, hblk, hb, hG⟩ := hrel
    have HG := Lib.hid hG; clear hG
    by_cases hlt : k < 32
    · have hix := fun W => HFi.out W k hlt
      obtain ⟨c, hc⟩ : ∃ c, c = gd s k := ⟨_, rfl⟩
      rw [← hc] at hix
      have Hc := Lib.hid hc; clear hc
      obtain ⟨x, hx⟩ : ∃ x, x = hexD (c / 16) := ⟨_, rfl⟩
      obtain ⟨y, hy⟩ : ∃ y, y = hexD (c % 16) := ⟨_, rfl⟩
      have gx := fun h => (hexHi c h).trans hx.symm
      have gy := fun h => (hexLo c h).trans hy.symm
      have Hx := Lib.hid hx; have Hy := Lib.hid hy; clear hx hy
      have cq0 := hblk.byte (2 * k) (by omega)
      have cq1 := hblk.byte (2 * k + 1) (by omega)
      have zq0 := hblk.frozen (2 * k)
      have zq1 := hblk.frozen (2 * k + 1)
      have hbound := hblk.lt
      have hcl := c.toNat_lt
      have hc1 : c.toNat / 16 < 16 := by omega
      have hc2 : (c.toNat : Int) / 16 < 16 := by omega
      have hc3 : 0 ≤ (c.toNat : Int) / 16 := by omega
      have hc4 : c.toNat % 16 < 16 := by omega
      have hc5 : 0 ≤ (c.toNat : Int) % 16 := by omega
      have hc6 : (c.toNat : Int) % 16 < 16 := by omega
      have e1 : ((c.toNat : Int) / 16).toNat = c.toNat / 16 := by omega
      have e2 : ((c.toNat : Int) % 16).toNat = c.toNat % 16 := by omega
      go_wp2
      go_region
      all_goals
        go_wp2
        go_roundw
        case rel =>
          refine ⟨k + 1, upd (upd G (2 * k) x) (2 * k + 1) y, by omega, by go_num, (hblk.setB (2 * k) x).setB (2 * k + 1) y, ((hb.setCell (by simp) _).setCell (by simp) _).drew, fun j hj => ?_⟩
          by_cases hjk : j = k
          · subst hjk
            rw [upd_same, upd_other _ _ _ _ (show 2 * j ≠ 2 * j + 1 by omega), upd_same, Hx.out, Hy.out, Hc.out]
            exact ⟨rfl, rfl⟩
          · rw [upd_other _ _ _ _ (show 2 * j ≠ 2 * k + 1 by omega), upd_other _ _ _ _ (show 2 * j ≠ 2 * k by omega), upd_other _ _ _ _ (show 2 * j + 1 ≠ 2 * k + 1 by omega), upd_other _ _ _ _ (show 2 * j + 1 ≠ 2 * k by omega)]
            exact HG.out j (by omega)
        case measure => simp [intOf]; omega
    · have Hl : Hid ((List.range 64).map G = (List.range 32).flatMap fun i => [hexD (gd s i / 16), hexD (gd s i % 16)]) := Lib.hid (pairs_eq _ _ _ fun j hj => HG.out j (by omega))
      obtain ⟨nm, hnm⟩ : ∃ nm, nm = (List.range 64).map G := ⟨_, rfl⟩
      have hlen : nm.length = 64 := by rw [hnm]; simp
      have hconv : (convert 23 9 (.slice (some ⟨w.heap.size + 1, 0, none⟩) 64 64)).run Tryd.prog wr = .ok (.string ⟨nm.toArray⟩) wr := by
        have := run_convert_bytes_back (P := Tryd.prog) wr 23 9 5 ⟨w.heap.size + 1, 0, none⟩ 64 nm Tryd.underlying23 Tryd.underlying5 Tryd.underlying9 (fun j hj => by
          rw [Go.Proofs.YtdjmcehoaneekaaDoor.add_none, Nat.zero_add, hblk.byte j (by omega)]
          simp [hnm])
        rw [hlen] at this
        exact this
      have Hnm : Hid (nm = (List.range 32).flatMap fun i => [hexD (gd s i / 16), hexD (gd s i % 16)]) := Lib.hid (hnm.trans Hl.out)
      have hbound := hblk.lt
      clear hnm hlen
      go_wp2
      go_ret
      exact ⟨by unfold SV; rw [Hnm.out]; rfl, hb⟩
theorem ofInt8 (x : UInt8) : BitVec.ofInt 8 (x.toNat : Int) = x.toBitVec := by
  apply BitVec.eq_of_toNat_eq
  have := x.toNat_lt
  rw [BitVec.toNat_ofInt]
  show ((x.toNat : Int) % ((2 ^ 8 : Nat) : Int)).toNat = x.toNat
  omega
theorem or8 (x y : UInt8) : bits .or .u8 (x.toNat : Int) (y.toNat : Int) = ((x ||| y).toNat : Int) := by
  show IntKind.u8.wrap ((BitVec.ofInt 8 (x.toNat : Int) ||| BitVec.ofInt 8 (y.toNat : Int)).toNat : Int) = _
  rw [ofInt8, ofInt8, IntKind.wrap_u8']
  have e : (x.toBitVec ||| y.toBitVec).toNat = (x ||| y).toNat := rfl
  rw [e]
  have := (x ||| y).toNat_lt
  omega
theorem shl8 (x : UInt8) : IntKind.u8.wrap ((x.toNat : Int) * 16) = ((x <<< 4).toNat : Int) := by
  have e : (x <<< 4).toNat = x.toNat * 16 % 256 := by rw [UInt8.toNat_shiftLeft, Nat.shiftLeft_eq]; rfl
  rw [IntKind.wrap_u8', e]; omega
theorem digits8 (x y : UInt8) : bits .or .u8 (IntKind.u8.wrap ((x.toNat : Int) * 16)) (y.toNat : Int) = ((x <<< 4 ||| y).toNat : Int) := by rw [shl8, or8]

theorem value_still (c : UInt8) (w : World) : Calls Tryd.prog 38 #[.int .u8 (c.toNat : Int)] w fun e w' => e = .returned (.int .u8 ((valD c).toNat : Int)) ∧ w' = w :=
  (value_any c w).mono fun _ _ h => ⟨h.1, h.2.symm⟩
set_option maxRecDepth 100000 in
set_option maxHeartbeats 1000000 in
theorem sumOf_any (w : World) (id : Bs) (hid : id.length = 64) : Calls Tryd.prog 23 #[SV id] w fun e w' => e = .returned (.agg (sumA (rawL id))) ∧ Below w.heap.size w w' := by
  have hz := zeroSum.1
  have hlo : id.length ≤ 64 := by omega
  have hhi : 64 ≤ id.length := by omega
  have HI := Lib.hid hid; clear hid
  unfold SV
  go_enter Tryd.func23, Tryd.ntmps23
  go_wp2
  go_loopw [3, 4] (fun _ i wr => ∃ (k : Nat) (F : Nat → UInt8), k ≤ 32 ∧ i = .int .i64 k ∧ Blk wr w.heap.size 45 (u8s 32 F) ∧ Below w.heap.size w wr ∧ (∀ j, j < k → F j = gd (rawL id) j)) (fun _ i _ => 32 - (intOf i).toNat)
  case atStart => exact ⟨0, _, Nat.zero_le _, rfl, by exact Blk.new w _ _, below_new w _, fun j hj => absurd hj (Nat.not_lt_zero _)⟩
  case round =>
    obtain ⟨k, F, hk, rfl, hblk, hb, hF⟩ := hrel
    have HF := Lib.hid hF; clear hF
    by_cases hlt : k < 32
    · obtain ⟨a, ha⟩ : ∃ a, a = id.getD (2 * k) 0 := ⟨_, rfl⟩
      obtain ⟨b, hb2⟩ : ∃ b, b = id.getD (2 * k + 1) 0 := ⟨_, rfl⟩
      have ga : ∀ h, ((⟨id.toArray⟩ : ByteArray)[2 * k]'h) = a := fun h => by
        rw [ha, List.getD_eq_getElem?_getD, List.getElem?_eq_getElem (by omega)]; rfl
      have gb : ∀ h, ((⟨id.toArray⟩ : ByteArray)[2 * k + 1]'h) = b := fun h => by
        rw [hb2, List.getD_eq_getElem?_getD, List.getElem?_eq_getElem (by omega)]; rfl
      have Hz : Hid (valD a <<< 4 ||| valD b = gd (rawL id) k) := Lib.hid (by rw [gd_raw _ _ hlt, ha, hb2])
      have i0 : IntKind.i64.wrap (2 * (k : Int)) = 2 * (k : Int) := IntWalk.i64_in _ (by omega)
      have i1 : IntKind.i64.wrap (2 * (k : Int) + 1) = 2 * (k : Int) + 1 := IntWalk.i64_in _ (by omega)
      have e0 : (2 * (k : Int)).toNat = 2 * k := by omega
      have e1 : (2 * (k : Int) + 1).toNat = 2 * k + 1 := by omega
      have p0 : 0 ≤ 2 * (k : Int) := by omega
      have p1 : 0 ≤ 2 * (k : Int) + 1 := by omega
      have q0 : 2 * (k : Int) < (id.length : Int) := by omega
      have q1 : 2 * (k : Int) + 1 < (id.length : Int) := by omega
      have hbound := hblk.lt
      clear ha hb2
      go_wp2
      refine wp_region_still_tail 15 (by kernel_rfl) (by kernel_rfl) ?_
      simp only [List.take_succ_cons, List.take_zero, List.drop_succ_cons, List.drop_zero]
      repeat still_step
      still_call (value_still a _)
      repeat still_step
      still_call (value_still b _)
      repeat still_step
      refine wpStill_nil ?_
      rw [digits8]
      change wpList _ _ _ _ _ wr.drew
      obtain ⟨z, hz9⟩ : ∃ z, z = valD a <<< 4 ||| valD b := ⟨_, rfl⟩
      rw [← hz9] at Hz ⊢
      clear hz9
      obtain ⟨wq, hwq⟩ : ∃ wq, wq = wr.drew := ⟨_, rfl⟩
      rw [← hwq]
      have bq : Blk wq w.heap.size 45 (u8s 32 F) := by rw [hwq]; exact hblk
      have lq : Below w.heap.size w wq := by rw [hwq]; exact hb.drew
      have cq := bq.byte k (by omega)
      have zq := bq.frozen k
      clear hwq hblk hb hbound ga gb i0 i1 e0 e1 p0 p1 q0 q1
      go_wp2
      go_roundw
      case rel =>
        refine ⟨k + 1, upd F k z, by omega, by go_num, bq.setB k z, lq.setCell (by simp) _, fun j hj => ?_⟩
        by_cases hjk : j = k
        · subst hjk; rw [upd_same, Hz.out]
        · rw [upd_other _ _ _ _ hjk]; exact HF.out j (by omega)
      case measure => simp [intOf]; omega
    · have Hf : Hid (u8s 32 F = sumA (rawL id)) := Lib.hid (u8s_gd fun j hj => HF.out j (by omega))
      go_wp2_with (first
        | (refine wpList_load_row rfl 45 _ rfl w.heap.size rfl 45 (u8s 32 F) (0, 0) _ hblk Tryd.underlying45 rfl (by rw [u8s_size]; kernel_rfl) ?_)
        | (refine wpList_store_row rfl 45 _ _ rfl w.heap.size (u8s 32 F) rfl rfl 45 (u8s 32 F) hblk (by rw [u8s_size]; kernel_rfl) rfl (u8s_one 32 F) ?_; rw [setRow_self _ _ _ _ _ hblk]))
      exact bodyPost_ret (v := .agg (u8s 32 F)) (results_cell_row rfl _ _ w.heap.size 45 (u8s 32 F) (0, 0) _ rfl hblk Tryd.underlying45 rfl (by rw [u8s_size]; kernel_rfl)) rfl ⟨by rw [Hf.out], hb⟩
end Go.Proofs.YtdjmcehoaneekaaDoor.Ix
