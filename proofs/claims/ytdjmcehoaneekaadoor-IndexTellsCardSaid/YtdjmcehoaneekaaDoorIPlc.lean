/-
  The index: placed.
-/
import Derived.Test.YtdjmcehoaneekaaDoorIWrt
import Derived.Test.YtdjmcehoaneekaaDoorITbl
namespace Go.Proofs.YtdjmcehoaneekaaDoor.Ix
open Go.Proofs.YtdjmcehoaneekaaDoor
open Go Go.RowKit

theorem zeroInts : (∀ w, (zeroValue 98).run Tryd.prog w = .ok (.agg (intA 512 fun _ => 0)) w) ∧ (Tryd.prog.info? 98).map (·.size) = some 512 := zero_of_info (by kernel_rfl)
theorem Blk.intSet {w : World} {g n : Nat} {t : TypeId} {f : Nat → Nat} (h : Blk w g t (intA n f)) (k x : Nat) : Blk (w.setCell ⟨g, k, none⟩ (.int .i64 (x : Int))) g t (intA n (upd f k x)) := by
  have := h.set_ k (.int .i64 (x : Int)); rwa [intA_set] at this
/-- A bool, and nothing old has turned. -/
def BoolP (b : Bool) (w : World) (e : Ending) (w' : World) : Prop := e = .returned (.bool b) ∧ Below w.heap.size w w'
set_option maxRecDepth 100000 in
set_option maxHeartbeats 4000000 in
theorem placed_any {w : World} {v : Value} {rows : List Rw} (hv : RowsR w v rows) (hl : rows.length ≤ 512) (hpl : ∀ r ∈ rows, r.place < 65536) : Calls Tryd.prog 47 #[v] w (BoolP (placedB rows) w) := by
  obtain ⟨A, c, rfl⟩ := hv.shape
  have HV := Lib.hid hv
  obtain ⟨N, hN⟩ : ∃ N, N = rows.length := ⟨_, rfl⟩
  have hN5 : N ≤ 512 := by omega
  rw [← hN]
  have HN := Lib.hid hN
  have HPl := Lib.hid hpl
  have hzr := zeroRow.1
  have hzi := zeroInts.1
  obtain ⟨zr, hzr0⟩ : ∃ z, z = zRow := ⟨_, rfl⟩
  obtain ⟨zi, hzi0⟩ : ∃ z, z = intA 512 (fun _ => 0) := ⟨_, rfl⟩
  rw [← hzr0] at hzr
  rw [← hzi0] at hzi
  have hs1 : zr.size = 33 := by rw [hzr0, zRow_size]
  have HS1 := Lib.hid hs1
  have b0 : Blk (w.alloc (Obj.cells zi 98)) w.heap.size 98 (intA 512 (plN (rows.take 0))) := by
    have e : (fun _ : Nat => 0) = plN (rows.take 0) := by funext j; rfl
    rw [e] at hzi0
    rw [← hzi0]; exact Blk.new w _ _
  have l0 : Below w.heap.size w (w.alloc (Obj.cells zi 98)) := below_new w _
  obtain ⟨w1, hw1⟩ : ∃ w1, w1 = w.alloc (Obj.cells zi 98) := ⟨_, rfl⟩
  rw [← hw1] at b0 l0
  have HW1 := Lib.hid hw1; have B0 := Lib.hid b0; have L0 := Lib.hid l0
  clear hv hl hN hzr0 hzi0 hs1 hw1 b0 l0 hpl
  go_enter Tryd.func47, Tryd.ntmps47
  go_wp2_with (rw [← HW1.out])
  go_loopw [5, 8] (fun _ i wr => ∃ k : Nat, k ≤ N ∧ i = .int .i64 k ∧ Hid (Below w.heap.size w wr) ∧ Hid (Blk wr w.heap.size 98 (intA 512 (plN (rows.take k)))) ∧ Hid (okTo rows k)) (fun _ i _ => N - (intOf i).toNat)
  case atStart => exact ⟨0, Nat.zero_le _, rfl, L0, B0, Lib.hid ⟨fun r hr => by simp at hr, by simp⟩⟩
  case round =>
    clear L0 B0 HW1
    obtain ⟨k, hk, rfl, hB, hb, hok⟩ := hrel
    by_cases hlt : k < N
    · obtain ⟨g, o, c', e, _, hg⟩ := HV.out.pos (by have := HN.out; omega)
      cases e
      obtain ⟨r, hr⟩ : ∃ r, rows[k]? = some r := ⟨_, List.getElem?_eq_getElem (by have := HN.out; omega)⟩
      have hat := (HV.out.at k r hr).below hB.out hg
      obtain ⟨F, hF⟩ : ∃ F, F = rowA r := ⟨_, rfl⟩
      have hFs : F.size = 33 := by rw [hF, rowA_size]
      have hF1 : F.all (·.oneCell') = true := by rw [hF]; exact rowA_one r
      rw [← hF] at hat
      have HAt := Lib.hid hat; have HFs := Lib.hid hFs; have HF1 := Lib.hid hF1; have HAg : Hid (Agg Tryd.prog 48 F.size) := Lib.hid (by rw [hFs]; exact aggRow)
      obtain ⟨wa, hwa⟩ : ∃ wa, wa = wr.alloc (Obj.cells zr 48) := ⟨_, rfl⟩
      have ba : Blk wa wr.heap.size 48 zr := by rw [hwa]; exact Blk.new wr _ _
      have la : Below wr.heap.size wr wa := by rw [hwa]; exact below_new wr _
      obtain ⟨wb, hwb⟩ : ∃ wb, wb = wa.setRow wr.heap.size F := ⟨_, rfl⟩
      have bb : Blk wb wr.heap.size 48 F := by rw [hwb]; exact setRow_heap wa _ _ _ _ _ ba
      have lb : Below wr.heap.size wr wb := by rw [hwb]; exact below_setRow la (Nat.le_refl _) _
      have hblt := bb.lt
      obtain ⟨p, hp⟩ : ∃ p, p = r.place := ⟨_, rfl⟩
      have hp6 : p < 65536 := by rw [hp]; exact HPl.out r (List.mem_of_getElem? hr)
      have cp : wb.cell? ⟨wr.heap.size, 32, none⟩ = some (.int .i64 (p : Int)) := by rw [hF] at bb; rw [hp]; exact Blk.rowPlace bb
      have b16 : Blk wb w.heap.size 98 (intA 512 (plN (rows.take k))) := hb.out.below lb hb.out.lt
      have lw : Below w.heap.size w wb := hB.out.trans (lb.mono hB.out.size)
      have HWa := Lib.hid hwa; have HWb := Lib.hid hwb; have Ba := Lib.hid ba; have B16 := Lib.hid b16; have LW := Lib.hid lw; have Hr := Lib.hid hr; have Hp := Lib.hid hp
      clear hat hF hFs hF1 hwa ba la hwb bb lb b16 lw hr hp
      by_cases hpN : N ≤ p
      · have d1 : decide (N ≤ p) = true := decide_eq_true hpN
        have HNo : Hid (placedB rows = false) := Lib.hid (placed_no1 Hr.out (by have := HN.out; have := Hp.out; omega))
        clear hpN
        go_wp2_with (first
          | (refine wpList_load_at rfl 48 (.tmp 10) rfl g (o + k * 33) rfl F HAg.out HAt.out ?_)
          | (rw [← HWa.out]; refine wpList_store_row rfl 48 (.tmp 5) (.tmp 11) rfl wr.heap.size F rfl rfl 48 zr Ba.out (by rw [HFs.out]; kernel_rfl) (by rw [HFs.out, HS1.out]) HF1.out ?_; rw [← HWb.out]))
        go_ret
        exact ⟨ret_bool HNo.out.symm, LW.out⟩
      · have d1 : decide (N ≤ p) = false := decide_eq_false hpN
        obtain ⟨y, hy⟩ : ∃ y, y = plN (rows.take k) p := ⟨_, rfl⟩
        have hy5 : y ≤ 512 := by rw [hy]; exact Nat.le_trans (plN_len _ _) (Nat.le_trans take_len (by omega))
        have hpi : (p : Int) < 512 := by omega
        have c1 : wb.cell? ⟨w.heap.size, p, none⟩ = some (.int .i64 (y : Int)) := by rw [B16.out.cell, intA_get _ _ _ (by omega), hy]
        have z1 : wb.frozen? ⟨w.heap.size, p, none⟩ = false := B16.out.frozen _
        have Hy := Lib.hid hy
        have HpN : Hid (p < rows.length) := Lib.hid (by have := HN.out; omega)
        clear hy hpN
        by_cases hy0 : y = 0
        · have HNe : Hid (okTo rows (k + 1)) := Lib.hid (hok.out.step Hr.out (by rw [← Hp.out]; exact HpN.out) (by rw [← Hp.out, ← Hy.out]; exact hy0))
          have d2 : decide ((0 : Int) < (y : Int)) = false := decide_eq_false (by omega)
          have d2' : decide (0 < y) = false := decide_eq_false (by omega)
          have g1 : IntKind.i64.wrap ((y : Int) + 1) = (y : Int) + 1 := IntWalk.i64_in _ (by omega)
          have hlt6 : w.heap.size < wb.heap.size := B16.out.lt
          clear hy0
          go_wp2_with (first
            | (refine wpList_load_at rfl 48 (.tmp 10) rfl g (o + k * 33) rfl F HAg.out HAt.out ?_)
            | (rw [← HWa.out]; refine wpList_store_row rfl 48 (.tmp 5) (.tmp 11) rfl wr.heap.size F rfl rfl 48 zr Ba.out (by rw [HFs.out]; kernel_rfl) (by rw [HFs.out, HS1.out]) HF1.out ?_; rw [← HWb.out]))
          go_roundw
          case rel =>
            refine ⟨k + 1, by omega, by go_num, Lib.hid (LW.out.setCell (by simp) _), Lib.hid ?_, HNe⟩
            have h := Blk.intSet B16.out p (y + 1)
            have e : upd (plN (rows.take k)) p (y + 1) = plN (rows.take (k + 1)) := by
              funext j
              rw [take_snoc' Hr.out, plN_snoc]
              unfold upd
              rw [← Hp.out]
              by_cases h : j = p
              · rw [if_pos h, if_pos h, Hy.out, h]
              · rw [if_neg h, if_neg h]
            rw [e] at h
            exact h
          case measure => simp [intOf]; omega
        · have HNo : Hid (placedB rows = false) := Lib.hid (placed_no2 Hr.out (by rw [← Hp.out, ← Hy.out]; omega))
          have d2 : decide ((0 : Int) < (y : Int)) = true := decide_eq_true (by omega)
          have d2' : decide (0 < y) = true := decide_eq_true (by omega)
          clear hy0
          go_wp2_with (first
            | (refine wpList_load_at rfl 48 (.tmp 10) rfl g (o + k * 33) rfl F HAg.out HAt.out ?_)
            | (rw [← HWa.out]; refine wpList_store_row rfl 48 (.tmp 5) (.tmp 11) rfl wr.heap.size F rfl rfl 48 zr Ba.out (by rw [HFs.out]; kernel_rfl) (by rw [HFs.out, HS1.out]) HF1.out ?_; rw [← HWb.out]))
          go_ret
          exact ⟨ret_bool HNo.out.symm, LW.out⟩
    · have hkN : k = N := by omega
      subst hkN
      have HYes : Hid (placedB rows = true) := Lib.hid (placed_yes (by have h := hok.out; rwa [HN.out] at h))
      have LB := Lib.hid hB.out
      clear hB hb hok
      go_wp2
      go_ret
      exact ⟨ret_bool HYes.out.symm, LB.out⟩
end Go.Proofs.YtdjmcehoaneekaaDoor.Ix
