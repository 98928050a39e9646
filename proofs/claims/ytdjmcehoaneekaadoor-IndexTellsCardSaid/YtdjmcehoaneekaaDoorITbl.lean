/-
  The index: tableOf: do rows rise, and how many begin with each byte or a lesser one.
-/
import Derived.Test.YtdjmcehoaneekaaDoorIClo
import Derived.Test.YtdjmcehoaneekaaDoorOrdA
import Derived.Deep.Cut
import Derived.BigRegion
namespace Go.Proofs.YtdjmcehoaneekaaDoor.Ix
open Go.Proofs.YtdjmcehoaneekaaDoor
open Go Go.RowKit Go.Sort

def zRow : Array Value := (u8s 32 fun _ => 0).push (.int .i64 0)
def zTbl : Array Value := tblA (fun _ => 0) (.slice none 0 0)
theorem zeroRow : (∀ w, (zeroValue 48).run Tryd.prog w = .ok (.agg zRow) w) ∧ (Tryd.prog.info? 48).map (·.size) = some 33 := zero_of_info (by kernel_rfl)
theorem zeroTbl : (∀ w, (zeroValue 52).run Tryd.prog w = .ok (.agg zTbl) w) ∧ (Tryd.prog.info? 52).map (·.size) = some 257 := zero_of_info (by kernel_rfl)
theorem zRow_size : zRow.size = 33 := by unfold zRow; rw [Array.size_push, u8s_size]
theorem zTbl_size : zTbl.size = 257 := tblA_size _ _
theorem zTbl_one : zTbl.all (·.oneCell') = true := tblA_one _ _ _ _
theorem built_none : Tryd.prog.built 52 [] = some zTbl := by kernel_rfl
theorem set_rows (A : Option Addr) (n c : Nat) : zTbl.setIfInBounds 256 (.slice A n c) = tblA (fun _ => 0) (.slice A n c) := by kernel_rfl

/-- What a slice's rows come to as a table. -/
def TblPost (rows : List Rw) (v : Value) (w : World) (e : Ending) (w' : World) : Prop :=
  Below w.heap.size w w' ∧ ((risesB (sumsOf rows) = true ∧ e = .returned (.tuple #[.agg (tblA (upToN rows) v), .bool true])) ∨ (risesB (sumsOf rows) = false ∧ e = .returned (.tuple #[.agg zTbl, .bool false])))
theorem rises_short {rows : List Rw} {k : Nat} (h : risesB (sumsOf (rows.take k)) = false) : risesB (sumsOf rows) = false := by
  cases hr : risesB (sumsOf rows) with
  | false => rfl
  | true =>
    have := rises_pre k hr
    unfold sumsOf at this h
    rw [← List.map_take] at this
    rw [this] at h; cases h
theorem take_len {rows : List Rw} {k : Nat} : (rows.take k).length ≤ k := List.length_take_le _ _
theorem tblA_congr {f g : Nat → Nat} (v : Value) (h : ∀ i, i < 256 → f i = g i) : tblA f v = tblA g v := by
  unfold tblA intA
  congr 2
  exact List.map_congr_left fun i hi => by rw [h i (by simpa using hi)]
theorem Blk.tblSet {w : World} {g : Nat} {t : TypeId} {f : Nat → Nat} {v : Value} (h : Blk w g t (tblA f v)) (k x : Nat) (hk : k < 256) : Blk (w.setCell ⟨g, k, none⟩ (.int .i64 (x : Int))) g t (tblA (upd f k x) v) := by
  have := h.set_ k (.int .i64 (x : Int)); rwa [tblA_set _ _ _ _ hk] at this

theorem gt_i64 (W : World) (a b : Int) (r : Bool) (h : decide (b < a) = r) : (binOp .gtr 3 (.int .i64 a) (.int .i64 b)).run Tryd.prog W = .ok (.bool r) W := by
  subst h; simp [go_sem]
theorem ge_i64 (W : World) (a b : Int) (r : Bool) (h : decide (b ≤ a) = r) : (binOp .geq 3 (.int .i64 a) (.int .i64 b)).run Tryd.prog W = .ok (.bool r) W := by
  subst h; simp [go_sem]
theorem sub_i64 (W : World) (a b r : Int) (h : IntKind.i64.wrap (a - b) = r) : (binOp .sub 3 (.int .i64 a) (.int .i64 b)).run Tryd.prog W = .ok (.int .i64 r) W := by
  simp [go_sem, h]
theorem below_grow (w : World) (q : Nat) (os : Array Obj) : Below w.heap.size w (grow (w.drewN q) os) :=
  ⟨rfl, rfl, rfl, by simp [grow], fun k hk => by show (w.heap ++ os)[k]? = _; rw [Array.getElem?_append_left hk]⟩
theorem at_row (W : World) (g o n c k : Nat) (hk : k < n) : (Instr.indexAt 42 (.slice (some ⟨g, o, none⟩) n c) (.int .i64 (k : Int))).run Tryd.prog W = .ok (.pointer (some ⟨g, o + k * 33, none⟩)) W := by
  have h1 : (k : Int) < (n : Int) := by omega
  simp [go_sem, h1]

set_option maxRecDepth 100000 in
set_option maxHeartbeats 4000000 in
theorem tableOf_any {w : World} {v : Value} {rows : List Rw} (hv : RowsR w v rows) (hfit : Fit rows) (hl : rows.length ≤ 512) : Calls Tryd.prog 25 #[v] w (TblPost rows v w) := by
  obtain ⟨A, c, rfl⟩ := hv.shape
  have HV := Lib.hid hv
  have HFit := Lib.hid hfit
  obtain ⟨N, hN⟩ : ∃ N, N = rows.length := ⟨_, rfl⟩
  have hN5 : N ≤ 512 := by omega
  rw [← hN]
  have HN := Lib.hid hN
  have hzr := zeroRow.1
  have hzt := zeroTbl.1
  obtain ⟨zr, hzr0⟩ : ∃ z, z = zRow := ⟨_, rfl⟩
  obtain ⟨zt, hzt0⟩ : ∃ z, z = zTbl := ⟨_, rfl⟩
  obtain ⟨T0, hT0⟩ : ∃ z, z = tblA (fun _ => 0) (.slice A N c) := ⟨_, rfl⟩
  rw [← hzr0] at hzr
  rw [← hzt0] at hzt
  have hbn : Tryd.prog.built 52 [] = some zt := by rw [hzt0]; exact built_none
  have hst : zt.setIfInBounds 256 (.slice A N c) = T0 := by rw [hzt0, hT0]; exact set_rows A N c
  have hs1 : zr.size = 33 := by rw [hzr0, zRow_size]
  have hs2 : zt.size = 257 := by rw [hzt0, zTbl_size]
  have hs3 : T0.size = 257 := by rw [hT0, tblA_size]
  have ho2 : zt.all (·.oneCell') = true := by rw [hzt0]; exact zTbl_one
  have ho3 : T0.all (·.oneCell') = true := by rw [hT0]; exact tblA_one _ _ _ _
  have HBn := Lib.hid hbn; have HS1 := Lib.hid hs1; have HS2 := Lib.hid hs2;  have HS3 := Lib.hid hs3; have HO2 := Lib.hid ho2; have HO3 := Lib.hid ho3
  have HZt := Lib.hid hzt0; have HT0 := Lib.hid hT0
  clear hv hl hN hfit hzr0 hzt0 hT0 hbn hs1 hs3 ho2 ho3
  have b1 : Blk ((w.alloc (Obj.cells zt 52)).alloc (Obj.cells zt 52)) (w.heap.size + 1) 52 zt := by
    have := Blk.new (w.alloc (Obj.cells zt 52)) 52 zt
    simpa using this
  have b0 : Blk ((w.alloc (Obj.cells zt 52)).alloc (Obj.cells zt 52)) w.heap.size 52 zt := (Blk.new w _ _).alloc _
  have l0 : Below w.heap.size w ((w.alloc (Obj.cells zt 52)).alloc (Obj.cells zt 52)) := (below_new w _).alloc (by simp) _
  obtain ⟨w2, hw2⟩ : ∃ w2, w2 = (w.alloc (Obj.cells zt 52)).alloc (Obj.cells zt 52) := ⟨_, rfl⟩
  rw [← hw2] at b0 b1 l0
  have HW2 := Lib.hid hw2; have B1 := Lib.hid b1; have B0 := Lib.hid b0; have L0 := Lib.hid l0
  clear hw2 b1 b0 l0
  go_enter Tryd.func25, Tryd.ntmps25
  go_wp2_with (rw [← HW2.out]; refine wpList_store_row rfl 52 (.tmp 4) (.tmp 9) rfl (w.heap.size + 1) T0 rfl rfl 52 zt B1.out (by rw [HS3.out]; kernel_rfl) (by rw [HS2.out, HS3.out]) HO3.out ?_)
  obtain ⟨wz, hwz⟩ : ∃ wz, wz = w2.setRow (w.heap.size + 1) T0 := ⟨_, rfl⟩
  have bz1 : Blk wz (w.heap.size + 1) 52 T0 := by rw [hwz]; exact setRow_heap w2 _ _ _ _ _ B1.out
  have lz1 : Below (w.heap.size + 1) w2 wz := by rw [hwz]; exact below_setRow (Below.refl _ _) (Nat.le_refl _) _
  have bz0 : Blk wz w.heap.size 52 zt := B0.out.below lz1 (Nat.lt_succ_self _)
  have lz : Below w.heap.size w wz := L0.out.trans (lz1.mono (Nat.le_succ _))
  rw [← hwz]
  have BZ0 := Lib.hid bz0; have LZ := Lib.hid lz
  have BZ1 : Hid (Blk wz (w.heap.size + 1) 52 (tblA (eqN (rows.take 0)) (.slice A N c))) := Lib.hid (by
    have h := bz1
    rw [HT0.out] at h
    have e : (fun _ : Nat => 0) = eqN (rows.take 0) := by funext j; rfl
    rw [e] at h; exact h)
  clear hwz bz1 lz1 bz0 lz
  go_loopw [5, 6, 12] (fun _ _ i wr => ∃ k : Nat, k ≤ N ∧ i = .int .i64 k ∧ Hid (Below w.heap.size w wr) ∧ Hid (Blk wr w.heap.size 52 zt) ∧ Hid (Blk wr (w.heap.size + 1) 52 (tblA (eqN (rows.take k)) (.slice A N c))) ∧ Hid (risesB (sumsOf (rows.take k)) = true)) (fun _ _ i _ => N - (intOf i).toNat)
  case atStart => exact ⟨0, Nat.zero_le _, rfl, LZ, BZ0, BZ1, Lib.hid rfl⟩
  case round =>
    clear LZ BZ0 BZ1
    obtain ⟨k, hk, rfl, hB, hb0, hb1, hR⟩ := hrel
    by_cases hlt : k < N
    · obtain ⟨g, o, c', e, _, hg⟩ := HV.out.pos (by have := HN.out; omega)
      cases e
      obtain ⟨r, hr⟩ : ∃ r, rows[k]? = some r := ⟨_, List.getElem?_eq_getElem (by have := HN.out; omega)⟩
      have hat := (HV.out.at k r hr).below hB.out hg
      have hats : ∀ j q, rows[j]? = some q → At wr g (o + j * 33) (sumA q.sum) := fun j q hq => (HV.out.sum j q hq).below hB.out hg
      obtain ⟨F, hF⟩ : ∃ F, F = rowA r := ⟨_, rfl⟩
      have hFs : F.size = 33 := by rw [hF, rowA_size]
      have hF1 : F.all (·.oneCell') = true := by rw [hF]; exact rowA_one r
      rw [← hF] at hat
      have HAt := Lib.hid hat; have HAs := Lib.hid hats; have HF := Lib.hid hF; have HFs := Lib.hid hFs; have HF1 := Lib.hid hF1; have HAg : Hid (Agg Tryd.prog 48 F.size) := Lib.hid (by rw [hFs]; exact aggRow)
      obtain ⟨wa, hwa⟩ : ∃ wa, wa = wr.alloc (Obj.cells zr 48) := ⟨_, rfl⟩
      have ba : Blk wa wr.heap.size 48 zr := by rw [hwa]; exact Blk.new wr _ _
      have la : Below wr.heap.size wr wa := by rw [hwa]; exact below_new wr _
      have HWa := Lib.hid hwa; have Ba := Lib.hid ba; have La := Lib.hid la
      have hgw : g < wr.heap.size := Nat.lt_of_lt_of_le hg hB.out.size
      have Hgw := Lib.hid hgw
      have Hr := Lib.hid hr
      clear hat hats hF hFs hF1 hwa ba la hgw hr
      go_wp2_with (first
        | (refine wpList_load_at rfl 48 (.tmp 15) rfl g (o + k * 33) rfl F HAg.out HAt.out ?_)
        | (rw [← HWa.out]; refine wpList_store_row rfl 48 (.tmp 6) (.tmp 16) rfl wr.heap.size F rfl rfl 48 zr Ba.out (by rw [HFs.out]; kernel_rfl) (by rw [HFs.out, HS1.out]) HF1.out ?_))
      obtain ⟨wb, hwb⟩ : ∃ wb, wb = wa.setRow wr.heap.size F := ⟨_, rfl⟩
      have bb : Blk wb wr.heap.size 48 F := by rw [hwb]; exact setRow_heap wa _ _ _ _ _ Ba.out
      have lb : Below wr.heap.size wr wb := by rw [hwb]; exact below_setRow La.out (Nat.le_refl _) _
      rw [← hwb]
      have Bb := Lib.hid bb; have Lb := Lib.hid lb
      have Hszb : Hid (wr.heap.size < wb.heap.size) := Lib.hid bb.lt
      clear hwb bb lb Ba La HWa HAt
      have Hfst : Hid (∀ x, x = gd r.sum 0 → x.toNat = fst r) := Lib.hid fun x hx => by rw [hx]; rfl
      by_cases hk0 : k = 0
      · have d0 : decide ((0 : Int) < (k : Int)) = false := decide_eq_false (by omega)
        have HR1 : Hid (risesB (sumsOf (rows.take (k + 1))) = true) := Lib.hid (by rw [take_snoc' Hr.out, hk0]; rfl)
        clear hk0
        refine AnyB.start (by kernel_rfl) ?_
        refine AnyB.take 0 (.int .i64 (k : Int)) rfl (by kernel_rfl) (by kernel_rfl) (by kernel_rfl) (fun _ _ _ h => h) (by kernel_rfl) (fun W hW => by kernel_rfl) ?_
        refine AnyB.take 1 (.bool false) rfl (by kernel_rfl) (by kernel_rfl) (by kernel_rfl) (fun _ _ _ h => h) (by kernel_rfl) (fun W hW => y_bin (x := .int .i64 (k : Int)) (y := .int .i64 0) rfl (by kernel_rfl) (by kernel_rfl) (by kernel_rfl) (gt_i64 W _ _ _ d0)) ?_
        refine AnyB.take 2 (.bool false) rfl (by kernel_rfl) (by kernel_rfl) (by kernel_rfl) (fun _ _ _ h => h) (by kernel_rfl) (fun W hW => by kernel_rfl) ?_
        refine AnyB.skip 3 rfl (by kernel_rfl) (by kernel_rfl) (by kernel_rfl) (fun _ _ _ h => h) (by kernel_rfl) ?_
        refine AnyB.skip 4 rfl (by kernel_rfl) (by kernel_rfl) (by kernel_rfl) (fun _ _ _ h => h) (by kernel_rfl) ?_
        refine AnyB.skip 5 rfl (by kernel_rfl) (by kernel_rfl) (by kernel_rfl) (fun _ _ _ h => h) (by kernel_rfl) ?_
        refine AnyB.skip 6 rfl (by kernel_rfl) (by kernel_rfl) (by kernel_rfl) (fun _ _ _ h => h) (by kernel_rfl) ?_
        refine AnyB.skip 7 rfl (by kernel_rfl) (by kernel_rfl) (by kernel_rfl) (fun _ _ _ h => h) (by kernel_rfl) ?_
        refine AnyB.skip 8 rfl (by kernel_rfl) (by kernel_rfl) (by kernel_rfl) (fun _ _ _ h => h) (by kernel_rfl) ?_
        refine AnyB.skip 9 rfl (by kernel_rfl) (by kernel_rfl) (by kernel_rfl) (fun _ _ _ h => h) (by kernel_rfl) ?_
        refine AnyB.skip 10 rfl (by kernel_rfl) (by kernel_rfl) (by kernel_rfl) (fun _ _ _ h => h) (by kernel_rfl) ?_
        refine AnyB.skip 11 rfl (by kernel_rfl) (by kernel_rfl) (by kernel_rfl) (fun _ _ _ h => h) (by kernel_rfl) ?_
        refine AnyB.skip 12 rfl (by kernel_rfl) (by kernel_rfl) (by kernel_rfl) (fun _ _ _ h => h) (by kernel_rfl) ?_
        refine AnyB.take 13 (.bool false) rfl (by kernel_rfl) (by kernel_rfl) (by kernel_rfl) (fun _ _ _ h => h) (by kernel_rfl) (fun W hW => by kernel_rfl) ?_
        refine AnyB.done _ (by kernel_rfl) ?_
        go_simp
        obtain ⟨w6, hw6⟩ : ∃ w6, w6 = wb.drew := ⟨_, rfl⟩
        have l6 : Below wb.heap.size wb w6 := by rw [hw6]; exact ⟨rfl, rfl, rfl, Nat.le_refl _, fun _ _ => rfl⟩
        rw [← hw6]
        have L6 := Lib.hid l6
        clear hw6 l6 d0
        obtain ⟨x, hx⟩ : ∃ x, x = gd r.sum 0 := ⟨_, rfl⟩
        have c0 : w6.cell? ⟨wr.heap.size, 0, none⟩ = some (.int .u8 (x.toNat : Int)) := by
          rw [L6.out.cell (p := ⟨wr.heap.size, 0, none⟩) Hszb.out, Bb.out.cell, HF.out, rowA_sum _ _ (by omega), sumA_get _ _ (by omega), hx]
        have b16 : Blk w6 (w.heap.size + 1) 52 (tblA (eqN (rows.take k)) (.slice (some ⟨g, o, none⟩) N c)) := (hb1.out.below Lb.out hb1.out.lt).below L6.out (Nat.lt_trans hb1.out.lt Hszb.out)
        have b06 : Blk w6 w.heap.size 52 zt := (hb0.out.below Lb.out hb0.out.lt).below L6.out (Nat.lt_trans hb0.out.lt Hszb.out)
        have lw6 : Below w.heap.size w w6 := (hB.out.trans (Lb.out.mono hB.out.size)).trans (L6.out.mono (Nat.le_trans hB.out.size (Nat.le_of_lt Hszb.out)))
        have hfx := Hfst.out x hx
        obtain ⟨y, hy⟩ : ∃ y, y = eqN (rows.take k) x.toNat := ⟨_, rfl⟩
        have hy5 : y ≤ 512 := by rw [hy]; exact Nat.le_trans (eqN_len _ _) (Nat.le_trans take_len (by omega))
        have hxl := x.toNat_lt
        have c1 : w6.cell? ⟨w.heap.size + 1, x.toNat, none⟩ = some (.int .i64 (y : Int)) := by rw [b16.cell, tblA_int _ _ _ hxl, hy]
        have z1 : w6.frozen? ⟨w.heap.size + 1, x.toNat, none⟩ = false := b16.frozen _
        have hxi : (x.toNat : Int) < 256 := by omega
        have g1 : IntKind.i64.wrap ((y : Int) + 1) = (y : Int) + 1 := IntWalk.i64_in _ (by omega)
        have B16 := Lib.hid b16; have B06 := Lib.hid b06; have LW6 := Lib.hid lw6; have Hy := Lib.hid hy; have Hfx := Lib.hid hfx
        have hlt6 : w.heap.size + 1 < w6.heap.size := b16.lt
        clear hx hfx hy b16 b06 lw6
        go_wp2
        go_roundw
        case rel =>
          refine ⟨k + 1, by omega, by go_num, Lib.hid (LW6.out.setCell (by simp) _), Lib.hid (B06.out.far (by simp) _), Lib.hid ?_, HR1⟩
          have h := Blk.tblSet B16.out x.toNat (y + 1) hxl
          have e : upd (eqN (rows.take k)) x.toNat (y + 1) = eqN (rows.take (k + 1)) := by
            funext j
            rw [take_snoc' Hr.out, eqN_snoc]
            unfold upd
            rw [Hfx.out]
            by_cases h : j = fst r
            · rw [if_pos h, if_pos h, Hy.out, Hfx.out, h]
            · rw [if_neg h, if_neg h]
          rw [e] at h
          exact h
        case measure => simp [intOf]; omega
      · obtain ⟨j, hj⟩ : ∃ j, k = j + 1 := ⟨k - 1, by omega⟩
        obtain ⟨q, hq⟩ : ∃ q, rows[j]? = some q := ⟨_, List.getElem?_eq_getElem (by have := HN.out; omega)⟩
        have hnext : risesB (sumsOf (rows.take (k + 1))) = (risesB (sumsOf (rows.take k)) && decide (q.sum < r.sum)) := by
          have hr := Hr.out
          rw [hj] at hr ⊢
          exact rises_next hq hr
        obtain ⟨cv, hcv⟩ : ∃ cv, cv = Lib.compareBytes (nrm q.sum) (nrm r.sum) := ⟨_, rfl⟩
        obtain ⟨S, hS⟩ : ∃ S, S = sumA q.sum := ⟨_, rfl⟩
        obtain ⟨T, hT⟩ : ∃ T, T = sumA r.sum := ⟨_, rfl⟩
        have HC : Hid (∀ W : World, Calls Tryd.prog 41 #[.agg S, .agg T] W fun e w' => e = .returned (.int .i64 cv) ∧ ∃ q os', w' = grow (W.drewN q) os') := Lib.hid fun W => by
          rw [hS, hT, hcv]; exact compare_any q.sum r.sum W
        have HAS : Hid (Agg Tryd.prog 45 S.size) := Lib.hid (by rw [hS, sumA_size]; exact aggSum)
        have HAT : Hid (Agg Tryd.prog 45 T.size) := Lib.hid (by rw [hT, sumA_size]; exact aggSum)
        have HLS : Hid (∀ W, Below wb.drew.heap.size wb.drew W → At W g (o + j * 33) S) := Lib.hid fun W hW => by
          rw [hS]
          exact ((HAs.out j q hq).below Lb.out Hgw.out).below (Below.mono (w := wb) ⟨hW.os, hW.tape, hW.output, hW.size, hW.block⟩ (Nat.le_refl _)) (Nat.lt_trans Hgw.out Hszb.out)
        have HLT : Hid (∀ W, Below wb.drew.heap.size wb.drew W → At W wr.heap.size 0 T) := Lib.hid fun W hW => by
          rw [hT]
          have h := Bb.out
          rw [HF.out] at h
          exact (Blk.rowSum h).below (Below.mono (w := wb) ⟨hW.os, hW.tape, hW.output, hW.size, hW.block⟩ (Nat.le_refl _)) Hszb.out
        have Hcv := Lib.hid hcv; have Hnext := Lib.hid hnext
        have d0 : decide ((0 : Int) < (k : Int)) = true := decide_eq_true (by omega)
        have e1 : IntKind.i64.wrap ((k : Int) - 1) = (j : Int) := by rw [IntWalk.i64_in _ (by omega)]; omega
        have hjN : j < N := by omega
        have Hq := Lib.hid hq
        have Hj := Lib.hid hj
        clear hq hcv hS hT hnext hj hk0
        refine AnyB.start (by kernel_rfl) ?_
        refine AnyB.take 0 (.int .i64 (k : Int)) rfl (by kernel_rfl) (by kernel_rfl) (by kernel_rfl) (fun _ _ _ h => h) (by kernel_rfl) (fun W hW => by kernel_rfl) ?_
        refine AnyB.take 1 (.bool true) rfl (by kernel_rfl) (by kernel_rfl) (by kernel_rfl) (fun _ _ _ h => h) (by kernel_rfl) (fun W hW => y_bin (x := .int .i64 (k : Int)) (y := .int .i64 0) rfl (by kernel_rfl) (by kernel_rfl) (by kernel_rfl) (gt_i64 W _ _ _ d0)) ?_
        refine AnyB.take 2 (.bool true) rfl (by kernel_rfl) (by kernel_rfl) (by kernel_rfl) (fun _ _ _ h => h) (by kernel_rfl) (fun W hW => by kernel_rfl) ?_
        refine AnyB.take 3 (.slice (some ⟨g, o, none⟩) N c) rfl (by kernel_rfl) (by kernel_rfl) (by kernel_rfl) (fun _ _ _ h => h) (by kernel_rfl) (fun W hW => by kernel_rfl) ?_
        refine AnyB.take 4 (.int .i64 (k : Int)) rfl (by kernel_rfl) (by kernel_rfl) (by kernel_rfl) (fun _ _ _ h => h) (by kernel_rfl) (fun W hW => by kernel_rfl) ?_
        refine AnyB.take 5 (.int .i64 (j : Int)) rfl (by kernel_rfl) (by kernel_rfl) (by kernel_rfl) (fun _ _ _ h => h) (by kernel_rfl) (fun W hW => y_bin (x := .int .i64 (k : Int)) (y := .int .i64 1) rfl (by kernel_rfl) (by kernel_rfl) (by kernel_rfl) (sub_i64 W _ _ _ e1)) ?_
        refine AnyB.take 6 (.pointer (some ⟨g, o + j * 33, none⟩)) rfl (by kernel_rfl) (by kernel_rfl) (by kernel_rfl) (fun _ _ _ h => h) (by kernel_rfl) (fun W hW => y_index (sv := .slice (some ⟨g, o, none⟩) N c) (iv := .int .i64 (j : Int)) rfl (by kernel_rfl) (by kernel_rfl) (at_row W g o N c j hjN)) ?_
        refine AnyB.take 7 (.pointer (some ⟨g, o + j * 33, none⟩)) rfl (by kernel_rfl) (by kernel_rfl) (by kernel_rfl) (fun _ _ _ h => h) (by kernel_rfl) (fun W hW => by kernel_rfl) ?_
        refine AnyB.take 8 (.agg S) rfl (by kernel_rfl) (by kernel_rfl) (by kernel_rfl) (fun _ _ _ h => h) (by kernel_rfl) (fun W hW => y_load (sv := .pointer (some ⟨g, o + j * 33, none⟩)) rfl (by kernel_rfl) (loadAt_at HAS.out (HLS.out W hW))) ?_
        refine AnyB.take 9 (.pointer (some ⟨wr.heap.size, 0, none⟩)) rfl (by kernel_rfl) (by kernel_rfl) (by kernel_rfl) (fun _ _ _ h => h) (by kernel_rfl) (fun W hW => by kernel_rfl) ?_
        refine AnyB.take 10 (.agg T) rfl (by kernel_rfl) (by kernel_rfl) (by kernel_rfl) (fun _ _ _ h => h) (by kernel_rfl) (fun W hW => y_load (sv := .pointer (some ⟨wr.heap.size, 0, none⟩)) rfl (by kernel_rfl) (loadAt_at HAT.out (HLT.out W hW))) ?_
        refine AnyB.call 11 41 #[.agg S, .agg T] (by kernel_rfl) rfl (by kernel_rfl) (by kernel_rfl) ?_
        refine (HC.out _).mono ?_
        rintro e w5 ⟨rfl, q5, os5, hw5⟩
        have l5 : Below wb.heap.size wb w5 := by rw [hw5]; have h := below_grow wb.drew q5 os5; exact ⟨h.os, h.tape, h.output, h.size, h.block⟩
        have L6 := Lib.hid l5
        refine ⟨.int .i64 cv, rfl, ⟨l5.os, l5.tape, l5.output, l5.size, l5.block⟩, ?_⟩
        clear hw5 l5
        by_cases hqr : q.sum < r.sum
        · have d1 : decide ((0 : Int) ≤ cv) = false := decide_eq_false (by
            have h := Hcv.out
            rw [nrm_eq (HFit.out q (List.mem_of_getElem? Hq.out)), nrm_eq (HFit.out r (List.mem_of_getElem? Hr.out))] at h
            have := (cmp_lt q.sum r.sum).2 hqr
            omega)
          have HR1 : Hid (risesB (sumsOf (rows.take (k + 1))) = true) := Lib.hid (by rw [Hnext.out, hR.out, decide_eq_true hqr]; rfl)
          clear hqr
          refine AnyB.take 12 (.bool false) rfl (by kernel_rfl) (by kernel_rfl) (by kernel_rfl) (fun _ _ _ h => h) (by kernel_rfl) (fun W hW => y_bin (x := .int .i64 cv) (y := .int .i64 0) rfl (by kernel_rfl) (by kernel_rfl) (by kernel_rfl) (ge_i64 W _ _ _ d1)) ?_
          refine AnyB.take 13 (.bool false) rfl (by kernel_rfl) (by kernel_rfl) (by kernel_rfl) (fun _ _ _ h => h) (by kernel_rfl) (fun W hW => by kernel_rfl) ?_
          refine AnyB.done _ (by kernel_rfl) ?_
          go_simp
          obtain ⟨w6, hw6⟩ : ∃ w6, w6 = w5 := ⟨_, rfl⟩
          rw [← hw6] at L6 ⊢
          clear hw6 d0 d1 e1 hjN
          obtain ⟨x, hx⟩ : ∃ x, x = gd r.sum 0 := ⟨_, rfl⟩
          have c0 : w6.cell? ⟨wr.heap.size, 0, none⟩ = some (.int .u8 (x.toNat : Int)) := by
            rw [L6.out.cell (p := ⟨wr.heap.size, 0, none⟩) Hszb.out, Bb.out.cell, HF.out, rowA_sum _ _ (by omega), sumA_get _ _ (by omega), hx]
          have b16 : Blk w6 (w.heap.size + 1) 52 (tblA (eqN (rows.take k)) (.slice (some ⟨g, o, none⟩) N c)) := (hb1.out.below Lb.out hb1.out.lt).below L6.out (Nat.lt_trans hb1.out.lt Hszb.out)
          have b06 : Blk w6 w.heap.size 52 zt := (hb0.out.below Lb.out hb0.out.lt).below L6.out (Nat.lt_trans hb0.out.lt Hszb.out)
          have lw6 : Below w.heap.size w w6 := (hB.out.trans (Lb.out.mono hB.out.size)).trans (L6.out.mono (Nat.le_trans hB.out.size (Nat.le_of_lt Hszb.out)))
          have hfx := Hfst.out x hx
          obtain ⟨y, hy⟩ : ∃ y, y = eqN (rows.take k) x.toNat := ⟨_, rfl⟩
          have hy5 : y ≤ 512 := by rw [hy]; exact Nat.le_trans (eqN_len _ _) (Nat.le_trans take_len (by omega))
          have hxl := x.toNat_lt
          have c1 : w6.cell? ⟨w.heap.size + 1, x.toNat, none⟩ = some (.int .i64 (y : Int)) := by rw [b16.cell, tblA_int _ _ _ hxl, hy]
          have z1 : w6.frozen? ⟨w.heap.size + 1, x.toNat, none⟩ = false := b16.frozen _
          have hxi : (x.toNat : Int) < 256 := by omega
          have g1 : IntKind.i64.wrap ((y : Int) + 1) = (y : Int) + 1 := IntWalk.i64_in _ (by omega)
          have B16 := Lib.hid b16; have B06 := Lib.hid b06; have LW6 := Lib.hid lw6; have Hy := Lib.hid hy; have Hfx := Lib.hid hfx
          have hlt6 : w.heap.size + 1 < w6.heap.size := b16.lt
          clear hx hfx hy b16 b06 lw6
          go_wp2
          go_roundw
          case rel =>
            refine ⟨k + 1, by omega, by go_num, Lib.hid (LW6.out.setCell (by simp) _), Lib.hid (B06.out.far (by simp) _), Lib.hid ?_, HR1⟩
            have h := Blk.tblSet B16.out x.toNat (y + 1) hxl
            have e : upd (eqN (rows.take k)) x.toNat (y + 1) = eqN (rows.take (k + 1)) := by
              funext j
              rw [take_snoc' Hr.out, eqN_snoc]
              unfold upd
              rw [Hfx.out]
              by_cases h : j = fst r
              · rw [if_pos h, if_pos h, Hy.out, Hfx.out, h]
              · rw [if_neg h, if_neg h]
            rw [e] at h
            exact h
          case measure => simp [intOf]; omega
        · have d1 : decide ((0 : Int) ≤ cv) = true := decide_eq_true (by
            have h := Hcv.out
            rw [nrm_eq (HFit.out q (List.mem_of_getElem? Hq.out)), nrm_eq (HFit.out r (List.mem_of_getElem? Hr.out))] at h
            have := mt (cmp_lt q.sum r.sum).1 hqr
            omega)
          have HR0 : Hid (risesB (sumsOf rows) = false) := Lib.hid (rises_short (k := k + 1) (by rw [Hnext.out, decide_eq_false hqr, Bool.and_false]))
          clear hqr
          refine AnyB.take 12 (.bool true) rfl (by kernel_rfl) (by kernel_rfl) (by kernel_rfl) (fun _ _ _ h => h) (by kernel_rfl) (fun W hW => y_bin (x := .int .i64 cv) (y := .int .i64 0) rfl (by kernel_rfl) (by kernel_rfl) (by kernel_rfl) (ge_i64 W _ _ _ d1)) ?_
          refine AnyB.take 13 (.bool true) rfl (by kernel_rfl) (by kernel_rfl) (by kernel_rfl) (fun _ _ _ h => h) (by kernel_rfl) (fun W hW => by kernel_rfl) ?_
          refine AnyB.done _ (by kernel_rfl) ?_
          go_simp
          have b06 : Blk w5 w.heap.size 52 zt := (hb0.out.below Lb.out hb0.out.lt).below L6.out (Nat.lt_trans hb0.out.lt Hszb.out)
          have lw6 : Below w.heap.size w w5 := (hB.out.trans (Lb.out.mono hB.out.size)).trans (L6.out.mono (Nat.le_trans hB.out.size (Nat.le_of_lt Hszb.out)))
          have B06 := Lib.hid b06; have LW6 := Lib.hid lw6
          clear b06 lw6 d0 d1 e1 hjN
          go_wp2_with (refine wpList_store_row rfl 52 (.tmp 2) (.tmp 31) rfl w.heap.size zt rfl rfl 52 zt B06.out (by rw [HS2.out]; kernel_rfl) rfl HO2.out ?_; rw [setRow_self _ _ _ _ _ B06.out])
          exact bodyPost_ret (v := .tuple #[.agg zt, .bool false]) (results_two rfl _ _ w.heap.size 52 zt (0, 0) _ rfl B06.out Tryd.underlying52 rfl (by rw [HS2.out]; kernel_rfl) rfl) rfl ⟨LW6.out, .inr ⟨HR0.out, by rw [HZt.out]⟩⟩
    · have hkN : k = N := by omega
      subst hkN
      have HRt : Hid (risesB (sumsOf rows) = true) := Lib.hid (by have h := hR.out; rwa [HN.out, List.take_length] at h)
      have H1 : Hid (Blk wr (w.heap.size + 1) 52 (tblA (eqN rows) (.slice A k c))) := Lib.hid (by have h := hb1.out; rwa [HN.out, List.take_length, ← HN.out] at h)
      have H0 := Lib.hid hb0.out; have HL := Lib.hid hB.out
      clear hB hb0 hb1 hR
      go_wp2
      go_loopw [7, 42] (fun _ i wr => ∃ (m : Nat) (f : Nat → Nat), m ≤ 255 ∧ i = .int .i64 m ∧ Hid (Below w.heap.size w wr) ∧ Hid (Blk wr w.heap.size 52 zt) ∧ Hid (Blk wr (w.heap.size + 1) 52 (tblA f (.slice A k c))) ∧ Hid (∀ j, j < 256 → f j = if j ≤ m then upToN rows j else eqN rows j)) (fun _ i _ => 255 - (intOf i).toNat)
      case atStart => exact ⟨0, eqN rows, by omega, rfl, HL, H0, H1, Lib.hid fun j _ => by
        by_cases h : j ≤ 0
        · rw [if_pos h]
          have : j = 0 := by omega
          subst this; exact (upToN_zero rows).symm
        · rw [if_neg h]⟩
      case round =>
        clear HL H0 H1
        obtain ⟨m, f, hm, rfl, hB, hb0, hb1, hf⟩ := hrel
        by_cases hlt2 : m < 255
        · obtain ⟨a, ha⟩ : ∃ a, a = f (m + 1) := ⟨_, rfl⟩
          obtain ⟨b, hb⟩ : ∃ b, b = f m := ⟨_, rfl⟩
          have c1 : wr.cell? ⟨w.heap.size + 1, m + 1, none⟩ = some (.int .i64 (a : Int)) := by rw [hb1.out.cell, tblA_int _ _ _ (by omega), ha]
          have c0 : wr.cell? ⟨w.heap.size + 1, m, none⟩ = some (.int .i64 (b : Int)) := by rw [hb1.out.cell, tblA_int _ _ _ (by omega), hb]
          have z1 : wr.frozen? ⟨w.heap.size + 1, m + 1, none⟩ = false := hb1.out.frozen _
          have hea := hf.out (m + 1) (by omega)
          have heb := hf.out m (by omega)
          rw [if_neg (by omega), ← ha] at hea
          rw [if_pos (Nat.le_refl _), ← hb] at heb
          have ha5 : a ≤ 512 := by rw [hea]; have := eqN_len rows (m + 1); have := HN.out; omega
          have hb5 : b ≤ 512 := by rw [heb]; have := upToN_len rows m; have := HN.out; omega
          have Hnew : Hid (a + b = upToN rows (m + 1)) := Lib.hid (by rw [hea, heb, upToN_succ]; omega)
          have g1 : IntKind.i64.wrap ((m : Int) + 1) = (m : Int) + 1 := IntWalk.i64_in _ (by omega)
          have g2 : IntKind.i64.wrap ((a : Int) + (b : Int)) = (a : Int) + (b : Int) := IntWalk.i64_in _ (by omega)
          have e1 : ((m : Int) + 1).toNat = m + 1 := by omega
          have i1 : (m : Int) + 1 < 256 := by omega
          have i0 : 0 ≤ (m : Int) + 1 := by omega
          have hlt9 : w.heap.size + 1 < wr.heap.size := hb1.out.lt
          clear ha hb hea heb
          go_wp2
          go_region
          all_goals
            go_wp2
            go_roundw
            case rel =>
              refine ⟨m + 1, upd f (m + 1) (a + b), by omega, by go_num, Lib.hid (hB.out.setCell (by simp) _).drew, Lib.hid (hb0.out.far (by simp) _), Lib.hid ?_, Lib.hid fun j hj => ?_⟩
              · have h := Blk.tblSet hb1.out (m + 1) (a + b) (by omega)
                rw [Int.natCast_add] at h
                exact h
              · by_cases h : j = m + 1
                · subst h; rw [upd_same, if_pos (Nat.le_refl _), Hnew.out]
                · rw [upd_other _ _ _ _ h, hf.out j hj]
                  by_cases h2 : j ≤ m
                  · rw [if_pos h2, if_pos (by omega)]
                  · rw [if_neg h2, if_neg (by omega)]
            case measure => simp [intOf]; omega
        · have hm5 : m = 255 := by omega
          have hT : Hid (tblA f (.slice A k c) = tblA (upToN rows) (.slice A k c)) := Lib.hid (tblA_congr _ fun j hj => by rw [hf.out j hj, if_pos (by omega)])
          obtain ⟨T, hTT⟩ : ∃ T, T = tblA f (.slice A k c) := ⟨_, rfl⟩
          have hTs : T.size = 257 := by rw [hTT, tblA_size]
          have hT1 : T.all (·.oneCell') = true := by rw [hTT]; exact tblA_one _ _ _ _
          have h1 := hb1.out
          rw [← hTT] at h1 hT
          have H1 := Lib.hid h1; have HTs := Lib.hid hTs; have HT1 := Lib.hid hT1; have HT := hT
          have hset : Blk (wr.setRow w.heap.size T) w.heap.size 52 T := setRow_heap wr _ _ _ _ _ hb0.out
          have lset : Below w.heap.size w (wr.setRow w.heap.size T) := below_setRow hB.out (Nat.le_refl _) _
          have Hset := Lib.hid hset; have Lset := Lib.hid lset
          clear hTT hTs hT1 h1 hset lset
          go_wp2_with (first
            | (refine wpList_load_row rfl 52 (.tmp 4) rfl (w.heap.size + 1) rfl 52 T (0, 0) _ H1.out Tryd.underlying52 rfl (by rw [HTs.out]; kernel_rfl) ?_)
            | (refine wpList_store_row rfl 52 (.tmp 2) (.tmp 58) rfl w.heap.size T rfl rfl 52 zt hb0.out (by rw [HTs.out]; kernel_rfl) (by rw [HS2.out, HTs.out]) HT1.out ?_))
          exact bodyPost_ret (v := .tuple #[.agg T, .bool true]) (results_two rfl _ _ w.heap.size 52 T (0, 0) _ rfl Hset.out Tryd.underlying52 rfl (by rw [HTs.out]; kernel_rfl) rfl) rfl ⟨Lset.out, .inl ⟨HRt.out, by rw [HT.out]⟩⟩
end Go.Proofs.YtdjmcehoaneekaaDoor.Ix
