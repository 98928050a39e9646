/-
  The index: a sum's place, sought by halves.
-/
import Derived.Test.YtdjmcehoaneekaaDoorIRdr
import Derived.Test.YtdjmcehoaneekaaDoorITbl
namespace Go.Proofs.YtdjmcehoaneekaaDoor.Ix
open Go.Proofs.YtdjmcehoaneekaaDoor
open Go Go.RowKit Go.Sort

theorem sumA_cells {s : Bs} (h : s.length = 32) : sumA s = (s.map Extern.Stop.cell).toArray := by
  apply Array.ext_getElem?
  intro i
  by_cases hi : i < 32
  · rw [sumA_get s i hi, List.getElem?_toArray, List.getElem?_map, List.getElem?_eq_getElem (by omega)]
    unfold gd
    rw [List.getD_eq_getElem?_getD, List.getElem?_eq_getElem (by omega)]; rfl
  · rw [Array.getElem?_eq_none (by rw [sumA_size]; omega), List.getElem?_toArray, List.getElem?_eq_none (by rw [List.length_map]; omega)]
theorem eql_sumA {a b : Bs} (ha : a.length = 32) (hb : b.length = 32) (w : World) : (binOp .eql 45 (.agg (sumA a)) (.agg (sumA b))).run Tryd.prog w = .ok (.bool (a == b)) w := by
  rw [sumA_cells ha, sumA_cells hb]
  exact run_eql_bytes w 45 5 32 Tryd.underlying45 Tryd.underlying5 (fun _ => by kernel_rfl) a b ha hb
/-- What is told of a place. -/
def findV : Option Nat → Value
  | some p => .tuple #[.int .i64 (p : Int), .bool true]
  | none => .tuple #[.int .i64 0, .bool false]
def FndP (o : Option Nat) (w : World) (e : Ending) (w' : World) : Prop := e = .returned (findV o) ∧ Below w.heap.size w w'
set_option maxRecDepth 100000 in
set_option maxHeartbeats 4000000 in
theorem place_any {w : World} {v : Value} {rows : List Rw} {s : Bs} (hv : RowsR w v rows) (hfit : Fit rows) (hri : (sumsOf rows).Pairwise (· < ·)) (hl : rows.length ≤ 512) (hs : s.length = 32) :
    Calls Tryd.prog 32 #[.agg (tblA (upToN rows) v), .agg (sumA s)] w (FndP (findI rows s) w) := by
  obtain ⟨A, c, rfl⟩ := hv.shape
  have HV := Lib.hid hv; have HFit := Lib.hid hfit; have HRi := Lib.hid hri; have Hs := Lib.hid hs
  obtain ⟨N, hN⟩ : ∃ N, N = rows.length := ⟨_, rfl⟩
  have hN5 : N ≤ 512 := by omega
  rw [← hN]
  have HN := Lib.hid hN
  obtain ⟨T, hT⟩ : ∃ T, T = tblA (upToN rows) (.slice A N c) := ⟨_, rfl⟩
  obtain ⟨S, hS⟩ : ∃ S, S = sumA s := ⟨_, rfl⟩
  rw [← hT, ← hS]
  have HAS : Hid (Agg Tryd.prog 45 S.size) := Lib.hid (by rw [hS, sumA_size]; exact aggSum)
  obtain ⟨w1, hw1⟩ : ∃ w1, w1 = (w.alloc (Obj.cells T 52)).alloc (Obj.cells S 45) := ⟨_, rfl⟩
  have bT : Blk w1 w.heap.size 52 T := by rw [hw1]; exact (Blk.new w _ _).alloc _
  have bS : Blk w1 (w.heap.size + 1) 45 S := by
    rw [hw1]
    have := Blk.new (w.alloc (Obj.cells T 52)) 45 S
    simpa using this
  have l1 : Below w.heap.size w w1 := by rw [hw1]; exact (below_new w _).alloc (by simp) _
  obtain ⟨x, hx⟩ : ∃ x, x = gd s 0 := ⟨_, rfl⟩
  have hxl := x.toNat_lt
  have hxi : (x.toNat : Int) < 256 := by omega
  obtain ⟨b0, hb0⟩ : ∃ b, b = upToN rows x.toNat := ⟨_, rfl⟩
  have hb5 : b0 ≤ 512 := by rw [hb0]; have := upToN_len rows x.toNat; omega
  have cx : ∀ W, Below w1.heap.size w1 W → W.cell? ⟨w.heap.size + 1, 0, none⟩ = some (.int .u8 (x.toNat : Int)) := fun W hW => by
    rw [hW.cell (p := ⟨w.heap.size + 1, 0, none⟩) bS.lt, bS.cell, hS, sumA_get _ _ (by omega), hx]
  have cb : ∀ W, Below w1.heap.size w1 W → ∀ i, i < 256 → W.cell? ⟨w.heap.size, i, none⟩ = some (.int .i64 (upToN rows i : Int)) := fun W hW i hi => by
    rw [hW.cell (p := ⟨w.heap.size, i, none⟩) bT.lt, bT.cell, hT, tblA_int _ _ _ hi]
  have cr : ∀ W, Below w1.heap.size w1 W → W.cell? ⟨w.heap.size, 256, none⟩ = some (.slice A N c) := fun W hW => by
    rw [hW.cell (p := ⟨w.heap.size, 256, none⟩) bT.lt, bT.cell, hT, tblA_rows]
  have hdr : Below w1.heap.size w1 w1.drew := ⟨rfl, rfl, rfl, Nat.le_refl _, fun _ _ => rfl⟩
  have HX := Lib.hid hx; have HB0 := Lib.hid hb0; have CX := Lib.hid cx; have CB := Lib.hid cb; have CR := Lib.hid cr; have L1 := Lib.hid l1; have BS := Lib.hid bS; have HS := Lib.hid hS
  obtain ⟨zr, hzr0⟩ : ∃ z, z = zRow := ⟨_, rfl⟩
  have hzr := zeroRow.1
  rw [← hzr0] at hzr
  have hs1 : zr.size = 33 := by rw [hzr0, zRow_size]
  have HS1 := Lib.hid hs1
  have HW1 := Lib.hid hw1
  have q1 := cx w1.drew hdr
  have q2 := cb w1.drew hdr x.toNat hxl
  rw [← hb0] at q2
  clear hv hfit hri hl hs hN hT hS hw1 bT bS l1 hx hb0 cx cb cr hdr hzr0 hs1
  go_enter Tryd.func32, Tryd.ntmps32
  go_upto_region 1 with fail
  rw [← HW1.out]
  go_region
  have HWd : Hid (Below w1.heap.size w1 w1.drew) := Lib.hid ⟨rfl, rfl, rfl, Nat.le_refl _, fun _ _ => rfl⟩
  by_cases hx0 : x.toNat = 0
  · have d0 : decide ((0 : Int) < (x.toNat : Int)) = false := decide_eq_false (by omega)
    have d0' : decide (0 < x.toNat) = false := decide_eq_false (by omega)
    have HSk : Hid (Seek rows s 0 b0) := Lib.hid (by rw [HB0.out]; exact Seek.start HFit.out HRi.out Hs.out (by rw [HX.out]; rfl) 0 (.inl ⟨hx0, rfl⟩))
    clear hx0
    go_wp2
    go_loopw [6, 7, 8, 9] (fun a b _ _ wr => ∃ i j : Nat, a = .int .i64 i ∧ b = .int .i64 j ∧ Hid (Seek rows s i j) ∧ Hid (Below w1.heap.size w1 wr)) (fun a b _ _ _ => (intOf b - intOf a).toNat)
    case atStart => exact ⟨0, b0, rfl, rfl, HSk, HWd⟩
    case round =>
      clear HSk HWd
      obtain ⟨i, j, rfl, rfl, hsk, hB⟩ := hrel
      have hle := hsk.out.le
      have hNo := HN.out
      have hi5 : i ≤ 512 := by omega
      have hj5 : j ≤ 512 := by omega
      by_cases hlt : i < j
      · obtain ⟨g, o, c', e, _, hg⟩ := HV.out.pos (by omega)
        cases e
        obtain ⟨m, hm⟩ : ∃ m, m = (i + j) / 2 := ⟨_, rfl⟩
        have hmi : i ≤ m := by omega
        have hmj : m < j := by omega
        have hmN : m < N := by omega
        have e1 : IntKind.i64.wrap ((i : Int) + (j : Int)) = (i : Int) + (j : Int) := IntWalk.i64_in _ (by omega)
        have e2 : ((i : Int) + (j : Int)) / 2 = (m : Int) := by omega
        have e2' : ((i : Int) + (j : Int)).tdiv 2 = (m : Int) := by rw [Int.tdiv_eq_ediv_of_nonneg (by omega)]; omega
        have e3 : 0 ≤ (i : Int) + (j : Int) := by omega
        have e4 : IntKind.i64.wrap ((m : Int) + 1) = (m : Int) + 1 := IntWalk.i64_in _ (by omega)
        obtain ⟨r, hr⟩ : ∃ r, rows[m]? = some r := ⟨_, List.getElem?_eq_getElem (by omega)⟩
        have hBw : Below w.heap.size w wr := L1.out.trans (hB.out.mono L1.out.size)
        have hat := (HV.out.at m r hr).below hBw hg
        have h32 := HFit.out r (List.mem_of_getElem? hr)
        obtain ⟨F, hF⟩ : ∃ F, F = rowA r := ⟨_, rfl⟩
        obtain ⟨S2, hS2⟩ : ∃ S, S = sumA r.sum := ⟨_, rfl⟩
        have hFs : F.size = 33 := by rw [hF, rowA_size]
        have hF1 : F.all (·.oneCell') = true := by rw [hF]; exact rowA_one r
        rw [← hF] at hat
        have HAt := Lib.hid hat; have HFs := Lib.hid hFs; have HF1 := Lib.hid hF1; have HAg : Hid (Agg Tryd.prog 48 F.size) := Lib.hid (by rw [hFs]; exact aggRow)
        obtain ⟨wa, hwa⟩ : ∃ wa, wa = wr.alloc (Obj.cells zr 48) := ⟨_, rfl⟩
        have ba : Blk wa wr.heap.size 48 zr := by rw [hwa]; exact Blk.new wr _ _
        have la : Below wr.heap.size wr wa := by rw [hwa]; exact below_new wr _
        obtain ⟨wb, hwb⟩ : ∃ wb, wb = wa.setRow wr.heap.size F := ⟨_, rfl⟩
        have bb : Blk wb wr.heap.size 48 F := by rw [hwb]; exact setRow_heap wa _ _ _ _ _ ba
        have lb : Below wr.heap.size wr wb := by rw [hwb]; exact below_setRow la (Nat.le_refl _) _
        have lwb : Below w1.heap.size w1 wb := hB.out.trans (lb.mono hB.out.size)
        have AS2 : Hid (At wb wr.heap.size 0 S2) := Lib.hid (by rw [hS2]; rw [hF] at bb; exact Blk.rowSum bb)
        have HAg2 : Hid (Agg Tryd.prog 45 S2.size) := Lib.hid (by rw [hS2, sumA_size]; exact aggSum)
        have AS : Hid (At wb (w.heap.size + 1) 0 S) := Lib.hid (Blk.at (BS.out.below lwb BS.out.lt))
        have cp : wb.cell? ⟨wr.heap.size, 32, none⟩ = some (.int .i64 (r.place : Int)) := by rw [hF] at bb; exact Blk.rowPlace bb
        have c256 := CR.out wr hB.out
        have heq : ∀ W, (binOp .eql 45 (.agg S2) (.agg S)).run Tryd.prog W = .ok (.bool (r.sum == s)) W := fun W => by rw [hS2, HS.out]; exact eql_sumA h32 Hs.out W
        have hcmp : ∀ W, Calls Tryd.prog 41 #[.agg S2, .agg S] W fun e w' => e = .returned (.int .i64 (Lib.compareBytes r.sum s)) ∧ ∃ q os', w' = grow (W.drewN q) os' := fun W => by
          have h := compare_any r.sum s W
          rw [nrm_eq h32, nrm_eq Hs.out] at h
          rw [hS2, HS.out]; exact h
        have HWa := Lib.hid hwa; have HWb := Lib.hid hwb; have Ba := Lib.hid ba; have LWb := Lib.hid lwb; have HC := Lib.hid hcmp; have Hr := Lib.hid hr
        obtain ⟨p, hp⟩ : ∃ p, p = r.place := ⟨_, rfl⟩
        rw [← hp] at cp
        have Hp := Lib.hid hp
        clear hat hF hS2 hFs hF1 hwa ba la hwb bb lb lwb hm hr hBw h32 hcmp hp hNo hle
        cases hbe : (r.sum == s) with
        | true =>
          have hes : r.sum = s := by simpa using hbe
          have HYes : Hid (findI rows s = some p) := Lib.hid (by rw [← hes, Hp.out]; exact findI_some HRi.out (List.mem_of_getElem? Hr.out))
          rw [hbe] at heq
          have HEq := Lib.hid heq
          clear heq hbe hes
          have heq := HEq.out
          go_wp2_with (first
            | (refine wpList_load_at rfl 48 (.tmp 34) rfl g (o + m * 33) rfl F HAg.out HAt.out ?_)
            | (rw [← HWa.out]; refine wpList_store_row rfl 48 (.tmp 9) (.tmp 35) rfl wr.heap.size F rfl rfl 48 zr Ba.out (by rw [HFs.out]; kernel_rfl) (by rw [HFs.out, HS1.out]) HF1.out ?_; rw [← HWb.out])
            | (refine wpList_load_at rfl 45 (.tmp 36) rfl wr.heap.size 0 rfl S2 HAg2.out AS2.out ?_)
            | (refine wpList_load_at rfl 45 (.tmp 3) rfl (w.heap.size + 1) 0 rfl S HAS.out AS.out ?_))
          go_ret2
          exact ⟨by rw [HYes.out]; rfl, L1.out.trans (LWb.out.mono L1.out.size)⟩
        | false =>
          have hne : ¬ r.sum = s := by simpa using hbe
          rw [hbe] at heq
          by_cases hls : r.sum < s
          · have HSk2 : Hid (Seek rows s (m + 1) j) := Lib.hid (hsk.out.up HRi.out Hr.out hls)
            have d1 : Lib.compareBytes r.sum s < 0 := (cmp_lt _ _).2 hls
            obtain ⟨cv, hcv⟩ : ∃ cv, cv = Lib.compareBytes r.sum s := ⟨_, rfl⟩
            rw [← hcv] at d1 HC
            clear hbe hne hls hcv
            go_wp2_with (first
              | (refine wpList_load_at rfl 48 (.tmp 34) rfl g (o + m * 33) rfl F HAg.out HAt.out ?_)
              | (rw [← HWa.out]; refine wpList_store_row rfl 48 (.tmp 9) (.tmp 35) rfl wr.heap.size F rfl rfl 48 zr Ba.out (by rw [HFs.out]; kernel_rfl) (by rw [HFs.out, HS1.out]) HF1.out ?_; rw [← HWb.out])
              | (refine wpList_load_at rfl 45 (.tmp 36) rfl wr.heap.size 0 rfl S2 HAg2.out AS2.out ?_)
              | (refine wpList_load_at rfl 45 (.tmp 3) rfl (w.heap.size + 1) 0 rfl S HAS.out AS.out ?_)
              | (refine wpList_load_at rfl 45 (.tmp 42) rfl wr.heap.size 0 rfl S2 HAg2.out AS2.out ?_)
              | (refine wpList_load_at rfl 45 (.tmp 3) rfl (w.heap.size + 1) 0 rfl S HAS.out AS.out ?_))
            refine (HC.out wb).mono ?_
            rintro e w5 ⟨rfl, q, os', rfl⟩
            have LN : Hid (Below w1.heap.size w1 (grow (wb.drewN q) os')) := Lib.hid (LWb.out.trans ((below_grow wb q os').mono LWb.out.size))
            go_wp2
            go_roundw
            case rel => exact ⟨m + 1, j, by go_num, rfl, HSk2, LN⟩
            case measure => simp [intOf]; omega
          · have hgt : s < r.sum := lt_total_bs hls hne
            have HSk2 : Hid (Seek rows s i m) := Lib.hid (hsk.out.down HRi.out Hr.out hgt)
            have d1 : decide (Lib.compareBytes r.sum s < 0) = false := decide_eq_false (mt (cmp_lt r.sum s).1 hls)
            have d2 : ¬ Lib.compareBytes r.sum s < 0 := mt (cmp_lt r.sum s).1 hls
            obtain ⟨cv, hcv⟩ : ∃ cv, cv = Lib.compareBytes r.sum s := ⟨_, rfl⟩
            rw [← hcv] at d1 d2 HC
            clear hbe hne hls hcv hgt
            go_wp2_with (first
              | (refine wpList_load_at rfl 48 (.tmp 34) rfl g (o + m * 33) rfl F HAg.out HAt.out ?_)
              | (rw [← HWa.out]; refine wpList_store_row rfl 48 (.tmp 9) (.tmp 35) rfl wr.heap.size F rfl rfl 48 zr Ba.out (by rw [HFs.out]; kernel_rfl) (by rw [HFs.out, HS1.out]) HF1.out ?_; rw [← HWb.out])
              | (refine wpList_load_at rfl 45 (.tmp 36) rfl wr.heap.size 0 rfl S2 HAg2.out AS2.out ?_)
              | (refine wpList_load_at rfl 45 (.tmp 3) rfl (w.heap.size + 1) 0 rfl S HAS.out AS.out ?_)
              | (refine wpList_load_at rfl 45 (.tmp 42) rfl wr.heap.size 0 rfl S2 HAg2.out AS2.out ?_)
              | (refine wpList_load_at rfl 45 (.tmp 3) rfl (w.heap.size + 1) 0 rfl S HAS.out AS.out ?_))
            refine (HC.out wb).mono ?_
            rintro e w5 ⟨rfl, q, os', rfl⟩
            have LN : Hid (Below w1.heap.size w1 (grow (wb.drewN q) os')) := Lib.hid (LWb.out.trans ((below_grow wb q os').mono LWb.out.size))
            go_wp2
            go_roundw
            case rel => exact ⟨i, m, rfl, rfl, HSk2, LN⟩
            case measure => simp [intOf]; omega
      · have HNo : Hid (findI rows s = none) := Lib.hid (hsk.out.none (by omega))
        have LB := Lib.hid hB.out
        clear hsk hB hle hNo
        go_wp2
        go_ret2
        exact ⟨by rw [HNo.out]; rfl, L1.out.trans (LB.out.mono L1.out.size)⟩
  · have d0 : decide ((0 : Int) < (x.toNat : Int)) = true := decide_eq_true (by omega)
    have d0' : decide (0 < x.toNat) = true := decide_eq_true (by omega)
    have h1x : 1 ≤ (x.toNat : Int) := by omega
    have h2x : (x.toNat : Int) - 1 < 256 := by omega
    have h0x : 0 ≤ (x.toNat : Int) - 1 := by omega
    have e1x : ((x.toNat : Int) - 1).toNat = x.toNat - 1 := by omega
    obtain ⟨a0, ha0⟩ : ∃ a0, a0 = upToN rows (x.toNat - 1) := ⟨_, rfl⟩
    have q3 := CB.out w1.drew HWd.out (x.toNat - 1) (by omega)
    rw [← ha0] at q3
    have ha5 : a0 ≤ 512 := by rw [ha0]; have := upToN_len rows (x.toNat - 1); have := HN.out; omega
    have HSk : Hid (Seek rows s a0 b0) := Lib.hid (by rw [HB0.out]; exact Seek.start HFit.out HRi.out Hs.out (by rw [HX.out]; rfl) a0 (.inr ⟨by omega, ha0⟩))
    clear hx0 ha0
    go_wp2
    go_loopw [6, 7, 8, 9] (fun a b _ _ wr => ∃ i j : Nat, a = .int .i64 i ∧ b = .int .i64 j ∧ Hid (Seek rows s i j) ∧ Hid (Below w1.heap.size w1 wr)) (fun a b _ _ _ => (intOf b - intOf a).toNat)
    case atStart => exact ⟨a0, b0, rfl, rfl, HSk, HWd⟩
    case round =>
      clear HSk HWd
      obtain ⟨i, j, rfl, rfl, hsk, hB⟩ := hrel
      have hle := hsk.out.le
      have hNo := HN.out
      have hi5 : i ≤ 512 := by omega
      have hj5 : j ≤ 512 := by omega
      by_cases hlt : i < j
      · obtain ⟨g, o, c', e, _, hg⟩ := HV.out.pos (by omega)
        cases e
        obtain ⟨m, hm⟩ : ∃ m, m = (i + j) / 2 := ⟨_, rfl⟩
        have hmi : i ≤ m := by omega
        have hmj : m < j := by omega
        have hmN : m < N := by omega
        have e1 : IntKind.i64.wrap ((i : Int) + (j : Int)) = (i : Int) + (j : Int) := IntWalk.i64_in _ (by omega)
        have e2 : ((i : Int) + (j : Int)) / 2 = (m : Int) := by omega
        have e2' : ((i : Int) + (j : Int)).tdiv 2 = (m : Int) := by rw [Int.tdiv_eq_ediv_of_nonneg (by omega)]; omega
        have e3 : 0 ≤ (i : Int) + (j : Int) := by omega
        have e4 : IntKind.i64.wrap ((m : Int) + 1) = (m : Int) + 1 := IntWalk.i64_in _ (by omega)
        obtain ⟨r, hr⟩ : ∃ r, rows[m]? = some r := ⟨_, List.getElem?_eq_getElem (by omega)⟩
        have hBw : Below w.heap.size w wr := L1.out.trans (hB.out.mono L1.out.size)
        have hat := (HV.out.at m r hr).below hBw hg
        have h32 := HFit.out r (List.mem_of_getElem? hr)
        obtain ⟨F, hF⟩ : ∃ F, F = rowA r := ⟨_, rfl⟩
        obtain ⟨S2, hS2⟩ : ∃ S, S = sumA r.sum := ⟨_, rfl⟩
        have hFs : F.size = 33 := by rw [hF, rowA_size]
        have hF1 : F.all (·.oneCell') = true := by rw [hF]; exact rowA_one r
        rw [← hF] at hat
        have HAt := Lib.hid hat; have HFs := Lib.hid hFs; have HF1 := Lib.hid hF1; have HAg : Hid (Agg Tryd.prog 48 F.size) := Lib.hid (by rw [hFs]; exact aggRow)
        obtain ⟨wa, hwa⟩ : ∃ wa, wa = wr.alloc (Obj.cells zr 48) := ⟨_, rfl⟩
        have ba : Blk wa wr.heap.size 48 zr := by rw [hwa]; exact Blk.new wr _ _
        have la : Below wr.heap.size wr wa := by rw [hwa]; exact below_new wr _
        obtain ⟨wb, hwb⟩ : ∃ wb, wb = wa.setRow wr.heap.size F := ⟨_, rfl⟩
        have bb : Blk wb wr.heap.size 48 F := by rw [hwb]; exact setRow_heap wa _ _ _ _ _ ba
        have lb : Below wr.heap.size wr wb := by rw [hwb]; exact below_setRow la (Nat.le_refl _) _
        have lwb : Below w1.heap.size w1 wb := hB.out.trans (lb.mono hB.out.size)
        have AS2 : Hid (At wb wr.heap.size 0 S2) := Lib.hid (by rw [hS2]; rw [hF] at bb; exact Blk.rowSum bb)
        have HAg2 : Hid (Agg Tryd.prog 45 S2.size) := Lib.hid (by rw [hS2, sumA_size]; exact aggSum)
        have AS : Hid (At wb (w.heap.size + 1) 0 S) := Lib.hid (Blk.at (BS.out.below lwb BS.out.lt))
        have cp : wb.cell? ⟨wr.heap.size, 32, none⟩ = some (.int .i64 (r.place : Int)) := by rw [hF] at bb; exact Blk.rowPlace bb
        have c256 := CR.out wr hB.out
        have heq : ∀ W, (binOp .eql 45 (.agg S2) (.agg S)).run Tryd.prog W = .ok (.bool (r.sum == s)) W := fun W => by rw [hS2, HS.out]; exact eql_sumA h32 Hs.out W
        have hcmp : ∀ W, Calls Tryd.prog 41 #[.agg S2, .agg S] W fun e w' => e = .returned (.int .i64 (Lib.compareBytes r.sum s)) ∧ ∃ q os', w' = grow (W.drewN q) os' := fun W => by
          have h := compare_any r.sum s W
          rw [nrm_eq h32, nrm_eq Hs.out] at h
          rw [hS2, HS.out]; exact h
        have HWa := Lib.hid hwa; have HWb := Lib.hid hwb; have Ba := Lib.hid ba; have LWb := Lib.hid lwb; have HC := Lib.hid hcmp; have Hr := Lib.hid hr
        obtain ⟨p, hp⟩ : ∃ p, p = r.place := ⟨_, rfl⟩
        rw [← hp] at cp
        have Hp := Lib.hid hp
        clear hat hF hS2 hFs hF1 hwa ba la hwb bb lb lwb hm hr hBw h32 hcmp hp hNo hle
        cases hbe : (r.sum == s) with
        | true =>
          have hes : r.sum = s := by simpa using hbe
          have HYes : Hid (findI rows s = some p) := Lib.hid (by rw [← hes, Hp.out]; exact findI_some HRi.out (List.mem_of_getElem? Hr.out))
          rw [hbe] at heq
          have HEq := Lib.hid heq
          clear heq hbe hes
          have heq := HEq.out
          go_wp2_with (first
            | (refine wpList_load_at rfl 48 (.tmp 34) rfl g (o + m * 33) rfl F HAg.out HAt.out ?_)
            | (rw [← HWa.out]; refine wpList_store_row rfl 48 (.tmp 9) (.tmp 35) rfl wr.heap.size F rfl rfl 48 zr Ba.out (by rw [HFs.out]; kernel_rfl) (by rw [HFs.out, HS1.out]) HF1.out ?_; rw [← HWb.out])
            | (refine wpList_load_at rfl 45 (.tmp 36) rfl wr.heap.size 0 rfl S2 HAg2.out AS2.out ?_)
            | (refine wpList_load_at rfl 45 (.tmp 3) rfl (w.heap.size + 1) 0 rfl S HAS.out AS.out ?_))
          go_ret2
          exact ⟨by rw [HYes.out]; rfl, L1.out.trans (LWb.out.mono L1.out.size)⟩
        | false =>
          have hne : ¬ r.sum = s := by simpa using hbe
          rw [hbe] at heq
          by_cases hls : r.sum < s
          · have HSk2 : Hid (Seek rows s (m + 1) j) := Lib.hid (hsk.out.up HRi.out Hr.out hls)
            have d1 : Lib.compareBytes r.sum s < 0 := (cmp_lt _ _).2 hls
            obtain ⟨cv, hcv⟩ : ∃ cv, cv = Lib.compareBytes r.sum s := ⟨_, rfl⟩
            rw [← hcv] at d1 HC
            clear hbe hne hls hcv
            go_wp2_with (first
              | (refine wpList_load_at rfl 48 (.tmp 34) rfl g (o + m * 33) rfl F HAg.out HAt.out ?_)
              | (rw [← HWa.out]; refine wpList_store_row rfl 48 (.tmp 9) (.tmp 35) rfl wr.heap.size F rfl rfl 48 zr Ba.out (by rw [HFs.out]; kernel_rfl) (by rw [HFs.out, HS1.out]) HF1.out ?_; rw [← HWb.out])
              | (refine wpList_load_at rfl 45 (.tmp 36) rfl wr.heap.size 0 rfl S2 HAg2.out AS2.out ?_)
              | (refine wpList_load_at rfl 45 (.tmp 3) rfl (w.heap.size + 1) 0 rfl S HAS.out AS.out ?_)
              | (refine wpList_load_at rfl 45 (.tmp 42) rfl wr.heap.size 0 rfl S2 HAg2.out AS2.out ?_)
              | (refine wpList_load_at rfl 45 (.tmp 3) rfl (w.heap.size + 1) 0 rfl S HAS.out AS.out ?_))
            refine (HC.out wb).mono ?_
            rintro e w5 ⟨rfl, q, os', rfl⟩
            have LN : Hid (Below w1.heap.size w1 (grow (wb.drewN q) os')) := Lib.hid (LWb.out.trans ((below_grow wb q os').mono LWb.out.size))
            go_wp2
            go_roundw
            case rel => exact ⟨m + 1, j, by go_num, rfl, HSk2, LN⟩
            case measure => simp [intOf]; omega
          · have hgt : s < r.sum := lt_total_bs hls hne
            have HSk2 : Hid (Seek rows s i m) := Lib.hid (hsk.out.down HRi.out Hr.out hgt)
            have d1 : decide (Lib.compareBytes r.sum s < 0) = false := decide_eq_false (mt (cmp_lt r.sum s).1 hls)
            have d2 : ¬ Lib.compareBytes r.sum s < 0 := mt (cmp_lt r.sum s).1 hls
            obtain ⟨cv, hcv⟩ : ∃ cv, cv = Lib.compareBytes r.sum s := ⟨_, rfl⟩
            rw [← hcv] at d1 d2 HC
            clear hbe hne hls hcv hgt
            go_wp2_with (first
              | (refine wpList_load_at rfl 48 (.tmp 34) rfl g (o + m * 33) rfl F HAg.out HAt.out ?_)
              | (rw [← HWa.out]; refine wpList_store_row rfl 48 (.tmp 9) (.tmp 35) rfl wr.heap.size F rfl rfl 48 zr Ba.out (by rw [HFs.out]; kernel_rfl) (by rw [HFs.out, HS1.out]) HF1.out ?_; rw [← HWb.out])
              | (refine wpList_load_at rfl 45 (.tmp 36) rfl wr.heap.size 0 rfl S2 HAg2.out AS2.out ?_)
              | (refine wpList_load_at rfl 45 (.tmp 3) rfl (w.heap.size + 1) 0 rfl S HAS.out AS.out ?_)
              | (refine wpList_load_at rfl 45 (.tmp 42) rfl wr.heap.size 0 rfl S2 HAg2.out AS2.out ?_)
              | (refine wpList_load_at rfl 45 (.tmp 3) rfl (w.heap.size + 1) 0 rfl S HAS.out AS.out ?_))
            refine (HC.out wb).mono ?_
            rintro e w5 ⟨rfl, q, os', rfl⟩
            have LN : Hid (Below w1.heap.size w1 (grow (wb.drewN q) os')) := Lib.hid (LWb.out.trans ((below_grow wb q os').mono LWb.out.size))
            go_wp2
            go_roundw
            case rel => exact ⟨i, m, rfl, rfl, HSk2, LN⟩
            case measure => simp [intOf]; omega
      · have HNo : Hid (findI rows s = none) := Lib.hid (hsk.out.none (by omega))
        have LB := Lib.hid hB.out
        clear hsk hB hle hNo
        go_wp2
        go_ret2
        exact ⟨by rw [HNo.out]; rfl, L1.out.trans (LB.out.mono L1.out.size)⟩
end Go.Proofs.YtdjmcehoaneekaaDoor.Ix
