/-
  The index: read.
-/
import Derived.Test.YtdjmcehoaneekaaDoorIRdr
import Derived.Test.YtdjmcehoaneekaaDoorIPlc
import Derived.Test.YtdjmcehoaneekaaDoorIWrd
namespace Go.Proofs.YtdjmcehoaneekaaDoor.Ix
open Go.Proofs.YtdjmcehoaneekaaDoor
open Go Go.RowKit

theorem wpList_wanted {ops : Array Oper} {rest : List Oper} {o : Oper} {a : Go.Act} {w : World} {Q : Exit → Go.Act → World → Prop} (hgd : Region.wanted o (yielded ops a.tmps) = true)
    (h : ∀ K : Go.Act → World → Prop, (∀ a' w', wpList Tryd.prog ops Q rest a' w' → K a' w') → o.wp Tryd.prog a w K Q) : wpList Tryd.prog ops Q (o :: rest) a w :=
  wpList_step (fun K hK => by rw [if_pos hgd]; exact h K hK)
theorem wpList_load_g {ops : Array Oper} {rest : List Oper} {o : Oper} {a : Go.Act} {w : World} {Q : Exit → Go.Act → World → Prop} (hgd : Region.wanted o (yielded ops a.tmps) = true) (ty : TypeId) (x : Operand) (ho : o.op = .load ty x)
    (g off : Nat) (hx : a.eval x = .pointer (some ⟨g, off, none⟩)) (cs : Array Value) (A : Agg Tryd.prog ty cs.size) (hc : At w g off cs)
    (h : wpList Tryd.prog ops Q rest (a.put o.dst (.agg cs)) w) : wpList Tryd.prog ops Q (o :: rest) a w :=
  wpList_wanted hgd fun K hK => by
    unfold Oper.wp execOp
    simp only [ho, hx, Instr.loadAt, Instr.sureAddr, Sem.run_bind, Sem.run_pure, Result.andThen_ok, run_load_at A hc]
    exact hK _ _ h

/-- What read gives. -/
def ReadPost (b : Bs) (w : World) (e : Ending) (w' : World) : Prop :=
  Below w.heap.size w w' ∧ ((∃ rows v, readI b = some rows ∧ e = .returned (.tuple #[.agg (tblA (upToN rows) v), .bool true]) ∧ RowsR w' v rows ∧ ∃ A c, v = .slice A rows.length c) ∨ (readI b = none ∧ e = .returned (.tuple #[.agg zTbl, .bool false])))
theorem unnum_lt (b : Bs) : unnum b < 65536 := by unfold unnum; have := (b.getD 0 0).toNat_lt; have := (b.getD 1 0).toNat_lt; omega
theorem rowsL_fit {b : Bs} {rows : List Rw} (h : rowsL b = some rows) : Fit rows ∧ rows.length ≤ 512 ∧ ∀ r ∈ rows, r.place < 65536 := by
  unfold rowsL at h
  by_cases hc : 544 ≤ b.length ∧ (b.length - 544) % 34 = 0 ∧ (b.length - 544) / 34 ≤ 512
  · rw [if_pos hc] at h
    cases h
    refine ⟨fun r hr => ?_, by rw [List.length_map, List.length_range]; exact hc.2.2, fun r hr => ?_⟩
    · obtain ⟨i, hi, rfl⟩ := List.mem_map.1 hr
      have hi := List.mem_range.1 hi
      show ((b.drop (512 + i * 34)).take 32).length = 32
      rw [List.length_take, List.length_drop]; omega
    · obtain ⟨i, hi, rfl⟩ := List.mem_map.1 hr
      exact unnum_lt _
  · rw [if_neg hc] at h; cases h
theorem readI_no1 {b : Bs} (h : rowsL b = none) : readI b = none := by unfold readI; rw [h]
theorem readI_no2 {b : Bs} {rows : List Rw} (h : rowsL b = some rows) (h2 : placedB rows = false) : readI b = none := by unfold readI; rw [h]; simp [h2]
theorem readI_no3 {b : Bs} {rows : List Rw} (h : rowsL b = some rows) (h2 : risesB (sumsOf rows) = false) : readI b = none := by unfold readI; rw [h]; simp [h2]
theorem readI_no4 {b : Bs} {rows : List Rw} (h : rowsL b = some rows) (h2 : (indexL rows == b) = false) : readI b = none := by
  unfold readI; rw [h]
  have : ¬ indexL rows = b := by simpa using h2
  simp [this]
theorem readI_yes {b : Bs} {rows : List Rw} (h : rowsL b = some rows) (h1 : placedB rows = true) (h2 : risesB (sumsOf rows) = true) (h3 : (indexL rows == b) = true) : readI b = some rows := by
  unfold readI; rw [h]
  have : indexL rows = b := by simpa using h3
  simp [h1, h2, this]
/-- Rows of one's own are as they were where a block that is not theirs has turned. -/
theorem rows_kept {w : World} {v : Value} {rows : List Rw} {B g : Nat} {T : Array Value} (h : OwK 48 33 rowC w B v rows) (hg : g < B) : RowsR (w.setRow g T) v rows := by
  refine OwnRows.rows (B := B) ?_
  obtain ⟨h1, h2⟩ := h
  refine ⟨h1, ?_⟩
  rcases h2 with h2 | ⟨g', cap, cur, rfl, hbg, hg2, r⟩
  · exact .inl h2
  · exact .inr ⟨g', cap, cur, rfl, hbg, (setRow_other w g g' T (by omega)).trans hg2, r⟩
set_option maxRecDepth 100000 in
set_option maxHeartbeats 4000000 in
theorem read_any {w : World} {v : Value} {b : Bs} (hp : Pr w) (hv : Rb w v b) (hl : b.length ≤ 1000000) : Calls Tryd.prog 31 #[v] w (ReadPost b w) := by
  have hv0 := hv
  obtain ⟨A, c, rfl⟩ := hv.shape
  have hzt := zeroTbl.1
  obtain ⟨zt, hzt0⟩ : ∃ z, z = zTbl := ⟨_, rfl⟩
  rw [← hzt0] at hzt
  have hs2 : zt.size = 257 := by rw [hzt0, zTbl_size]
  have HS2 := Lib.hid hs2
  have HO2 : Hid (zt.all (·.oneCell') = true) := Lib.hid (by rw [hzt0]; exact zTbl_one)
  have HZt := Lib.hid hzt0
  obtain ⟨w1, hw1⟩ : ∃ w1, w1 = w.alloc (Obj.cells zt 52) := ⟨_, rfl⟩
  have b1 : Blk w1 w.heap.size 52 zt := by rw [hw1]; exact Blk.new w _ _
  have l1 : Below w.heap.size w w1 := by rw [hw1]; exact below_new w _
  have HR := Lib.hid (readRows_any (hv.below l1 (Nat.le_refl _)) hl)
  have HW1 := Lib.hid hw1; have B1 := Lib.hid b1; have L1 := Lib.hid l1; have HV := Lib.hid hv; have HP := Lib.hid hp
  obtain ⟨L, hL⟩ : ∃ L, L = b.length := ⟨_, rfl⟩
  rw [← hL] at HR ⊢
  have HL := Lib.hid hL
  clear hv hv0 hl hzt0 hs2 hw1 b1 l1 hp hL
  go_enter Tryd.func31, Tryd.ntmps31
  go_wp2_with (rw [← HW1.out])
  refine HR.out.mono ?_
  rintro e w2 ⟨l2, hh⟩
  have b2 : Blk w2 w.heap.size 52 zt := B1.out.below l2 B1.out.lt
  have lw2 : Below w.heap.size w w2 := L1.out.trans (l2.mono L1.out.size)
  have B2 := Lib.hid b2; have L2 := Lib.hid lw2
  rcases hh with ⟨rows, v, hrows, rfl, ho⟩ | ⟨hno, rfl⟩
  · obtain ⟨hfit, h512, hpl⟩ := rowsL_fit hrows
    have hvr := OwnRows.rows ho
    have HOw := Lib.hid ho
    have HRows := Lib.hid hrows; have HFit := Lib.hid hfit; have HPl := Lib.hid hpl; have H5 := Lib.hid h512
    have hpc := placed_any hvr h512 hpl
    have HVr := Lib.hid hvr
    obtain ⟨A2, c2, rfl⟩ := hvr.shape
    cases hpb : placedB rows with
    | false =>
      rw [hpb] at hpc
      have HPc := Lib.hid hpc
      have HNo := Lib.hid (readI_no2 hrows hpb)
      clear hrows hfit h512 hpl hvr ho hpc hpb l2 b2 lw2
      go_wp2_with fail
      refine HPc.out.mono ?_
      rintro e w3 ⟨rfl, l3⟩
      have B3 : Hid (Blk w3 w.heap.size 52 zt) := Lib.hid (B2.out.below l3 B2.out.lt)
      have L3 : Hid (Below w.heap.size w w3) := Lib.hid (L2.out.trans (l3.mono L2.out.size))
      clear l3
      go_wp2_with (refine wpList_store_row rfl 52 (.tmp 2) (.tmp 19) rfl w.heap.size zt rfl rfl 52 zt B3.out (by rw [HS2.out]; kernel_rfl) rfl HO2.out ?_; rw [setRow_self _ _ _ _ _ B3.out])
      exact bodyPost_ret (v := .tuple #[.agg zt, .bool false]) (results_two rfl _ _ w.heap.size 52 zt (0, 0) _ rfl B3.out Tryd.underlying52 rfl (by rw [HS2.out]; kernel_rfl) rfl) rfl ⟨L3.out, .inr ⟨HNo.out, by rw [HZt.out]⟩⟩
    | true =>
      rw [hpb] at hpc
      have HPc := Lib.hid hpc
      have HPb := Lib.hid hpb
      clear hrows hfit h512 hpl hvr ho hpc hpb l2 b2 lw2
      go_wp2_with fail
      refine HPc.out.mono ?_
      rintro e w3 ⟨rfl, l3⟩
      have b3 : Blk w3 w.heap.size 52 zt := B2.out.below l3 B2.out.lt
      have lw3 : Below w.heap.size w w3 := L2.out.trans (l3.mono L2.out.size)
      have hv3 : RowsR w3 (.slice A2 rows.length c2) rows := HVr.out.below l3 (Nat.le_refl _)
      have ho3 : OwK 48 33 rowC w3 w1.heap.size (.slice A2 rows.length c2) rows := HOw.out.below l3 (Nat.le_refl _)
      have HO3 := Lib.hid ho3
      have HT := Lib.hid (tableOf_any hv3 HFit.out H5.out)
      have B3 := Lib.hid b3; have L3 := Lib.hid lw3; have HV3 := Lib.hid hv3
      clear l3 b3 lw3 hv3 HPc ho3
      obtain ⟨N, hN⟩ : ∃ N, N = rows.length := ⟨_, rfl⟩
      rw [← hN] at HT HV3 HO3 ⊢
      have HN := Lib.hid hN
      clear hN
      go_wp2_with fail
      refine HT.out.mono ?_
      rintro e w4 ⟨l4, hh⟩
      have b4 : Blk w4 w.heap.size 52 zt := B3.out.below l4 B3.out.lt
      have lw4 : Below w.heap.size w w4 := L3.out.trans (l4.mono L3.out.size)
      have B4 := Lib.hid b4; have L4 := Lib.hid lw4
      have HV4 : Hid (RowsR w4 (.slice A2 N c2) rows) := Lib.hid (HV3.out.below l4 (Nat.le_refl _))
      have HO4 : Hid (OwK 48 33 rowC w4 w1.heap.size (.slice A2 N c2) rows) := Lib.hid (HO3.out.below l4 (Nat.le_refl _))
      clear l4 b4 lw4 HT
      obtain ⟨wa, hwa⟩ : ∃ wa, wa = w4.alloc (Obj.cells zt 52) := ⟨_, rfl⟩
      have ba : Blk wa w4.heap.size 52 zt := by rw [hwa]; exact Blk.new w4 _ _
      have la : Below w4.heap.size w4 wa := by rw [hwa]; exact below_new w4 _
      have HWa := Lib.hid hwa; have Ba := Lib.hid ba; have La := Lib.hid la
      clear hwa ba la
      rcases hh with ⟨hri, rfl⟩ | ⟨hri, rfl⟩
      · obtain ⟨T, hT⟩ : ∃ T, T = tblA (upToN rows) (.slice A2 N c2) := ⟨_, rfl⟩
        rw [← hT]
        have hTs : T.size = 257 := by rw [hT, tblA_size]
        have hT1 : T.all (·.oneCell') = true := by rw [hT]; exact tblA_one _ _ _ _
        have HT := Lib.hid hT; have HTs := Lib.hid hTs; have HT1 := Lib.hid hT1; have HRi := Lib.hid hri
        obtain ⟨wb, hwb⟩ : ∃ wb, wb = wa.setRow w4.heap.size T := ⟨_, rfl⟩
        have bb : Blk wb w4.heap.size 52 T := by rw [hwb]; exact setRow_heap wa _ _ _ _ _ Ba.out
        have lb : Below w4.heap.size w4 wb := by rw [hwb]; exact below_setRow La.out (Nat.le_refl _) _
        have HWb := Lib.hid hwb; have Bb := Lib.hid bb; have Lb := Lib.hid lb
        have hWr : Calls Tryd.prog 26 #[.agg T] wb (OwnN (indexL rows) wb) := by
          rw [hT]
          exact written_any ((HP.out.below L4.out HP.out.lt).below lb (Nat.lt_of_lt_of_le HP.out.lt L4.out.size)) (HV4.out.below lb (Nat.le_refl _)) HFit.out H5.out HPl.out
        have HWr := Lib.hid hWr
        have HAgT : Hid (Agg Tryd.prog 52 T.size) := Lib.hid (by rw [hTs]; exact aggTbl)
        clear hT hTs hT1 hri hwb bb lb hWr
        go_wp2_with (first
          | (rw [← HWa.out]; refine wpList_store_row rfl 52 (.tmp 6) (.tmp 23) rfl w4.heap.size T rfl rfl 52 zt Ba.out (by rw [HTs.out]; kernel_rfl) (by rw [HS2.out, HTs.out]) HT1.out ?_; rw [← HWb.out])
          | (refine wpList_load_g (by kernel_rfl) 52 (.tmp 6) rfl w4.heap.size 0 rfl T HAgT.out (Blk.at Bb.out) ?_))
        refine HWr.out.mono ?_
        rintro e w5 ⟨A5, N5, c5, rfl, hN5, o5, l5⟩
        have lw5 : Below w4.heap.size w4 w5 := Lb.out.trans (l5.mono Lb.out.size)
        have hr5 : Rb w5 (.slice A5 N5 c5) (indexL rows) := Dl.Ow.rb o5
        have hv5 : Rb w5 (.slice A L c) b := by
          have h := HV.out.below (L4.out.trans (lw5.mono L4.out.size)) (Nat.le_refl _)
          rwa [← HL.out] at h
        have heq := Equal_any hr5 hv5
        have B5 : Hid (Blk w5 w.heap.size 52 zt) := Lib.hid (B4.out.below lw5 B4.out.lt)
        have L5 : Hid (Below w.heap.size w w5) := Lib.hid (L4.out.trans (lw5.mono L4.out.size))
        have Bt5 : Hid (Blk w5 w4.heap.size 52 T) := Lib.hid (Bb.out.below l5 Bb.out.lt)
        have HO5 : Hid (OwK 48 33 rowC w5 w1.heap.size (.slice A2 N c2) rows) := Lib.hid (HO4.out.below lw5 (Nat.le_refl _))
        cases hq : (indexL rows == b) with
        | false =>
          rw [hq] at heq
          have HEq := Lib.hid heq
          have HNo := Lib.hid (readI_no4 HRows.out hq)
          clear l5 lw5 hr5 hv5 heq hq o5 hN5 HWr
          go_wp2_with fail
          refine HEq.out.mono ?_
          rintro e w6 ⟨rfl, rfl⟩
          go_wp2_with (refine wpList_store_row rfl 52 (.tmp 2) (.tmp 34) rfl w.heap.size zt rfl rfl 52 zt B5.out (by rw [HS2.out]; kernel_rfl) rfl HO2.out ?_; rw [setRow_self _ _ _ _ _ B5.out])
          exact bodyPost_ret (v := .tuple #[.agg zt, .bool false]) (results_two rfl _ _ w.heap.size 52 zt (0, 0) _ rfl B5.out Tryd.underlying52 rfl (by rw [HS2.out]; kernel_rfl) rfl) rfl ⟨L5.out, .inr ⟨HNo.out, by rw [HZt.out]⟩⟩
        | true =>
          rw [hq] at heq
          have HEq := Lib.hid heq
          have HYes := Lib.hid (readI_yes HRows.out HPb.out HRi.out hq)
          clear l5 lw5 hr5 hv5 heq hq o5 hN5 HWr
          go_wp2_with fail
          refine HEq.out.mono ?_
          rintro e w6 ⟨rfl, rfl⟩
          obtain ⟨w7, hw7⟩ : ∃ w7, w7 = w6.setRow w.heap.size T := ⟨_, rfl⟩
          have b7 : Blk w7 w.heap.size 52 T := by rw [hw7]; exact setRow_heap w6 _ _ _ _ _ B5.out
          have l7 : Below w.heap.size w w7 := by rw [hw7]; exact below_setRow L5.out (Nat.le_refl _) _
          have v7 : RowsR w7 (.slice A2 N c2) rows := by
            rw [hw7]; exact rows_kept HO5.out B1.out.lt
          have HW7 := Lib.hid hw7; have B7 := Lib.hid b7; have L7 := Lib.hid l7; have V7 := Lib.hid v7
          clear hw7 b7 l7 v7
          go_wp2_with (first
            | (refine wpList_load_row rfl 52 (.tmp 6) rfl w4.heap.size rfl 52 T (0, 0) _ Bt5.out Tryd.underlying52 rfl (by rw [HTs.out]; kernel_rfl) ?_)
            | (refine wpList_store_row rfl 52 (.tmp 2) (.tmp 35) rfl w.heap.size T rfl rfl 52 zt B5.out (by rw [HTs.out]; kernel_rfl) (by rw [HS2.out, HTs.out]) HT1.out ?_; rw [← HW7.out]))
          exact bodyPost_ret (v := .tuple #[.agg T, .bool true]) (results_two rfl _ _ w.heap.size 52 T (0, 0) _ rfl B7.out Tryd.underlying52 rfl (by rw [HTs.out]; kernel_rfl) rfl) rfl ⟨L7.out, .inl ⟨rows, _, HYes.out, by rw [HT.out], V7.out, A2, c2, by rw [HN.out]⟩⟩
      · have HNo := Lib.hid (readI_no3 HRows.out hri)
        have hzz : zTbl = zt := HZt.out.symm
        rw [hzz]
        clear hri hzz
        have B4a : Hid (Blk wa w.heap.size 52 zt) := Lib.hid (B4.out.below La.out B4.out.lt)
        have L4a : Hid (Below w.heap.size w wa) := Lib.hid (L4.out.trans (La.out.mono L4.out.size))
        go_upto_region 6 with (rw [← HWa.out]; refine wpList_store_row rfl 52 (.tmp 6) (.tmp 23) rfl w4.heap.size zt rfl rfl 52 zt Ba.out (by rw [HS2.out]; kernel_rfl) rfl HO2.out ?_; rw [setRow_self _ _ _ _ _ Ba.out])
        go_wp2_with (refine wpList_store_row rfl 52 (.tmp 2) (.tmp 34) rfl w.heap.size zt rfl rfl 52 zt B4a.out (by rw [HS2.out]; kernel_rfl) rfl HO2.out ?_; rw [setRow_self _ _ _ _ _ B4a.out])
        exact bodyPost_ret (v := .tuple #[.agg zt, .bool false]) (results_two rfl _ _ w.heap.size 52 zt (0, 0) _ rfl B4a.out Tryd.underlying52 rfl (by rw [HS2.out]; kernel_rfl) rfl) rfl ⟨L4a.out, .inr ⟨HNo.out, by rw [HZt.out]⟩⟩
  · have HNo := Lib.hid (readI_no1 hno)
    clear hno l2 b2 lw2
    go_wp2_with (refine wpList_store_row rfl 52 (.tmp 2) (.tmp 19) rfl w.heap.size zt rfl rfl 52 zt B2.out (by rw [HS2.out]; kernel_rfl) rfl HO2.out ?_; rw [setRow_self _ _ _ _ _ B2.out])
    exact bodyPost_ret (v := .tuple #[.agg zt, .bool false]) (results_two rfl _ _ w.heap.size 52 zt (0, 0) _ rfl B2.out Tryd.underlying52 rfl (by rw [HS2.out]; kernel_rfl) rfl) rfl ⟨L2.out, .inr ⟨HNo.out, by rw [HZt.out]⟩⟩
end Go.Proofs.YtdjmcehoaneekaaDoor.Ix
