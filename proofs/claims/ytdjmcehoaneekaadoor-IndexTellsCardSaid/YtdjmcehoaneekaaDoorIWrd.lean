/-
  The index: a table's bytes.
-/
import Derived.Test.YtdjmcehoaneekaaDoorIWrt
import Derived.Test.YtdjmcehoaneekaaDoorITbl
import Derived.Laws.MakeOwn
namespace Go.Proofs.YtdjmcehoaneekaaDoor.Ix
open Go.Proofs.YtdjmcehoaneekaaDoor
open Go Go.RowKit

theorem indexI (n : Nat) (f : Nat → Nat) (W : World) (i : Nat) (hn : n = 256) (hi : i < n) : (Instr.index 50 (.agg (intA n f)) (.int .i64 (i : Int))).run Tryd.prog W = .ok (.int .i64 (f i : Int)) W := by
  have h1 : (intA n f)[i]? = some (.int .i64 (f i : Int)) := intA_get n f i hi
  have hs : ∀ W, (sizeOf 3).run Tryd.prog W = .ok 1 W := fun _ => by kernel_rfl
  have hp : ∀ W, (part 3 (intA n f) i).run Tryd.prog W = .ok (.int .i64 (f i : Int)) W := fun W => by
    have ha : ∀ W, (isAgg 3).run Tryd.prog W = .ok false W := fun _ => by kernel_rfl
    simp [part, Sem.run_bind, ha, h1]
  have hi1 : 0 ≤ (i : Int) := by omega
  simp [Instr.index, asIntOf, Sem.run_bind, run_underlying Tryd.underlying50, hs, hp, hi1]
  omega
theorem make_bytes (w : World) (B n : Nat) (hn : n ≤ 512) (hB : B ≤ w.heap.size) :
    ∃ w', (Instr.makeSlice 23 (.int .i64 0) (.int .i64 (512 + (n : Int) * 34 + 32))).run Tryd.prog w = .ok (.slice (some ⟨w.heap.size, 0, none⟩) 0 (544 + n * 34)) w' ∧ Dl.Ow w' B (.slice (some ⟨w.heap.size, 0, none⟩) 0 (544 + n * 34)) [] ∧ Below w.heap.size w w' := by
  obtain ⟨i, hi⟩ : ∃ i, Tryd.prog.info? 5 = some i := Option.isSome_iff_exists.1 (by kernel_rfl)
  have hi0 : (Tryd.prog.info? 5).map (fun i => (i.zero, i.size, i.bytes)) = some (some (.int .u8 0), 1, 1) := by kernel_rfl
  rw [hi] at hi0
  simp only [Option.map_some, Option.some.injEq, Prod.mk.injEq] at hi0
  obtain ⟨hz, hs, hb⟩ := hi0
  obtain ⟨w', h1, h2, h3⟩ := run_make_own (P := Tryd.prog) w B 23 5 i (.int .u8 0) 1 Tryd.underlying23 hi hz hs .i64 .i64 (544 + n * 34) (by rw [hb]; omega) (by unfold maxLen; omega) hB
  refine ⟨w', ?_, h2, ⟨h3.os, h3.tape, h3.output, h3.size, fun k hk => h3.block k hk (by simp)⟩⟩
  rw [show (512 + (n : Int) * 34 + 32) = ((544 + n * 34 : Nat) : Int) by omega]
  exact h1
theorem app_own {w W : World} {v V : Value} {B : Nat} (F : Dl.AppF w v W V) (hv : ∀ k, v.ownBlock = some k → B ≤ k) (hB : B ≤ w.heap.size) : Below B w W :=
  ⟨F.1.os, F.1.tape, F.1.output, F.1.size, fun k hk => F.1.block k (by omega) (fun e => by have := hv k e; omega)⟩
theorem ow_ge {w : World} {B : Nat} {v : Value} {l : Bs} (h : Dl.Ow w B v l) : ∀ k, v.ownBlock = some k → B ≤ k := fun k hk => (h.lt k hk).1
theorem rb_row {w : World} {g : Nat} {t : TypeId} {r : Rw} (h : Blk w g t (rowA r)) (hs : r.sum.length = 32) : Dl.Rb w (.slice (some ⟨g, 0, none⟩) 32 32) r.sum :=
  .inr ⟨g, 0, 32, by rw [hs], by omega, h.lt, fun j hj => by rw [Nat.zero_add, h.cell, rowA_sum _ _ (by omega), sumA_get _ j (by omega)]; rfl⟩
theorem ow_mono {w : World} {B B' : Nat} {v : Value} {l : Bs} (h : Dl.Ow w B v l) (hb : B' ≤ B) : Dl.Ow w B' v l := by
  obtain ⟨h1, h2⟩ := h
  refine ⟨h1, ?_⟩
  rcases h2 with h2 | ⟨g, cap, cur, rfl, hbg, r⟩
  · exact .inl h2
  · exact .inr ⟨g, cap, cur, rfl, Nat.le_trans hb hbg, r⟩
def headTo (rows : List Rw) (k : Nat) : Bs := (List.range k).flatMap fun c => num2 (upToN rows c)
theorem headTo_succ (rows : List Rw) (k : Nat) : headTo rows (k + 1) = headTo rows k ++ num2 (upToN rows k) := by
  unfold headTo; rw [List.range_succ, List.flatMap_append]; simp
theorem headTo_len (rows : List Rw) (k : Nat) : (headTo rows k).length = 2 * k := by unfold headTo; rw [flat_len _ 2 _ fun _ _ => rfl, List.length_range]; omega
theorem bodyL_snoc {rows : List Rw} {k : Nat} {r : Rw} (h : rows[k]? = some r) : bodyL (rows.take (k + 1)) = bodyL (rows.take k) ++ r.sum ++ num2 r.place := by
  rw [take_snoc' h]; unfold bodyL; rw [List.flatMap_append, List.append_assoc]; simp [rowB]
theorem Fit.take {rows : List Rw} (h : Fit rows) (k : Nat) : Fit (rows.take k) := fun r hr => h r (List.mem_of_mem_take hr)
theorem sumA_sumL (l : Bs) : u8s 32 (byteV (sumV l)) = sumA (sumL l) := u8s_congr fun i hi => by
  unfold gd sumL
  rw [List.getD_eq_getElem?_getD, List.getElem?_map, List.getElem?_range hi]; rfl

/-- A slice of one's own with these bytes. -/
def OwnN (l : Bs) (w : World) (e : Ending) (w' : World) : Prop := ∃ A N c, e = .returned (.slice A N c) ∧ N = l.length ∧ Dl.Ow w' w.heap.size (.slice A N c) l ∧ Below w.heap.size w w'
set_option maxRecDepth 100000 in
set_option maxHeartbeats 4000000 in
theorem written_any {w : World} {v : Value} {rows : List Rw} (hp : Pr w) (hv : RowsR w v rows) (hfit : Fit rows) (hl : rows.length ≤ 512) (hpl : ∀ r ∈ rows, r.place < 65536) :
    Calls Tryd.prog 26 #[.agg (tblA (upToN rows) v)] w (OwnN (indexL rows) w) := by
  obtain ⟨A, c, rfl⟩ := hv.shape
  have HV := Lib.hid hv; have HFit := Lib.hid hfit; have HPl := Lib.hid hpl; have HP := Lib.hid hp
  obtain ⟨N, hN⟩ : ∃ N, N = rows.length := ⟨_, rfl⟩
  have hN5 : N ≤ 512 := by omega
  rw [← hN]
  have HN := Lib.hid hN
  obtain ⟨T, hT⟩ : ∃ T, T = tblA (upToN rows) (.slice A N c) := ⟨_, rfl⟩
  rw [← hT]
  obtain ⟨I, hI⟩ : ∃ I, I = intA 256 (upToN rows) := ⟨_, rfl⟩
  have hTs : T.size = 257 := by rw [hT, tblA_size]
  have HTc : Hid (T[256]? = some (.slice A N c)) := Lib.hid (by rw [hT, tblA_rows])
  have HIa : Hid (Agg Tryd.prog 50 I.size) := Lib.hid (by rw [hI, intA_size]; exact aggInt)
  have HIx : Hid (∀ (W : World) (i : Nat), i < 256 → (Instr.index 50 (.agg I) (.int .i64 (i : Int))).run Tryd.prog W = .ok (.int .i64 (upToN rows i : Int)) W) := Lib.hid fun W i hi => by rw [hI]; exact indexI 256 (upToN rows) W i rfl hi
  have HIt : Hid (∀ (W : World) (g : Nat), Blk W g 52 T → At W g 0 I) := Lib.hid fun W g hb j x hj => by
    have hj2 : j < 256 := by rw [hI] at hj; have := (Array.getElem?_eq_some_iff.1 hj).1; rwa [intA_size] at this
    rw [Nat.zero_add, hb.cell, hT, tblA_int _ _ _ hj2]
    rw [hI, intA_get _ _ _ hj2] at hj; exact hj
  obtain ⟨zr, hzr0⟩ : ∃ z, z = zRow := ⟨_, rfl⟩
  have hzr := zeroRow.1
  rw [← hzr0] at hzr
  have hs1 : zr.size = 33 := by rw [hzr0, zRow_size]
  have HS1 := Lib.hid hs1
  obtain ⟨zs, hzs0⟩ : ∃ z, z = u8s 32 (fun _ => 0) := ⟨_, rfl⟩
  have hzs : ∀ W, (zeroValue 44).run Tryd.prog W = .ok (.agg zs) W := by rw [hzs0]; exact (zero_of_info (n := 32) (by kernel_rfl)).1
  have HSs : Hid (zs.size = 32) := Lib.hid (by rw [hzs0, u8s_size])
  obtain ⟨w1, hw1⟩ : ∃ w1, w1 = w.alloc (Obj.cells T 52) := ⟨_, rfl⟩
  have b1 : Blk w1 w.heap.size 52 T := by rw [hw1]; exact Blk.new w _ _
  have l1 : Below w.heap.size w w1 := by rw [hw1]; exact below_new w _
  have c1 : w1.cell? ⟨w.heap.size, 256, none⟩ = some (.slice A N c) := by rw [b1.cell]; exact HTc.out
  have hB1 : w.heap.size + 1 ≤ w1.heap.size := b1.lt
  obtain ⟨wm, hmk, hmo, hml⟩ := make_bytes w1 (w.heap.size + 1) N hN5 hB1
  have g1 : IntKind.i64.wrap ((N : Int) * 34) = (N : Int) * 34 := IntWalk.i64_in _ (by omega)
  have g2 : IntKind.i64.wrap (512 + (N : Int) * 34) = 512 + (N : Int) * 34 := IntWalk.i64_in _ (by omega)
  have g3 : IntKind.i64.wrap (512 + (N : Int) * 34 + 32) = 512 + (N : Int) * 34 + 32 := IntWalk.i64_in _ (by omega)
  have bm : Blk wm w.heap.size 52 T := b1.below hml b1.lt
  have lm : Below w.heap.size w wm := l1.trans (hml.mono l1.size)
  have hBm : w.heap.size + 1 ≤ wm.heap.size := bm.lt
  have HW1 := Lib.hid hw1; have Bm := Lib.hid bm; have Lm := Lib.hid lm; have HBm := Lib.hid hBm; have HI1 := Lib.hid (HIt.out wm _ bm)
  obtain ⟨G1, hG1⟩ : ∃ G, G = w1.heap.size := ⟨_, rfl⟩
  obtain ⟨C1, hC1⟩ : ∃ C, C = 544 + N * 34 := ⟨_, rfl⟩
  rw [← hG1, ← hC1] at hmk hmo
  have Om : Hid (Dl.Ow wm (w.heap.size + 1) (.slice (some ⟨G1, 0, none⟩) 0 C1) (headTo rows 0)) := Lib.hid hmo
  clear hv hfit hl hpl hN hT hI hTs hzr0 hs1 hzs0 hw1 b1 l1 hB1 hml hmo bm lm hBm hG1 hC1 hp
  go_enter Tryd.func26, Tryd.ntmps26
  go_wp2_with (first | (refine wpList_load_at rfl 50 (.tmp 16) rfl w.heap.size 0 rfl I HIa.out HI1.out ?_) | rw [← HW1.out])
  go_loopw [3, 5, 18] (fun b _ i wr => ∃ k : Nat, k ≤ 256 ∧ i = .int .i64 k ∧ Hid (Below w.heap.size w wr) ∧ Hid (Blk wr w.heap.size 52 T) ∧ Hid (Dl.Ow wr (w.heap.size + 1) b (headTo rows k))) (fun _ _ i _ => 256 - (intOf i).toNat)
  case atStart => exact ⟨0, by omega, rfl, Lm, Bm, Om⟩
  case round =>
    clear Lm Bm Om HI1 HBm HW1 c1 hmk
    obtain ⟨k, hk, rfl, hB, hb, ho⟩ := hrel
    have hBr : w.heap.size + 1 ≤ wr.heap.size := hb.out.lt
    by_cases hlt : k < 256
    · have hix := fun W => HIx.out W k hlt
      obtain ⟨x, hx⟩ : ∃ x, x = upToN rows k := ⟨_, rfl⟩
      have hx5 : x ≤ 512 := by rw [hx]; have := upToN_len rows k; have := HN.out; omega
      rw [← hx] at hix
      have hpn := putNumber_any ho.out hBr x (by omega) (by rw [headTo_len]; omega)
      obtain ⟨A3, N3, c3, rfl, -⟩ := own_shape ho.out
      rw [hx, ← headTo_succ, ← hx] at hpn
      have HPN := Lib.hid hpn
      clear hpn hx
      go_wp2_with fail
      refine HPN.out.mono ?_
      rintro e w4 ⟨A4, N4, c4, rfl, -, o4, f4⟩
      have l4 : Below (w.heap.size + 1) wr w4 := app_own f4 (ow_ge ho.out) hBr
      have H1 : Hid (Below w.heap.size w w4) := Lib.hid (hB.out.trans (l4.mono (Nat.le_succ _)))
      have H2 : Hid (Blk w4 w.heap.size 52 T) := Lib.hid (hb.out.below l4 (Nat.lt_succ_self _))
      have H3 := Lib.hid o4
      clear o4 f4 l4 HPN
      go_wp2
      go_roundw
      case rel => exact ⟨k + 1, by omega, by go_num, H1, H2, H3⟩
      case measure => simp [intOf]; omega
    · have hk6 : k = 256 := by omega
      have c1 : wr.cell? ⟨w.heap.size, 256, none⟩ = some (.slice A N c) := by rw [hb.out.cell]; exact HTc.out
      have ho2 : Hid (Dl.Ow wr (w.heap.size + 1) u3 (headL rows ++ bodyL (rows.take 0))) := Lib.hid (by
        have h := ho.out
        rw [hk6] at h
        have e : headTo rows 256 = headL rows ++ bodyL (rows.take 0) := by simp [bodyL, headTo, headL]
        rw [e] at h; exact h)
      clear ho hk6
      go_wp2
      clear c1
      go_loopw [3, 7, 28] (fun b _ i wr => ∃ k : Nat, k ≤ N ∧ i = .int .i64 k ∧ Hid (Below w.heap.size w wr) ∧ Hid (w.heap.size + 1 ≤ wr.heap.size) ∧ Hid (Dl.Ow wr (w.heap.size + 1) b (headL rows ++ bodyL (rows.take k)))) (fun _ _ i _ => N - (intOf i).toNat)
      case atStart => exact ⟨0, Nat.zero_le _, rfl, hB, Lib.hid hBr, ho2⟩
      case round =>
        clear hB hb ho2 hBr hlt hk
        obtain ⟨k, hk, rfl, hB, hS, ho⟩ := hrel
        have hBr := hS.out
        have hlen : (headL rows ++ bodyL (rows.take k)).length ≤ 20000 := by
          rw [List.length_append, headL_len, bodyL_len (HFit.out.take k)]
          have : (rows.take k).length ≤ 512 := Nat.le_trans take_len (by omega)
          omega
        by_cases hlt : k < N
        · obtain ⟨g, o, c', e, _, hg⟩ := HV.out.pos (by have := HN.out; omega)
          cases e
          obtain ⟨r, hr⟩ : ∃ r, rows[k]? = some r := ⟨_, List.getElem?_eq_getElem (by have := HN.out; omega)⟩
          have hrm := List.mem_of_getElem? hr
          have h32 := HFit.out r hrm
          have hpl := HPl.out r hrm
          have hat := (HV.out.at k r hr).below hB.out hg
          have hsn := bodyL_snoc hr
          obtain ⟨F, hF⟩ : ∃ F, F = rowA r := ⟨_, rfl⟩
          have hFs : F.size = 33 := by rw [hF, rowA_size]
          have hF1 : F.all (·.oneCell') = true := by rw [hF]; exact rowA_one r
          rw [← hF] at hat
          have HAt := Lib.hid hat; have HFs := Lib.hid hFs; have HF1 := Lib.hid hF1; have HAg : Hid (Agg Tryd.prog 48 F.size) := Lib.hid (by rw [hFs]; exact aggRow)
          obtain ⟨wa, hwa⟩ : ∃ wa, wa = wr.alloc (Obj.cells zr 48) := ⟨_, rfl⟩
          have ba : Blk wa wr.heap.size 48 zr := by rw [hwa]; exact Blk.new wr _ _
          have la : Below wr.heap.size wr wa := by rw [hwa]; exact below_new wr _
          obtain ⟨wb, hwb⟩ : ∃ wb, wb = wa.setRow wr.heap.size F := ⟨_, rfl⟩
          have bb : Blk wb wr.heap.size 48 F := by rw [hwb]; exact setRow_heap wa _ _ _ _ _ ba
          have lb : Below wr.heap.size wr wb := by rw [hwb]; exact below_setRow la (Nat.le_refl _) _
          obtain ⟨q1, hq1⟩ : ∃ q, q = headL rows ++ bodyL (rows.take k) ++ r.sum := ⟨_, rfl⟩
          have hq1l : q1.length ≤ 30000 := by rw [hq1, List.length_append, h32]; omega
          have hq2 : q1 ++ num2 r.place = headL rows ++ bodyL (rows.take (k + 1)) := by rw [hsn, hq1]; simp only [List.append_assoc]
          have Ob : Hid (Dl.Ow wb (w.heap.size + 1) u3 (headL rows ++ bodyL (rows.take k))) := Lib.hid (ho.out.below lb (Nat.le_refl _))
          have Rb' : Hid (Dl.Rb wb (.slice (some ⟨wr.heap.size, 0, none⟩) 32 32) r.sum) := Lib.hid (by have h := bb; rw [hF] at h; exact rb_row h h32)
          have Qb : Hid ((headL rows ++ bodyL (rows.take k)).length + r.sum.length ≤ 140737488355328) := Lib.hid (by omega)
          have Sb : Hid (w.heap.size + 1 ≤ wb.heap.size) := Lib.hid (Nat.le_trans hBr lb.size)
          have Cp : Hid (wb.cell? ⟨wr.heap.size, 32, none⟩ = some (.int .i64 (r.place : Int))) := Lib.hid (by have h := bb; rw [hF] at h; exact Blk.rowPlace h)
          have Bl : Hid (wr.heap.size < wb.heap.size) := Lib.hid bb.lt
          have HWa := Lib.hid hwa; have HWb := Lib.hid hwb; have Ba := Lib.hid ba; have Lb := Lib.hid lb; have HQ1 := Lib.hid hq1; have HQl := Lib.hid hq1l; have HQ2 := Lib.hid hq2
          obtain ⟨A3, N3, c3, rfl, -⟩ := own_shape ho.out
          have hge := Lib.hid (ow_ge ho.out)
          have Hlt : Hid (∀ k, (Value.slice A3 N3 c3).ownBlock = some k → k < wr.heap.size) := Lib.hid fun j hj => (ho.out.lt j hj).2
          clear hat hF hFs hF1 hwa ba la hwb bb lb hsn hq1 hq1l hq2 hr hrm h32
          go_wp2_with (first
            | (refine wpList_load_at rfl 48 (.tmp 30) rfl g (o + k * 33) rfl F HAg.out HAt.out ?_)
            | (rw [← HWa.out]; refine wpList_store_row rfl 48 (.tmp 7) (.tmp 31) rfl wr.heap.size F rfl rfl 48 zr Ba.out (by rw [HFs.out]; kernel_rfl) (by rw [HFs.out, HS1.out]) HF1.out ?_; rw [← HWb.out])
            | (refine wpList_app' (o := ⟨some 35, _, _, _, _, _⟩) rfl _ _ rfl (w.heap.size + 1) _ _ (headL rows ++ bodyL (rows.take k)) r.sum rfl rfl Ob.out Rb'.out Qb.out Sb.out HQ1.out ?_))
          intro v5 w5 o5 f5
          have c5 : w5.cell? ⟨wr.heap.size, 32, none⟩ = some (.int .i64 (r.place : Int)) := by
            rw [f5.1.cell (p := ⟨wr.heap.size, 32, none⟩) Bl.out (fun e => by have := Hlt.out _ e; simp at this)]; exact Cp.out
          have hS5 : w.heap.size + 1 ≤ w5.heap.size := Nat.le_trans Sb.out f5.size
          have hpn := putNumber_any o5 hS5 r.place hpl (by have := HQl.out; omega)
          rw [HQ2.out] at hpn
          have L5 : Hid (Below w.heap.size w w5) := Lib.hid ((hB.out.trans (Lb.out.mono hB.out.size)).trans ((app_own f5 hge.out Sb.out).mono (Nat.le_succ _)))
          have hge5 := Lib.hid (ow_ge o5)
          have HPN := Lib.hid hpn; have HS5 := Lib.hid hS5
          obtain ⟨A5, N5, c5', rfl, -⟩ := own_shape o5
          clear hpn o5 f5 hS5 Ob Rb' Qb
          go_wp2_with fail
          refine HPN.out.mono ?_
          rintro e w6 ⟨A6, N6, c6, rfl, -, o6, f6⟩
          have H1 : Hid (Below w.heap.size w w6) := Lib.hid (L5.out.trans ((app_own f6 hge5.out HS5.out).mono (Nat.le_succ _)))
          have H2 : Hid (w.heap.size + 1 ≤ w6.heap.size) := Lib.hid (Nat.le_trans HS5.out f6.size)
          have H3 := Lib.hid o6
          clear o6 f6 HPN c5
          go_wp2
          go_roundw
          case rel => exact ⟨k + 1, by omega, by go_num, H1, H2, H3⟩
          case measure => simp [intOf]; omega
        · have hkN : k = N := by omega
          subst hkN
          have ho3 : Hid (Dl.Ow wr (w.heap.size + 1) u3 (tblL rows)) := Lib.hid (by have h := ho.out; rw [HN.out, List.take_length] at h; exact h)
          have htl : (tblL rows).length ≤ 20000 := by rw [tblL_len HFit.out]; have := HN.out; omega
          have hsum := Sum_any wr u3 (tblL rows) (HP.out.below hB.out HP.out.lt) (by omega) (Dl.Ow.rb ho3.out)
          rw [sumA_sumL] at hsum
          obtain ⟨s, hs⟩ : ∃ s, s = sumL (tblL rows) := ⟨_, rfl⟩
          have hsl : s.length = 32 := by rw [hs, sumL_length]
          rw [← hs] at hsum
          have hidx : indexL rows = tblL rows ++ s := by rw [hs]; rfl
          obtain ⟨F, hF⟩ : ∃ F, F = sumA s := ⟨_, rfl⟩
          have hFs : F.size = 32 := by rw [hF, sumA_size]
          have hF1 : F.all (·.oneCell') = true := by rw [hF]; exact sumA_one s
          rw [← hF] at hsum
          have HSum := Lib.hid hsum; have HFs := Lib.hid hFs; have HF1 := Lib.hid hF1; have HIdx := Lib.hid hidx; have HF := Lib.hid hF; have Hsl := Lib.hid hsl; have Htl := Lib.hid htl
          have hge := Lib.hid (ow_ge ho3.out)
          obtain ⟨A3, N3, c3, rfl, -⟩ := own_shape ho3.out
          clear hsum hFs hF1 hidx hF hsl hs htl ho hlen
          go_wp2_with fail
          refine HSum.out.mono ?_
          rintro e w4 ⟨rfl, l4⟩
          obtain ⟨wa, hwa⟩ : ∃ wa, wa = w4.alloc (Obj.cells zs 44) := ⟨_, rfl⟩
          have ba : Blk wa w4.heap.size 44 zs := by rw [hwa]; exact Blk.new w4 _ _
          have la : Below w4.heap.size w4 wa := by rw [hwa]; exact below_new w4 _
          obtain ⟨wb, hwb⟩ : ∃ wb, wb = wa.setRow w4.heap.size F := ⟨_, rfl⟩
          have bb : Blk wb w4.heap.size 44 F := by rw [hwb]; exact setRow_heap wa _ _ _ _ _ ba
          have lb : Below wr.heap.size wr wb := by rw [hwb]; exact l4.trans ((below_setRow la (Nat.le_refl _) _).mono l4.size)
          have Ob : Hid (Dl.Ow wb (w.heap.size + 1) (.slice A3 N3 c3) (tblL rows)) := Lib.hid (ho3.out.below lb (Nat.le_refl _))
          have Rb' : Hid (Dl.Rb wb (.slice (some ⟨w4.heap.size, 0, none⟩) 32 32) s) := Lib.hid (by have h := bb; rw [HF.out] at h; exact rb_blk h Hsl.out)
          have Qb : Hid ((tblL rows).length + s.length ≤ 140737488355328) := Lib.hid (by have := Htl.out; have := Hsl.out; omega)
          have Sb : Hid (w.heap.size + 1 ≤ wb.heap.size) := Lib.hid (Nat.le_trans hBr lb.size)
          have HWa := Lib.hid hwa; have HWb := Lib.hid hwb; have Ba := Lib.hid ba
          have Lb : Hid (Below w.heap.size w wb) := Lib.hid (hB.out.trans (lb.mono hB.out.size))
          clear l4 hwa ba la hwb bb lb HSum
          go_wp2_with (first
            | (rw [← HWa.out]; refine wpList_store_row rfl 44 (.tmp 8) (.tmp 42) rfl w4.heap.size F rfl rfl 44 zs Ba.out (by rw [HFs.out]; kernel_rfl) (by rw [HFs.out, HSs.out]) HF1.out ?_; rw [← HWb.out])
            | (refine wpList_app' (o := ⟨some 45, _, _, _, _, _⟩) rfl _ _ rfl (w.heap.size + 1) _ _ (tblL rows) s rfl rfl Ob.out Rb'.out Qb.out Sb.out HIdx.out ?_))
          intro v5 w5 o5 f5
          obtain ⟨A5, N5, c5, rfl, hN5'⟩ := own_shape o5
          have O5 := Lib.hid o5; have HN5 := Lib.hid hN5'
          have L5 : Hid (Below w.heap.size w w5) := Lib.hid (Lb.out.trans ((app_own f5 hge.out Sb.out).mono (Nat.le_succ _)))
          clear o5 f5 hN5'
          go_wp2
          go_ret
          exact ⟨A5, N5, c5, rfl, HN5.out, ow_mono O5.out (Nat.le_succ _), L5.out⟩
end Go.Proofs.YtdjmcehoaneekaaDoor.Ix
