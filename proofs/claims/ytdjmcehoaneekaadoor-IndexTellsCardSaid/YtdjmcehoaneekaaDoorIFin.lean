/-
  The index: Find, Right, All.
-/
import Derived.Test.YtdjmcehoaneekaaDoorIPut
import Derived.Test.YtdjmcehoaneekaaDoorIFnd
namespace Go.Proofs.YtdjmcehoaneekaaDoor.Ix
open Go.Proofs.YtdjmcehoaneekaaDoor
open Go Go.RowKit

/-- What is told of a name. -/
def findB (b : Bs) (id : Bs) : Option Nat := match readI b with | some rows => findE rows id | none => none
def allB (b : Bs) : List Bs := match readI b with | some rows => allI rows | none => []
theorem findB_some {b id : Bs} {rows : List Rw} (h : readI b = some rows) : findB b id = findE rows id := by unfold findB; rw [h]
theorem findB_none {b id : Bs} (h : readI b = none) : findB b id = none := by unfold findB; rw [h]
theorem allB_some {b : Bs} {rows : List Rw} (h : readI b = some rows) : allB b = allI rows := by unfold allB; rw [h]
theorem allB_none {b : Bs} (h : readI b = none) : allB b = [] := by unfold allB; rw [h]
set_option maxRecDepth 100000 in
set_option maxHeartbeats 4000000 in
theorem Right_any {w : World} {v : Value} {b : Bs} (hp : Pr w) (hv : Rb w v b) (hl : b.length ≤ 1000000) : Calls Tryd.prog 15 #[v] w (BoolP (readI b).isSome w) := by
  have hr := read_any hp hv hl
  obtain ⟨A, c, rfl⟩ := hv.shape
  have HR := Lib.hid hr
  have hzt := zeroTbl.1
  obtain ⟨zt, hzt0⟩ : ∃ z, z = zTbl := ⟨_, rfl⟩
  rw [← hzt0] at hzt
  have hs9 : zt.size = 257 := by rw [hzt0, zTbl_size]
  have HZs := Lib.hid hs9
  have HZt := Lib.hid hzt0
  obtain ⟨L, hL⟩ : ∃ L, L = b.length := ⟨_, rfl⟩
  rw [← hL] at HR ⊢
  clear hp hv hl hr hzt0 hs9 hL
  go_enter Tryd.func15, Tryd.ntmps15
  go_wp2_with fail
  refine HR.out.mono ?_
  rintro e w2 ⟨l2, hh⟩
  have L2 := Lib.hid l2
  clear l2
  obtain ⟨wa, hwa⟩ : ∃ wa, wa = w2.alloc (Obj.cells zt 52) := ⟨_, rfl⟩
  have ba : Blk wa w2.heap.size 52 zt := by rw [hwa]; exact Blk.new w2 _ _
  have la : Below w2.heap.size w2 wa := by rw [hwa]; exact below_new w2 _
  have HWa := Lib.hid hwa; have Ba := Lib.hid ba; have La := Lib.hid la
  clear hwa ba la
  have key : ∀ (T : Array Value) (q : Bool), T.size = 257 → T.all (·.oneCell') = true → True := fun _ _ _ _ => trivial
  clear key
  rcases hh with ⟨rows, v, hrd, rfl, -, A2, c2, hv2⟩ | ⟨hrd, rfl⟩
  · obtain ⟨T, hT⟩ : ∃ T, T = tblA (upToN rows) v := ⟨_, rfl⟩
    rw [← hT]
    have HTs : Hid (T.size = 257) := Lib.hid (by rw [hT, tblA_size])
    have HT1 : Hid (T.all (·.oneCell') = true) := Lib.hid (by rw [hT, hv2]; exact tblA_one _ _ _ _)
    have HE : Hid ((readI b).isSome = true) := Lib.hid (by rw [hrd]; rfl)
    clear hrd hT hv2
    go_wp2_with (rw [← HWa.out]; refine wpList_store_row rfl 52 (.tmp 3) (.tmp 8) rfl w2.heap.size T rfl rfl 52 zt Ba.out (by rw [HTs.out]; kernel_rfl) (by rw [HZs.out, HTs.out]) HT1.out ?_)
    go_ret
    exact ⟨ret_bool HE.out.symm, L2.out.trans ((below_setRow La.out (Nat.le_refl _) _).mono L2.out.size)⟩
  · have HE : Hid ((readI b).isSome = false) := Lib.hid (by rw [hrd]; rfl)
    have hzz : zTbl = zt := HZt.out.symm
    have HZ1 : Hid (zt.all (·.oneCell') = true) := Lib.hid (by rw [← hzz]; exact zTbl_one)
    rw [hzz]
    clear hrd hzz
    go_wp2_with (rw [← HWa.out]; refine wpList_store_row rfl 52 (.tmp 3) (.tmp 8) rfl w2.heap.size zt rfl rfl 52 zt Ba.out (by rw [HZs.out]; kernel_rfl) rfl HZ1.out ?_; rw [setRow_self _ _ _ _ _ Ba.out])
    go_ret
    exact ⟨ret_bool HE.out.symm, L2.out.trans (La.out.mono L2.out.size)⟩

set_option maxRecDepth 100000 in
set_option maxHeartbeats 4000000 in
theorem Find_any {w : World} {v : Value} {b id : Bs} (hp : Pr w) (hv : Rb w v b) (hl : b.length ≤ 1000000) (hid : id.length ≤ maxLen) : Calls Tryd.prog 13 #[v, SV id] w (FndP (findB b id) w) := by
  have hr := read_any hp hv hl
  obtain ⟨A, c, rfl⟩ := hv.shape
  have HR := Lib.hid hr
  have HNm := Lib.hid (fun W => Named_any id W hid)
  have hzt := zeroTbl.1
  obtain ⟨zt, hzt0⟩ : ∃ z, z = zTbl := ⟨_, rfl⟩
  rw [← hzt0] at hzt
  have hs9 : zt.size = 257 := by rw [hzt0, zTbl_size]
  have HZs := Lib.hid hs9
  have HZt := Lib.hid hzt0
  obtain ⟨L, hL⟩ : ∃ L, L = b.length := ⟨_, rfl⟩
  rw [← hL] at HR ⊢
  unfold SV at HNm ⊢
  clear hp hv hl hr hzt0 hs9 hL hid
  go_enter Tryd.func13, Tryd.ntmps13
  go_wp2_with fail
  refine HR.out.mono ?_
  rintro e w2 ⟨l2, hh⟩
  have L2 := Lib.hid l2
  clear l2
  obtain ⟨wa, hwa⟩ : ∃ wa, wa = w2.alloc (Obj.cells zt 52) := ⟨_, rfl⟩
  have ba : Blk wa w2.heap.size 52 zt := by rw [hwa]; exact Blk.new w2 _ _
  have la : Below w2.heap.size w2 wa := by rw [hwa]; exact below_new w2 _
  have HWa := Lib.hid hwa; have Ba := Lib.hid ba; have La := Lib.hid la
  clear hwa ba la
  rcases hh with ⟨rows, v, hrd, rfl, hvr, A2, c2, rfl⟩ | ⟨hrd, rfl⟩
  · obtain ⟨T, hT⟩ : ∃ T, T = tblA (upToN rows) (.slice A2 rows.length c2) := ⟨_, rfl⟩
    rw [← hT]
    have HTs : Hid (T.size = 257) := Lib.hid (by rw [hT, tblA_size])
    have HT1 : Hid (T.all (·.oneCell') = true) := Lib.hid (by rw [hT]; exact tblA_one _ _ _ _)
    have his := readI_is hrd
    obtain ⟨wb, hwb⟩ : ∃ wb, wb = wa.setRow w2.heap.size T := ⟨_, rfl⟩
    have bb : Blk wb w2.heap.size 52 T := by rw [hwb]; exact setRow_heap wa _ _ _ _ _ Ba.out
    have lb : Below w2.heap.size w2 wb := by rw [hwb]; exact below_setRow La.out (Nat.le_refl _) _
    have HWb := Lib.hid hwb; have Bb := Lib.hid bb
    have Lb : Hid (Below w.heap.size w wb) := Lib.hid (L2.out.trans (lb.mono L2.out.size))
    cases hn : namedB id with
    | false =>
      have HE : Hid (findB b id = none) := Lib.hid (by rw [findB_some hrd]; unfold findE; rw [hn]; rfl)
      have HN2 : Hid (∀ W, Calls Tryd.prog 22 #[.string ⟨id.toArray⟩] W fun e w' => e = .returned (.bool false) ∧ W = w') := Lib.hid fun W => by have h := HNm.out W; rwa [hn] at h
      clear hrd hT his hwb bb lb hn hvr HNm
      go_wp2_with (rw [← HWa.out]; refine wpList_store_row rfl 52 (.tmp 6) (.tmp 11) rfl w2.heap.size T rfl rfl 52 zt Ba.out (by rw [HTs.out]; kernel_rfl) (by rw [HZs.out, HTs.out]) HT1.out ?_; rw [← HWb.out])
      refine (HN2.out _).mono ?_
      rintro e w5 ⟨rfl, rfl⟩
      go_wp2
      go_ret2
      exact ⟨by rw [HE.out]; rfl, Lb.out⟩
    | true =>
      have hE : findB b id = findI rows (rawL id) := by rw [findB_some hrd]; unfold findE; rw [if_pos hn]
      have HN2 : Hid (∀ W, Calls Tryd.prog 22 #[.string ⟨id.toArray⟩] W fun e w' => e = .returned (.bool true) ∧ W = w') := Lib.hid fun W => by have h := HNm.out W; rwa [hn] at h
      obtain ⟨S, hS⟩ : ∃ S, S = sumA (rawL id) := ⟨_, rfl⟩
      have HSum : Hid (∀ W, Calls Tryd.prog 23 #[.string ⟨id.toArray⟩] W fun e w' => e = .returned (.agg S) ∧ Below W.heap.size W w') := Lib.hid fun W => by rw [hS]; exact sumOf_any W id (named_len hn)
      have HPl : Hid (∀ W, Below wb.heap.size wb W → Calls Tryd.prog 32 #[.agg T, .agg S] W (FndP (findB b id) W)) := Lib.hid fun W hW => by
        rw [hT, hS, hE]
        exact place_any ((hvr.below lb (Nat.le_refl _)).below hW (Nat.le_refl _)) his.fit his.rise his.few (rawL_len id)
      have HAg : Hid (Agg Tryd.prog 52 T.size) := Lib.hid (by rw [HTs.out]; exact aggTbl)
      clear hrd hT his hwb bb lb hn hvr HNm hE hS
      go_wp2_with (rw [← HWa.out]; refine wpList_store_row rfl 52 (.tmp 6) (.tmp 11) rfl w2.heap.size T rfl rfl 52 zt Ba.out (by rw [HTs.out]; kernel_rfl) (by rw [HZs.out, HTs.out]) HT1.out ?_; rw [← HWb.out])
      refine (HN2.out _).mono ?_
      rintro e w5 ⟨rfl, rfl⟩
      go_wp2_with fail
      refine AnyB.start (by kernel_rfl) ?_
      refine AnyB.take 0 (.agg T) rfl (by kernel_rfl) (by kernel_rfl) (by kernel_rfl) (fun _ _ _ h => h) (by kernel_rfl) (fun W hW => y_load (sv := .pointer (some ⟨w2.heap.size, 0, none⟩)) rfl (by kernel_rfl) (loadAt_at HAg.out ((Blk.at Bb.out).below (Below.mono (w := wb) ⟨hW.os, hW.tape, hW.output, hW.size, hW.block⟩ (Nat.le_refl _)) Bb.out.lt))) ?_
      refine AnyB.take 1 (.string ⟨id.toArray⟩) rfl (by kernel_rfl) (by kernel_rfl) (by kernel_rfl) (fun _ _ _ h => h) (by kernel_rfl) (fun W hW => by kernel_rfl) ?_
      refine AnyB.call 2 23 #[.string ⟨id.toArray⟩] (by kernel_rfl) rfl (by kernel_rfl) (by kernel_rfl) ?_
      refine (HSum.out _).mono ?_
      rintro e w6 ⟨rfl, l6⟩
      have L6 : Hid (Below wb.heap.size wb w6) := Lib.hid ⟨l6.os, l6.tape, l6.output, l6.size, l6.block⟩
      refine ⟨.agg S, rfl, l6, ?_⟩
      clear l6
      refine AnyB.call 3 32 #[.agg T, .agg S] (by kernel_rfl) rfl (by kernel_rfl) (by kernel_rfl) ?_
      refine (HPl.out _ L6.out).mono ?_
      rintro e w7 ⟨rfl, l7⟩
      have L7 : Hid (Below w.heap.size w w7) := Lib.hid (Lb.out.trans ((L6.out.trans (l7.mono L6.out.size)).mono Lb.out.size))
      refine ⟨findV (findB b id), rfl, l7, ?_⟩
      clear l7 HPl
      cases hfb : findB b id with
      | none =>
        unfold findV
        refine AnyB.take 4 (.int .i64 0) rfl (by kernel_rfl) (by kernel_rfl) (by kernel_rfl) (fun _ _ _ h => h) (by kernel_rfl) (fun W hW => by kernel_rfl) ?_
        refine AnyB.take 5 (.bool false) rfl (by kernel_rfl) (by kernel_rfl) (by kernel_rfl) (fun _ _ _ h => h) (by kernel_rfl) (fun W hW => by kernel_rfl) ?_
        refine AnyB.take 6 (.int .i64 0) rfl (by kernel_rfl) (by kernel_rfl) (by kernel_rfl) (fun _ _ _ h => h) (by kernel_rfl) (fun W hW => by kernel_rfl) ?_
        refine AnyB.take 7 (.bool false) rfl (by kernel_rfl) (by kernel_rfl) (by kernel_rfl) (fun _ _ _ h => h) (by kernel_rfl) (fun W hW => by kernel_rfl) ?_
        refine AnyB.done _ (by kernel_rfl) ?_
        have Hfb := Lib.hid hfb
        clear hfb
        go_simp
        go_wp2
        go_ret2
        exact ⟨by rw [Hfb.out]; rfl, L7.out⟩
      | some p =>
        unfold findV
        refine AnyB.take 4 (.int .i64 (p : Int)) rfl (by kernel_rfl) (by kernel_rfl) (by kernel_rfl) (fun _ _ _ h => h) (by kernel_rfl) (fun W hW => by kernel_rfl) ?_
        refine AnyB.take 5 (.bool true) rfl (by kernel_rfl) (by kernel_rfl) (by kernel_rfl) (fun _ _ _ h => h) (by kernel_rfl) (fun W hW => by kernel_rfl) ?_
        refine AnyB.take 6 (.int .i64 (p : Int)) rfl (by kernel_rfl) (by kernel_rfl) (by kernel_rfl) (fun _ _ _ h => h) (by kernel_rfl) (fun W hW => by kernel_rfl) ?_
        refine AnyB.take 7 (.bool true) rfl (by kernel_rfl) (by kernel_rfl) (by kernel_rfl) (fun _ _ _ h => h) (by kernel_rfl) (fun W hW => by kernel_rfl) ?_
        refine AnyB.done _ (by kernel_rfl) ?_
        have Hfb := Lib.hid hfb
        clear hfb
        go_simp
        go_wp2
        go_ret2
        exact ⟨by rw [Hfb.out]; rfl, L7.out⟩
  · have HE : Hid (findB b id = none) := Lib.hid (findB_none hrd)
    have hzz : zTbl = zt := HZt.out.symm
    have HZ1 : Hid (zt.all (·.oneCell') = true) := Lib.hid (by rw [← hzz]; exact zTbl_one)
    rw [hzz]
    clear hrd hzz
    go_wp2_with (rw [← HWa.out]; refine wpList_store_row rfl 52 (.tmp 6) (.tmp 11) rfl w2.heap.size zt rfl rfl 52 zt Ba.out (by rw [HZs.out]; kernel_rfl) rfl HZ1.out ?_; rw [setRow_self _ _ _ _ _ Ba.out])
    go_ret2
    exact ⟨by rw [HE.out]; rfl, L2.out.trans (La.out.mono L2.out.size)⟩

theorem strInfo : (Tryd.prog.info? 9).map (fun i => (i.zero, i.size, i.bytes)) = some (some (.string ⟨#[]⟩), 1, 16) := by kernel_rfl
theorem strE : ElK 22 9 1 16 strC := ⟨Tryd.underlying22, ⟨_, strInfo, rfl⟩, by decide, fun _ => rfl, fun x u hu => by
  have : u = SV x := by simpa [strC] using hu
  rw [this]; rfl⟩
theorem own_mono {α : Type} {t : TypeId} {k : Nat} {f : α → List Value} {w : World} {base b : Nat} {v : Value} {l : List α} (h : OwK t k f w base v l) (hb : b ≤ base) : OwK t k f w b v l := by
  obtain ⟨h1, h2⟩ := h
  refine ⟨h1, ?_⟩
  rcases h2 with h2 | ⟨g, cap, cur, rfl, hbg, r⟩
  · exact .inl h2
  · exact .inr ⟨g, cap, cur, rfl, Nat.le_trans hb hbg, r⟩
/-- What All gives. -/
def AllPost (l : List Bs) (w : World) (e : Ending) (w' : World) : Prop := Below w.heap.size w w' ∧ ∃ v, e = .returned v ∧ OwK 9 1 strC w' w.heap.size v l
theorem allI_snoc {rows : List Rw} {k : Nat} {r : Rw} (h : rows[k]? = some r) : allI (rows.take (k + 1)) = allI (rows.take k) ++ [hexL r.sum] := by
  unfold allI; rw [take_snoc' h, List.map_append]; rfl
set_option maxRecDepth 100000 in
set_option maxHeartbeats 4000000 in
theorem All_any {w : World} {v : Value} {b : Bs} (hp : Pr w) (hv : Rb w v b) (hl : b.length ≤ 1000000) : Calls Tryd.prog 18 #[v] w (AllPost (allB b) w) := by
  have hr := read_any hp hv hl
  obtain ⟨A, c, rfl⟩ := hv.shape
  have HR := Lib.hid hr
  have hzt := zeroTbl.1
  obtain ⟨zt, hzt0⟩ : ∃ z, z = zTbl := ⟨_, rfl⟩
  rw [← hzt0] at hzt
  have hs9 : zt.size = 257 := by rw [hzt0, zTbl_size]
  have HZs := Lib.hid hs9
  have HZt := Lib.hid hzt0
  obtain ⟨zr, hzr0⟩ : ∃ z, z = zRow := ⟨_, rfl⟩
  have hzr := zeroRow.1
  rw [← hzr0] at hzr
  have hs1 : zr.size = 33 := by rw [hzr0, zRow_size]
  have HS1 := Lib.hid hs1
  obtain ⟨L, hL⟩ : ∃ L, L = b.length := ⟨_, rfl⟩
  rw [← hL] at HR ⊢
  clear hp hv hl hr hzt0 hs9 hL hzr0 hs1
  go_enter Tryd.func18, Tryd.ntmps18
  go_wp2_with fail
  refine HR.out.mono ?_
  rintro e w2 ⟨l2, hh⟩
  have L2 := Lib.hid l2
  clear l2
  obtain ⟨wa, hwa⟩ : ∃ wa, wa = w2.alloc (Obj.cells zt 52) := ⟨_, rfl⟩
  have ba : Blk wa w2.heap.size 52 zt := by rw [hwa]; exact Blk.new w2 _ _
  have la : Below w2.heap.size w2 wa := by rw [hwa]; exact below_new w2 _
  have HWa := Lib.hid hwa; have Ba := Lib.hid ba; have La := Lib.hid la
  clear hwa ba la
  rcases hh with ⟨rows, v, hrd, rfl, hvr, A2, c2, rfl⟩ | ⟨hrd, rfl⟩
  · obtain ⟨N, hN⟩ : ∃ N, N = rows.length := ⟨_, rfl⟩
    rw [← hN] at hvr
    obtain ⟨T, hT⟩ : ∃ T, T = tblA (upToN rows) (.slice A2 N c2) := ⟨_, rfl⟩
    rw [← hN, ← hT]
    have HTs : Hid (T.size = 257) := Lib.hid (by rw [hT, tblA_size])
    have HT1 : Hid (T.all (·.oneCell') = true) := Lib.hid (by rw [hT]; exact tblA_one _ _ _ _)
    have his := readI_is hrd
    have HFit := Lib.hid his.fit
    have hN5 : N ≤ 512 := by rw [hN]; exact his.few
    obtain ⟨wb, hwb⟩ : ∃ wb, wb = wa.setRow w2.heap.size T := ⟨_, rfl⟩
    have bb : Blk wb w2.heap.size 52 T := by rw [hwb]; exact setRow_heap wa _ _ _ _ _ Ba.out
    have lb : Below w2.heap.size w2 wb := by rw [hwb]; exact below_setRow La.out (Nat.le_refl _) _
    have cb : wb.cell? ⟨w2.heap.size, 256, none⟩ = some (.slice A2 N c2) := by rw [bb.cell, hT, tblA_rows]
    have HWb := Lib.hid hwb
    have Lb : Hid (Below w.heap.size w wb) := Lib.hid (L2.out.trans (lb.mono L2.out.size))
    have HV : Hid (RowsR wb (.slice A2 N c2) rows) := Lib.hid (hvr.below lb (Nat.le_refl _))
    have HN := Lib.hid hN
    have HE : Hid (allB b = allI rows) := Lib.hid (allB_some hrd)
    have HO0 : Hid (OwK 9 1 strC wb wb.heap.size (.slice none 0 0) (allI (rows.take 0))) := Lib.hid (World.ownsRow_nil wb _ _ _)
    clear hrd hT his hwb bb lb hvr hN
    go_wp2_with (rw [← HWa.out]; refine wpList_store_row rfl 52 (.tmp 3) (.tmp 11) rfl w2.heap.size T rfl rfl 52 zt Ba.out (by rw [HTs.out]; kernel_rfl) (by rw [HZs.out, HTs.out]) HT1.out ?_; rw [← HWb.out])
    clear cb
    go_loopw [5, 7, 16] (fun z _ i wr => ∃ k : Nat, k ≤ N ∧ i = .int .i64 k ∧ Hid (Below wb.heap.size wb wr) ∧ Hid (OwK 9 1 strC wr wb.heap.size z (allI (rows.take k)))) (fun _ _ i _ => N - (intOf i).toNat)
    case atStart => exact ⟨0, Nat.zero_le _, rfl, Lib.hid (Below.refl _ _), HO0⟩
    case round =>
      clear HO0
      obtain ⟨k, hk, rfl, hB, ho⟩ := hrel
      have LW : Hid (Below w.heap.size w wr) := Lib.hid (Lb.out.trans (hB.out.mono Lb.out.size))
      by_cases hlt : k < N
      · obtain ⟨g, o, c', e, _, hg⟩ := HV.out.pos (by have := HN.out; omega)
        obtain rfl : A2 = some ⟨g, o, none⟩ := by cases e; rfl
        clear e
        obtain ⟨r, hr⟩ : ∃ r, rows[k]? = some r := ⟨_, List.getElem?_eq_getElem (by have := HN.out; omega)⟩
        have h32 := HFit.out r (List.mem_of_getElem? hr)
        have hat := (HV.out.at k r hr).below hB.out hg
        have HSn := Lib.hid (allI_snoc hr)
        obtain ⟨F, hF⟩ : ∃ F, F = rowA r := ⟨_, rfl⟩
        obtain ⟨S, hS⟩ : ∃ S, S = sumA r.sum := ⟨_, rfl⟩
        have hFs : F.size = 33 := by rw [hF, rowA_size]
        have hF1 : F.all (·.oneCell') = true := by rw [hF]; exact rowA_one r
        rw [← hF] at hat
        have HAt := Lib.hid hat; have HFs := Lib.hid hFs; have HF1 := Lib.hid hF1; have HAg : Hid (Agg Tryd.prog 48 F.size) := Lib.hid (by rw [hFs]; exact aggRow)
        obtain ⟨wc, hwc⟩ : ∃ wc, wc = wr.alloc (Obj.cells zr 48) := ⟨_, rfl⟩
        have bc : Blk wc wr.heap.size 48 zr := by rw [hwc]; exact Blk.new wr _ _
        have lc : Below wr.heap.size wr wc := by rw [hwc]; exact below_new wr _
        obtain ⟨wd, hwd⟩ : ∃ wd, wd = wc.setRow wr.heap.size F := ⟨_, rfl⟩
        have bd : Blk wd wr.heap.size 48 F := by rw [hwd]; exact setRow_heap wc _ _ _ _ _ bc
        have ld : Below wr.heap.size wr wd := by rw [hwd]; exact below_setRow lc (Nat.le_refl _) _
        have AS : Hid (At wd wr.heap.size 0 S) := Lib.hid (by rw [hS]; rw [hF] at bd; exact Blk.rowSum bd)
        have HAg2 : Hid (Agg Tryd.prog 45 S.size) := Lib.hid (by rw [hS, sumA_size]; exact aggSum)
        have hnm := nameOf_any wd r.sum h32
        unfold SV at hnm
        rw [← hS] at hnm
        obtain ⟨nm, hnm0⟩ : ∃ nm, nm = hexL r.sum := ⟨_, rfl⟩
        rw [← hnm0] at hnm HSn
        have HNm := Lib.hid hnm; have HWc := Lib.hid hwc; have HWd := Lib.hid hwd; have Bc := Lib.hid bc
        have Ld : Hid (Below wb.heap.size wb wd) := Lib.hid (hB.out.trans (ld.mono hB.out.size))
        have HLen : Hid ((allI (rows.take k)).length + 1 ≤ 1000000) := Lib.hid (by unfold allI; rw [List.length_map]; have : (rows.take k).length ≤ k := take_len; omega)
        obtain ⟨z, hz⟩ : ∃ z, z = u5 := ⟨_, rfl⟩
        have HZ : Hid (OwK 9 1 strC wd wb.heap.size z (allI (rows.take k))) := Lib.hid (by rw [hz]; exact OwK.below ho.out ld (Nat.le_refl _))
        rw [← hz]
        clear hat hF hS hFs hF1 hwc bc lc hwd bd ld hnm hnm0 hr h32 hz ho
        go_wp2_with (first
          | (refine wpList_load_at rfl 48 (.tmp 18) rfl g (o + k * 33) rfl F HAg.out HAt.out ?_)
          | (rw [← HWc.out]; refine wpList_store_row rfl 48 (.tmp 7) (.tmp 19) rfl wr.heap.size F rfl rfl 48 zr Bc.out (by rw [HFs.out]; kernel_rfl) (by rw [HFs.out, HS1.out]) HF1.out ?_; rw [← HWd.out])
          | (refine wpList_load_at rfl 45 (.tmp 21) rfl wr.heap.size 0 rfl S HAg2.out AS.out ?_))
        refine HNm.out.mono ?_
        rintro e w5 ⟨rfl, l5⟩
        have HZ5 : Hid (OwK 9 1 strC w5 wb.heap.size z (allI (rows.take k))) := Lib.hid (OwK.below HZ.out l5 (Nat.le_refl _))
        have L5 : Hid (Below wb.heap.size wb w5) := Lib.hid (Ld.out.trans (l5.mono Ld.out.size))
        have SB : Hid (wb.heap.size ≤ w5.heap.size) := Lib.hid L5.out.size
        clear l5 HZ
        go_wp2_with (refine wpList_one strE rfl (.tmp 20) (.tmp 24) rfl wb.heap.size _ (allI (rows.take k)) nm #[.string ⟨nm.toArray⟩] rfl rfl rfl HZ5.out HLen.out (by decide) SB.out ?_)
        intro v6 w6 o6 l6
        have H1 : Hid (Below wb.heap.size wb w6) := Lib.hid (L5.out.trans l6)
        have H2 : Hid (OwK 9 1 strC w6 wb.heap.size v6 (allI (rows.take (k + 1)))) := Lib.hid (by rw [HSn.out]; exact o6)
        clear l6 o6
        go_wp2
        go_roundw
        case rel => exact ⟨k + 1, by omega, by go_num, H1, H2⟩
        case measure => simp [intOf]; omega
      · have hkN : k = N := by omega
        subst hkN
        have HO : Hid (OwK 9 1 strC wr w.heap.size u5 (allI rows)) := Lib.hid (by have h := ho.out; rw [HN.out, List.take_length] at h; exact own_mono h Lb.out.size)
        clear ho hB
        go_wp2
        go_ret
        exact ⟨LW.out, _, rfl, by rw [HE.out]; exact HO.out⟩
  · have HE : Hid (allB b = []) := Lib.hid (allB_none hrd)
    have hzz : zTbl = zt := HZt.out.symm
    have HZ1 : Hid (zt.all (·.oneCell') = true) := Lib.hid (by rw [← hzz]; exact zTbl_one)
    have cz : wa.cell? ⟨w2.heap.size, 256, none⟩ = some (.slice none 0 0) := by rw [Ba.out.cell, ← hzz]; exact tblA_rows _ _
    rw [hzz]
    have HB : Hid (Below w.heap.size w wa) := Lib.hid (L2.out.trans (La.out.mono L2.out.size))
    clear hrd hzz
    go_wp2_with (rw [← HWa.out]; refine wpList_store_row rfl 52 (.tmp 3) (.tmp 11) rfl w2.heap.size zt rfl rfl 52 zt Ba.out (by rw [HZs.out]; kernel_rfl) rfl HZ1.out ?_; rw [setRow_self _ _ _ _ _ Ba.out])
    refine wp_loop_rounds 1 ?_
    rw [rounds_succ]
    go_wp2
    go_ret
    exact ⟨HB.out, _, rfl, by rw [HE.out]; exact World.ownsRow_nil wa _ _ _⟩
end Go.Proofs.YtdjmcehoaneekaaDoor.Ix
