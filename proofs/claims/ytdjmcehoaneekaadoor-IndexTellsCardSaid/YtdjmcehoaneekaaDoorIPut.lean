/-
  The index: Put.
-/
import Derived.Test.YtdjmcehoaneekaaDoorISrt
import Derived.Test.YtdjmcehoaneekaaDoorIRd
import Derived.Test.YtdjmcehoaneekaaDoorSameO
namespace Go.Proofs.YtdjmcehoaneekaaDoor.Ix
open Go.Proofs.YtdjmcehoaneekaaDoor
open Go Go.RowKit

theorem wpList_bld {ops : Array Oper} {rest : List Oper} {o : Oper} {a : Go.Act} {w : World} {Q : Exit → Go.Act → World → Prop} (hgd : o.guard = none) (t : TypeId) (parts : Array (Nat × Operand)) (ho : o.op = .build t parts)
    (ps : Array (Nat × Value)) (hp : (parts.map fun (i, x) => (i, a.eval x)) = ps) (cells : Array Value) (h : (Instr.build t ps).run Tryd.prog w = .ok (.agg cells) w) (k : wpList Tryd.prog ops Q rest (a.put o.dst (.agg cells)) w) : wpList Tryd.prog ops Q (o :: rest) a w :=
  wpList_plain hgd fun K hK => by
    unfold Oper.wp
    rw [y_bld ho hp h]
    exact hK _ _ k
theorem wpList_bldS {ops : Array Oper} {rest : List Oper} {o : Oper} {a : Go.Act} {w w' : World} {Q : Exit → Go.Act → World → Prop} (hgd : o.guard = none) (t : TypeId) (n : Nat) (parts : Array (Nat × Operand)) (ho : o.op = .buildSlice t n parts)
    (ps : Array (Nat × Value)) (hp : (parts.map fun (i, x) => (i, a.eval x)) = ps) (r : Value) (h : (Instr.buildSlice t n ps).run Tryd.prog w = .ok r w') (k : wpList Tryd.prog ops Q rest (a.put o.dst r) w') : wpList Tryd.prog ops Q (o :: rest) a w :=
  wpList_plain hgd fun K hK => by
    unfold Oper.wp
    rw [y_bldS ho hp h]
    exact hK _ _ k

/-- What Put gives. -/
def PutPost (ids : List Bs) (w : World) (e : Ending) (w' : World) : Prop :=
  Below w.heap.size w w' ∧ ((∃ n : Nat, putE ids = some n ∧ e = .returned (.tuple #[.slice none 0 0, .int .i64 (n : Int)])) ∨
    (putE ids = none ∧ ∃ rows A N c, Srt ids rows ∧ e = .returned (.tuple #[.slice A N c, .int .i64 0]) ∧ N = (indexL rows).length ∧ Dl.Ow w' w.heap.size (.slice A N c) (indexL rows)))
theorem StrsR.cell {w : World} {g o n c : Nat} {l : List Bs} (h : StrsR w (.slice (some ⟨g, o, none⟩) n c) l) (k : Nat) (x : Bs) (hk : l[k]? = some x) : w.cell? ⟨g, o + k, none⟩ = some (SV x) := by
  obtain ⟨hlt, _⟩ := List.getElem?_eq_some_iff.1 hk
  rcases h with ⟨_, rfl⟩ | ⟨g', o', c', e, hc, hg, hcell⟩
  · simp at hlt
  · cases e
    have := hcell k hlt x hk 0 (by omega)
    rw [Nat.mul_one, Nat.add_zero] at this
    rw [this]; rfl
theorem take_rows {ids : List Bs} {k : Nat} {x : Bs} (h : ids[k]? = some x) : rowsOf (ids.take (k + 1)) = rowsOf (ids.take k) ++ [⟨rawL x, k⟩] := by
  have hk : k < ids.length := (List.getElem?_eq_some_iff.1 h).1
  rw [List.take_add_one, h, Option.toList_some, rowsOf_snoc, List.length_take, Nat.min_eq_left (by omega)]
theorem putE_big {ids : List Bs} (h : 512 < ids.length) : putE ids = some 2 := by unfold putE; rw [if_pos h]
theorem putE_bad {ids : List Bs} {k : Nat} {x : Bs} (h : ids.length ≤ 512) (hk : ids[k]? = some x) (hx : namedB x = false) : putE ids = some 1 := by
  unfold putE
  rw [if_neg (by omega), if_neg]
  intro ha
  have := List.all_eq_true.1 ha x (List.mem_of_getElem? hk)
  rw [hx] at this; cases this
theorem putE_two {ids : List Bs} (h : ids.length ≤ 512) (hn : ids.all namedB = true) (hd : ¬ (ids.map rawL).Nodup) : putE ids = some 91 := by
  unfold putE; rw [if_neg (by omega), if_pos hn, if_neg hd]
theorem but_below {w w' : World} {B : Nat} {v : Value} {l : List Rw} (ho : OwK 48 33 rowC w B v l) (h : Dl.But (fun k => v.ownBlock = some k) w w') (hB : B ≤ w.heap.size) : Below B w w' :=
  ⟨h.os, h.tape, h.output, h.size, fun k hk => h.block k (by omega) (fun e => by have := (ho.lt k e).1; omega)⟩
theorem rows_lt {ids : List Bs} {m : List Rw} (hp : m.Perm (rowsOf ids)) (hl : ids.length ≤ 512) : ∀ r ∈ m, r.place < 65536 := fun r hr => by
  obtain ⟨i, hi⟩ := List.getElem?_of_mem (hp.mem_iff.1 hr)
  have hlt : i < ids.length := by have := (List.getElem?_eq_some_iff.1 hi).1; rwa [rowsOf_len] at this
  rw [rowsOf_get, List.getElem?_eq_getElem hlt] at hi
  have e : r = ⟨rawL ids[i], i⟩ := (Option.some.inj hi).symm
  rw [e]; show i < 65536; omega
set_option maxRecDepth 100000 in
set_option maxHeartbeats 4000000 in
theorem Put_any {w : World} {v : Value} {ids : List Bs} (hp : Pr w) (hv : StrsR w v ids) (hm : ∀ x ∈ ids, x.length ≤ maxLen) (hl : ids.length ≤ 1000000) : Calls Tryd.prog 11 #[v] w (PutPost ids w) := by
  obtain ⟨A, c, rfl⟩ := hv.shape
  obtain ⟨N, hN⟩ : ∃ N, N = ids.length := ⟨_, rfl⟩
  rw [← hN] at hl ⊢
  by_cases hbig : 512 < N
  · have d1 : decide ((512 : Int) < (N : Int)) = true := decide_eq_true (by omega)
    have hbi : (512 : Int) < (N : Int) := by omega
    have HE : Hid (putE ids = some 2) := Lib.hid (putE_big (by omega))
    clear hv hN hm hp hbig
    go_enter Tryd.func11, Tryd.ntmps11
    go_wp2
    go_ret2
    exact ⟨Below.refl _ _, .inl ⟨2, HE.out, rfl⟩⟩
  · have d1 : decide ((512 : Int) < (N : Int)) = false := decide_eq_false (by omega)
    have hN5 : N ≤ 512 := by omega
    have HV : Hid (StrsR w (.slice A N c) ids) := Lib.hid (by rw [hN]; exact hv)
    have HN := Lib.hid hN; have HM := Lib.hid hm; have HP := Lib.hid hp
    have HO0 : Hid (OwK 48 33 rowC w w.heap.size (.slice none 0 0) (rowsOf (ids.take 0))) := Lib.hid (World.ownsRow_nil w _ _ _)
    clear hv hN hm hp hbig hl
    go_enter Tryd.func11, Tryd.ntmps11
    go_wp2
    go_loopw [4, 5, 6, 14] (fun z _ _ i wr => ∃ k : Nat, k ≤ N ∧ i = .int .i64 k ∧ Hid (Below w.heap.size w wr) ∧ Hid (OwK 48 33 rowC wr w.heap.size z (rowsOf (ids.take k))) ∧ Hid ((ids.take k).all namedB = true)) (fun _ _ _ i _ => N - (intOf i).toNat)
    case atStart => exact ⟨0, Nat.zero_le _, rfl, Lib.hid (Below.refl _ _), HO0, Lib.hid rfl⟩
    case round =>
      clear HO0
      obtain ⟨k, hk, rfl, hB, ho, hnm⟩ := hrel
      by_cases hlt : k < N
      · obtain ⟨g, o, c', e, _, hg⟩ := HV.out.pos (by have := HN.out; omega)
        obtain ⟨rfl, -, -⟩ : A = some ⟨g, o, none⟩ ∧ True ∧ True := by cases e; exact ⟨rfl, trivial, trivial⟩
        clear e
        obtain ⟨id, hid⟩ : ∃ id, ids[k]? = some id := ⟨_, List.getElem?_eq_getElem (by have := HN.out; omega)⟩
        have cid := (StrsR.cell HV.out k id hid)
        have cid : wr.cell? ⟨g, o + k, none⟩ = some (SV id) := by rw [hB.out.cell (p := ⟨g, o + k, none⟩) hg]; exact cid
        have hnamed := Named_any id wr (HM.out id (List.mem_of_getElem? hid))
        unfold SV at cid hnamed
        cases hb : namedB id with
        | false =>
          rw [hb] at hnamed
          have HNm := Lib.hid hnamed
          have HE : Hid (putE ids = some 1) := Lib.hid (putE_bad (by have := HN.out; omega) hid hb)
          have LB := Lib.hid hB.out
          clear hnamed hb hid ho hnm hB
          go_wp2_with fail
          refine HNm.out.mono ?_
          rintro e w2 ⟨rfl, rfl⟩
          go_wp2
          go_ret2
          exact ⟨LB.out, .inl ⟨1, HE.out, rfl⟩⟩
        | true =>
          rw [hb] at hnamed
          have HNm := Lib.hid hnamed
          have hid64 := named_len hb
          have hsum := sumOf_any wr id hid64
          unfold SV at hsum
          obtain ⟨S, hS⟩ : ∃ S, S = sumA (rawL id) := ⟨_, rfl⟩
          rw [← hS] at hsum
          have HSum := Lib.hid hsum
          obtain ⟨r, hr⟩ : ∃ r : Rw, r = ⟨rawL id, k⟩ := ⟨_, rfl⟩
          obtain ⟨F, hF⟩ : ∃ F, F = rowA r := ⟨_, rfl⟩
          have HBld : Hid (∀ W, (Instr.build 48 #[(0, .agg S), (1, .int .i64 (k : Int))]).run Tryd.prog W = .ok (.agg F) W) := Lib.hid fun W => by rw [hF, hr, hS]; exact bld_row W _ _
          have HBdS : Hid (∀ W, (Instr.buildSlice 42 1 #[(0, .agg F)]).run Tryd.prog W = .ok (.slice (some ⟨W.heap.size, 0, none⟩) 1 1) (W.alloc (.cells F 48))) := Lib.hid fun W => by rw [hF]; exact bldS_row W r
          have HFc : Hid (F = (rowC r).toArray) := Lib.hid (by rw [hF]; unfold rowC; simp)
          have HNext : Hid (rowsOf (ids.take k) ++ [r] = rowsOf (ids.take (k + 1))) := Lib.hid (by rw [take_rows hid, hr])
          have HAll : Hid ((ids.take (k + 1)).all namedB = true) := Lib.hid (by rw [List.take_add_one, hid, Option.toList_some, List.all_append, hnm.out]; simp [hb])
          have HLen : Hid ((rowsOf (ids.take k)).length + 1 ≤ 1000000) := Lib.hid (by rw [rowsOf_len, List.length_take]; omega)
          clear hnamed hb hid64 hsum hS hr hF hid hnm
          go_wp2_with fail
          refine HNm.out.mono ?_
          rintro e w2 ⟨rfl, rfl⟩
          go_wp2_with fail
          refine HSum.out.mono ?_
          rintro e w4 ⟨rfl, l4⟩
          have HO4 : Hid (OwK 48 33 rowC w4 w.heap.size u4 (rowsOf (ids.take k))) := Lib.hid (OwK.below ho.out l4 (Nat.le_refl _))
          have L4 : Hid (Below w.heap.size w w4) := Lib.hid (hB.out.trans (l4.mono hB.out.size))
          clear l4 ho
          go_wp2_with (first
            | (refine wpList_bld rfl 48 #[(0, .tmp 24), (1, .tmp 25)] rfl #[(0, .agg S), (1, .int .i64 (k : Int))] (by kernel_rfl) F (HBld.out _) ?_)
            | (refine wpList_bldS rfl 42 1 #[(0, .tmp 26)] rfl #[(0, .agg F)] (by kernel_rfl) _ (HBdS.out _) ?_; refine wpList_one rowK rfl (.tmp 22) (.tmp 27) rfl w.heap.size _ (rowsOf (ids.take k)) r F HFc.out rfl rfl HO4.out HLen.out (by decide) L4.out.size ?_))
          intro v5 w5 o5 l5
          have H1 : Hid (Below w.heap.size w w5) := Lib.hid (L4.out.trans l5)
          have H2 : Hid (OwK 48 33 rowC w5 w.heap.size v5 (rowsOf (ids.take (k + 1)))) := Lib.hid (by rw [← HNext.out]; exact o5)
          clear l5 o5
          go_wp2
          go_roundw
          case rel => exact ⟨k + 1, by omega, by go_num, H1, H2, HAll⟩
          case measure => simp [intOf]; omega
      · have hkN : k = N := by omega
        subst hkN
        have hall : ids.all namedB = true := by have h := hnm.out; rwa [HN.out, List.take_length] at h
        have ho2 : OwK 48 33 rowC wr w.heap.size u4 (rowsOf ids) := by have h := ho.out; rwa [HN.out, List.take_length] at h
        have hs := sortRows_any ho2 (fit_rowsFrom 0 ids) (by rw [rowsOf_len]; have := HN.out; omega)
        have HO2 := Lib.hid ho2; have HAll := Lib.hid hall; have HSo := Lib.hid hs
        obtain ⟨A4, c4, rfl⟩ := (own_rd rowC_len ho2).shape
        obtain ⟨M, hM⟩ : ∃ M, M = (rowsOf ids).length := ⟨_, rfl⟩
        rw [← hM] at HO2 HSo ⊢
        have HMM := Lib.hid hM
        clear hall ho2 hs ho hnm hM
        go_wp2_with fail
        refine HSo.out.mono ?_
        rintro e w2 ⟨rfl, m, hpm, hsr, om, bm⟩
        have lm : Below w.heap.size wr w2 := but_below HO2.out bm hB.out.size
        have hfm : Fit m := (fit_rowsFrom 0 ids).perm hpm.symm
        have hml : m.length ≤ 512 := by rw [hpm.length_eq, rowsOf_len]; have := HN.out; omega
        have hMm : M = m.length := by rw [HMM.out, hpm.length_eq]
        have hplm := rows_lt hpm (by have := HN.out; omega)
        have hvm : RowsR w2 (.slice A4 M c4) m := OwnRows.rows om
        have ht := tableOf_any hvm hfm hml
        obtain ⟨hs1, hs2⟩ := srt_of hpm hsr
        have L2 : Hid (Below w.heap.size w w2) := Lib.hid (hB.out.trans lm)
        have HVm := Lib.hid hvm; have HFm := Lib.hid hfm; have HMl := Lib.hid hml; have HMm := Lib.hid hMm; have HPlm := Lib.hid hplm; have HT := Lib.hid ht; have HS1 := Lib.hid hs1; have HS2 := Lib.hid hs2
        have hzt := zeroTbl.1
        obtain ⟨zt, hzt0⟩ : ∃ z, z = zTbl := ⟨_, rfl⟩
        rw [← hzt0] at hzt
        have hs9 : zt.size = 257 := by rw [hzt0, zTbl_size]
        have HZs := Lib.hid hs9
        have HZ1 : Hid (zt.all (·.oneCell') = true) := Lib.hid (by rw [hzt0]; exact zTbl_one)
        have HZt := Lib.hid hzt0
        clear hpm hsr om bm lm hfm hml hMm hplm hvm ht hs1 hs2 hzt0 hs9 HSo HO2
        go_wp2_with fail
        refine HT.out.mono ?_
        rintro e w4 ⟨l4, hh⟩
        have L4 : Hid (Below w.heap.size w w4) := Lib.hid (L2.out.trans (l4.mono L2.out.size))
        have HV4 : Hid (RowsR w4 (.slice A4 M c4) m) := Lib.hid (HVm.out.below l4 (Nat.le_refl _))
        clear l4
        obtain ⟨wa, hwa⟩ : ∃ wa, wa = w4.alloc (Obj.cells zt 52) := ⟨_, rfl⟩
        have ba : Blk wa w4.heap.size 52 zt := by rw [hwa]; exact Blk.new w4 _ _
        have la : Below w4.heap.size w4 wa := by rw [hwa]; exact below_new w4 _
        have HWa := Lib.hid hwa; have Ba := Lib.hid ba; have La := Lib.hid la
        clear hwa ba la
        rcases hh with ⟨hri, rfl⟩ | ⟨hri, rfl⟩
        · obtain ⟨T, hT⟩ : ∃ T, T = tblA (upToN m) (.slice A4 M c4) := ⟨_, rfl⟩
          rw [← hT]
          have hTs : T.size = 257 := by rw [hT, tblA_size]
          have hT1 : T.all (·.oneCell') = true := by rw [hT]; exact tblA_one _ _ _ _
          have HTs := Lib.hid hTs; have HT1 := Lib.hid hT1
          have HSrt := Lib.hid (HS2.out hri)
          have HE : Hid (putE ids = none) := Lib.hid (putE_none.2 ⟨by have := HN.out; omega, HAll.out, HS1.out.1 hri⟩)
          obtain ⟨wb, hwb⟩ : ∃ wb, wb = wa.setRow w4.heap.size T := ⟨_, rfl⟩
          have bb : Blk wb w4.heap.size 52 T := by rw [hwb]; exact setRow_heap wa _ _ _ _ _ Ba.out
          have lb : Below w4.heap.size w4 wb := by rw [hwb]; exact below_setRow La.out (Nat.le_refl _) _
          have HWb := Lib.hid hwb; have Bb := Lib.hid bb
          have hWr : Calls Tryd.prog 26 #[.agg T] wb (OwnN (indexL m) wb) := by
            rw [hT]
            exact written_any ((HP.out.below L4.out HP.out.lt).below lb (Nat.lt_of_lt_of_le HP.out.lt L4.out.size)) (HV4.out.below lb (Nat.le_refl _)) HFm.out HMl.out HPlm.out
          have HWr := Lib.hid hWr
          have Lb : Hid (Below w.heap.size w wb) := Lib.hid (L4.out.trans (lb.mono L4.out.size))
          clear hT hTs hT1 hri hwb bb lb hWr
          go_wp2_with (first
            | (rw [← HWa.out]; refine wpList_store_row rfl 52 (.tmp 7) (.tmp 35) rfl w4.heap.size T rfl rfl 52 zt Ba.out (by rw [HTs.out]; kernel_rfl) (by rw [HZs.out, HTs.out]) HT1.out ?_; rw [← HWb.out])
            | (refine wpList_load_row rfl 52 (.tmp 7) rfl w4.heap.size rfl 52 T (0, 0) _ Bb.out Tryd.underlying52 rfl (by rw [HTs.out]; kernel_rfl) ?_))
          refine HWr.out.mono ?_
          rintro e w5 ⟨A5, N5, c5, rfl, hN5, o5, l5⟩
          have HN5 := Lib.hid hN5; have HO5 : Hid (Dl.Ow w5 w.heap.size (.slice A5 N5 c5) (indexL m)) := Lib.hid (ow_mono o5 Lb.out.size)
          have L5 : Hid (Below w.heap.size w w5) := Lib.hid (Lb.out.trans (l5.mono Lb.out.size))
          clear hN5 o5 l5
          go_wp2
          go_ret2
          exact ⟨L5.out, .inr ⟨HE.out, m, A5, N5, c5, HSrt.out, rfl, HN5.out, HO5.out⟩⟩
        · have HE : Hid (putE ids = some 91) := Lib.hid (putE_two (by have := HN.out; omega) HAll.out (fun h => by have := HS1.out.2 h; rw [hri] at this; cases this))
          have hzz : zTbl = zt := HZt.out.symm
          rw [hzz]
          have L4a : Hid (Below w.heap.size w wa) := Lib.hid (L4.out.trans (La.out.mono L4.out.size))
          clear hri hzz
          go_wp2_with (rw [← HWa.out]; refine wpList_store_row rfl 52 (.tmp 7) (.tmp 35) rfl w4.heap.size zt rfl rfl 52 zt Ba.out (by rw [HZs.out]; kernel_rfl) rfl HZ1.out ?_; rw [setRow_self _ _ _ _ _ Ba.out])
          go_ret2
          exact ⟨L4a.out, .inl ⟨91, HE.out, rfl⟩⟩
end Go.Proofs.YtdjmcehoaneekaaDoor.Ix
