/-
  CutChain.
-/
import Derived.Test.YtialgldmogigfaaGreatDoorC30
import Derived.Test.YtialgldmogigfaaGreatDoorCSendO
namespace Go.Proofs.YtialgldmogigfaaGreatDoor.Ct
open Go.Proofs.YtialgldmogigfaaGreatDoor
open Go Go.RowKit Go.Maps

/-- At the outer loop's head. -/
structure CR (L : List Hld) (tips : List (List Bs)) (w wr : World) (vb vg : Value) (b g : List Bs) (j : Nat) : Prop where
  eq : b = (tips.take j).flatten
  hB : Below w.heap.size w wr
  rb : StrsR wr vb b
  wg : Win w.heap.size wr vg g
  lt : ∀ k, vg.ownBlock = some k → k < wr.heap.size
  ch : ChI L b g
  ln : b.length ≤ 200 * j
  el : ∀ x ∈ b, x.length ≤ 10000
theorem at_row (W : World) (g o n c k : Nat) (hk : k < n) : (Instr.indexAt 31 (.slice (some ⟨g, o, none⟩) n c) (.int .i64 (k : Int))).run Tryz.prog W = .ok (.pointer (some ⟨g, o + k, none⟩)) W := by
  have h1 : (k : Int) < (n : Int) := by omega
  simp [go_sem, h1]
theorem sb0 (W : World) : (Instr.buildSlice 23 0 #[]).run Tryz.prog W = .ok (.slice (some ⟨W.heap.size, 0, none⟩) 0 0) (W.alloc (.cells #[] 9)) := by
  simp [go_sem]
theorem own_ge {w : World} {base : Nat} {v : Value} {l : List Bs} (h : OwK 9 1 strC w base v l) {g : Nat} (hg : v.ownBlock = some g) : base ≤ g := (own_block h hg).1
set_option maxHeartbeats 16000000 in
set_option maxRecDepth 100000 in
theorem Chain_law (w : World) (ho : Ob w) {v0 : Value} {l : List Hld} (h0 : HldsR w v0 l) (hl0 : l.length ≤ limW) {v1 : Value} {tips : List (List Bs)} (h1 : RowsR w v1 tips) (hl1 : tips.length ≤ limW ∧ ∀ r ∈ tips, r.length ≤ limW) :
    Calls Tryz.prog 8 #[v0, v1] w (BoolB true w) := by
  obtain ⟨A0, c0, rfl⟩ := h0.shape
  obtain ⟨A1, c1, rfl⟩ := h1.shape
  have HH := Lib.hid (head_p ho); have HO := Lib.hid ho; have HX0 := Lib.hid h0; have HL0 := Lib.hid hl0; have HX1 := Lib.hid h1; have HL1 := Lib.hid hl1
  clear h0 hl0 h1 hl1 ho
  go_enter Tryz.func8, Tryz.ntmps8
  go_wp2_with fail
  refine HH.out.mono ?_
  rintro e w1 ⟨rfl, l9⟩
  have L1 := Lib.hid l9
  clear l9 HH
  go_wp2_with fail
  refine (Great_any (HX0.out.below L1.out (Nat.le_refl _)) HL0.out).mono ?_
  rintro e w2 ⟨gr, rfl, l9, hg⟩
  have L2 := Lib.hid (L1.out.trans (l9.mono L1.out.size))
  clear l9
  cases gr with
  | true =>
    clear hg
    go_wp2_with fail
    go_ret
    exact ⟨rfl, L2.out⟩
  | false =>
  have HS0 := Lib.hid (hg rfl)
  clear hg
  have HK0 := Lib.hid (okL HS0.out)
  by_cases h6 : 6 < (tips.length : Int)
  · go_wp2_with fail
    go_ret
    exact ⟨rfl, L2.out⟩
  have HT6 : Hid (tips.length ≤ 6) := Lib.hid (by omega)
  have HC0 : Hid (CR l tips w2 w2 (.slice none 0 0) (.slice none 0 0) [] [] 0) := Lib.hid ⟨by simp, Below.refl _ _, strs_nil _, .inl ⟨none, rfl, rfl⟩, fun k hk => by simp [Value.ownBlock] at hk, ChI.nil l, by simp, by simp⟩
  go_wp2_with fail
  go_loopw [8, 7, 6] (fun vi vb vg wr => ∃ (j : Nat) (b g : List Bs), j ≤ tips.length ∧ vi = .int .i64 j ∧ Hid (CR l tips w2 wr vb vg b g j)) (fun vi _ _ _ => tips.length - (intOf vi).toNat)
  case atStart => exact ⟨0, [], [], Nat.zero_le _, rfl, HC0⟩
  case round =>
    obtain ⟨j, b, g, hj, rfl, hC⟩ := hrel
    have Lr := Lib.hid (L2.out.trans (hC.out.hB.mono L2.out.size))
    have ht6 := HT6.out
    obtain ⟨Ab, cb, rfl⟩ := hC.out.rb.shape
    obtain ⟨Ag, cg, rfl⟩ := hC.out.wg.shape
    have hgl := hC.out.ch.few
    have hll := HS0.out.1
    have hln := hC.out.ln
    by_cases hlt : j < tips.length
    · obtain ⟨row, hrow⟩ : ∃ r, tips[j]? = some r := ⟨_, List.getElem?_eq_getElem hlt⟩
      have hmem : row ∈ tips := List.mem_of_getElem? hrow
      obtain ⟨gt, ot, c', e, _, hg⟩ := HX1.out.pos (by omega)
      cases e
      obtain ⟨Ar, cr, p0, hrr⟩ := RowsR.at (HX1.out.below Lr.out (Nat.le_refl _)) hrow
      have HRr := Lib.hid hrr; have HRow := Lib.hid hrow; have HRl : Hid (row.length ≤ limW) := Lib.hid (HL1.out.2 row hmem)
      have hltI : (j : Int) < (tips.length : Int) := by omega
      obtain ⟨nb, hnb⟩ : ∃ n, n = b.length := ⟨_, rfl⟩
      rw [← hnb] at hC hln ⊢
      have HNb := Lib.hid hnb
      clear hrr hrow hmem hnb
      go_wp2_with fail
      refine (GreatTexts_any HRr.out HRl.out).mono ?_
      rintro e w5 ⟨gr, rfl, l9, hg5⟩
      have L5 := Lib.hid (Lr.out.trans (l9.mono Lr.out.size)); have B5 := Lib.hid l9
      have p0 := cell_to p0 l9
      clear l9
      cases gr with
      | true =>
        clear hg5
        go_wp2_with fail
        go_ret
        exact ⟨rfl, L5.out⟩
      | false =>
      have HSr := Lib.hid (hg5 rfl)
      have HRb5 := Lib.hid (hC.out.rb.below B5.out (Nat.le_refl _)); have HRr5 := Lib.hid (RdK.below HRr.out B5.out (Nat.le_refl _))
      clear hg5
      have hrl := HSr.out.1
      have HNL : Hid (b.length + row.length ≤ 1000000) := Lib.hid (by have := HNb.out; omega)
      go_upto_region 11 with fail
      go_cut [9] from 24 to 43 (fun t wx => Hid (OwK 9 1 strC wx w5.heap.size t (b ++ row) ∧ Below w5.heap.size w5 wx))
      case first =>
        have LD := Lib.hid (show Below w5.heap.size w5 w5.drew from (Below.refl _ _).drew)
        refine AnyK.start w5.heap.size w5 (by kernel_rfl) ?_
        generalize w5.drew = wd at LD ⊢
        refine AnyK.take 1 (.slice Ab nb cb) LD.out rfl (by kernel_rfl) (by kernel_rfl) (by kernel_rfl) (fun _ _ _ h => h) (by kernel_rfl) (fun W hW => by kernel_rfl) ?_
        refine AnyK.take 3 (.slice (some ⟨gt, ot, none⟩) tips.length c1) LD.out rfl (by kernel_rfl) (by kernel_rfl) (by kernel_rfl) (fun _ _ _ h => h) (by kernel_rfl) (fun W hW => by kernel_rfl) ?_
        refine AnyK.take 4 (.int .i64 (j : Int)) LD.out rfl (by kernel_rfl) (by kernel_rfl) (by kernel_rfl) (fun _ _ _ h => h) (by kernel_rfl) (fun W hW => by kernel_rfl) ?_
        refine AnyK.take 5 (.pointer (some ⟨gt, ot + j, none⟩)) LD.out rfl (by kernel_rfl) (by kernel_rfl) (by kernel_rfl) (fun _ _ _ h => h) (by kernel_rfl) (fun W hW => y_index (sv := .slice (some ⟨gt, ot, none⟩) tips.length c1) (iv := .int .i64 (j : Int)) rfl (by kernel_rfl) (by kernel_rfl) (at_row W gt ot _ _ j hlt)) ?_
        refine AnyK.take 6 (.slice Ar row.length cr) LD.out rfl (by kernel_rfl) (by kernel_rfl) (by kernel_rfl) (fun _ _ _ h => h) (by kernel_rfl) (fun W hW => y_load (sv := .pointer (some ⟨gt, ot + j, none⟩)) rfl (by kernel_rfl) (l_strs W _ _ _ _ _ (cell_to p0 hW))) ?_
        have P0 := below_new wd (.cells #[] 9)
        refine AnyK.op 0 (.slice (some ⟨wd.heap.size, 0, none⟩) 0 0) (wd.alloc (.cells #[] 9)) (by kernel_rfl) rfl (by kernel_rfl) (y_build rfl (by kernel_rfl) (sb0 wd)) (LD.out.trans (P0.mono LD.out.size)) ?_
        have hn := OwK.new0 (t := 9) (k := 1) (f := strC) wd wd.heap.size (Nat.le_refl _)
        generalize wd.alloc (.cells #[] 9) = w6 at P0 hn ⊢
        have P1 := LD.out.trans (P0.mono LD.out.size)
        have hb6 := HRb5.out.below P1 (Nat.le_refl _)
        rw [HNb.out] at hb6
        obtain ⟨v1, wa, g1, o1, b1, _⟩ := run_all strK hn (HRb5.out.below P1 (Nat.le_refl _)) (by have := HNL.out; simp; omega) (by decide) P0.size 23
        have P2 := LD.out.trans ((P0.trans b1).mono LD.out.size)
        refine AnyK.op 2 v1 wa (by kernel_rfl) rfl (by kernel_rfl) (y_append rfl (by kernel_rfl) (by kernel_rfl) g1) P2 ?_
        obtain ⟨v2, we, g2, o2, b2, _⟩ := run_all strK o1 (HRr5.out.below P2 (Nat.le_refl _)) (by have := HNL.out; simp; omega) (by decide) (P0.trans b1).size 23
        have P3 := LD.out.trans (((P0.trans b1).trans b2).mono LD.out.size)
        refine AnyK.op 7 v2 we (by kernel_rfl) rfl (by kernel_rfl) (y_append rfl (by kernel_rfl) (by kernel_rfl) g2) P3 ?_
        have HO2 : Hid (OwK 9 1 strC we w5.heap.size v2 (b ++ row) ∧ Below w5.heap.size w5 we) := Lib.hid ⟨by rw [List.nil_append] at o2; exact OwK.mono o2 LD.out.size, P3⟩
        clear o1 o2 b1 b2 g1 g2 hb6 hn
        refine AnyK.take 8 v2 P3 rfl (by kernel_rfl) (by kernel_rfl) (by kernel_rfl) (fun _ _ _ h => h) (by kernel_rfl) (fun W hW => by kernel_rfl) ?_
        refine AnyK.done _ (by kernel_rfl) ?_
        go_simp
        go_wp2
        go_meet
        exact HO2
      case rest =>
      have hnr : StrsR wc u9 (b ++ row) := OwK.rd strC_len hcut.out.1
      obtain ⟨An, cn, rfl⟩ := hnr.shape
      obtain ⟨nn, hnn⟩ : ∃ n, n = (b ++ row).length := ⟨_, rfl⟩
      have HOn := Lib.hid hcut.out.1
      rw [← hnn] at hnr HOn ⊢
      have Lc := Lib.hid (L5.out.trans (hcut.out.2.mono L5.out.size)); have Bc := Lib.hid (B5.out.trans (hcut.out.2.mono B5.out.size))
      have HRn := Lib.hid hnr
      have HOkN : Hid (OkT (b ++ row)) := Lib.hid ⟨by rw [List.length_append]; have := HNb.out; omega, fun x hx => by
        rcases List.mem_append.1 hx with h | h
        · exact hC.out.el x h
        · exact (okT HSr.out).el x h⟩
      have HOkB : Hid (OkT b) := Lib.hid ⟨by have := HNb.out; omega, hC.out.el⟩
      have HSd := Lib.hid (Send_o (L := l) (tips := b ++ row) (wants := b ++ row) (haves := b) (HX0.out.below Lc.out (Nat.le_refl _)) HRn.out HRn.out (hC.out.rb.below Bc.out (Nat.le_refl _)) (HO.out.below Lc.out) HK0.out HOkN.out HOkN.out HOkB.out)
      have HB5c := Lib.hid hcut.out.2
      clear hnr hcut p0 hnn
      go_wp2_with fail
      refine HSd.out.mono ?_
      rintro e w7 ⟨Aa, na, ca, a, ea, rfl, hna, hoa, hsa, l9⟩
      have L7 := Lib.hid (Lc.out.trans (l9.mono Lc.out.size)); have B7 := Lib.hid (Bc.out.trans (l9.mono Bc.out.size))
      have HRn7 := Lib.hid (HRn.out.below l9 (Nat.le_refl _))
      subst hna
      have HOa := Lib.hid hoa; have HSa := Lib.hid hsa
      have HBc7 := Lib.hid (HB5c.out.size)
      clear l9 hoa hsa HSd
      by_cases h0 : ea = 0
      case neg =>
        go_wp2_with fail
        go_ret
        exact ⟨rfl, L7.out⟩
      subst h0
      have hal := (sent_ok HK0.out HSa.out).len
      have HRa : Hid (StrsR w7 (.slice Aa a.length ca) a) := Lib.hid (OwK.rd strC_len HOa.out)
      have HFa : Hid (∀ k, (Value.slice Aa a.length ca).ownBlock = some k → ¬ (Value.slice Ag g.length cg).ownBlock = some k) := Lib.hid fun k hk e => by
        have h1 := own_ge HOa.out hk
        have h2 := hC.out.lt k e
        have h3 := Bc.out.size
        omega
      have HFn : Hid (∀ k, (Value.slice An nn cn).ownBlock = some k → ¬ (Value.slice Ag g.length cg).ownBlock = some k) := Lib.hid fun k hk e => by
        have h1 := own_ge HOn.out hk
        have h2 := hC.out.lt k e
        have h3 := B5.out.size
        omega
      have HG0 : Hid (Gr w2.heap.size w7 w7 (.slice Ag g.length cg) (.slice Ag g.length cg) (g ++ a.take 0)) := Lib.hid (Gr.start (by rw [List.take_zero, List.append_nil]; exact hC.out.wg.below B7.out (Nat.le_refl _)))
      have HFr := Lib.hid fun (i : Nat) (h : i < a.length) => hC.out.ch.fresh HSa.out h
      have hB0 := hC.out.hB.size
      have hB7 := B7.out.size
      go_wp2_with fail
      go_loopw [12, 6] (fun vi vg wz => ∃ i : Nat, i ≤ a.length ∧ vi = .int .i64 i ∧ Hid (Gr w2.heap.size w7 wz (.slice Ag g.length cg) vg (g ++ a.take i))) (fun vi _ _ => a.length - (intOf vi).toNat)
      case atStart => exact ⟨0, Nat.zero_le _, rfl, HG0⟩
      case round =>
        obtain ⟨i, hi, rfl, hG⟩ := hrel
        have HRa2 := Lib.hid (HRa.out.but hG.out.bt HFa.out)
        by_cases hil : i < a.length
        · obtain ⟨g2, o2, c2, e, _, hg2⟩ := HRa2.out.pos (by omega)
          cases e
          have q0 := StrsR.cell HRa2.out i hil
          have hfr := HFr.out i hil
          have hst := fun v' w6 h1 h2 h3 h4 => Gr.step (v' := v') (w6 := w6) (x := a.getD i []) hG.out h1 h2 h3 h4
          rw [show g ++ a.take i ++ [a.getD i []] = g ++ a.take (i + 1) by rw [take_getD a [] i hil, List.append_assoc]] at hst
          obtain ⟨x, hx⟩ : ∃ x, x = a.getD i ([] : Bs) := ⟨_, rfl⟩
          have hx2 : g ++ a.take i ++ [x] = g ++ a.take (i + 1) := by rw [hx, take_getD a [] i hil, List.append_assoc]
          rw [← hx] at q0 hfr
          unfold SV at q0
          have htl := List.length_take_le i a
          have HA := Lib.hid (has_no (Win.rd hG.out.nt) (by rw [List.length_append]; omega) hfr)
          have hilI : (i : Int) < (a.length : Int) := by omega
          have HSt := Lib.hid hst; have HX2 := Lib.hid hx2
          have HW : Hid ((g ++ a.take i).length + 1 ≤ 1000000000 ∧ w2.heap.size ≤ wr.heap.size) := Lib.hid ⟨by rw [List.length_append]; omega, by have := hG.out.hB.size; omega⟩
          clear hst hx hx2 hfr htl
          go_wp2_with fail
          refine HA.out.mono ?_
          rintro e w9 ⟨rfl, rfl⟩
          go_wp2_with (at_builtin; refine wpList_push rfl _ _ rfl w2.heap.size u6 _ x rfl rfl hG.out.nt HW.out.1 HW.out.2 ?_)
          intro v' w6 hN6 hb6 ha6 hB6
          have HG6 := Lib.hid (HSt.out v' w6 (by rw [← HX2.out, List.append_assoc]; exact hN6) hb6 ha6 hB6)
          clear hN6 hb6 ha6 hB6 q0
          go_wp2_with fail
          go_roundw
          case rel => exact ⟨i + 1, hil, by go_num, HG6⟩
          case measure => simp [intOf]; omega
        obtain rfl : i = a.length := by omega
        rw [List.take_length] at hG
        have HCn : Hid (CR l tips w2 wr (.slice An nn cn) u6 (b ++ row) (g ++ a) (j + 1)) := Lib.hid (by
          refine ⟨by rw [flat_snoc HRow.out, ← hC.out.eq], ?_, HRn7.out.but hG.out.bt HFn.out, hG.out.nt, fun q hq => ?_, hC.out.ch.step HSa.out, by rw [List.length_append]; have := HNb.out; omega, HOkN.out.el⟩
          · exact hC.out.hB.trans ((B7.out.mono hC.out.hB.size).trans hG.out.hB)
          · rcases hG.out.at_ q hq with e | e
            · have h1 := hC.out.lt q e
              have h2 := hG.out.hB.size
              have h3 := B7.out.size
              omega
            · exact e.2)
        go_wp2_with fail
        go_roundw
        case rel => exact ⟨j + 1, b ++ row, g ++ a, hlt, by go_num, HCn⟩
        case measure => simp [intOf]; omega
    obtain rfl : j = tips.length := by omega
    have heq := hC.out.eq
    rw [List.take_length] at heq
    have HUn := Lib.hid (Union_p (L := l) (rows := tips) (HX0.out.below Lr.out (Nat.le_refl _)) (HX1.out.below Lr.out (Nat.le_refl _)) (HO.out.below Lr.out) HK0.out (by omega) (by rw [← heq]; exact ⟨by omega, hC.out.el⟩))
    rw [← heq] at HUn
    clear heq
    go_wp2_with fail
    refine HUn.out.mono ?_
    rintro e w5 ⟨l9, ⟨Au, nu, cu, u, rfl, hn, hr, hc⟩ | ⟨rfl, x, hx, hxt⟩⟩
    case inr =>
      rw [hC.out.ch.th x hx] at hxt; cases hxt
    have L5 := Lib.hid (Lr.out.trans (l9.mono Lr.out.size))
    obtain rfl : nu = g.length := hn.trans (hC.out.ch.done hc)
    clear hn hr hc l9 HUn
    go_wp2_with fail
    go_ret
    exact ⟨by simp, L5.out⟩
end Go.Proofs.YtialgldmogigfaaGreatDoor.Ct
