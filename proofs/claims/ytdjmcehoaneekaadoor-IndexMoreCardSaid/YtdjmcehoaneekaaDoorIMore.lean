/-
  IndexMore, walked.
-/
import Derived.Test.YtdjmcehoaneekaaDoorIArg
namespace Go.Proofs.YtdjmcehoaneekaaDoor.Ix
open Go.Proofs.YtdjmcehoaneekaaDoor
open Go Go.RowKit

/-- What a slice holds, behind one of one's own. -/
theorem wpList_app {ops : Array Oper} {rest : List Oper} {o : Oper} {a : Act} {w : World} {Q : Exit → Act → World → Prop} (hgd : o.guard = none) (s y : Operand)
    (ho : o.op = .call { callee := .builtin .append, args := #[s, y], argTypes := #[22, 22] }) (base : Nat) (v u : Value) (l m : List Bs) (hs : a.eval s = v) (hy : a.eval y = u)
    (h : OwK 9 1 strC w base v l) (hu : StrsR w u m) (hl : l.length + m.length ≤ 1000000) (hb : base ≤ w.heap.size)
    (kk : ∀ v' w', OwK 9 1 strC w' base v' (l ++ m) → Below base w w' → wpList Tryd.prog ops Q rest (a.put o.dst v') w') : wpList Tryd.prog ops Q (o :: rest) a w := by
  have hrun : ∃ v' w', (Builtin.append_ #[22, 22] o.type #[v, u]).run Tryd.prog w = .ok v' w' ∧ OwK 9 1 strC w' base v' (l ++ m) ∧ Below base w w' := by
    by_cases h0 : m.length = 0
    · obtain rfl : m = [] := List.eq_nil_of_length_eq_zero h0
      obtain ⟨A, c, rfl⟩ := hu.shape
      obtain ⟨A', c', rfl⟩ : ∃ A c, v = .slice A l.length c := (own_rd (f := strC) (k := 1) (fun _ => rfl) h).shape
      cases A with
      | none =>
        have hle : l.length ≤ c' := by
          by_cases hl0 : l.length = 0
          · omega
          · obtain ⟨g2, o2, c2, e2, hc2, _⟩ := (own_rd (f := strC) (k := 1) (fun _ => rfl) h).pos (by omega)
            obtain rfl : c' = c2 := by cases e2; rfl
            exact hc2
        refine ⟨_, w, ?_, by rw [List.append_nil]; exact h, Below.refl _ _⟩
        cases A' <;> simp [go_sem, hle]
      | some p =>
        obtain ⟨v', w', h1, h2, h3, _⟩ := run_appK strE h p 0 c (m := []) rfl (by simp) hl (by decide) hb o.type
        exact ⟨v', w', h1, h2, h3⟩
    · obtain ⟨g, o', c', rfl, hc, hg⟩ := hu.pos (by omega)
      obtain ⟨v', w', h1, h2, h3, _⟩ := run_appK strE h ⟨g, o', none⟩ m.length c' (m := m) rfl (fun j u hj => str_take hu rfl (by omega) m.length (Nat.le_refl _) j u (by rw [List.take_length]; exact hj)) hl (by decide) hb o.type
      exact ⟨v', w', h1, h2, h3⟩
  obtain ⟨v', w', h1, h2, h3⟩ := hrun
  refine wpList_plain hgd fun K hK => ?_
  unfold Oper.wp
  simp [execOp, ho, resolve, invoke, builtin, hs, hy, h1, Result.andThen]
  exact hK _ _ (kk v' w' h2 h3)
theorem neqn' (n : Nat) : ((n : Int) != (n : Int)) = false := by simp
theorem findB_nil (id : Bs) : findB [] id = none := rfl

set_option maxRecDepth 100000 in
set_option maxHeartbeats 4000000 in
theorem More_law (w : World) (hp : Pr w) {v : Value} {ids : List Bs} (hv : StrsR w v ids) (hl : ids.length ≤ 140737488355328) (u : Value) (text : Bs) (ht : text.length ≤ maxLen) (hu : Rb w u text) :
    Calls Tryd.prog 8 #[v, u] w (BoolP true w) := by
  unfold maxLen at ht
  have hplt := hp.lt
  have HH := Lib.hid (head_any w hp)
  have HG : Hid (∀ W, Below w.heap.size w W → Calls Tryd.prog 10 #[v] W (GrtP ids W)) := Lib.hid fun W hW => great_any (hv.below hW (Nat.le_refl _)) hl
  have HPut : Hid (∀ W, Below w.heap.size w W → Small ids → Calls Tryd.prog 11 #[v] W (PutPost ids W)) := Lib.hid fun W hW hs => Put_any (hp.below hW hplt) (hv.below hW (Nat.le_refl _)) (small_len hs).2 (small_len hs).1
  have HNm : Hid (∀ W, Below w.heap.size w W → text.length ≤ 1000 → Calls Tryd.prog 21 #[u] W fun e w' => e = .returned (SV (nameL text)) ∧ Below W.heap.size W w') := Lib.hid fun W hW h => RName_any W u text (by omega) (hu.below hW (Nat.le_refl _))
  obtain ⟨A, c, rfl⟩ := hv.shape
  obtain ⟨Au, cu, rfl⟩ := hu.shape
  obtain ⟨N, hN⟩ : ∃ N, N = ids.length := ⟨_, rfl⟩
  obtain ⟨T, hT⟩ : ∃ T, T = text.length := ⟨_, rfl⟩
  obtain ⟨nm, hnm⟩ : ∃ nm, nm = nameL text := ⟨_, rfl⟩
  have hnam : namedB nm = true := by rw [hnm]; exact named_hex (sumL text) (sumL_length text)
  have hnml : nm.length = 64 := by rw [hnm, nameL_length]
  have HV : Hid (StrsR w (.slice A N c) ids) := Lib.hid (by rw [hN]; exact hv)
  rw [← hN] at HG HPut hl ⊢
  rw [← hT, ← hnm] at HNm
  rw [← hT] at ht ⊢
  unfold SV at HNm
  have HN := Lib.hid hN; have HP := Lib.hid hp; have HNam := Lib.hid hnam
  clear hv hN hp hu hT hnm hnam
  go_enter Tryd.func8, Tryd.ntmps8
  go_wp2_with fail
  refine HH.out.mono ?_
  rintro e w1 ⟨rfl, l1⟩
  have L1 := Lib.hid l1
  clear l1
  go_wp2_with fail
  refine (HG.out w1 L1.out).mono ?_
  rintro e w2 ⟨b, rfl, l2, hsm⟩
  have L2 : Hid (Below w.heap.size w w2) := Lib.hid (L1.out.trans (l2.mono L1.out.size))
  clear l2
  cases b with
  | true =>
    clear hsm
    go_wp2_with fail
    go_ret
    exact ⟨rfl, L2.out⟩
  | false =>
    have HSm := Lib.hid (hsm rfl)
    clear hsm
    by_cases h60 : 60 < N
    · have h60I : (60 : Int) < (N : Int) := by omega
      go_wp2_with fail
      go_ret
      exact ⟨rfl, L2.out⟩
    · have h60I : ¬ (60 : Int) < (N : Int) := by omega
      have hN60 : N ≤ 60 := by omega
      by_cases h1 : 1000 < T
      · have h1I : (1000 : Int) < (T : Int) := by omega
        go_wp2_with fail
        go_ret
        exact ⟨rfl, L2.out⟩
      · have h1I : ¬ (1000 : Int) < (T : Int) := by omega
        have HN2 := Lib.hid (HNm.out w2 L2.out (by omega))
        have HPm : Hid (∀ W u, Below w.heap.size w W → StrsR W u (ids ++ [nm]) → Calls Tryd.prog 11 #[u] W (PutPost (ids ++ [nm]) W)) := Lib.hid fun W u hW hu => by
          refine Put_any (HP.out.below hW hplt) hu (fun x hx => ?_) ?_
          · rcases List.mem_append.1 hx with h | h
            · exact (small_len HSm.out).2 x h
            · rw [List.mem_singleton.1 h, hnml]; unfold maxLen; omega
          · have := HN.out; simp; omega
        have HSn : Hid (putE (ids ++ [nm]) = if ids.all namedB = true then (if (ids.map rawL).Nodup then (if nm ∈ ids then some 91 else none) else some 91) else some 1) := Lib.hid (putE_snoc ids nm (by have := HN.out; omega) HNam.out)
        clear h60 h1 HNm
        go_wp2_with fail
        refine HN2.out.mono ?_
        rintro e w3 ⟨rfl, l3⟩
        have L3 : Hid (Below w.heap.size w w3) := Lib.hid (L2.out.trans (l3.mono L2.out.size))
        have HPt := Lib.hid (HPut.out w3 L3.out HSm.out)
        clear l3 HN2
        go_wp2_with fail
        refine HPt.out.mono ?_
        rintro e w4 ⟨l4, hh⟩
        have L4 : Hid (Below w.heap.size w w4) := Lib.hid (L3.out.trans (l4.mono L3.out.size))
        have HVn : Hid (StrsR (w4.alloc (.cells #[] 9)) (.slice A N c) ids) := Lib.hid ((HV.out.below L4.out (Nat.le_refl _)).below (below_alloc w4 _) (Nat.le_refl _))
        have HO0 : Hid (OwK 9 1 strC (w4.alloc (.cells #[] 9)) w4.heap.size (.slice (some ⟨w4.heap.size, 0, none⟩) 0 0) []) := Lib.hid (OwK.new0 w4 w4.heap.size (Nat.le_refl _))
        have HB0 : Hid (Below w4.heap.size w4 (w4.alloc (.cells #[] 9))) := Lib.hid (below_alloc w4 _)
        have HLm : Hid (([] : List Bs).length + ids.length ≤ 1000000) := Lib.hid (by have := HN.out; simp; omega)
        have HLm1 : Hid (([] ++ ids : List Bs).length + 1 ≤ 1000000) := Lib.hid (by have := HN.out; simp; omega)
        clear l4 HPt
        rcases hh with ⟨n, hn, rfl⟩ | ⟨hn, rows, A3, N3, c3, hsrt, rfl, hN3, ho3⟩
        · have hne := ne0 (putE_pos hn)
          have hpos := putE_pos hn
          have HSn2 : Hid (putE (ids ++ [nm]) ≠ none) := Lib.hid (by
            rw [HSn.out]
            unfold putE at hn
            rw [if_neg (by have := HN.out; omega)] at hn
            by_cases h2 : ids.all namedB = true
            · rw [if_pos h2] at hn ⊢
              by_cases h3 : (ids.map rawL).Nodup
              · rw [if_pos h3] at hn; cases hn
              · rw [if_neg h3]; simp
            · rw [if_neg h2]; simp)
          clear hn
          go_wp2_with (first
            | (refine wpList_app rfl (.tmp 40) (.tmp 41) rfl w4.heap.size _ _ [] ids rfl rfl HO0.out HVn.out HLm.out HB0.out.size ?_
               rintro va wa oa ba
               have HOa := Lib.hid oa
               have HBa : Hid (Below w4.heap.size w4 wa) := Lib.hid (HB0.out.trans ba)
               clear oa ba)
            | (refine wpList_one strE rfl (.tmp 42) (.tmp 44) rfl w4.heap.size _ ([] ++ ids) nm #[.string ⟨nm.toArray⟩] rfl rfl rfl HOa.out HLm1.out (by decide) HBa.out.size ?_))
          rintro vb wb ob bb
          have HOb : Hid (StrsR wb vb (ids ++ [nm])) := Lib.hid (by have h := own_rd (f := strC) (k := 1) (fun _ => rfl) ob; exact h)
          have HBb : Hid (Below w4.heap.size w4 wb) := Lib.hid (HBa.out.trans bb)
          have LB : Hid (Below w.heap.size w wb) := Lib.hid (L4.out.trans (HBb.out.mono L4.out.size))
          have HPm2 := Lib.hid (HPm.out wb vb LB.out HOb.out)
          clear ob bb
          go_wp2_with fail
          refine HPm2.out.mono ?_
          rintro e w5 ⟨l5, hd⟩
          have HB5 : Hid (Below w4.heap.size w4 w5) := Lib.hid (HBb.out.trans (l5.mono HBb.out.size))
          have L5 : Hid (Below w.heap.size w w5) := Lib.hid (L4.out.trans (HB5.out.mono L4.out.size))
          clear l5 HPm2
          rcases hd with ⟨n', hn', rfl⟩ | ⟨hn', _⟩
          case inr => exact absurd hn' HSn2.out
          have hne' := ne0 (putE_pos hn')
          have hpos' := putE_pos hn'
          have HFn : Hid (Calls Tryd.prog 13 #[.slice none 0 0, .string ⟨nm.toArray⟩] w5 (FndP none w5)) := Lib.hid (by
            have h := Find_any (b := []) (id := nm) (HP.out.below L5.out hplt) (.inl ⟨⟨none, rfl⟩, rfl⟩ : Rb w5 (.slice none 0 0) []) (by simp) (by rw [hnml]; unfold maxLen; omega)
            rw [findB_nil] at h
            exact h)
          clear hn'
          go_wp2_with fail
          refine HFn.out.mono ?_
          rintro e w6 ⟨rfl, l6⟩
          have L6 : Hid (Below w.heap.size w w6) := Lib.hid (L5.out.trans (l6.mono L5.out.size))
          clear l6
          unfold findV
          go_wp2_with fail
          go_ret
          exact ⟨rfl, L6.out⟩
        · have HN3 := Lib.hid hN3; have HO3 := Lib.hid ho3; have HS := Lib.hid hsrt; have HE := Lib.hid hn
          clear hN3 ho3 hsrt hn
          go_wp2_with (first
            | (refine wpList_app rfl (.tmp 40) (.tmp 41) rfl w4.heap.size _ _ [] ids rfl rfl HO0.out HVn.out HLm.out HB0.out.size ?_
               rintro va wa oa ba
               have HOa := Lib.hid oa
               have HBa : Hid (Below w4.heap.size w4 wa) := Lib.hid (HB0.out.trans ba)
               clear oa ba)
            | (refine wpList_one strE rfl (.tmp 42) (.tmp 44) rfl w4.heap.size _ ([] ++ ids) nm #[.string ⟨nm.toArray⟩] rfl rfl rfl HOa.out HLm1.out (by decide) HBa.out.size ?_))
          rintro vb wb ob bb
          have HOb : Hid (StrsR wb vb (ids ++ [nm])) := Lib.hid (by have h := own_rd (f := strC) (k := 1) (fun _ => rfl) ob; exact h)
          have HBb : Hid (Below w4.heap.size w4 wb) := Lib.hid (HBa.out.trans bb)
          have LB : Hid (Below w.heap.size w wb) := Lib.hid (L4.out.trans (HBb.out.mono L4.out.size))
          have HPm2 := Lib.hid (HPm.out wb vb LB.out HOb.out)
          clear ob bb
          go_wp2_with fail
          refine HPm2.out.mono ?_
          rintro e w5 ⟨l5, hd⟩
          have HB5 : Hid (Below w4.heap.size w4 w5) := Lib.hid (HBb.out.trans (l5.mono HBb.out.size))
          have L5 : Hid (Below w.heap.size w w5) := Lib.hid (L4.out.trans (HB5.out.mono L4.out.size))
          clear l5 HPm2
          obtain ⟨h512, hall, hnd⟩ := putE_none.1 HE.out
          have hrd := HS.out.read h512
          have hlen : (indexL rows).length ≤ 1000000 := by rw [indexL_len HS.out.fit, HS.out.len]; have := HN.out; omega
          have hr3 : Rb w4 (.slice A3 N3 c3) (indexL rows) := by have h := HO3.out; rw [HN3.out] at h ⊢; exact Dl.Ow.rb h
          have HFa : Hid (Calls Tryd.prog 13 #[.slice A3 N3 c3, .string ⟨nm.toArray⟩] w5 (FndP (findE rows nm) w5)) := Lib.hid (by
            have h := Find_any (id := nm) (HP.out.below L5.out hplt) (hr3.below HB5.out (Nat.le_refl _)) hlen (by rw [hnml]; unfold maxLen; omega)
            rw [findB_some hrd] at h
            exact h)
          have hmem := findE_mem HS.out hall nm
          have hsn := HSn.out
          rw [if_pos hall, if_pos hnd] at hsn
          by_cases hin : nm ∈ ids
          · rw [if_pos hin] at hsn
            rw [decide_eq_true hin] at hmem
            obtain ⟨p, hp⟩ := Option.isSome_iff_exists.1 hmem
            rw [hp] at HFa
            rcases hd with ⟨n', hn', rfl⟩ | ⟨hn', _⟩
            case inr => rw [hsn] at hn'; cases hn'
            obtain rfl : n' = 91 := by rw [hsn] at hn'; exact (Option.some.inj hn').symm
            clear hn' hsn hmem hp hin hr3 hlen hrd hall hnd h512 HN3
            go_wp2_with fail
            refine HFa.out.mono ?_
            rintro e w6 ⟨rfl, l6⟩
            have L6 : Hid (Below w.heap.size w w6) := Lib.hid (L5.out.trans (l6.mono L5.out.size))
            clear l6
            unfold findV
            go_wp2_with fail
            go_ret
            exact ⟨rfl, L6.out⟩
          · rw [if_neg hin] at hsn
            rw [decide_eq_false hin] at hmem
            have hno : findE rows nm = none := Option.not_isSome_iff_eq_none.1 (by rw [hmem]; decide)
            rw [hno] at HFa
            rcases hd with ⟨n', hn', _⟩ | ⟨hn', rows', A4, N4, c4, hsrt', rfl, hN4, ho4⟩
            case inl => rw [hsn] at hn'; cases hn'
            obtain ⟨h512', hall', _⟩ := putE_none.1 hn'
            have hrd' := hsrt'.read h512'
            have hlen' : (indexL rows').length ≤ 1000000 := by rw [indexL_len hsrt'.fit, hsrt'.len]; have := HN.out; simp; omega
            have hr4 : Rb w5 (.slice A4 N4 c4) (indexL rows') := by rw [hN4]; rw [hN4] at ho4; exact Dl.Ow.rb ho4
            have HFb : Hid (∀ W id i, Below w5.heap.size w5 W → (ids ++ [nm])[i]? = some id → id.length ≤ maxLen → Calls Tryd.prog 13 #[.slice A4 N4 c4, .string ⟨id.toArray⟩] W (FndP (some i) W)) := Lib.hid fun W id i hW hi hid => by
              have h := Find_any (id := id) (HP.out.below (L5.out.trans (hW.mono L5.out.size)) hplt) (hr4.below hW (Nat.le_refl _)) hlen' hid
              rw [findB_some hrd', hsrt'.findE hall' i id hi] at h
              exact h
            have HLast : Hid ((ids ++ [nm])[N]? = some nm) := Lib.hid (by rw [HN.out]; simp)
            clear hn' hsn hmem hno hin hr3 hlen hrd hall hnd h512 HN3 h512' hall' hrd' hlen' hr4 hsrt' hN4 ho4
            go_wp2_with fail
            refine HFa.out.mono ?_
            rintro e w6 ⟨rfl, l6⟩
            have L6 : Hid (Below w5.heap.size w5 w6) := Lib.hid l6
            have HF6 := Lib.hid (HFb.out w6 nm N L6.out HLast.out (by rw [hnml]; unfold maxLen; omega))
            clear l6
            unfold findV
            go_wp2_with fail
            refine HF6.out.mono ?_
            rintro e w7 ⟨rfl, l7⟩
            have L7 : Hid (Below w5.heap.size w5 w7) := Lib.hid (L6.out.trans (l7.mono L6.out.size))
            clear l7
            unfold findV
            go_wp2_with fail
            go_loopw [15, 16, 17] (fun i _ _ wr => ∃ k : Nat, k ≤ N ∧ i = .int .i64 k ∧ Hid (Below w5.heap.size w5 wr)) (fun i _ _ _ => N - (intOf i).toNat)
            case atStart => exact ⟨0, Nat.zero_le _, rfl, L7⟩
            case round =>
              clear L7 L6
              obtain ⟨k, hk, rfl, hB⟩ := hrel
              by_cases hlt : k < N
              · have hltI : (k : Int) < (N : Int) := by omega
                obtain ⟨g, o, c', e, _, hg⟩ := HV.out.pos (by have := HN.out; omega)
                obtain rfl : A = some ⟨g, o, none⟩ := by cases e; rfl
                clear e
                obtain ⟨id, hid⟩ : ∃ id, ids[k]? = some id := ⟨_, List.getElem?_eq_getElem (by have := HN.out; omega)⟩
                have c0 : wr.cell? ⟨g, o + k, none⟩ = some (.string ⟨id.toArray⟩) := by
                  rw [(L5.out.trans (hB.out.mono L5.out.size)).cell (p := ⟨g, o + k, none⟩) hg]; exact StrsR.cell HV.out k id hid
                have HFk := Lib.hid (HFb.out wr id k hB.out (by rw [List.getElem?_append_left (by have := HN.out; omega)]; exact hid) ((small_len HSm.out).2 id (List.mem_of_getElem? hid)))
                have LB := Lib.hid hB.out
                clear hid hB
                go_wp2_with fail
                refine HFk.out.mono ?_
                rintro e w8 ⟨rfl, l8⟩
                have L8 : Hid (Below w5.heap.size w5 w8) := Lib.hid (LB.out.trans (l8.mono LB.out.size))
                have hkk := neqn' k
                clear l8 c0
                unfold findV
                go_wp2_with fail
                go_roundw
                case rel => exact ⟨k + 1, by omega, by go_num, L8⟩
                case measure => simp [intOf]; omega
              · have hltI : ¬ (k : Int) < (N : Int) := by omega
                have hee := eqn N
                have LB : Hid (Below w.heap.size w wr) := Lib.hid (L5.out.trans (hB.out.mono L5.out.size))
                clear hB
                go_wp2_with fail
                go_ret
                exact ⟨rfl, LB.out⟩
end Go.Proofs.YtdjmcehoaneekaaDoor.Ix
