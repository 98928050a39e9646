/-
  IndexOrder, walked.
-/
import Derived.Test.YtdjmcehoaneekaaDoorIArg
namespace Go.Proofs.YtdjmcehoaneekaaDoor.Ix
open Go.Proofs.YtdjmcehoaneekaaDoor
open Go Go.RowKit

set_option maxRecDepth 100000 in
set_option maxHeartbeats 4000000 in
theorem Order_law (w : World) (hp : Pr w) {v : Value} {ids : List Bs} (hv : StrsR w v ids) (hl : ids.length ≤ 140737488355328) (at_ : UInt8) :
    Calls Tryd.prog 6 #[v, .int .u8 (at_.toNat : Int)] w (BoolP true w) := by
  obtain ⟨m, hm⟩ : ∃ m, m = at_.toNat := ⟨_, rfl⟩
  have hm256 : m < 256 := by rw [hm]; exact at_.toNat_lt
  rw [← hm]
  clear hm
  have hplt := hp.lt
  have HH := Lib.hid (head_any w hp)
  have HG : Hid (∀ W, Below w.heap.size w W → Calls Tryd.prog 10 #[v] W (GrtP ids W)) := Lib.hid fun W hW => great_any (hv.below hW (Nat.le_refl _)) hl
  have HPut : Hid (∀ W, Below w.heap.size w W → Small ids → Calls Tryd.prog 11 #[v] W (PutPost ids W)) := Lib.hid fun W hW hs => Put_any (hp.below hW hplt) (hv.below hW (Nat.le_refl _)) (small_len hs).2 (small_len hs).1
  obtain ⟨A, c, rfl⟩ := hv.shape
  obtain ⟨N, hN⟩ : ∃ N, N = ids.length := ⟨_, rfl⟩
  have HV : Hid (StrsR w (.slice A N c) ids) := Lib.hid (by rw [hN]; exact hv)
  rw [← hN] at HG HPut hl ⊢
  have HN := Lib.hid hN; have HP := Lib.hid hp
  clear hv hN hp
  go_enter Tryd.func6, Tryd.ntmps6
  go_wp2_with fail
  refine HH.out.mono ?_
  rintro e w1 ⟨rfl, l1⟩
  have L1 := Lib.hid l1
  clear l1
  go_wp2_with fail
  refine (HG.out w1 L1.out).mono ?_
  rintro e w2 ⟨b, rfl, l2, hsm⟩
  have L2 : Hid (Below w.heap.size w w2) := Lib.hid (L1.out.trans (l2.mono L1.out.size))
  clear l2
  cases b with
  | true =>
    clear hsm
    go_wp2_with fail
    go_ret
    exact ⟨rfl, L2.out⟩
  | false =>
    have HSm := Lib.hid (hsm rfl)
    clear hsm
    by_cases h60 : 60 < N
    · have h60I : (60 : Int) < (N : Int) := by omega
      go_wp2_with fail
      go_ret
      exact ⟨rfl, L2.out⟩
    · have h60I : ¬ (60 : Int) < (N : Int) := by omega
      have hN60 : N ≤ 60 := by omega
      by_cases h0 : N = 0
      · have h0b : ((N : Int) == 0) = true := by rw [h0]; rfl
        clear h60
        go_wp2_with fail
        go_ret
        exact ⟨rfl, L2.out⟩
      · have h0b : ((N : Int) == 0) = false := by
          have : ¬ (N : Int) = 0 := by omega
          simpa using this
        have hN1 : 0 < N := by omega
        obtain ⟨g, o, c', e, hc, hg⟩ := HV.out.pos (by have := HN.out; omega)
        rw [← HN.out] at hc
        obtain rfl : c = c' := by cases e; rfl
        obtain rfl : A = some ⟨g, o, none⟩ := by cases e; rfl
        clear e
        obtain ⟨kk, hkk⟩ : ∃ kk, kk = m % N := ⟨_, rfl⟩
        have hkl : kk < N := by rw [hkk]; exact Nat.mod_lt _ hN1
        have n1 : (m : Int) % (N : Int) = (kk : Int) := by rw [hkk]; exact (Int.natCast_emod _ _).symm
        have n2 : Int.tmod (m : Int) (N : Int) = (kk : Int) := (Int.tmod_eq_emod_of_nonneg (by omega)).trans n1
        have HPt := Lib.hid (HPut.out w2 L2.out HSm.out)
        have HPm : Hid (∀ W u, Below w.heap.size w W → StrsR W u (ids.drop kk ++ ids.take kk) → Calls Tryd.prog 11 #[u] W (PutPost (ids.drop kk ++ ids.take kk) W)) := Lib.hid fun W u hW hu => by
          have hpm := rot_perm ids kk
          refine Put_any (HP.out.below hW hplt) hu (fun x hx => (small_len HSm.out).2 x (hpm.mem_iff.2 hx)) ?_
          rw [← hpm.length_eq]; exact (small_len HSm.out).1
        clear h60 h0 hkk
        go_wp2_with fail
        refine HPt.out.mono ?_
        rintro e w3 ⟨l3, hh⟩
        have L3 : Hid (Below w.heap.size w w3) := Lib.hid (L2.out.trans (l3.mono L2.out.size))
        clear l3 HPt
        rcases hh with ⟨n, hn, rfl⟩ | ⟨hn, rows, A3, N3, c3, hsrt, rfl, hN3, ho3⟩
        · go_wp2_with fail
          clear n1 n2
          refine AnyK.start w3.heap.size w3 (by kernel_rfl) ?_
          have LD : Hid (Below w3.heap.size w3 w3.drew) := Lib.hid (Below.refl _ _).drew
          generalize w3.drew = wd at LD ⊢
          refine AnyK.take 1 (.slice (some ⟨g, o, none⟩) N c) LD.out rfl (by kernel_rfl) (by kernel_rfl) (by kernel_rfl) (fun _ _ _ h => h) (by kernel_rfl) (fun W hW => by kernel_rfl) ?_
          refine AnyK.take 2 (.int .i64 (kk : Int)) LD.out rfl (by kernel_rfl) (by kernel_rfl) (by kernel_rfl) (fun _ _ _ h => h) (by kernel_rfl) (fun W hW => by kernel_rfl) ?_
          refine AnyK.take 3 (.slice (some ⟨g, o + kk, none⟩) (N - kk) (c - kk)) LD.out rfl (by kernel_rfl) (by kernel_rfl) (by kernel_rfl) (fun _ _ _ h => h) (by kernel_rfl) (fun W hW => y_slice (xv := .slice (some ⟨g, o, none⟩) N c) (lv := some (.int .i64 (kk : Int))) (hv := none) (mv := none) rfl (by kernel_rfl) (by kernel_rfl) rfl rfl (scut_hi W g o N c kk (by omega) (by omega))) ?_
          refine AnyK.take 5 (.slice (some ⟨g, o, none⟩) N c) LD.out rfl (by kernel_rfl) (by kernel_rfl) (by kernel_rfl) (fun _ _ _ h => h) (by kernel_rfl) (fun W hW => by kernel_rfl) ?_
          refine AnyK.take 6 (.int .i64 (kk : Int)) LD.out rfl (by kernel_rfl) (by kernel_rfl) (by kernel_rfl) (fun _ _ _ h => h) (by kernel_rfl) (fun W hW => by kernel_rfl) ?_
          refine AnyK.take 7 (.slice (some ⟨g, o, none⟩) kk c) LD.out rfl (by kernel_rfl) (by kernel_rfl) (by kernel_rfl) (fun _ _ _ h => h) (by kernel_rfl) (fun W hW => y_slice (xv := .slice (some ⟨g, o, none⟩) N c) (lv := none) (hv := some (.int .i64 (kk : Int))) (mv := none) rfl (by kernel_rfl) rfl (by kernel_rfl) rfl (scut_lo W g o N c kk (by omega) (by omega))) ?_
          refine AnyK.op 0 (.slice (some ⟨wd.heap.size, 0, none⟩) 0 0) (wd.alloc (.cells #[] 9)) (by kernel_rfl) rfl (by kernel_rfl) (y_build rfl (by kernel_rfl) (sbuild0 wd)) (LD.out.trans ((below_alloc wd _).mono LD.out.size)) ?_
          have M0 := below_alloc wd (.cells #[] 9)
          have M1 := Lib.hid (LD.out.trans (M0.mono LD.out.size))
          obtain ⟨v1, wa, g1, o1, b1, _⟩ := run_appK strE (OwK.new0 wd wd.heap.size (Nat.le_refl _)) ⟨g, o + kk, none⟩ (N - kk) (c - kk) (m := ids.drop kk) (by rw [List.length_drop, HN.out]) (fun j u hj => str_drop (HV.out.below (L3.out.trans (M1.out.mono L3.out.size)) (Nat.le_refl _)) HN.out hN1 kk (by omega) j u hj) (by simp; have := HN.out; omega) (by decide) M0.size 22
          refine AnyK.op 4 v1 wa (by kernel_rfl) rfl (by kernel_rfl) (y_append rfl (by kernel_rfl) (by kernel_rfl) g1) (LD.out.trans ((M0.trans b1).mono LD.out.size)) ?_
          have M2 := Lib.hid (LD.out.trans ((M0.trans b1).mono LD.out.size))
          obtain ⟨v2, wb, g2, o2, b2, _⟩ := run_appK strE o1 ⟨g, o, none⟩ kk c (m := ids.take kk) (by rw [List.length_take]; have := HN.out; omega) (fun j u hj => str_take (HV.out.below (L3.out.trans (M2.out.mono L3.out.size)) (Nat.le_refl _)) HN.out hN1 kk (by omega) j u hj) (by simp; have := HN.out; omega) (by decide) (M0.trans b1).size 22
          refine AnyK.op 8 v2 wb (by kernel_rfl) rfl (by kernel_rfl) (y_append rfl (by kernel_rfl) (by kernel_rfl) g2) (LD.out.trans (((M0.trans b1).trans b2).mono LD.out.size)) ?_
          have M3 := Lib.hid (LD.out.trans (((M0.trans b1).trans b2).mono LD.out.size))
          have hc1 := HPm.out wb v2 (L3.out.trans (M3.out.mono L3.out.size)) (by have h := own_rd (f := strC) (k := 1) (fun _ => rfl) o2; rw [List.nil_append] at h; exact h)
          refine AnyK.call 9 11 #[v2] (by kernel_rfl) rfl (by kernel_rfl) (by kernel_rfl) (hc1.mono ?_)
          rintro e wc ⟨lc, hd⟩
          have MC := Lib.hid (M3.out.trans (lc.mono M3.out.size))
          have hpe := putE_perm (rot_perm ids kk)
          rcases hd with ⟨n', hn', rfl⟩ | ⟨hn', _⟩
          case inr => rw [← hpe, hn] at hn'; cases hn'
          obtain rfl : n = n' := by rw [hpe, hn'] at hn; exact (Option.some.inj hn).symm
          refine ⟨_, rfl, MC.out, ?_⟩
          clear hc1 lc g1 o1 b1 g2 o2 b2 M0 M1 M2 M3 LD hpe hn hn'
          refine AnyK.take 10 (.tuple #[.slice none 0 0, .int .i64 (n : Int)]) MC.out rfl (by kernel_rfl) (by kernel_rfl) (by kernel_rfl) (fun _ _ _ h => h) (by kernel_rfl) (fun W hW => by kernel_rfl) ?_
          refine AnyK.take 11 (.slice none 0 0) MC.out rfl (by kernel_rfl) (by kernel_rfl) (by kernel_rfl) (fun _ _ _ h => h) (by kernel_rfl) (fun W hW => by kernel_rfl) ?_
          refine AnyK.take 12 (.int .i64 (n : Int)) MC.out rfl (by kernel_rfl) (by kernel_rfl) (by kernel_rfl) (fun _ _ _ h => h) (by kernel_rfl) (fun W hW => by kernel_rfl) ?_
          refine AnyK.take 13 (.slice none 0 0) MC.out rfl (by kernel_rfl) (by kernel_rfl) (by kernel_rfl) (fun _ _ _ h => h) (by kernel_rfl) (fun W hW => by kernel_rfl) ?_
          refine AnyK.take 14 (.int .i64 (n : Int)) MC.out rfl (by kernel_rfl) (by kernel_rfl) (by kernel_rfl) (fun _ _ _ h => h) (by kernel_rfl) (fun W hW => by kernel_rfl) ?_
          refine AnyK.done _ (by kernel_rfl) ?_
          go_simp
          have hee := eqn n
          have LC : Hid (Below w.heap.size w wc) := Lib.hid (L3.out.trans (MC.out.mono L3.out.size))
          have HAl : Hid (∀ W, Below w.heap.size w W → Calls Tryd.prog 18 #[.slice none 0 0] W (AllPost [] W)) := Lib.hid fun W hW => by
            have h := All_any (b := []) (HP.out.below hW hplt) (.inl ⟨⟨none, rfl⟩, rfl⟩ : Rb W (.slice none 0 0) []) (by simp)
            rw [allB_none rfl] at h
            exact h
          have HA1 := Lib.hid (HAl.out wc LC.out)
          go_wp2_with fail
          refine HA1.out.mono ?_
          rintro e w7 ⟨l7, v7, rfl, ho7⟩
          have L7 : Hid (Below w.heap.size w w7) := Lib.hid (LC.out.trans (l7.mono LC.out.size))
          have HO7 : Hid (StrsR w7 v7 []) := Lib.hid (own_rd (f := strC) (k := 1) (fun _ => rfl) ho7)
          have HA2 := Lib.hid (HAl.out w7 L7.out)
          clear l7 ho7
          go_wp2_with fail
          refine HA2.out.mono ?_
          rintro e w8 ⟨l8, v8, rfl, ho8⟩
          have L8 : Hid (Below w.heap.size w w8) := Lib.hid (L7.out.trans (l8.mono L7.out.size))
          have HS8 := Lib.hid (SameTexts_any (HO7.out.below l8 (Nat.le_refl _)) (own_rd (f := strC) (k := 1) (fun _ => rfl) ho8) (by simp))
          clear l8 ho8
          go_wp2_with fail
          refine HS8.out.mono ?_
          rintro e w9 ⟨rfl, l9⟩
          have L9 : Hid (Below w.heap.size w w9) := Lib.hid (L8.out.trans (l9.mono L8.out.size))
          clear l9
          go_wp2_with fail
          go_ret
          exact ⟨rfl, L9.out⟩
        · have HN3 := Lib.hid hN3; have HO3 := Lib.hid ho3
          clear hN3 ho3
          go_wp2_with fail
          clear n1 n2
          refine AnyK.start w3.heap.size w3 (by kernel_rfl) ?_
          have LD : Hid (Below w3.heap.size w3 w3.drew) := Lib.hid (Below.refl _ _).drew
          generalize w3.drew = wd at LD ⊢
          refine AnyK.take 1 (.slice (some ⟨g, o, none⟩) N c) LD.out rfl (by kernel_rfl) (by kernel_rfl) (by kernel_rfl) (fun _ _ _ h => h) (by kernel_rfl) (fun W hW => by kernel_rfl) ?_
          refine AnyK.take 2 (.int .i64 (kk : Int)) LD.out rfl (by kernel_rfl) (by kernel_rfl) (by kernel_rfl) (fun _ _ _ h => h) (by kernel_rfl) (fun W hW => by kernel_rfl) ?_
          refine AnyK.take 3 (.slice (some ⟨g, o + kk, none⟩) (N - kk) (c - kk)) LD.out rfl (by kernel_rfl) (by kernel_rfl) (by kernel_rfl) (fun _ _ _ h => h) (by kernel_rfl) (fun W hW => y_slice (xv := .slice (some ⟨g, o, none⟩) N c) (lv := some (.int .i64 (kk : Int))) (hv := none) (mv := none) rfl (by kernel_rfl) (by kernel_rfl) rfl rfl (scut_hi W g o N c kk (by omega) (by omega))) ?_
          refine AnyK.take 5 (.slice (some ⟨g, o, none⟩) N c) LD.out rfl (by kernel_rfl) (by kernel_rfl) (by kernel_rfl) (fun _ _ _ h => h) (by kernel_rfl) (fun W hW => by kernel_rfl) ?_
          refine AnyK.take 6 (.int .i64 (kk : Int)) LD.out rfl (by kernel_rfl) (by kernel_rfl) (by kernel_rfl) (fun _ _ _ h => h) (by kernel_rfl) (fun W hW => by kernel_rfl) ?_
          refine AnyK.take 7 (.slice (some ⟨g, o, none⟩) kk c) LD.out rfl (by kernel_rfl) (by kernel_rfl) (by kernel_rfl) (fun _ _ _ h => h) (by kernel_rfl) (fun W hW => y_slice (xv := .slice (some ⟨g, o, none⟩) N c) (lv := none) (hv := some (.int .i64 (kk : Int))) (mv := none) rfl (by kernel_rfl) rfl (by kernel_rfl) rfl (scut_lo W g o N c kk (by omega) (by omega))) ?_
          refine AnyK.op 0 (.slice (some ⟨wd.heap.size, 0, none⟩) 0 0) (wd.alloc (.cells #[] 9)) (by kernel_rfl) rfl (by kernel_rfl) (y_build rfl (by kernel_rfl) (sbuild0 wd)) (LD.out.trans ((below_alloc wd _).mono LD.out.size)) ?_
          have M0 := below_alloc wd (.cells #[] 9)
          have M1 := Lib.hid (LD.out.trans (M0.mono LD.out.size))
          obtain ⟨v1, wa, g1, o1, b1, _⟩ := run_appK strE (OwK.new0 wd wd.heap.size (Nat.le_refl _)) ⟨g, o + kk, none⟩ (N - kk) (c - kk) (m := ids.drop kk) (by rw [List.length_drop, HN.out]) (fun j u hj => str_drop (HV.out.below (L3.out.trans (M1.out.mono L3.out.size)) (Nat.le_refl _)) HN.out hN1 kk (by omega) j u hj) (by simp; have := HN.out; omega) (by decide) M0.size 22
          refine AnyK.op 4 v1 wa (by kernel_rfl) rfl (by kernel_rfl) (y_append rfl (by kernel_rfl) (by kernel_rfl) g1) (LD.out.trans ((M0.trans b1).mono LD.out.size)) ?_
          have M2 := Lib.hid (LD.out.trans ((M0.trans b1).mono LD.out.size))
          obtain ⟨v2, wb, g2, o2, b2, _⟩ := run_appK strE o1 ⟨g, o, none⟩ kk c (m := ids.take kk) (by rw [List.length_take]; have := HN.out; omega) (fun j u hj => str_take (HV.out.below (L3.out.trans (M2.out.mono L3.out.size)) (Nat.le_refl _)) HN.out hN1 kk (by omega) j u hj) (by simp; have := HN.out; omega) (by decide) (M0.trans b1).size 22
          refine AnyK.op 8 v2 wb (by kernel_rfl) rfl (by kernel_rfl) (y_append rfl (by kernel_rfl) (by kernel_rfl) g2) (LD.out.trans (((M0.trans b1).trans b2).mono LD.out.size)) ?_
          have M3 := Lib.hid (LD.out.trans (((M0.trans b1).trans b2).mono LD.out.size))
          have hc1 := HPm.out wb v2 (L3.out.trans (M3.out.mono L3.out.size)) (by have h := own_rd (f := strC) (k := 1) (fun _ => rfl) o2; rw [List.nil_append] at h; exact h)
          refine AnyK.call 9 11 #[v2] (by kernel_rfl) rfl (by kernel_rfl) (by kernel_rfl) (hc1.mono ?_)
          rintro e wc ⟨lc, hd⟩
          have MC := Lib.hid (M3.out.trans (lc.mono M3.out.size))
          have hpe := putE_perm (rot_perm ids kk)
          rcases hd with ⟨n', hn', _⟩ | ⟨hn', rows', A4, N4, c4, hsrt', rfl, hN4, ho4⟩
          case inl => rw [← hpe, hn] at hn'; cases hn'
          obtain ⟨h512, hall, hnd⟩ := putE_none.1 hn
          obtain ⟨h512', _, _⟩ := putE_none.1 hn'
          have hlen : (indexL rows).length ≤ 1000000 := by rw [indexL_len hsrt.fit, hsrt.len]; omega
          have hss := srt_len_uniq hsrt hsrt' (rot_perm ids kk)
          have hll : (indexL rows').length = (indexL rows).length := by rw [indexL_len hsrt.fit, indexL_len hsrt'.fit, hss.2]
          have haa : allI rows' = allI rows := by rw [allI_sums, allI_sums, hss.1]
          have hN3 := HN3.out
          have ho3 := HO3.out
          obtain rfl : N4 = N3 := by rw [hN3, hN4, hll]
          have hr3 : Rb w3 (.slice A3 N4 c3) (indexL rows) := by rw [hN3]; rw [hN3] at ho3; exact Dl.Ow.rb ho3
          have hr4 : Rb wc (.slice A4 N4 c4) (indexL rows') := by rw [hN4]; rw [hN4] at ho4; exact Dl.Ow.rb ho4
          have hrd := hsrt.read h512
          have hrd' := hsrt'.read h512'
          have LC : Hid (Below w.heap.size w wc) := Lib.hid (L3.out.trans (MC.out.mono L3.out.size))
          have HAl : Hid (∀ W, Below wc.heap.size wc W → Calls Tryd.prog 18 #[.slice A3 N4 c3] W (AllPost (allI rows) W)) := Lib.hid fun W hW => by
            have h := All_any (HP.out.below (LC.out.trans (hW.mono LC.out.size)) hplt) ((hr3.below MC.out (Nat.le_refl _)).below hW (Nat.le_refl _)) hlen
            rw [allB_some hrd] at h
            exact h
          have HAr : Hid (∀ W, Below wc.heap.size wc W → Calls Tryd.prog 18 #[.slice A4 N4 c4] W (AllPost (allI rows) W)) := Lib.hid fun W hW => by
            have h := All_any (HP.out.below (LC.out.trans (hW.mono LC.out.size)) hplt) (hr4.below hW (Nat.le_refl _)) (by rw [hll]; exact hlen)
            rw [allB_some hrd', haa] at h
            exact h
          have HRl : Hid ((allI rows).length ≤ 1000000) := Lib.hid (by unfold allI; rw [List.length_map, hsrt.len]; omega)
          refine ⟨_, rfl, MC.out, ?_⟩
          clear HN3 HO3 hc1 lc g1 o1 b1 g2 o2 b2 M0 M1 M2 M3 LD hpe hn hn' h512 hall hnd h512' hlen hss hll haa hr3 hr4 hrd hrd' hsrt hsrt' hN3 hN4 ho3 ho4
          refine AnyK.take 10 (.tuple #[.slice A4 N4 c4, .int .i64 0]) MC.out rfl (by kernel_rfl) (by kernel_rfl) (by kernel_rfl) (fun _ _ _ h => h) (by kernel_rfl) (fun W hW => by kernel_rfl) ?_
          refine AnyK.take 11 (.slice A4 N4 c4) MC.out rfl (by kernel_rfl) (by kernel_rfl) (by kernel_rfl) (fun _ _ _ h => h) (by kernel_rfl) (fun W hW => by kernel_rfl) ?_
          refine AnyK.take 12 (.int .i64 0) MC.out rfl (by kernel_rfl) (by kernel_rfl) (by kernel_rfl) (fun _ _ _ h => h) (by kernel_rfl) (fun W hW => by kernel_rfl) ?_
          refine AnyK.take 13 (.slice A4 N4 c4) MC.out rfl (by kernel_rfl) (by kernel_rfl) (by kernel_rfl) (fun _ _ _ h => h) (by kernel_rfl) (fun W hW => by kernel_rfl) ?_
          refine AnyK.take 14 (.int .i64 0) MC.out rfl (by kernel_rfl) (by kernel_rfl) (by kernel_rfl) (fun _ _ _ h => h) (by kernel_rfl) (fun W hW => by kernel_rfl) ?_
          refine AnyK.done _ (by kernel_rfl) ?_
          go_simp
          have hee := eqn N4
          have W0 : Hid (Below wc.heap.size wc wc) := Lib.hid (Below.refl _ _)
          have HA1 := Lib.hid (HAl.out wc W0.out)
          go_wp2_with fail
          refine HA1.out.mono ?_
          rintro e w7 ⟨l7, v7, rfl, ho7⟩
          have L7 : Hid (Below wc.heap.size wc w7) := Lib.hid l7
          have HO7 : Hid (StrsR w7 v7 (allI rows)) := Lib.hid (own_rd (f := strC) (k := 1) (fun _ => rfl) ho7)
          have HA2 := Lib.hid (HAr.out w7 L7.out)
          clear l7 ho7
          go_wp2_with fail
          refine HA2.out.mono ?_
          rintro e w8 ⟨l8, v8, rfl, ho8⟩
          have L8 : Hid (Below wc.heap.size wc w8) := Lib.hid (L7.out.trans (l8.mono L7.out.size))
          have hs8 := SameTexts_any (HO7.out.below l8 (Nat.le_refl _)) (own_rd (f := strC) (k := 1) (fun _ => rfl) ho8) HRl.out
          have hdt : decide (allI rows = allI rows) = true := decide_eq_true rfl
          rw [hdt] at hs8
          have HS8 := Lib.hid hs8
          clear l8 ho8 hs8
          go_wp2_with fail
          refine HS8.out.mono ?_
          rintro e w9 ⟨rfl, l9⟩
          have L9 : Hid (Below w.heap.size w w9) := Lib.hid (LC.out.trans ((L8.out.trans (l9.mono L8.out.size)).mono LC.out.size))
          clear l9
          go_wp2_with fail
          go_ret
          exact ⟨rfl, L9.out⟩
end Go.Proofs.YtdjmcehoaneekaaDoor.Ix
