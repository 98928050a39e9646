/-
  IndexBack, walked.
-/
import Derived.Test.YtdjmcehoaneekaaDoorIBk0
namespace Go.Proofs.YtdjmcehoaneekaaDoor.Ix
open Go.Proofs.YtdjmcehoaneekaaDoor
open Go Go.RowKit

theorem at_str' (W : World) (g o n c k : Nat) (hk : k < n) : (Instr.indexAt 22 (.slice (some ⟨g, o, none⟩) n c) (.int .i64 (k : Int))).run Tryd.prog W = .ok (.pointer (some ⟨g, o + k, none⟩)) W := by
  have h1 : (k : Int) < (n : Int) := by omega
  simp [go_sem, h1]
theorem run_dec (W : World) (j : Nat) (hj : j ≤ 1000000) : (binOp .sub 3 (.int .i64 ((j + 1 : Nat) : Int)) (.int .i64 1)).run Tryd.prog W = .ok (.int .i64 (j : Int)) W := by
  have e : IntKind.i64.wrap (((j + 1 : Nat) : Int) - 1) = ((j + 1 : Nat) : Int) - 1 := IntWalk.i64_in _ (by omega)
  have e2 : ((j + 1 : Nat) : Int) - 1 = (j : Int) := by omega
  rw [e2] at e
  simp [go_sem, e]
theorem run_lt0 (W : World) (p : Nat) : (binOp .lss 3 (.int .i64 (p : Int)) (.int .i64 0)).run Tryd.prog W = .ok (.bool false) W := by
  have h : ¬ (p : Int) < 0 := by omega
  simp [go_sem, h]
theorem run_gt0 (W : World) (p : Nat) (hp : 0 < p) : (binOp .gtr 3 (.int .i64 (p : Int)) (.int .i64 0)).run Tryd.prog W = .ok (.bool true) W := by
  simp [go_sem, hp]
theorem run_ge (W : World) (p n : Nat) (hp : p < n) : (binOp .geq 3 (.int .i64 (p : Int)) (.int .i64 (n : Int))).run Tryd.prog W = .ok (.bool false) W := by
  have h : ¬ (n : Int) ≤ (p : Int) := by omega
  simp [go_sem, h]
theorem allI_get (rows : List Rw) (k : Nat) : (allI rows)[k]? = (rows[k]?).map fun r => hexL r.sum := by unfold allI; rw [List.getElem?_map]

set_option maxRecDepth 100000 in
set_option maxHeartbeats 4000000 in
theorem Back_law (w : World) (hp : Pr w) (v : Value) (b : Bs) (hbl : b.length ≤ maxLen) (hv : Rb w v b) (ct : Nat) (hct : ct < 65536) (mo : UInt8) :
    Calls Tryd.prog 5 #[v, .int .u16 (ct : Int), .int .u8 (mo.toNat : Int)] w (BoolP true w) := by
  unfold maxLen at hbl
  have hplt := hp.lt
  have HH := Lib.hid (head_any w hp)
  obtain ⟨A, c, rfl⟩ := hv.shape
  obtain ⟨n, hn⟩ : ∃ n, n = b.length := ⟨_, rfl⟩
  have HV : Hid (Rb w (.slice A n c) b) := Lib.hid (by rw [hn]; exact hv)
  have HRt : Hid (n ≤ 9000 → ∀ W, Below w.heap.size w W → Calls Tryd.prog 15 #[.slice A n c] W (BoolP (readI b).isSome W)) := Lib.hid fun h W hW => Right_any (hp.below hW hplt) (HV.out.below hW (Nat.le_refl _)) (by omega)
  have HAl : Hid (n ≤ 9000 → ∀ W, Below w.heap.size w W → Calls Tryd.prog 18 #[.slice A n c] W (AllPost (allB b) W)) := Lib.hid fun h W hW => All_any (hp.below hW hplt) (HV.out.below hW (Nat.le_refl _)) (by omega)
  have HP := Lib.hid hp; have HN := Lib.hid hn
  rw [← hn] at hbl ⊢
  obtain ⟨mi, hmi⟩ : ∃ mi : Int, mi = (mo.toNat : Int) := ⟨_, rfl⟩
  have HMi := Lib.hid hmi
  rw [← hmi]
  clear hv hn hp hmi
  go_enter Tryd.func5, Tryd.ntmps5
  go_wp2_with fail
  refine HH.out.mono ?_
  rintro e w1 ⟨rfl, l1⟩
  have L1 := Lib.hid l1
  clear l1
  by_cases h9 : 9000 < n
  · have h9I : (9000 : Int) < (n : Int) := by omega
    go_wp2_with fail
    go_ret
    exact ⟨rfl, L1.out⟩
  · have h9I : ¬ (9000 : Int) < (n : Int) := by omega
    have hn9 : n ≤ 9000 := by omega
    have HR1 := Lib.hid (HRt.out hn9 w1 L1.out)
    clear h9
    cases hrd : readI b with
    | none =>
      have hr1 := HR1.out
      rw [hrd] at hr1
      have HR2 : Hid (Calls Tryd.prog 15 #[.slice A n c] w1 (BoolP false w1)) := Lib.hid hr1
      have HE := Lib.hid (allB_none hrd)
      clear hrd hr1 HR1
      go_wp2_with fail
      refine HR2.out.mono ?_
      rintro e w2 ⟨rfl, l2⟩
      have L2 : Hid (Below w.heap.size w w2) := Lib.hid (L1.out.trans (l2.mono L1.out.size))
      have ha2 := HAl.out hn9 w2 L2.out
      rw [HE.out] at ha2
      have HA2 := Lib.hid ha2
      clear l2 ha2
      go_wp2_with fail
      refine HA2.out.mono ?_
      rintro e w3 ⟨l3, v3, rfl, ho3⟩
      have L3 : Hid (Below w.heap.size w w3) := Lib.hid (L2.out.trans (l3.mono L2.out.size))
      have hr3 : StrsR w3 v3 [] := own_rd (f := strC) (k := 1) (fun _ => rfl) ho3
      obtain ⟨A3, c3, rfl⟩ := hr3.shape
      have h0 : (([] : List Bs).length : Int) = 0 := rfl
      clear l3 ho3 hr3 HA2
      go_wp2_with fail
      go_ret
      exact ⟨rfl, L3.out⟩
    | some rows =>
      have hr1 := HR1.out
      rw [hrd] at hr1
      have HR2 : Hid (Calls Tryd.prog 15 #[.slice A n c] w1 (BoolP true w1)) := Lib.hid hr1
      have HE := Lib.hid (allB_some hrd)
      have HI : Hid (IsI b rows) := Lib.hid (readI_iff.1 hrd)
      have HRd := Lib.hid hrd
      obtain ⟨N, hN⟩ : ∃ N, N = rows.length := ⟨_, rfl⟩
      have hN5 : N ≤ 512 := by rw [hN]; exact HI.out.few
      have HNr := Lib.hid hN
      have HAL : Hid ((allI rows).length = N) := Lib.hid (by unfold allI; rw [List.length_map, hN])
      have hnN : n = 544 + N * 34 := by rw [HN.out, hN]; exact HI.out.len
      have HnN := Lib.hid hnN
      have hn1 : 544 ≤ n := by omega
      clear hrd hr1 HR1 hN hnN
      go_wp2_with fail
      refine HR2.out.mono ?_
      rintro e w2 ⟨rfl, l2⟩
      have L2 : Hid (Below w.heap.size w w2) := Lib.hid (L1.out.trans (l2.mono L1.out.size))
      have ha2 := HAl.out hn9 w2 L2.out
      rw [HE.out] at ha2
      have HA2 := Lib.hid ha2
      clear l2 ha2
      go_wp2_with fail
      refine HA2.out.mono ?_
      rintro e w3 ⟨l3, v3, rfl, ho3⟩
      have L3 : Hid (Below w.heap.size w w3) := Lib.hid (L2.out.trans (l3.mono L2.out.size))
      have hr3 : StrsR w3 v3 (allI rows) := own_rd (f := strC) (k := 1) (fun _ => rfl) ho3
      obtain ⟨A3, c3, rfl⟩ := hr3.shape
      rw [HAL.out] at hr3 ⊢
      have HS3 := Lib.hid hr3
      have b4 : Blk (w3.alloc (.cells (strsA (List.replicate N [])) 9)) w3.heap.size 9 (strsA (putAt rows 0)) := by
        unfold putAt; rw [← HNr.out]; exact Blk.new w3 _ _
      have l4 : Below w3.heap.size w3 (w3.alloc (.cells (strsA (List.replicate N [])) 9)) := below_alloc w3 _
      have HMk := Lib.hid (mk_strs w3 N hN5)
      obtain ⟨w4, hw4⟩ : ∃ w4, w4 = w3.alloc (.cells (strsA (List.replicate N [])) 9) := ⟨_, rfl⟩
      rw [← hw4] at b4 l4 HMk
      have B4 := Lib.hid b4; have L4 := Lib.hid l4
      clear l3 ho3 hr3 HA2 b4 l4 hw4
      go_wp2_with (refine wpList_run (by kernel_rfl) (.slice (some ⟨w3.heap.size, 0, none⟩) N N) w4 (y_make (o := _) rfl (by kernel_rfl) (by kernel_rfl) HMk.out) ?_)
      go_loopw [10, 11, 12] (fun i _ _ wr => ∃ k : Nat, k ≤ N ∧ i = .int .i64 k ∧ Hid (Below w3.heap.size w3 wr) ∧ Hid (Blk wr w3.heap.size 9 (strsA (putAt rows k)))) (fun i _ _ _ => N - (intOf i).toNat)
      case atStart => exact ⟨0, Nat.zero_le _, rfl, L4, B4⟩
      case round =>
        clear L4 B4 HMk
        obtain ⟨k, hk, rfl, hB, hb⟩ := hrel
        by_cases hlt : k < N
        · have hltI : (k : Int) < (N : Int) := by omega
          obtain ⟨g3, o3, c3', e, _, hg3⟩ := HS3.out.pos (by rw [HAL.out]; omega)
          obtain rfl : A3 = some ⟨g3, o3, none⟩ := by cases e; rfl
          clear e
          obtain ⟨r, hr⟩ : ∃ r, rows[k]? = some r := ⟨_, List.getElem?_eq_getElem (by have := HNr.out; omega)⟩
          obtain ⟨nm, hnm⟩ : ∃ nm, nm = hexL r.sum := ⟨_, rfl⟩
          have hak : (allI rows)[k]? = some nm := by rw [allI_get, hr, hnm]; rfl
          obtain ⟨p, hpp⟩ : ∃ p, p = r.place := ⟨_, rfl⟩
          have hpN : p < N := by rw [hpp, HNr.out]; exact placed_lt HI.out.placed r (List.mem_of_getElem? hr)
          have hcell : ∀ W, Below w3.heap.size w3 W → W.cell? ⟨g3, o3 + k, none⟩ = some (.string ⟨nm.toArray⟩) := fun W hW => (hW.cell (p := ⟨g3, o3 + k, none⟩) hg3).trans (StrsR.cell HS3.out k nm hak)
          have HC := Lib.hid hcell
          have hnl : nm.length = 64 := by rw [hnm, hexL_len, HI.out.fit r (List.mem_of_getElem? hr)]
          have hf : Calls Tryd.prog 13 #[.slice A n c, .string ⟨nm.toArray⟩] wr (FndP (some p) wr) := by
            have h := Find_any (id := nm) (HP.out.below (L3.out.trans (hB.out.mono L3.out.size)) hplt) (HV.out.below (L3.out.trans (hB.out.mono L3.out.size)) (Nat.le_refl _)) (by rw [← HN.out]; omega) (by rw [hnl]; unfold maxLen; omega)
            rw [findB_some HRd.out, hnm, HI.out.findE_at k r hr, ← hpp] at h
            rw [hnm]; exact h
          have HFk := Lib.hid hf
          have c0 := hcell wr hB.out
          have hblt : w3.heap.size < wr.heap.size := hb.out.lt
          have HNw : Hid ((putAt rows k)[p]? = some []) := Lib.hid (by rw [hpp]; exact putAt_new HI.out.placed k k r (Nat.le_refl _) hr)
          have HNx : Hid (putAt rows (k + 1) = (putAt rows k).set p nm) := Lib.hid (by rw [putAt, hr, hpp, hnm])
          have Hak := Lib.hid hak
          clear hcell hf hr hnm hpp hak
          go_wp2_with fail
          refine HFk.out.mono ?_
          rintro e w5 ⟨rfl, l5⟩
          have L5 : Hid (Below w3.heap.size w3 w5) := Lib.hid (hB.out.trans (l5.mono hB.out.size))
          have hb5 : Blk w5 w3.heap.size 9 (strsA (putAt rows k)) := hb.out.below l5 hblt
          have HB5 := Lib.hid hb5
          have h5lt : w3.heap.size < w5.heap.size := hb5.lt
          have HC0 : Hid (∀ W, Below w5.drew.heap.size w5.drew W → (Instr.loadAt 9 (.pointer (some ⟨w3.heap.size, p, none⟩))).run Tryd.prog W = .ok (.string ⟨#[]⟩) W) := Lib.hid fun W hW => by
            have h := (hW.cell (p := ⟨w3.heap.size, p, none⟩) h5lt).trans (HB5.out.cell p)
            rw [strsA_get, HNw.out] at h
            have h2 : W.cell? ⟨w3.heap.size, p, none⟩ = some (.string ⟨#[]⟩) := h
            simp [go_sem, h2]
          have HP0 := Lib.hid fun W => run_lt0 W p
          have HPN := Lib.hid fun W => run_ge W p N hpN
          have HIp : Hid (∀ W : World, (Instr.indexAt 22 (.slice (some ⟨w3.heap.size, 0, none⟩) N N) (.int .i64 (p : Int))).run Tryd.prog W = .ok (.pointer (some ⟨w3.heap.size, p, none⟩)) W) := Lib.hid fun W => by have h := at_str' W w3.heap.size 0 N N p hpN; rwa [Nat.zero_add] at h
          have LD : Hid (Below w3.heap.size w3 w5.drew) := Lib.hid L5.out.drew
          have c5 : w5.drew.cell? ⟨g3, o3 + k, none⟩ = some (.string ⟨nm.toArray⟩) := HC.out w5.drew LD.out
          have hbd : Blk w5.drew w3.heap.size 9 (strsA (putAt rows k)) := hb5
          have z5 : w5.drew.frozen? ⟨w3.heap.size, p, none⟩ = false := hbd.frozen _
          have HBd := Lib.hid hbd
          have d5 : ∃ u, w5.drew.cell? ⟨w3.heap.size, p, none⟩ = some u := ⟨_, by rw [hbd.cell, strsA_get, HNw.out]; rfl⟩
          obtain ⟨u5, d5⟩ := d5
          have hpI : (p : Int) < (N : Int) := by omega
          clear l5 c0 hB hb hb5 hbd
          unfold findV
          by_cases hk0 : k = 0
          · have HKz : Hid (∀ W : World, (binOp .gtr 3 (.int .i64 (k : Int)) (.int .i64 0)).run Tryd.prog W = .ok (.bool false) W) := Lib.hid fun W => by rw [hk0]; simp [go_sem]
            clear hk0
            go_wp2_with fail
            refine AnyB.start (by kernel_rfl) ?_
            refine AnyB.take 0 (.bool true) rfl (by kernel_rfl) (by kernel_rfl) (by kernel_rfl) (fun _ _ _ h => h) (by kernel_rfl) (fun W hW => by kernel_rfl) ?_
            refine AnyB.take 1 (.bool false) rfl (by kernel_rfl) (by kernel_rfl) (by kernel_rfl) (fun _ _ _ h => h) (by kernel_rfl) (fun W hW => by kernel_rfl) ?_
            refine AnyB.take 2 (.bool false) rfl (by kernel_rfl) (by kernel_rfl) (by kernel_rfl) (fun _ _ _ h => h) (by kernel_rfl) (fun W hW => by kernel_rfl) ?_
            refine AnyB.take 3 (.int .i64 (p : Int)) rfl (by kernel_rfl) (by kernel_rfl) (by kernel_rfl) (fun _ _ _ h => h) (by kernel_rfl) (fun W hW => by kernel_rfl) ?_
            refine AnyB.take 4 (.bool false) rfl (by kernel_rfl) (by kernel_rfl) (by kernel_rfl) (fun _ _ _ h => h) (by kernel_rfl) (fun W hW => y_bin (x := .int .i64 (p : Int)) (y := .int .i64 0) rfl (by kernel_rfl) (by kernel_rfl) rfl (HP0.out W)) ?_
            refine AnyB.take 5 (.bool false) rfl (by kernel_rfl) (by kernel_rfl) (by kernel_rfl) (fun _ _ _ h => h) (by kernel_rfl) (fun W hW => by kernel_rfl) ?_
            refine AnyB.take 6 (.bool false) rfl (by kernel_rfl) (by kernel_rfl) (by kernel_rfl) (fun _ _ _ h => h) (by kernel_rfl) (fun W hW => by kernel_rfl) ?_
            refine AnyB.take 7 (.int .i64 (p : Int)) rfl (by kernel_rfl) (by kernel_rfl) (by kernel_rfl) (fun _ _ _ h => h) (by kernel_rfl) (fun W hW => by kernel_rfl) ?_
            refine AnyB.take 8 (.slice (some ⟨w3.heap.size, 0, none⟩) N N) rfl (by kernel_rfl) (by kernel_rfl) (by kernel_rfl) (fun _ _ _ h => h) (by kernel_rfl) (fun W hW => by kernel_rfl) ?_
            refine AnyB.take 9 (.int .i64 (N : Int)) rfl (by kernel_rfl) (by kernel_rfl) (by kernel_rfl) (fun _ _ _ h => h) (by kernel_rfl) (fun W hW => by kernel_rfl) ?_
            refine AnyB.take 10 (.bool false) rfl (by kernel_rfl) (by kernel_rfl) (by kernel_rfl) (fun _ _ _ h => h) (by kernel_rfl) (fun W hW => y_bin (x := .int .i64 (p : Int)) (y := .int .i64 (N : Int)) rfl (by kernel_rfl) (by kernel_rfl) rfl (HPN.out W)) ?_
            refine AnyB.take 11 (.bool false) rfl (by kernel_rfl) (by kernel_rfl) (by kernel_rfl) (fun _ _ _ h => h) (by kernel_rfl) (fun W hW => by kernel_rfl) ?_
            refine AnyB.take 12 (.bool false) rfl (by kernel_rfl) (by kernel_rfl) (by kernel_rfl) (fun _ _ _ h => h) (by kernel_rfl) (fun W hW => by kernel_rfl) ?_
            refine AnyB.take 13 (.slice (some ⟨w3.heap.size, 0, none⟩) N N) rfl (by kernel_rfl) (by kernel_rfl) (by kernel_rfl) (fun _ _ _ h => h) (by kernel_rfl) (fun W hW => by kernel_rfl) ?_
            refine AnyB.take 14 (.int .i64 (p : Int)) rfl (by kernel_rfl) (by kernel_rfl) (by kernel_rfl) (fun _ _ _ h => h) (by kernel_rfl) (fun W hW => by kernel_rfl) ?_
            refine AnyB.take 15 (.pointer (some ⟨w3.heap.size, p, none⟩)) rfl (by kernel_rfl) (by kernel_rfl) (by kernel_rfl) (fun _ _ _ h => h) (by kernel_rfl) (fun W hW => y_index (sv := .slice (some ⟨w3.heap.size, 0, none⟩) N N) (iv := .int .i64 (p : Int)) rfl (by kernel_rfl) (by kernel_rfl) (HIp.out W)) ?_
            refine AnyB.take 16 (.string ⟨#[]⟩) rfl (by kernel_rfl) (by kernel_rfl) (by kernel_rfl) (fun _ _ _ h => h) (by kernel_rfl) (fun W hW => y_load (sv := .pointer (some ⟨w3.heap.size, p, none⟩)) rfl (by kernel_rfl) (HC0.out W (hW))) ?_
            refine AnyB.take 17 (.bool false) rfl (by kernel_rfl) (by kernel_rfl) (by kernel_rfl) (fun _ _ _ h => h) (by kernel_rfl) (fun W hW => by kernel_rfl) ?_
            refine AnyB.take 18 (.bool false) rfl (by kernel_rfl) (by kernel_rfl) (by kernel_rfl) (fun _ _ _ h => h) (by kernel_rfl) (fun W hW => by kernel_rfl) ?_
            refine AnyB.take 19 (.bool false) rfl (by kernel_rfl) (by kernel_rfl) (by kernel_rfl) (fun _ _ _ h => h) (by kernel_rfl) (fun W hW => by kernel_rfl) ?_
            refine AnyB.take 20 (.int .i64 (k : Int)) rfl (by kernel_rfl) (by kernel_rfl) (by kernel_rfl) (fun _ _ _ h => h) (by kernel_rfl) (fun W hW => by kernel_rfl) ?_
            refine AnyB.take 21 (.bool false) rfl (by kernel_rfl) (by kernel_rfl) (by kernel_rfl) (fun _ _ _ h => h) (by kernel_rfl) (fun W hW => y_bin (x := .int .i64 (k : Int)) (y := .int .i64 0) rfl (by kernel_rfl) (by kernel_rfl) rfl (HKz.out W)) ?_
            refine AnyB.take 22 (.bool false) rfl (by kernel_rfl) (by kernel_rfl) (by kernel_rfl) (fun _ _ _ h => h) (by kernel_rfl) (fun W hW => by kernel_rfl) ?_
            refine AnyB.skip 23 rfl (by kernel_rfl) (by kernel_rfl) (by kernel_rfl) (fun _ _ _ h => h) (by kernel_rfl) ?_
            refine AnyB.skip 24 rfl (by kernel_rfl) (by kernel_rfl) (by kernel_rfl) (fun _ _ _ h => h) (by kernel_rfl) ?_
            refine AnyB.skip 25 rfl (by kernel_rfl) (by kernel_rfl) (by kernel_rfl) (fun _ _ _ h => h) (by kernel_rfl) ?_
            refine AnyB.skip 26 rfl (by kernel_rfl) (by kernel_rfl) (by kernel_rfl) (fun _ _ _ h => h) (by kernel_rfl) ?_
            refine AnyB.skip 27 rfl (by kernel_rfl) (by kernel_rfl) (by kernel_rfl) (fun _ _ _ h => h) (by kernel_rfl) ?_
            refine AnyB.skip 28 rfl (by kernel_rfl) (by kernel_rfl) (by kernel_rfl) (fun _ _ _ h => h) (by kernel_rfl) ?_
            refine AnyB.skip 29 rfl (by kernel_rfl) (by kernel_rfl) (by kernel_rfl) (fun _ _ _ h => h) (by kernel_rfl) ?_
            refine AnyB.skip 30 rfl (by kernel_rfl) (by kernel_rfl) (by kernel_rfl) (fun _ _ _ h => h) (by kernel_rfl) ?_
            refine AnyB.skip 31 rfl (by kernel_rfl) (by kernel_rfl) (by kernel_rfl) (fun _ _ _ h => h) (by kernel_rfl) ?_
            refine AnyB.skip 32 rfl (by kernel_rfl) (by kernel_rfl) (by kernel_rfl) (fun _ _ _ h => h) (by kernel_rfl) ?_
            refine AnyB.take 33 (.bool false) rfl (by kernel_rfl) (by kernel_rfl) (by kernel_rfl) (fun _ _ _ h => h) (by kernel_rfl) (fun W hW => by kernel_rfl) ?_
            refine AnyB.take 34 (.bool false) rfl (by kernel_rfl) (by kernel_rfl) (by kernel_rfl) (fun _ _ _ h => h) (by kernel_rfl) (fun W hW => by kernel_rfl) ?_
            refine AnyB.done _ (by kernel_rfl) ?_
            go_simp
            clear HKz HC0 HP0 HPN HIp
            generalize w5.drew = wd at LD c5 z5 HBd d5 ⊢
            go_wp2_with fail
            go_roundw
            case rel =>
              refine ⟨k + 1, by omega, by go_num, Lib.hid (LD.out.setCell (by simp) _), Lib.hid ?_⟩
              have h := HBd.out.set_ p (SV nm)
              rw [strsA_set, ← HNx.out] at h
              exact h
            case measure => simp [intOf]; omega
          · obtain ⟨j, rfl⟩ : ∃ j, k = j + 1 := ⟨k - 1, by omega⟩
            obtain ⟨prev, hpr⟩ : ∃ x, (allI rows)[j]? = some x := ⟨_, List.getElem?_eq_getElem (by rw [HAL.out]; omega)⟩
            have hrise : prev < nm := by
              have h := List.pairwise_iff_getElem.1 (allI_rise HI.out.rise) j (j + 1) (by rw [HAL.out]; omega) (by rw [HAL.out]; omega) (by omega)
              obtain ⟨_, e1⟩ := List.getElem?_eq_some_iff.1 hpr
              obtain ⟨_, e2⟩ := List.getElem?_eq_some_iff.1 Hak.out
              rw [e1, e2] at h
              exact h
            have HGe := Lib.hid fun W => geq_str W prev nm hrise
            have HLj : Hid (∀ W, Below w3.heap.size w3 W → (Instr.loadAt 9 (.pointer (some ⟨g3, o3 + j, none⟩))).run Tryd.prog W = .ok (.string ⟨prev.toArray⟩) W) := Lib.hid fun W hW => by
              have h : W.cell? ⟨g3, o3 + j, none⟩ = some (.string ⟨prev.toArray⟩) := (hW.cell (p := ⟨g3, o3 + j, none⟩) hg3).trans (StrsR.cell HS3.out j prev hpr)
              simp [go_sem, h]
            have HLk : Hid (∀ W, Below w3.heap.size w3 W → (Instr.loadAt 9 (.pointer (some ⟨g3, o3 + (j + 1), none⟩))).run Tryd.prog W = .ok (.string ⟨nm.toArray⟩) W) := Lib.hid fun W hW => by
              have h := HC.out W hW
              simp [go_sem, h]
            have HK0 := Lib.hid fun W => run_gt0 W (j + 1) (by omega)
            have HKj := Lib.hid fun W => run_dec W j (by omega)
            have HIj := Lib.hid fun W => at_str' W g3 o3 N c3 j (by omega)
            have HIk := Lib.hid fun W => at_str' W g3 o3 N c3 (j + 1) (by omega)
            have hj512 : j + 1 ≤ 512 := by omega
            clear hpr hrise hk0
            go_wp2_with fail
            refine AnyB.start (by kernel_rfl) ?_
            refine AnyB.take 0 (.bool true) rfl (by kernel_rfl) (by kernel_rfl) (by kernel_rfl) (fun _ _ _ h => h) (by kernel_rfl) (fun W hW => by kernel_rfl) ?_
            refine AnyB.take 1 (.bool false) rfl (by kernel_rfl) (by kernel_rfl) (by kernel_rfl) (fun _ _ _ h => h) (by kernel_rfl) (fun W hW => by kernel_rfl) ?_
            refine AnyB.take 2 (.bool false) rfl (by kernel_rfl) (by kernel_rfl) (by kernel_rfl) (fun _ _ _ h => h) (by kernel_rfl) (fun W hW => by kernel_rfl) ?_
            refine AnyB.take 3 (.int .i64 (p : Int)) rfl (by kernel_rfl) (by kernel_rfl) (by kernel_rfl) (fun _ _ _ h => h) (by kernel_rfl) (fun W hW => by kernel_rfl) ?_
            refine AnyB.take 4 (.bool false) rfl (by kernel_rfl) (by kernel_rfl) (by kernel_rfl) (fun _ _ _ h => h) (by kernel_rfl) (fun W hW => y_bin (x := .int .i64 (p : Int)) (y := .int .i64 0) rfl (by kernel_rfl) (by kernel_rfl) rfl (HP0.out W)) ?_
            refine AnyB.take 5 (.bool false) rfl (by kernel_rfl) (by kernel_rfl) (by kernel_rfl) (fun _ _ _ h => h) (by kernel_rfl) (fun W hW => by kernel_rfl) ?_
            refine AnyB.take 6 (.bool false) rfl (by kernel_rfl) (by kernel_rfl) (by kernel_rfl) (fun _ _ _ h => h) (by kernel_rfl) (fun W hW => by kernel_rfl) ?_
            refine AnyB.take 7 (.int .i64 (p : Int)) rfl (by kernel_rfl) (by kernel_rfl) (by kernel_rfl) (fun _ _ _ h => h) (by kernel_rfl) (fun W hW => by kernel_rfl) ?_
            refine AnyB.take 8 (.slice (some ⟨w3.heap.size, 0, none⟩) N N) rfl (by kernel_rfl) (by kernel_rfl) (by kernel_rfl) (fun _ _ _ h => h) (by kernel_rfl) (fun W hW => by kernel_rfl) ?_
            refine AnyB.take 9 (.int .i64 (N : Int)) rfl (by kernel_rfl) (by kernel_rfl) (by kernel_rfl) (fun _ _ _ h => h) (by kernel_rfl) (fun W hW => by kernel_rfl) ?_
            refine AnyB.take 10 (.bool false) rfl (by kernel_rfl) (by kernel_rfl) (by kernel_rfl) (fun _ _ _ h => h) (by kernel_rfl) (fun W hW => y_bin (x := .int .i64 (p : Int)) (y := .int .i64 (N : Int)) rfl (by kernel_rfl) (by kernel_rfl) rfl (HPN.out W)) ?_
            refine AnyB.take 11 (.bool false) rfl (by kernel_rfl) (by kernel_rfl) (by kernel_rfl) (fun _ _ _ h => h) (by kernel_rfl) (fun W hW => by kernel_rfl) ?_
            refine AnyB.take 12 (.bool false) rfl (by kernel_rfl) (by kernel_rfl) (by kernel_rfl) (fun _ _ _ h => h) (by kernel_rfl) (fun W hW => by kernel_rfl) ?_
            refine AnyB.take 13 (.slice (some ⟨w3.heap.size, 0, none⟩) N N) rfl (by kernel_rfl) (by kernel_rfl) (by kernel_rfl) (fun _ _ _ h => h) (by kernel_rfl) (fun W hW => by kernel_rfl) ?_
            refine AnyB.take 14 (.int .i64 (p : Int)) rfl (by kernel_rfl) (by kernel_rfl) (by kernel_rfl) (fun _ _ _ h => h) (by kernel_rfl) (fun W hW => by kernel_rfl) ?_
            refine AnyB.take 15 (.pointer (some ⟨w3.heap.size, p, none⟩)) rfl (by kernel_rfl) (by kernel_rfl) (by kernel_rfl) (fun _ _ _ h => h) (by kernel_rfl) (fun W hW => y_index (sv := .slice (some ⟨w3.heap.size, 0, none⟩) N N) (iv := .int .i64 (p : Int)) rfl (by kernel_rfl) (by kernel_rfl) (HIp.out W)) ?_
            refine AnyB.take 16 (.string ⟨#[]⟩) rfl (by kernel_rfl) (by kernel_rfl) (by kernel_rfl) (fun _ _ _ h => h) (by kernel_rfl) (fun W hW => y_load (sv := .pointer (some ⟨w3.heap.size, p, none⟩)) rfl (by kernel_rfl) (HC0.out W (hW))) ?_
            refine AnyB.take 17 (.bool false) rfl (by kernel_rfl) (by kernel_rfl) (by kernel_rfl) (fun _ _ _ h => h) (by kernel_rfl) (fun W hW => by kernel_rfl) ?_
            refine AnyB.take 18 (.bool false) rfl (by kernel_rfl) (by kernel_rfl) (by kernel_rfl) (fun _ _ _ h => h) (by kernel_rfl) (fun W hW => by kernel_rfl) ?_
            refine AnyB.take 19 (.bool false) rfl (by kernel_rfl) (by kernel_rfl) (by kernel_rfl) (fun _ _ _ h => h) (by kernel_rfl) (fun W hW => by kernel_rfl) ?_
            refine AnyB.take 20 (.int .i64 ((j + 1 : Nat) : Int)) rfl (by kernel_rfl) (by kernel_rfl) (by kernel_rfl) (fun _ _ _ h => h) (by kernel_rfl) (fun W hW => by kernel_rfl) ?_
            refine AnyB.take 21 (.bool true) rfl (by kernel_rfl) (by kernel_rfl) (by kernel_rfl) (fun _ _ _ h => h) (by kernel_rfl) (fun W hW => y_bin (x := .int .i64 ((j + 1 : Nat) : Int)) (y := .int .i64 0) rfl (by kernel_rfl) (by kernel_rfl) rfl (HK0.out W)) ?_
            refine AnyB.take 22 (.bool true) rfl (by kernel_rfl) (by kernel_rfl) (by kernel_rfl) (fun _ _ _ h => h) (by kernel_rfl) (fun W hW => by kernel_rfl) ?_
            refine AnyB.take 23 (.slice (some ⟨g3, o3, none⟩) N c3) rfl (by kernel_rfl) (by kernel_rfl) (by kernel_rfl) (fun _ _ _ h => h) (by kernel_rfl) (fun W hW => by kernel_rfl) ?_
            refine AnyB.take 24 (.int .i64 ((j + 1 : Nat) : Int)) rfl (by kernel_rfl) (by kernel_rfl) (by kernel_rfl) (fun _ _ _ h => h) (by kernel_rfl) (fun W hW => by kernel_rfl) ?_
            refine AnyB.take 25 (.int .i64 (j : Int)) rfl (by kernel_rfl) (by kernel_rfl) (by kernel_rfl) (fun _ _ _ h => h) (by kernel_rfl) (fun W hW => y_bin (x := .int .i64 ((j + 1 : Nat) : Int)) (y := .int .i64 1) rfl (by kernel_rfl) (by kernel_rfl) rfl (HKj.out W)) ?_
            refine AnyB.take 26 (.pointer (some ⟨g3, o3 + j, none⟩)) rfl (by kernel_rfl) (by kernel_rfl) (by kernel_rfl) (fun _ _ _ h => h) (by kernel_rfl) (fun W hW => y_index (sv := .slice (some ⟨g3, o3, none⟩) N c3) (iv := .int .i64 (j : Int)) rfl (by kernel_rfl) (by kernel_rfl) (HIj.out W)) ?_
            refine AnyB.take 27 (.string ⟨prev.toArray⟩) rfl (by kernel_rfl) (by kernel_rfl) (by kernel_rfl) (fun _ _ _ h => h) (by kernel_rfl) (fun W hW => y_load (sv := .pointer (some ⟨g3, o3 + j, none⟩)) rfl (by kernel_rfl) (HLj.out W (LD.out.trans (hW.mono LD.out.size)))) ?_
            refine AnyB.take 28 (.slice (some ⟨g3, o3, none⟩) N c3) rfl (by kernel_rfl) (by kernel_rfl) (by kernel_rfl) (fun _ _ _ h => h) (by kernel_rfl) (fun W hW => by kernel_rfl) ?_
            refine AnyB.take 29 (.int .i64 ((j + 1 : Nat) : Int)) rfl (by kernel_rfl) (by kernel_rfl) (by kernel_rfl) (fun _ _ _ h => h) (by kernel_rfl) (fun W hW => by kernel_rfl) ?_
            refine AnyB.take 30 (.pointer (some ⟨g3, o3 + (j + 1), none⟩)) rfl (by kernel_rfl) (by kernel_rfl) (by kernel_rfl) (fun _ _ _ h => h) (by kernel_rfl) (fun W hW => y_index (sv := .slice (some ⟨g3, o3, none⟩) N c3) (iv := .int .i64 ((j + 1 : Nat) : Int)) rfl (by kernel_rfl) (by kernel_rfl) (HIk.out W)) ?_
            refine AnyB.take 31 (.string ⟨nm.toArray⟩) rfl (by kernel_rfl) (by kernel_rfl) (by kernel_rfl) (fun _ _ _ h => h) (by kernel_rfl) (fun W hW => y_load (sv := .pointer (some ⟨g3, o3 + (j + 1), none⟩)) rfl (by kernel_rfl) (HLk.out W (LD.out.trans (hW.mono LD.out.size)))) ?_
            refine AnyB.take 32 (.bool false) rfl (by kernel_rfl) (by kernel_rfl) (by kernel_rfl) (fun _ _ _ h => h) (by kernel_rfl) (fun W hW => y_bin (x := .string ⟨prev.toArray⟩) (y := .string ⟨nm.toArray⟩) rfl (by kernel_rfl) (by kernel_rfl) rfl (HGe.out W)) ?_
            refine AnyB.take 33 (.bool false) rfl (by kernel_rfl) (by kernel_rfl) (by kernel_rfl) (fun _ _ _ h => h) (by kernel_rfl) (fun W hW => by kernel_rfl) ?_
            refine AnyB.take 34 (.bool false) rfl (by kernel_rfl) (by kernel_rfl) (by kernel_rfl) (fun _ _ _ h => h) (by kernel_rfl) (fun W hW => by kernel_rfl) ?_
            refine AnyB.done _ (by kernel_rfl) ?_
            go_simp
            clear HC0 HP0 HPN HIp HGe HLj HLk HK0 HKj HIj HIk
            generalize w5.drew = wd at LD c5 z5 HBd d5 ⊢
            go_wp2_with fail
            go_roundw
            case rel =>
              refine ⟨(j + 1) + 1, by omega, by go_num, Lib.hid (LD.out.setCell (by simp) _), Lib.hid ?_⟩
              have h := HBd.out.set_ p (SV nm)
              rw [strsA_set, ← HNx.out] at h
              exact h
            case measure => simp [intOf]; omega
        · have hkN : k = N := by omega
          subst hkN
          have hou : putAt rows k = outI rows := by rw [HNr.out]; rfl
          have hb' := hb.out
          rw [hou] at hb'
          have hol : (outI rows).length = k := by rw [outI_len, HNr.out]
          have hst : StrsR wr (.slice (some ⟨w3.heap.size, 0, none⟩) k k) (outI rows) := by have h := blk_strs hb'; rw [hol] at h; exact h
          have hwr : Below w.heap.size w wr := L3.out.trans (hB.out.mono L3.out.size)
          have HPt := Lib.hid (Put_any (HP.out.below hwr hplt) hst (fun x hx => by have := named_len (List.all_eq_true.1 HI.out.named x hx); unfold maxLen; omega) (by rw [hol]; omega))
          have LW := Lib.hid hwr
          clear hou hb' hol hst hwr hB hb
          go_wp2_with fail
          refine HPt.out.mono ?_
          rintro e w6 ⟨l6, hh⟩
          have L6 : Hid (Below w.heap.size w w6) := Lib.hid (LW.out.trans (l6.mono LW.out.size))
          rcases hh with ⟨n', hn', _⟩ | ⟨_, rows', A6, N6, c6, hsrt, rfl, hN6, ho6⟩
          · exfalso
            rw [HI.out.putE] at hn'; cases hn'
          · obtain rfl : rows = rows' := HI.out.srt.uniq hsrt
            rw [HI.out.eq] at hN6 ho6
            obtain rfl : n = N6 := by rw [hN6, HN.out]
            have hr6 : Rb w6 (.slice A6 n c6) b := Dl.Ow.rb ho6
            rcases HV.out with ⟨_, h0⟩ | ⟨g, o, c', e, hc, hg, _⟩
            · exfalso
              have h := HN.out
              rw [h0] at h
              simp at h
              omega
            obtain rfl : c = c' := by cases e; rfl
            obtain rfl : A = some ⟨g, o, none⟩ := by cases e; rfl
            rw [← HN.out] at hc
            have hv6 : Rb w6 (.slice (some ⟨g, o, none⟩) n c) b := HV.out.below L6.out (Nat.le_refl _)
            obtain ⟨kk, hkk⟩ : ∃ kk, kk = ct % n := ⟨_, rfl⟩
            have hkl : kk < n := by rw [hkk]; exact Nat.mod_lt _ (by omega)
            have n1 : (ct : Int) % (n : Int) = (kk : Int) := by rw [hkk]; exact (Int.natCast_emod _ _).symm
            have n2 : Int.tmod (ct : Int) (n : Int) = (kk : Int) := (Int.tmod_eq_emod_of_nonneg (by omega)).trans n1
            have HCut := Lib.hid (bcut_lo w6 g o n c kk (by omega) (by omega))
            have hrt : Rb w6 (.slice (some ⟨g, o, none⟩) kk c) (b.take kk) := rb_take (by rw [← HN.out]; exact hv6) (by rw [← HN.out]; omega) kk (by rw [← HN.out]; omega)
            have HA6 := Lib.hid (All_any (HP.out.below L6.out hplt) hrt (by rw [List.length_take, ← HN.out]; omega))
            have hMk := allB_take HRd.out kk
            rw [← HNr.out] at hMk
            obtain ⟨sh, hsh⟩ : ∃ sh, sh = allB (b.take kk) := ⟨_, rfl⟩
            rw [← hsh] at HA6 hMk
            obtain ⟨M, hM⟩ : ∃ M, M = sh.length := ⟨_, rfl⟩
            rw [← hM] at hMk
            have HM := Lib.hid hM; have HR6 := Lib.hid hr6; have HV6 := Lib.hid hv6
            clear l6 hN6 ho6 hr6 hc hg hv6 e hkk hrt hsh hM hsrt HPt
            go_wp2_with (refine wpList_run (by kernel_rfl) (.slice (some ⟨g, o, none⟩) kk c) w6 (y_slice (xv := .slice (some ⟨g, o, none⟩) n c) (lv := none) (hv := some (.int .i64 (kk : Int))) (mv := none) rfl (by kernel_rfl) rfl (by kernel_rfl) rfl HCut.out) ?_)
            refine HA6.out.mono ?_
            rintro e w7 ⟨l7, v7, rfl, ho7⟩
            have hr7 : StrsR w7 v7 sh := own_rd (f := strC) (k := 1) (fun _ => rfl) ho7
            obtain ⟨A7, c7, rfl⟩ := hr7.shape
            rw [← HM.out]
            have L7 : Hid (Below w.heap.size w w7) := Lib.hid (L6.out.trans (l7.mono L6.out.size))
            have h6 : Rb w7 (.slice A6 n c6) b := HR6.out.below l7 (Nat.le_refl _)
            have hv : Rb w7 (.slice (some ⟨g, o, none⟩) n c) b := HV6.out.below l7 (Nat.le_refl _)
            have HC1 := Lib.hid (Rb.conv h6); have HC2 := Lib.hid (Rb.conv hv)
            have M0 : Below w7.heap.size w7 (w7.alloc (.cells #[] 5)) := below_alloc w7 _
            have O0 := ow_new0 w7 w7.heap.size (Nat.le_refl _)
            have HB0 := Lib.hid (bbuild0 w7)
            obtain ⟨w8, hw8⟩ : ∃ w8, w8 = w7.alloc (.cells #[] 5) := ⟨_, rfl⟩
            rw [← hw8] at M0 O0 HB0
            obtain ⟨v9, w9, g9, o9, f9⟩ := Dl.run_app' O0 (hv.below M0 (Nat.le_refl _)) (by have := HN.out; simp; omega) M0.size 23
            rw [List.nil_append] at o9
            have M9 : Below w7.heap.size w7 w9 := M0.trans (app_below O0 f9 M0.size)
            have M10 : Below w9.heap.size w9 (w9.alloc (.cells #[.int .u8 mi] 5)) := below_alloc w9 _
            have hrb : Rb (w9.alloc (.cells #[.int .u8 mi] 5)) (.slice (some ⟨w9.heap.size, 0, none⟩) 1 1) [mo] := by rw [HMi.out]; exact Dl.rb_one w9 mo
            have HB1 := Lib.hid (bbuild1 w9 mi)
            obtain ⟨w10, hw10⟩ : ∃ w10, w10 = w9.alloc (.cells #[.int .u8 mi] 5) := ⟨_, rfl⟩
            rw [← hw10] at M10 hrb HB1
            have o10 : Dl.Ow w10 w7.heap.size v9 b := o9.below M10 (Nat.le_refl _)
            have M710 : Below w7.heap.size w7 w10 := M9.trans (M10.mono M9.size)
            obtain ⟨v11, w11, g11, o11, f11⟩ := Dl.run_app' o10 hrb (by have := HN.out; simp; omega) M710.size 23
            have M11 : Below w7.heap.size w7 w11 := M710.trans (app_below o10 f11 M710.size)
            have L11 : Hid (Below w.heap.size w w11) := Lib.hid (L7.out.trans (M11.mono L7.out.size))
            have hrr := Right_any (HP.out.below L11.out hplt) (Dl.Ow.rb o11) (by have := HN.out; simp; omega)
            rw [readI_more HRd.out mo] at hrr
            have HRR : Hid (Calls Tryd.prog 15 #[v11] w11 (BoolP false w11)) := Lib.hid hrr
            have G9 := Lib.hid g9; have G11 := Lib.hid g11
            have hMI : (M : Int) < (k : Int) + 1 := by omega
            have wk : IntKind.i64.wrap ((k : Int) + 1) = (k : Int) + 1 := IntWalk.i64_in _ (by omega)
            clear n1 n2 l7 ho7 hr7 h6 hv M0 O0 o9 f9 M9 M10 hrb o10 M710 o11 f11 M11 hrr g9 g11 hw8 hw10
            go_wp2_with (first
              | (refine wpList_run (by kernel_rfl) (.string ⟨b.toArray⟩) w7 (y_conv (s := .tmp 120) (x := .slice A6 n c6) rfl (by kernel_rfl) HC1.out) ?_)
              | (refine wpList_run (by kernel_rfl) (.string ⟨b.toArray⟩) w7 (y_conv (s := .tmp 122) (x := .slice (some ⟨g, o, none⟩) n c) rfl (by kernel_rfl) HC2.out) ?_)
              | (refine wpList_run (by kernel_rfl) (.slice (some ⟨w7.heap.size, 0, none⟩) 0 0) w8 (y_build rfl (by kernel_rfl) HB0.out) ?_)
              | (refine wpList_run (by kernel_rfl) v9 w9 (y_append (s := .tmp 135) (y := .tmp 136) (sv := .slice (some ⟨w7.heap.size, 0, none⟩) 0 0) (yv := .slice (some ⟨g, o, none⟩) n c) rfl (by kernel_rfl) (by kernel_rfl) G9.out) ?_)
              | (refine wpList_run (by kernel_rfl) (.slice (some ⟨w9.heap.size, 0, none⟩) 1 1) w10 (y_build rfl (by kernel_rfl) HB1.out) ?_)
              | (refine wpList_run (by kernel_rfl) v11 w11 (y_append (s := .tmp 137) (y := .tmp 139) (sv := v9) (yv := .slice (some ⟨w9.heap.size, 0, none⟩) 1 1) rfl (by kernel_rfl) (by kernel_rfl) G11.out) ?_))
            refine HRR.out.mono ?_
            rintro e w12 ⟨rfl, l12⟩
            have L12 : Hid (Below w.heap.size w w12) := Lib.hid (L11.out.trans (l12.mono L11.out.size))
            clear l12
            go_wp2_with fail
            go_ret
            exact ⟨rfl, L12.out⟩
end Go.Proofs.YtdjmcehoaneekaaDoor.Ix
