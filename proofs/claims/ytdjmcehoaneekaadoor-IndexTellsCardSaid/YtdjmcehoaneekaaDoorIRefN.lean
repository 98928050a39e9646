/-
  The document's names, over what its Put gives.
-/
import Derived.Test.YtdjmcehoaneekaaDoorIRefL
import Derived.Test.YtdjmcehoaneekaaDoorIFan
namespace Go.Proofs.YtdjmcehoaneekaaDoor.Ix
open Go.Proofs.YtdjmcehoaneekaaDoor
open Go Go.RowKit

def rows0 (b : Bs) (M : Nat) : List Rw := (List.range M).map (rowAt b)
theorem rows0_len (b : Bs) (M : Nat) : (rows0 b M).length = M := by simp [rows0]
theorem rows0_get (b : Bs) (M k : Nat) (h : k < M) : (rows0 b M)[k]? = some (rowAt b k) := by unfold rows0; rw [List.getElem?_map, List.getElem?_range h]; rfl
theorem rowsL_of_read {b : Bs} {rows : List Rw} (h : readI b = some rows) : rowsL b = some rows := by
  unfold readI at h
  split at h
  · split at h
    · rename_i h1 h2
      rw [h1]; exact h
    · cases h
  · cases h
theorem rowsL_no {b : Bs} (h : ¬ (544 ≤ b.length ∧ (b.length - 544) % 34 = 0 ∧ (b.length - 544) / 34 ≤ 512)) : readI b = none := by
  cases hr : readI b with
  | none => rfl
  | some rows =>
    have h2 := rowsL_of_read hr
    unfold rowsL at h2
    rw [if_neg h] at h2; cases h2
theorem rowsL_yes {b : Bs} {M : Nat} (h : b.length = 544 + M * 34) (hM : M ≤ 512) {rows : List Rw} (hr : readI b = some rows) : rows = rows0 b M := by
  have h2 := rowsL_of_read hr
  unfold rowsL at h2
  have e : (b.length - 544) / 34 = M := by omega
  rw [if_pos (by omega), e] at h2
  exact (Option.some.inj h2).symm
theorem run_add32 (W : World) (a b : Nat) (h : a + b ≤ 1000000) : (binOp .add 3 (.int .i64 (a : Int)) (.int .i64 (b : Int))).run Tryd.prog W = .ok (.int .i64 ((a + b : Nat) : Int)) W := run_sum W a b (by omega)
theorem place_at (b : Bs) (k a : Nat) (ha : a = 512 + k * 34) : (rowAt b k).place = (b.getD (a + 32) 0).toNat * 256 + (b.getD (a + 33) 0).toNat := by
  subst ha
  show unnum (b.drop (512 + k * 34 + 32)) = _
  unfold unnum
  simp [List.getD_eq_getElem?_getD, List.getElem?_drop]

theorem putAt_small {rows : List Rw} (h : ∀ r ∈ rows, r.sum.length ≤ 32) : ∀ i, ∀ x ∈ putAt rows i, x.length ≤ 64
  | 0 => fun x hx => by
    unfold putAt at hx
    rw [(List.mem_replicate.1 hx).2]; exact Nat.zero_le _
  | i + 1 => fun x hx => by
    rw [putAt] at hx
    cases hr : rows[i]? with
    | none => rw [hr] at hx; exact putAt_small h i x hx
    | some r =>
      rw [hr] at hx
      rcases List.mem_or_eq_of_mem_set hx with h1 | h1
      · exact putAt_small h i x h1
      · rw [h1, hexL_len]
        have := h r (List.mem_of_getElem? hr)
        omega
theorem rows0_sum (b : Bs) (M : Nat) : ∀ r ∈ rows0 b M, r.sum.length ≤ 32 := fun r hr => by
  obtain ⟨i, _, rfl⟩ := List.mem_map.1 hr
  show ((b.drop (512 + i * 34)).take 32).length ≤ 32
  rw [List.length_take]; exact Nat.min_le_left _ _

set_option maxRecDepth 100000 in
set_option maxHeartbeats 4000000 in
theorem Rnames_of (w : World) (v : Value) (b : Bs) (hv : Rb w v b) (hl : b.length ≤ 1000000)
    (hPut : ∀ W u ids, Below w.heap.size w W → StrsR W u ids → ids.length ≤ 512 → (∀ x ∈ ids, x.length ≤ maxLen) → Calls Tryd.prog 12 #[u] W (PutPost ids W)) :
    Calls Tryd.prog 33 #[v] w (NmP b w) := by
  have HPut := Lib.hid hPut
  clear hPut
  obtain ⟨A, c, rfl⟩ := hv.shape
  obtain ⟨n, hn⟩ : ∃ n, n = b.length := ⟨_, rfl⟩
  have HV : Hid (Rb w (.slice A n c) b) := Lib.hid (by rw [hn]; exact hv)
  have HN := Lib.hid hn
  rw [← hn] at hl ⊢
  clear hv hn
  go_enter Tryd.func33, Tryd.ntmps33
  by_cases h5 : n < 544
  · have h5I : (n : Int) < 544 := by omega
    have HNo : Hid (readI b = none) := Lib.hid (rowsL_no (by rw [← HN.out]; omega))
    clear h5
    go_wp2_with fail
    go_ret2
    exact ⟨Below.refl _ _, .inr ⟨HNo.out, rfl⟩⟩
  have h5I : ¬ (n : Int) < 544 := by omega
  obtain ⟨m, hm⟩ : ∃ m, m = (n - 544) % 34 := ⟨_, rfl⟩
  obtain ⟨M, hM⟩ : ∃ M, M = (n - 544) / 34 := ⟨_, rfl⟩
  have s1 : IntKind.i64.wrap ((n : Int) - 544) = (n : Int) - 544 := IntWalk.i64_in _ (by omega)
  have t1 : ((n : Int) - 544) % 34 = (m : Int) := by omega
  have t2 : Int.tmod ((n : Int) - 544) 34 = (m : Int) := (Int.tmod_eq_emod_of_nonneg (by omega)).trans t1
  have q1 : ((n : Int) - 544) / 34 = (M : Int) := by omega
  have q2 : Int.tdiv ((n : Int) - 544) 34 = (M : Int) := (Int.tdiv_eq_ediv_of_nonneg (by omega)).trans q1
  by_cases hm0 : m = 0
  case neg =>
    have hmb : ((m : Int) != 0) = true := ne0 (by omega)
    have HNo : Hid (readI b = none) := Lib.hid (rowsL_no (by rw [← HN.out]; omega))
    clear hm hM hm0 q1 q2
    go_wp2_with fail
    go_ret2
    exact ⟨Below.refl _ _, .inr ⟨HNo.out, rfl⟩⟩
  have hmb : ((m : Int) != 0) = false := by rw [hm0]; rfl
  have HM : Hid (n = 544 + M * 34) := Lib.hid (by omega)
  have hM3 : M ≤ 30000 := by omega
  have hw : IntKind.i64.wrap (M : Int) = (M : Int) := IntWalk.i64_in _ (by omega)
  clear hm hm0 hM
  by_cases hM5 : 512 < M
  · have hM5I : (512 : Int) < (M : Int) := by omega
    have HNo : Hid (readI b = none) := Lib.hid (rowsL_no (by rw [← HN.out]; have := HM.out; omega))
    clear hM5
    go_wp2_with fail
    go_ret2
    exact ⟨Below.refl _ _, .inr ⟨HNo.out, rfl⟩⟩
  have hM5I : ¬ (512 : Int) < (M : Int) := by omega
  have hM5' : M ≤ 512 := by omega
  have b4 : Blk (w.alloc (.cells (strsA (List.replicate M [])) 9)) w.heap.size 9 (strsA (putAt (rows0 b M) 0)) := by
    unfold putAt; rw [rows0_len]; exact Blk.new w _ _
  have l4 : Below w.heap.size w (w.alloc (.cells (strsA (List.replicate M [])) 9)) := below_alloc w _
  have HMk := Lib.hid (mk_strs w M hM5')
  obtain ⟨w4, hw4⟩ : ∃ w4, w4 = w.alloc (.cells (strsA (List.replicate M [])) 9) := ⟨_, rfl⟩
  rw [← hw4] at b4 l4 HMk
  have B4 := Lib.hid b4; have L4 := Lib.hid l4
  clear hM5 b4 l4 hw4
  go_wp2_with (refine wpList_run (by kernel_rfl) (.slice (some ⟨w.heap.size, 0, none⟩) M M) w4 (y_make (l := .tmp 27) (c := .tmp 27) rfl (by kernel_rfl) (by kernel_rfl) HMk.out) ?_)
  go_loopw [6, 7, 8] (fun i _ _ wr => ∃ k : Nat, k ≤ M ∧ i = .int .i64 k ∧ Hid (Below w.heap.size w wr) ∧ Hid (Blk wr w.heap.size 9 (strsA (putAt (rows0 b M) k)))) (fun i _ _ _ => M - (intOf i).toNat)
  case atStart => exact ⟨0, Nat.zero_le _, rfl, L4, B4⟩
  case round =>
    clear L4 B4 HMk
    obtain ⟨k, hk, rfl, hB, hb⟩ := hrel
    by_cases hlt : k < M
    · have hltI : (k : Int) < (M : Int) := by omega
      rcases HV.out with ⟨_, h0⟩ | ⟨g, o, c', e, hc, hg, hcell⟩
      · exfalso
        have h := HN.out
        rw [h0] at h
        simp at h
        omega
      obtain rfl : c = c' := by cases e; rfl
      obtain rfl : A = some ⟨g, o, none⟩ := by cases e; rfl
      obtain ⟨a, ha⟩ : ∃ a, a = 512 + k * 34 := ⟨_, rfl⟩
      have e1 : IntKind.i64.wrap (34 * (k : Int)) = 34 * (k : Int) := IntWalk.i64_in _ (by omega)
      have e2 : IntKind.i64.wrap (512 + 34 * (k : Int)) = (a : Int) := by rw [IntWalk.i64_in _ (by omega)]; omega
      have ha34 : a + 34 ≤ n := by have := HM.out; omega
      have ha5 : a ≤ 20000 := by omega
      obtain ⟨x, hx⟩ : ∃ x, x = (b.getD (a + 32) 0).toNat := ⟨_, rfl⟩
      obtain ⟨y, hy⟩ : ∃ y, y = (b.getD (a + 33) 0).toNat := ⟨_, rfl⟩
      have hx256 : x < 256 := by rw [hx]; exact UInt8.toNat_lt _
      have hy256 : y < 256 := by rw [hy]; exact UInt8.toNat_lt _
      have ld : ∀ W, Below w.heap.size w W → ∀ j, j < n → (Instr.loadAt 5 (.pointer (some ⟨g, o + j, none⟩))).run Tryd.prog W = .ok (.int .u8 (((b.getD j 0).toNat : Nat) : Int)) W := fun W hW j hj => load_u8 W g (o + j) _ ((hW.cell (p := ⟨g, o + j, none⟩) hg).trans (hcell j (by rw [← HN.out]; exact hj)))
      have HX : Hid (∀ W, Below w.heap.size w W → (Instr.loadAt 5 (.pointer (some ⟨g, o + (a + 32), none⟩))).run Tryd.prog W = .ok (.int .u8 (x : Int)) W) := Lib.hid fun W hW => by rw [hx]; exact ld W hW (a + 32) (by omega)
      have HY : Hid (∀ W, Below w.heap.size w W → (Instr.loadAt 5 (.pointer (some ⟨g, o + (a + 33), none⟩))).run Tryd.prog W = .ok (.int .u8 (y : Int)) W) := Lib.hid fun W hW => by rw [hy]; exact ld W hW (a + 33) (by omega)
      have HI0 := Lib.hid fun W => at_byte W g o n c (a + 32) (by omega)
      have HI1 := Lib.hid fun W => at_byte W g o n c (a + 33) (by omega)
      obtain ⟨p, hp⟩ : ∃ p, p = x * 256 + y := ⟨_, rfl⟩
      have HSu : Hid (∀ W : World, (binOp .add 3 (.int .i64 ((x * 256 : Nat) : Int)) (.int .i64 (y : Int))).run Tryd.prog W = .ok (.int .i64 (p : Int)) W) := Lib.hid fun W => by rw [hp]; exact run_sum W (x * 256) y (by omega)
      have HPl : Hid ((rowAt b k).place = p) := Lib.hid (by rw [place_at b k a ha, hp, hx, hy])
      have hp6 : p < 65536 := by omega
      have hrw := rows0_get b M k hlt
      have hvr : Rb wr.drew (.slice (some ⟨g, o, none⟩) n c) b := HV.out.below (hB.out.drew) (Nat.le_refl _)
      have h32 : Rb wr.drew (.slice (some ⟨g, o + a, none⟩) 32 (c - a)) ((b.drop (512 + k * 34)).take 32) := by rw [← ha]; exact rb_32 (by rw [← HN.out]; exact hvr) a (by rw [← HN.out]; omega)
      obtain ⟨nm, hnm⟩ : ∃ nm, nm = hexL (rowAt b k).sum := ⟨_, rfl⟩
      have ht := Rtold_any wr.drew _ _ h32 (by rw [List.length_take]; omega)
      rw [show hexL ((b.drop (512 + k * 34)).take 32) = nm from hnm.symm] at ht
      unfold SV at ht
      have HT := Lib.hid ht
      have HCut := Lib.hid (bcut_32 wr.drew g o n c a (by rw [← HN.out] at hc; omega))
      have HNx : Hid (putAt (rows0 b M) (k + 1) = (putAt (rows0 b M) k).set p nm) := Lib.hid (by rw [putAt, hrw, hnm, ← HPl.out])
      have Hrw := Lib.hid hrw
      have LD : Hid (Below w.heap.size w wr.drew) := Lib.hid hB.out.drew
      have BD : Hid (Blk wr.drew w.heap.size 9 (strsA (putAt (rows0 b M) k))) := hb
      clear hx hy hp hrw hvr h32 hnm ht hB hb ld hcell e hc hg ha s1 t1 t2 q1 q2
      go_wp2_with fail
      refine AnyB.start (by kernel_rfl) ?_
      refine AnyB.take 0 (.slice (some ⟨g, o, none⟩) n c) rfl (by kernel_rfl) (by kernel_rfl) (by kernel_rfl) (fun _ _ _ h => h) (by kernel_rfl) (fun W hW => by kernel_rfl) ?_
      refine AnyB.take 1 (.int .i64 (a : Int)) rfl (by kernel_rfl) (by kernel_rfl) (by kernel_rfl) (fun _ _ _ h => h) (by kernel_rfl) (fun W hW => by kernel_rfl) ?_
      refine AnyB.take 2 (.int .i64 ((a + 32 : Nat) : Int)) rfl (by kernel_rfl) (by kernel_rfl) (by kernel_rfl) (fun _ _ _ h => h) (by kernel_rfl) (fun W hW => y_bin (x := .int .i64 (a : Int)) (y := .int .i64 32) rfl (by kernel_rfl) (by kernel_rfl) rfl (run_add32 W a 32 (by omega))) ?_
      refine AnyB.take 3 (.pointer (some ⟨g, o + (a + 32), none⟩)) rfl (by kernel_rfl) (by kernel_rfl) (by kernel_rfl) (fun _ _ _ h => h) (by kernel_rfl) (fun W hW => y_index (sv := .slice (some ⟨g, o, none⟩) n c) (iv := .int .i64 ((a + 32 : Nat) : Int)) rfl (by kernel_rfl) (by kernel_rfl) (HI0.out W)) ?_
      refine AnyB.take 4 (.int .u8 (x : Int)) rfl (by kernel_rfl) (by kernel_rfl) (by kernel_rfl) (fun _ _ _ h => h) (by kernel_rfl) (fun W hW => y_load (sv := .pointer (some ⟨g, o + (a + 32), none⟩)) rfl (by kernel_rfl) (HX.out W (LD.out.trans (hW.mono LD.out.size)))) ?_
      refine AnyB.take 5 (.int .i64 (x : Int)) rfl (by kernel_rfl) (by kernel_rfl) (by kernel_rfl) (fun _ _ _ h => h) (by kernel_rfl) (fun W hW => y_conv rfl (by kernel_rfl) (conv_u8 W x hx256)) ?_
      refine AnyB.take 6 (.int .i64 ((x * 256 : Nat) : Int)) rfl (by kernel_rfl) (by kernel_rfl) (by kernel_rfl) (fun _ _ _ h => h) (by kernel_rfl) (fun W hW => y_bin (x := .int .i64 (x : Int)) (y := .int .i64 256) rfl (by kernel_rfl) (by kernel_rfl) rfl (run_256 W x (by omega))) ?_
      refine AnyB.take 7 (.slice (some ⟨g, o, none⟩) n c) rfl (by kernel_rfl) (by kernel_rfl) (by kernel_rfl) (fun _ _ _ h => h) (by kernel_rfl) (fun W hW => by kernel_rfl) ?_
      refine AnyB.take 8 (.int .i64 (a : Int)) rfl (by kernel_rfl) (by kernel_rfl) (by kernel_rfl) (fun _ _ _ h => h) (by kernel_rfl) (fun W hW => by kernel_rfl) ?_
      refine AnyB.take 9 (.int .i64 ((a + 33 : Nat) : Int)) rfl (by kernel_rfl) (by kernel_rfl) (by kernel_rfl) (fun _ _ _ h => h) (by kernel_rfl) (fun W hW => y_bin (x := .int .i64 (a : Int)) (y := .int .i64 33) rfl (by kernel_rfl) (by kernel_rfl) rfl (run_add32 W a 33 (by omega))) ?_
      refine AnyB.take 10 (.pointer (some ⟨g, o + (a + 33), none⟩)) rfl (by kernel_rfl) (by kernel_rfl) (by kernel_rfl) (fun _ _ _ h => h) (by kernel_rfl) (fun W hW => y_index (sv := .slice (some ⟨g, o, none⟩) n c) (iv := .int .i64 ((a + 33 : Nat) : Int)) rfl (by kernel_rfl) (by kernel_rfl) (HI1.out W)) ?_
      refine AnyB.take 11 (.int .u8 (y : Int)) rfl (by kernel_rfl) (by kernel_rfl) (by kernel_rfl) (fun _ _ _ h => h) (by kernel_rfl) (fun W hW => y_load (sv := .pointer (some ⟨g, o + (a + 33), none⟩)) rfl (by kernel_rfl) (HY.out W (LD.out.trans (hW.mono LD.out.size)))) ?_
      refine AnyB.take 12 (.int .i64 (y : Int)) rfl (by kernel_rfl) (by kernel_rfl) (by kernel_rfl) (fun _ _ _ h => h) (by kernel_rfl) (fun W hW => y_conv rfl (by kernel_rfl) (conv_u8 W y hy256)) ?_
      refine AnyB.take 13 (.int .i64 (p : Int)) rfl (by kernel_rfl) (by kernel_rfl) (by kernel_rfl) (fun _ _ _ h => h) (by kernel_rfl) (fun W hW => y_bin (x := .int .i64 ((x * 256 : Nat) : Int)) (y := .int .i64 (y : Int)) rfl (by kernel_rfl) (by kernel_rfl) rfl (HSu.out W)) ?_
      refine AnyB.take 14 (.int .i64 (p : Int)) rfl (by kernel_rfl) (by kernel_rfl) (by kernel_rfl) (fun _ _ _ h => h) (by kernel_rfl) (fun W hW => by kernel_rfl) ?_
      refine AnyB.done _ (by kernel_rfl) ?_
      go_simp
      clear HX HY HI0 HI1 HSu
      generalize wr.drew = wd at LD BD HT HCut ⊢
      by_cases hpM : M ≤ p
      · have hpI : (M : Int) ≤ (p : Int) := by omega
        have HNo : Hid (readI b = none) := Lib.hid (by
          cases hr : readI b with
          | none => rfl
          | some rows =>
            exfalso
            have e := rowsL_yes (by rw [← HN.out]; exact HM.out) hM5' hr
            have h := placed_lt (readI_iff.1 hr).placed (rowAt b k) (by rw [e]; exact List.mem_of_getElem? Hrw.out)
            rw [HPl.out, e, rows0_len] at h
            omega)
        clear hpM
        go_wp2_with fail
        go_ret2
        exact ⟨LD.out, .inr ⟨HNo.out, rfl⟩⟩
      · have hpI : ¬ (M : Int) ≤ (p : Int) := by omega
        have hpI2 : (p : Int) < (M : Int) := by omega
        clear hpM
        go_wp2_with (refine wpList_run (by kernel_rfl) (.slice (some ⟨g, o + a, none⟩) 32 (c - a)) wd (y_slice (xv := .slice (some ⟨g, o, none⟩) n c) (lv := some (.int .i64 (a : Int))) (hv := some (.int .i64 ((a : Int) + 32))) (mv := none) rfl (by kernel_rfl) (by kernel_rfl) (by kernel_rfl) rfl HCut.out) ?_)
        refine HT.out.mono ?_
        rintro e w5 ⟨rfl, l5⟩
        have b5 : Blk w5 w.heap.size 9 (strsA (putAt (rows0 b M) k)) := BD.out.below l5 BD.out.lt
        have L5 : Hid (Below w.heap.size w w5) := Lib.hid (LD.out.trans (l5.mono LD.out.size))
        have B5 := Lib.hid b5
        have z5 : w5.frozen? ⟨w.heap.size, p, none⟩ = false := b5.frozen _
        have d5 : ∃ u, w5.cell? ⟨w.heap.size, p, none⟩ = some u := by
          rw [b5.cell, strsA_get, List.getElem?_eq_getElem (by rw [putAt_len, rows0_len]; omega)]
          exact ⟨_, rfl⟩
        obtain ⟨u5, d5⟩ := d5
        have h5lt : w.heap.size < w5.heap.size := b5.lt
        clear l5 b5
        go_wp2_with fail
        go_roundw
        case rel =>
          refine ⟨k + 1, by omega, by go_num, Lib.hid (L5.out.setCell (by simp) _), Lib.hid ?_⟩
          have h := B5.out.set_ p (SV nm)
          rw [strsA_set, ← HNx.out] at h
          exact h
        case measure => simp [intOf]; omega
    · have hkM : k = M := by omega
      subst hkM
      have hou : putAt (rows0 b k) k = outI (rows0 b k) := by unfold outI; rw [rows0_len]
      have hb' := hb.out
      rw [hou] at hb'
      have hol : (outI (rows0 b k)).length = k := by rw [outI_len, rows0_len]
      have hst : StrsR wr (.slice (some ⟨w.heap.size, 0, none⟩) k k) (outI (rows0 b k)) := by have h := blk_strs hb'; rw [hol] at h; exact h
      have hsm : ∀ x ∈ outI (rows0 b k), x.length ≤ maxLen := fun x hx => by have := putAt_small (rows0_sum b k) _ x hx; unfold maxLen; omega
      have HPt := Lib.hid (HPut.out wr _ _ hB.out hst (by rw [hol]; omega) hsm)
      have HB := Lib.hid hB.out; have HSt := Lib.hid hst
      have HNe : Hid (∀ rows, readI b = some rows → rows = rows0 b k) := Lib.hid fun rows hr => rowsL_yes (by rw [← HN.out]; exact HM.out) hM5' hr
      clear hou hb' hol hst hB hb hsm s1 t1 t2 q1 q2
      go_wp2_with fail
      refine HPt.out.mono ?_
      rintro e w6 ⟨l6, ⟨n', hn', rfl⟩ | ⟨hn', rows', A6, N6, c6, hsrt, rfl, hN6, ho6⟩⟩
      · have hne := ne0 (putE_pos hn')
        have HNo : Hid (readI b = none) := Lib.hid (by
          cases hr : readI b with
          | none => rfl
          | some rows =>
            exfalso
            have e := HNe.out rows hr
            have h := (readI_iff.1 hr).putE
            rw [e, hn'] at h; cases h)
        have L6 : Hid (Below w.heap.size w w6) := Lib.hid (HB.out.trans (l6.mono HB.out.size))
        clear l6 hn'
        go_wp2_with fail
        go_ret2
        exact ⟨L6.out, .inr ⟨HNo.out, rfl⟩⟩
      · have L6 : Hid (Below w.heap.size w w6) := Lib.hid (HB.out.trans (l6.mono HB.out.size))
        have h512 := (putE_none.1 hn').1
        have hrd := hsrt.read h512
        obtain ⟨b2, hb2⟩ : ∃ b2, b2 = indexL rows' := ⟨_, rfl⟩
        have hr6 : Rb w6 (.slice A6 N6 c6) b2 := by rw [hb2]; exact Dl.Ow.rb ho6
        have hv6 : Rb w6 (.slice A n c) b := HV.out.below L6.out (Nat.le_refl _)
        have HC1 := Lib.hid (Rb.conv hr6); have HC2 := Lib.hid (Rb.conv hv6)
        have HS6 : Hid (StrsR w6 (.slice (some ⟨w.heap.size, 0, none⟩) k k) (outI (rows0 b k))) := Lib.hid (HSt.out.below l6 (Nat.le_refl _))
        by_cases hbb : b2 = b
        · have hr2 : readI b = some rows' := by rw [← hbb, hb2]; exact hrd
          have HR2 : Hid (readI b = some (rows0 b k)) := Lib.hid (by rw [← HNe.out rows' hr2]; exact hr2)
          have hbq : (b2 == b) = true := beq_iff_eq.2 hbb
          clear l6 h512 hrd hb2 hr6 hv6 hbb hr2 hn' hsrt hN6 ho6
          go_wp2_with (first
            | (refine wpList_run (by kernel_rfl) (.string ⟨b2.toArray⟩) w6 (y_conv (s := .tmp 71) (x := .slice A6 N6 c6) rfl (by kernel_rfl) HC1.out) ?_)
            | (refine wpList_run (by kernel_rfl) (.string ⟨b.toArray⟩) w6 (y_conv (s := .tmp 73) (x := .slice A n c) rfl (by kernel_rfl) HC2.out) ?_))
          go_ret2
          exact ⟨L6.out, .inl ⟨_, _, HR2.out, rfl, HS6.out⟩⟩
        · have HNo : Hid (readI b = none) := Lib.hid (by
            cases hr : readI b with
            | none => rfl
            | some rows =>
              exfalso
              have e := HNe.out rows hr
              have hI := readI_iff.1 hr
              have h := hI.srt
              rw [e] at h
              have e2 := hsrt.uniq h
              exact hbb (by rw [hb2, e2, ← e]; exact hI.eq))
          have hbq : (b2 == b) = false := beq_eq_false_iff_ne.2 hbb
          clear l6 h512 hrd hb2 hr6 hv6 hbb hn' hsrt hN6 ho6
          go_wp2_with (first
            | (refine wpList_run (by kernel_rfl) (.string ⟨b2.toArray⟩) w6 (y_conv (s := .tmp 71) (x := .slice A6 N6 c6) rfl (by kernel_rfl) HC1.out) ?_)
            | (refine wpList_run (by kernel_rfl) (.string ⟨b.toArray⟩) w6 (y_conv (s := .tmp 73) (x := .slice A n c) rfl (by kernel_rfl) HC2.out) ?_))
          go_ret2
          exact ⟨L6.out, .inr ⟨HNo.out, rfl⟩⟩
end Go.Proofs.YtdjmcehoaneekaaDoor.Ix
