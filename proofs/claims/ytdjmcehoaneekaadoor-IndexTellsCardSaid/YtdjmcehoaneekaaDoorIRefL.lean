/-
  The document's All, over what its names gives.
-/
import Derived.Test.YtdjmcehoaneekaaDoorIRefF
import Derived.Test.YtdjmcehoaneekaaDoorIBk0
namespace Go.Proofs.YtdjmcehoaneekaaDoor.Ix
open Go.Proofs.YtdjmcehoaneekaaDoor
open Go Go.RowKit

theorem bcut_32 (W : World) (g o n c i : Nat) (hj : i + 32 ≤ c) : (Instr.sliceAt 23 (.slice (some ⟨g, o, none⟩) n c) (some (.int .i64 (i : Int))) (some (.int .i64 ((i : Int) + 32))) none).run Tryd.prog W = .ok (.slice (some ⟨g, o + i, none⟩) 32 (c - i)) W := by
  have h1 : (i : Int) + 32 ≤ (c : Int) := by omega
  have h2 : (i : Int) ≤ (i : Int) + 32 := by omega
  have h3 : ¬ c = i := by omega
  have h4 : ((i : Int) + 32).toNat = i + 32 := by omega
  have h5 : i + 32 - i = 32 := by omega
  have h6 : (0 : Int) ≤ (i : Int) + 32 := by omega
  simp [go_sem, h1, h3, h4, h5, h6]
theorem rb_32 {w : World} {g o c : Nat} {b : Bs} (h : Rb w (.slice (some ⟨g, o, none⟩) b.length c) b) (i : Nat) (hi : i + 32 ≤ b.length) : Rb w (.slice (some ⟨g, o + i, none⟩) 32 (c - i)) ((b.drop i).take 32) := by
  rcases h with ⟨_, rfl⟩ | ⟨g', o', c', e, hc, hg, hcell⟩
  · simp at hi
  cases e
  have hl : ((b.drop i).take 32).length = 32 := by rw [List.length_take, List.length_drop]; omega
  refine .inr ⟨g, o + i, c - i, by rw [hl], by rw [hl]; omega, hg, fun j hj => ?_⟩
  rw [hl] at hj
  rw [Nat.add_assoc, hcell (i + j) (by omega)]
  simp [List.getD_eq_getElem?_getD, hj]
theorem row_sum {b : Bs} {rows : List Rw} (h : IsI b rows) (k : Nat) (r : Rw) (hk : rows[k]? = some r) : (b.drop (512 + k * 34)).take 32 = r.sum := by
  have h1 := rowAt_index h.fit (fun r hr => by have := placed_lt h.placed r hr; have := h.few; omega) k r hk
  rw [h.eq] at h1
  exact congrArg Rw.sum h1
set_option maxRecDepth 100000 in
set_option maxHeartbeats 4000000 in
theorem RAll_of (w : World) (v : Value) (b : Bs) (hv : Rb w v b) (hl : b.length ≤ 1000000) (h : Calls Tryd.prog 33 #[v] w (NmP b w)) : Calls Tryd.prog 19 #[v] w (AllPost (allB b) w) := by
  have H := Lib.hid (RRight_of w v b h)
  clear h
  obtain ⟨A, c, rfl⟩ := hv.shape
  obtain ⟨n, hn⟩ : ∃ n, n = b.length := ⟨_, rfl⟩
  have HV : Hid (Rb w (.slice A n c) b) := Lib.hid (by rw [hn]; exact hv)
  have HN := Lib.hid hn
  rw [← hn] at H hl ⊢
  clear hv hn
  cases hrd : readI b with
  | none =>
    have h1 := H.out
    rw [hrd] at h1
    have HR : Hid (Calls Tryd.prog 16 #[.slice A n c] w (BoolP false w)) := Lib.hid h1
    have HE : Hid (allB b = []) := Lib.hid (allB_none hrd)
    clear h1 hrd H
    go_enter Tryd.func19, Tryd.ntmps19
    go_wp2_with fail
    refine HR.out.mono ?_
    rintro e w1 ⟨rfl, l1⟩
    have L1 := Lib.hid l1
    clear l1
    go_wp2_with fail
    go_ret
    exact ⟨L1.out, _, rfl, by rw [HE.out]; exact World.ownsRow_nil _ _ _ _⟩
  | some rows =>
    have h1 := H.out
    rw [hrd] at h1
    have HR : Hid (Calls Tryd.prog 16 #[.slice A n c] w (BoolP true w)) := Lib.hid h1
    have HE : Hid (allB b = allI rows) := Lib.hid (allB_some hrd)
    have HI : Hid (IsI b rows) := Lib.hid (readI_iff.1 hrd)
    obtain ⟨N, hNr⟩ : ∃ N, N = rows.length := ⟨_, rfl⟩
    have hN5 : N ≤ 512 := by rw [hNr]; exact HI.out.few
    have hnN : n = 544 + N * 34 := by rw [HN.out, hNr]; exact HI.out.len
    have HnN := Lib.hid hnN; have HNr := Lib.hid hNr
    clear h1 hrd H hNr hnN
    go_enter Tryd.func19, Tryd.ntmps19
    go_wp2_with fail
    refine HR.out.mono ?_
    rintro e w1 ⟨rfl, l1⟩
    have L1 := Lib.hid l1
    clear l1
    go_wp2_with fail
    go_loopw [3, 4] (fun z i wr => ∃ k a : Nat, k ≤ N ∧ a ≤ 20000 ∧ Hid (a = 512 + k * 34) ∧ i = .int .i64 a ∧ Hid (Below w.heap.size w wr) ∧ Hid (OwK 9 1 strC wr w.heap.size z (allI (rows.take k)))) (fun _ i _ => n - (intOf i).toNat)
    case atStart => exact ⟨0, 512, Nat.zero_le _, by omega, Lib.hid rfl, rfl, L1, Lib.hid (World.ownsRow_nil _ _ _ _)⟩
    case round =>
      clear L1
      obtain ⟨k, a, hk, ha5, ha, rfl, hB, hO⟩ := hrel
      by_cases hlt : k < N
      · have hcI : (a : Int) + 66 ≤ (n : Int) := by have := ha.out; have := HnN.out; omega
        rcases HV.out with ⟨_, h0⟩ | ⟨g, o, c', e, hc, hg, _⟩
        · exfalso
          have h := HN.out
          rw [h0] at h
          simp at h
          omega
        obtain rfl : c = c' := by cases e; rfl
        obtain rfl : A = some ⟨g, o, none⟩ := by cases e; rfl
        obtain ⟨r, hr⟩ : ∃ r, rows[k]? = some r := ⟨_, List.getElem?_eq_getElem (by rw [← HNr.out]; exact hlt)⟩
        have hsum := row_sum HI.out k r hr
        rw [← ha.out] at hsum
        have hvr : Rb wr (.slice (some ⟨g, o, none⟩) n c) b := HV.out.below hB.out (Nat.le_refl _)
        have h32 : Rb wr (.slice (some ⟨g, o + a, none⟩) 32 (c - a)) r.sum := by
          rw [← hsum]; exact rb_32 (by rw [← HN.out]; exact hvr) a (by rw [← HN.out]; omega)
        have HT := Lib.hid (Rtold_any wr _ r.sum h32 (by rw [HI.out.fit r (List.mem_of_getElem? hr)]; omega))
        have HCut := Lib.hid (bcut_32 wr g o n c a (by rw [← HN.out] at hc; omega))
        obtain ⟨nm, hnm⟩ : ∃ nm, nm = hexL r.sum := ⟨_, rfl⟩
        rw [← hnm] at HT
        have HSn : Hid (allI (rows.take (k + 1)) = allI (rows.take k) ++ [nm]) := Lib.hid (by rw [hnm]; exact allI_snoc hr)
        have HLen : Hid ((allI (rows.take k)).length + 1 ≤ 1000000) := Lib.hid (by unfold allI; rw [List.length_map, List.length_take]; omega)
        have HB := Lib.hid hB.out; have HO := Lib.hid hO.out; have Ha := Lib.hid ha.out
        clear hB hO ha hr hsum hvr h32 hnm e hc hg
        unfold SV at HT
        go_wp2_with (refine wpList_run (by kernel_rfl) (.slice (some ⟨g, o + a, none⟩) 32 (c - a)) wr (y_slice (xv := .slice (some ⟨g, o, none⟩) n c) (lv := some (.int .i64 (a : Int))) (hv := some (.int .i64 ((a : Int) + 32))) (mv := none) rfl (by kernel_rfl) (by kernel_rfl) (by kernel_rfl) rfl HCut.out) ?_)
        refine HT.out.mono ?_
        rintro e w5 ⟨rfl, l5⟩
        have HZ5 : Hid (OwK 9 1 strC w5 w.heap.size u3 (allI (rows.take k))) := Lib.hid (OwK.below HO.out l5 (Nat.le_refl _))
        have L5 : Hid (Below w.heap.size w w5) := Lib.hid (HB.out.trans (l5.mono HB.out.size))
        have SB : Hid (w.heap.size ≤ w5.heap.size) := Lib.hid L5.out.size
        clear l5 HO
        go_wp2_with (refine wpList_one strE rfl (.tmp 15) (.tmp 22) rfl w.heap.size _ (allI (rows.take k)) nm #[.string ⟨nm.toArray⟩] rfl rfl rfl HZ5.out HLen.out (by decide) SB.out ?_)
        intro v6 w6 o6 l6
        have H1 : Hid (Below w.heap.size w w6) := Lib.hid (L5.out.trans l6)
        have H2 : Hid (OwK 9 1 strC w6 w.heap.size v6 (allI (rows.take (k + 1)))) := Lib.hid (by rw [HSn.out]; exact o6)
        clear l6 o6
        go_wp2
        go_roundw
        case rel => exact ⟨k + 1, a + 34, by omega, by have := Ha.out; omega, Lib.hid (by have := Ha.out; omega), by go_num, H1, H2⟩
        case measure => simp [intOf]; omega
      · have hcI : ¬ (a : Int) + 66 ≤ (n : Int) := by have := ha.out; have := HnN.out; omega
        have HB := Lib.hid hB.out
        have ho := hO.out
        rw [List.take_of_length_le (by rw [← HNr.out]; omega)] at ho
        have HO := Lib.hid ho
        clear hB hO ho
        go_wp2_with fail
        go_ret
        exact ⟨HB.out, _, rfl, by rw [HE.out]; exact HO.out⟩
end Go.Proofs.YtdjmcehoaneekaaDoor.Ix
